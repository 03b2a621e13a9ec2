/- The reference's ParseCell by its contract. Condition: the text is not too long. -/
import Derived.Test.YtgjijjdpkmdcgaaDoorPa
namespace Go.Proofs.YtgjijjdpkmdcgaaDoor
open Go.RowKit Go.Lib

set_option maxHeartbeats 8000000 in
set_option maxRecDepth 100000 in
theorem bParse_any {w : World} (s : ByteArray) (hs : s.size ≤ 140737488355328) :
    Calls Tryd.prog 28 #[.string s] w fun e w' => e = .returned (parV (pR (mach (0, 0) s.data.toList)) (pC (mach (0, 0) s.data.toList)) (pE (mach (0, 0) s.data.toList))) ∧ Below w.heap.size w w' := by
  obtain ⟨M, hM⟩ : ∃ M, mach (0, 0) s.data.toList = M := ⟨_, rfl⟩
  rw [hM]
  have H0 := Lib.hid hM
  clear hM
  obtain ⟨R, hR⟩ : ∃ R, pR M = R := ⟨_, rfl⟩
  obtain ⟨C, hC⟩ : ∃ C, pC M = C := ⟨_, rfl⟩
  obtain ⟨E, hE⟩ : ∃ E, pE M = E := ⟨_, rfl⟩
  rw [hR, hC, hE]
  have HV := Lib.hid (show pR M = R ∧ pC M = C ∧ pE M = E from ⟨hR, hC, hE⟩)
  clear hR hC hE
  unfold parV
  have HW := Lib.hid (sb1 w 34 #[.int .i64 0, .int .i64 0])
  go_enter Tryd.func28, Tryd.ntmps28
  go_wp2
  generalize w.alloc (.cells #[.int .i64 0, .int .i64 0] 34) = w1 at *
  go_loop [4, 5] (fun i c => ∃ n m : Nat, i = .int .i64 n ∧ c = .int .i64 m ∧ n ≤ s.size ∧ m ≤ 2600027 ∧ ((n = 0 ∧ m = 0) ∨ (0 < n ∧ 0 < m)) ∧ Hid (mach (0, min m 257) (s.data.toList.drop n) = M)) (fun i _ => s.size - (Go.RowKit.intOf i).toNat)
  case atStart => exact ⟨0, 0, rfl, rfl, by omega, by omega, .inl ⟨rfl, rfl⟩, Lib.hid (by rw [List.drop_zero]; exact H0.out)⟩
  case round =>
    obtain ⟨i, c, rfl, rfl, hi1, hcm, hic, HM⟩ := hrel
    have hB : SB w 1 [(w.heap.size, 34, #[.int .i64 0, .int .i64 0])] w1 := HW.out
    by_cases hi : i < s.size
    · have hi' : (i : Int) < (s.size : Int) := by omega
      by_cases h65 : 65 ≤ (s[i]).toNat
      · have h65' : (65 : Int) ≤ ((s[i]).toNat : Int) := by omega
        by_cases h90 : (s[i]).toNat ≤ 90
        · have h90' : ((s[i]).toNat : Int) ≤ 90 := by omega
          have hm : mach (0, min (min c 257 * 26 + ((s[i]).toNat - 64)) 257) (s.data.toList.drop (i + 1)) = M := by
            have := HM.out
            rw [drop_at s i hi] at this
            unfold mach at this
            simp only [stp_let (c := min c 257) ⟨h65, h90⟩ rfl, Option.bind_some] at this
            exact this
          by_cases hb : c < 100000
          · have hb' : (c : Int) < 100000 := by omega
            have HM3 : Hid (mach (0, min (26 * c + ((s[i]).toNat - 65) + 1) 257) (s.data.toList.drop (i + 1)) = M) := Lib.hid (by
              rw [show min (26 * c + ((s[i]).toNat - 65) + 1) 257 = min (min c 257 * 26 + ((s[i]).toNat - 64)) 257 by omega]
              exact hm)
            clear hm HM hB H0 HV
            go_wp2
            go_round
            case rel => exact ⟨i + 1, 26 * c + ((s[i]).toNat - 65) + 1, by go_num, by rw [show ((26 * c + ((s[i]).toNat - 65) + 1 : Nat) : Int) = 26 * (c : Int) + (((s[i]).toNat : Int) - 65) + 1 by omega], by omega, by omega, by omega, HM3⟩
            case measure => simp [Go.RowKit.intOf]; omega
          · have hb' : ¬ (c : Int) < 100000 := by omega
            have HM3 : Hid (mach (0, min c 257) (s.data.toList.drop (i + 1)) = M) := Lib.hid (by
              rw [show min c 257 = min (min c 257 * 26 + ((s[i]).toNat - 64)) 257 by omega]
              exact hm)
            clear hm HM hB H0 HV
            go_wp2
            go_round
            case rel => exact ⟨i + 1, c, by go_num, by first | rfl | trivial, by omega, by omega, by omega, HM3⟩
            case measure => simp [Go.RowKit.intOf]; omega
        · have h90' : ¬ ((s[i]).toNat : Int) ≤ 90 := by omega
          have hnl : ¬ (65 ≤ (s[i]).toNat ∧ (s[i]).toNat ≤ 90) := fun h => h90 h.2
          by_cases hi0 : i = 0
          · have hc0 : c = 0 := by omega
            have hM : M = none := by
              have := HM.out
              rw [hi0, hc0] at this
              have hd := drop_at s 0 (by omega)
              rw [hd] at this
              simp only [hi0] at hnl
              rw [show min 0 257 = 0 from rfl] at this
              have hn : stp 0 0 s[0] = none := stp_no (fun h => hnl h.1) (fun h => by omega)
              unfold mach at this
              simp only [hn] at this
              exact this.symm
            have hi0' : ((i : Int) == 0) = true := by simp; omega
            clear HM H0 hnl hi0 hc0
            have hv := HV.out
            rw [hM] at hv
            obtain ⟨rfl, rfl, rfl⟩ : R = 0 ∧ C = 0 ∧ E = 2 := by
              obtain ⟨v1, v2, v3⟩ := hv
              rw [← v1, ← v2, ← v3]
              exact pv_none
            clear hv HV
            clear hM
            have kb := hB.box (i := 0) rfl
            have f0 := kb.cell 0
            have f1 := kb.cell 1
            have z0 := kb.frozen 0
            have z1 := kb.frozen 1
            clear kb
            go_wp2
            have hF := hB.put2 (g := w.heap.size) (i := 0) rfl (Nat.le_refl _) (by intro q hq; cases hq) (.int .i64 0) (.int .i64 0)
            have kz := hF.box (i := 0) rfl
            have r0 := kz.cell 0
            have r1 := kz.cell 1
            clear kz f0 f1 z0 z1
            exact bodyPost_ret (v := .tuple #[.agg #[.int .i64 0, .int .i64 0], .int .i64 2]) (by simp [results, Tryd.results28, go_sem, r0, r1]) rfl ⟨rfl, hF.bel⟩
          · have hi0' : ((i : Int) == 0) = false := by simp; omega
            have his : ((i : Int) == (s.size : Int)) = false := by simp; omega
            by_cases h48 : (s[i]).toNat = 48
            · have h48' : (((s[i]).toNat : Int) == 48) = true := by simp; omega
              have hM : M = none := by
                have := HM.out
                rw [drop_at s i hi] at this
                have hn : stp 0 (min c 257) s[i] = none := stp_no (by omega) (by omega)
                unfold mach at this
                simp only [hn] at this
                exact this.symm
              clear HM H0 hnl h48
              have hv := HV.out
              rw [hM] at hv
              obtain ⟨rfl, rfl, rfl⟩ : R = 0 ∧ C = 0 ∧ E = 2 := by
                obtain ⟨v1, v2, v3⟩ := hv
                rw [← v1, ← v2, ← v3]
                exact pv_none
              clear hv HV
              clear hM
              have kb := hB.box (i := 0) rfl
              have f0 := kb.cell 0
              have f1 := kb.cell 1
              have z0 := kb.frozen 0
              have z1 := kb.frozen 1
              clear kb
              go_wp2
              have hF := hB.put2 (g := w.heap.size) (i := 0) rfl (Nat.le_refl _) (by intro q hq; cases hq) (.int .i64 0) (.int .i64 0)
              have kz := hF.box (i := 0) rfl
              have r0 := kz.cell 0
              have r1 := kz.cell 1
              clear kz f0 f1 z0 z1
              exact bodyPost_ret (v := .tuple #[.agg #[.int .i64 0, .int .i64 0], .int .i64 2]) (by simp [results, Tryd.results28, go_sem, r0, r1]) rfl ⟨rfl, hF.bel⟩
            · have h48' : (((s[i]).toNat : Int) == 48) = false := by simp; omega
              have HI := Lib.hid (show ¬ (65 ≤ (s[i]).toNat ∧ (s[i]).toNat ≤ 90) ∧ (s[i]).toNat ≠ 48 from ⟨hnl, h48⟩)
              have hcp : 0 < c := by omega
              clear hnl h48 hic hi0
              have kb := hB.box (i := 0) rfl
              have f0 := kb.cell 0
              have f1 := kb.cell 1
              have z0 := kb.frozen 0
              have z1 := kb.frozen 1
              clear kb
              go_wp2
              go_loop [6, 7] (fun row kk => ∃ (j r : Nat), row = .int .i64 r ∧ kk = .int .i64 j ∧ i ≤ j ∧ j ≤ s.size ∧ r ≤ 10000010 ∧ Hid (mach (min r 65537, min c 257) (s.data.toList.drop j) = M) ∧ Hid (r = 0 → j = i)) (fun _ kk => s.size - (Go.RowKit.intOf kk).toNat)
              case atStart => exact ⟨i, 0, rfl, rfl, by omega, by omega, by omega, HM, Lib.hid (fun _ => rfl)⟩
              case round =>
                obtain ⟨j, r, rfl, rfl, hij, hj, hr, HM2, HR⟩ := hrel
                by_cases hp : j < s.size
                · have hp' : (j : Int) < (s.size : Int) := by omega
                  have hd := drop_at s j hp
                  have hm : (stp (min r 65537) (min c 257) s[j]).bind (fun s' => mach s' (s.data.toList.drop (j + 1))) = M := by have := HM2.out; rw [hd] at this; exact this
                  have hi48 : r = 0 → ¬ (65 ≤ (s[j]).toNat ∧ (s[j]).toNat ≤ 90) ∧ (s[j]).toNat ≠ 48 := fun h0 => by
                    have hji := HR.out h0
                    subst hji
                    exact HI.out
                  clear hd
                  by_cases h0 : 48 ≤ (s[j]).toNat
                  · by_cases h9 : (s[j]).toNat ≤ 57
                    · rw [stp_dig ⟨h0, h9⟩ (by omega) (by
                        rcases Nat.eq_zero_or_pos r with h | h
                        · exact .inr (hi48 h).2
                        · exact .inl (by omega))] at hm
                      have h0' : ¬ ((s[j]).toNat : Int) < 48 := by omega
                      have h9' : ¬ (57 : Int) < ((s[j]).toNat : Int) := by omega
                      by_cases hb : r < 1000000
                      · have hb' : (r : Int) < 1000000 := by omega
                        have HM3 : Hid (mach (min (10 * r + ((s[j]).toNat - 48)) 65537, min c 257) (s.data.toList.drop (j + 1)) = M) := Lib.hid (by
                          rw [show min (10 * r + ((s[j]).toNat - 48)) 65537 = min (min r 65537 * 10 + ((s[j]).toNat - 48)) 65537 by omega]
                          exact hm)
                        have HR3 : Hid (10 * r + ((s[j]).toNat - 48) = 0 → j + 1 = i) := Lib.hid (fun h => by
                          have := hi48 (by omega)
                          omega)
                        clear hm hi48 HM2 HR H0 HV
                        go_wp2
                        go_round
                        case rel => exact ⟨j + 1, 10 * r + ((s[j]).toNat - 48), by rw [show ((10 * r + ((s[j]).toNat - 48) : Nat) : Int) = 10 * (r : Int) + (((s[j]).toNat : Int) - 48) by omega], by go_num, by omega, by omega, by omega, HM3, HR3⟩
                        case measure => simp [Go.RowKit.intOf]; omega
                      · have hb' : ¬ (r : Int) < 1000000 := by omega
                        have HM3 : Hid (mach (min r 65537, min c 257) (s.data.toList.drop (j + 1)) = M) := Lib.hid (by
                          rw [show min r 65537 = min (min r 65537 * 10 + ((s[j]).toNat - 48)) 65537 by omega]
                          exact hm)
                        have HR3 : Hid (r = 0 → j + 1 = i) := Lib.hid (fun h => by omega)
                        clear hm hi48 HM2 HR H0 HV
                        go_wp2
                        go_round
                        case rel => exact ⟨j + 1, r, by first | rfl | trivial, by go_num, by omega, by omega, by omega, HM3, HR3⟩
                        case measure => simp [Go.RowKit.intOf]; omega
                    · rw [stp_no (fun h => (hi48 (by omega)).1 h.1) (by omega)] at hm
                      have hM : M = none := hm.symm
                      have h0' : ¬ ((s[j]).toNat : Int) < 48 := by omega
                      have h9' : (57 : Int) < ((s[j]).toNat : Int) := by omega
                      clear hm hi48 HM2 HR H0
                      have hv := HV.out
                      rw [hM] at hv
                      obtain ⟨rfl, rfl, rfl⟩ : R = 0 ∧ C = 0 ∧ E = 2 := by
                        obtain ⟨v1, v2, v3⟩ := hv
                        rw [← v1, ← v2, ← v3]
                        exact pv_none
                      clear hv HV
                      clear hM
                      have kb := hB.box (i := 0) rfl
                      have f0 := kb.cell 0
                      have f1 := kb.cell 1
                      have z0 := kb.frozen 0
                      have z1 := kb.frozen 1
                      clear kb
                      go_wp2
                      have hF := hB.put2 (g := w.heap.size) (i := 0) rfl (Nat.le_refl _) (by intro q hq; cases hq) (.int .i64 0) (.int .i64 0)
                      have kz := hF.box (i := 0) rfl
                      have r0 := kz.cell 0
                      have r1 := kz.cell 1
                      clear kz f0 f1 z0 z1
                      exact bodyPost_ret (v := .tuple #[.agg #[.int .i64 0, .int .i64 0], .int .i64 2]) (by simp [results, Tryd.results28, go_sem, r0, r1]) rfl ⟨rfl, hF.bel⟩
                  · rw [stp_no (fun h => (hi48 (by omega)).1 h.1) (by omega)] at hm
                    have hM : M = none := hm.symm
                    have h0' : ((s[j]).toNat : Int) < 48 := by omega
                    clear hm hi48 HM2 HR H0
                    have hv := HV.out
                    rw [hM] at hv
                    obtain ⟨rfl, rfl, rfl⟩ : R = 0 ∧ C = 0 ∧ E = 2 := by
                      obtain ⟨v1, v2, v3⟩ := hv
                      rw [← v1, ← v2, ← v3]
                      exact pv_none
                    clear hv HV
                    clear hM
                    have kb := hB.box (i := 0) rfl
                    have f0 := kb.cell 0
                    have f1 := kb.cell 1
                    have z0 := kb.frozen 0
                    have z1 := kb.frozen 1
                    clear kb
                    go_wp2
                    have hF := hB.put2 (g := w.heap.size) (i := 0) rfl (Nat.le_refl _) (by intro q hq; cases hq) (.int .i64 0) (.int .i64 0)
                    have kz := hF.box (i := 0) rfl
                    have r0 := kz.cell 0
                    have r1 := kz.cell 1
                    clear kz f0 f1 z0 z1
                    exact bodyPost_ret (v := .tuple #[.agg #[.int .i64 0, .int .i64 0], .int .i64 2]) (by simp [results, Tryd.results28, go_sem, r0, r1]) rfl ⟨rfl, hF.bel⟩
                · have hp' : ¬ (j : Int) < (s.size : Int) := by omega
                  have hjs : j = s.size := by omega
                  have hM : M = some (min r 65537, min c 257) := by
                    have := HM2.out
                    rw [List.drop_of_length_le (by simp; omega)] at this
                    exact this.symm
                  have hr0 : r ≠ 0 := fun h => by have := HR.out h; omega
                  clear HM2 HR H0 hjs
                  have HG := Lib.hid (fun W : World => bGood_any (w := W) ((r : Int) - 1) ((c : Int) - 1))
                  have HM4 := Lib.hid hM
                  clear hM
                  by_cases hgd : r ≤ 65536 ∧ c ≤ 256
                  · rw [show gdB ((r : Int) - 1) ((c : Int) - 1) = true from gdB_iff.2 ⟨by omega, by omega, by omega, by omega⟩] at HG
                    have hv := HV.out
                    rw [HM4.out, show min r 65537 = r by omega, show min c 257 = c by omega] at hv
                    obtain ⟨rfl, rfl, rfl⟩ : R = (r : Int) - 1 ∧ C = (c : Int) - 1 ∧ E = 0 := by
                      obtain ⟨v1, v2, v3⟩ := hv
                      rw [← v1, ← v2, ← v3]
                      exact pv_ok hr0 (by omega)
                    clear hv HV HM4
                    go_wp2_with fail
                    refine (HG.out _).mono ?_
                    rintro e w2 ⟨rfl, hb⟩
                    have hB2 := (hB.alloc 34 #[.int .i64 ((r : Int) - 1), .int .i64 ((c : Int) - 1)]).call hb
                    have g2 := hB.size
                    have ky := hB2.box (i := 0) rfl
                    have y0 := ky.cell 0
                    have y1 := ky.cell 1
                    have kx := hB2.box (i := 1) rfl
                    have x0 := kx.cell 0
                    have x1 := kx.cell 1
                    have zx0 := kx.frozen 0
                    have zx1 := kx.frozen 1
                    clear ky kx hb HG
                    go_wp2
                    have hF := hB2.put2 (g := w.heap.size) (i := 1) rfl (Nat.le_refl _) (by simp [butBox]; omega) (.int .i64 ((r : Int) - 1)) (.int .i64 ((c : Int) - 1))
                    have kz := hF.box (i := 1) rfl
                    have r0 := kz.cell 0
                    have r1 := kz.cell 1
                    clear kz y0 y1 x0 x1 zx0 zx1
                    exact bodyPost_ret (v := .tuple #[.agg #[.int .i64 ((r : Int) - 1), .int .i64 ((c : Int) - 1)], .int .i64 0]) (by simp [results, Tryd.results28, go_sem, r0, r1]) rfl ⟨rfl, hF.bel⟩
                  · rw [show gdB ((r : Int) - 1) ((c : Int) - 1) = false from gdB_no (by omega)] at HG
                    have hv := HV.out
                    rw [HM4.out] at hv
                    obtain ⟨rfl, rfl, rfl⟩ : R = 0 ∧ C = 0 ∧ E = 12 := by
                      obtain ⟨v1, v2, v3⟩ := hv
                      rw [← v1, ← v2, ← v3]
                      exact pv_far (by omega) (by omega)
                    clear hv HV HM4
                    go_wp2_with fail
                    refine (HG.out _).mono ?_
                    rintro e w2 ⟨rfl, hb⟩
                    have hB2 := (hB.alloc 34 #[.int .i64 ((r : Int) - 1), .int .i64 ((c : Int) - 1)]).call hb
                    have g2 := hB.size
                    have kx := hB2.box (i := 1) rfl
                    have x0 := kx.cell 0
                    have x1 := kx.cell 1
                    have zx0 := kx.frozen 0
                    have zx1 := kx.frozen 1
                    clear kx hb HG
                    go_wp2
                    have hF := hB2.put2 (g := w.heap.size) (i := 1) rfl (Nat.le_refl _) (by simp [butBox]; omega) (.int .i64 0) (.int .i64 0)
                    have kz := hF.box (i := 1) rfl
                    have r0 := kz.cell 0
                    have r1 := kz.cell 1
                    clear kz x0 x1 zx0 zx1
                    exact bodyPost_ret (v := .tuple #[.agg #[.int .i64 0, .int .i64 0], .int .i64 12]) (by simp [results, Tryd.results28, go_sem, r0, r1]) rfl ⟨rfl, hF.bel⟩
      · have h65' : ¬ (65 : Int) ≤ ((s[i]).toNat : Int) := by omega
        have hnl : ¬ (65 ≤ (s[i]).toNat ∧ (s[i]).toNat ≤ 90) := fun h => h65 h.1
        by_cases hi0 : i = 0
        · have hc0 : c = 0 := by omega
          have hM : M = none := by
            have := HM.out
            rw [hi0, hc0] at this
            have hd := drop_at s 0 (by omega)
            rw [hd] at this
            simp only [hi0] at hnl
            rw [show min 0 257 = 0 from rfl] at this
            have hn : stp 0 0 s[0] = none := stp_no (fun h => hnl h.1) (fun h => by omega)
            unfold mach at this
            simp only [hn] at this
            exact this.symm
          have hi0' : ((i : Int) == 0) = true := by simp; omega
          clear HM H0 hnl hi0 hc0
          have hv := HV.out
          rw [hM] at hv
          obtain ⟨rfl, rfl, rfl⟩ : R = 0 ∧ C = 0 ∧ E = 2 := by
            obtain ⟨v1, v2, v3⟩ := hv
            rw [← v1, ← v2, ← v3]
            exact pv_none
          clear hv HV
          clear hM
          have kb := hB.box (i := 0) rfl
          have f0 := kb.cell 0
          have f1 := kb.cell 1
          have z0 := kb.frozen 0
          have z1 := kb.frozen 1
          clear kb
          go_wp2
          have hF := hB.put2 (g := w.heap.size) (i := 0) rfl (Nat.le_refl _) (by intro q hq; cases hq) (.int .i64 0) (.int .i64 0)
          have kz := hF.box (i := 0) rfl
          have r0 := kz.cell 0
          have r1 := kz.cell 1
          clear kz f0 f1 z0 z1
          exact bodyPost_ret (v := .tuple #[.agg #[.int .i64 0, .int .i64 0], .int .i64 2]) (by simp [results, Tryd.results28, go_sem, r0, r1]) rfl ⟨rfl, hF.bel⟩
        · have hi0' : ((i : Int) == 0) = false := by simp; omega
          have his : ((i : Int) == (s.size : Int)) = false := by simp; omega
          by_cases h48 : (s[i]).toNat = 48
          · have h48' : (((s[i]).toNat : Int) == 48) = true := by simp; omega
            have hM : M = none := by
              have := HM.out
              rw [drop_at s i hi] at this
              have hn : stp 0 (min c 257) s[i] = none := stp_no (by omega) (by omega)
              unfold mach at this
              simp only [hn] at this
              exact this.symm
            clear HM H0 hnl h48
            have hv := HV.out
            rw [hM] at hv
            obtain ⟨rfl, rfl, rfl⟩ : R = 0 ∧ C = 0 ∧ E = 2 := by
              obtain ⟨v1, v2, v3⟩ := hv
              rw [← v1, ← v2, ← v3]
              exact pv_none
            clear hv HV
            clear hM
            have kb := hB.box (i := 0) rfl
            have f0 := kb.cell 0
            have f1 := kb.cell 1
            have z0 := kb.frozen 0
            have z1 := kb.frozen 1
            clear kb
            go_wp2
            have hF := hB.put2 (g := w.heap.size) (i := 0) rfl (Nat.le_refl _) (by intro q hq; cases hq) (.int .i64 0) (.int .i64 0)
            have kz := hF.box (i := 0) rfl
            have r0 := kz.cell 0
            have r1 := kz.cell 1
            clear kz f0 f1 z0 z1
            exact bodyPost_ret (v := .tuple #[.agg #[.int .i64 0, .int .i64 0], .int .i64 2]) (by simp [results, Tryd.results28, go_sem, r0, r1]) rfl ⟨rfl, hF.bel⟩
          · have h48' : (((s[i]).toNat : Int) == 48) = false := by simp; omega
            have HI := Lib.hid (show ¬ (65 ≤ (s[i]).toNat ∧ (s[i]).toNat ≤ 90) ∧ (s[i]).toNat ≠ 48 from ⟨hnl, h48⟩)
            have hcp : 0 < c := by omega
            clear hnl h48 hic hi0
            have kb := hB.box (i := 0) rfl
            have f0 := kb.cell 0
            have f1 := kb.cell 1
            have z0 := kb.frozen 0
            have z1 := kb.frozen 1
            clear kb
            go_wp2
            go_loop [6, 7] (fun row kk => ∃ (j r : Nat), row = .int .i64 r ∧ kk = .int .i64 j ∧ i ≤ j ∧ j ≤ s.size ∧ r ≤ 10000010 ∧ Hid (mach (min r 65537, min c 257) (s.data.toList.drop j) = M) ∧ Hid (r = 0 → j = i)) (fun _ kk => s.size - (Go.RowKit.intOf kk).toNat)
            case atStart => exact ⟨i, 0, rfl, rfl, by omega, by omega, by omega, HM, Lib.hid (fun _ => rfl)⟩
            case round =>
              obtain ⟨j, r, rfl, rfl, hij, hj, hr, HM2, HR⟩ := hrel
              by_cases hp : j < s.size
              · have hp' : (j : Int) < (s.size : Int) := by omega
                have hd := drop_at s j hp
                have hm : (stp (min r 65537) (min c 257) s[j]).bind (fun s' => mach s' (s.data.toList.drop (j + 1))) = M := by have := HM2.out; rw [hd] at this; exact this
                have hi48 : r = 0 → ¬ (65 ≤ (s[j]).toNat ∧ (s[j]).toNat ≤ 90) ∧ (s[j]).toNat ≠ 48 := fun h0 => by
                  have hji := HR.out h0
                  subst hji
                  exact HI.out
                clear hd
                by_cases h0 : 48 ≤ (s[j]).toNat
                · by_cases h9 : (s[j]).toNat ≤ 57
                  · rw [stp_dig ⟨h0, h9⟩ (by omega) (by
                      rcases Nat.eq_zero_or_pos r with h | h
                      · exact .inr (hi48 h).2
                      · exact .inl (by omega))] at hm
                    have h0' : ¬ ((s[j]).toNat : Int) < 48 := by omega
                    have h9' : ¬ (57 : Int) < ((s[j]).toNat : Int) := by omega
                    by_cases hb : r < 1000000
                    · have hb' : (r : Int) < 1000000 := by omega
                      have HM3 : Hid (mach (min (10 * r + ((s[j]).toNat - 48)) 65537, min c 257) (s.data.toList.drop (j + 1)) = M) := Lib.hid (by
                        rw [show min (10 * r + ((s[j]).toNat - 48)) 65537 = min (min r 65537 * 10 + ((s[j]).toNat - 48)) 65537 by omega]
                        exact hm)
                      have HR3 : Hid (10 * r + ((s[j]).toNat - 48) = 0 → j + 1 = i) := Lib.hid (fun h => by
                        have := hi48 (by omega)
                        omega)
                      clear hm hi48 HM2 HR H0 HV
                      go_wp2
                      go_round
                      case rel => exact ⟨j + 1, 10 * r + ((s[j]).toNat - 48), by rw [show ((10 * r + ((s[j]).toNat - 48) : Nat) : Int) = 10 * (r : Int) + (((s[j]).toNat : Int) - 48) by omega], by go_num, by omega, by omega, by omega, HM3, HR3⟩
                      case measure => simp [Go.RowKit.intOf]; omega
                    · have hb' : ¬ (r : Int) < 1000000 := by omega
                      have HM3 : Hid (mach (min r 65537, min c 257) (s.data.toList.drop (j + 1)) = M) := Lib.hid (by
                        rw [show min r 65537 = min (min r 65537 * 10 + ((s[j]).toNat - 48)) 65537 by omega]
                        exact hm)
                      have HR3 : Hid (r = 0 → j + 1 = i) := Lib.hid (fun h => by omega)
                      clear hm hi48 HM2 HR H0 HV
                      go_wp2
                      go_round
                      case rel => exact ⟨j + 1, r, by first | rfl | trivial, by go_num, by omega, by omega, by omega, HM3, HR3⟩
                      case measure => simp [Go.RowKit.intOf]; omega
                  · rw [stp_no (fun h => (hi48 (by omega)).1 h.1) (by omega)] at hm
                    have hM : M = none := hm.symm
                    have h0' : ¬ ((s[j]).toNat : Int) < 48 := by omega
                    have h9' : (57 : Int) < ((s[j]).toNat : Int) := by omega
                    clear hm hi48 HM2 HR H0
                    have hv := HV.out
                    rw [hM] at hv
                    obtain ⟨rfl, rfl, rfl⟩ : R = 0 ∧ C = 0 ∧ E = 2 := by
                      obtain ⟨v1, v2, v3⟩ := hv
                      rw [← v1, ← v2, ← v3]
                      exact pv_none
                    clear hv HV
                    clear hM
                    have kb := hB.box (i := 0) rfl
                    have f0 := kb.cell 0
                    have f1 := kb.cell 1
                    have z0 := kb.frozen 0
                    have z1 := kb.frozen 1
                    clear kb
                    go_wp2
                    have hF := hB.put2 (g := w.heap.size) (i := 0) rfl (Nat.le_refl _) (by intro q hq; cases hq) (.int .i64 0) (.int .i64 0)
                    have kz := hF.box (i := 0) rfl
                    have r0 := kz.cell 0
                    have r1 := kz.cell 1
                    clear kz f0 f1 z0 z1
                    exact bodyPost_ret (v := .tuple #[.agg #[.int .i64 0, .int .i64 0], .int .i64 2]) (by simp [results, Tryd.results28, go_sem, r0, r1]) rfl ⟨rfl, hF.bel⟩
                · rw [stp_no (fun h => (hi48 (by omega)).1 h.1) (by omega)] at hm
                  have hM : M = none := hm.symm
                  have h0' : ((s[j]).toNat : Int) < 48 := by omega
                  clear hm hi48 HM2 HR H0
                  have hv := HV.out
                  rw [hM] at hv
                  obtain ⟨rfl, rfl, rfl⟩ : R = 0 ∧ C = 0 ∧ E = 2 := by
                    obtain ⟨v1, v2, v3⟩ := hv
                    rw [← v1, ← v2, ← v3]
                    exact pv_none
                  clear hv HV
                  clear hM
                  have kb := hB.box (i := 0) rfl
                  have f0 := kb.cell 0
                  have f1 := kb.cell 1
                  have z0 := kb.frozen 0
                  have z1 := kb.frozen 1
                  clear kb
                  go_wp2
                  have hF := hB.put2 (g := w.heap.size) (i := 0) rfl (Nat.le_refl _) (by intro q hq; cases hq) (.int .i64 0) (.int .i64 0)
                  have kz := hF.box (i := 0) rfl
                  have r0 := kz.cell 0
                  have r1 := kz.cell 1
                  clear kz f0 f1 z0 z1
                  exact bodyPost_ret (v := .tuple #[.agg #[.int .i64 0, .int .i64 0], .int .i64 2]) (by simp [results, Tryd.results28, go_sem, r0, r1]) rfl ⟨rfl, hF.bel⟩
              · have hp' : ¬ (j : Int) < (s.size : Int) := by omega
                have hjs : j = s.size := by omega
                have hM : M = some (min r 65537, min c 257) := by
                  have := HM2.out
                  rw [List.drop_of_length_le (by simp; omega)] at this
                  exact this.symm
                have hr0 : r ≠ 0 := fun h => by have := HR.out h; omega
                clear HM2 HR H0 hjs
                have HG := Lib.hid (fun W : World => bGood_any (w := W) ((r : Int) - 1) ((c : Int) - 1))
                have HM4 := Lib.hid hM
                clear hM
                by_cases hgd : r ≤ 65536 ∧ c ≤ 256
                · rw [show gdB ((r : Int) - 1) ((c : Int) - 1) = true from gdB_iff.2 ⟨by omega, by omega, by omega, by omega⟩] at HG
                  have hv := HV.out
                  rw [HM4.out, show min r 65537 = r by omega, show min c 257 = c by omega] at hv
                  obtain ⟨rfl, rfl, rfl⟩ : R = (r : Int) - 1 ∧ C = (c : Int) - 1 ∧ E = 0 := by
                    obtain ⟨v1, v2, v3⟩ := hv
                    rw [← v1, ← v2, ← v3]
                    exact pv_ok hr0 (by omega)
                  clear hv HV HM4
                  go_wp2_with fail
                  refine (HG.out _).mono ?_
                  rintro e w2 ⟨rfl, hb⟩
                  have hB2 := (hB.alloc 34 #[.int .i64 ((r : Int) - 1), .int .i64 ((c : Int) - 1)]).call hb
                  have g2 := hB.size
                  have ky := hB2.box (i := 0) rfl
                  have y0 := ky.cell 0
                  have y1 := ky.cell 1
                  have kx := hB2.box (i := 1) rfl
                  have x0 := kx.cell 0
                  have x1 := kx.cell 1
                  have zx0 := kx.frozen 0
                  have zx1 := kx.frozen 1
                  clear ky kx hb HG
                  go_wp2
                  have hF := hB2.put2 (g := w.heap.size) (i := 1) rfl (Nat.le_refl _) (by simp [butBox]; omega) (.int .i64 ((r : Int) - 1)) (.int .i64 ((c : Int) - 1))
                  have kz := hF.box (i := 1) rfl
                  have r0 := kz.cell 0
                  have r1 := kz.cell 1
                  clear kz y0 y1 x0 x1 zx0 zx1
                  exact bodyPost_ret (v := .tuple #[.agg #[.int .i64 ((r : Int) - 1), .int .i64 ((c : Int) - 1)], .int .i64 0]) (by simp [results, Tryd.results28, go_sem, r0, r1]) rfl ⟨rfl, hF.bel⟩
                · rw [show gdB ((r : Int) - 1) ((c : Int) - 1) = false from gdB_no (by omega)] at HG
                  have hv := HV.out
                  rw [HM4.out] at hv
                  obtain ⟨rfl, rfl, rfl⟩ : R = 0 ∧ C = 0 ∧ E = 12 := by
                    obtain ⟨v1, v2, v3⟩ := hv
                    rw [← v1, ← v2, ← v3]
                    exact pv_far (by omega) (by omega)
                  clear hv HV HM4
                  go_wp2_with fail
                  refine (HG.out _).mono ?_
                  rintro e w2 ⟨rfl, hb⟩
                  have hB2 := (hB.alloc 34 #[.int .i64 ((r : Int) - 1), .int .i64 ((c : Int) - 1)]).call hb
                  have g2 := hB.size
                  have kx := hB2.box (i := 1) rfl
                  have x0 := kx.cell 0
                  have x1 := kx.cell 1
                  have zx0 := kx.frozen 0
                  have zx1 := kx.frozen 1
                  clear kx hb HG
                  go_wp2
                  have hF := hB2.put2 (g := w.heap.size) (i := 1) rfl (Nat.le_refl _) (by simp [butBox]; omega) (.int .i64 0) (.int .i64 0)
                  have kz := hF.box (i := 1) rfl
                  have r0 := kz.cell 0
                  have r1 := kz.cell 1
                  clear kz x0 x1 zx0 zx1
                  exact bodyPost_ret (v := .tuple #[.agg #[.int .i64 0, .int .i64 0], .int .i64 12]) (by simp [results, Tryd.results28, go_sem, r0, r1]) rfl ⟨rfl, hF.bel⟩
    · have hi' : ¬ (i : Int) < (s.size : Int) := by omega
      have hM : M = some (0, min c 257) := by
        have := HM.out
        rw [List.drop_of_length_le (by simp; omega)] at this
        exact this.symm
      clear HM H0
      by_cases hi0 : i = 0
      · have hi0' : ((i : Int) == 0) = true := by simp; omega
        clear hi0
        have hv := HV.out
        rw [hM] at hv
        obtain ⟨rfl, rfl, rfl⟩ : R = 0 ∧ C = 0 ∧ E = 2 := by
          obtain ⟨v1, v2, v3⟩ := hv
          rw [← v1, ← v2, ← v3]
          exact pv_zero _
        clear hv HV
        clear hM
        have kb := hB.box (i := 0) rfl
        have f0 := kb.cell 0
        have f1 := kb.cell 1
        have z0 := kb.frozen 0
        have z1 := kb.frozen 1
        clear kb
        go_wp2
        have hF := hB.put2 (g := w.heap.size) (i := 0) rfl (Nat.le_refl _) (by intro q hq; cases hq) (.int .i64 0) (.int .i64 0)
        have kz := hF.box (i := 0) rfl
        have r0 := kz.cell 0
        have r1 := kz.cell 1
        clear kz f0 f1 z0 z1
        exact bodyPost_ret (v := .tuple #[.agg #[.int .i64 0, .int .i64 0], .int .i64 2]) (by simp [results, Tryd.results28, go_sem, r0, r1]) rfl ⟨rfl, hF.bel⟩
      · have hi0' : ((i : Int) == 0) = false := by simp; omega
        have his : ((i : Int) == (s.size : Int)) = true := by simp; omega
        clear hi0
        have hv := HV.out
        rw [hM] at hv
        obtain ⟨rfl, rfl, rfl⟩ : R = 0 ∧ C = 0 ∧ E = 2 := by
          obtain ⟨v1, v2, v3⟩ := hv
          rw [← v1, ← v2, ← v3]
          exact pv_zero _
        clear hv HV
        clear hM
        have kb := hB.box (i := 0) rfl
        have f0 := kb.cell 0
        have f1 := kb.cell 1
        have z0 := kb.frozen 0
        have z1 := kb.frozen 1
        clear kb
        go_wp2
        have hF := hB.put2 (g := w.heap.size) (i := 0) rfl (Nat.le_refl _) (by intro q hq; cases hq) (.int .i64 0) (.int .i64 0)
        have kz := hF.box (i := 0) rfl
        have r0 := kz.cell 0
        have r1 := kz.cell 1
        clear kz f0 f1 z0 z1
        exact bodyPost_ret (v := .tuple #[.agg #[.int .i64 0, .int .i64 0], .int .i64 2]) (by simp [results, Tryd.results28, go_sem, r0, r1]) rfl ⟨rfl, hF.bel⟩
end Go.Proofs.YtgjijjdpkmdcgaaDoor
