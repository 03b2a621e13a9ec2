/- ref.Parse by its contract. Condition: the text is not too long. -/
import Derived.Test.YtgjijjdpkmdcgaaDoorTe
import Derived.Laws.RangeAny
import Derived.Lib.RuneCount
namespace Go.Proofs.YtgjijjdpkmdcgaaDoor
open Go.RowKit Go.Lib

theorem pv_none : pR none = 0 ∧ pC none = 0 ∧ pE none = 2 := ⟨rfl, rfl, rfl⟩
theorem pv_zero (c : Nat) : pR (some (0, c)) = 0 ∧ pC (some (0, c)) = 0 ∧ pE (some (0, c)) = 2 := ⟨rfl, rfl, rfl⟩
theorem pv_far {r c : Nat} (h0 : r ≠ 0) (h : 65536 < r ∨ 256 < c) : pR (some (r, c)) = 0 ∧ pC (some (r, c)) = 0 ∧ pE (some (r, c)) = 12 := by
  have e := pE_far h0 h
  exact ⟨(pR_no (by rw [e]; decide)).1, (pR_no (by rw [e]; decide)).2, e⟩
theorem pv_ok {r c : Nat} (h0 : r ≠ 0) (h : ¬ (65536 < r ∨ 256 < c)) : pR (some (r, c)) = (r : Int) - 1 ∧ pC (some (r, c)) = (c : Int) - 1 ∧ pE (some (r, c)) = 0 := by
  obtain ⟨e1, e2, e3⟩ := pR_yes h0 h
  exact ⟨e2, e3, e1⟩
/-- What Parse hands back. -/
def parV (R C E : Int) : Value := .tuple #[.agg #[.int .i64 R, .int .i64 C], .int .i64 E]
theorem drop_at (s : ByteArray) (pos : Nat) (h : pos < s.size) : s.data.toList.drop pos = (s[pos]'h) :: s.data.toList.drop (pos + 1) := by
  have h2 : pos < s.data.toList.length := by simpa using h
  rw [List.drop_eq_getElem_cons h2]
  rfl
theorem stp_let {r c : Nat} {x : UInt8} (h : 65 ≤ x.toNat ∧ x.toNat ≤ 90) (hr : r = 0) : stp r c x = some (0, min (c * 26 + (x.toNat - 64)) 257) := by
  unfold stp
  rw [if_pos ⟨by simpa [isL] using h, hr⟩]
theorem stp_dig {r c : Nat} {x : UInt8} (h : 48 ≤ x.toNat ∧ x.toNat ≤ 57) (hc : 0 < c) (hr : 0 < r ∨ x.toNat ≠ 48) : stp r c x = some (min (r * 10 + (x.toNat - 48)) 65537, c) := by
  unfold stp
  rw [if_neg (by simp [isL]; omega), if_pos ⟨by simpa [isD] using h, hc, hr.imp id fun h e => h (by rw [e]; rfl)⟩]
theorem stp_no {r c : Nat} {x : UInt8} (h1 : ¬ ((65 ≤ x.toNat ∧ x.toNat ≤ 90) ∧ r = 0)) (h2 : ¬ ((48 ≤ x.toNat ∧ x.toNat ≤ 57) ∧ 0 < c ∧ (0 < r ∨ x.toNat ≠ 48))) : stp r c x = none := by
  unfold stp
  rw [if_neg (by simpa [isL] using h1), if_neg (by
    rintro ⟨a, b, d⟩
    exact h2 ⟨by simpa [isD] using a, b, d.imp id fun h e => h (UInt8.toNat_inj.1 e)⟩)]

set_option maxHeartbeats 8000000 in
set_option maxRecDepth 100000 in
theorem parse_any {w : World} (s : ByteArray) (hs : s.size ≤ 140737488355328) :
    Calls Tryd.prog 27 #[.string s] w fun e w' => e = .returned (parV (pR (mach (0, 0) s.data.toList)) (pC (mach (0, 0) s.data.toList)) (pE (mach (0, 0) s.data.toList))) ∧ Below w.heap.size w w' := by
  obtain ⟨M, hM⟩ : ∃ M, mach (0, 0) s.data.toList = M := ⟨_, rfl⟩
  rw [hM]
  have H0 := Lib.hid hM
  clear hM
  obtain ⟨R, hR⟩ : ∃ R, pR M = R := ⟨_, rfl⟩
  obtain ⟨C, hC⟩ : ∃ C, pC M = C := ⟨_, rfl⟩
  obtain ⟨E, hE⟩ : ∃ E, pE M = E := ⟨_, rfl⟩
  rw [hR, hC, hE]
  have HV := Lib.hid (show pR M = R ∧ pC M = C ∧ pE M = E from ⟨hR, hC, hE⟩)
  clear hR hC hE
  unfold parV
  have HW := Lib.hid (sb1 w 25 #[.int .i64 0, .int .i64 0])
  go_enter Tryd.func27, Tryd.ntmps27
  go_wp2
  obtain ⟨w1, hw1⟩ : ∃ w1, w.alloc (.cells #[.int .i64 0, .int .i64 0] 25) = w1 := ⟨_, rfl⟩
  have hsz1 : w1.heap.size = w.heap.size + 1 := by rw [← hw1]; simp
  have HSZ1 := Lib.hid hsz1
  rw [hw1] at HW ⊢
  clear hw1
  rw [← hsz1]
  clear hsz1
  go_loopw [4, 5] (fun row col w' => ∃ pos r c : Nat, w' = w1.iter s pos ∧ row = .int .i64 r ∧ col = .int .i64 c ∧ r ≤ 65537 ∧ c ≤ 257 ∧ Hid (mach (r, c) (s.data.toList.drop pos) = M) ∧ pos ≤ s.size) (fun _ _ w' => s.size - w'.iterPos w1.heap.size)
  case atStart => exact ⟨0, 0, 0, rfl, rfl, rfl, by omega, by omega, Lib.hid (by rw [List.drop_zero]; exact H0.out), by omega⟩
  case round =>
    obtain ⟨pos, r, c, rfl, rfl, rfl, hr, hc, HM, hp0⟩ := hrel
    have hB : SB w 1 [(w.heap.size, 25, #[.int .i64 0, .int .i64 0])] (w1.iter s pos) := HW.out.made _
    by_cases hp : pos < s.size
    · have hnx : ∀ ty, (Instr.next (.pointer (some ⟨w1.heap.size, 0, none⟩)) true ty).run Tryd.prog (w1.iter s pos) = _ := fun ty => run_next_any w1 s pos ty hp
      have hB2 : SB w 1 [(w.heap.size, 25, #[.int .i64 0, .int .i64 0])] (w1.iter s (pos + (Utf8.decode s pos).2)) := HW.out.made _
      have hd := drop_at s pos hp
      obtain ⟨x, hx⟩ : ∃ x, s[pos] = x := ⟨_, rfl⟩
      have hlow : x.toNat < 128 → (Utf8.decode s pos).1 = x.toNat ∧ (Utf8.decode s pos).2 = 1 := fun ha => by rw [decode_ascii s pos hp (by rw [hx]; exact ha), hx]; exact ⟨rfl, rfl⟩
      have hhigh : 128 ≤ x.toNat → 128 ≤ (Utf8.decode s pos).1 := fun ha => (decode_high s pos hp (by rw [hx]; exact ha)).1
      have hmx := decode_le s pos
      rw [hx] at hd
      have hm : (stp r c x).bind (fun s' => mach s' (s.data.toList.drop (pos + 1))) = M := by have := HM.out; rw [hd] at this; exact this
      have hwd : x.toNat < 128 → (Utf8.decode s pos).2 = 1 := fun h => (hlow h).2
      generalize hv : (Utf8.decode s pos).1 = v at *
      generalize hk : (Utf8.decode s pos).2 = k at *
      have HLT := Lib.hid (fun W : World => letter_any (w := W) (v : Int))
      have HDG := Lib.hid (fun W : World => digit_any (w := W) (v : Int))
      by_cases hl : 65 ≤ v ∧ v ≤ 90
      · have hx128 : x.toNat < 128 := by rcases Nat.lt_or_ge x.toNat 128 with h | h; exact h; have := hhigh h; omega
        obtain ⟨rfl, rfl⟩ : v = x.toNat ∧ k = 1 := hlow hx128
        rw [decide_eq_true (show (65 : Int) ≤ (x.toNat : Int) ∧ (x.toNat : Int) ≤ 90 by omega)] at HLT
        rw [decide_eq_false (show ¬ ((48 : Int) ≤ (x.toNat : Int) ∧ (x.toNat : Int) ≤ 57) by omega)] at HDG
        by_cases hr0 : r = 0
        · subst hr0
          rw [stp_let hl rfl] at hm
          have HM2 := Lib.hid (show mach (0, min (c * 26 + (x.toNat - 64)) 257) (s.data.toList.drop (pos + 1)) = M from hm)
          have hg := grow_any (w := w1.iter s (pos + 1)) c 26 (x.toNat - 64) 256 (by omega) (by omega) (by omega) (by omega)
          rw [show ((x.toNat - 64 : Nat) : Int) = (x.toNat : Int) - 65 + 1 by omega] at hg
          have HG := Lib.hid hg
          have hmn : min (c * 26 + (x.toNat - 64)) 257 ≤ 257 := Nat.min_le_right _ _
          obtain ⟨c2, hc2⟩ : ∃ c2, min (c * 26 + (x.toNat - 64)) 257 = c2 := ⟨_, rfl⟩
          rw [show 256 + 1 = 257 from rfl, hc2] at HG
          rw [hc2] at HM2 hmn
          clear hm hg hlow hhigh hwd hd hx hc2 HM hv hk hB hB2 HDG H0 HV
          go_wp2_with fail
          refine (HLT.out _).mono ?_
          rintro e w2 ⟨rfl, rfl⟩
          go_wp2_with fail
          refine HG.out.mono ?_
          rintro e w2 ⟨rfl, rfl⟩
          go_wp2
          go_roundw
          case rel => exact ⟨pos + 1, 0, c2, rfl, rfl, rfl, by omega, hmn, HM2, by omega⟩
          case measure =>
            simp
            omega
        · rw [stp_no (by omega) (by omega)] at hm
          have hM : M = none := hm.symm
          have hv := HV.out
          rw [hM] at hv
          obtain ⟨rfl, rfl, rfl⟩ : R = 0 ∧ C = 0 ∧ E = 2 := by
            obtain ⟨v1, v2, v3⟩ := hv
            rw [← v1, ← v2, ← v3]
            exact pv_none
          clear hv HV
          have hr0' : ((r : Int) == 0) = false := by simp; omega
          clear hm hlow hhigh hwd hd hx HM hv hk hB H0 hM
          have hB := hB2
          clear hB2
          have kb := hB.box (i := 0) rfl
          have f0 := kb.cell 0
          have f1 := kb.cell 1
          have z0 := kb.frozen 0
          have z1 := kb.frozen 1
          clear kb
          go_wp2_with fail
          refine (HLT.out _).mono ?_
          rintro e w2 ⟨rfl, rfl⟩
          go_wp2_with fail
          refine (HDG.out _).mono ?_
          rintro e w2 ⟨rfl, rfl⟩
          go_wp2
          have hF := hB.put2 (g := w.heap.size) (i := 0) rfl (Nat.le_refl _) (by intro q hq; cases hq) (.int .i64 0) (.int .i64 0)
          have kz := hF.box (i := 0) rfl
          have r0 := kz.cell 0
          have r1 := kz.cell 1
          clear kz f0 f1 z0 z1
          exact bodyPost_ret (v := .tuple #[.agg #[.int .i64 0, .int .i64 0], .int .i64 2]) (by simp [results, Tryd.results27, go_sem, r0, r1]) rfl ⟨rfl, hF.bel⟩
      · rw [decide_eq_false (show ¬ ((65 : Int) ≤ (v : Int) ∧ (v : Int) ≤ 90) by omega)] at HLT
        by_cases hg : 48 ≤ v ∧ v ≤ 57
        · have hx128 : x.toNat < 128 := by rcases Nat.lt_or_ge x.toNat 128 with h | h; exact h; have := hhigh h; omega
          obtain ⟨rfl, rfl⟩ : v = x.toNat ∧ k = 1 := hlow hx128
          rw [decide_eq_true (show (48 : Int) ≤ (x.toNat : Int) ∧ (x.toNat : Int) ≤ 57 by omega)] at HDG
          by_cases hc0 : 0 < c
          · have hc0' : (0 : Int) < (c : Int) := by omega
            by_cases hrr : 0 < r ∨ x.toNat ≠ 48
            · rw [stp_dig hg hc0 hrr] at hm
              have HM2 := Lib.hid (show mach (min (r * 10 + (x.toNat - 48)) 65537, c) (s.data.toList.drop (pos + 1)) = M from hm)
              have hgg := grow_any (w := w1.iter s (pos + 1)) r 10 (x.toNat - 48) 65536 (by omega) (by omega) (by omega) (by omega)
              rw [show ((x.toNat - 48 : Nat) : Int) = (x.toNat : Int) - 48 by omega] at hgg
              have HG := Lib.hid hgg
              have hmn : min (r * 10 + (x.toNat - 48)) 65537 ≤ 65537 := Nat.min_le_right _ _
              obtain ⟨r2, hr2⟩ : ∃ r2, min (r * 10 + (x.toNat - 48)) 65537 = r2 := ⟨_, rfl⟩
              rw [show 65536 + 1 = 65537 from rfl, hr2] at HG
              rw [hr2] at HM2 hmn
              clear hm hgg hlow hhigh hwd hd hx hr2 HM hv hk hB hB2 H0 HV
              by_cases hrp : 0 < r
              · have hrp' : (0 : Int) < (r : Int) := by omega
                go_wp2_with fail
                refine (HLT.out _).mono ?_
                rintro e w2 ⟨rfl, rfl⟩
                go_wp2_with fail
                refine (HDG.out _).mono ?_
                rintro e w2 ⟨rfl, rfl⟩
                go_wp2_with fail
                refine HG.out.mono ?_
                rintro e w2 ⟨rfl, rfl⟩
                go_wp2
                go_roundw
                case rel => exact ⟨pos + 1, r2, c, rfl, rfl, rfl, hmn, by omega, HM2, by omega⟩
                case measure =>
                  simp
                  omega
              · have hrp' : ¬ (0 : Int) < (r : Int) := by omega
                have h48 : ((x.toNat : Int) != 48) = true := by simp; omega
                go_wp2_with fail
                refine (HLT.out _).mono ?_
                rintro e w2 ⟨rfl, rfl⟩
                go_wp2_with fail
                refine (HDG.out _).mono ?_
                rintro e w2 ⟨rfl, rfl⟩
                go_wp2_with fail
                refine HG.out.mono ?_
                rintro e w2 ⟨rfl, rfl⟩
                go_wp2
                go_roundw
                case rel => exact ⟨pos + 1, r2, c, rfl, rfl, rfl, hmn, by omega, HM2, by omega⟩
                case measure =>
                  simp
                  omega
            · rw [stp_no (by omega) (by omega)] at hm
              have hM : M = none := hm.symm
              have hv := HV.out
              rw [hM] at hv
              obtain ⟨rfl, rfl, rfl⟩ : R = 0 ∧ C = 0 ∧ E = 2 := by
                obtain ⟨v1, v2, v3⟩ := hv
                rw [← v1, ← v2, ← v3]
                exact pv_none
              clear hv HV
              have hrp' : ¬ (0 : Int) < (r : Int) := by omega
              have h48 : ((x.toNat : Int) != 48) = false := by simp; omega
              clear hm hlow hhigh hwd hd hx HM hv hk hB H0 hM
              have hB := hB2
              clear hB2
              have kb := hB.box (i := 0) rfl
              have f0 := kb.cell 0
              have f1 := kb.cell 1
              have z0 := kb.frozen 0
              have z1 := kb.frozen 1
              clear kb
              go_wp2_with fail
              refine (HLT.out _).mono ?_
              rintro e w2 ⟨rfl, rfl⟩
              go_wp2_with fail
              refine (HDG.out _).mono ?_
              rintro e w2 ⟨rfl, rfl⟩
              go_wp2
              have hF := hB.put2 (g := w.heap.size) (i := 0) rfl (Nat.le_refl _) (by intro q hq; cases hq) (.int .i64 0) (.int .i64 0)
              have kz := hF.box (i := 0) rfl
              have r0 := kz.cell 0
              have r1 := kz.cell 1
              clear kz f0 f1 z0 z1
              exact bodyPost_ret (v := .tuple #[.agg #[.int .i64 0, .int .i64 0], .int .i64 2]) (by simp [results, Tryd.results27, go_sem, r0, r1]) rfl ⟨rfl, hF.bel⟩
          · rw [stp_no (by omega) (by omega)] at hm
            have hM : M = none := hm.symm
            have hv := HV.out
            rw [hM] at hv
            obtain ⟨rfl, rfl, rfl⟩ : R = 0 ∧ C = 0 ∧ E = 2 := by
              obtain ⟨v1, v2, v3⟩ := hv
              rw [← v1, ← v2, ← v3]
              exact pv_none
            clear hv HV
            have hc0' : ¬ (0 : Int) < (c : Int) := by omega
            clear hm hlow hhigh hwd hd hx HM hv hk hB H0 hM
            have hB := hB2
            clear hB2
            have kb := hB.box (i := 0) rfl
            have f0 := kb.cell 0
            have f1 := kb.cell 1
            have z0 := kb.frozen 0
            have z1 := kb.frozen 1
            clear kb
            go_wp2_with fail
            refine (HLT.out _).mono ?_
            rintro e w2 ⟨rfl, rfl⟩
            go_wp2_with fail
            refine (HDG.out _).mono ?_
            rintro e w2 ⟨rfl, rfl⟩
            go_wp2
            have hF := hB.put2 (g := w.heap.size) (i := 0) rfl (Nat.le_refl _) (by intro q hq; cases hq) (.int .i64 0) (.int .i64 0)
            have kz := hF.box (i := 0) rfl
            have r0 := kz.cell 0
            have r1 := kz.cell 1
            clear kz f0 f1 z0 z1
            exact bodyPost_ret (v := .tuple #[.agg #[.int .i64 0, .int .i64 0], .int .i64 2]) (by simp [results, Tryd.results27, go_sem, r0, r1]) rfl ⟨rfl, hF.bel⟩
        · rw [decide_eq_false (show ¬ ((48 : Int) ≤ (v : Int) ∧ (v : Int) ≤ 57) by omega)] at HDG
          have hno : stp r c x = none := by
            rcases Nat.lt_or_ge x.toNat 128 with h | h
            · have := (hlow h).1
              exact stp_no (by omega) (by omega)
            · exact stp_no (by omega) (by omega)
          rw [hno] at hm
          have hM : M = none := hm.symm
          have hv := HV.out
          rw [hM] at hv
          obtain ⟨rfl, rfl, rfl⟩ : R = 0 ∧ C = 0 ∧ E = 2 := by
            obtain ⟨v1, v2, v3⟩ := hv
            rw [← v1, ← v2, ← v3]
            exact pv_none
          clear hv HV
          clear hm hlow hhigh hwd hd hx HM hv hk hB H0 hM hno
          have hB := hB2
          clear hB2
          have kb := hB.box (i := 0) rfl
          have f0 := kb.cell 0
          have f1 := kb.cell 1
          have z0 := kb.frozen 0
          have z1 := kb.frozen 1
          clear kb
          go_wp2_with fail
          refine (HLT.out _).mono ?_
          rintro e w2 ⟨rfl, rfl⟩
          go_wp2_with fail
          refine (HDG.out _).mono ?_
          rintro e w2 ⟨rfl, rfl⟩
          go_wp2
          have hF := hB.put2 (g := w.heap.size) (i := 0) rfl (Nat.le_refl _) (by intro q hq; cases hq) (.int .i64 0) (.int .i64 0)
          have kz := hF.box (i := 0) rfl
          have r0 := kz.cell 0
          have r1 := kz.cell 1
          clear kz f0 f1 z0 z1
          exact bodyPost_ret (v := .tuple #[.agg #[.int .i64 0, .int .i64 0], .int .i64 2]) (by simp [results, Tryd.results27, go_sem, r0, r1]) rfl ⟨rfl, hF.bel⟩
    · have hnx : ∀ ty, (Instr.next (.pointer (some ⟨w1.heap.size, 0, none⟩)) true ty).run Tryd.prog (w1.iter s pos) = _ := fun ty => run_next_end w1 s pos ty hp
      have hM : M = some (r, c) := by
        have := HM.out
        rw [List.drop_of_length_le (by simp; omega)] at this
        exact this.symm
      clear HM H0
      by_cases hr0 : r = 0
      · subst hr0
        have hv := HV.out
        rw [hM] at hv
        obtain ⟨rfl, rfl, rfl⟩ : R = 0 ∧ C = 0 ∧ E = 2 := by
          obtain ⟨v1, v2, v3⟩ := hv
          rw [← v1, ← v2, ← v3]
          exact pv_zero c
        clear hv HV
        clear hM
        have kb := hB.box (i := 0) rfl
        have f0 := kb.cell 0
        have f1 := kb.cell 1
        have z0 := kb.frozen 0
        have z1 := kb.frozen 1
        clear kb
        go_wp2
        have hF := hB.put2 (g := w.heap.size) (i := 0) rfl (Nat.le_refl _) (by intro q hq; cases hq) (.int .i64 0) (.int .i64 0)
        have kz := hF.box (i := 0) rfl
        have r0 := kz.cell 0
        have r1 := kz.cell 1
        clear kz f0 f1 z0 z1
        exact bodyPost_ret (v := .tuple #[.agg #[.int .i64 0, .int .i64 0], .int .i64 2]) (by simp [results, Tryd.results27, go_sem, r0, r1]) rfl ⟨rfl, hF.bel⟩
      · have hr0' : ((r : Int) == 0) = false := by simp; omega
        by_cases hrb : 65536 < r
        · have hrb' : (65536 : Int) < (r : Int) := by omega
          have hv := HV.out
          rw [hM] at hv
          obtain ⟨rfl, rfl, rfl⟩ : R = 0 ∧ C = 0 ∧ E = 12 := by
            obtain ⟨v1, v2, v3⟩ := hv
            rw [← v1, ← v2, ← v3]
            exact pv_far hr0 (.inl hrb)
          clear hv HV
          clear hM
          have kb := hB.box (i := 0) rfl
          have f0 := kb.cell 0
          have f1 := kb.cell 1
          have z0 := kb.frozen 0
          have z1 := kb.frozen 1
          clear kb
          go_wp2
          have hF := hB.put2 (g := w.heap.size) (i := 0) rfl (Nat.le_refl _) (by intro q hq; cases hq) (.int .i64 0) (.int .i64 0)
          have kz := hF.box (i := 0) rfl
          have r0 := kz.cell 0
          have r1 := kz.cell 1
          clear kz f0 f1 z0 z1
          exact bodyPost_ret (v := .tuple #[.agg #[.int .i64 0, .int .i64 0], .int .i64 12]) (by simp [results, Tryd.results27, go_sem, r0, r1]) rfl ⟨rfl, hF.bel⟩
        · have hrb' : ¬ (65536 : Int) < (r : Int) := by omega
          by_cases hcb : 256 < c
          · have hcb' : (256 : Int) < (c : Int) := by omega
            have hv := HV.out
            rw [hM] at hv
            obtain ⟨rfl, rfl, rfl⟩ : R = 0 ∧ C = 0 ∧ E = 12 := by
              obtain ⟨v1, v2, v3⟩ := hv
              rw [← v1, ← v2, ← v3]
              exact pv_far hr0 (.inr hcb)
            clear hv HV
            clear hM
            have kb := hB.box (i := 0) rfl
            have f0 := kb.cell 0
            have f1 := kb.cell 1
            have z0 := kb.frozen 0
            have z1 := kb.frozen 1
            clear kb
            go_wp2
            have hF := hB.put2 (g := w.heap.size) (i := 0) rfl (Nat.le_refl _) (by intro q hq; cases hq) (.int .i64 0) (.int .i64 0)
            have kz := hF.box (i := 0) rfl
            have r0 := kz.cell 0
            have r1 := kz.cell 1
            clear kz f0 f1 z0 z1
            exact bodyPost_ret (v := .tuple #[.agg #[.int .i64 0, .int .i64 0], .int .i64 12]) (by simp [results, Tryd.results27, go_sem, r0, r1]) rfl ⟨rfl, hF.bel⟩
          · have hcb' : ¬ (256 : Int) < (c : Int) := by omega
            have hv := HV.out
            rw [hM] at hv
            obtain ⟨rfl, rfl, rfl⟩ : R = (r : Int) - 1 ∧ C = (c : Int) - 1 ∧ E = 0 := by
              obtain ⟨v1, v2, v3⟩ := hv
              rw [← v1, ← v2, ← v3]
              exact pv_ok hr0 (by omega)
            clear hv HV
            clear hM
            have kb := hB.box (i := 0) rfl
            have f0 := kb.cell 0
            have f1 := kb.cell 1
            have z0 := kb.frozen 0
            have z1 := kb.frozen 1
            clear kb
            go_wp2
            have hF := hB.put2 (g := w.heap.size) (i := 0) rfl (Nat.le_refl _) (by intro q hq; cases hq) (.int .i64 ((r : Int) - 1)) (.int .i64 ((c : Int) - 1))
            have kz := hF.box (i := 0) rfl
            have r0 := kz.cell 0
            have r1 := kz.cell 1
            clear kz f0 f1 z0 z1
            exact bodyPost_ret (v := .tuple #[.agg #[.int .i64 ((r : Int) - 1), .int .i64 ((c : Int) - 1)], .int .i64 0]) (by simp [results, Tryd.results27, go_sem, r0, r1]) rfl ⟨rfl, hF.bel⟩
end Go.Proofs.YtgjijjdpkmdcgaaDoor
