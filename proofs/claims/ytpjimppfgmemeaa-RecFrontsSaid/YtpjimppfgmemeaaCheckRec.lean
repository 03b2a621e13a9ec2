/- cashbookref7.CheckRec by its contract: it is checkM. Condition: the record's slices read as lists. -/
import Derived.Test.YtpjimppfgmemeaaSameRec
namespace Go.Proofs.Ytpjimppfgmemeaa
open Go.RowKit

set_option maxHeartbeats 1000000 in
theorem checkRec_any {w : World} {B : Nat} {r : RecM} {D C : Option Addr} {dc cc : Nat} (h : RecRd w B r D dc C cc) (hB : B ≤ w.heap.size) :
    Calls Try.prog 10 #[.agg #[.int .i64 r.type, .slice D r.data.length dc, .slice C r.cuts.length cc, .int .i64 r.at_]] w fun e w' => e = .returned (.int .i64 (checkM r)) ∧ Below w.heap.size w w' := by
  obtain ⟨hd, hc, ⟨d0, d1⟩, ⟨c0, c1⟩, ⟨f0, f1⟩⟩ := h
  obtain ⟨t, data, cuts, at_⟩ := r
  simp only at *
  generalize hdn : data.length = dn at *
  generalize hcn : cuts.length = cn at *
  have HD := Lib.hid hdn
  have HN := Lib.hid hcn
  have c2 : cn ≤ 1000000000000000000 := by omega
  clear hdn hcn
  by_cases h1 : t < 0
  · go_enter Try.func10, Try.ntmps10
    go_wp2
    go_ret
    exact ⟨by simp [checkM, h1], (Below.refl _ _).alloc (Nat.le_refl _) _⟩
  by_cases h2 : 65535 < t
  · go_enter Try.func10, Try.ntmps10
    go_wp2
    go_ret
    exact ⟨by simp [checkM, h2], (Below.refl _ _).alloc (Nat.le_refl _) _⟩
  by_cases h3 : t = 60
  · have HT := Lib.hid h3
    have h3' : (t == 60) = true := by simp [h3]
    clear h3
    go_enter Try.func10, Try.ntmps10
    go_wp2
    go_ret
    exact ⟨by simp [checkM, HT.out], (Below.refl _ _).alloc (Nat.le_refl _) _⟩
  have h3' : (t == 60) = false := by simpa using h3
  by_cases h4 : 65536 < dn
  · have h4' : (65536 : Int) < (dn : Int) := by omega
    go_enter Try.func10, Try.ntmps10
    go_wp2
    go_ret
    exact ⟨by simp [checkM, h1, h2, h3, HD.out, h4], (Below.refl _ _).alloc (Nat.le_refl _) _⟩
  have h4' : ¬ (65536 : Int) < (dn : Int) := by omega
  have HF : Hid (checkM ⟨t, data, cuts, at_⟩ = if riseB 0 dn cuts = false then 6 else if 224 < longM 0 0 dn cuts then 4 else 0) := Lib.hid (by simp [checkM, h1, h2, h3, HD.out, h4])
  go_enter Try.func10, Try.ntmps10
  go_wp2
  have hbl : Below w.heap.size w (w.alloc (.cells #[.int .i64 t, .slice D dn dc, .slice C cn cc, .int .i64 at_] 27)) := (Below.refl _ _).alloc (Nat.le_refl _) _
  have ka : Bk (w.alloc (.cells #[.int .i64 t, .slice D dn dc, .slice C cn cc, .int .i64 at_] 27)) w.heap.size 27 #[.int .i64 t, .slice D dn dc, .slice C cn cc, .int .i64 at_] := Bk.new w _ _
  have hcW := hc.belowMono hbl hB
  generalize w.alloc (.cells #[.int .i64 t, .slice D dn dc, .slice C cn cc, .int .i64 at_] 27) = W at *
  have a1 : W.cell? ⟨w.heap.size, 1, none⟩ = some (.slice D dn dc) := ka.cell 1
  have a2 : W.cell? ⟨w.heap.size, 2, none⟩ = some (.slice C cn cc) := ka.cell 2
  clear ka hc hd
  go_loopw [3, 4] (fun last i wr => ∃ (k d : Nat) (q : Int), k ≤ cn ∧ i = .int .i64 k ∧ last = .int .i64 q ∧ wr = W.drewN d ∧ Hid (riseB 0 dn cuts = riseB q dn (cuts.drop k))) (fun _ i _ => cn - (intOf i).toNat)
  case atStart => exact ⟨0, 0, 0, Nat.zero_le _, rfl, rfl, rfl, Lib.hid rfl⟩
  case round =>
    obtain ⟨k, d, q, hk, rfl, rfl, rfl, HE⟩ := hrel
    by_cases hkn : k < cn
    · obtain ⟨a, x, rfl, _, hx, _, hdr⟩ := hcW.intAt hkn
      have HE1 : Hid (riseB 0 dn cuts = riseB q dn (x :: cuts.drop (k + 1))) := Lib.hid (by rw [HE.out, hdr])
      clear hdr HE hcW
      have hkn' : (k : Int) < (cn : Int) := by omega
      by_cases x1 : x ≤ q
      · have hb : decide (x ≤ q) = true := by simpa using x1
        have HZ : Hid (checkM ⟨t, data, cuts, at_⟩ = 6) := Lib.hid (by rw [HF.out, if_pos (by rw [HE1.out]; simp [riseB, x1])])
        clear HF HE1
        go_wp2
        go_quiet (fail)
        go_wp2
        go_ret
        exact ⟨by rw [HZ.out]; rfl, below_drewN (below_drewN hbl _) _⟩
      · have hb : decide (x ≤ q) = false := by simpa using x1
        by_cases x2 : (dn : Int) ≤ x
        · have hb2 : decide ((dn : Int) ≤ x) = true := by simpa using x2
          have HZ : Hid (checkM ⟨t, data, cuts, at_⟩ = 6) := Lib.hid (by rw [HF.out, if_pos (by rw [HE1.out]; simp [riseB, x2])])
          clear HF HE1
          go_wp2
          go_quiet (fail)
          go_wp2
          go_ret
          exact ⟨by rw [HZ.out]; rfl, below_drewN (below_drewN hbl _) _⟩
        · have hb2 : decide ((dn : Int) ≤ x) = false := by simpa using x2
          have HE2 : Hid (riseB 0 dn cuts = riseB x dn (cuts.drop (k + 1))) := Lib.hid (by rw [HE1.out]; simp [riseB, x1, x2])
          clear HE1
          go_wp2
          go_quiet (fail)
          go_wp2
          go_roundw
          case rel => exact ⟨k + 1, _, x, by omega, by go_num, rfl, rfl, HE2⟩
          case measure => simp [intOf]; omega
    · have hkk : k = cn := by omega
      subst hkk
      have hrise : riseB 0 dn cuts = true := by rw [HE.out, List.drop_eq_nil_of_le (by rw [HN.out]; exact Nat.le_refl _)]; rfl
      have HR := Lib.hid hrise
      have hl := longM_short (size := dn) cuts 0 0
      have HG0 : Hid (shortB 0 dn cuts → checkM ⟨t, data, cuts, at_⟩ = 0) := Lib.hid fun hs => by
        rw [HF.out, if_neg (by rw [hrise]; simp), if_neg (by have := hl.2 ⟨by omega, hs⟩; omega)]
      have HG4 : Hid (¬ shortB 0 dn cuts → checkM ⟨t, data, cuts, at_⟩ = 4) := Lib.hid fun hs => by
        rw [HF.out, if_neg (by rw [hrise]; simp), if_pos]
        rcases Int.lt_or_le 224 (longM 0 0 dn cuts) with h | h
        · exact h
        · exact absurd (hl.1 h).2 hs
      clear HF HE hrise hl
      go_wp2
      go_loopw [3, 5] (fun last i wr => ∃ (m : Nat) (q : Int), m ≤ k ∧ i = .int .i64 m ∧ last = .int .i64 q ∧ 0 ≤ q ∧ q ≤ dn ∧ wr = W.drewN d ∧ Hid (shortB 0 dn cuts ↔ shortB q dn (cuts.drop m)) ∧ Hid (riseB q dn (cuts.drop m) = true)) (fun _ i _ => k - (intOf i).toNat)
      case atStart => exact ⟨0, 0, Nat.zero_le _, rfl, rfl, Int.le_refl _, by omega, rfl, Lib.hid Iff.rfl, HR⟩
      case round =>
        obtain ⟨m, q, hm, rfl, rfl, q0, q1, rfl, HS, HR2⟩ := hrel
        by_cases hmk : m < k
        · obtain ⟨a, x, rfl, _, hx, _, hdr⟩ := hcW.intAt hmk
          have HS1 : Hid (shortB 0 dn cuts ↔ x - q ≤ 224 ∧ shortB x dn (cuts.drop (m + 1))) := Lib.hid (by rw [HS.out, hdr]; exact Iff.rfl)
          have hr2 := HR2.out
          rw [hdr] at hr2
          obtain ⟨x0, x1, hr3⟩ := riseB_cons hr2
          have HR3 := Lib.hid hr3
          have hmk' : (m : Int) < (k : Int) := by omega
          clear hdr HS hcW hr2 hr3 HR2 HR
          by_cases hlong : 224 < x - q
          · have HZ := Lib.hid (HG4.out fun h => by have := (HS1.out.1 h).1; omega)
            clear HG0 HG4 HS1
            go_wp2
            go_ret
            exact ⟨by rw [HZ.out]; rfl, below_drewN hbl _⟩
          · have HS2 : Hid (shortB 0 dn cuts ↔ shortB x dn (cuts.drop (m + 1))) := Lib.hid (by rw [HS1.out]; exact ⟨fun h => h.2, fun h => ⟨by omega, h⟩⟩)
            clear HS1 HG0 HG4
            go_wp2
            go_roundw
            case rel => exact ⟨m + 1, x, by omega, by go_num, rfl, by omega, by omega, by first | rfl | trivial, HS2, HR3⟩
            case measure => simp [intOf]; omega
        · have hmk' : ¬ (m : Int) < (k : Int) := by omega
          have HS1 : Hid (shortB 0 dn cuts ↔ (dn : Int) - q ≤ 224) := Lib.hid (by rw [HS.out, List.drop_eq_nil_of_le (by rw [HN.out]; omega)]; exact Iff.rfl)
          clear HS hcW HR2 HR
          by_cases hlong : 224 < (dn : Int) - q
          · have HZ := Lib.hid (HG4.out fun h => by have := HS1.out.1 h; omega)
            clear HG0 HG4 HS1
            go_wp2
            go_ret
            exact ⟨by rw [HZ.out]; rfl, below_drewN hbl _⟩
          · have HZ := Lib.hid (HG0.out (HS1.out.2 (by omega)))
            clear HG0 HG4 HS1
            go_wp2
            go_ret
            exact ⟨by rw [HZ.out]; rfl, below_drewN hbl _⟩
end Go.Proofs.Ytpjimppfgmemeaa
