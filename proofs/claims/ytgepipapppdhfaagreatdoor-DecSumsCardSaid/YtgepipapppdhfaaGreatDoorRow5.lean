/- The reference's less by its contract. Condition: the digits read as such, no noughts at the ends. -/
import Derived.Test.YtgepipapppdhfaaGreatDoorRow3
namespace Go.Proofs.YtgepipapppdhfaaGreatDoor
open Go.RowKit

theorem drop_same {a b : List Nat} {j : Nat} (hl : a.length = b.length) (hj : j < a.length) (h : a.drop (j + 1) = b.drop (j + 1)) (he : a.getD j 0 = b.getD j 0) : a.drop j = b.drop j := by
  have hb : j < b.length := by omega
  rw [List.drop_eq_getElem_cons hj, List.drop_eq_getElem_cons hb, h]
  simp only [List.getD, List.getElem?_eq_getElem hj, List.getElem?_eq_getElem hb, Option.getD_some] at he
  rw [he]
set_option maxHeartbeats 1000000 in
theorem less_any {w : World} {n c n' c' : Nat} {A A' : Option Addr} {a b : List Nat} (ha : Rd w w.heap.size 1 A n (dcs a)) (hb : Rd w w.heap.size 1 A' n' (dcs b)) (da : Digs a) (db : Digs b) (na : Neat a) (nb : Neat b) (hn : n ≤ 1000) (hn' : n' ≤ 1000) :
    Calls Tryz.prog 60 #[.slice A n c, .slice A' n' c'] w fun e w' => e = .returned (.bool (lessL a b)) ∧ Below w.heap.size w w' := by
  have HA := Lib.hid ha.dlen
  have HB := Lib.hid hb.dlen
  by_cases hl : n = n'
  · subst hl
    have HL := Lib.hid (show a.length = b.length by rw [← HA.out, ← HB.out])
    go_enter Tryz.func60, Tryz.ntmps60
    go_wp2
    go_loopw [5] (fun ii wr => ∃ (j : Nat), ii = .int .i64 ((j : Int) - 1) ∧ j ≤ n ∧ Below w.heap.size w wr ∧ Hid (a.drop j = b.drop j)) (fun ii _ => (intOf ii + 1).toNat)
    case atStart => exact ⟨n, by go_num, Nat.le_refl _, Below.refl _ _, Lib.hid (by rw [List.drop_of_length_le (by rw [← HA.out]; exact Nat.le_refl _), List.drop_of_length_le (by rw [← HB.out]; exact Nat.le_refl _)])⟩
    case round =>
      obtain ⟨j, rfl, hj, hbel, HD⟩ := hrel
      cases j with
      | zero =>
        have HE := Lib.hid (show lessL a b = false by
          have := HD.out
          simp only [List.drop_zero] at this
          rw [this]; exact less_same)
        go_wp2
        go_ret
        exact ⟨by rw [HE.out]; rfl, hbel⟩
      | succ j =>
        rw [show (((j + 1 : Nat) : Int) - 1) = (j : Int) by omega]
        obtain ⟨p, rfl, hp, hc⟩ := (ha.belowMono hbel (Nat.le_refl _)).digAt (show j < n by omega)
        obtain ⟨p2, rfl, hp2, hc2⟩ := (hb.belowMono hbel (Nat.le_refl _)).digAt (show j < n by omega)
        by_cases he : a.getD j 0 = b.getD j 0
        · have HD2 := Lib.hid (drop_same HL.out (by rw [← HA.out]; omega) HD.out he)
          rw [he] at hc
          generalize b.getD j 0 = y at *
          go_wp2_with fail
          go_region
          all_goals
            go_wp2
            go_roundw
            case rel => exact ⟨j, by go_num, by omega, hbel.drew, HD2⟩
            case measure => simp [intOf]
        · have HE := Lib.hid (less_top da db HL.out (by rw [← HA.out]; omega) HD.out he)
          generalize a.getD j 0 = x at *
          generalize b.getD j 0 = y at *
          have he' : ((x : Int) == (y : Int)) = false := by simp; omega
          go_wp2_with fail
          go_region
          all_goals
            go_wp2_with fail
            go_region
            all_goals
              go_wp2
              go_ret
              refine ⟨?_, hbel.drew.drew⟩
              rw [HE.out]
              simp
  · have HE := Lib.hid (show lessL a b = decide (n < n') by rw [HA.out, HB.out]; exact less_len da db na nb (by rw [← HA.out, ← HB.out]; exact hl))
    have hl' : ((n : Int) == (n' : Int)) = false := by simp; omega
    go_enter Tryz.func60, Tryz.ntmps60
    go_wp2
    go_ret
    refine ⟨?_, Below.refl _ _⟩
    rw [HE.out]
    simp
end Go.Proofs.YtgepipapppdhfaaGreatDoor
