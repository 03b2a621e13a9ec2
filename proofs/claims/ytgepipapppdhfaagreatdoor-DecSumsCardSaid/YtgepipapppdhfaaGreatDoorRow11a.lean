/- The reference's round by its contract. Condition: no more than a hundred places. -/
import Derived.Test.YtgepipapppdhfaaGreatDoorRow10
namespace Go.Proofs.YtgepipapppdhfaaGreatDoor
open Go.RowKit

set_option maxHeartbeats 1000000 in
theorem rnd0_any {w : World} {x : Value} {V : Int} {s : Nat} {p : Int} (hx : BigN w x V) (hsp : (s : Int) ≤ p) :
    Calls Tryz.prog 36 #[x, .int .i64 (s : Nat), .int .i64 p] w fun e w' => ∃ y, e = .returned (.tuple #[y, .int .i64 (s : Nat)]) ∧ BigN w' y V ∧ Below w.heap.size w w' := by
  have hx' := hx
  obtain ⟨A, n, c, rfl, hnc, hcm, h⟩ := hx
  have hfin := hx'.below (bel1 w (.cells #[.bool (decide (V < 0)), .slice A n c] 51) (.cells #[.bool (decide (V < 0)), .slice A n c] 51))
  generalize decide (V < 0) = b at *
  go_enter Tryz.func36, Tryz.ntmps36
  go_wp2
  refine bodyPost_ret (v := .tuple #[.agg #[.bool b, .slice A n c], .int .i64 (s : Nat)]) (by simp [results, Tryz.results36, go_sem]) rfl ⟨_, rfl, hfin, bel1 _ _ _⟩
theorem rnd_all {w : World} {x : Value} {V : Int} {s : Nat} {p : Int} (hx : BigN w x V) (hl : (digs V.natAbs).length ≤ 500) (hs : s ≤ 100) (hp : -100 ≤ p) (hp9 : p ≤ 100) :
    Calls Tryz.prog 36 #[x, .int .i64 (s : Nat), .int .i64 p] w fun e w' => ∃ y, e = .returned (.tuple #[y, .int .i64 (if (s : Int) ≤ p then (s : Int) else p)]) ∧ BigN w' y (rndI V (s - p).toNat) ∧ Below w.heap.size w w' := by
  by_cases h : (s : Int) ≤ p
  · rw [if_pos h, show ((s : Int) - p).toNat = 0 by omega, rndI_zero]
    exact rnd0_any hx h
  · rw [if_neg h]
    exact rndZ_any hx hl hs hp (by omega) hp9
def FTup (V q : Int) : Value → World → Prop := fun v W => ∃ y, v = .tuple #[y, .int .i64 q] ∧ BigN W y V
theorem st_tup {V q : Int} : Stable EI (FTup V q) := fun v w w' hE h => by
  obtain ⟨y, h1, h2⟩ := h
  exact ⟨y, h1, BigV.ei h2 hE⟩
theorem digs_i64 {m : Int} (h0 : -9223372036854775808 ≤ m) (h1 : m ≤ 9223372036854775807) : (digs m.natAbs).length ≤ 20 := digs_20 (by omega)
end Go.Proofs.YtgepipapppdhfaaGreatDoor
