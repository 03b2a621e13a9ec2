/- The reference's Norm by its contract. Condition: numbers within 64 bits, at most nine places. -/
import Derived.Test.YtmbjmgmnicacpaaGreatDoorRow5
import Derived.Test.YtmbjmgmnicacpaaGreatDoorWide
namespace Go.Proofs.YtmbjmgmnicacpaaGreatDoor
open Go.RowKit

theorem tl_ten (q : Int) (s : Nat) : tl (q * 10) (s + 1) = tl q s := by
  have := tl_up q s 1
  simpa using this
theorem tl_stop {m : Int} {s : Nat} (h0 : -9223372036854775808 ≤ m) (h1 : m ≤ 9223372036854775807) (h : s = 0 ∨ m % 10 ≠ 0) : tl m s = ⟨m, s, 0⟩ := by
  have e : strip s m.natAbs = (m.natAbs, s) := by
    cases s with
    | zero => rfl
    | succ s => rw [strip, if_neg (by omega)]
  unfold tl tlb
  rw [e]
  simp only
  rw [if_pos (by unfold most; split <;> simp_all <;> omega), sgn_natAbs]
def boxInt (w : World) (g i : Nat) : Nat := match w.cell? ⟨g, i, none⟩ with
  | some v => (intOf v).toNat
  | none => 0
theorem boxInt_bk {w : World} {g s : Nat} {T : TypeId} {x : Value} (h : Bk w g T #[x, .int .i64 (s : Nat)]) : boxInt w g 1 = s := by
  unfold boxInt
  rw [h.cell 1]
  simp [intOf]
theorem tmod10r (m : Int) : m.tmod 10 = 0 ↔ m % 10 = 0 := ⟨fun h => Int.emod_eq_zero_of_dvd (Int.dvd_of_tmod_eq_zero h), fun h => Int.tmod_eq_zero_of_dvd (Int.dvd_of_emod_eq_zero h)⟩

end Go.Proofs.YtmbjmgmnicacpaaGreatDoor
