/- What holds behind one, two, three blocks made; what a cell may be. No condition. -/
import Derived.Test.YtkjiokepihmpfaaDoorMem
import Derived.Test.YtkjiokepihmpfaaDoorProg
set_option linter.unusedVariables false
set_option linter.unusedSimpArgs false
namespace Go.Proofs.YtkjiokepihmpfaaDoor
open Go.RowKit

theorem bel0 (w : World) (o : Obj) : Below w.heap.size w (w.alloc o) := (Below.refl _ _).alloc (Nat.le_refl _) o
theorem bel1 (w : World) (o o' : Obj) : Below w.heap.size w ((w.alloc o).alloc o') := (bel0 w o).alloc (by simp) o'
theorem bel2 (w : World) (o o' o'' : Obj) : Below w.heap.size w (((w.alloc o).alloc o').alloc o'') := (bel1 w o o').alloc (by simp; omega) o''

/-- Is there such a cell? -/
def gdB (r c : Int) : Bool := decide (0 ≤ r ∧ r < 65536 ∧ 0 ≤ c ∧ c < 256)
/-- What Check tells of a place. -/
def ckI (r c : Int) : Int := if gdB r c = true then 0 else 12
/-- What CheckArea tells. -/
def ckA (r c r' c' : Int) : Int := if ckI r c = 0 then ckI r' c' else 12
theorem gdB_iff {r c : Int} : gdB r c = true ↔ 0 ≤ r ∧ r < 65536 ∧ 0 ≤ c ∧ c < 256 := by simp [gdB]
theorem gdB_no {r c : Int} (h : ¬ (0 ≤ r ∧ r < 65536 ∧ 0 ≤ c ∧ c < 256)) : gdB r c = false := by simp only [gdB, decide_eq_false_iff_not]; exact h
theorem ck_ok {r c : Int} : ckI r c = 0 ↔ gdB r c = true := by
  unfold ckI
  cases gdB r c <;> simp
theorem ck_cases (r c : Int) : (gdB r c = true ∧ ckI r c = 0) ∨ (gdB r c = false ∧ ckI r c = 12) := by
  unfold ckI
  cases gdB r c <;> simp
end Go.Proofs.YtkjiokepihmpfaaDoor
