/- expr's stack: enter, by its contract, wherever its formulas lie. Condition: the stack reads as rows of formulas, the formula's Kids too. -/
/- Two stacks begun in one region, in any order: what holds by which of its operations have been done. No condition. -/
/- expr.Same by its contract. Condition: both formulas read as trees, which are not too great. -/
import Derived.Test.YtlaiocdnddnnaaaGreatDoorNf
import Derived.Test.YtlaiocdnddnnaaaGreatDoorCx
import Derived.Test.YtlaiocdnddnnaaaGreatDoorAl
import Derived.Test.YtlaiocdnddnnaaaGreatDoorLast
set_option linter.unusedVariables false
set_option linter.unusedSimpArgs false
namespace Go.Proofs.YtlaiocdnddnnaaaGreatDoor
open Go.RowKit Go.Lib
end Go.Proofs.YtlaiocdnddnnaaaGreatDoor
namespace Go.Proofs.YtlaiocdnddnnaaaGreatDoor
open Go.RowKit
def SF (b0 : Nat) (t : Tr) (v : Value) (W : World) : Prop := ∃ r xs, b0 ≤ r ∧ (∃ cs, Bk W r 47 cs) ∧ W.ownsRow b0 45 1 v 1 xs ∧ HdrF W (fun i => i < b0 ∨ i = r) xs [[t]]
theorem SF.keep {b0 : Nat} {t : Tr} {v : Value} {W W' : World} {S : Nat → Prop} (h : SF b0 t v W) (hK : Keep S W W') (hb0 : b0 ≤ W.heap.size) (hS : ∀ i, i < W.heap.size → S i → b0 ≤ i ∧ ∃ cs, Bk W i 96 cs) : SF b0 t v W' := by
  obtain ⟨r, xs, h1, ⟨cs, h2⟩, h3, h4⟩ := h
  have hr : ¬ S r := fun e => by
    obtain ⟨-, cs', h5⟩ := hS r h2.lt e; unfold Bk at h2 h5; rw [h2] at h5; injection h5 with h5; injection h5 with _ h5; exact absurd h5 (by decide)
  refine ⟨r, xs, h1, ⟨cs, hK.bk h2 hr⟩, hK.own h3 fun i hi e => ?_, h4.move (hK.move (fun i hi => ?_) fun _ h => h)⟩
  · obtain ⟨-, cs', h5⟩ := hS i (h3.lt i hi).2 e; exact own_ne h3 h5 (by decide) hi
  · rcases hi with hi | rfl
    · exact ⟨by omega, fun e => by have := (hS i (by omega) e).1; omega⟩
    · exact ⟨h2.lt, hr⟩
structure S2 (w1 : World) (t1 t2 : Tr) (a5 a6 c1 c2 s1 s2 : Option Value) (W : World) : Prop where
  bel : Below w1.heap.size w1 W
  x1 : ∀ v, a5 = some v → ∃ g u, v = .pointer (some ⟨g, 0, none⟩) ∧ w1.heap.size ≤ g ∧ Bk W g 96 #[u] ∧ (s1.isSome = true → c1 = some u)
  x2 : ∀ v, a6 = some v → ∃ g u, v = .pointer (some ⟨g, 0, none⟩) ∧ w1.heap.size ≤ g ∧ Bk W g 96 #[u] ∧ (s2.isSome = true → c2 = some u)
  y1 : ∀ v, c1 = some v → SF w1.heap.size t1 v W
  y2 : ∀ v, c2 = some v → SF w1.heap.size t2 v W
  ab : ∀ v v', a5 = some v → a6 = some v' → v ≠ v'
  ob : ∀ v v', c1 = some v → c2 = some v' → ∀ i, v.ownBlock = some i → v'.ownBlock ≠ some i
  z1 : a5 = none → s1 = none
  z2 : a6 = none → s2 = none
section
variable {w1 W W' : World} {t1 t2 : Tr} {a5 a6 c1 c2 s1 s2 : Option Value}
theorem S2.size (h : S2 w1 t1 t2 a5 a6 c1 c2 s1 s2 W) : w1.heap.size ≤ W.heap.size := h.bel.size
theorem S2.below (h : S2 w1 t1 t2 a5 a6 c1 c2 s1 s2 W) (hb : Below W.heap.size W W') : S2 w1 t1 t2 a5 a6 c1 c2 s1 s2 W' := by
  have hk : Keep (fun i => W.heap.size ≤ i) W W' := Keep.of_below hb fun i _ h => h; refine ⟨h.bel.trans (hb.mono h.size), fun v hv => ?_, fun v hv => ?_, fun v hv => (h.y1 v hv).keep hk h.size fun i hi e => by omega, fun v hv => (h.y2 v hv).keep hk h.size fun i hi e => by omega, h.ab, h.ob, h.z1, h.z2⟩
  · obtain ⟨g, u, e1, e2, e3, e4⟩ := h.x1 v hv; exact ⟨g, u, e1, e2, e3.below hb e3.lt, e4⟩
  · obtain ⟨g, u, e1, e2, e3, e4⟩ := h.x2 v hv; exact ⟨g, u, e1, e2, e3.below hb e3.lt, e4⟩
end
end Go.Proofs.YtlaiocdnddnnaaaGreatDoor
namespace Go.Proofs.YtlaiocdnddnnaaaGreatDoor
open Go.RowKit
end Go.Proofs.YtlaiocdnddnnaaaGreatDoor
