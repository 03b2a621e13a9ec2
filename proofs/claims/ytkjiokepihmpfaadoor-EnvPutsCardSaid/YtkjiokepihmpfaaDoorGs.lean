/- A scope with gotos: what holds at each label, told with a number that each pass lowers. No condition. -/
import Derived.Test.YtkjiokepihmpfaaDoorEn
import Derived.Test.YtkjiokepihmpfaaDoorLit
import Derived.WalkMore
set_option linter.unusedVariables false
set_option linter.unusedSimpArgs false
namespace Go.Proofs.YtkjiokepihmpfaaDoor
open Go.RowKit

/-- As Q; by a goto to a label: what holds there. -/
def Exit.jumps (J : Nat → Act → World → Prop) (Q : Exit → Act → World → Prop) : Exit → Act → World → Prop
  | .goto l, a, w => J l a w
  | e, a, w => Q e a w

section
variable {P : Program} {a : Act} {w : World} {Q : Exit → Act → World → Prop} {J : Nat → Act → World → Prop}
theorem wp_scope_ghost {c : Code} (J : Nat → Nat → Act → World → Prop) (first : c.wp P (Exit.jumps (fun l a w => ∃ g, J g l a w) Q) a w)
    (pass : ∀ g l a w, J g l a w → ∃ rest, findLabel c l = some rest ∧ rest.wp P (Exit.jumps (fun l' a' w' => ∃ g', g' < g ∧ J g' l' a' w') Q) a w) : (Code.scope c).wp P Q a w := by
  intro b k cs
  have hg : ∀ l rest, findLabel c l = some rest → gotoIn l (.inScope c :: k) = some (.code rest :: .inScope c :: k) := fun l rest hf => by simp [gotoIn, hf]
  have key : ∀ n l a w, J n l a w → ∃ rest, findLabel c l = some rest ∧ ∃ e a' w', Q e a' w' ∧ Arrives P (lone (b.at a (.code rest :: .inScope c :: k)) cs w) b k cs e a' w' := by
    intro n
    induction n using Nat.strongRecOn with
    | _ n ih =>
      intro l a w hJ
      obtain ⟨rest, hf, hp⟩ := pass n l a w hJ
      refine ⟨rest, hf, ?_⟩
      obtain ⟨e, a₁, w₁, hq, harr⟩ := hp b (.inScope c :: k) cs
      cases e with
      | normal => exact ⟨.normal, a₁, w₁, hq, Steps.trans harr (.one step_inScope)⟩
      | exit id => exact ⟨.exit id, a₁, w₁, hq, fun k' hk => harr k' (by simp [exitTo, hk])⟩
      | goto l' =>
        obtain ⟨g', hlt, hJ'⟩ := hq
        obtain ⟨rest', hf', e₂, a₂, w₂, hq₂, harr₂⟩ := ih g' hlt l' a₁ w₁ hJ'
        exact ⟨e₂, a₂, w₂, hq₂, .of_steps (harr _ (hg l' rest' hf')) harr₂⟩
      | ret => exact ⟨_, a₁, w₁, hq, harr⟩
      | panic ch => exact ⟨_, a₁, w₁, hq, harr⟩
      | outgrown => exact ⟨_, a₁, w₁, hq, harr⟩
  obtain ⟨e, a₁, w₁, hq, harr⟩ := first b (.inScope c :: k) cs
  cases e with
  | normal => exact ⟨.normal, a₁, w₁, hq, .head step_scope (Steps.trans harr (.one step_inScope))⟩
  | exit id => exact ⟨.exit id, a₁, w₁, hq, fun k' hk => .head step_scope (harr k' (by simp [exitTo, hk]))⟩
  | goto l' =>
    obtain ⟨g', hJ'⟩ := hq
    obtain ⟨rest', hf', e₂, a₂, w₂, hq₂, harr₂⟩ := key g' l' a₁ w₁ hJ'
    exact ⟨e₂, a₂, w₂, hq₂, .of_steps (.head step_scope (harr _ (hg l' rest' hf'))) harr₂⟩
  | ret => exact ⟨_, a₁, w₁, hq, .of_steps (.one step_scope) harr⟩
  | panic ch => exact ⟨_, a₁, w₁, hq, .of_steps (.one step_scope) harr⟩
  | outgrown => exact ⟨_, a₁, w₁, hq, .of_steps (.one step_scope) harr⟩
end

/-- A stack that a call has for itself, made behind world w. -/
structure Way (w W : World) (B base g : Nat) (v : Value) (K : List (List Tr)) : Prop where
  bel : Below w.heap.size w W
  stk : Stk W B base g v K
  le : w.heap.size ≤ B ∧ B ≤ base ∧ B ≤ g ∧ base ≤ W.heap.size
section
variable {w W W' : World} {B base g : Nat} {v v' : Value} {K K' : List (List Tr)}
theorem Way.own_ge (h : Way w W B base g v K) : ∀ i, v.ownBlock = some i → base ≤ i := by
  obtain ⟨xs, h1, _⟩ := h.stk.row
  exact fun i hi => (h1.lt i hi).1
theorem Way.keep_below (h : Way w W B base g v K) (hK : Keep (StT g v) W W') : Below B W W' :=
  hK.below (B := B) (by have := h.le; omega) fun i hi e => by
    rcases e with e | e
    · have := h.le; omega
    · have := h.own_ge i e
      have := h.le
      omega
theorem Way.step (h : Way w W B base g v K) (hK : Keep (StT g v) W W') (hs : Stk W' B base g v' K') : Way w W' B base g v' K' :=
  ⟨h.bel.trans ((h.keep_below hK).mono h.le.1), hs, h.le.1, h.le.2.1, h.le.2.2.1, by have := h.le.2.2.2; have := hK.size; omega⟩
theorem Way.below (h : Way w W B base g v K) (hb : Below W.heap.size W W') : Way w W' B base g v K :=
  ⟨h.bel.trans (hb.mono h.bel.size), h.stk.below hb (by have := h.le; omega), h.le.1, h.le.2.1, h.le.2.2.1, by have := h.le.2.2.2; have := hb.size; omega⟩
theorem Way.keep {S : Nat → Prop} (h : Way w W B base g v K) (hK : Keep S W W') (hg : ¬ S g) (hv : ∀ i, v.ownBlock = some i → ¬ S i) (hS : ∀ i, i < B → ¬ S i) : Way w W' B base g v K :=
  ⟨h.bel.trans ((hK.below (B := B) (by have := h.le; omega) hS).mono h.le.1), h.stk.keep hK hg hv hS (by have := h.le; omega), h.le.1, h.le.2.1, h.le.2.2.1, by have := h.le.2.2.2; have := hK.size; omega⟩
/-- A row of formulas of a call's own is none of a stack's. -/
theorem Way.apart (h : Way w W B base g v K) {b0 n k : Nat} {u : Value} {xs : List Value} (ho : W.ownsRow b0 83 k u n xs) : ∀ i, u.ownBlock = some i → ¬ StT g v i := fun i hi e => by
  rcases e with e | e
  · subst e
    exact own_ne ho h.stk.box (by decide) hi
  · obtain ⟨xs, hr, -⟩ := h.stk.row
    exact own_own_ne ho hr (by decide) i hi e
theorem Way.form (h : Way w W B base g v K) : ∃ S c, v = .slice S K.length c ∧ W.cell? ⟨g, 0, none⟩ = some (.slice S K.length c) := by
  obtain ⟨xs, h1, _⟩ := h.stk.row
  obtain ⟨S, c, rfl, _⟩ := own_form h1
  exact ⟨S, c, rfl, h.stk.box.cell 0⟩
end
/-- A box made and filled. -/
theorem made_box {W1 W2 : World} {T : TypeId} {cs : Array Value} (hK : Keep (fun i => i = W1.heap.size) (W1.alloc (.cells cs T)) W2) : Below W1.heap.size W1 W2 :=
  (bel0 W1 _).trans (hK.below (B := W1.heap.size) (by simp) fun i hi e => by omega)
end Go.Proofs.YtkjiokepihmpfaaDoor
