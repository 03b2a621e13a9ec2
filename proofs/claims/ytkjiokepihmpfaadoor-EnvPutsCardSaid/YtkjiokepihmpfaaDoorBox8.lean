/- Boxes of a call's own in a region that draws its order: any row of blocks made and boxes filled, one behind the other; what is kept of them behind each operation. No condition. -/
import Derived.Test.YtkjiokepihmpfaaDoorQ0
import Derived.Test.YtkjiokepihmpfaaDoorPhase
import Derived.Test.YtkjiokepihmpfaaDoorLit
import Derived.StillTailTactics
import Derived.RegionTactic
import Derived.BigRegion
set_option linter.unusedVariables false
set_option linter.unusedSimpArgs false
namespace Go.Proofs.YtkjiokepihmpfaaDoor
open Go.RowKit

/-- Below w's end all is as it was; of the newer blocks those in bs hold just what is told. -/
structure SB (w : World) (n : Nat) (bs : List (Nat × TypeId × Array Value)) (W : World) : Prop where
  bel : Below w.heap.size w W
  size : w.heap.size + n ≤ W.heap.size
  bk : ∀ x ∈ bs, Bk W x.1 x.2.1 x.2.2
/-- Box i filled anew. -/
def setBox : List (Nat × TypeId × Array Value) → Nat → Array Value → List (Nat × TypeId × Array Value)
  | [], _, _ => []
  | x :: l, 0, cs => (x.1, x.2.1, cs) :: l
  | x :: l, i + 1, cs => x :: setBox l i cs
/-- All boxes but i. -/
def butBox : List (Nat × TypeId × Array Value) → Nat → List (Nat × TypeId × Array Value)
  | [], _ => []
  | _ :: l, 0 => l
  | x :: l, i + 1 => x :: butBox l i
section
variable {w W W' : World} {n g i : Nat} {T : TypeId} {bs bs' : List (Nat × TypeId × Array Value)} {cs z : Array Value} {vals : List Value}
theorem SB.call (h : SB w n bs W) (hb : Below W.heap.size W W') : SB w n bs W' :=
  ⟨h.bel.trans (hb.mono h.bel.size), Nat.le_trans h.size hb.size, fun x hx => (h.bk x hx).below hb (h.bk x hx).lt⟩
theorem SB.drew (h : SB w n bs W) : SB w n bs W.drew := ⟨h.bel.drew, h.size, h.bk⟩
theorem SB.alloc (h : SB w n bs W) (T : TypeId) (cs : Array Value) : SB w n ((W.heap.size, T, cs) :: bs) (W.alloc (.cells cs T)) := by
  refine ⟨h.bel.alloc h.bel.size _, Nat.le_trans h.size (by simp), fun x hx => ?_⟩
  rcases List.mem_cons.1 hx with rfl | hx
  · exact Bk.new W T cs
  · exact (h.bk x hx).alloc _
theorem SB.made (h : SB w n bs W) (o : Obj) : SB w n bs (W.alloc o) := ⟨h.bel.alloc h.bel.size _, Nat.le_trans h.size (by simp), fun x hx => (h.bk x hx).alloc _⟩
theorem SB.tail {x : Nat × TypeId × Array Value} (h : SB w n (x :: bs) W) : SB w n bs W := ⟨h.bel, h.size, fun y hy => h.bk y (List.mem_cons_of_mem _ hy)⟩
theorem SB.some_ (h : SB w n bs W) (hs : ∀ x ∈ bs', x ∈ bs) : SB w n bs' W := ⟨h.bel, h.size, fun y hy => h.bk y (hs y hy)⟩
theorem SB.base (w : World) : SB w 0 [] w := ⟨Below.refl _ _, Nat.le_refl _, fun x hx => by cases hx⟩
theorem SB.box (h : SB w n bs W) {x : Nat × TypeId × Array Value} (hx : bs[i]? = some x) : Bk W x.1 x.2.1 x.2.2 := h.bk x (List.mem_of_getElem? hx)
theorem setBox_mem {bs : List (Nat × TypeId × Array Value)} {i : Nat} {y : Nat × TypeId × Array Value} (h : y ∈ setBox bs i cs) {x : Nat × TypeId × Array Value} (hx : bs[i]? = some x) : y = (x.1, x.2.1, cs) ∨ y ∈ butBox bs i := by
  induction bs generalizing i with
  | nil => cases hx
  | cons b l ih =>
    cases i with
    | zero =>
      simp only [List.getElem?_cons_zero, Option.some.injEq] at hx
      subst hx
      exact (List.mem_cons.1 h).imp id id
    | succ i =>
      simp only [List.getElem?_cons_succ] at hx
      rcases List.mem_cons.1 h with rfl | h
      · exact .inr (List.mem_cons_self ..)
      · exact (ih h hx).imp id (List.mem_cons_of_mem _)
theorem butBox_mem {bs : List (Nat × TypeId × Array Value)} {i : Nat} {y : Nat × TypeId × Array Value} (h : y ∈ butBox bs i) : y ∈ bs := by
  induction bs generalizing i with
  | nil => exact h
  | cons b l ih =>
    cases i with
    | zero => exact List.mem_cons_of_mem _ h
    | succ i =>
      rcases List.mem_cons.1 h with rfl | h
      · exact List.mem_cons_self ..
      · exact List.mem_cons_of_mem _ (ih h)
/-- One cell of a box turned. -/
theorem SB.put1 (h : SB w n bs W) (hi : bs[i]? = some (g, T, cs)) (hg : w.heap.size ≤ g) (hne : ∀ x ∈ butBox bs i, x.1 ≠ g) (j : Nat) (u : Value) :
    SB w n (setBox bs i (cs.setIfInBounds j u)) (W.setCell ⟨g, j, none⟩ u) := by
  refine ⟨h.bel.setCell hg _, by have := h.size; simpa [World.setCell] using this, fun x hx => ?_⟩
  rcases setBox_mem hx hi with rfl | hx
  · exact (h.box hi).set_ j u
  · have hk := h.bk x (butBox_mem hx)
    have hn := hne x hx
    unfold Bk at hk ⊢
    rw [Below.heap_setCell W ⟨g, j, none⟩ u x.1 hn]
    exact hk
theorem setBox_get {bs : List (Nat × TypeId × Array Value)} {i : Nat} (hi : bs[i]? = some (g, T, z)) : (setBox bs i cs)[i]? = some (g, T, cs) := by
  induction bs generalizing i with
  | nil => cases hi
  | cons b l ih =>
    cases i with
    | zero =>
      simp only [List.getElem?_cons_zero, Option.some.injEq] at hi
      subst hi
      rfl
    | succ i => exact ih hi
theorem setBox_two {bs : List (Nat × TypeId × Array Value)} {i : Nat} : setBox (setBox bs i z) i cs = setBox bs i cs := by
  induction bs generalizing i with
  | nil => rfl
  | cons b l ih =>
    cases i with
    | zero => rfl
    | succ i => simp only [setBox, ih]
theorem setBox_but {bs : List (Nat × TypeId × Array Value)} {i : Nat} : butBox (setBox bs i cs) i = butBox bs i := by
  induction bs generalizing i with
  | nil => rfl
  | cons b l ih =>
    cases i with
    | zero => rfl
    | succ i => simp only [setBox, butBox, ih]
theorem SB.put2 {a b : Value} (h : SB w n bs W) (hi : bs[i]? = some (g, T, #[a, b])) (hg : w.heap.size ≤ g) (hne : ∀ x ∈ butBox bs i, x.1 ≠ g) (u0 u1 : Value) :
    SB w n (setBox bs i #[u0, u1]) ((W.setCell ⟨g, 0, none⟩ u0).setCell ⟨g, 1, none⟩ u1) := by
  have := (h.put1 hi hg hne 0 u0).put1 (setBox_get hi) hg (by rw [setBox_but]; exact hne) 1 u1
  rw [setBox_two] at this
  simpa using this
theorem SB.put4 {a b c d : Value} (h : SB w n bs W) (hi : bs[i]? = some (g, T, #[a, b, c, d])) (hg : w.heap.size ≤ g) (hne : ∀ x ∈ butBox bs i, x.1 ≠ g) (u0 u1 u2 u3 : Value) :
    SB w n (setBox bs i #[u0, u1, u2, u3]) ((((W.setCell ⟨g, 0, none⟩ u0).setCell ⟨g, 1, none⟩ u1).setCell ⟨g, 2, none⟩ u2).setCell ⟨g, 3, none⟩ u3) := by
  have h1 := (h.put1 hi hg hne 0 u0).put1 (setBox_get hi) hg (by rw [setBox_but]; exact hne) 1 u1
  rw [setBox_two] at h1
  have h2 := (h1.put1 (setBox_get hi) hg (by rw [setBox_but]; exact hne) 2 u2).put1 (setBox_get (setBox_get hi)) hg (by rw [setBox_but, setBox_but]; exact hne) 3 u3
  rw [setBox_two, setBox_two] at h2
  simpa using h2
theorem SB.put8 {a0 a1 a2 a3 a4 a5 a6 a7 : Value} (h : SB w n bs W) (hi : bs[i]? = some (g, T, #[a0, a1, a2, a3, a4, a5, a6, a7])) (hg : w.heap.size ≤ g) (hne : ∀ x ∈ butBox bs i, x.1 ≠ g) (u0 u1 u2 u3 u4 u5 u6 u7 : Value) :
    SB w n (setBox bs i #[u0, u1, u2, u3, u4, u5, u6, u7]) ((((((((W.setCell ⟨g, 0, none⟩ u0).setCell ⟨g, 1, none⟩ u1).setCell ⟨g, 2, none⟩ u2).setCell ⟨g, 3, none⟩ u3).setCell ⟨g, 4, none⟩ u4).setCell ⟨g, 5, none⟩ u5).setCell ⟨g, 6, none⟩ u6).setCell ⟨g, 7, none⟩ u7) := by
  have step : ∀ {W : World} {bs : List (Nat × TypeId × Array Value)} {z : Array Value} (j : Nat) (u : Value), SB w n (setBox bs i z) W → bs[i]? = some (g, T, #[a0, a1, a2, a3, a4, a5, a6, a7]) → (∀ x ∈ butBox bs i, x.1 ≠ g) →
      SB w n (setBox bs i (z.setIfInBounds j u)) (W.setCell ⟨g, j, none⟩ u) := by
    intro W bs z j u h hi hne
    have := h.put1 (setBox_get hi) hg (by rw [setBox_but]; exact hne) j u
    rwa [setBox_two] at this
  have h1 := h.put1 hi hg hne 0 u0
  have h8 := step 7 u7 (step 6 u6 (step 5 u5 (step 4 u4 (step 3 u3 (step 2 u2 (step 1 u1 h1 hi hne) hi hne) hi hne) hi hne) hi hne) hi hne) hi hne
  simpa using h8

/-- What a region's phases do: a block made, a box (by its place in the list) filled. -/
inductive Stp where
  | new (T : TypeId) (z : Array Value)
  | put (i : Nat) (cs : Array Value)
def SX (w : World) (n : Nat) : List Stp → List Value → List (Nat × TypeId × Array Value) → World → Prop
  | _, [], bs, W => SB w n bs W
  | .new T z :: r, v :: vs, bs, W => ∃ g, v = .pointer (some ⟨g, 0, none⟩) ∧ w.heap.size + n ≤ g ∧ (∀ x ∈ bs, x.1 ≠ g) ∧ SX w n r vs ((g, T, z) :: bs) W
  | .put i cs :: r, _ :: vs, bs, W => SX w n r vs (setBox bs i cs) W
  | [], _ :: _, bs, W => SB w n bs W
def keepsB : List Stp → Nat → Bool
  | [], _ => true
  | .new _ _ :: r, i => keepsB r (i + 1)
  | .put j _ :: r, i => i != j && keepsB r i
theorem setBox_ne {bs : List (Nat × TypeId × Array Value)} {i j : Nat} (h : i ≠ j) : (setBox bs j cs)[i]? = bs[i]? := by
  induction bs generalizing i j with
  | nil => rfl
  | cons b l ih =>
    cases j with
    | zero =>
      cases i with
      | zero => exact absurd rfl h
      | succ i => rfl
    | succ j =>
      cases i with
      | zero => rfl
      | succ i => exact ih (by omega)
theorem SX.bk {st : List Stp} (h : SX w n st vals bs W) (i : Nat) {x : Nat × TypeId × Array Value} (hi : bs[i]? = some x) (hk : keepsB st i = true) : Bk W x.1 x.2.1 x.2.2 := by
  induction st generalizing vals bs i with
  | nil => cases vals <;> exact SB.box h hi
  | cons s r ih =>
    cases vals with
    | nil => cases s <;> exact SB.box h hi
    | cons v vs =>
      cases s with
      | new T z =>
        obtain ⟨g, _, _, _, h⟩ := h
        exact ih h (i + 1) hi hk
      | put j c =>
        simp only [keepsB, Bool.and_eq_true, bne_iff_ne, ne_eq] at hk
        exact ih h i (by rw [setBox_ne hk.1]; exact hi) hk.2
theorem SX.call {st : List Stp} (h : SX w n st vals bs W) (hb : Below W.heap.size W W') : SX w n st vals bs W' := by
  induction st generalizing vals bs with
  | nil => cases vals <;> exact SB.call h hb
  | cons s r ih =>
    cases vals with
    | nil => cases s <;> exact SB.call h hb
    | cons v vs =>
      cases s with
      | new T z =>
        obtain ⟨g, h1, h2, h3, h⟩ := h
        exact ⟨g, h1, h2, h3, ih h⟩
      | put j c => exact ih (vals := vs) (bs := setBox bs j c) h
end
/-- The boxes at a call's begin. -/
theorem sb1 (w : World) (T : TypeId) (cs : Array Value) : SB w 1 [(w.heap.size, T, cs)] (w.alloc (.cells cs T)) :=
  ⟨bel0 w _, by simp, fun x hx => by
    obtain rfl := List.mem_singleton.1 hx
    exact Bk.new w T cs⟩
theorem SB.push {w W : World} {n : Nat} {bs : List (Nat × TypeId × Array Value)} (h : SB w n bs W) (hs : W.heap.size = w.heap.size + n) (T : TypeId) (cs : Array Value) : SB w (n + 1) ((w.heap.size + n, T, cs) :: bs) (W.alloc (.cells cs T)) := by
  have h1 := h.alloc T cs
  rw [hs] at h1
  exact ⟨h1.bel, by simp; omega, h1.bk⟩
end Go.Proofs.YtkjiokepihmpfaaDoor
