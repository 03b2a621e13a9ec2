/- Boxes of a call's own in a region that draws its order: what is kept of them behind each operation. No condition. -/
import Derived.Test.YtmbjmgmnicacpaaDoorW1
import Derived.Test.YtmbjmgmnicacpaaDoorPhase
import Derived.Test.YtmbjmgmnicacpaaDoorLit
namespace Go.Proofs.YtmbjmgmnicacpaaDoor
open Go.RowKit

/-- Below w's end all is as it was; of the newer blocks those in bs hold just what is told. -/
structure SB (w : World) (n : Nat) (bs : List (Nat × TypeId × Array Value)) (W : World) : Prop where
  bel : Below w.heap.size w W
  size : w.heap.size + n ≤ W.heap.size
  bk : ∀ x ∈ bs, Bk W x.1 x.2.1 x.2.2
section
variable {w W W' : World} {n g : Nat} {T : TypeId} {bs bs' : List (Nat × TypeId × Array Value)} {cs z : Array Value} {vals : List Value}
theorem SB.call (h : SB w n bs W) (hb : Below W.heap.size W W') : SB w n bs W' :=
  ⟨h.bel.trans (hb.mono h.bel.size), Nat.le_trans h.size hb.size, fun x hx => (h.bk x hx).below hb (h.bk x hx).lt⟩
theorem SB.drew (h : SB w n bs W) : SB w n bs W.drew := ⟨h.bel.drew, h.size, h.bk⟩
theorem SB.alloc (h : SB w n bs W) (T : TypeId) (cs : Array Value) : SB w n ((W.heap.size, T, cs) :: bs) (W.alloc (.cells cs T)) := by
  refine ⟨h.bel.alloc h.bel.size _, Nat.le_trans h.size (by simp), fun x hx => ?_⟩
  rcases List.mem_cons.1 hx with rfl | hx
  · exact Bk.new W T cs
  · exact (h.bk x hx).alloc _
theorem SB.tail {x : Nat × TypeId × Array Value} (h : SB w n (x :: bs) W) : SB w n bs W := ⟨h.bel, h.size, fun y hy => h.bk y (List.mem_cons_of_mem _ hy)⟩
theorem SB.set (h : SB w n ((g, T, cs) :: bs) W) (hg : w.heap.size ≤ g) (hne : ∀ x ∈ bs, x.1 ≠ g) (i : Nat) (u : Value) :
    SB w n ((g, T, cs.setIfInBounds i u) :: bs) (W.setCell ⟨g, i, none⟩ u) := by
  refine ⟨h.bel.setCell hg _, by have := h.size; simpa [World.setCell] using this, fun x hx => ?_⟩
  rcases List.mem_cons.1 hx with rfl | hx
  · exact (h.bk _ (List.mem_cons_self ..)).set_ i u
  · have hk := h.bk x (List.mem_cons_of_mem _ hx)
    have hn := hne x hx
    unfold Bk at hk ⊢
    rw [Below.heap_setCell W ⟨g, i, none⟩ u x.1 hn]
    exact hk
theorem SB.set3 {a b c : Value} (h : SB w n ((g, T, #[a, b, c]) :: bs) W) (hg : w.heap.size ≤ g) (hne : ∀ x ∈ bs, x.1 ≠ g) (u0 u1 u2 : Value) :
    SB w n ((g, T, #[u0, u1, u2]) :: bs) (((W.setCell ⟨g, 0, none⟩ u0).setCell ⟨g, 1, none⟩ u1).setCell ⟨g, 2, none⟩ u2) := by
  have := ((h.set hg hne 0 u0).set hg hne 1 u1).set hg hne 2 u2
  simpa using this
theorem SB.set2 {a b : Value} (h : SB w n ((g, T, #[a, b]) :: bs) W) (hg : w.heap.size ≤ g) (hne : ∀ x ∈ bs, x.1 ≠ g) (u0 u1 : Value) :
    SB w n ((g, T, #[u0, u1]) :: bs) ((W.setCell ⟨g, 0, none⟩ u0).setCell ⟨g, 1, none⟩ u1) := by
  have := (h.set hg hne 0 u0).set hg hne 1 u1
  simpa using this

/-- One store at a region's end. -/
def S1 (w : World) (n : Nat) (bs bs' : List (Nat × TypeId × Array Value)) : List Value → World → Prop
  | [], W => SB w n bs W
  | _ :: _, W => SB w n bs' W
theorem S1.bk (h : S1 w n bs bs' vals W) {x : Nat × TypeId × Array Value} (h1 : x ∈ bs) (h2 : x ∈ bs') : Bk W x.1 x.2.1 x.2.2 := by
  match vals, h with
  | [], h => exact SB.bk h x h1
  | _ :: _, h => exact SB.bk h x h2
theorem S1.call (h : S1 w n bs bs' vals W) (hb : Below W.heap.size W W') : S1 w n bs bs' vals W' := by
  match vals, h with
  | [], h => exact SB.call h hb
  | _ :: _, h => exact SB.call h hb

/-- A block made and filled at a region's end. -/
def S2 (w : World) (n : Nat) (bs : List (Nat × TypeId × Array Value)) (T : TypeId) (z cs : Array Value) : List Value → World → Prop
  | [], W => SB w n bs W
  | [v], W => ∃ g, v = .pointer (some ⟨g, 0, none⟩) ∧ w.heap.size + n ≤ g ∧ SB w n ((g, T, z) :: bs) W
  | v :: _ :: _, W => ∃ g, v = .pointer (some ⟨g, 0, none⟩) ∧ w.heap.size + n ≤ g ∧ SB w n ((g, T, cs) :: bs) W
theorem S2.bk (h : S2 w n bs T z cs vals W) {x : Nat × TypeId × Array Value} (h1 : x ∈ bs) : Bk W x.1 x.2.1 x.2.2 := by
  match vals, h with
  | [], h => exact SB.bk h x h1
  | [_], ⟨g, _, _, h⟩ => exact h.bk x (List.mem_cons_of_mem _ h1)
  | _ :: _ :: _, ⟨g, _, _, h⟩ => exact h.bk x (List.mem_cons_of_mem _ h1)
theorem S2.call (h : S2 w n bs T z cs vals W) (hb : Below W.heap.size W W') : S2 w n bs T z cs vals W' := by
  match vals, h with
  | [], h => exact SB.call h hb
  | [_], ⟨g, h1, h2, h⟩ => exact ⟨g, h1, h2, SB.call h hb⟩
  | _ :: _ :: _, ⟨g, h1, h2, h⟩ => exact ⟨g, h1, h2, SB.call h hb⟩

/-- The boxes at a call's begin. -/
theorem sb1 (w : World) (T : TypeId) (cs : Array Value) : SB w 1 [(w.heap.size, T, cs)] (w.alloc (.cells cs T)) :=
  ⟨bel0 w _, by simp, fun x hx => by
    obtain rfl := List.mem_singleton.1 hx
    exact Bk.new w T cs⟩
theorem SB.push (h : SB w n bs W) (hs : W.heap.size = w.heap.size + n) (T : TypeId) (cs : Array Value) : SB w (n + 1) ((w.heap.size + n, T, cs) :: bs) (W.alloc (.cells cs T)) := by
  have h1 := h.alloc T cs
  rw [hs] at h1
  exact ⟨h1.bel, by simp; omega, h1.bk⟩
end
theorem power_b {w : World} {k : Nat} (hk : k ≤ 19) :
    Calls Tryd.prog 46 #[.int .i64 k] w fun e w' => e = .returned (.int .u64 (10 ^ k : Nat)) ∧ Below w.heap.size w w' :=
  (power_any hk).mono fun _ _ ⟨h1, h2⟩ => ⟨h1, h2 ▸ Below.refl _ _⟩
end Go.Proofs.YtmbjmgmnicacpaaDoor
