/- Two blocks made in any order, then filled one behind the other ('x, y := f(), g()'), among a call's own boxes. No condition. -/
import Derived.Test.YtgjijjdpkmdcgaaDoorPart
import Derived.Test.YtgjijjdpkmdcgaaDoorBox8
namespace Go.Proofs.YtgjijjdpkmdcgaaDoor
open Go.RowKit

def S22 (w : World) (n : Nat) (bs : List (Nat × TypeId × Array Value)) (T0 : TypeId) (z0 x0 : Array Value) (T1 : TypeId) (z1 x1 : Array Value) : List (Option Value) → World → Prop
  | [none, none, none, none], W => SB w n bs W
  | [some v, none, none, none], W => ∃ g, v = .pointer (some ⟨g, 0, none⟩) ∧ w.heap.size + n ≤ g ∧ (∀ x ∈ bs, x.1 ≠ g) ∧ SB w n ((g, T0, z0) :: bs) W
  | [none, some v, none, none], W => ∃ g, v = .pointer (some ⟨g, 0, none⟩) ∧ w.heap.size + n ≤ g ∧ (∀ x ∈ bs, x.1 ≠ g) ∧ SB w n ((g, T1, z1) :: bs) W
  | [some v, some v', none, none], W => ∃ g g', v = .pointer (some ⟨g, 0, none⟩) ∧ v' = .pointer (some ⟨g', 0, none⟩) ∧ w.heap.size + n ≤ g ∧ w.heap.size + n ≤ g' ∧ g ≠ g' ∧ (∀ x ∈ bs, x.1 ≠ g) ∧ (∀ x ∈ bs, x.1 ≠ g') ∧ SB w n ((g', T1, z1) :: (g, T0, z0) :: bs) W
  | [some v, some v', some _, none], W => ∃ g g', v = .pointer (some ⟨g, 0, none⟩) ∧ v' = .pointer (some ⟨g', 0, none⟩) ∧ w.heap.size + n ≤ g ∧ w.heap.size + n ≤ g' ∧ g ≠ g' ∧ (∀ x ∈ bs, x.1 ≠ g) ∧ (∀ x ∈ bs, x.1 ≠ g') ∧ SB w n ((g', T1, z1) :: (g, T0, x0) :: bs) W
  | [some v, some v', some _, some _], W => ∃ g g', v = .pointer (some ⟨g, 0, none⟩) ∧ v' = .pointer (some ⟨g', 0, none⟩) ∧ w.heap.size + n ≤ g ∧ w.heap.size + n ≤ g' ∧ g ≠ g' ∧ (∀ x ∈ bs, x.1 ≠ g) ∧ (∀ x ∈ bs, x.1 ≠ g') ∧ SB w n ((g', T1, x1) :: (g, T0, x0) :: bs) W
  | _, _ => False
section
variable {w W W' : World} {n : Nat} {bs : List (Nat × TypeId × Array Value)} {T0 T1 : TypeId} {z0 x0 z1 x1 : Array Value} {vals : List (Option Value)}
theorem SB.swap {x y : Nat × TypeId × Array Value} (h : SB w n (x :: y :: bs) W) : SB w n (y :: x :: bs) W :=
  ⟨h.bel, h.size, fun z hz => h.bk z (by simp only [List.mem_cons] at hz ⊢; rcases hz with e | e | e <;> simp [e])⟩
theorem S22.sb (h : S22 w n bs T0 z0 x0 T1 z1 x1 vals W) : SB w n bs W := by
  unfold S22 at h
  split at h
  · exact h
  · obtain ⟨_, _, _, _, h⟩ := h; exact h.tail
  · obtain ⟨_, _, _, _, h⟩ := h; exact h.tail
  · obtain ⟨_, _, _, _, _, _, _, _, _, h⟩ := h; exact h.tail.tail
  · obtain ⟨_, _, _, _, _, _, _, _, _, h⟩ := h; exact h.tail.tail
  · obtain ⟨_, _, _, _, _, _, _, _, _, h⟩ := h; exact h.tail.tail
  · exact h.elim
theorem S22.bk (h : S22 w n bs T0 z0 x0 T1 z1 x1 vals W) (i : Nat) {x : Nat × TypeId × Array Value} (hi : bs[i]? = some x) : Bk W x.1 x.2.1 x.2.2 := h.sb.box hi
theorem S22.call (h : S22 w n bs T0 z0 x0 T1 z1 x1 vals W) (hb : Below W.heap.size W W') : S22 w n bs T0 z0 x0 T1 z1 x1 vals W' := by
  unfold S22 at h ⊢
  split at h
  · exact h.call hb
  · obtain ⟨g, h1, h2, h3, h⟩ := h; exact ⟨g, h1, h2, h3, h.call hb⟩
  · obtain ⟨g, h1, h2, h3, h⟩ := h; exact ⟨g, h1, h2, h3, h.call hb⟩
  · obtain ⟨g, g', h1, h2, h3, h4, h5, h6, h7, h⟩ := h; exact ⟨g, g', h1, h2, h3, h4, h5, h6, h7, h.call hb⟩
  · obtain ⟨g, g', h1, h2, h3, h4, h5, h6, h7, h⟩ := h; exact ⟨g, g', h1, h2, h3, h4, h5, h6, h7, h.call hb⟩
  · obtain ⟨g, g', h1, h2, h3, h4, h5, h6, h7, h⟩ := h; exact ⟨g, g', h1, h2, h3, h4, h5, h6, h7, h.call hb⟩
  · exact h.elim
theorem S22.new0 (h : S22 w n bs T0 z0 x0 T1 z1 x1 vals W) (hl : vals.length = 4) (h0 : vals[0]? = some none) :
    S22 w n bs T0 z0 x0 T1 z1 x1 (vals.set 0 (some (.pointer (some ⟨W.heap.size, 0, none⟩)))) (W.alloc (.cells z0 T0)) := by
  match vals, hl with
  | [a, b, c, d], _ =>
    simp only [List.getElem?_cons_zero, Option.some.injEq] at h0
    subst h0
    cases c with
    | some c => exact absurd h (by cases b <;> cases d <;> exact id)
    | none =>
      cases d with
      | some d => exact absurd h (by cases b <;> exact id)
      | none =>
        cases b with
        | none =>
          have h : SB w n bs W := h
          exact ⟨_, rfl, h.size, fun x hx => Nat.ne_of_lt (h.bk x hx).lt, h.alloc T0 z0⟩
        | some b =>
          obtain ⟨g, h1, h2, h3, h⟩ := h
          exact ⟨_, g, rfl, h1, h.size, h2, Nat.ne_of_gt (h.bk _ (List.mem_cons_self ..)).lt, fun x hx => Nat.ne_of_lt (h.bk x (List.mem_cons_of_mem _ hx)).lt, h3, (h.alloc T0 z0).swap⟩
theorem S22.new1 (h : S22 w n bs T0 z0 x0 T1 z1 x1 vals W) (hl : vals.length = 4) (h0 : vals[1]? = some none) :
    S22 w n bs T0 z0 x0 T1 z1 x1 (vals.set 1 (some (.pointer (some ⟨W.heap.size, 0, none⟩)))) (W.alloc (.cells z1 T1)) := by
  match vals, hl with
  | [a, b, c, d], _ =>
    simp only [List.getElem?_cons_zero, List.getElem?_cons_succ, Option.some.injEq] at h0
    subst h0
    cases c with
    | some c => exact absurd h (by cases a <;> cases d <;> exact id)
    | none =>
      cases d with
      | some d => exact absurd h (by cases a <;> exact id)
      | none =>
        cases a with
        | none =>
          have h : SB w n bs W := h
          exact ⟨_, rfl, h.size, fun x hx => Nat.ne_of_lt (h.bk x hx).lt, h.alloc T1 z1⟩
        | some a =>
          obtain ⟨g, h1, h2, h3, h⟩ := h
          exact ⟨g, _, h1, rfl, h2, h.size, Nat.ne_of_lt (h.bk _ (List.mem_cons_self ..)).lt, h3, fun x hx => Nat.ne_of_lt (h.bk x (List.mem_cons_of_mem _ hx)).lt, h.alloc T1 z1⟩
theorem S22.at2 {a b c d v : Value} (h : S22 w n bs T0 #[a, b] #[c, d] T1 z1 x1 vals W) (hl : vals.length = 4) (h2 : vals[2]? = some none) (h0 : vals[0]? = some (some v)) (h1 : ∃ u, vals[1]? = some (some u)) :
    ∃ g, v = .pointer (some ⟨g, 0, none⟩) ∧ Bk W g T0 #[a, b] ∧ ∀ u, S22 w n bs T0 #[a, b] #[c, d] T1 z1 x1 (vals.set 2 (some u)) ((W.setCell ⟨g, 0, none⟩ c).setCell ⟨g, 1, none⟩ d) := by
  match vals, hl with
  | [q0, q1, q2, q3], _ =>
    obtain ⟨v1, h1⟩ := h1
    simp only [List.getElem?_cons_zero, List.getElem?_cons_succ, Option.some.injEq] at h0 h1 h2
    subst h0 h1 h2
    cases q3 with
    | some _ => exact h.elim
    | none =>
      obtain ⟨g, g', e1, e2, e3, e4, e5, e6, e7, h⟩ := h
      refine ⟨g, e1, h.bk _ (.tail _ (.head _)), fun u => ⟨g, g', e1, e2, e3, e4, e5, e6, e7, ?_⟩⟩
      exact h.put2 (g := g) (i := 1) rfl (by omega) (fun x hx => by
        rcases List.mem_cons.1 hx with rfl | hx
        · exact Ne.symm e5
        · exact e6 x hx) c d
theorem S22.at3 {a b c d v : Value} (h : S22 w n bs T0 z0 x0 T1 #[a, b] #[c, d] vals W) (hl : vals.length = 4) (h3 : vals[3]? = some none) (h1 : vals[1]? = some (some v)) (h2 : ∃ u, vals[2]? = some (some u)) (h0 : ∃ u, vals[0]? = some (some u)) :
    ∃ g, v = .pointer (some ⟨g, 0, none⟩) ∧ Bk W g T1 #[a, b] ∧ ∀ u, S22 w n bs T0 z0 x0 T1 #[a, b] #[c, d] (vals.set 3 (some u)) ((W.setCell ⟨g, 0, none⟩ c).setCell ⟨g, 1, none⟩ d) := by
  match vals, hl with
  | [q0, q1, q2, q3], _ =>
    obtain ⟨v0, h0⟩ := h0
    obtain ⟨v2, h2⟩ := h2
    simp only [List.getElem?_cons_zero, List.getElem?_cons_succ, Option.some.injEq] at h0 h1 h2 h3
    subst h0 h1 h2 h3
    obtain ⟨g, g', e1, e2, e3, e4, e5, e6, e7, h⟩ := h
    refine ⟨g', e2, h.bk _ (.head _), fun u => ⟨g, g', e1, e2, e3, e4, e5, e6, e7, ?_⟩⟩
    exact h.put2 (g := g') (i := 0) rfl (by omega) (fun x hx => by
      rcases List.mem_cons.1 hx with rfl | hx
      · exact e5
      · exact e7 x hx) c d
theorem S22.fin (h : S22 w n bs T0 z0 x0 T1 z1 x1 vals W) (hl : vals.length = 4) (ha : ∀ k : Nat, k < 4 → ∃ u : Value, vals[k]? = some (some u)) :
    ∃ g g', vals[0]? = some (some (.pointer (some ⟨g, 0, none⟩))) ∧ vals[1]? = some (some (.pointer (some ⟨g', 0, none⟩))) ∧ w.heap.size + n ≤ g ∧ w.heap.size + n ≤ g' ∧ g ≠ g' ∧ (∀ x ∈ bs, x.1 ≠ g) ∧ (∀ x ∈ bs, x.1 ≠ g') ∧ SB w n ((g', T1, x1) :: (g, T0, x0) :: bs) W := by
  match vals, hl with
  | [q0, q1, q2, q3], _ =>
    obtain ⟨v0, h0⟩ := ha 0 (by decide)
    obtain ⟨v1, h1⟩ := ha 1 (by decide)
    obtain ⟨v2, h2⟩ := ha 2 (by decide)
    obtain ⟨v3, h3⟩ := ha 3 (by decide)
    simp only [List.getElem?_cons_zero, List.getElem?_cons_succ, Option.some.injEq] at h0 h1 h2 h3
    subst h0 h1 h2 h3
    obtain ⟨g, g', e1, e2, e3, e4, e5, e6, e7, h⟩ := h
    exact ⟨g, g', by rw [← e1]; rfl, by rw [← e2]; rfl, e3, e4, e5, e6, e7, h⟩
end
end Go.Proofs.YtgjijjdpkmdcgaaDoor
