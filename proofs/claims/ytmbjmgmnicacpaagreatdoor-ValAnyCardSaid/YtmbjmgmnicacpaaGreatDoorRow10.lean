/- The reference's round by its contract. Condition: no more than five hundred digits, a thousand places. -/
import Derived.Test.YtmbjmgmnicacpaaGreatDoorRegI
namespace Go.Proofs.YtmbjmgmnicacpaaGreatDoor
open Go.RowKit

theorem Rd.dropN {w : World} {B n k : Nat} {a : Addr} {l : List Nat} (h : Rd w B 1 (some a) n (dcs l)) (hk : k ≤ n) : Rd w B 1 (some (a.add k)) (n - k) (dcs (l.drop k)) := by
  have hl := h.dlen
  refine ⟨by rw [dcs_len, List.length_drop]; omega, fun h0 => ?_⟩
  obtain ⟨a', ha, hb, hc⟩ := h.at_ (by omega)
  injection ha with ha
  subst ha
  refine ⟨_, rfl, by rw [add_block]; exact hb, fun j u hu => ?_⟩
  rw [add_add]
  refine hc (k + j) u ?_
  rw [← hu]
  simp [dcs, List.getElem?_drop]

/-- A number's row that is read, its box, and at the end another number in that box. -/
def S4 (w : World) (n : Nat) (bs : List (Nat × TypeId × Array Value)) (g : Nat) (b : Bool) (A : Option Addr) (m c : Nat) (L : List Nat) (V : Int) : List Value → World → Prop
  | [], W => SB w n ((g, 98, #[.bool b, .slice A m c]) :: bs) W ∧ Rd W W.heap.size 1 A m (dcs L)
  | _ :: _, W => ∃ b' A' m' c', BigN W (.agg #[.bool b', .slice A' m' c']) V ∧ SB w n ((g, 98, #[.bool b', .slice A' m' c']) :: bs) W
section
variable {w W W' : World} {n g m c : Nat} {bs : List (Nat × TypeId × Array Value)} {V : Int} {vals : List Value} {b : Bool} {A : Option Addr} {L : List Nat}
theorem S4.call (h : S4 w n bs g b A m c L V vals W) (hb : Below W.heap.size W W') : S4 w n bs g b A m c L V vals W' := by
  match vals, h with
  | [], h => exact ⟨SB.call h.1 hb, (h.2.below hb).mono hb.size⟩
  | _ :: _, ⟨b', A', m', c', h1, h2⟩ => exact ⟨b', A', m', c', h1.below hb, SB.call h2 hb⟩
theorem S4.bk (h : S4 w n bs g b A m c L V vals W) {x : Nat × TypeId × Array Value} (h1 : x ∈ bs) : Bk W x.1 x.2.1 x.2.2 := by
  match vals, h with
  | [], h => exact h.1.bk x (List.mem_cons_of_mem _ h1)
  | _ :: _, ⟨_, _, _, _, _, h⟩ => exact h.bk x (List.mem_cons_of_mem _ h1)
theorem S4.size (h : S4 w n bs g b A m c L V vals W) : w.heap.size + n ≤ W.heap.size := by
  match vals, h with
  | [], h => exact h.1.size
  | _ :: _, ⟨_, _, _, _, _, h⟩ => exact h.size
end
/-- A row of digits worth N; a number in such digits. -/
def FSum (N : Nat) : Value → World → Prop := fun v W => ∃ A m c L, v = .slice A m c ∧ m ≤ c ∧ c ≤ maxLen ∧ Digs L ∧ dval L = N ∧ Rd W W.heap.size 1 A m (dcs L)
def FSumB (b : Bool) (N : Nat) : Value → World → Prop := fun v W => ∃ L, Digs L ∧ dval L = N ∧ BigV W v b L
theorem st_sum {N : Nat} : Stable EI (FSum N) := fun v w w' hE h => by
  obtain ⟨A, m, c, L, h1, h2, h3, h4, h5, h6⟩ := h
  exact ⟨A, m, c, L, h1, h2, h3, h4, h5, h6.ei hE⟩
theorem st_sumb {b : Bool} {N : Nat} : Stable EI (FSumB b N) := fun v w w' hE h => by
  obtain ⟨L, h1, h2, h3⟩ := h
  exact ⟨L, h1, h2, h3.ei hE⟩
theorem digs_one : Digs [1] ∧ dval [1] = 1 := ⟨fun d hd => by obtain rfl := List.mem_singleton.1 hd; omega, rfl⟩
theorem S3.bel {w W : World} {n : Nat} {bs : List (Nat × TypeId × Array Value)} {V : Int} {vals : List Value} (h : S3 w n bs V vals W) : Below w.heap.size w W := by
  match vals, h with
  | [], h => exact SB.bel h
  | [_], ⟨g, _, _, h⟩ => exact h.bel
  | _ :: _ :: _, ⟨g, _, _, _, _, h⟩ => exact h.bel
theorem SB.swp {w W : World} {n : Nat} {x y : Nat × TypeId × Array Value} (h : SB w n [x, y] W) : SB w n [y, x] W :=
  ⟨h.bel, h.size, fun z hz => h.bk z (by simp at hz ⊢; rcases hz with h | h <;> simp [h])⟩

end Go.Proofs.YtmbjmgmnicacpaaGreatDoor
