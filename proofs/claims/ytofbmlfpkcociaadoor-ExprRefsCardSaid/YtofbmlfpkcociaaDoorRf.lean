/- A row of places that lies in memory: what is left of it below; Refs by it. Condition: the formula reads as a tree that is not too great. -/
import Derived.Test.YtofbmlfpkcociaaDoorRe
set_option linter.unusedVariables false
set_option linter.unusedSimpArgs false
namespace Go.Proofs.YtofbmlfpkcociaaDoor
open Go.RowKit

/-- The value is a row of these places. -/
def RfV (l : List Pay) (v : Value) (W : World) : Prop :=
  ∃ A c, v = .slice A l.length c ∧ l.length ≤ c ∧ (0 < l.length → ∃ a, A = some a ∧ a.block < W.heap.size ∧ ∀ (i : Nat) (p : Pay), l[i]? = some p → ∀ (q : Nat) (u : Value), (lc p)[q]? = some u → W.cell? ((a.add (i * 18)).add q) = some u)
theorem RfV.below {l : List Pay} {v : Value} {W W' : World} (h : RfV l v W) (hb : Below W.heap.size W W') : RfV l v W' := by
  obtain ⟨A, c, h1, h2, h3⟩ := h
  refine ⟨A, c, h1, h2, fun hn => ?_⟩
  obtain ⟨a, e, ha, hc⟩ := h3 hn
  exact ⟨a, e, Nat.lt_of_lt_of_le ha hb.size, fun i p hi q u hu => (hb.cell (by rw [add_block, add_block]; exact ha)).trans (hc i p hi q u hu)⟩
theorem lc_len (p : Pay) : (lc p).length = 18 := rfl
theorem flat_lc : ∀ {l : List Pay} {i : Nat} {p : Pay}, l[i]? = some p → ∀ {q : Nat} {u : Value}, (lc p)[q]? = some u → (l.flatMap lc)[i * 18 + q]? = some u
  | [], _, _, h, _, _, _ => by simp at h
  | x :: l, 0, p, h, q, u, hu => by
    simp only [List.getElem?_cons_zero, Option.some.injEq] at h
    subst h
    have hq := (List.getElem?_eq_some_iff.1 hu).1
    rw [List.flatMap_cons, List.getElem?_append_left (by omega)]
    simpa using hu
  | x :: l, i + 1, p, h, q, u, hu => by
    rw [List.flatMap_cons, List.getElem?_append_right (by rw [lc_len]; omega), lc_len, show (i + 1) * 18 + q - 18 = i * 18 + q by omega]
    exact flat_lc (by simpa using h) hu
theorem refs_row {w : World} {p : Pay} {ks : List Tr} {A : Option Addr} {c : Nat} (h : AtT w p ks A c) (hC : cntT (.mk p ks) ≤ 100000) :
    Calls Tryd.prog 12 #[.agg (ec p (.slice A ks.length c)).toArray] w fun e W => ∃ vo, e = .returned vo ∧ RfV (rfT (.mk p ks)) vo W ∧ Below w.heap.size w W := by
  refine (refs_any h hC).mono ?_
  rintro e W ⟨vo, rfl, ho, hb⟩
  obtain ⟨S, cr, rfl, hle, -, hrd⟩ := own_form ho
  refine ⟨_, rfl, ⟨S, cr, rfl, hle, fun hn => ?_⟩, hb⟩
  obtain ⟨a, ha, hlt, hcell⟩ := hrd.at_ hn
  exact ⟨a, ha, hlt, fun i p hi q u hu => by rw [add_add]; exact hcell _ _ (flat_lc hi hu)⟩
end Go.Proofs.YtofbmlfpkcociaaDoor
