/- Values at forty-eight places, as a row of slots; as an array's cells. No condition. -/
import Derived.Test.YtkjiokepihmpfaaDoorKn14
set_option linter.unusedVariables false
set_option linter.unusedSimpArgs false
namespace Go.Proofs.YtkjiokepihmpfaaDoor
open Go.RowKit

/-- The k-th place. -/
def pk (k : Nat) : Pl := ⟨(k / 16 : Nat), (k / 4 % 4 : Nat), (k % 4 : Nat)⟩
theorem pk_ls {a b : Nat} : lsP (pk a) (pk b) = true ↔ a < b := by
  rw [lsP_iff]
  show (((a / 16 : Nat) : Int) < ((b / 16 : Nat) : Int) ∨ ((a / 16 : Nat) : Int) = ((b / 16 : Nat) : Int) ∧ (((a / 4 % 4 : Nat) : Int) < ((b / 4 % 4 : Nat) : Int) ∨ ((a / 4 % 4 : Nat) : Int) = ((b / 4 % 4 : Nat) : Int) ∧ ((a % 4 : Nat) : Int) < ((b % 4 : Nat) : Int))) ↔ a < b
  omega
theorem pk_no {a b : Nat} (h : b ≤ a) : lsP (pk a) (pk b) = false := by
  cases hh : lsP (pk a) (pk b) with
  | false => rfl
  | true => have := pk_ls.1 hh; omega
theorem pk_inj {a b : Nat} (h : eqP (pk a) (pk b) = true) : a = b := by
  have h := eqP_iff.1 h
  rcases Nat.lt_trichotomy a b with h1 | h1 | h1
  · have := pk_ls.2 h1; rw [h, lsP_irr] at this; cases this
  · exact h1
  · have := pk_ls.2 h1; rw [h, lsP_irr] at this; cases this
/-- The slot of the k-th place, if there is one. -/
def slh (h : Nat → Va) (k : Nat) : List Sl := if (h k).k = 0 then [] else [⟨pk k, h k⟩]
def rowA (h : Nat → Va) (i n : Nat) : List Sl := (List.range' i n).flatMap (slh h)
def rowH (h : Nat → Va) : List Sl := rowA h 0 48
def updH (h : Nat → Va) (k : Nat) (x : Va) : Nat → Va := fun j => if j = k then x else h j
theorem rowA_app (h : Nat → Va) (i n m : Nat) : rowA h i (n + m) = rowA h i n ++ rowA h (i + n) m := by
  unfold rowA
  rw [← List.flatMap_append]
  congr 1
  have := List.range'_append (s := i) (m := n) (n := m) (step := 1)
  rw [Nat.one_mul] at this
  exact this.symm
theorem rowA_cons (h : Nat → Va) (i n : Nat) : rowA h i (n + 1) = slh h i ++ rowA h (i + 1) n := by
  unfold rowA
  rw [List.range'_succ, List.flatMap_cons]
theorem row_cut (h : Nat → Va) {k : Nat} (hk : k < 48) : rowH h = rowA h 0 k ++ (slh h k ++ rowA h (k + 1) (47 - k)) := by
  unfold rowH
  have e : 48 = k + (47 - k + 1) := by omega
  rw [e, rowA_app, Nat.zero_add, rowA_cons]
theorem rowA_mem {h : Nat → Va} {i n : Nat} {x : Sl} (hx : x ∈ rowA h i n) : ∃ k, i ≤ k ∧ k < i + n ∧ x = ⟨pk k, h k⟩ ∧ (h k).k ≠ 0 := by
  obtain ⟨k, hk, hs⟩ := List.mem_flatMap.1 hx
  rw [List.mem_range'_1] at hk
  unfold slh at hs
  split at hs
  · cases hs
  · rename_i h0
    exact ⟨k, hk.1, hk.2, List.mem_singleton.1 hs, h0⟩
theorem rowA_len (h : Nat → Va) (i n : Nat) : (rowA h i n).length ≤ n := by
  induction n with
  | zero => exact Nat.le_refl _
  | succ n ih =>
    rw [rowA_app h i n 1, List.length_append]
    have : (rowA h (i + n) 1).length ≤ 1 := by
      rw [rowA_cons, List.length_append]
      have h1 : (rowA h (i + n + 1) 0).length = 0 := rfl
      have h2 : (slh h (i + n)).length ≤ 1 := by unfold slh; split <;> simp
      omega
    omega
theorem rowA_upd (h : Nat → Va) {k : Nat} (x : Va) {i n : Nat} (hk : k < i ∨ i + n ≤ k) : rowA (updH h k x) i n = rowA h i n := by
  induction n with
  | zero => rfl
  | succ n ih =>
    rw [rowA_app, rowA_app h i n 1, ih (by omega), rowA_cons, rowA_cons]
    have e : updH h k x (i + n) = h (i + n) := by unfold updH; rw [if_neg (by omega)]
    unfold slh
    rw [e]
    rfl
/-- What stands ahead of a place, at it, behind it. -/
theorem kth_H (h : Nat → Va) {k : Nat} (hk : k < 48) : kth (pk k) (rowH h) = (rowA h 0 k).length := by
  rw [row_cut h hk]
  refine kth_at (by rw [List.length_append]; omega) (fun i x hi hx => ?_) fun x hx => ?_
  · rw [List.getElem?_append_left hi] at hx
    obtain ⟨j, -, hj, rfl, -⟩ := rowA_mem (List.mem_of_getElem? hx)
    exact pk_ls.2 (by omega)
  · rw [List.getElem?_append_right (Nat.le_refl _), Nat.sub_self] at hx
    have hm := List.mem_of_getElem? hx
    rcases List.mem_append.1 hm with hm | hm
    · unfold slh at hm
      split at hm
      · cases hm
      · obtain rfl := List.mem_singleton.1 hm
        exact lsP_irr _
    · obtain ⟨j, hj, -, rfl, -⟩ := rowA_mem hm
      exact pk_no (by omega)
theorem at_H (h : Nat → Va) {k : Nat} (hk : k < 48) : (rowH h)[(rowA h 0 k).length]? = (slh h k ++ rowA h (k + 1) (47 - k))[0]? := by
  rw [row_cut h hk, List.getElem?_append_right (Nat.le_refl _), Nat.sub_self]
theorem has_H (h : Nat → Va) {k : Nat} (hk : k < 48) : hasP (pk k) (rowH h) = !decide ((h k).k = 0) := by
  unfold hasP
  rw [kth_H h hk, at_H h hk]
  unfold slh
  by_cases h0 : (h k).k = 0
  · rw [if_pos h0, decide_eq_true h0, List.nil_append]
    cases hx : (rowA h (k + 1) (47 - k))[0]? with
    | none => rfl
    | some x =>
      obtain ⟨j, hj, -, rfl, -⟩ := rowA_mem (List.mem_of_getElem? hx)
      show eqP (pk j) (pk k) = false
      cases hh : eqP (pk j) (pk k) with
      | false => rfl
      | true => have := pk_inj hh; omega
  · rw [if_neg h0, decide_eq_false h0]
    exact eqP_iff.2 rfl
theorem gdP_pk {k : Nat} (hk : k < 48) : gdP (pk k) 3 = true := by
  unfold gdP
  rw [Bool.and_eq_true]
  refine ⟨decide_eq_true ?_, gdB_iff.2 ?_⟩
  · show (0 : Int) ≤ ((k / 16 : Nat) : Int) ∧ ((k / 16 : Nat) : Int) < 3
    omega
  · show (0 : Int) ≤ ((k / 4 % 4 : Nat) : Int) ∧ ((k / 4 % 4 : Nat) : Int) < 65536 ∧ (0 : Int) ≤ ((k % 4 : Nat) : Int) ∧ ((k % 4 : Nat) : Int) < 256
    omega
/-- Blank is blank. -/
def BlH (h : Nat → Va) : Prop := ∀ k, (h k).k = 0 → h k = blV
theorem get_H {h : Nat → Va} (hb : BlH h) {k : Nat} (hk : k < 48) : getL 3 (rowH h) (pk k) = h k := by
  unfold getL
  rw [gdP_pk hk, has_H h hk, kth_H h hk, at_H h hk]
  by_cases h0 : (h k).k = 0
  · rw [decide_eq_true h0]
    exact (hb k h0).symm
  · rw [decide_eq_false h0]
    unfold slh
    rw [if_neg h0]
    rfl
theorem put_H (h : Nat → Va) (x : Va) {k : Nat} (hk : k < 48) : putR (rowH h) (pk k) x = rowH (updH h k x) := by
  have h1 : rowA (updH h k x) 0 k = rowA h 0 k := rowA_upd h x (.inr (by omega))
  have h2 : rowA (updH h k x) (k + 1) (47 - k) = rowA h (k + 1) (47 - k) := rowA_upd h x (.inl (by omega))
  have h3 : slh (updH h k x) k = if x.k = 0 then [] else [⟨pk k, x⟩] := by unfold slh updH; rw [if_pos rfl]
  unfold putR
  rw [has_H h hk, kth_H h hk, row_cut (updH h k x) hk, h1, h2, h3]
  congr 1
  · rw [row_cut h hk, List.take_append_of_le_length (Nat.le_refl _), List.take_length]
  · congr 1
    rw [row_cut h hk]
    by_cases h0 : (h k).k = 0
    · rw [decide_eq_true h0]
      unfold slh
      rw [if_pos h0, List.nil_append]
      exact List.drop_left
    · rw [decide_eq_false h0]
      unfold slh
      rw [if_neg h0]
      show List.drop ((rowA h 0 k).length + 1) (rowA h 0 k ++ (⟨pk k, h k⟩ :: rowA h (k + 1) (47 - k))) = _
      rw [List.drop_append, List.drop_eq_nil_of_le (by omega)]
      simp
theorem up_H (h : Nat → Va) : Up (rowH h) := by
  have key : ∀ n i, ∀ (a b : Nat) (x y : Sl), a < b → (rowA h i n)[a]? = some x → (rowA h i n)[b]? = some y → lsP x.p y.p = true := by
    intro n
    induction n with
    | zero => intro i a b x y _ hx; simp [rowA] at hx
    | succ n ih =>
      intro i a b x y hab hx hy
      rw [rowA_cons] at hx hy
      unfold slh at hx hy
      split at hx
      · rename_i h0
        rw [if_pos h0] at hy
        exact ih (i + 1) a b x y hab (by simpa using hx) (by simpa using hy)
      · rename_i h0
        rw [if_neg h0] at hy
        cases b with
        | zero => omega
        | succ b =>
          have hy' : (rowA h (i + 1) n)[b]? = some y := by simpa using hy
          cases a with
          | zero =>
            have hx' : (⟨pk i, h i⟩ : Sl) = x := by simpa using hx
            subst hx'
            obtain ⟨j, hj, -, rfl, -⟩ := rowA_mem (List.mem_of_getElem? hy')
            exact pk_ls.2 (by omega)
          | succ a => exact ih (i + 1) a b x y (by omega) (by simpa using hx) hy'
  exact key 48 0
/-- What is counted so far. -/
theorem len_s (h : Nat → Va) (k : Nat) : (rowA h 0 (k + 1)).length = (rowA h 0 k).length + (if (h k).k = 0 then 0 else 1) := by
  rw [rowA_app h 0 k 1, List.length_append, Nat.zero_add, rowA_cons, List.length_append]
  have h1 : (rowA h (k + 1) 0).length = 0 := rfl
  rw [h1]
  unfold slh
  split <;> rfl
/-- The array's cells. -/
def flc (f : Nat → List Value) (n : Nat) : List Value := (List.range n).flatMap f
theorem flc_s (f : Nat → List Value) (n : Nat) : flc f (n + 1) = flc f n ++ f n := by unfold flc; rw [List.range_succ, List.flatMap_append, List.flatMap_singleton]
def hsc (h : Nat → Va) (n : Nat) : List Value := flc (fun k => vac (h k)) n
theorem hsc_len (h : Nat → Va) : ∀ n, (hsc h n).length = n * 6
  | 0 => rfl
  | n + 1 => by
    have := hsc_len h n
    unfold hsc at *
    rw [flc_s, List.length_append, this]
    show n * 6 + 6 = (n + 1) * 6
    omega
theorem hsc_get (h : Nat → Va) {k : Nat} : ∀ {n : Nat}, k < n → ∀ {j : Nat} {u : Value}, (vac (h k))[j]? = some u → (hsc h n)[k * 6 + j]? = some u
  | 0, hk, _, _, _ => by omega
  | n + 1, hk, j, u, hj => by
    have hl := hsc_len h n
    have hj6 : j < 6 := (List.getElem?_eq_some_iff.1 hj).1
    unfold hsc at *
    rw [flc_s]
    rcases Nat.lt_or_eq_of_le (Nat.le_of_lt_succ hk) with h1 | rfl
    · rw [List.getElem?_append_left (by omega)]
      exact hsc_get h h1 hj
    · rw [List.getElem?_append_right (by omega), hl, Nat.add_sub_cancel_left]
      exact hj
theorem hsc_put (h : Nat → Va) (x : Va) {k : Nat} : ∀ {n : Nat}, k < n → (hsc h n).take (k * 6) ++ vac x ++ (hsc h n).drop (k * 6 + 6) = hsc (updH h k x) n
  | 0, hk => by omega
  | n + 1, hk => by
    have hl := hsc_len h n
    have hv : (vac (h n)).length = 6 := rfl
    have ih := fun (h1 : k < n) => hsc_put h x (k := k) (n := n) h1
    have hsame : k = n → hsc (updH h k x) n = hsc h n := by
      rintro rfl
      have key : ∀ m, m ≤ k → hsc (updH h k x) m = hsc h m := by
        intro m
        induction m with
        | zero => intro _; rfl
        | succ m ih2 =>
          intro hm
          have := ih2 (by omega)
          unfold hsc at *
          rw [flc_s, flc_s, this]
          congr 2
          unfold updH
          rw [if_neg (by omega)]
      exact key k (Nat.le_refl _)
    unfold hsc at *
    rw [flc_s, flc_s]
    rcases Nat.lt_or_eq_of_le (Nat.le_of_lt_succ hk) with h1 | h1
    · rw [List.take_append_of_le_length (by omega), List.drop_append_of_le_length (by omega), ← List.append_assoc, ih h1]
      congr 2
      unfold updH
      rw [if_neg (by omega)]
    · rw [hsame h1]
      subst h1
      rw [List.take_append_of_le_length (by omega), List.take_of_length_le (by omega), List.drop_append, List.drop_eq_nil_of_le (by omega), List.drop_eq_nil_of_le (by omega)]
      simp [updH]
end Go.Proofs.YtkjiokepihmpfaaDoor
