/- val.Same, val.Check of any value by their contracts. Condition: utf8.ValidString keeps its contract; a text's length is one. -/
import Derived.Test.YtkjiokepihmpfaaDoorV1
set_option linter.unusedVariables false
set_option linter.unusedSimpArgs false
namespace Go.Proofs.YtkjiokepihmpfaaDoor
open Go.RowKit

def sameB (k m s : Int) (t : ByteArray) (b : Bool) (e : Int) (k' m' s' : Int) (t' : ByteArray) (b' : Bool) (e' : Int) : Bool := decide (k = k' ∧ m = m' ∧ s = s' ∧ t = t' ∧ b = b' ∧ e = e')
theorem toList_inj {s t : ByteArray} (h : s.toList = t.toList) : s = t := by
  rw [ByteArray.toList_eq, ByteArray.toList_eq] at h
  exact ByteArray.ext (Array.toList_inj.1 h)
theorem same_any {w : World} (k m s : Int) (t : ByteArray) (b : Bool) (e : Int) (k' m' s' : Int) (t' : ByteArray) (b' : Bool) (e' : Int) :
    Calls Tryd.prog 85 #[.agg #[.int .i64 k, .int .i64 m, .int .i64 s, .string t, .bool b, .int .i64 e], .agg #[.int .i64 k', .int .i64 m', .int .i64 s', .string t', .bool b', .int .i64 e']] w fun x w' => x = .returned (.bool (sameB k m s t b e k' m' s' t' b' e')) ∧ Below w.heap.size w w' := by
  obtain ⟨V, hV⟩ : ∃ V, sameB k m s t b e k' m' s' t' b' e' = V := ⟨_, rfl⟩
  rw [hV]
  cases V with
  | true =>
    obtain ⟨rfl, rfl, rfl, rfl, rfl, rfl⟩ := of_decide_eq_true hV
    clear hV
    go_enter Tryd.func85, Tryd.ntmps85
    go_wp2
    go_ret
    exact ⟨rfl, bel1 _ _ _⟩
  | false =>
    have h := of_decide_eq_false hV
    clear hV
    go_enter Tryd.func85, Tryd.ntmps85
    go_wp2
    all_goals first
      | (go_ret; exact ⟨rfl, bel1 _ _ _⟩)
      | (exfalso; apply h; refine ⟨?_, ?_, ?_, toList_inj ?_, ?_, ?_⟩ <;> assumption)
def ckV (k m s : Int) (t : ByteArray) (b : Bool) (e : Int) : Int :=
  if k = 1 then (if t.toList = [] ∧ b = false ∧ e = 0 then ckE m s else 1)
  else if k = 2 then (if m = 0 ∧ s = 0 ∧ b = false ∧ e = 0 then uE t.data.toList else 1)
  else if k = 3 then (if m = 0 ∧ s = 0 ∧ t.toList = [] ∧ e = 0 then 0 else 1)
  else if k = 4 then (if m = 0 ∧ s = 0 ∧ t.toList = [] ∧ b = false then feE e else 1)
  else if k = 0 then (if m = 0 ∧ s = 0 ∧ t.toList = [] ∧ b = false ∧ e = 0 then 0 else 1) else 1

theorem empty_text {t : ByteArray} (h : t.toList = []) : t = ⟨#[]⟩ := toList_inj (by rw [h, ByteArray.toList_eq])

theorem check_v {w : World} (HV : Val w) (k m s : Int) (t : ByteArray) (b : Bool) (e : Int) (ht : t.size ≤ 140737488355328) :
    Calls Tryd.prog 14 #[.agg #[.int .i64 k, .int .i64 m, .int .i64 s, .string t, .bool b, .int .i64 e]] w fun x w' => x = .returned (.int .i64 (ckV k m s t b e)) ∧ Below w.heap.size w w' := by
  unfold ckV
  by_cases h1 : k = 1
  · subst h1
    rw [if_pos rfl]
    by_cases h : t.toList = [] ∧ b = false ∧ e = 0
    · rw [if_pos h]
      obtain ⟨h0, rfl, rfl⟩ := h
      rw [empty_text h0]
      exact check_num m s
    · rw [if_neg h]
      exact check_bad_num m s t b e h
  rw [if_neg h1]
  by_cases h2 : k = 2
  · subst h2
    rw [if_pos rfl]
    by_cases h : m = 0 ∧ s = 0 ∧ b = false ∧ e = 0
    · rw [if_pos h]
      obtain ⟨rfl, rfl, rfl, rfl⟩ := h
      exact check_str HV t ht
    · rw [if_neg h]
      exact check_bad_str m s t b e h
  rw [if_neg h2]
  by_cases h3 : k = 3
  · subst h3
    rw [if_pos rfl]
    by_cases h : m = 0 ∧ s = 0 ∧ t.toList = [] ∧ e = 0
    · rw [if_pos h]
      obtain ⟨rfl, rfl, h0, rfl⟩ := h
      rw [empty_text h0]
      exact check_bool b
    · rw [if_neg h]
      exact check_bad_bool m s t b e h
  rw [if_neg h3]
  by_cases h4 : k = 4
  · subst h4
    rw [if_pos rfl]
    by_cases h : m = 0 ∧ s = 0 ∧ t.toList = [] ∧ b = false
    · rw [if_pos h]
      obtain ⟨rfl, rfl, h0, rfl⟩ := h
      rw [empty_text h0]
      exact check_err e
    · rw [if_neg h]
      exact check_bad_err m s t b e h
  rw [if_neg h4]
  by_cases h0 : k = 0
  · subst h0
    rw [if_pos rfl]
    by_cases h : m = 0 ∧ s = 0 ∧ t.toList = [] ∧ b = false ∧ e = 0
    · rw [if_pos h]
      obtain ⟨rfl, rfl, h0, rfl, rfl⟩ := h
      rw [empty_text h0]
      exact check_blank
    · rw [if_neg h]
      exact check_bad_blank m s t b e h
  rw [if_neg h0]
  by_cases h : m = 0 ∧ s = 0 ∧ t.toList = [] ∧ b = false ∧ e = 0
  · obtain ⟨rfl, rfl, hh, rfl, rfl⟩ := h
    rw [empty_text hh]
    exact check_none k h0 h1 h2 h3 h4
  · exact check_bad_none k m s t b e h1 h2 h3 h4 h
end Go.Proofs.YtkjiokepihmpfaaDoor
