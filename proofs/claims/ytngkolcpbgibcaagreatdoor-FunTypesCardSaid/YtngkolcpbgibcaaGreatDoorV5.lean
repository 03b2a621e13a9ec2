/- val.Check of any value by its contract; what it takes is one of the five forms. Condition: utf8.ValidString keeps its contract; a text's length is one. -/
import Derived.Test.YtngkolcpbgibcaaGreatDoorBX
set_option linter.unusedVariables false
set_option linter.unusedSimpArgs false
namespace Go.Proofs.YtngkolcpbgibcaaGreatDoor
open Go.RowKit
def ckV (k m s : Int) (t : ByteArray) (b : Bool) (e : Int) : Int :=
  if k = 1 then (if t.toList = [] ∧ b = false ∧ e = 0 then ckE m s else 1)
  else if k = 2 then (if m = 0 ∧ s = 0 ∧ b = false ∧ e = 0 then uE t.data.toList else 1)
  else if k = 3 then (if m = 0 ∧ s = 0 ∧ t.toList = [] ∧ e = 0 then 0 else 1)
  else if k = 4 then (if m = 0 ∧ s = 0 ∧ t.toList = [] ∧ b = false then feE e else 1)
  else if k = 0 then (if m = 0 ∧ s = 0 ∧ t.toList = [] ∧ b = false ∧ e = 0 then 0 else 1) else 1
theorem empty_text {t : ByteArray} (h : t.toList = []) : t = ⟨#[]⟩ := toList_inj (by rw [h, ByteArray.toList_eq])
theorem check_v {w : World} (HV : Val w) (k m s : Int) (t : ByteArray) (b : Bool) (e : Int) (ht : t.size ≤ 140737488355328) :
    Calls Tryz.prog 17 #[.agg #[.int .i64 k, .int .i64 m, .int .i64 s, .string t, .bool b, .int .i64 e]] w fun x w' => x = .returned (.int .i64 (ckV k m s t b e)) ∧ Below w.heap.size w w' := by
  unfold ckV
  by_cases h1 : k = 1
  · subst h1; rw [if_pos rfl]
    by_cases h : t.toList = [] ∧ b = false ∧ e = 0
    · rw [if_pos h]; obtain ⟨h0, rfl, rfl⟩ := h; rw [empty_text h0]; exact check_num m s
    · rw [if_neg h]; exact check_bad_num m s t b e h
  rw [if_neg h1]
  by_cases h2 : k = 2
  · subst h2; rw [if_pos rfl]
    by_cases h : m = 0 ∧ s = 0 ∧ b = false ∧ e = 0
    · rw [if_pos h]; obtain ⟨rfl, rfl, rfl, rfl⟩ := h; exact check_str HV t ht
    · rw [if_neg h]; exact check_bad_str m s t b e h
  rw [if_neg h2]
  by_cases h3 : k = 3
  · subst h3; rw [if_pos rfl]
    by_cases h : m = 0 ∧ s = 0 ∧ t.toList = [] ∧ e = 0
    · rw [if_pos h]; obtain ⟨rfl, rfl, h0, rfl⟩ := h; rw [empty_text h0]; exact check_bool b
    · rw [if_neg h]; exact check_bad_bool m s t b e h
  rw [if_neg h3]
  by_cases h4 : k = 4
  · subst h4; rw [if_pos rfl]
    by_cases h : m = 0 ∧ s = 0 ∧ t.toList = [] ∧ b = false
    · rw [if_pos h]; obtain ⟨rfl, rfl, h0, rfl⟩ := h; rw [empty_text h0]; exact check_err e
    · rw [if_neg h]; exact check_bad_err m s t b e h
  rw [if_neg h4]
  by_cases h0 : k = 0
  · subst h0; rw [if_pos rfl]
    by_cases h : m = 0 ∧ s = 0 ∧ t.toList = [] ∧ b = false ∧ e = 0
    · rw [if_pos h]; obtain ⟨rfl, rfl, h0, rfl, rfl⟩ := h; rw [empty_text h0]; exact check_blank
    · rw [if_neg h]; exact check_bad_blank m s t b e h
  rw [if_neg h0]
  by_cases h : m = 0 ∧ s = 0 ∧ t.toList = [] ∧ b = false ∧ e = 0
  · obtain ⟨rfl, rfl, hh, rfl, rfl⟩ := h; rw [empty_text hh]; exact check_none k h0 h1 h2 h3 h4
  · exact check_bad_none k m s t b e h1 h2 h3 h4 h
theorem gd_ck {m s : Int} (h : ckE m s = 0) (h0 : -9223372036854775808 ≤ m) (h1 : m ≤ 9223372036854775807) : ∃ t : Nat, s = (t : Int) ∧ Gd m t := by
  unfold ckE at h
  by_cases hc : s < 0 ∨ 9 < s ∨ (0 < s ∧ m % 10 = 0)
  · rw [if_pos hc] at h; omega
  · refine ⟨s.toNat, by omega, ⟨h0, h1, by omega, ?_⟩⟩
    rcases Nat.eq_zero_or_pos s.toNat with h2 | h2
    · exact .inl h2
    · right; omega
theorem ckV_form {k m s : Int} {t : ByteArray} {b : Bool} {e : Int} (h : ckV k m s t b e = 0) (m0 : -9223372036854775808 ≤ m) (m1 : m ≤ 9223372036854775807) :
    ∃ x : VX, OkX x ∧ shortX t.size x ∧ k = x.kind ∧ .agg #[.int .i64 k, .int .i64 m, .int .i64 s, .string t, .bool b, .int .i64 e] = xval x := by
  unfold ckV at h
  by_cases h1 : k = 1
  · subst h1; rw [if_pos rfl] at h
    by_cases hh : t.toList = [] ∧ b = false ∧ e = 0
    · rw [if_pos hh] at h; obtain ⟨h0, rfl, rfl⟩ := hh; obtain ⟨n, rfl, hg⟩ := gd_ck h m0 m1; rw [empty_text h0]; exact ⟨.num m n, hg, trivial, rfl, rfl⟩
    · rw [if_neg hh] at h; omega
  rw [if_neg h1] at h
  by_cases h2 : k = 2
  · subst h2; rw [if_pos rfl] at h
    by_cases hh : m = 0 ∧ s = 0 ∧ b = false ∧ e = 0
    · rw [if_pos hh] at h; obtain ⟨rfl, rfl, rfl, rfl⟩ := hh; exact ⟨.str t.data.toList, h, Nat.le_of_eq Array.length_toList, rfl, rfl⟩
    · rw [if_neg hh] at h; omega
  rw [if_neg h2] at h
  by_cases h3 : k = 3
  · subst h3; rw [if_pos rfl] at h
    by_cases hh : m = 0 ∧ s = 0 ∧ t.toList = [] ∧ e = 0
    · obtain ⟨rfl, rfl, h0, rfl⟩ := hh; rw [empty_text h0]; exact ⟨.bool b, trivial, trivial, rfl, rfl⟩
    · rw [if_neg hh] at h; omega
  rw [if_neg h3] at h
  by_cases h4 : k = 4
  · subst h4; rw [if_pos rfl] at h
    by_cases hh : m = 0 ∧ s = 0 ∧ t.toList = [] ∧ b = false
    · rw [if_pos hh] at h; obtain ⟨rfl, rfl, h0, rfl⟩ := hh; rw [empty_text h0]; refine ⟨.err e, ?_, trivial, rfl, rfl⟩; unfold feE at h
      by_cases he : e = 0 ∨ e = 7 ∨ e = 15 ∨ e = 23 ∨ e = 29 ∨ e = 36 ∨ e = 42
      · exact he
      · rw [if_neg he] at h; omega
    · rw [if_neg hh] at h; omega
  rw [if_neg h4] at h
  by_cases h0 : k = 0
  · subst h0; rw [if_pos rfl] at h
    by_cases hh : m = 0 ∧ s = 0 ∧ t.toList = [] ∧ b = false ∧ e = 0
    · obtain ⟨rfl, rfl, h0, rfl, rfl⟩ := hh; rw [empty_text h0]; exact ⟨.blank, trivial, trivial, rfl, rfl⟩
    · rw [if_neg hh] at h; omega
  rw [if_neg h0] at h; omega
end Go.Proofs.YtngkolcpbgibcaaGreatDoor
