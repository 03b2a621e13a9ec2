/- val.Compare of any two values that may be, and val.Same, by their contracts. Condition: the texts are not too long. -/
/- val.Check of any value by its contract; what it takes is one of the five forms. Condition: utf8.ValidString keeps its contract; a text's length is one. -/
import Derived.Test.YtmbjmgmnicacpaaGreatDoorV3
import Derived.Test.YtmbjmgmnicacpaaGreatDoorD2
namespace Go.Proofs.YtmbjmgmnicacpaaGreatDoor
open Go.RowKit

def xval : VX → Value
  | .blank => .agg #[.int .i64 0, .int .i64 0, .int .i64 0, .string ⟨#[]⟩, .bool false, .int .i64 0]
  | .num m s => .agg #[.int .i64 1, .int .i64 m, .int .i64 (s : Nat), .string ⟨#[]⟩, .bool false, .int .i64 0]
  | .str t => .agg #[.int .i64 2, .int .i64 0, .int .i64 0, .string ⟨t.toArray⟩, .bool false, .int .i64 0]
  | .bool b => .agg #[.int .i64 3, .int .i64 0, .int .i64 0, .string ⟨#[]⟩, .bool b, .int .i64 0]
  | .err e => .agg #[.int .i64 4, .int .i64 0, .int .i64 0, .string ⟨#[]⟩, .bool false, .int .i64 e]
/-- Its text is no longer than n. -/
def shortX (n : Nat) : VX → Prop
  | .str t => t.length ≤ n
  | _ => True

theorem cmpx_any {w : World} {a b : VX} (ha : OkX a) (hb : OkX b) (sa : shortX 10000000 a) (sb : shortX 10000000 b) :
    Calls Tryz.prog 18 #[xval a, xval b] w fun x w' => x = .returned (.int .i64 (cmpX a b)) ∧ Below w.heap.size w w' := by
  have bs : ∀ l : List UInt8, (⟨l.toArray⟩ : ByteArray).size = l.length := fun l => by simp [ByteArray.size]
  cases a with
  | blank =>
    cases b with
    | blank =>
      exact compare_blank (fun W => filled_blank 0 _ _ _ _ _ (by decide)) (fun W => filled_blank 0 _ _ _ _ _ (by decide))
    | num m2 s2 =>
      exact compare_num (fun W => filled_blank 1 _ _ _ _ _ (by decide)) (fun W => filled_non 1 _ _ _ _ _ _ _ _ _ _ _ (by decide)) (fun W => compare_any (w := W) (show Gd 0 0 from ⟨by decide, by decide, by decide, .inl rfl⟩) hb)
    | str t2 =>
      exact compare_str (fun W => filled_blank 2 _ _ _ _ _ (by decide)) (fun W => filled_non 2 _ _ _ _ _ _ _ _ _ _ _ (by decide)) (fun W => compareTexts_any (w := W) ⟨(([] : List UInt8)).toArray⟩ ⟨(t2).toArray⟩ (by decide) (by rw [bs]; have : t2.length ≤ 10000000 := sb; omega))
    | bool b2 =>
      exact compare_bool (fun W => filled_blank 3 _ _ _ _ _ (by decide)) (fun W => filled_non 3 _ _ _ _ _ _ _ _ _ _ _ (by decide))
    | err e2 =>
      exact compare_kinds (fun W => filled_err _ _ _ _ _) (fun W => filled_non 4 _ _ _ _ _ _ _ _ _ _ _ (by decide)) (by decide)
  | num m1 s1 =>
    cases b with
    | blank =>
      exact compare_num (fun W => filled_non 1 _ _ _ _ _ _ _ _ _ _ _ (by decide)) (fun W => filled_blank 1 _ _ _ _ _ (by decide)) (fun W => compare_any (w := W) ha (show Gd 0 0 from ⟨by decide, by decide, by decide, .inl rfl⟩))
    | num m2 s2 =>
      exact compare_num (fun W => filled_non 1 _ _ _ _ _ _ _ _ _ _ _ (by decide)) (fun W => filled_non 1 _ _ _ _ _ _ _ _ _ _ _ (by decide)) (fun W => compare_any (w := W) ha hb)
    | str t2 =>
      exact compare_kinds (fun W => filled_non 1 _ _ _ _ _ _ _ _ _ _ _ (by decide)) (fun W => filled_non 2 _ _ _ _ _ _ _ _ _ _ _ (by decide)) (by decide)
    | bool b2 =>
      exact compare_kinds (fun W => filled_non 1 _ _ _ _ _ _ _ _ _ _ _ (by decide)) (fun W => filled_non 3 _ _ _ _ _ _ _ _ _ _ _ (by decide)) (by decide)
    | err e2 =>
      exact compare_kinds (fun W => filled_non 1 _ _ _ _ _ _ _ _ _ _ _ (by decide)) (fun W => filled_non 4 _ _ _ _ _ _ _ _ _ _ _ (by decide)) (by decide)
  | str t1 =>
    cases b with
    | blank =>
      exact compare_str (fun W => filled_non 2 _ _ _ _ _ _ _ _ _ _ _ (by decide)) (fun W => filled_blank 2 _ _ _ _ _ (by decide)) (fun W => compareTexts_any (w := W) ⟨(t1).toArray⟩ ⟨(([] : List UInt8)).toArray⟩ (by rw [bs]; have : t1.length ≤ 10000000 := sa; omega) (by decide))
    | num m2 s2 =>
      exact compare_kinds (fun W => filled_non 2 _ _ _ _ _ _ _ _ _ _ _ (by decide)) (fun W => filled_non 1 _ _ _ _ _ _ _ _ _ _ _ (by decide)) (by decide)
    | str t2 =>
      exact compare_str (fun W => filled_non 2 _ _ _ _ _ _ _ _ _ _ _ (by decide)) (fun W => filled_non 2 _ _ _ _ _ _ _ _ _ _ _ (by decide)) (fun W => compareTexts_any (w := W) ⟨(t1).toArray⟩ ⟨(t2).toArray⟩ (by rw [bs]; have : t1.length ≤ 10000000 := sa; omega) (by rw [bs]; have : t2.length ≤ 10000000 := sb; omega))
    | bool b2 =>
      exact compare_kinds (fun W => filled_non 2 _ _ _ _ _ _ _ _ _ _ _ (by decide)) (fun W => filled_non 3 _ _ _ _ _ _ _ _ _ _ _ (by decide)) (by decide)
    | err e2 =>
      exact compare_kinds (fun W => filled_non 2 _ _ _ _ _ _ _ _ _ _ _ (by decide)) (fun W => filled_non 4 _ _ _ _ _ _ _ _ _ _ _ (by decide)) (by decide)
  | bool b1 =>
    cases b with
    | blank =>
      exact compare_bool (fun W => filled_non 3 _ _ _ _ _ _ _ _ _ _ _ (by decide)) (fun W => filled_blank 3 _ _ _ _ _ (by decide))
    | num m2 s2 =>
      exact compare_kinds (fun W => filled_non 3 _ _ _ _ _ _ _ _ _ _ _ (by decide)) (fun W => filled_non 1 _ _ _ _ _ _ _ _ _ _ _ (by decide)) (by decide)
    | str t2 =>
      exact compare_kinds (fun W => filled_non 3 _ _ _ _ _ _ _ _ _ _ _ (by decide)) (fun W => filled_non 2 _ _ _ _ _ _ _ _ _ _ _ (by decide)) (by decide)
    | bool b2 =>
      exact compare_bool (fun W => filled_non 3 _ _ _ _ _ _ _ _ _ _ _ (by decide)) (fun W => filled_non 3 _ _ _ _ _ _ _ _ _ _ _ (by decide))
    | err e2 =>
      exact compare_kinds (fun W => filled_non 3 _ _ _ _ _ _ _ _ _ _ _ (by decide)) (fun W => filled_non 4 _ _ _ _ _ _ _ _ _ _ _ (by decide)) (by decide)
  | err e1 =>
    cases b with
    | blank =>
      exact compare_kinds (fun W => filled_non 4 _ _ _ _ _ _ _ _ _ _ _ (by decide)) (fun W => filled_err _ _ _ _ _) (by decide)
    | num m2 s2 =>
      exact compare_kinds (fun W => filled_non 4 _ _ _ _ _ _ _ _ _ _ _ (by decide)) (fun W => filled_non 1 _ _ _ _ _ _ _ _ _ _ _ (by decide)) (by decide)
    | str t2 =>
      exact compare_kinds (fun W => filled_non 4 _ _ _ _ _ _ _ _ _ _ _ (by decide)) (fun W => filled_non 2 _ _ _ _ _ _ _ _ _ _ _ (by decide)) (by decide)
    | bool b2 =>
      exact compare_kinds (fun W => filled_non 4 _ _ _ _ _ _ _ _ _ _ _ (by decide)) (fun W => filled_non 3 _ _ _ _ _ _ _ _ _ _ _ (by decide)) (by decide)
    | err e2 =>
      exact compare_err (fun W => filled_non 4 _ _ _ _ _ _ _ _ _ _ _ (by decide)) (fun W => filled_non 4 _ _ _ _ _ _ _ _ _ _ _ (by decide))

def sameB (k m s : Int) (t : ByteArray) (b : Bool) (e : Int) (k' m' s' : Int) (t' : ByteArray) (b' : Bool) (e' : Int) : Bool := decide (k = k' ∧ m = m' ∧ s = s' ∧ t = t' ∧ b = b' ∧ e = e')
theorem toList_inj {s t : ByteArray} (h : s.toList = t.toList) : s = t := by
  rw [ByteArray.toList_eq, ByteArray.toList_eq] at h
  exact ByteArray.ext (Array.toList_inj.1 h)
theorem same_any {w : World} (k m s : Int) (t : ByteArray) (b : Bool) (e : Int) (k' m' s' : Int) (t' : ByteArray) (b' : Bool) (e' : Int) :
    Calls Tryz.prog 8 #[.agg #[.int .i64 k, .int .i64 m, .int .i64 s, .string t, .bool b, .int .i64 e], .agg #[.int .i64 k', .int .i64 m', .int .i64 s', .string t', .bool b', .int .i64 e']] w fun x w' => x = .returned (.bool (sameB k m s t b e k' m' s' t' b' e')) ∧ Below w.heap.size w w' := by
  obtain ⟨V, hV⟩ : ∃ V, sameB k m s t b e k' m' s' t' b' e' = V := ⟨_, rfl⟩
  rw [hV]
  cases V with
  | true =>
    obtain ⟨rfl, rfl, rfl, rfl, rfl, rfl⟩ := of_decide_eq_true hV
    clear hV
    go_enter Tryz.func8, Tryz.ntmps8
    go_wp2
    go_ret
    exact ⟨rfl, bel1 _ _ _⟩
  | false =>
    have h := of_decide_eq_false hV
    clear hV
    go_enter Tryz.func8, Tryz.ntmps8
    go_wp2
    all_goals first
      | (go_ret; exact ⟨rfl, bel1 _ _ _⟩)
      | (exfalso; apply h; refine ⟨?_, ?_, ?_, toList_inj ?_, ?_, ?_⟩ <;> assumption)
end Go.Proofs.YtmbjmgmnicacpaaGreatDoor
namespace Go.Proofs.YtmbjmgmnicacpaaGreatDoor
open Go.RowKit

def ckV (k m s : Int) (t : ByteArray) (b : Bool) (e : Int) : Int :=
  if k = 1 then (if t.toList = [] ∧ b = false ∧ e = 0 then ckE m s else 1)
  else if k = 2 then (if m = 0 ∧ s = 0 ∧ b = false ∧ e = 0 then uE t.data.toList else 1)
  else if k = 3 then (if m = 0 ∧ s = 0 ∧ t.toList = [] ∧ e = 0 then 0 else 1)
  else if k = 4 then (if m = 0 ∧ s = 0 ∧ t.toList = [] ∧ b = false then feE e else 1)
  else if k = 0 then (if m = 0 ∧ s = 0 ∧ t.toList = [] ∧ b = false ∧ e = 0 then 0 else 1) else 1

theorem empty_text {t : ByteArray} (h : t.toList = []) : t = ⟨#[]⟩ := toList_inj (by rw [h, ByteArray.toList_eq])

theorem check_v {w : World} (HV : Val w) (k m s : Int) (t : ByteArray) (b : Bool) (e : Int) (ht : t.size ≤ 140737488355328) :
    Calls Tryz.prog 6 #[.agg #[.int .i64 k, .int .i64 m, .int .i64 s, .string t, .bool b, .int .i64 e]] w fun x w' => x = .returned (.int .i64 (ckV k m s t b e)) ∧ Below w.heap.size w w' := by
  unfold ckV
  by_cases h1 : k = 1
  · subst h1
    rw [if_pos rfl]
    by_cases h : t.toList = [] ∧ b = false ∧ e = 0
    · rw [if_pos h]
      obtain ⟨h0, rfl, rfl⟩ := h
      rw [empty_text h0]
      exact check_num m s
    · rw [if_neg h]
      exact check_bad_num m s t b e h
  rw [if_neg h1]
  by_cases h2 : k = 2
  · subst h2
    rw [if_pos rfl]
    by_cases h : m = 0 ∧ s = 0 ∧ b = false ∧ e = 0
    · rw [if_pos h]
      obtain ⟨rfl, rfl, rfl, rfl⟩ := h
      exact check_str HV t ht
    · rw [if_neg h]
      exact check_bad_str m s t b e h
  rw [if_neg h2]
  by_cases h3 : k = 3
  · subst h3
    rw [if_pos rfl]
    by_cases h : m = 0 ∧ s = 0 ∧ t.toList = [] ∧ e = 0
    · rw [if_pos h]
      obtain ⟨rfl, rfl, h0, rfl⟩ := h
      rw [empty_text h0]
      exact check_bool b
    · rw [if_neg h]
      exact check_bad_bool m s t b e h
  rw [if_neg h3]
  by_cases h4 : k = 4
  · subst h4
    rw [if_pos rfl]
    by_cases h : m = 0 ∧ s = 0 ∧ t.toList = [] ∧ b = false
    · rw [if_pos h]
      obtain ⟨rfl, rfl, h0, rfl⟩ := h
      rw [empty_text h0]
      exact check_err e
    · rw [if_neg h]
      exact check_bad_err m s t b e h
  rw [if_neg h4]
  by_cases h0 : k = 0
  · subst h0
    rw [if_pos rfl]
    by_cases h : m = 0 ∧ s = 0 ∧ t.toList = [] ∧ b = false ∧ e = 0
    · rw [if_pos h]
      obtain ⟨rfl, rfl, h0, rfl, rfl⟩ := h
      rw [empty_text h0]
      exact check_blank
    · rw [if_neg h]
      exact check_bad_blank m s t b e h
  rw [if_neg h0]
  by_cases h : m = 0 ∧ s = 0 ∧ t.toList = [] ∧ b = false ∧ e = 0
  · obtain ⟨rfl, rfl, hh, rfl, rfl⟩ := h
    rw [empty_text hh]
    exact check_none k h0 h1 h2 h3 h4
  · exact check_bad_none k m s t b e h1 h2 h3 h4 h

theorem gd_ck {m s : Int} (h : ckE m s = 0) (h0 : -9223372036854775808 ≤ m) (h1 : m ≤ 9223372036854775807) : ∃ t : Nat, s = (t : Int) ∧ Gd m t := by
  unfold ckE at h
  by_cases hc : s < 0 ∨ 9 < s ∨ (0 < s ∧ m % 10 = 0)
  · rw [if_pos hc] at h; omega
  · refine ⟨s.toNat, by omega, ⟨h0, h1, by omega, ?_⟩⟩
    rcases Nat.eq_zero_or_pos s.toNat with h2 | h2
    · exact .inl h2
    · right; omega

/-- What Check takes. -/
theorem ckV_form {k m s : Int} {t : ByteArray} {b : Bool} {e : Int} (h : ckV k m s t b e = 0) (m0 : -9223372036854775808 ≤ m) (m1 : m ≤ 9223372036854775807) :
    ∃ x : VX, OkX x ∧ shortX t.size x ∧ k = x.kind ∧ .agg #[.int .i64 k, .int .i64 m, .int .i64 s, .string t, .bool b, .int .i64 e] = xval x := by
  unfold ckV at h
  by_cases h1 : k = 1
  · subst h1
    rw [if_pos rfl] at h
    by_cases hh : t.toList = [] ∧ b = false ∧ e = 0
    · rw [if_pos hh] at h
      obtain ⟨h0, rfl, rfl⟩ := hh
      obtain ⟨n, rfl, hg⟩ := gd_ck h m0 m1
      rw [empty_text h0]
      exact ⟨.num m n, hg, trivial, rfl, rfl⟩
    · rw [if_neg hh] at h; omega
  rw [if_neg h1] at h
  by_cases h2 : k = 2
  · subst h2
    rw [if_pos rfl] at h
    by_cases hh : m = 0 ∧ s = 0 ∧ b = false ∧ e = 0
    · rw [if_pos hh] at h
      obtain ⟨rfl, rfl, rfl, rfl⟩ := hh
      exact ⟨.str t.data.toList, h, Nat.le_of_eq Array.length_toList, rfl, rfl⟩
    · rw [if_neg hh] at h; omega
  rw [if_neg h2] at h
  by_cases h3 : k = 3
  · subst h3
    rw [if_pos rfl] at h
    by_cases hh : m = 0 ∧ s = 0 ∧ t.toList = [] ∧ e = 0
    · obtain ⟨rfl, rfl, h0, rfl⟩ := hh
      rw [empty_text h0]
      exact ⟨.bool b, trivial, trivial, rfl, rfl⟩
    · rw [if_neg hh] at h; omega
  rw [if_neg h3] at h
  by_cases h4 : k = 4
  · subst h4
    rw [if_pos rfl] at h
    by_cases hh : m = 0 ∧ s = 0 ∧ t.toList = [] ∧ b = false
    · rw [if_pos hh] at h
      obtain ⟨rfl, rfl, h0, rfl⟩ := hh
      rw [empty_text h0]
      refine ⟨.err e, ?_, trivial, rfl, rfl⟩
      unfold feE at h
      by_cases he : e = 0 ∨ e = 7 ∨ e = 15 ∨ e = 23 ∨ e = 29 ∨ e = 36 ∨ e = 42
      · exact he
      · rw [if_neg he] at h; omega
    · rw [if_neg hh] at h; omega
  rw [if_neg h4] at h
  by_cases h0 : k = 0
  · subst h0
    rw [if_pos rfl] at h
    by_cases hh : m = 0 ∧ s = 0 ∧ t.toList = [] ∧ b = false ∧ e = 0
    · obtain ⟨rfl, rfl, h0, rfl, rfl⟩ := hh
      rw [empty_text h0]
      exact ⟨.blank, trivial, trivial, rfl, rfl⟩
    · rw [if_neg hh] at h; omega
  rw [if_neg h0] at h
  omega
end Go.Proofs.YtmbjmgmnicacpaaGreatDoor
