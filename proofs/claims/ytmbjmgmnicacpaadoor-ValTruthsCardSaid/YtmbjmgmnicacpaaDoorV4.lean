/- val.Compare of any two values that may be, and val.Same, by their contracts. Condition: the texts are not too long. -/
import Derived.Test.YtmbjmgmnicacpaaDoorV3
import Derived.Test.YtmbjmgmnicacpaaDoorD2
namespace Go.Proofs.YtmbjmgmnicacpaaDoor
open Go.RowKit

def xval : VX → Value
  | .blank => .agg #[.int .i64 0, .int .i64 0, .int .i64 0, .string ⟨#[]⟩, .bool false, .int .i64 0]
  | .num m s => .agg #[.int .i64 1, .int .i64 m, .int .i64 (s : Nat), .string ⟨#[]⟩, .bool false, .int .i64 0]
  | .str t => .agg #[.int .i64 2, .int .i64 0, .int .i64 0, .string ⟨t.toArray⟩, .bool false, .int .i64 0]
  | .bool b => .agg #[.int .i64 3, .int .i64 0, .int .i64 0, .string ⟨#[]⟩, .bool b, .int .i64 0]
  | .err e => .agg #[.int .i64 4, .int .i64 0, .int .i64 0, .string ⟨#[]⟩, .bool false, .int .i64 e]
/-- Its text is no longer than n. -/
def shortX (n : Nat) : VX → Prop
  | .str t => t.length ≤ n
  | _ => True

theorem cmpx_any {w : World} {a b : VX} (ha : OkX a) (hb : OkX b) (sa : shortX 10000000 a) (sb : shortX 10000000 b) :
    Calls Tryd.prog 8 #[xval a, xval b] w fun x w' => x = .returned (.int .i64 (cmpX a b)) ∧ Below w.heap.size w w' := by
  have bs : ∀ l : List UInt8, (⟨l.toArray⟩ : ByteArray).size = l.length := fun l => by simp [ByteArray.size]
  cases a with
  | blank =>
    cases b with
    | blank =>
      exact compare_blank (fun W => filled_blank 0 _ _ _ _ _ (by decide)) (fun W => filled_blank 0 _ _ _ _ _ (by decide))
    | num m2 s2 =>
      exact compare_num (fun W => filled_blank 1 _ _ _ _ _ (by decide)) (fun W => filled_non 1 _ _ _ _ _ _ _ _ _ _ _ (by decide)) (fun W => compare_any (w := W) (show Gd 0 0 from ⟨by decide, by decide, by decide, .inl rfl⟩) hb)
    | str t2 =>
      exact compare_str (fun W => filled_blank 2 _ _ _ _ _ (by decide)) (fun W => filled_non 2 _ _ _ _ _ _ _ _ _ _ _ (by decide)) (fun W => compareTexts_any (w := W) ⟨(([] : List UInt8)).toArray⟩ ⟨(t2).toArray⟩ (by decide) (by rw [bs]; have : t2.length ≤ 10000000 := sb; omega))
    | bool b2 =>
      exact compare_bool (fun W => filled_blank 3 _ _ _ _ _ (by decide)) (fun W => filled_non 3 _ _ _ _ _ _ _ _ _ _ _ (by decide))
    | err e2 =>
      exact compare_kinds (fun W => filled_err _ _ _ _ _) (fun W => filled_non 4 _ _ _ _ _ _ _ _ _ _ _ (by decide)) (by decide)
  | num m1 s1 =>
    cases b with
    | blank =>
      exact compare_num (fun W => filled_non 1 _ _ _ _ _ _ _ _ _ _ _ (by decide)) (fun W => filled_blank 1 _ _ _ _ _ (by decide)) (fun W => compare_any (w := W) ha (show Gd 0 0 from ⟨by decide, by decide, by decide, .inl rfl⟩))
    | num m2 s2 =>
      exact compare_num (fun W => filled_non 1 _ _ _ _ _ _ _ _ _ _ _ (by decide)) (fun W => filled_non 1 _ _ _ _ _ _ _ _ _ _ _ (by decide)) (fun W => compare_any (w := W) ha hb)
    | str t2 =>
      exact compare_kinds (fun W => filled_non 1 _ _ _ _ _ _ _ _ _ _ _ (by decide)) (fun W => filled_non 2 _ _ _ _ _ _ _ _ _ _ _ (by decide)) (by decide)
    | bool b2 =>
      exact compare_kinds (fun W => filled_non 1 _ _ _ _ _ _ _ _ _ _ _ (by decide)) (fun W => filled_non 3 _ _ _ _ _ _ _ _ _ _ _ (by decide)) (by decide)
    | err e2 =>
      exact compare_kinds (fun W => filled_non 1 _ _ _ _ _ _ _ _ _ _ _ (by decide)) (fun W => filled_non 4 _ _ _ _ _ _ _ _ _ _ _ (by decide)) (by decide)
  | str t1 =>
    cases b with
    | blank =>
      exact compare_str (fun W => filled_non 2 _ _ _ _ _ _ _ _ _ _ _ (by decide)) (fun W => filled_blank 2 _ _ _ _ _ (by decide)) (fun W => compareTexts_any (w := W) ⟨(t1).toArray⟩ ⟨(([] : List UInt8)).toArray⟩ (by rw [bs]; have : t1.length ≤ 10000000 := sa; omega) (by decide))
    | num m2 s2 =>
      exact compare_kinds (fun W => filled_non 2 _ _ _ _ _ _ _ _ _ _ _ (by decide)) (fun W => filled_non 1 _ _ _ _ _ _ _ _ _ _ _ (by decide)) (by decide)
    | str t2 =>
      exact compare_str (fun W => filled_non 2 _ _ _ _ _ _ _ _ _ _ _ (by decide)) (fun W => filled_non 2 _ _ _ _ _ _ _ _ _ _ _ (by decide)) (fun W => compareTexts_any (w := W) ⟨(t1).toArray⟩ ⟨(t2).toArray⟩ (by rw [bs]; have : t1.length ≤ 10000000 := sa; omega) (by rw [bs]; have : t2.length ≤ 10000000 := sb; omega))
    | bool b2 =>
      exact compare_kinds (fun W => filled_non 2 _ _ _ _ _ _ _ _ _ _ _ (by decide)) (fun W => filled_non 3 _ _ _ _ _ _ _ _ _ _ _ (by decide)) (by decide)
    | err e2 =>
      exact compare_kinds (fun W => filled_non 2 _ _ _ _ _ _ _ _ _ _ _ (by decide)) (fun W => filled_non 4 _ _ _ _ _ _ _ _ _ _ _ (by decide)) (by decide)
  | bool b1 =>
    cases b with
    | blank =>
      exact compare_bool (fun W => filled_non 3 _ _ _ _ _ _ _ _ _ _ _ (by decide)) (fun W => filled_blank 3 _ _ _ _ _ (by decide))
    | num m2 s2 =>
      exact compare_kinds (fun W => filled_non 3 _ _ _ _ _ _ _ _ _ _ _ (by decide)) (fun W => filled_non 1 _ _ _ _ _ _ _ _ _ _ _ (by decide)) (by decide)
    | str t2 =>
      exact compare_kinds (fun W => filled_non 3 _ _ _ _ _ _ _ _ _ _ _ (by decide)) (fun W => filled_non 2 _ _ _ _ _ _ _ _ _ _ _ (by decide)) (by decide)
    | bool b2 =>
      exact compare_bool (fun W => filled_non 3 _ _ _ _ _ _ _ _ _ _ _ (by decide)) (fun W => filled_non 3 _ _ _ _ _ _ _ _ _ _ _ (by decide))
    | err e2 =>
      exact compare_kinds (fun W => filled_non 3 _ _ _ _ _ _ _ _ _ _ _ (by decide)) (fun W => filled_non 4 _ _ _ _ _ _ _ _ _ _ _ (by decide)) (by decide)
  | err e1 =>
    cases b with
    | blank =>
      exact compare_kinds (fun W => filled_non 4 _ _ _ _ _ _ _ _ _ _ _ (by decide)) (fun W => filled_err _ _ _ _ _) (by decide)
    | num m2 s2 =>
      exact compare_kinds (fun W => filled_non 4 _ _ _ _ _ _ _ _ _ _ _ (by decide)) (fun W => filled_non 1 _ _ _ _ _ _ _ _ _ _ _ (by decide)) (by decide)
    | str t2 =>
      exact compare_kinds (fun W => filled_non 4 _ _ _ _ _ _ _ _ _ _ _ (by decide)) (fun W => filled_non 2 _ _ _ _ _ _ _ _ _ _ _ (by decide)) (by decide)
    | bool b2 =>
      exact compare_kinds (fun W => filled_non 4 _ _ _ _ _ _ _ _ _ _ _ (by decide)) (fun W => filled_non 3 _ _ _ _ _ _ _ _ _ _ _ (by decide)) (by decide)
    | err e2 =>
      exact compare_err (fun W => filled_non 4 _ _ _ _ _ _ _ _ _ _ _ (by decide)) (fun W => filled_non 4 _ _ _ _ _ _ _ _ _ _ _ (by decide))

def sameB (k m s : Int) (t : ByteArray) (b : Bool) (e : Int) (k' m' s' : Int) (t' : ByteArray) (b' : Bool) (e' : Int) : Bool := decide (k = k' ∧ m = m' ∧ s = s' ∧ t = t' ∧ b = b' ∧ e = e')
theorem toList_inj {s t : ByteArray} (h : s.toList = t.toList) : s = t := by
  rw [ByteArray.toList_eq, ByteArray.toList_eq] at h
  exact ByteArray.ext (Array.toList_inj.1 h)
theorem same_any {w : World} (k m s : Int) (t : ByteArray) (b : Bool) (e : Int) (k' m' s' : Int) (t' : ByteArray) (b' : Bool) (e' : Int) :
    Calls Tryd.prog 9 #[.agg #[.int .i64 k, .int .i64 m, .int .i64 s, .string t, .bool b, .int .i64 e], .agg #[.int .i64 k', .int .i64 m', .int .i64 s', .string t', .bool b', .int .i64 e']] w fun x w' => x = .returned (.bool (sameB k m s t b e k' m' s' t' b' e')) ∧ Below w.heap.size w w' := by
  obtain ⟨V, hV⟩ : ∃ V, sameB k m s t b e k' m' s' t' b' e' = V := ⟨_, rfl⟩
  rw [hV]
  cases V with
  | true =>
    obtain ⟨rfl, rfl, rfl, rfl, rfl, rfl⟩ := of_decide_eq_true hV
    clear hV
    go_enter Tryd.func9, Tryd.ntmps9
    go_wp2
    go_ret
    exact ⟨rfl, bel1 _ _ _⟩
  | false =>
    have h := of_decide_eq_false hV
    clear hV
    go_enter Tryd.func9, Tryd.ntmps9
    go_wp2
    all_goals first
      | (go_ret; exact ⟨rfl, bel1 _ _ _⟩)
      | (exfalso; apply h; refine ⟨?_, ?_, ?_, toList_inj ?_, ?_, ?_⟩ <;> assumption)
end Go.Proofs.YtmbjmgmnicacpaaDoor
