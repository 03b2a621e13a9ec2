/- cmp.Compare at three types; val's rank, truthText, faultText, Fault, own, filled, Same; the law's N, S, by their contracts. No condition. -/
/- strconv.FormatUint at base 10, strings.Repeat of a nought, by their contracts. Condition: the table of powers of ten is laid; at most nine noughts. -/
/- What the statements' proofs stand on: a value's form; strconv.FormatUint from its laid table. No condition. -/
/- str.Units by its contract. Condition: utf8.ValidString keeps its contract (its tables are laid); a text's length is one. -/
/- The library's contract of utf8.ValidString, laid at this program; its two tables. Condition: the tables are laid as their initialisers lay them. -/
/- val.compareTexts by its contract: texts in order by their runes. Condition: the texts are not too long. -/
import Derived.Test.YtngkolcpbgibcaaGreatDoorVl
import Derived.Test.YtngkolcpbgibcaaGreatDoorD5
import Derived.Test.YtngkolcpbgibcaaGreatDoorJoin
import Derived.Lib.AppendIntMem
import Derived.Lib.LaidTab
import Derived.Lib.SmallJoins
import Derived.Stop.LaidErr
import Derived.Test.YtngkolcpbgibcaaGreatDoorProg
import Derived.Lib.RuneCount
import Derived.Laws.Runes
import Derived.Laws.RangeAny
import Derived.Shelf.Unicode.ValidAny
import Derived.Laws.IdiomStrings
set_option linter.unusedVariables false
set_option linter.unusedSimpArgs false
namespace Go.Proofs.YtngkolcpbgibcaaGreatDoor
open Go.RowKit
theorem isNaN_int {w : World} {x : Int} : Calls Tryz.prog 158 #[.int .i64 x] w fun e w' => e = .returned (.bool false) ∧ w' = w := by
  go_enter Tryz.func158, Tryz.ntmps158; go_wp2; go_ret; exact ⟨rfl, rfl⟩
theorem cmp_int {w : World} (x y : Int) : Calls Tryz.prog 83 #[.int .i64 x, .int .i64 y] w fun e w' => e = .returned (.int .i64 (cmp x y)) ∧ w' = w := by
  have HN := Lib.hid (fun (W : World) (z : Int) => isNaN_int (w := W) (x := z)); obtain ⟨c, hc⟩ : ∃ c, cmp x y = c := ⟨_, rfl⟩
  have HC := Lib.hid hc; rw [hc]; clear hc
  rcases Int.lt_trichotomy x y with h | h | h
  · obtain rfl : c = -1 := by rw [← HC.out]; unfold cmp; rw [if_pos h]
    go_enter Tryz.func83, Tryz.ntmps83
    go_wp2_with fail
    refine (HN.out _ _).mono ?_; rintro e w1 ⟨rfl, rfl⟩
    go_wp2_with fail
    refine (HN.out _ _).mono ?_; rintro e w1 ⟨rfl, rfl⟩; go_wp2; go_ret; exact ⟨rfl, rfl⟩
  · subst h; obtain rfl : c = 0 := by rw [← HC.out]; unfold cmp; simp
    go_enter Tryz.func83, Tryz.ntmps83
    go_wp2_with fail
    refine (HN.out _ _).mono ?_; rintro e w1 ⟨rfl, rfl⟩
    go_wp2_with fail
    refine (HN.out _ _).mono ?_; rintro e w1 ⟨rfl, rfl⟩; go_wp2; go_ret; exact ⟨rfl, rfl⟩
  · have h' : ¬ x < y := by omega
    obtain rfl : c = 1 := by rw [← HC.out]; unfold cmp; rw [if_neg h', if_neg (by omega)]
    go_enter Tryz.func83, Tryz.ntmps83
    go_wp2_with fail
    refine (HN.out _ _).mono ?_; rintro e w1 ⟨rfl, rfl⟩
    go_wp2_with fail
    refine (HN.out _ _).mono ?_; rintro e w1 ⟨rfl, rfl⟩; go_wp2; go_ret; exact ⟨rfl, rfl⟩
theorem isNaN_i64 {w : World} {x : Int} : Calls Tryz.prog 160 #[.int .i64 x] w fun e w' => e = .returned (.bool false) ∧ w' = w := by
  go_enter Tryz.func160, Tryz.ntmps160; go_wp2; go_ret; exact ⟨rfl, rfl⟩
theorem cmp_i64 {w : World} (x y : Int) : Calls Tryz.prog 85 #[.int .i64 x, .int .i64 y] w fun e w' => e = .returned (.int .i64 (cmp x y)) ∧ w' = w := by
  have HN := Lib.hid (fun (W : World) (z : Int) => isNaN_i64 (w := W) (x := z)); obtain ⟨c, hc⟩ : ∃ c, cmp x y = c := ⟨_, rfl⟩
  have HC := Lib.hid hc; rw [hc]; clear hc
  rcases Int.lt_trichotomy x y with h | h | h
  · obtain rfl : c = -1 := by rw [← HC.out]; unfold cmp; rw [if_pos h]
    go_enter Tryz.func85, Tryz.ntmps85
    go_wp2_with fail
    refine (HN.out _ _).mono ?_; rintro e w1 ⟨rfl, rfl⟩
    go_wp2_with fail
    refine (HN.out _ _).mono ?_; rintro e w1 ⟨rfl, rfl⟩; go_wp2; go_ret; exact ⟨rfl, rfl⟩
  · subst h; obtain rfl : c = 0 := by rw [← HC.out]; unfold cmp; simp
    go_enter Tryz.func85, Tryz.ntmps85
    go_wp2_with fail
    refine (HN.out _ _).mono ?_; rintro e w1 ⟨rfl, rfl⟩
    go_wp2_with fail
    refine (HN.out _ _).mono ?_; rintro e w1 ⟨rfl, rfl⟩; go_wp2; go_ret; exact ⟨rfl, rfl⟩
  · have h' : ¬ x < y := by omega
    obtain rfl : c = 1 := by rw [← HC.out]; unfold cmp; rw [if_neg h', if_neg (by omega)]
    go_enter Tryz.func85, Tryz.ntmps85
    go_wp2_with fail
    refine (HN.out _ _).mono ?_; rintro e w1 ⟨rfl, rfl⟩
    go_wp2_with fail
    refine (HN.out _ _).mono ?_; rintro e w1 ⟨rfl, rfl⟩; go_wp2; go_ret; exact ⟨rfl, rfl⟩
theorem isNaN_rune {w : World} {x : Int} : Calls Tryz.prog 190 #[.int .i32 x] w fun e w' => e = .returned (.bool false) ∧ w' = w := by
  go_enter Tryz.func190, Tryz.ntmps190; go_wp2; go_ret; exact ⟨rfl, rfl⟩
theorem cmp_rune {w : World} (x y : Int) : Calls Tryz.prog 159 #[.int .i32 x, .int .i32 y] w fun e w' => e = .returned (.int .i64 (cmp x y)) ∧ w' = w := by
  have HN := Lib.hid (fun (W : World) (z : Int) => isNaN_rune (w := W) (x := z)); obtain ⟨c, hc⟩ : ∃ c, cmp x y = c := ⟨_, rfl⟩
  have HC := Lib.hid hc; rw [hc]; clear hc
  rcases Int.lt_trichotomy x y with h | h | h
  · obtain rfl : c = -1 := by rw [← HC.out]; unfold cmp; rw [if_pos h]
    go_enter Tryz.func159, Tryz.ntmps159
    go_wp2_with fail
    refine (HN.out _ _).mono ?_; rintro e w1 ⟨rfl, rfl⟩
    go_wp2_with fail
    refine (HN.out _ _).mono ?_; rintro e w1 ⟨rfl, rfl⟩; go_wp2; go_ret; exact ⟨rfl, rfl⟩
  · subst h; obtain rfl : c = 0 := by rw [← HC.out]; unfold cmp; simp
    go_enter Tryz.func159, Tryz.ntmps159
    go_wp2_with fail
    refine (HN.out _ _).mono ?_; rintro e w1 ⟨rfl, rfl⟩
    go_wp2_with fail
    refine (HN.out _ _).mono ?_; rintro e w1 ⟨rfl, rfl⟩; go_wp2; go_ret; exact ⟨rfl, rfl⟩
  · have h' : ¬ x < y := by omega
    obtain rfl : c = 1 := by rw [← HC.out]; unfold cmp; rw [if_neg h', if_neg (by omega)]
    go_enter Tryz.func159, Tryz.ntmps159
    go_wp2_with fail
    refine (HN.out _ _).mono ?_; rintro e w1 ⟨rfl, rfl⟩
    go_wp2_with fail
    refine (HN.out _ _).mono ?_; rintro e w1 ⟨rfl, rfl⟩; go_wp2; go_ret; exact ⟨rfl, rfl⟩
theorem rank_any {w : World} (b : Bool) : Calls Tryz.prog 86 #[.bool b] w fun e w' => e = .returned (.int .i64 (rk b)) ∧ w' = w := by
  cases b
  · go_enter Tryz.func86, Tryz.ntmps86; go_wp2; go_ret; exact ⟨rfl, rfl⟩
  · go_enter Tryz.func86, Tryz.ntmps86; go_wp2; go_ret; exact ⟨rfl, rfl⟩
def sL (l : List UInt8) : Value := .string ⟨l.toArray⟩
def yesL : List UInt8 := [84, 82, 85, 69]
def noL : List UInt8 := [70, 65, 76, 83, 69]
def trL (b : Bool) : List UInt8 := if b then yesL else noL
theorem truthText_any {w : World} (b : Bool) : Calls Tryz.prog 200 #[.bool b] w fun e w' => e = .returned (sL (trL b)) ∧ w' = w := by
  cases b
  · go_enter Tryz.func200, Tryz.ntmps200; go_wp2; go_ret; exact ⟨rfl, rfl⟩
  · go_enter Tryz.func200, Tryz.ntmps200; go_wp2; go_ret; exact ⟨rfl, rfl⟩
def erL (e : Int) : List UInt8 := if e = 0 then [35, 78, 85, 76, 76, 33] else if e = 7 then [35, 68, 73, 86, 47, 48, 33] else if e = 15 then [35, 86, 65, 76, 85, 69, 33] else if e = 23 then [35, 82, 69, 70, 33] else if e = 29 then [35, 78, 65, 77, 69, 63] else if e = 36 then [35, 78, 85, 77, 33] else if e = 42 then [35, 78, 47, 65] else []
theorem faultText_any {w : World} (e : Int) : Calls Tryz.prog 65 #[.int .i64 e] w fun x w' => x = .returned (sL (erL e)) ∧ w' = w := by
  obtain ⟨L, hL⟩ : ∃ L, erL e = L := ⟨_, rfl⟩
  rw [hL]; unfold erL at hL
  by_cases h0 : e = 0
  · subst h0; subst hL; go_enter Tryz.func65, Tryz.ntmps65; go_wp2; go_ret; exact ⟨rfl, rfl⟩
  rw [if_neg h0] at hL
  by_cases h7 : e = 7
  · subst h7; subst hL; go_enter Tryz.func65, Tryz.ntmps65; go_wp2; go_ret; exact ⟨rfl, rfl⟩
  rw [if_neg h7] at hL
  by_cases h15 : e = 15
  · subst h15; subst hL; go_enter Tryz.func65, Tryz.ntmps65; go_wp2; go_ret; exact ⟨rfl, rfl⟩
  rw [if_neg h15] at hL
  by_cases h23 : e = 23
  · subst h23; subst hL; go_enter Tryz.func65, Tryz.ntmps65; go_wp2; go_ret; exact ⟨rfl, rfl⟩
  rw [if_neg h23] at hL
  by_cases h29 : e = 29
  · subst h29; subst hL; go_enter Tryz.func65, Tryz.ntmps65; go_wp2; go_ret; exact ⟨rfl, rfl⟩
  rw [if_neg h29] at hL
  by_cases h36 : e = 36
  · subst h36; subst hL; go_enter Tryz.func65, Tryz.ntmps65; go_wp2; go_ret; exact ⟨rfl, rfl⟩
  rw [if_neg h36] at hL
  by_cases h42 : e = 42
  · subst h42; subst hL; go_enter Tryz.func65, Tryz.ntmps65; go_wp2; go_ret; exact ⟨rfl, rfl⟩
  rw [if_neg h42] at hL; subst hL; go_enter Tryz.func65, Tryz.ntmps65; go_wp2; go_ret; exact ⟨rfl, rfl⟩
theorem erL_none (e : Int) : erL e = [] ↔ ¬ (e = 0 ∨ e = 7 ∨ e = 15 ∨ e = 23 ∨ e = 29 ∨ e = 36 ∨ e = 42) := by
  unfold erL
  repeat' split
  all_goals first | (simp; omega) | (simp only [reduceCtorEq, false_iff]; omega)
theorem fault_any {w : World} (e : Int) : Calls Tryz.prog 30 #[.int .i64 e] w fun x w' => x = .returned (.agg #[.int .i64 4, .int .i64 0, .int .i64 0, .string ⟨#[]⟩, .bool false, .int .i64 e]) ∧ Below w.heap.size w w' := by
  go_enter Tryz.func30, Tryz.ntmps30; go_wp2; exact bodyPost_ret (v := .agg #[.int .i64 4, .int .i64 0, .int .i64 0, .string ⟨#[]⟩, .bool false, .int .i64 e]) (by simp [results, Tryz.results30, go_sem]) rfl ⟨rfl, bel0 _ _⟩
theorem lS_any {w : World} (t : ByteArray) : Calls Tryz.prog 29 #[.string t] w fun x w' => x = .returned (.agg #[.int .i64 2, .int .i64 0, .int .i64 0, .string t, .bool false, .int .i64 0]) ∧ Below w.heap.size w w' := by
  go_enter Tryz.func29, Tryz.ntmps29; go_wp2; exact bodyPost_ret (v := .agg #[.int .i64 2, .int .i64 0, .int .i64 0, .string t, .bool false, .int .i64 0]) (by simp [results, Tryz.results29, go_sem]) rfl ⟨rfl, bel0 _ _⟩
theorem own_num {w : World} (m s : Int) (t : ByteArray) (b : Bool) (e : Int) : Calls Tryz.prog 62 #[.agg #[.int .i64 1, .int .i64 m, .int .i64 s, .string t, .bool b, .int .i64 e]] w fun x w' => x = .returned (.agg #[.int .i64 1, .int .i64 m, .int .i64 s, .string ⟨#[]⟩, .bool false, .int .i64 0]) ∧ Below w.heap.size w w' := by
  go_enter Tryz.func62, Tryz.ntmps62; go_wp2; exact bodyPost_ret (v := .agg #[.int .i64 1, .int .i64 m, .int .i64 s, .string ⟨#[]⟩, .bool false, .int .i64 0]) (by simp [results, Tryz.results62, go_sem]) rfl ⟨rfl, bel2 _ _ _ _⟩
theorem own_str {w : World} (m s : Int) (t : ByteArray) (b : Bool) (e : Int) : Calls Tryz.prog 62 #[.agg #[.int .i64 2, .int .i64 m, .int .i64 s, .string t, .bool b, .int .i64 e]] w fun x w' => x = .returned (.agg #[.int .i64 2, .int .i64 0, .int .i64 0, .string t, .bool false, .int .i64 0]) ∧ Below w.heap.size w w' := by
  go_enter Tryz.func62, Tryz.ntmps62; go_wp2; exact bodyPost_ret (v := .agg #[.int .i64 2, .int .i64 0, .int .i64 0, .string t, .bool false, .int .i64 0]) (by simp [results, Tryz.results62, go_sem]) rfl ⟨rfl, bel2 _ _ _ _⟩
theorem own_bool {w : World} (m s : Int) (t : ByteArray) (b : Bool) (e : Int) : Calls Tryz.prog 62 #[.agg #[.int .i64 3, .int .i64 m, .int .i64 s, .string t, .bool b, .int .i64 e]] w fun x w' => x = .returned (.agg #[.int .i64 3, .int .i64 0, .int .i64 0, .string ⟨#[]⟩, .bool b, .int .i64 0]) ∧ Below w.heap.size w w' := by
  go_enter Tryz.func62, Tryz.ntmps62; go_wp2; exact bodyPost_ret (v := .agg #[.int .i64 3, .int .i64 0, .int .i64 0, .string ⟨#[]⟩, .bool b, .int .i64 0]) (by simp [results, Tryz.results62, go_sem]) rfl ⟨rfl, bel2 _ _ _ _⟩
theorem own_err {w : World} (m s : Int) (t : ByteArray) (b : Bool) (e : Int) : Calls Tryz.prog 62 #[.agg #[.int .i64 4, .int .i64 m, .int .i64 s, .string t, .bool b, .int .i64 e]] w fun x w' => x = .returned (.agg #[.int .i64 4, .int .i64 0, .int .i64 0, .string ⟨#[]⟩, .bool false, .int .i64 e]) ∧ Below w.heap.size w w' := by
  go_enter Tryz.func62, Tryz.ntmps62; go_wp2; exact bodyPost_ret (v := .agg #[.int .i64 4, .int .i64 0, .int .i64 0, .string ⟨#[]⟩, .bool false, .int .i64 e]) (by simp [results, Tryz.results62, go_sem]) rfl ⟨rfl, bel2 _ _ _ _⟩
theorem own_blank {w : World} (m s : Int) (t : ByteArray) (b : Bool) (e : Int) : Calls Tryz.prog 62 #[.agg #[.int .i64 0, .int .i64 m, .int .i64 s, .string t, .bool b, .int .i64 e]] w fun x w' => x = .returned (.agg #[.int .i64 0, .int .i64 0, .int .i64 0, .string ⟨#[]⟩, .bool false, .int .i64 0]) ∧ Below w.heap.size w w' := by
  go_enter Tryz.func62, Tryz.ntmps62; go_wp2; exact bodyPost_ret (v := .agg #[.int .i64 0, .int .i64 0, .int .i64 0, .string ⟨#[]⟩, .bool false, .int .i64 0]) (by simp [results, Tryz.results62, go_sem]) rfl ⟨rfl, bel2 _ _ _ _⟩
theorem own_none {w : World} (k m s : Int) (t : ByteArray) (b : Bool) (e : Int) (h1 : ¬ k = 1) (h2 : ¬ k = 2) (h3 : ¬ k = 3) (h4 : ¬ k = 4) : Calls Tryz.prog 62 #[.agg #[.int .i64 k, .int .i64 m, .int .i64 s, .string t, .bool b, .int .i64 e]] w fun x w' => x = .returned (.agg #[.int .i64 k, .int .i64 0, .int .i64 0, .string ⟨#[]⟩, .bool false, .int .i64 0]) ∧ Below w.heap.size w w' := by
  go_enter Tryz.func62, Tryz.ntmps62; go_wp2; exact bodyPost_ret (v := .agg #[.int .i64 k, .int .i64 0, .int .i64 0, .string ⟨#[]⟩, .bool false, .int .i64 0]) (by simp [results, Tryz.results62, go_sem]) rfl ⟨rfl, bel2 _ _ _ _⟩
theorem filled_non {w : World} (k : Int) (m s : Int) (t : ByteArray) (b : Bool) (e : Int) (k' : Int) (m' s' : Int) (t' : ByteArray) (b' : Bool) (e' : Int) (h : ¬ k = 0) : Calls Tryz.prog 82 #[.agg #[.int .i64 k, .int .i64 m, .int .i64 s, .string t, .bool b, .int .i64 e], .agg #[.int .i64 k', .int .i64 m', .int .i64 s', .string t', .bool b', .int .i64 e']] w fun x w' => x = .returned (.agg #[.int .i64 k, .int .i64 m, .int .i64 s, .string t, .bool b, .int .i64 e]) ∧ Below w.heap.size w w' := by
  go_enter Tryz.func82, Tryz.ntmps82; go_wp2; exact bodyPost_ret (v := .agg #[.int .i64 k, .int .i64 m, .int .i64 s, .string t, .bool b, .int .i64 e]) (by simp [results, Tryz.results82, go_sem]) rfl ⟨rfl, bel2 _ _ _ _⟩
theorem filled_blank {w : World} (k' : Int) (m' s' : Int) (t' : ByteArray) (b' : Bool) (e' : Int) (h : ¬ k' = 4) : Calls Tryz.prog 82 #[.agg #[.int .i64 0, .int .i64 0, .int .i64 0, .string ⟨#[]⟩, .bool false, .int .i64 0], .agg #[.int .i64 k', .int .i64 m', .int .i64 s', .string t', .bool b', .int .i64 e']] w fun x w' => x = .returned (.agg #[.int .i64 k', .int .i64 0, .int .i64 0, .string ⟨#[]⟩, .bool false, .int .i64 0]) ∧ Below w.heap.size w w' := by
  go_enter Tryz.func82, Tryz.ntmps82; go_wp2; exact bodyPost_ret (v := .agg #[.int .i64 k', .int .i64 0, .int .i64 0, .string ⟨#[]⟩, .bool false, .int .i64 0]) (by simp [results, Tryz.results82, go_sem]) rfl ⟨rfl, bel2 _ _ _ _⟩
theorem filled_err {w : World} (m' s' : Int) (t' : ByteArray) (b' : Bool) (e' : Int) : Calls Tryz.prog 82 #[.agg #[.int .i64 0, .int .i64 0, .int .i64 0, .string ⟨#[]⟩, .bool false, .int .i64 0], .agg #[.int .i64 4, .int .i64 m', .int .i64 s', .string t', .bool b', .int .i64 e']] w fun x w' => x = .returned (.agg #[.int .i64 0, .int .i64 0, .int .i64 0, .string ⟨#[]⟩, .bool false, .int .i64 0]) ∧ Below w.heap.size w w' := by
  go_enter Tryz.func82, Tryz.ntmps82; go_wp2; exact bodyPost_ret (v := .agg #[.int .i64 0, .int .i64 0, .int .i64 0, .string ⟨#[]⟩, .bool false, .int .i64 0]) (by simp [results, Tryz.results82, go_sem]) rfl ⟨rfl, bel2 _ _ _ _⟩
end Go.Proofs.YtngkolcpbgibcaaGreatDoor
namespace Go.Proofs.YtngkolcpbgibcaaGreatDoor
open Go.RowKit Go.Sort Go.Lib
theorem below_grow' (w : World) (k : Nat) (os : Array Obj) : Below w.heap.size w (grow (w.drewN k) os) :=
  ⟨rfl, rfl, rfl, by simp [grow, World.drewN], fun i hi => by
    show (w.heap ++ os)[i]? = w.heap[i]?
    rw [Array.getElem?_append_left hi]⟩
theorem fmt_small {w : World} {u : Nat} (h : u < 100) :
    Calls Tryz.prog 219 #[.int .u64 (u : Nat), .int .i64 10] w fun e w' => e = .returned (sL (decDigits u)) ∧ Below w.heap.size w w' := by
  have HS := Lib.hid (fun W : World => Tryz.internal_strconv_small u h W); have h1 : ((u : Nat) : Int) < 100 := by omega
  have h2 : IntKind.i64.wrap ((u : Nat) : Int) = (u : Nat) := IntWalk.i64_in _ (by omega); clear h; unfold sL; go_enter Tryz.func219, Tryz.ntmps219
  go_wp2_with fail
  refine (HS.out _).mono ?_; rintro e w1 ⟨rfl, rfl⟩; go_wp2; go_ret; exact ⟨rfl, Below.refl _ _⟩
set_option maxHeartbeats 6400000 in
set_option maxRecDepth 100000 in
theorem fmt_big {w : World} {u : Nat} (h : 100 ≤ u) (hu64 : u < 18446744073709551616) (htab : Lib.TabIs Tryz.prog w "internal/strconv.uint64pow10" .u64 Lib.pow10Tab) :
    Calls Tryz.prog 219 #[.int .u64 (u : Nat), .int .i64 10] w fun e w' => e = .returned (sL (decDigits u)) ∧ Below w.heap.size w w' := by
  have hu1 : 1 ≤ u := by omega
  have hnd20 : Lib.nDigits u ≤ 20 := by have := Lib.numDigits_eq u hu1 hu64; split at this <;> omega
  have hal : Tryz.prog.arrayLen 261 = 24 := by simp [Program.arrayLen, Tryz.underlying261]
  have hsl : ∀ W, (Instr.sliceAt 261 (.pointer (some ⟨w.heap.size, 0, none⟩)) none (some (.int .i64 (Lib.nDigits u : Int))) none).run Tryz.prog W = .ok (.slice (some ⟨w.heap.size, 0, none⟩) (Lib.nDigits u) 24) W := fun W => by
    rw [run_sliceAt_array_h W 261 ⟨w.heap.size, 0, none⟩ (by simp [Program.arrayLen, Program.elem, Tryz.underlying261]) .i64 (Lib.nDigits u : Int) (by omega) (by rw [hal]; omega)]; go_simp
  have hH0 := Lib.holds_zero0 w 261 (Lib.nDigits u) (by omega); have hfmt := Tryz.internal_strconv_formatBase10 w.heap.size 0 24 u (Array.replicate (Lib.nDigits u) 0) (w.alloc (.cells Lib.zeros24 261)) hH0 (by rw [Array.size_replicate]; exact Lib.lt_pow_nDigits u) hu64 (by rw [Array.size_replicate]; omega); rw [Array.size_replicate] at hfmt; have HH0 := Lib.hid hH0; have HN := Lib.hid (fun W ht => Tryz.internal_strconv_numDigits u hu1 hu64 W ht); have HT := Lib.hid (Lib.tabIs_alloc htab (.cells Lib.zeros24 261)); have HF := Lib.hid hfmt; have iu : (100 : Int) ≤ ((u : Nat) : Int) := by omega
  have hdl := Lib.hid (Lib.decDigits_length u); clear hH0 hal hfmt h htab hu1; unfold sL; go_enter Tryz.func219, Tryz.ntmps219
  go_wp2_with fail
  refine (HN.out _ HT.out).mono ?_; rintro e w1 ⟨rfl, rfl⟩
  go_wp2_with fail
  refine HF.out.mono ?_; rintro e w' ⟨rfl, k, v', dk, rfl, hF⟩
  have hcv : (convert 148 9 (.slice (some ⟨w.heap.size, 0, none⟩) (Lib.nDigits u) 24)).run Tryz.prog ((putRow (fun (b : UInt8) => Value.int .u8 (b.toNat : Int)) (w.alloc (.cells Lib.zeros24 261)) w.heap.size 0 dk).drewN k) = .ok (.string ⟨(Lib.decDigits u).toArray⟩) ((putRow (fun (b : UInt8) => Value.int .u8 (b.toNat : Int)) (w.alloc (.cells Lib.zeros24 261)) w.heap.size 0 dk).drewN k) := by
    have h := run_convert_bytes_back (P := Tryz.prog) ((putRow (fun (b : UInt8) => Value.int .u8 (b.toNat : Int)) (w.alloc (.cells Lib.zeros24 261)) w.heap.size 0 dk).drewN k) 148 9 5 ⟨w.heap.size, 0, none⟩ 24 (Lib.decDigits u) Tryz.underlying148 Tryz.underlying5 Tryz.underlying9 (fun j hj => by
      rw [Lib.row_is_numeral hF j hj, Lib.add_plain, World.cell?_drewN]
      exact cell?_putRow (fun (b : UInt8) => Value.int .u8 (b.toNat : Int)) _ w.heap.size 0 _ dk HH0.out (by rw [hF.size, Array.size_replicate]) j (by rw [hF.size]; rw [Lib.decDigits_length] at hj; exact hj))
    rw [Lib.decDigits_length] at h; exact h
  obtain ⟨os, eo⟩ := Lib.fin_at w (.cells Lib.zeros24 261) dk k 0; have hbel : Below w.heap.size w ((putRow (fun (b : UInt8) => Value.int .u8 (b.toNat : Int)) (w.alloc (.cells Lib.zeros24 261)) w.heap.size 0 dk).drewN k) := by rw [eo]; exact below_grow' w k os
  clear eo hF HF HN HT HH0; generalize (putRow (fun (b : UInt8) => Value.int .u8 (b.toNat : Int)) (w.alloc (.cells Lib.zeros24 261)) w.heap.size 0 dk).drewN k = W2 at *; go_wp2; go_ret; exact ⟨rfl, hbel⟩
def Tens (w : World) : Prop := ∀ (u : Nat) (W : World), u < 18446744073709551616 → Below w.heap.size w W →
  Calls Tryz.prog 213 #[.int .u64 (u : Nat), .int .i64 10] W fun e w' => e = .returned (sL (decDigits u)) ∧ Below W.heap.size W w'
theorem Tens.below {w w' : World} (h : Tens w) (hb : Below w.heap.size w w') : Tens w' := fun n W hn hb' => h n W hn (hb.trans (hb'.mono hb.size))
theorem tab_below {P : Program} {w w' : World} {name : String} {k : IntKind} {zs : List Int} (h : Lib.TabIs P w name k zs) (hb : Below w.heap.size w w') : Lib.TabIs P w' name k zs := by
  unfold Lib.TabIs World.var? at *
  cases hg : P.globalNamed name with
  | none => rw [hg] at h; cases h
  | some g =>
    rw [hg] at h; rw [← h]; simp only [Option.bind_some] at h ⊢
    have hlt : g < w.heap.size := by
      rcases Nat.lt_or_ge g w.heap.size with hl | hl
      · exact hl
      · simp [Array.getElem?_eq_none hl] at h
    simp [hb.block g hlt]
theorem fmt0_any {w : World} (u : Nat) (hu : u < 18446744073709551616) (htab : Lib.TabIs Tryz.prog w "internal/strconv.uint64pow10" .u64 Lib.pow10Tab) :
    Calls Tryz.prog 219 #[.int .u64 (u : Nat), .int .i64 10] w fun e w' => e = .returned (sL (decDigits u)) ∧ Below w.heap.size w w' := by
  by_cases h : u < 100
  · exact fmt_small h
  · exact fmt_big (by omega) hu htab
theorem tens_of {w : World} (h : Lib.TabIs Tryz.prog w "internal/strconv.uint64pow10" .u64 Lib.pow10Tab) : Tens w := fun u W hu hb => by
  have HF := Lib.hid (fmt0_any (w := W) u hu (tab_below h hb)); clear h hb hu; generalize sL (decDigits u) = V at *; go_enter Tryz.func213, Tryz.ntmps213
  go_wp2_with fail
  refine HF.out.mono ?_; rintro e w1 ⟨rfl, hb⟩; go_wp2; go_ret; exact ⟨rfl, hb⟩
theorem hp_of {w : World} {s p : ByteArray} {b : Bool} (h2 : Lib.hasPrefix s.data.toList p.data.toList = b) :
    Calls Tryz.prog 206 #[.string s, .string p] w fun e w' => e = .returned (.bool b) ∧ w' = w := by
  have := Tryz.strings_HasPrefix s p w; rw [h2] at this; exact this
set_option maxRecDepth 1000000 in
theorem rep1 {w : World} : Calls Tryz.prog 183 #[.string ⟨#[48]⟩, .int .i64 1] w fun e w' => e = .returned (.string ⟨#[48]⟩) ∧ w' = w := by
  go_enter Tryz.func183, Tryz.ntmps183; go_wp2; go_ret; exact ⟨rfl, rfl⟩
set_option maxRecDepth 1000000 in
theorem rep2 {w : World} : Calls Tryz.prog 183 #[.string ⟨#[48]⟩, .int .i64 2] w fun e w' => e = .returned (.string ⟨#[48, 48]⟩) ∧ w' = w := by
  have HM : Hid (∀ W : World, Calls Tryz.prog 205 #[.int .u64 1, .int .u64 2] W fun e w' => e = .returned (.tuple #[.int .u64 0, .int .u64 2]) ∧ w' = W) := Lib.hid (fun W => Tryz.bits_Mul 1 2 (by decide) (by decide) W); have HN : Hid (∀ (W : World) (s : ByteArray), Lib.hasPrefix s.data.toList [48] = false → Calls Tryz.prog 206 #[.string s, .string ⟨#[48]⟩] W fun e w' => e = .returned (.bool false) ∧ w' = W) := Lib.hid (fun W s h => hp_of h); have HY : Hid (∀ (W : World) (s : ByteArray), Lib.hasPrefix s.data.toList [48] = true → Calls Tryz.prog 206 #[.string s, .string ⟨#[48]⟩] W fun e w' => e = .returned (.bool true) ∧ w' = W) := Lib.hid (fun W s h => hp_of h); go_enter Tryz.func183, Tryz.ntmps183
  go_wp2_with fail
  refine (HM.out _).mono ?_; rintro e w1 ⟨rfl, rfl⟩
  go_wp2_with fail
  refine (HN.out _ _ (by decide)).mono ?_; rintro e w1 ⟨rfl, rfl⟩
  go_wp2_with fail
  refine (HN.out _ _ (by decide)).mono ?_; rintro e w1 ⟨rfl, rfl⟩
  go_wp2_with fail
  refine (HY.out _ _ (by decide)).mono ?_; rintro e w1 ⟨rfl, rfl⟩; go_wp2; go_ret; exact ⟨rfl, rfl⟩
set_option maxRecDepth 1000000 in
theorem rep3 {w : World} : Calls Tryz.prog 183 #[.string ⟨#[48]⟩, .int .i64 3] w fun e w' => e = .returned (.string ⟨#[48, 48, 48]⟩) ∧ w' = w := by
  have HM : Hid (∀ W : World, Calls Tryz.prog 205 #[.int .u64 1, .int .u64 3] W fun e w' => e = .returned (.tuple #[.int .u64 0, .int .u64 3]) ∧ w' = W) := Lib.hid (fun W => Tryz.bits_Mul 1 3 (by decide) (by decide) W); have HN : Hid (∀ (W : World) (s : ByteArray), Lib.hasPrefix s.data.toList [48] = false → Calls Tryz.prog 206 #[.string s, .string ⟨#[48]⟩] W fun e w' => e = .returned (.bool false) ∧ w' = W) := Lib.hid (fun W s h => hp_of h); have HY : Hid (∀ (W : World) (s : ByteArray), Lib.hasPrefix s.data.toList [48] = true → Calls Tryz.prog 206 #[.string s, .string ⟨#[48]⟩] W fun e w' => e = .returned (.bool true) ∧ w' = W) := Lib.hid (fun W s h => hp_of h); go_enter Tryz.func183, Tryz.ntmps183
  go_wp2_with fail
  refine (HM.out _).mono ?_; rintro e w1 ⟨rfl, rfl⟩
  go_wp2_with fail
  refine (HN.out _ _ (by decide)).mono ?_; rintro e w1 ⟨rfl, rfl⟩
  go_wp2_with fail
  refine (HN.out _ _ (by decide)).mono ?_; rintro e w1 ⟨rfl, rfl⟩
  go_wp2_with fail
  refine (HY.out _ _ (by decide)).mono ?_; rintro e w1 ⟨rfl, rfl⟩; go_wp2; go_ret; exact ⟨rfl, rfl⟩
set_option maxRecDepth 1000000 in
theorem rep4 {w : World} : Calls Tryz.prog 183 #[.string ⟨#[48]⟩, .int .i64 4] w fun e w' => e = .returned (.string ⟨#[48, 48, 48, 48]⟩) ∧ w' = w := by
  have HM : Hid (∀ W : World, Calls Tryz.prog 205 #[.int .u64 1, .int .u64 4] W fun e w' => e = .returned (.tuple #[.int .u64 0, .int .u64 4]) ∧ w' = W) := Lib.hid (fun W => Tryz.bits_Mul 1 4 (by decide) (by decide) W); have HN : Hid (∀ (W : World) (s : ByteArray), Lib.hasPrefix s.data.toList [48] = false → Calls Tryz.prog 206 #[.string s, .string ⟨#[48]⟩] W fun e w' => e = .returned (.bool false) ∧ w' = W) := Lib.hid (fun W s h => hp_of h); have HY : Hid (∀ (W : World) (s : ByteArray), Lib.hasPrefix s.data.toList [48] = true → Calls Tryz.prog 206 #[.string s, .string ⟨#[48]⟩] W fun e w' => e = .returned (.bool true) ∧ w' = W) := Lib.hid (fun W s h => hp_of h); go_enter Tryz.func183, Tryz.ntmps183
  go_wp2_with fail
  refine (HM.out _).mono ?_; rintro e w1 ⟨rfl, rfl⟩
  go_wp2_with fail
  refine (HN.out _ _ (by decide)).mono ?_; rintro e w1 ⟨rfl, rfl⟩
  go_wp2_with fail
  refine (HN.out _ _ (by decide)).mono ?_; rintro e w1 ⟨rfl, rfl⟩
  go_wp2_with fail
  refine (HY.out _ _ (by decide)).mono ?_; rintro e w1 ⟨rfl, rfl⟩; go_wp2; go_ret; exact ⟨rfl, rfl⟩
set_option maxRecDepth 1000000 in
theorem rep5 {w : World} : Calls Tryz.prog 183 #[.string ⟨#[48]⟩, .int .i64 5] w fun e w' => e = .returned (.string ⟨#[48, 48, 48, 48, 48]⟩) ∧ w' = w := by
  have HM : Hid (∀ W : World, Calls Tryz.prog 205 #[.int .u64 1, .int .u64 5] W fun e w' => e = .returned (.tuple #[.int .u64 0, .int .u64 5]) ∧ w' = W) := Lib.hid (fun W => Tryz.bits_Mul 1 5 (by decide) (by decide) W); have HN : Hid (∀ (W : World) (s : ByteArray), Lib.hasPrefix s.data.toList [48] = false → Calls Tryz.prog 206 #[.string s, .string ⟨#[48]⟩] W fun e w' => e = .returned (.bool false) ∧ w' = W) := Lib.hid (fun W s h => hp_of h); have HY : Hid (∀ (W : World) (s : ByteArray), Lib.hasPrefix s.data.toList [48] = true → Calls Tryz.prog 206 #[.string s, .string ⟨#[48]⟩] W fun e w' => e = .returned (.bool true) ∧ w' = W) := Lib.hid (fun W s h => hp_of h); go_enter Tryz.func183, Tryz.ntmps183
  go_wp2_with fail
  refine (HM.out _).mono ?_; rintro e w1 ⟨rfl, rfl⟩
  go_wp2_with fail
  refine (HN.out _ _ (by decide)).mono ?_; rintro e w1 ⟨rfl, rfl⟩
  go_wp2_with fail
  refine (HN.out _ _ (by decide)).mono ?_; rintro e w1 ⟨rfl, rfl⟩
  go_wp2_with fail
  refine (HY.out _ _ (by decide)).mono ?_; rintro e w1 ⟨rfl, rfl⟩; go_wp2; go_ret; exact ⟨rfl, rfl⟩
set_option maxRecDepth 1000000 in
theorem rep6 {w : World} : Calls Tryz.prog 183 #[.string ⟨#[48]⟩, .int .i64 6] w fun e w' => e = .returned (.string ⟨#[48, 48, 48, 48, 48, 48]⟩) ∧ w' = w := by
  have HM : Hid (∀ W : World, Calls Tryz.prog 205 #[.int .u64 1, .int .u64 6] W fun e w' => e = .returned (.tuple #[.int .u64 0, .int .u64 6]) ∧ w' = W) := Lib.hid (fun W => Tryz.bits_Mul 1 6 (by decide) (by decide) W); have HN : Hid (∀ (W : World) (s : ByteArray), Lib.hasPrefix s.data.toList [48] = false → Calls Tryz.prog 206 #[.string s, .string ⟨#[48]⟩] W fun e w' => e = .returned (.bool false) ∧ w' = W) := Lib.hid (fun W s h => hp_of h); have HY : Hid (∀ (W : World) (s : ByteArray), Lib.hasPrefix s.data.toList [48] = true → Calls Tryz.prog 206 #[.string s, .string ⟨#[48]⟩] W fun e w' => e = .returned (.bool true) ∧ w' = W) := Lib.hid (fun W s h => hp_of h); go_enter Tryz.func183, Tryz.ntmps183
  go_wp2_with fail
  refine (HM.out _).mono ?_; rintro e w1 ⟨rfl, rfl⟩
  go_wp2_with fail
  refine (HN.out _ _ (by decide)).mono ?_; rintro e w1 ⟨rfl, rfl⟩
  go_wp2_with fail
  refine (HN.out _ _ (by decide)).mono ?_; rintro e w1 ⟨rfl, rfl⟩
  go_wp2_with fail
  refine (HY.out _ _ (by decide)).mono ?_; rintro e w1 ⟨rfl, rfl⟩; go_wp2; go_ret; exact ⟨rfl, rfl⟩
set_option maxRecDepth 1000000 in
theorem rep7 {w : World} : Calls Tryz.prog 183 #[.string ⟨#[48]⟩, .int .i64 7] w fun e w' => e = .returned (.string ⟨#[48, 48, 48, 48, 48, 48, 48]⟩) ∧ w' = w := by
  have HM : Hid (∀ W : World, Calls Tryz.prog 205 #[.int .u64 1, .int .u64 7] W fun e w' => e = .returned (.tuple #[.int .u64 0, .int .u64 7]) ∧ w' = W) := Lib.hid (fun W => Tryz.bits_Mul 1 7 (by decide) (by decide) W); have HN : Hid (∀ (W : World) (s : ByteArray), Lib.hasPrefix s.data.toList [48] = false → Calls Tryz.prog 206 #[.string s, .string ⟨#[48]⟩] W fun e w' => e = .returned (.bool false) ∧ w' = W) := Lib.hid (fun W s h => hp_of h); have HY : Hid (∀ (W : World) (s : ByteArray), Lib.hasPrefix s.data.toList [48] = true → Calls Tryz.prog 206 #[.string s, .string ⟨#[48]⟩] W fun e w' => e = .returned (.bool true) ∧ w' = W) := Lib.hid (fun W s h => hp_of h); go_enter Tryz.func183, Tryz.ntmps183
  go_wp2_with fail
  refine (HM.out _).mono ?_; rintro e w1 ⟨rfl, rfl⟩
  go_wp2_with fail
  refine (HN.out _ _ (by decide)).mono ?_; rintro e w1 ⟨rfl, rfl⟩
  go_wp2_with fail
  refine (HN.out _ _ (by decide)).mono ?_; rintro e w1 ⟨rfl, rfl⟩
  go_wp2_with fail
  refine (HY.out _ _ (by decide)).mono ?_; rintro e w1 ⟨rfl, rfl⟩; go_wp2; go_ret; exact ⟨rfl, rfl⟩
set_option maxRecDepth 1000000 in
theorem rep8 {w : World} : Calls Tryz.prog 183 #[.string ⟨#[48]⟩, .int .i64 8] w fun e w' => e = .returned (.string ⟨#[48, 48, 48, 48, 48, 48, 48, 48]⟩) ∧ w' = w := by
  have HM : Hid (∀ W : World, Calls Tryz.prog 205 #[.int .u64 1, .int .u64 8] W fun e w' => e = .returned (.tuple #[.int .u64 0, .int .u64 8]) ∧ w' = W) := Lib.hid (fun W => Tryz.bits_Mul 1 8 (by decide) (by decide) W); have HN : Hid (∀ (W : World) (s : ByteArray), Lib.hasPrefix s.data.toList [48] = false → Calls Tryz.prog 206 #[.string s, .string ⟨#[48]⟩] W fun e w' => e = .returned (.bool false) ∧ w' = W) := Lib.hid (fun W s h => hp_of h); have HY : Hid (∀ (W : World) (s : ByteArray), Lib.hasPrefix s.data.toList [48] = true → Calls Tryz.prog 206 #[.string s, .string ⟨#[48]⟩] W fun e w' => e = .returned (.bool true) ∧ w' = W) := Lib.hid (fun W s h => hp_of h); go_enter Tryz.func183, Tryz.ntmps183
  go_wp2_with fail
  refine (HM.out _).mono ?_; rintro e w1 ⟨rfl, rfl⟩
  go_wp2_with fail
  refine (HN.out _ _ (by decide)).mono ?_; rintro e w1 ⟨rfl, rfl⟩
  go_wp2_with fail
  refine (HN.out _ _ (by decide)).mono ?_; rintro e w1 ⟨rfl, rfl⟩
  go_wp2_with fail
  refine (HY.out _ _ (by decide)).mono ?_; rintro e w1 ⟨rfl, rfl⟩; go_wp2; go_ret; exact ⟨rfl, rfl⟩
set_option maxRecDepth 1000000 in
theorem rep9 {w : World} : Calls Tryz.prog 183 #[.string ⟨#[48]⟩, .int .i64 9] w fun e w' => e = .returned (.string ⟨#[48, 48, 48, 48, 48, 48, 48, 48, 48]⟩) ∧ w' = w := by
  have HM : Hid (∀ W : World, Calls Tryz.prog 205 #[.int .u64 1, .int .u64 9] W fun e w' => e = .returned (.tuple #[.int .u64 0, .int .u64 9]) ∧ w' = W) := Lib.hid (fun W => Tryz.bits_Mul 1 9 (by decide) (by decide) W); have HN : Hid (∀ (W : World) (s : ByteArray), Lib.hasPrefix s.data.toList [48] = false → Calls Tryz.prog 206 #[.string s, .string ⟨#[48]⟩] W fun e w' => e = .returned (.bool false) ∧ w' = W) := Lib.hid (fun W s h => hp_of h); have HY : Hid (∀ (W : World) (s : ByteArray), Lib.hasPrefix s.data.toList [48] = true → Calls Tryz.prog 206 #[.string s, .string ⟨#[48]⟩] W fun e w' => e = .returned (.bool true) ∧ w' = W) := Lib.hid (fun W s h => hp_of h); go_enter Tryz.func183, Tryz.ntmps183
  go_wp2_with fail
  refine (HM.out _).mono ?_; rintro e w1 ⟨rfl, rfl⟩
  go_wp2_with fail
  refine (HN.out _ _ (by decide)).mono ?_; rintro e w1 ⟨rfl, rfl⟩
  go_wp2_with fail
  refine (HN.out _ _ (by decide)).mono ?_; rintro e w1 ⟨rfl, rfl⟩
  go_wp2_with fail
  refine (HY.out _ _ (by decide)).mono ?_; rintro e w1 ⟨rfl, rfl⟩; go_wp2; go_ret; exact ⟨rfl, rfl⟩
theorem rep_any {w : World} {n : Nat} (h1 : 1 ≤ n) (h9 : n ≤ 9) : Calls Tryz.prog 183 #[.string ⟨#[48]⟩, .int .i64 (n : Nat)] w fun e w' => e = .returned (sL (List.replicate n 48)) ∧ w' = w := by
  rcases (by omega : n = 1 ∨ n = 2 ∨ n = 3 ∨ n = 4 ∨ n = 5 ∨ n = 6 ∨ n = 7 ∨ n = 8 ∨ n = 9) with rfl | rfl | rfl | rfl | rfl | rfl | rfl | rfl | rfl
  · exact rep1
  · exact rep2
  · exact rep3
  · exact rep4
  · exact rep5
  · exact rep6
  · exact rep7
  · exact rep8
  · exact rep9
end Go.Proofs.YtngkolcpbgibcaaGreatDoor
namespace Go.Proofs.YtngkolcpbgibcaaGreatDoor
open Go.ChangeShapes Go.WideShapes Go.RowKit Go.Joins Go.Sort
section
variable {H : Type} {enc : TypeId × Value → H} {P : Program} {W : World} {base b0 : Nat} {sp : Nat → Bool} {held : Bool} {r : Reach} {v : Value} {d : DataW H} {p : List MemPlace}
theorem trod_struct5 {t : TypeId} {f0 f1 f2 f3 f4 : Field} {fuel : Nat} {cs : List Value} {x : DataW H × List MemPlace} (ht : P.underlying t = some (.struct #[f0, f1, f2, f3, f4])) (h : DataW.trod enc P W base sp held fuel t cs = some x) :
    ∃ y0 y1 y2 y3 y4 n, DataW.trod enc P W base sp held n f0.type ((cs.drop f0.offset).take (P.cellsOf f0.type)) = some y0 ∧
      DataW.trod enc P W base sp held n f1.type ((cs.drop f1.offset).take (P.cellsOf f1.type)) = some y1 ∧ DataW.trod enc P W base sp held n f2.type ((cs.drop f2.offset).take (P.cellsOf f2.type)) = some y2 ∧
      DataW.trod enc P W base sp held n f3.type ((cs.drop f3.offset).take (P.cellsOf f3.type)) = some y3 ∧ DataW.trod enc P W base sp held n f4.type ((cs.drop f4.offset).take (P.cellsOf f4.type)) = some y4 := by
  obtain ⟨xs, n, _, rfl, hl, hlen, hf⟩ := DataW.trod_struct ht h
  match xs, hlen with
  | [y0, y1, y2, y3, y4], _ => exact ⟨y0, y1, y2, y3, y4, n, by simpa using hf 0 f0 rfl, by simpa using hf 1 f1 rfl, by simpa using hf 2 f2 rfl, by simpa using hf 3 f3 rfl, by simpa using hf 4 f4 rfl⟩
set_option maxRecDepth 100000 in
theorem val_form (hv : Value.okWide Tryz.prog W r b0 32 v) (h : DataW.Trod enc Tryz.prog W base sp held 32 v d p) :
    ∃ (k m s : Int) (t : ByteArray) (b : Bool) (e : Int), v = .agg #[.int .i64 k, .int .i64 m, .int .i64 s, .string t, .bool b, .int .i64 e] ∧ (Lit.int .i64 m).wf = true := by
  obtain ⟨cs, rfl, hsz⟩ := okWide_struct Tryz.underlying32 hv; obtain ⟨l⟩ := cs; have h6 : l.length = 6 := hsz.trans (by kernel_rfl)
  match l, h6 with
  | [c0, c1, c2, c3, c4, c5], _ =>
    obtain ⟨fuel, hf⟩ := h; obtain ⟨y0, y1, y2, y3, y4, n, h0, h1, h2, h3, h4⟩ := trod_struct5 Tryz.underlying32 hf; have h0' : DataW.trod enc Tryz.prog W base sp held n 3 [c0] = some y0 := h0; have h1' : DataW.trod enc Tryz.prog W base sp held n 30 [c1, c2] = some y1 := h1; have h2' : DataW.trod enc Tryz.prog W base sp held n 9 [c3] = some y2 := h2; have h3' : DataW.trod enc Tryz.prog W base sp held n 4 [c4] = some y3 := h3; have h4' : DataW.trod enc Tryz.prog W base sp held n 3 [c5] = some y4 := h4; obtain ⟨z0, z1, n', -, -, g0, g1⟩ := trod_struct2 Tryz.underlying30 h1'; have g0' : DataW.trod enc Tryz.prog W base sp held n' 2 [c1] = some z0 := g0; have g1' : DataW.trod enc Tryz.prog W base sp held n' 3 [c2] = some z1 := g1; obtain ⟨k, e0, -, -⟩ := DataW.trod_int Tryz.underlying3 h0'; obtain ⟨m, e1, -, hm⟩ := DataW.trod_int Tryz.underlying2 g0'; obtain ⟨s, e2, -, -⟩ := DataW.trod_int Tryz.underlying3 g1'; obtain ⟨t, e3, -, -⟩ := DataW.trod_string Tryz.underlying9 h2'; obtain ⟨b, e4, -⟩ := DataW.trod_bool Tryz.underlying4 h3'; obtain ⟨e, e5, -, -⟩ := DataW.trod_int Tryz.underlying3 h4'; injection e0 with e0; injection e1 with e1; injection e2 with e2; injection e3 with e3; injection e4 with e4; injection e5 with e5; exact ⟨k, m, s, t, b, e, by rw [e0, e1, e2, e3, e4, e5], hm⟩
end
theorem tab_of {d1 d2 : DataW Unit} {n1 n2 : String} {rest : List (String × DataW Unit)} {W : World} (hL : laidMet Tryz.prog ((n1, d1) :: (n2, d2) :: ("internal/strconv.uint64pow10", Lib.tabData .u64 Lib.pow10Tab) :: rest) W) : Lib.TabIs Tryz.prog W "internal/strconv.uint64pow10" .u64 Lib.pow10Tab :=
  Lib.tabIs_of_head (g := 6) (by kernel_rfl) (by kernel_rfl) Tryz.underlying267 Tryz.underlying117 (by kernel_rfl) (by kernel_rfl) hL.tail.tail
end Go.Proofs.YtngkolcpbgibcaaGreatDoor
namespace Go.Proofs.YtngkolcpbgibcaaGreatDoor
open Go.RowKit Go.Lib
def Val (w : World) : Prop := ∀ (s : ByteArray) (W : World), s.size ≤ 140737488355328 → Below w.heap.size w W →
  Calls Tryz.prog 142 #[.string s] W fun e w' => e = .returned (.bool (validD s.data.toList)) ∧ Below W.heap.size W w'
theorem Val.below {w w' : World} (h : Val w) (hb : Below w.heap.size w w') : Val w' := fun s W hs hb' =>
  h s W hs (hb.trans (hb'.mono hb.size))
theorem uni_len (r : Int) : (uni r).length = if 65536 ≤ r then 2 else 1 := by
  unfold uni
  by_cases h : r < 65536
  · rw [if_pos h, if_neg (by omega)]; rfl
  · rw [if_neg h, if_pos (by omega)]; rfl
theorem unN_at (s : ByteArray) (pos : Nat) (h : pos < s.size) : unN (s.data.toList.drop pos) = (if 65536 ≤ ((Utf8.decode s pos).1 : Int) then 2 else 1) + unN (s.data.toList.drop (pos + (Utf8.decode s pos).2)) := by
  unfold unN unis; rw [rns_at s pos h, List.flatMap_cons, List.length_append, uni_len]
theorem unN_end (s : ByteArray) (pos : Nat) (h : ¬ pos < s.size) : unN (s.data.toList.drop pos) = 0 := by
  unfold unN unis; rw [rns_end s pos h]; rfl
set_option maxHeartbeats 4000000 in
set_option maxRecDepth 100000 in
theorem units_any {w : World} (HV : Val w) (s : ByteArray) (hs : s.size ≤ 140737488355328) :
    Calls Tryz.prog 64 #[.string s] w fun e w' => e = .returned (.tuple #[.int .i64 (uV s.data.toList), .int .i64 (uE s.data.toList)]) ∧ Below w.heap.size w w' := by
  have HC := HV s w hs (Below.refl _ _); clear HV
  cases hv : validD s.data.toList
  · have e1 : uE s.data.toList = 2 := by unfold uE; rw [if_pos hv]
    have e2 : uV s.data.toList = 0 := by unfold uV; rw [e1]; rfl
    rw [e1, e2]; rw [hv] at HC; clear hv e1 e2; go_enter Tryz.func64, Tryz.ntmps64
    go_wp2_with fail
    refine HC.mono ?_; rintro e w1 ⟨rfl, hb1⟩; go_wp2
    go_ret2
    exact ⟨rfl, hb1⟩
  · rw [hv] at HC; have e1 : uE s.data.toList = if 1000 < unN s.data.toList then 4 else 0 := by unfold uE; rw [if_neg (by rw [hv]; decide)]
    have e2 : uV s.data.toList = if 1000 < unN s.data.toList then 0 else (unN s.data.toList : Int) := by
      unfold uV; rw [e1]
      by_cases h : 1000 < unN s.data.toList
      · rw [if_pos h, if_pos h]; rfl
      · rw [if_neg h, if_neg h]; rfl
    rw [e1, e2]; clear hv e1 e2; obtain ⟨N, hN⟩ : ∃ N, unN s.data.toList = N := ⟨_, rfl⟩
    have H0 := Lib.hid hN; rw [hN]; clear hN; obtain ⟨V, hV⟩ : ∃ V, (if 1000 < N then 0 else (N : Int)) = V := ⟨_, rfl⟩
    obtain ⟨E, hE⟩ : ∃ E : Int, (if 1000 < N then 4 else 0) = E := ⟨_, rfl⟩
    rw [hV, hE]; have HV := Lib.hid hV; have HE := Lib.hid hE; clear hV hE; go_enter Tryz.func64, Tryz.ntmps64
    go_wp2_with fail
    refine HC.mono ?_; rintro e w1 ⟨rfl, hb1⟩; clear HC; go_wp2
    go_loopw [4] (fun n w' => ∃ pos acc : Nat, w' = w1.iter s pos ∧ n = .int .i64 acc ∧ acc + unN (s.data.toList.drop pos) = N ∧ acc ≤ 2 * pos ∧ pos ≤ s.size) (fun _ w' => s.size - w'.iterPos w1.heap.size)
    case atStart => exact ⟨0, 0, rfl, rfl, by rw [List.drop_zero, H0.out]; omega, by omega, by omega⟩
    case round =>
      obtain ⟨pos, acc, rfl, rfl, hc, ha, hp0⟩ := hrel
      by_cases hp : pos < s.size
      · have hnx : ∀ ty, (Instr.next (.pointer (some ⟨w1.heap.size, 0, none⟩)) true ty).run Tryz.prog (w1.iter s pos) = _ := fun ty => run_next_any w1 s pos ty hp; have hwd := Lib.decode_width_pos s pos hp; have hst := Lib.hid (unN_at s pos hp); have hle : pos + (Utf8.decode s pos).2 ≤ s.size := decode_le s pos hp; have HC := Lib.hid hc; clear hc; generalize hr : ((Utf8.decode s pos).1 : Int) = r at *; generalize hk : (Utf8.decode s pos).2 = k at *
        by_cases hbig : 65536 ≤ r
        · go_wp2
          go_roundw
          case rel =>
            have h1 := HC.out; have h2 := hst.out; rw [if_pos hbig] at h2; exact ⟨pos + k, acc + 2, rfl, by go_num, by omega, by omega, hle⟩
          case measure =>
            simp; omega
        · go_wp2
          go_roundw
          case rel =>
            have h1 := HC.out; have h2 := hst.out; rw [if_neg hbig] at h2; exact ⟨pos + k, acc + 1, rfl, by go_num, by omega, by omega, hle⟩
          case measure =>
            simp; omega
      · have hnx : ∀ ty, (Instr.next (.pointer (some ⟨w1.heap.size, 0, none⟩)) true ty).run Tryz.prog (w1.iter s pos) = _ := fun ty => run_next_end w1 s pos ty hp; have hN : acc = N := by rw [unN_end s pos hp] at hc; omega
        clear hc H0; subst hN; have hbF : Below w.heap.size w (w1.iter s pos) := hb1.alloc hb1.size _
        by_cases hl : 1000 < acc
        · have hl' : (1000 : Int) < (acc : Int) := by omega
          have hV := HV.out; have hE := HE.out; rw [if_pos hl] at hV hE; subst hV hE; clear HV HE; go_wp2
          go_ret2
          exact ⟨rfl, hbF⟩
        · have hl' : ¬ (1000 : Int) < (acc : Int) := by omega
          have hV := HV.out; have hE := HE.out; rw [if_neg hl] at hV hE; subst hV hE; clear HV HE; go_wp2
          go_ret2
          exact ⟨rfl, hbF⟩
end Go.Proofs.YtngkolcpbgibcaaGreatDoor
namespace Go.Proofs
open Go.Shelf Go.Lib
def Tryz.laysV_ren : Ren := ⟨fun | 196 => 142 | 259 => 187 | n => n, fun | 0 => 0 | 3 => 3 | 4 => 4 | 5 => 5 | 9 => 9 | 12 => 12 | 46 => 115 | 53 => 117 | 119 => 229 | 138 => 231 | 139 => 232 | n => n, fun | 3 => 1 | 4 => 2 | n => n⟩
theorem Tryz.laysV : Lays.n196 Tryz.prog Tryz.laysV_ren := {
  mixed := by kernel_rfl
  f196 := Tryz.func142.trans (congrArg some (by kernel_rfl))
  f259 := Tryz.func187.trans (congrArg some (by kernel_rfl))
  t0 := Tryz.underlying0
  a0 := Tryz.isAgg0
  z0 := Tryz.sizeOf0
  v0 := Tryz.zeroValue0
  t3 := Tryz.underlying3
  a3 := Tryz.isAgg3
  z3 := Tryz.sizeOf3
  v3 := Tryz.zeroValue3
  t4 := Tryz.underlying4
  a4 := Tryz.isAgg4
  z4 := Tryz.sizeOf4
  v4 := Tryz.zeroValue4
  t5 := Tryz.underlying5
  a5 := Tryz.isAgg5
  z5 := Tryz.sizeOf5
  v5 := Tryz.zeroValue5
  t9 := Tryz.underlying9
  a9 := Tryz.isAgg9
  z9 := Tryz.sizeOf9
  v9 := Tryz.zeroValue9
  t12 := Tryz.underlying12
  a12 := Tryz.isAgg12
  z12 := Tryz.sizeOf12
  v12 := Tryz.zeroValue12
  t46 := Tryz.underlying115
  a46 := Tryz.isAgg115
  z46 := Tryz.sizeOf115
  v46 := Tryz.zeroValue115
  t53 := Tryz.underlying117
  a53 := Tryz.isAgg117
  z53 := Tryz.sizeOf117
  v53 := Tryz.zeroValue117
  t119 := Tryz.underlying229
  a119 := Tryz.isAgg229
  z119 := Tryz.sizeOf229
  t138 := Tryz.underlying231
  a138 := Tryz.isAgg231
  z138 := Tryz.sizeOf231
  v138 := Tryz.zeroValue231
  t139 := Tryz.underlying232
  a139 := Tryz.isAgg232
  z139 := Tryz.sizeOf232
  v139 := Tryz.zeroValue232
  g3 := by kernel_rfl
  g4 := by kernel_rfl }
namespace YtngkolcpbgibcaaGreatDoor
def Tabs (w : World) : Prop := Lib.Utf8Tabs (Tryz.laysV_ren.g 3) (Tryz.laysV_ren.g 4) w
theorem val_of {w : World} (h : Tabs w) : Val w := fun s W hz hb =>
  Any.utf8_ValidString Tryz.laysV s W (by omega) (Utf8Tabs_below h hb)
end YtngkolcpbgibcaaGreatDoor
end Go.Proofs
namespace Go.Proofs.YtngkolcpbgibcaaGreatDoor
open Go.RowKit Go.Lib
def r32 (x : Int) : Value := .int .i32 x
theorem runes_list (s : ByteArray) : ∀ (bound i : Nat) (acc : Array Value), s.size - i ≤ bound → (Conv.runesFrom s bound i acc).toList = acc.toList ++ (rns (s.data.toList.drop i)).map r32
  | 0, i, acc, h => by rw [Conv.runesFrom, rns_end s i (by omega)]; simp
  | bound + 1, i, acc, h => by
    unfold Conv.runesFrom
    by_cases hi : i < s.size
    · rw [if_pos hi]; have hw := Lib.decode_width_pos s i hi; dsimp only; rw [runes_list s bound _ _ (by omega), rns_at s i hi]; simp [r32]
    · rw [if_neg hi, rns_end s i hi]; simp
theorem cmp_ne {x y : Int} {a b : List Int} (h : ¬ x = y) : cmpR (x :: a) (y :: b) = cmp x y := by
  rw [cmpR]; unfold cmp
  by_cases h1 : x < y
  · rw [if_pos h1, if_pos h1]
  · rw [if_neg h1, if_pos (by omega), if_neg h1, if_neg h]
theorem cmp_tail {a : List Int} {k : Nat} (h : k ≤ a.length) : cmpR [] (a.drop k) = cmp (k : Int) (a.length : Int) := by
  by_cases hk : k = a.length
  · subst hk; rw [List.drop_length, cmpR]; exact ((cmp_zero _ _).2 rfl).symm
  · rw [List.drop_eq_getElem_cons (by omega), cmpR]; unfold cmp; rw [if_pos (by omega)]
set_option maxHeartbeats 4000000 in
set_option maxRecDepth 100000 in
theorem compareTexts_any {w : World} (a b : ByteArray) (ha : a.size ≤ 140737488355328) (hb : b.size ≤ 70368744177664) :
    Calls Tryz.prog 84 #[.string a, .string b] w fun e w' => e = .returned (.int .i64 (cmpR (rns a.data.toList) (rns b.data.toList))) ∧ Below w.heap.size w w' := by
  have hn : (Conv.runesFrom b b.size 0 #[]).size ≤ b.size := by have := size_runesFrom b b.size 0 #[]; simpa using this
  have hcv := run_runes_of_string (P := Tryz.prog) w 9 52 21 b Tryz.underlying9 Tryz.underlying52 Tryz.underlying21 (by omega); have hl : (Conv.runesFrom b b.size 0 #[]).toList = (rns b.data.toList).map r32 := by rw [runes_list b b.size 0 #[] (by omega)]; simp
  have hsz : (Conv.runesFrom b b.size 0 #[]).size = (rns b.data.toList).length := by
    have := congrArg List.length hl
    simpa using this
  have hcell : ∀ i x, (rns b.data.toList)[i]? = some x → (w.drew.alloc (.cells (Conv.runesFrom b b.size 0 #[] ++ Array.replicate (grownCap w (Conv.runesFrom b b.size 0 #[]).size 0 21 - (Conv.runesFrom b b.size 0 #[]).size) (.int .i32 0)) 21)).cell? ⟨w.heap.size, i, none⟩ = some (.int .i32 x) := by
    intro i x hx; have hi : i < (rns b.data.toList).length := (List.getElem?_eq_some_iff.1 hx).1; have := World.cell?_alloc_new w.drew (Conv.runesFrom b b.size 0 #[] ++ Array.replicate (grownCap w (Conv.runesFrom b b.size 0 #[]).size 0 21 - (Conv.runesFrom b b.size 0 #[]).size) (.int .i32 0)) 21 i; rw [show w.drew.heap.size = w.heap.size from rfl] at this; rw [this, Array.getElem?_append_left (by omega), ← Array.getElem?_toList, hl, List.getElem?_map, hx]; rfl
  have hbel : Below w.heap.size w (w.drew.alloc (.cells (Conv.runesFrom b b.size 0 #[] ++ Array.replicate (grownCap w (Conv.runesFrom b b.size 0 #[]).size 0 21 - (Conv.runesFrom b b.size 0 #[]).size) (.int .i32 0)) 21)) := ((Below.refl _ _).drew).alloc (Nat.le_refl _) _; have hszw : (w.drew.alloc (.cells (Conv.runesFrom b b.size 0 #[] ++ Array.replicate (grownCap w (Conv.runesFrom b b.size 0 #[]).size 0 21 - (Conv.runesFrom b b.size 0 #[]).size) (.int .i32 0)) 21)).heap.size = w.heap.size + 1 := by simp
  generalize w.drew.alloc (.cells (Conv.runesFrom b b.size 0 #[] ++ Array.replicate (grownCap w (Conv.runesFrom b b.size 0 #[]).size 0 21 - (Conv.runesFrom b b.size 0 #[]).size) (.int .i32 0)) 21) = W1 at *; rw [hsz] at hn; generalize grownCap w (Conv.runesFrom b b.size 0 #[]).size 0 21 = cap at *; rw [hsz] at hcv; clear hl hsz; have HB := Lib.hid hb; have HZ := Lib.hid hszw; clear hszw; clear hb; generalize hR : rns b.data.toList = R at *; clear hR; obtain ⟨C, hC⟩ : ∃ C, cmpR (rns a.data.toList) R = C := ⟨_, rfl⟩
  have H0 := Lib.hid hC; rw [hC]; clear hC; obtain ⟨n, hn0⟩ : ∃ n, R.length = n := ⟨_, rfl⟩
  have HN := Lib.hid hn0; rw [hn0] at hcv hn; clear hn0; have HC := Lib.hid hcell; have HI := Lib.hid (fun (W : World) (x y : Int) => cmp_int (w := W) x y); have HU := Lib.hid (fun (W : World) (x y : Int) => cmp_rune (w := W) x y); clear hcell; go_enter Tryz.func84, Tryz.ntmps84; go_wp2; clear hcv
  go_loopw [6] (fun q w' => ∃ pos k : Nat, w' = W1.iter a pos ∧ q = .int .i64 k ∧ k ≤ n ∧ pos ≤ a.size ∧ k ≤ pos ∧ Hid (cmpR (rns (a.data.toList.drop pos)) (R.drop k) = C)) (fun _ w' => a.size - w'.iterPos W1.heap.size)
  case atStart => exact ⟨0, 0, rfl, rfl, Nat.zero_le _, Nat.zero_le _, Nat.le_refl _, Lib.hid (by rw [List.drop_zero, List.drop_zero, H0.out])⟩
  case round =>
    obtain ⟨pos, k, rfl, rfl, hk, hp0, hkp, HS⟩ := hrel
    by_cases hp : pos < a.size
    · have hnx : ∀ ty, (Instr.next (.pointer (some ⟨W1.heap.size, 0, none⟩)) true ty).run Tryz.prog (W1.iter a pos) = _ := fun ty => run_next_any W1 a pos ty hp; have hwd := Lib.decode_width_pos a pos hp; have hle : pos + (Utf8.decode a pos).2 ≤ a.size := decode_le a pos hp; have hst := Lib.hid (rns_at a pos hp); generalize ((Utf8.decode a pos).1 : Int) = r at *; generalize (Utf8.decode a pos).2 = wd at *
      by_cases hkn : k = n
      · subst hkn
        obtain rfl : C = 1 := by
          have := HS.out; rw [hst.out, show R.drop k = [] from List.drop_of_length_le (by rw [HN.out]; exact Nat.le_refl _)] at this; exact this.symm
        have hbF : ∀ p, Below w.heap.size w (W1.iter a p) := fun p => hbel.alloc hbel.size _; clear hst HS HC HI HU; go_wp2; go_ret; exact ⟨rfl, hbF _⟩
      · have hkn' : ¬ (k : Int) = (n : Int) := by omega
        have hlt : (k : Int) < (n : Int) := by omega
        have hltn : k < n := by omega
        obtain ⟨x, hx⟩ : ∃ x, R[k]? = some x := ⟨_, List.getElem?_eq_getElem (by rw [HN.out]; exact hltn)⟩
        have hd : R.drop k = x :: R.drop (k + 1) := by
          have hkl : k < R.length := by rw [HN.out]; exact hltn
          rw [List.drop_eq_getElem_cons hkl]; rw [List.getElem?_eq_getElem hkl] at hx; injection hx with hx; rw [hx]
        have HD := Lib.hid hd; have hc0 := HC.out k x hx
        have hc1 : ∀ p, (W1.iter a p).cell? ⟨w.heap.size, k, none⟩ = some (.int .i32 x) := fun p => by
          rw [← hc0]; exact (bcell ((Below.refl _ W1).alloc (Nat.le_refl _) _)).1 _ _ (by rw [HZ.out]; omega)
        clear hx hd hc0 hkn
        by_cases hrx : r = x
        · subst hrx; go_wp2
          go_roundw
          case rel =>
            have := HS.out; rw [hst.out, HD.out, cmpR_eq rfl] at this; exact ⟨pos + wd, k + 1, rfl, by go_num, by omega, hle, by omega, Lib.hid this⟩
          case measure =>
            simp; omega
        · have HV := Lib.hid (show cmp r x = C by
            rw [← HS.out, hst.out, HD.out, cmp_ne hrx])
          have hbF : ∀ p, Below w.heap.size w (W1.iter a p) := fun p => hbel.alloc hbel.size _; clear hst HS HC HI HD
          go_wp2_with fail
          refine (HU.out _ _ _).mono ?_; rintro e w2 ⟨rfl, rfl⟩; rw [HV.out]; go_wp2; go_ret; exact ⟨rfl, hbF _⟩
    · have hnx : ∀ ty, (Instr.next (.pointer (some ⟨W1.heap.size, 0, none⟩)) true ty).run Tryz.prog (W1.iter a pos) = _ := fun ty => run_next_end W1 a pos ty hp
      have HV := Lib.hid (show cmp (k : Int) (n : Int) = C by
        rw [← HS.out, rns_end a pos hp, ← HN.out, cmp_tail (by rw [HN.out]; exact hk)])
      have hbF : ∀ p, Below w.heap.size w (W1.iter a p) := fun p => hbel.alloc hbel.size _; clear HS HC HU
      go_wp2_with fail
      refine (HI.out _ _ _).mono ?_; rintro e w2 ⟨rfl, rfl⟩; rw [HV.out]; go_wp2; go_ret; exact ⟨rfl, hbF _⟩
end Go.Proofs.YtngkolcpbgibcaaGreatDoor
