/- cmp.Compare at three types; val's rank, truthText, faultText, Fault, own, filled, Same; the law's N, S, by their contracts. No condition. -/
/- str.Units by its contract. Condition: utf8.ValidString keeps its contract (its tables are laid); a text's length is one. -/
/- The library's contract of utf8.ValidString, laid at this program; its two tables. Condition: the tables are laid as their initialisers lay them. -/
/- val.compareTexts by its contract: texts in order by their runes. Condition: the texts are not too long. -/
import Derived.Test.YtngkolcpbgibcaaGreatDoorVl
import Derived.Test.YtngkolcpbgibcaaGreatDoorD5
import Derived.Test.YtngkolcpbgibcaaGreatDoorProg
import Derived.Test.YtngkolcpbgibcaaGreatDoorJoin
import Derived.Lib.RuneCount
import Derived.Laws.Runes
import Derived.Laws.RangeAny
import Derived.Shelf.Unicode.ValidAny
import Derived.Laws.IdiomStrings
set_option linter.unusedVariables false
set_option linter.unusedSimpArgs false
namespace Go.Proofs.YtngkolcpbgibcaaGreatDoor
open Go.RowKit
theorem isNaN_int {w : World} {x : Int} : Calls Tryz.prog 158 #[.int .i64 x] w fun e w' => e = .returned (.bool false) ∧ w' = w := by
  go_enter Tryz.func158, Tryz.ntmps158; go_wp2; go_ret; exact ⟨rfl, rfl⟩
theorem cmp_int {w : World} (x y : Int) : Calls Tryz.prog 83 #[.int .i64 x, .int .i64 y] w fun e w' => e = .returned (.int .i64 (cmp x y)) ∧ w' = w := by
  have HN := Lib.hid (fun (W : World) (z : Int) => isNaN_int (w := W) (x := z)); obtain ⟨c, hc⟩ : ∃ c, cmp x y = c := ⟨_, rfl⟩
  have HC := Lib.hid hc; rw [hc]; clear hc
  rcases Int.lt_trichotomy x y with h | h | h
  · obtain rfl : c = -1 := by rw [← HC.out]; unfold cmp; rw [if_pos h]
    go_enter Tryz.func83, Tryz.ntmps83
    go_wp2_with fail
    refine (HN.out _ _).mono ?_; rintro e w1 ⟨rfl, rfl⟩
    go_wp2_with fail
    refine (HN.out _ _).mono ?_; rintro e w1 ⟨rfl, rfl⟩; go_wp2; go_ret; exact ⟨rfl, rfl⟩
  · subst h; obtain rfl : c = 0 := by rw [← HC.out]; unfold cmp; simp
    go_enter Tryz.func83, Tryz.ntmps83
    go_wp2_with fail
    refine (HN.out _ _).mono ?_; rintro e w1 ⟨rfl, rfl⟩
    go_wp2_with fail
    refine (HN.out _ _).mono ?_; rintro e w1 ⟨rfl, rfl⟩; go_wp2; go_ret; exact ⟨rfl, rfl⟩
  · have h' : ¬ x < y := by omega
    obtain rfl : c = 1 := by rw [← HC.out]; unfold cmp; rw [if_neg h', if_neg (by omega)]
    go_enter Tryz.func83, Tryz.ntmps83
    go_wp2_with fail
    refine (HN.out _ _).mono ?_; rintro e w1 ⟨rfl, rfl⟩
    go_wp2_with fail
    refine (HN.out _ _).mono ?_; rintro e w1 ⟨rfl, rfl⟩; go_wp2; go_ret; exact ⟨rfl, rfl⟩
theorem isNaN_i64 {w : World} {x : Int} : Calls Tryz.prog 160 #[.int .i64 x] w fun e w' => e = .returned (.bool false) ∧ w' = w := by
  go_enter Tryz.func160, Tryz.ntmps160; go_wp2; go_ret; exact ⟨rfl, rfl⟩
theorem cmp_i64 {w : World} (x y : Int) : Calls Tryz.prog 85 #[.int .i64 x, .int .i64 y] w fun e w' => e = .returned (.int .i64 (cmp x y)) ∧ w' = w := by
  have HN := Lib.hid (fun (W : World) (z : Int) => isNaN_i64 (w := W) (x := z)); obtain ⟨c, hc⟩ : ∃ c, cmp x y = c := ⟨_, rfl⟩
  have HC := Lib.hid hc; rw [hc]; clear hc
  rcases Int.lt_trichotomy x y with h | h | h
  · obtain rfl : c = -1 := by rw [← HC.out]; unfold cmp; rw [if_pos h]
    go_enter Tryz.func85, Tryz.ntmps85
    go_wp2_with fail
    refine (HN.out _ _).mono ?_; rintro e w1 ⟨rfl, rfl⟩
    go_wp2_with fail
    refine (HN.out _ _).mono ?_; rintro e w1 ⟨rfl, rfl⟩; go_wp2; go_ret; exact ⟨rfl, rfl⟩
  · subst h; obtain rfl : c = 0 := by rw [← HC.out]; unfold cmp; simp
    go_enter Tryz.func85, Tryz.ntmps85
    go_wp2_with fail
    refine (HN.out _ _).mono ?_; rintro e w1 ⟨rfl, rfl⟩
    go_wp2_with fail
    refine (HN.out _ _).mono ?_; rintro e w1 ⟨rfl, rfl⟩; go_wp2; go_ret; exact ⟨rfl, rfl⟩
  · have h' : ¬ x < y := by omega
    obtain rfl : c = 1 := by rw [← HC.out]; unfold cmp; rw [if_neg h', if_neg (by omega)]
    go_enter Tryz.func85, Tryz.ntmps85
    go_wp2_with fail
    refine (HN.out _ _).mono ?_; rintro e w1 ⟨rfl, rfl⟩
    go_wp2_with fail
    refine (HN.out _ _).mono ?_; rintro e w1 ⟨rfl, rfl⟩; go_wp2; go_ret; exact ⟨rfl, rfl⟩
theorem isNaN_rune {w : World} {x : Int} : Calls Tryz.prog 190 #[.int .i32 x] w fun e w' => e = .returned (.bool false) ∧ w' = w := by
  go_enter Tryz.func190, Tryz.ntmps190; go_wp2; go_ret; exact ⟨rfl, rfl⟩
theorem cmp_rune {w : World} (x y : Int) : Calls Tryz.prog 159 #[.int .i32 x, .int .i32 y] w fun e w' => e = .returned (.int .i64 (cmp x y)) ∧ w' = w := by
  have HN := Lib.hid (fun (W : World) (z : Int) => isNaN_rune (w := W) (x := z)); obtain ⟨c, hc⟩ : ∃ c, cmp x y = c := ⟨_, rfl⟩
  have HC := Lib.hid hc; rw [hc]; clear hc
  rcases Int.lt_trichotomy x y with h | h | h
  · obtain rfl : c = -1 := by rw [← HC.out]; unfold cmp; rw [if_pos h]
    go_enter Tryz.func159, Tryz.ntmps159
    go_wp2_with fail
    refine (HN.out _ _).mono ?_; rintro e w1 ⟨rfl, rfl⟩
    go_wp2_with fail
    refine (HN.out _ _).mono ?_; rintro e w1 ⟨rfl, rfl⟩; go_wp2; go_ret; exact ⟨rfl, rfl⟩
  · subst h; obtain rfl : c = 0 := by rw [← HC.out]; unfold cmp; simp
    go_enter Tryz.func159, Tryz.ntmps159
    go_wp2_with fail
    refine (HN.out _ _).mono ?_; rintro e w1 ⟨rfl, rfl⟩
    go_wp2_with fail
    refine (HN.out _ _).mono ?_; rintro e w1 ⟨rfl, rfl⟩; go_wp2; go_ret; exact ⟨rfl, rfl⟩
  · have h' : ¬ x < y := by omega
    obtain rfl : c = 1 := by rw [← HC.out]; unfold cmp; rw [if_neg h', if_neg (by omega)]
    go_enter Tryz.func159, Tryz.ntmps159
    go_wp2_with fail
    refine (HN.out _ _).mono ?_; rintro e w1 ⟨rfl, rfl⟩
    go_wp2_with fail
    refine (HN.out _ _).mono ?_; rintro e w1 ⟨rfl, rfl⟩; go_wp2; go_ret; exact ⟨rfl, rfl⟩
theorem rank_any {w : World} (b : Bool) : Calls Tryz.prog 86 #[.bool b] w fun e w' => e = .returned (.int .i64 (rk b)) ∧ w' = w := by
  cases b
  · go_enter Tryz.func86, Tryz.ntmps86; go_wp2; go_ret; exact ⟨rfl, rfl⟩
  · go_enter Tryz.func86, Tryz.ntmps86; go_wp2; go_ret; exact ⟨rfl, rfl⟩
def sL (l : List UInt8) : Value := .string ⟨l.toArray⟩
def yesL : List UInt8 := [84, 82, 85, 69]
def noL : List UInt8 := [70, 65, 76, 83, 69]
def trL (b : Bool) : List UInt8 := if b then yesL else noL
theorem truthText_any {w : World} (b : Bool) : Calls Tryz.prog 200 #[.bool b] w fun e w' => e = .returned (sL (trL b)) ∧ w' = w := by
  cases b
  · go_enter Tryz.func200, Tryz.ntmps200; go_wp2; go_ret; exact ⟨rfl, rfl⟩
  · go_enter Tryz.func200, Tryz.ntmps200; go_wp2; go_ret; exact ⟨rfl, rfl⟩
def erL (e : Int) : List UInt8 := if e = 0 then [35, 78, 85, 76, 76, 33] else if e = 7 then [35, 68, 73, 86, 47, 48, 33] else if e = 15 then [35, 86, 65, 76, 85, 69, 33] else if e = 23 then [35, 82, 69, 70, 33] else if e = 29 then [35, 78, 65, 77, 69, 63] else if e = 36 then [35, 78, 85, 77, 33] else if e = 42 then [35, 78, 47, 65] else []
theorem faultText_any {w : World} (e : Int) : Calls Tryz.prog 65 #[.int .i64 e] w fun x w' => x = .returned (sL (erL e)) ∧ w' = w := by
  obtain ⟨L, hL⟩ : ∃ L, erL e = L := ⟨_, rfl⟩
  rw [hL]; unfold erL at hL
  by_cases h0 : e = 0
  · subst h0; subst hL; go_enter Tryz.func65, Tryz.ntmps65; go_wp2; go_ret; exact ⟨rfl, rfl⟩
  rw [if_neg h0] at hL
  by_cases h7 : e = 7
  · subst h7; subst hL; go_enter Tryz.func65, Tryz.ntmps65; go_wp2; go_ret; exact ⟨rfl, rfl⟩
  rw [if_neg h7] at hL
  by_cases h15 : e = 15
  · subst h15; subst hL; go_enter Tryz.func65, Tryz.ntmps65; go_wp2; go_ret; exact ⟨rfl, rfl⟩
  rw [if_neg h15] at hL
  by_cases h23 : e = 23
  · subst h23; subst hL; go_enter Tryz.func65, Tryz.ntmps65; go_wp2; go_ret; exact ⟨rfl, rfl⟩
  rw [if_neg h23] at hL
  by_cases h29 : e = 29
  · subst h29; subst hL; go_enter Tryz.func65, Tryz.ntmps65; go_wp2; go_ret; exact ⟨rfl, rfl⟩
  rw [if_neg h29] at hL
  by_cases h36 : e = 36
  · subst h36; subst hL; go_enter Tryz.func65, Tryz.ntmps65; go_wp2; go_ret; exact ⟨rfl, rfl⟩
  rw [if_neg h36] at hL
  by_cases h42 : e = 42
  · subst h42; subst hL; go_enter Tryz.func65, Tryz.ntmps65; go_wp2; go_ret; exact ⟨rfl, rfl⟩
  rw [if_neg h42] at hL; subst hL; go_enter Tryz.func65, Tryz.ntmps65; go_wp2; go_ret; exact ⟨rfl, rfl⟩
theorem erL_none (e : Int) : erL e = [] ↔ ¬ (e = 0 ∨ e = 7 ∨ e = 15 ∨ e = 23 ∨ e = 29 ∨ e = 36 ∨ e = 42) := by
  unfold erL
  repeat' split
  all_goals first | (simp; omega) | (simp only [reduceCtorEq, false_iff]; omega)
theorem fault_any {w : World} (e : Int) : Calls Tryz.prog 30 #[.int .i64 e] w fun x w' => x = .returned (.agg #[.int .i64 4, .int .i64 0, .int .i64 0, .string ⟨#[]⟩, .bool false, .int .i64 e]) ∧ Below w.heap.size w w' := by
  go_enter Tryz.func30, Tryz.ntmps30; go_wp2; exact bodyPost_ret (v := .agg #[.int .i64 4, .int .i64 0, .int .i64 0, .string ⟨#[]⟩, .bool false, .int .i64 e]) (by simp [results, Tryz.results30, go_sem]) rfl ⟨rfl, bel0 _ _⟩
theorem lS_any {w : World} (t : ByteArray) : Calls Tryz.prog 29 #[.string t] w fun x w' => x = .returned (.agg #[.int .i64 2, .int .i64 0, .int .i64 0, .string t, .bool false, .int .i64 0]) ∧ Below w.heap.size w w' := by
  go_enter Tryz.func29, Tryz.ntmps29; go_wp2; exact bodyPost_ret (v := .agg #[.int .i64 2, .int .i64 0, .int .i64 0, .string t, .bool false, .int .i64 0]) (by simp [results, Tryz.results29, go_sem]) rfl ⟨rfl, bel0 _ _⟩
theorem own_num {w : World} (m s : Int) (t : ByteArray) (b : Bool) (e : Int) : Calls Tryz.prog 62 #[.agg #[.int .i64 1, .int .i64 m, .int .i64 s, .string t, .bool b, .int .i64 e]] w fun x w' => x = .returned (.agg #[.int .i64 1, .int .i64 m, .int .i64 s, .string ⟨#[]⟩, .bool false, .int .i64 0]) ∧ Below w.heap.size w w' := by
  go_enter Tryz.func62, Tryz.ntmps62; go_wp2; exact bodyPost_ret (v := .agg #[.int .i64 1, .int .i64 m, .int .i64 s, .string ⟨#[]⟩, .bool false, .int .i64 0]) (by simp [results, Tryz.results62, go_sem]) rfl ⟨rfl, bel2 _ _ _ _⟩
theorem own_str {w : World} (m s : Int) (t : ByteArray) (b : Bool) (e : Int) : Calls Tryz.prog 62 #[.agg #[.int .i64 2, .int .i64 m, .int .i64 s, .string t, .bool b, .int .i64 e]] w fun x w' => x = .returned (.agg #[.int .i64 2, .int .i64 0, .int .i64 0, .string t, .bool false, .int .i64 0]) ∧ Below w.heap.size w w' := by
  go_enter Tryz.func62, Tryz.ntmps62; go_wp2; exact bodyPost_ret (v := .agg #[.int .i64 2, .int .i64 0, .int .i64 0, .string t, .bool false, .int .i64 0]) (by simp [results, Tryz.results62, go_sem]) rfl ⟨rfl, bel2 _ _ _ _⟩
theorem own_bool {w : World} (m s : Int) (t : ByteArray) (b : Bool) (e : Int) : Calls Tryz.prog 62 #[.agg #[.int .i64 3, .int .i64 m, .int .i64 s, .string t, .bool b, .int .i64 e]] w fun x w' => x = .returned (.agg #[.int .i64 3, .int .i64 0, .int .i64 0, .string ⟨#[]⟩, .bool b, .int .i64 0]) ∧ Below w.heap.size w w' := by
  go_enter Tryz.func62, Tryz.ntmps62; go_wp2; exact bodyPost_ret (v := .agg #[.int .i64 3, .int .i64 0, .int .i64 0, .string ⟨#[]⟩, .bool b, .int .i64 0]) (by simp [results, Tryz.results62, go_sem]) rfl ⟨rfl, bel2 _ _ _ _⟩
theorem own_err {w : World} (m s : Int) (t : ByteArray) (b : Bool) (e : Int) : Calls Tryz.prog 62 #[.agg #[.int .i64 4, .int .i64 m, .int .i64 s, .string t, .bool b, .int .i64 e]] w fun x w' => x = .returned (.agg #[.int .i64 4, .int .i64 0, .int .i64 0, .string ⟨#[]⟩, .bool false, .int .i64 e]) ∧ Below w.heap.size w w' := by
  go_enter Tryz.func62, Tryz.ntmps62; go_wp2; exact bodyPost_ret (v := .agg #[.int .i64 4, .int .i64 0, .int .i64 0, .string ⟨#[]⟩, .bool false, .int .i64 e]) (by simp [results, Tryz.results62, go_sem]) rfl ⟨rfl, bel2 _ _ _ _⟩
theorem own_blank {w : World} (m s : Int) (t : ByteArray) (b : Bool) (e : Int) : Calls Tryz.prog 62 #[.agg #[.int .i64 0, .int .i64 m, .int .i64 s, .string t, .bool b, .int .i64 e]] w fun x w' => x = .returned (.agg #[.int .i64 0, .int .i64 0, .int .i64 0, .string ⟨#[]⟩, .bool false, .int .i64 0]) ∧ Below w.heap.size w w' := by
  go_enter Tryz.func62, Tryz.ntmps62; go_wp2; exact bodyPost_ret (v := .agg #[.int .i64 0, .int .i64 0, .int .i64 0, .string ⟨#[]⟩, .bool false, .int .i64 0]) (by simp [results, Tryz.results62, go_sem]) rfl ⟨rfl, bel2 _ _ _ _⟩
theorem own_none {w : World} (k m s : Int) (t : ByteArray) (b : Bool) (e : Int) (h1 : ¬ k = 1) (h2 : ¬ k = 2) (h3 : ¬ k = 3) (h4 : ¬ k = 4) : Calls Tryz.prog 62 #[.agg #[.int .i64 k, .int .i64 m, .int .i64 s, .string t, .bool b, .int .i64 e]] w fun x w' => x = .returned (.agg #[.int .i64 k, .int .i64 0, .int .i64 0, .string ⟨#[]⟩, .bool false, .int .i64 0]) ∧ Below w.heap.size w w' := by
  go_enter Tryz.func62, Tryz.ntmps62; go_wp2; exact bodyPost_ret (v := .agg #[.int .i64 k, .int .i64 0, .int .i64 0, .string ⟨#[]⟩, .bool false, .int .i64 0]) (by simp [results, Tryz.results62, go_sem]) rfl ⟨rfl, bel2 _ _ _ _⟩
theorem filled_non {w : World} (k : Int) (m s : Int) (t : ByteArray) (b : Bool) (e : Int) (k' : Int) (m' s' : Int) (t' : ByteArray) (b' : Bool) (e' : Int) (h : ¬ k = 0) : Calls Tryz.prog 82 #[.agg #[.int .i64 k, .int .i64 m, .int .i64 s, .string t, .bool b, .int .i64 e], .agg #[.int .i64 k', .int .i64 m', .int .i64 s', .string t', .bool b', .int .i64 e']] w fun x w' => x = .returned (.agg #[.int .i64 k, .int .i64 m, .int .i64 s, .string t, .bool b, .int .i64 e]) ∧ Below w.heap.size w w' := by
  go_enter Tryz.func82, Tryz.ntmps82; go_wp2; exact bodyPost_ret (v := .agg #[.int .i64 k, .int .i64 m, .int .i64 s, .string t, .bool b, .int .i64 e]) (by simp [results, Tryz.results82, go_sem]) rfl ⟨rfl, bel2 _ _ _ _⟩
theorem filled_blank {w : World} (k' : Int) (m' s' : Int) (t' : ByteArray) (b' : Bool) (e' : Int) (h : ¬ k' = 4) : Calls Tryz.prog 82 #[.agg #[.int .i64 0, .int .i64 0, .int .i64 0, .string ⟨#[]⟩, .bool false, .int .i64 0], .agg #[.int .i64 k', .int .i64 m', .int .i64 s', .string t', .bool b', .int .i64 e']] w fun x w' => x = .returned (.agg #[.int .i64 k', .int .i64 0, .int .i64 0, .string ⟨#[]⟩, .bool false, .int .i64 0]) ∧ Below w.heap.size w w' := by
  go_enter Tryz.func82, Tryz.ntmps82; go_wp2; exact bodyPost_ret (v := .agg #[.int .i64 k', .int .i64 0, .int .i64 0, .string ⟨#[]⟩, .bool false, .int .i64 0]) (by simp [results, Tryz.results82, go_sem]) rfl ⟨rfl, bel2 _ _ _ _⟩
theorem filled_err {w : World} (m' s' : Int) (t' : ByteArray) (b' : Bool) (e' : Int) : Calls Tryz.prog 82 #[.agg #[.int .i64 0, .int .i64 0, .int .i64 0, .string ⟨#[]⟩, .bool false, .int .i64 0], .agg #[.int .i64 4, .int .i64 m', .int .i64 s', .string t', .bool b', .int .i64 e']] w fun x w' => x = .returned (.agg #[.int .i64 0, .int .i64 0, .int .i64 0, .string ⟨#[]⟩, .bool false, .int .i64 0]) ∧ Below w.heap.size w w' := by
  go_enter Tryz.func82, Tryz.ntmps82; go_wp2; exact bodyPost_ret (v := .agg #[.int .i64 0, .int .i64 0, .int .i64 0, .string ⟨#[]⟩, .bool false, .int .i64 0]) (by simp [results, Tryz.results82, go_sem]) rfl ⟨rfl, bel2 _ _ _ _⟩
end Go.Proofs.YtngkolcpbgibcaaGreatDoor
namespace Go.Proofs.YtngkolcpbgibcaaGreatDoor
open Go.RowKit Go.Lib
def Val (w : World) : Prop := ∀ (s : ByteArray) (W : World), s.size ≤ 140737488355328 → Below w.heap.size w W →
  Calls Tryz.prog 142 #[.string s] W fun e w' => e = .returned (.bool (validD s.data.toList)) ∧ Below W.heap.size W w'
theorem Val.below {w w' : World} (h : Val w) (hb : Below w.heap.size w w') : Val w' := fun s W hs hb' =>
  h s W hs (hb.trans (hb'.mono hb.size))
theorem uni_len (r : Int) : (uni r).length = if 65536 ≤ r then 2 else 1 := by
  unfold uni
  by_cases h : r < 65536
  · rw [if_pos h, if_neg (by omega)]; rfl
  · rw [if_neg h, if_pos (by omega)]; rfl
theorem unN_at (s : ByteArray) (pos : Nat) (h : pos < s.size) : unN (s.data.toList.drop pos) = (if 65536 ≤ ((Utf8.decode s pos).1 : Int) then 2 else 1) + unN (s.data.toList.drop (pos + (Utf8.decode s pos).2)) := by
  unfold unN unis; rw [rns_at s pos h, List.flatMap_cons, List.length_append, uni_len]
theorem unN_end (s : ByteArray) (pos : Nat) (h : ¬ pos < s.size) : unN (s.data.toList.drop pos) = 0 := by
  unfold unN unis; rw [rns_end s pos h]; rfl
set_option maxHeartbeats 4000000 in
set_option maxRecDepth 100000 in
theorem units_any {w : World} (HV : Val w) (s : ByteArray) (hs : s.size ≤ 140737488355328) :
    Calls Tryz.prog 64 #[.string s] w fun e w' => e = .returned (.tuple #[.int .i64 (uV s.data.toList), .int .i64 (uE s.data.toList)]) ∧ Below w.heap.size w w' := by
  have HC := HV s w hs (Below.refl _ _); clear HV
  cases hv : validD s.data.toList
  · have e1 : uE s.data.toList = 2 := by unfold uE; rw [if_pos hv]
    have e2 : uV s.data.toList = 0 := by unfold uV; rw [e1]; rfl
    rw [e1, e2]; rw [hv] at HC; clear hv e1 e2; go_enter Tryz.func64, Tryz.ntmps64
    go_wp2_with fail
    refine HC.mono ?_; rintro e w1 ⟨rfl, hb1⟩; go_wp2
    go_ret2
    exact ⟨rfl, hb1⟩
  · rw [hv] at HC; have e1 : uE s.data.toList = if 1000 < unN s.data.toList then 4 else 0 := by unfold uE; rw [if_neg (by rw [hv]; decide)]
    have e2 : uV s.data.toList = if 1000 < unN s.data.toList then 0 else (unN s.data.toList : Int) := by
      unfold uV; rw [e1]
      by_cases h : 1000 < unN s.data.toList
      · rw [if_pos h, if_pos h]; rfl
      · rw [if_neg h, if_neg h]; rfl
    rw [e1, e2]; clear hv e1 e2; obtain ⟨N, hN⟩ : ∃ N, unN s.data.toList = N := ⟨_, rfl⟩
    have H0 := Lib.hid hN; rw [hN]; clear hN; obtain ⟨V, hV⟩ : ∃ V, (if 1000 < N then 0 else (N : Int)) = V := ⟨_, rfl⟩
    obtain ⟨E, hE⟩ : ∃ E : Int, (if 1000 < N then 4 else 0) = E := ⟨_, rfl⟩
    rw [hV, hE]; have HV := Lib.hid hV; have HE := Lib.hid hE; clear hV hE; go_enter Tryz.func64, Tryz.ntmps64
    go_wp2_with fail
    refine HC.mono ?_; rintro e w1 ⟨rfl, hb1⟩; clear HC; go_wp2
    go_loopw [4] (fun n w' => ∃ pos acc : Nat, w' = w1.iter s pos ∧ n = .int .i64 acc ∧ acc + unN (s.data.toList.drop pos) = N ∧ acc ≤ 2 * pos ∧ pos ≤ s.size) (fun _ w' => s.size - w'.iterPos w1.heap.size)
    case atStart => exact ⟨0, 0, rfl, rfl, by rw [List.drop_zero, H0.out]; omega, by omega, by omega⟩
    case round =>
      obtain ⟨pos, acc, rfl, rfl, hc, ha, hp0⟩ := hrel
      by_cases hp : pos < s.size
      · have hnx : ∀ ty, (Instr.next (.pointer (some ⟨w1.heap.size, 0, none⟩)) true ty).run Tryz.prog (w1.iter s pos) = _ := fun ty => run_next_any w1 s pos ty hp; have hwd := Lib.decode_width_pos s pos hp; have hst := Lib.hid (unN_at s pos hp); have hle : pos + (Utf8.decode s pos).2 ≤ s.size := decode_le s pos hp; have HC := Lib.hid hc; clear hc; generalize hr : ((Utf8.decode s pos).1 : Int) = r at *; generalize hk : (Utf8.decode s pos).2 = k at *
        by_cases hbig : 65536 ≤ r
        · go_wp2
          go_roundw
          case rel =>
            have h1 := HC.out; have h2 := hst.out; rw [if_pos hbig] at h2; exact ⟨pos + k, acc + 2, rfl, by go_num, by omega, by omega, hle⟩
          case measure =>
            simp; omega
        · go_wp2
          go_roundw
          case rel =>
            have h1 := HC.out; have h2 := hst.out; rw [if_neg hbig] at h2; exact ⟨pos + k, acc + 1, rfl, by go_num, by omega, by omega, hle⟩
          case measure =>
            simp; omega
      · have hnx : ∀ ty, (Instr.next (.pointer (some ⟨w1.heap.size, 0, none⟩)) true ty).run Tryz.prog (w1.iter s pos) = _ := fun ty => run_next_end w1 s pos ty hp; have hN : acc = N := by rw [unN_end s pos hp] at hc; omega
        clear hc H0; subst hN; have hbF : Below w.heap.size w (w1.iter s pos) := hb1.alloc hb1.size _
        by_cases hl : 1000 < acc
        · have hl' : (1000 : Int) < (acc : Int) := by omega
          have hV := HV.out; have hE := HE.out; rw [if_pos hl] at hV hE; subst hV hE; clear HV HE; go_wp2
          go_ret2
          exact ⟨rfl, hbF⟩
        · have hl' : ¬ (1000 : Int) < (acc : Int) := by omega
          have hV := HV.out; have hE := HE.out; rw [if_neg hl] at hV hE; subst hV hE; clear HV HE; go_wp2
          go_ret2
          exact ⟨rfl, hbF⟩
end Go.Proofs.YtngkolcpbgibcaaGreatDoor
namespace Go.Proofs
open Go.Shelf Go.Lib
def Tryz.laysV_ren : Ren := ⟨fun | 196 => 142 | 259 => 187 | n => n, fun | 0 => 0 | 3 => 3 | 4 => 4 | 5 => 5 | 9 => 9 | 12 => 12 | 46 => 115 | 53 => 117 | 119 => 229 | 138 => 231 | 139 => 232 | n => n, fun | 3 => 1 | 4 => 2 | n => n⟩
theorem Tryz.laysV : Lays.n196 Tryz.prog Tryz.laysV_ren := {
  mixed := by kernel_rfl
  f196 := Tryz.func142.trans (congrArg some (by kernel_rfl))
  f259 := Tryz.func187.trans (congrArg some (by kernel_rfl))
  t0 := Tryz.underlying0
  a0 := Tryz.isAgg0
  z0 := Tryz.sizeOf0
  v0 := Tryz.zeroValue0
  t3 := Tryz.underlying3
  a3 := Tryz.isAgg3
  z3 := Tryz.sizeOf3
  v3 := Tryz.zeroValue3
  t4 := Tryz.underlying4
  a4 := Tryz.isAgg4
  z4 := Tryz.sizeOf4
  v4 := Tryz.zeroValue4
  t5 := Tryz.underlying5
  a5 := Tryz.isAgg5
  z5 := Tryz.sizeOf5
  v5 := Tryz.zeroValue5
  t9 := Tryz.underlying9
  a9 := Tryz.isAgg9
  z9 := Tryz.sizeOf9
  v9 := Tryz.zeroValue9
  t12 := Tryz.underlying12
  a12 := Tryz.isAgg12
  z12 := Tryz.sizeOf12
  v12 := Tryz.zeroValue12
  t46 := Tryz.underlying115
  a46 := Tryz.isAgg115
  z46 := Tryz.sizeOf115
  v46 := Tryz.zeroValue115
  t53 := Tryz.underlying117
  a53 := Tryz.isAgg117
  z53 := Tryz.sizeOf117
  v53 := Tryz.zeroValue117
  t119 := Tryz.underlying229
  a119 := Tryz.isAgg229
  z119 := Tryz.sizeOf229
  t138 := Tryz.underlying231
  a138 := Tryz.isAgg231
  z138 := Tryz.sizeOf231
  v138 := Tryz.zeroValue231
  t139 := Tryz.underlying232
  a139 := Tryz.isAgg232
  z139 := Tryz.sizeOf232
  v139 := Tryz.zeroValue232
  g3 := by kernel_rfl
  g4 := by kernel_rfl }
namespace YtngkolcpbgibcaaGreatDoor
def Tabs (w : World) : Prop := Lib.Utf8Tabs (Tryz.laysV_ren.g 3) (Tryz.laysV_ren.g 4) w
theorem val_of {w : World} (h : Tabs w) : Val w := fun s W hz hb =>
  Any.utf8_ValidString Tryz.laysV s W (by omega) (Utf8Tabs_below h hb)
end YtngkolcpbgibcaaGreatDoor
end Go.Proofs
namespace Go.Proofs.YtngkolcpbgibcaaGreatDoor
open Go.RowKit Go.Lib
def r32 (x : Int) : Value := .int .i32 x
theorem runes_list (s : ByteArray) : ∀ (bound i : Nat) (acc : Array Value), s.size - i ≤ bound → (Conv.runesFrom s bound i acc).toList = acc.toList ++ (rns (s.data.toList.drop i)).map r32
  | 0, i, acc, h => by rw [Conv.runesFrom, rns_end s i (by omega)]; simp
  | bound + 1, i, acc, h => by
    unfold Conv.runesFrom
    by_cases hi : i < s.size
    · rw [if_pos hi]; have hw := Lib.decode_width_pos s i hi; dsimp only; rw [runes_list s bound _ _ (by omega), rns_at s i hi]; simp [r32]
    · rw [if_neg hi, rns_end s i hi]; simp
theorem cmp_ne {x y : Int} {a b : List Int} (h : ¬ x = y) : cmpR (x :: a) (y :: b) = cmp x y := by
  rw [cmpR]; unfold cmp
  by_cases h1 : x < y
  · rw [if_pos h1, if_pos h1]
  · rw [if_neg h1, if_pos (by omega), if_neg h1, if_neg h]
theorem cmp_tail {a : List Int} {k : Nat} (h : k ≤ a.length) : cmpR [] (a.drop k) = cmp (k : Int) (a.length : Int) := by
  by_cases hk : k = a.length
  · subst hk; rw [List.drop_length, cmpR]; exact ((cmp_zero _ _).2 rfl).symm
  · rw [List.drop_eq_getElem_cons (by omega), cmpR]; unfold cmp; rw [if_pos (by omega)]
set_option maxHeartbeats 4000000 in
set_option maxRecDepth 100000 in
theorem compareTexts_any {w : World} (a b : ByteArray) (ha : a.size ≤ 140737488355328) (hb : b.size ≤ 70368744177664) :
    Calls Tryz.prog 84 #[.string a, .string b] w fun e w' => e = .returned (.int .i64 (cmpR (rns a.data.toList) (rns b.data.toList))) ∧ Below w.heap.size w w' := by
  have hn : (Conv.runesFrom b b.size 0 #[]).size ≤ b.size := by have := size_runesFrom b b.size 0 #[]; simpa using this
  have hcv := run_runes_of_string (P := Tryz.prog) w 9 52 21 b Tryz.underlying9 Tryz.underlying52 Tryz.underlying21 (by omega); have hl : (Conv.runesFrom b b.size 0 #[]).toList = (rns b.data.toList).map r32 := by rw [runes_list b b.size 0 #[] (by omega)]; simp
  have hsz : (Conv.runesFrom b b.size 0 #[]).size = (rns b.data.toList).length := by
    have := congrArg List.length hl
    simpa using this
  have hcell : ∀ i x, (rns b.data.toList)[i]? = some x → (w.drew.alloc (.cells (Conv.runesFrom b b.size 0 #[] ++ Array.replicate (grownCap w (Conv.runesFrom b b.size 0 #[]).size 0 21 - (Conv.runesFrom b b.size 0 #[]).size) (.int .i32 0)) 21)).cell? ⟨w.heap.size, i, none⟩ = some (.int .i32 x) := by
    intro i x hx; have hi : i < (rns b.data.toList).length := (List.getElem?_eq_some_iff.1 hx).1; have := World.cell?_alloc_new w.drew (Conv.runesFrom b b.size 0 #[] ++ Array.replicate (grownCap w (Conv.runesFrom b b.size 0 #[]).size 0 21 - (Conv.runesFrom b b.size 0 #[]).size) (.int .i32 0)) 21 i; rw [show w.drew.heap.size = w.heap.size from rfl] at this; rw [this, Array.getElem?_append_left (by omega), ← Array.getElem?_toList, hl, List.getElem?_map, hx]; rfl
  have hbel : Below w.heap.size w (w.drew.alloc (.cells (Conv.runesFrom b b.size 0 #[] ++ Array.replicate (grownCap w (Conv.runesFrom b b.size 0 #[]).size 0 21 - (Conv.runesFrom b b.size 0 #[]).size) (.int .i32 0)) 21)) := ((Below.refl _ _).drew).alloc (Nat.le_refl _) _; have hszw : (w.drew.alloc (.cells (Conv.runesFrom b b.size 0 #[] ++ Array.replicate (grownCap w (Conv.runesFrom b b.size 0 #[]).size 0 21 - (Conv.runesFrom b b.size 0 #[]).size) (.int .i32 0)) 21)).heap.size = w.heap.size + 1 := by simp
  generalize w.drew.alloc (.cells (Conv.runesFrom b b.size 0 #[] ++ Array.replicate (grownCap w (Conv.runesFrom b b.size 0 #[]).size 0 21 - (Conv.runesFrom b b.size 0 #[]).size) (.int .i32 0)) 21) = W1 at *; rw [hsz] at hn; generalize grownCap w (Conv.runesFrom b b.size 0 #[]).size 0 21 = cap at *; rw [hsz] at hcv; clear hl hsz; have HB := Lib.hid hb; have HZ := Lib.hid hszw; clear hszw; clear hb; generalize hR : rns b.data.toList = R at *; clear hR; obtain ⟨C, hC⟩ : ∃ C, cmpR (rns a.data.toList) R = C := ⟨_, rfl⟩
  have H0 := Lib.hid hC; rw [hC]; clear hC; obtain ⟨n, hn0⟩ : ∃ n, R.length = n := ⟨_, rfl⟩
  have HN := Lib.hid hn0; rw [hn0] at hcv hn; clear hn0; have HC := Lib.hid hcell; have HI := Lib.hid (fun (W : World) (x y : Int) => cmp_int (w := W) x y); have HU := Lib.hid (fun (W : World) (x y : Int) => cmp_rune (w := W) x y); clear hcell; go_enter Tryz.func84, Tryz.ntmps84; go_wp2; clear hcv
  go_loopw [6] (fun q w' => ∃ pos k : Nat, w' = W1.iter a pos ∧ q = .int .i64 k ∧ k ≤ n ∧ pos ≤ a.size ∧ k ≤ pos ∧ Hid (cmpR (rns (a.data.toList.drop pos)) (R.drop k) = C)) (fun _ w' => a.size - w'.iterPos W1.heap.size)
  case atStart => exact ⟨0, 0, rfl, rfl, Nat.zero_le _, Nat.zero_le _, Nat.le_refl _, Lib.hid (by rw [List.drop_zero, List.drop_zero, H0.out])⟩
  case round =>
    obtain ⟨pos, k, rfl, rfl, hk, hp0, hkp, HS⟩ := hrel
    by_cases hp : pos < a.size
    · have hnx : ∀ ty, (Instr.next (.pointer (some ⟨W1.heap.size, 0, none⟩)) true ty).run Tryz.prog (W1.iter a pos) = _ := fun ty => run_next_any W1 a pos ty hp; have hwd := Lib.decode_width_pos a pos hp; have hle : pos + (Utf8.decode a pos).2 ≤ a.size := decode_le a pos hp; have hst := Lib.hid (rns_at a pos hp); generalize ((Utf8.decode a pos).1 : Int) = r at *; generalize (Utf8.decode a pos).2 = wd at *
      by_cases hkn : k = n
      · subst hkn
        obtain rfl : C = 1 := by
          have := HS.out; rw [hst.out, show R.drop k = [] from List.drop_of_length_le (by rw [HN.out]; exact Nat.le_refl _)] at this; exact this.symm
        have hbF : ∀ p, Below w.heap.size w (W1.iter a p) := fun p => hbel.alloc hbel.size _; clear hst HS HC HI HU; go_wp2; go_ret; exact ⟨rfl, hbF _⟩
      · have hkn' : ¬ (k : Int) = (n : Int) := by omega
        have hlt : (k : Int) < (n : Int) := by omega
        have hltn : k < n := by omega
        obtain ⟨x, hx⟩ : ∃ x, R[k]? = some x := ⟨_, List.getElem?_eq_getElem (by rw [HN.out]; exact hltn)⟩
        have hd : R.drop k = x :: R.drop (k + 1) := by
          have hkl : k < R.length := by rw [HN.out]; exact hltn
          rw [List.drop_eq_getElem_cons hkl]; rw [List.getElem?_eq_getElem hkl] at hx; injection hx with hx; rw [hx]
        have HD := Lib.hid hd; have hc0 := HC.out k x hx
        have hc1 : ∀ p, (W1.iter a p).cell? ⟨w.heap.size, k, none⟩ = some (.int .i32 x) := fun p => by
          rw [← hc0]; exact (bcell ((Below.refl _ W1).alloc (Nat.le_refl _) _)).1 _ _ (by rw [HZ.out]; omega)
        clear hx hd hc0 hkn
        by_cases hrx : r = x
        · subst hrx; go_wp2
          go_roundw
          case rel =>
            have := HS.out; rw [hst.out, HD.out, cmpR_eq rfl] at this; exact ⟨pos + wd, k + 1, rfl, by go_num, by omega, hle, by omega, Lib.hid this⟩
          case measure =>
            simp; omega
        · have HV := Lib.hid (show cmp r x = C by
            rw [← HS.out, hst.out, HD.out, cmp_ne hrx])
          have hbF : ∀ p, Below w.heap.size w (W1.iter a p) := fun p => hbel.alloc hbel.size _; clear hst HS HC HI HD
          go_wp2_with fail
          refine (HU.out _ _ _).mono ?_; rintro e w2 ⟨rfl, rfl⟩; rw [HV.out]; go_wp2; go_ret; exact ⟨rfl, hbF _⟩
    · have hnx : ∀ ty, (Instr.next (.pointer (some ⟨W1.heap.size, 0, none⟩)) true ty).run Tryz.prog (W1.iter a pos) = _ := fun ty => run_next_end W1 a pos ty hp
      have HV := Lib.hid (show cmp (k : Int) (n : Int) = C by
        rw [← HS.out, rns_end a pos hp, ← HN.out, cmp_tail (by rw [HN.out]; exact hk)])
      have hbF : ∀ p, Below w.heap.size w (W1.iter a p) := fun p => hbel.alloc hbel.size _; clear HS HC HU
      go_wp2_with fail
      refine (HI.out _ _ _).mono ?_; rintro e w2 ⟨rfl, rfl⟩; rw [HV.out]; go_wp2; go_ret; exact ⟨rfl, hbF _⟩
end Go.Proofs.YtngkolcpbgibcaaGreatDoor
