/- cmp.Compare at three types; val's rank, truthText, faultText, Fault, own, filled, Same; the law's N, S, by their contracts. No condition. -/
import Derived.Test.YtmbjmgmnicacpaaDoorVl
import Derived.Test.YtmbjmgmnicacpaaDoorD1
namespace Go.Proofs.YtmbjmgmnicacpaaDoor
open Go.RowKit

theorem isNaN_int {w : World} {x : Int} : Calls Tryd.prog 37 #[.int .i64 x] w fun e w' => e = .returned (.bool false) ∧ w' = w := by
  go_enter Tryd.func37, Tryd.ntmps37
  go_wp2
  go_ret
  exact ⟨rfl, rfl⟩
theorem cmp_int {w : World} (x y : Int) : Calls Tryd.prog 24 #[.int .i64 x, .int .i64 y] w fun e w' => e = .returned (.int .i64 (cmp x y)) ∧ w' = w := by
  have HN := Lib.hid (fun (W : World) (z : Int) => isNaN_int (w := W) (x := z))
  obtain ⟨c, hc⟩ : ∃ c, cmp x y = c := ⟨_, rfl⟩
  have HC := Lib.hid hc
  rw [hc]
  clear hc
  rcases Int.lt_trichotomy x y with h | h | h
  · obtain rfl : c = -1 := by rw [← HC.out]; unfold cmp; rw [if_pos h]
    go_enter Tryd.func24, Tryd.ntmps24
    go_wp2_with fail
    refine (HN.out _ _).mono ?_
    rintro e w1 ⟨rfl, rfl⟩
    go_wp2_with fail
    refine (HN.out _ _).mono ?_
    rintro e w1 ⟨rfl, rfl⟩
    go_wp2
    go_ret
    exact ⟨rfl, rfl⟩
  · subst h
    obtain rfl : c = 0 := by rw [← HC.out]; unfold cmp; simp
    go_enter Tryd.func24, Tryd.ntmps24
    go_wp2_with fail
    refine (HN.out _ _).mono ?_
    rintro e w1 ⟨rfl, rfl⟩
    go_wp2_with fail
    refine (HN.out _ _).mono ?_
    rintro e w1 ⟨rfl, rfl⟩
    go_wp2
    go_ret
    exact ⟨rfl, rfl⟩
  · have h' : ¬ x < y := by omega
    obtain rfl : c = 1 := by rw [← HC.out]; unfold cmp; rw [if_neg h', if_neg (by omega)]
    go_enter Tryd.func24, Tryd.ntmps24
    go_wp2_with fail
    refine (HN.out _ _).mono ?_
    rintro e w1 ⟨rfl, rfl⟩
    go_wp2_with fail
    refine (HN.out _ _).mono ?_
    rintro e w1 ⟨rfl, rfl⟩
    go_wp2
    go_ret
    exact ⟨rfl, rfl⟩
theorem isNaN_i64 {w : World} {x : Int} : Calls Tryd.prog 39 #[.int .i64 x] w fun e w' => e = .returned (.bool false) ∧ w' = w := by
  go_enter Tryd.func39, Tryd.ntmps39
  go_wp2
  go_ret
  exact ⟨rfl, rfl⟩
theorem cmp_i64 {w : World} (x y : Int) : Calls Tryd.prog 26 #[.int .i64 x, .int .i64 y] w fun e w' => e = .returned (.int .i64 (cmp x y)) ∧ w' = w := by
  have HN := Lib.hid (fun (W : World) (z : Int) => isNaN_i64 (w := W) (x := z))
  obtain ⟨c, hc⟩ : ∃ c, cmp x y = c := ⟨_, rfl⟩
  have HC := Lib.hid hc
  rw [hc]
  clear hc
  rcases Int.lt_trichotomy x y with h | h | h
  · obtain rfl : c = -1 := by rw [← HC.out]; unfold cmp; rw [if_pos h]
    go_enter Tryd.func26, Tryd.ntmps26
    go_wp2_with fail
    refine (HN.out _ _).mono ?_
    rintro e w1 ⟨rfl, rfl⟩
    go_wp2_with fail
    refine (HN.out _ _).mono ?_
    rintro e w1 ⟨rfl, rfl⟩
    go_wp2
    go_ret
    exact ⟨rfl, rfl⟩
  · subst h
    obtain rfl : c = 0 := by rw [← HC.out]; unfold cmp; simp
    go_enter Tryd.func26, Tryd.ntmps26
    go_wp2_with fail
    refine (HN.out _ _).mono ?_
    rintro e w1 ⟨rfl, rfl⟩
    go_wp2_with fail
    refine (HN.out _ _).mono ?_
    rintro e w1 ⟨rfl, rfl⟩
    go_wp2
    go_ret
    exact ⟨rfl, rfl⟩
  · have h' : ¬ x < y := by omega
    obtain rfl : c = 1 := by rw [← HC.out]; unfold cmp; rw [if_neg h', if_neg (by omega)]
    go_enter Tryd.func26, Tryd.ntmps26
    go_wp2_with fail
    refine (HN.out _ _).mono ?_
    rintro e w1 ⟨rfl, rfl⟩
    go_wp2_with fail
    refine (HN.out _ _).mono ?_
    rintro e w1 ⟨rfl, rfl⟩
    go_wp2
    go_ret
    exact ⟨rfl, rfl⟩
theorem isNaN_rune {w : World} {x : Int} : Calls Tryd.prog 57 #[.int .i32 x] w fun e w' => e = .returned (.bool false) ∧ w' = w := by
  go_enter Tryd.func57, Tryd.ntmps57
  go_wp2
  go_ret
  exact ⟨rfl, rfl⟩
theorem cmp_rune {w : World} (x y : Int) : Calls Tryd.prog 38 #[.int .i32 x, .int .i32 y] w fun e w' => e = .returned (.int .i64 (cmp x y)) ∧ w' = w := by
  have HN := Lib.hid (fun (W : World) (z : Int) => isNaN_rune (w := W) (x := z))
  obtain ⟨c, hc⟩ : ∃ c, cmp x y = c := ⟨_, rfl⟩
  have HC := Lib.hid hc
  rw [hc]
  clear hc
  rcases Int.lt_trichotomy x y with h | h | h
  · obtain rfl : c = -1 := by rw [← HC.out]; unfold cmp; rw [if_pos h]
    go_enter Tryd.func38, Tryd.ntmps38
    go_wp2_with fail
    refine (HN.out _ _).mono ?_
    rintro e w1 ⟨rfl, rfl⟩
    go_wp2_with fail
    refine (HN.out _ _).mono ?_
    rintro e w1 ⟨rfl, rfl⟩
    go_wp2
    go_ret
    exact ⟨rfl, rfl⟩
  · subst h
    obtain rfl : c = 0 := by rw [← HC.out]; unfold cmp; simp
    go_enter Tryd.func38, Tryd.ntmps38
    go_wp2_with fail
    refine (HN.out _ _).mono ?_
    rintro e w1 ⟨rfl, rfl⟩
    go_wp2_with fail
    refine (HN.out _ _).mono ?_
    rintro e w1 ⟨rfl, rfl⟩
    go_wp2
    go_ret
    exact ⟨rfl, rfl⟩
  · have h' : ¬ x < y := by omega
    obtain rfl : c = 1 := by rw [← HC.out]; unfold cmp; rw [if_neg h', if_neg (by omega)]
    go_enter Tryd.func38, Tryd.ntmps38
    go_wp2_with fail
    refine (HN.out _ _).mono ?_
    rintro e w1 ⟨rfl, rfl⟩
    go_wp2_with fail
    refine (HN.out _ _).mono ?_
    rintro e w1 ⟨rfl, rfl⟩
    go_wp2
    go_ret
    exact ⟨rfl, rfl⟩
theorem rank_any {w : World} (b : Bool) : Calls Tryd.prog 27 #[.bool b] w fun e w' => e = .returned (.int .i64 (rk b)) ∧ w' = w := by
  cases b
  · go_enter Tryd.func27, Tryd.ntmps27
    go_wp2
    go_ret
    exact ⟨rfl, rfl⟩
  · go_enter Tryd.func27, Tryd.ntmps27
    go_wp2
    go_ret
    exact ⟨rfl, rfl⟩
def sL (l : List UInt8) : Value := .string ⟨l.toArray⟩
def yesL : List UInt8 := [84, 82, 85, 69]
def noL : List UInt8 := [70, 65, 76, 83, 69]
def trL (b : Bool) : List UInt8 := if b then yesL else noL
theorem truthText_any {w : World} (b : Bool) : Calls Tryd.prog 35 #[.bool b] w fun e w' => e = .returned (sL (trL b)) ∧ w' = w := by
  cases b
  · go_enter Tryd.func35, Tryd.ntmps35
    go_wp2
    go_ret
    exact ⟨rfl, rfl⟩
  · go_enter Tryd.func35, Tryd.ntmps35
    go_wp2
    go_ret
    exact ⟨rfl, rfl⟩
def erL (e : Int) : List UInt8 := if e = 0 then [35, 78, 85, 76, 76, 33] else if e = 7 then [35, 68, 73, 86, 47, 48, 33] else if e = 15 then [35, 86, 65, 76, 85, 69, 33] else if e = 23 then [35, 82, 69, 70, 33] else if e = 29 then [35, 78, 65, 77, 69, 63] else if e = 36 then [35, 78, 85, 77, 33] else if e = 42 then [35, 78, 47, 65] else []
theorem faultText_any {w : World} (e : Int) : Calls Tryd.prog 22 #[.int .i64 e] w fun x w' => x = .returned (sL (erL e)) ∧ w' = w := by
  obtain ⟨L, hL⟩ : ∃ L, erL e = L := ⟨_, rfl⟩
  rw [hL]
  unfold erL at hL
  by_cases h0 : e = 0
  · subst h0
    subst hL
    go_enter Tryd.func22, Tryd.ntmps22
    go_wp2
    go_ret
    exact ⟨rfl, rfl⟩
  rw [if_neg h0] at hL
  by_cases h7 : e = 7
  · subst h7
    subst hL
    go_enter Tryd.func22, Tryd.ntmps22
    go_wp2
    go_ret
    exact ⟨rfl, rfl⟩
  rw [if_neg h7] at hL
  by_cases h15 : e = 15
  · subst h15
    subst hL
    go_enter Tryd.func22, Tryd.ntmps22
    go_wp2
    go_ret
    exact ⟨rfl, rfl⟩
  rw [if_neg h15] at hL
  by_cases h23 : e = 23
  · subst h23
    subst hL
    go_enter Tryd.func22, Tryd.ntmps22
    go_wp2
    go_ret
    exact ⟨rfl, rfl⟩
  rw [if_neg h23] at hL
  by_cases h29 : e = 29
  · subst h29
    subst hL
    go_enter Tryd.func22, Tryd.ntmps22
    go_wp2
    go_ret
    exact ⟨rfl, rfl⟩
  rw [if_neg h29] at hL
  by_cases h36 : e = 36
  · subst h36
    subst hL
    go_enter Tryd.func22, Tryd.ntmps22
    go_wp2
    go_ret
    exact ⟨rfl, rfl⟩
  rw [if_neg h36] at hL
  by_cases h42 : e = 42
  · subst h42
    subst hL
    go_enter Tryd.func22, Tryd.ntmps22
    go_wp2
    go_ret
    exact ⟨rfl, rfl⟩
  rw [if_neg h42] at hL
  subst hL
  go_enter Tryd.func22, Tryd.ntmps22
  go_wp2
  go_ret
  exact ⟨rfl, rfl⟩
theorem erL_none (e : Int) : erL e = [] ↔ ¬ (e = 0 ∨ e = 7 ∨ e = 15 ∨ e = 23 ∨ e = 29 ∨ e = 36 ∨ e = 42) := by
  unfold erL
  repeat' split
  all_goals first | (simp; omega) | (simp only [reduceCtorEq, false_iff]; omega)
theorem fault_any {w : World} (e : Int) : Calls Tryd.prog 14 #[.int .i64 e] w fun x w' => x = .returned (.agg #[.int .i64 4, .int .i64 0, .int .i64 0, .string ⟨#[]⟩, .bool false, .int .i64 e]) ∧ Below w.heap.size w w' := by
  go_enter Tryd.func14, Tryd.ntmps14
  go_wp2
  exact bodyPost_ret (v := .agg #[.int .i64 4, .int .i64 0, .int .i64 0, .string ⟨#[]⟩, .bool false, .int .i64 e]) (by simp [results, Tryd.results14, go_sem]) rfl ⟨rfl, bel0 _ _⟩
theorem lS_any {w : World} (t : ByteArray) : Calls Tryd.prog 15 #[.string t] w fun x w' => x = .returned (.agg #[.int .i64 2, .int .i64 0, .int .i64 0, .string t, .bool false, .int .i64 0]) ∧ Below w.heap.size w w' := by
  go_enter Tryd.func15, Tryd.ntmps15
  go_wp2
  exact bodyPost_ret (v := .agg #[.int .i64 2, .int .i64 0, .int .i64 0, .string t, .bool false, .int .i64 0]) (by simp [results, Tryd.results15, go_sem]) rfl ⟨rfl, bel0 _ _⟩
theorem own_num {w : World} (m s : Int) (t : ByteArray) (b : Bool) (e : Int) : Calls Tryd.prog 19 #[.agg #[.int .i64 1, .int .i64 m, .int .i64 s, .string t, .bool b, .int .i64 e]] w fun x w' => x = .returned (.agg #[.int .i64 1, .int .i64 m, .int .i64 s, .string ⟨#[]⟩, .bool false, .int .i64 0]) ∧ Below w.heap.size w w' := by
  go_enter Tryd.func19, Tryd.ntmps19
  go_wp2
  exact bodyPost_ret (v := .agg #[.int .i64 1, .int .i64 m, .int .i64 s, .string ⟨#[]⟩, .bool false, .int .i64 0]) (by simp [results, Tryd.results19, go_sem]) rfl ⟨rfl, bel2 _ _ _ _⟩
theorem own_str {w : World} (m s : Int) (t : ByteArray) (b : Bool) (e : Int) : Calls Tryd.prog 19 #[.agg #[.int .i64 2, .int .i64 m, .int .i64 s, .string t, .bool b, .int .i64 e]] w fun x w' => x = .returned (.agg #[.int .i64 2, .int .i64 0, .int .i64 0, .string t, .bool false, .int .i64 0]) ∧ Below w.heap.size w w' := by
  go_enter Tryd.func19, Tryd.ntmps19
  go_wp2
  exact bodyPost_ret (v := .agg #[.int .i64 2, .int .i64 0, .int .i64 0, .string t, .bool false, .int .i64 0]) (by simp [results, Tryd.results19, go_sem]) rfl ⟨rfl, bel2 _ _ _ _⟩
theorem own_bool {w : World} (m s : Int) (t : ByteArray) (b : Bool) (e : Int) : Calls Tryd.prog 19 #[.agg #[.int .i64 3, .int .i64 m, .int .i64 s, .string t, .bool b, .int .i64 e]] w fun x w' => x = .returned (.agg #[.int .i64 3, .int .i64 0, .int .i64 0, .string ⟨#[]⟩, .bool b, .int .i64 0]) ∧ Below w.heap.size w w' := by
  go_enter Tryd.func19, Tryd.ntmps19
  go_wp2
  exact bodyPost_ret (v := .agg #[.int .i64 3, .int .i64 0, .int .i64 0, .string ⟨#[]⟩, .bool b, .int .i64 0]) (by simp [results, Tryd.results19, go_sem]) rfl ⟨rfl, bel2 _ _ _ _⟩
theorem own_err {w : World} (m s : Int) (t : ByteArray) (b : Bool) (e : Int) : Calls Tryd.prog 19 #[.agg #[.int .i64 4, .int .i64 m, .int .i64 s, .string t, .bool b, .int .i64 e]] w fun x w' => x = .returned (.agg #[.int .i64 4, .int .i64 0, .int .i64 0, .string ⟨#[]⟩, .bool false, .int .i64 e]) ∧ Below w.heap.size w w' := by
  go_enter Tryd.func19, Tryd.ntmps19
  go_wp2
  exact bodyPost_ret (v := .agg #[.int .i64 4, .int .i64 0, .int .i64 0, .string ⟨#[]⟩, .bool false, .int .i64 e]) (by simp [results, Tryd.results19, go_sem]) rfl ⟨rfl, bel2 _ _ _ _⟩
theorem own_blank {w : World} (m s : Int) (t : ByteArray) (b : Bool) (e : Int) : Calls Tryd.prog 19 #[.agg #[.int .i64 0, .int .i64 m, .int .i64 s, .string t, .bool b, .int .i64 e]] w fun x w' => x = .returned (.agg #[.int .i64 0, .int .i64 0, .int .i64 0, .string ⟨#[]⟩, .bool false, .int .i64 0]) ∧ Below w.heap.size w w' := by
  go_enter Tryd.func19, Tryd.ntmps19
  go_wp2
  exact bodyPost_ret (v := .agg #[.int .i64 0, .int .i64 0, .int .i64 0, .string ⟨#[]⟩, .bool false, .int .i64 0]) (by simp [results, Tryd.results19, go_sem]) rfl ⟨rfl, bel2 _ _ _ _⟩
theorem own_none {w : World} (k m s : Int) (t : ByteArray) (b : Bool) (e : Int) (h1 : ¬ k = 1) (h2 : ¬ k = 2) (h3 : ¬ k = 3) (h4 : ¬ k = 4) : Calls Tryd.prog 19 #[.agg #[.int .i64 k, .int .i64 m, .int .i64 s, .string t, .bool b, .int .i64 e]] w fun x w' => x = .returned (.agg #[.int .i64 k, .int .i64 0, .int .i64 0, .string ⟨#[]⟩, .bool false, .int .i64 0]) ∧ Below w.heap.size w w' := by
  go_enter Tryd.func19, Tryd.ntmps19
  go_wp2
  exact bodyPost_ret (v := .agg #[.int .i64 k, .int .i64 0, .int .i64 0, .string ⟨#[]⟩, .bool false, .int .i64 0]) (by simp [results, Tryd.results19, go_sem]) rfl ⟨rfl, bel2 _ _ _ _⟩
theorem filled_non {w : World} (k : Int) (m s : Int) (t : ByteArray) (b : Bool) (e : Int) (k' : Int) (m' s' : Int) (t' : ByteArray) (b' : Bool) (e' : Int) (h : ¬ k = 0) : Calls Tryd.prog 23 #[.agg #[.int .i64 k, .int .i64 m, .int .i64 s, .string t, .bool b, .int .i64 e], .agg #[.int .i64 k', .int .i64 m', .int .i64 s', .string t', .bool b', .int .i64 e']] w fun x w' => x = .returned (.agg #[.int .i64 k, .int .i64 m, .int .i64 s, .string t, .bool b, .int .i64 e]) ∧ Below w.heap.size w w' := by
  go_enter Tryd.func23, Tryd.ntmps23
  go_wp2
  exact bodyPost_ret (v := .agg #[.int .i64 k, .int .i64 m, .int .i64 s, .string t, .bool b, .int .i64 e]) (by simp [results, Tryd.results23, go_sem]) rfl ⟨rfl, bel2 _ _ _ _⟩
theorem filled_blank {w : World} (k' : Int) (m' s' : Int) (t' : ByteArray) (b' : Bool) (e' : Int) (h : ¬ k' = 4) : Calls Tryd.prog 23 #[.agg #[.int .i64 0, .int .i64 0, .int .i64 0, .string ⟨#[]⟩, .bool false, .int .i64 0], .agg #[.int .i64 k', .int .i64 m', .int .i64 s', .string t', .bool b', .int .i64 e']] w fun x w' => x = .returned (.agg #[.int .i64 k', .int .i64 0, .int .i64 0, .string ⟨#[]⟩, .bool false, .int .i64 0]) ∧ Below w.heap.size w w' := by
  go_enter Tryd.func23, Tryd.ntmps23
  go_wp2
  exact bodyPost_ret (v := .agg #[.int .i64 k', .int .i64 0, .int .i64 0, .string ⟨#[]⟩, .bool false, .int .i64 0]) (by simp [results, Tryd.results23, go_sem]) rfl ⟨rfl, bel2 _ _ _ _⟩
theorem filled_err {w : World} (m' s' : Int) (t' : ByteArray) (b' : Bool) (e' : Int) : Calls Tryd.prog 23 #[.agg #[.int .i64 0, .int .i64 0, .int .i64 0, .string ⟨#[]⟩, .bool false, .int .i64 0], .agg #[.int .i64 4, .int .i64 m', .int .i64 s', .string t', .bool b', .int .i64 e']] w fun x w' => x = .returned (.agg #[.int .i64 0, .int .i64 0, .int .i64 0, .string ⟨#[]⟩, .bool false, .int .i64 0]) ∧ Below w.heap.size w w' := by
  go_enter Tryd.func23, Tryd.ntmps23
  go_wp2
  exact bodyPost_ret (v := .agg #[.int .i64 0, .int .i64 0, .int .i64 0, .string ⟨#[]⟩, .bool false, .int .i64 0]) (by simp [results, Tryd.results23, go_sem]) rfl ⟨rfl, bel2 _ _ _ _⟩
end Go.Proofs.YtmbjmgmnicacpaaDoor
