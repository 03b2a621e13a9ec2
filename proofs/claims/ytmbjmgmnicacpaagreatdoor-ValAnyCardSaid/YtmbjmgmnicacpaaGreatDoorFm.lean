/- cmp.Compare at three types; val's rank, truthText, faultText, Fault, own, filled, Same; the law's N, S, by their contracts. No condition. -/
/- strconv.FormatUint at base 10, strings.Repeat of a nought, by their contracts. Condition: the table of powers of ten is laid; at most nine noughts. -/
import Derived.Test.YtmbjmgmnicacpaaGreatDoorVl
import Derived.Test.YtmbjmgmnicacpaaGreatDoorD2
import Derived.Test.YtmbjmgmnicacpaaGreatDoorShelf
import Derived.Lib.AppendIntMem
import Derived.Lib.LaidTab
namespace Go.Proofs.YtmbjmgmnicacpaaGreatDoor
open Go.RowKit

theorem isNaN_int {w : World} {x : Int} : Calls Tryz.prog 61 #[.int .i64 x] w fun e w' => e = .returned (.bool false) ∧ w' = w := by
  go_enter Tryz.func61, Tryz.ntmps61
  go_wp2
  go_ret
  exact ⟨rfl, rfl⟩
theorem cmp_int {w : World} (x y : Int) : Calls Tryz.prog 39 #[.int .i64 x, .int .i64 y] w fun e w' => e = .returned (.int .i64 (cmp x y)) ∧ w' = w := by
  have HN := Lib.hid (fun (W : World) (z : Int) => isNaN_int (w := W) (x := z))
  obtain ⟨c, hc⟩ : ∃ c, cmp x y = c := ⟨_, rfl⟩
  have HC := Lib.hid hc
  rw [hc]
  clear hc
  rcases Int.lt_trichotomy x y with h | h | h
  · obtain rfl : c = -1 := by rw [← HC.out]; unfold cmp; rw [if_pos h]
    go_enter Tryz.func39, Tryz.ntmps39
    go_wp2_with fail
    refine (HN.out _ _).mono ?_
    rintro e w1 ⟨rfl, rfl⟩
    go_wp2_with fail
    refine (HN.out _ _).mono ?_
    rintro e w1 ⟨rfl, rfl⟩
    go_wp2
    go_ret
    exact ⟨rfl, rfl⟩
  · subst h
    obtain rfl : c = 0 := by rw [← HC.out]; unfold cmp; simp
    go_enter Tryz.func39, Tryz.ntmps39
    go_wp2_with fail
    refine (HN.out _ _).mono ?_
    rintro e w1 ⟨rfl, rfl⟩
    go_wp2_with fail
    refine (HN.out _ _).mono ?_
    rintro e w1 ⟨rfl, rfl⟩
    go_wp2
    go_ret
    exact ⟨rfl, rfl⟩
  · have h' : ¬ x < y := by omega
    obtain rfl : c = 1 := by rw [← HC.out]; unfold cmp; rw [if_neg h', if_neg (by omega)]
    go_enter Tryz.func39, Tryz.ntmps39
    go_wp2_with fail
    refine (HN.out _ _).mono ?_
    rintro e w1 ⟨rfl, rfl⟩
    go_wp2_with fail
    refine (HN.out _ _).mono ?_
    rintro e w1 ⟨rfl, rfl⟩
    go_wp2
    go_ret
    exact ⟨rfl, rfl⟩
theorem isNaN_i64 {w : World} {x : Int} : Calls Tryz.prog 68 #[.int .i64 x] w fun e w' => e = .returned (.bool false) ∧ w' = w := by
  go_enter Tryz.func68, Tryz.ntmps68
  go_wp2
  go_ret
  exact ⟨rfl, rfl⟩
theorem cmp_i64 {w : World} (x y : Int) : Calls Tryz.prog 42 #[.int .i64 x, .int .i64 y] w fun e w' => e = .returned (.int .i64 (cmp x y)) ∧ w' = w := by
  have HN := Lib.hid (fun (W : World) (z : Int) => isNaN_i64 (w := W) (x := z))
  obtain ⟨c, hc⟩ : ∃ c, cmp x y = c := ⟨_, rfl⟩
  have HC := Lib.hid hc
  rw [hc]
  clear hc
  rcases Int.lt_trichotomy x y with h | h | h
  · obtain rfl : c = -1 := by rw [← HC.out]; unfold cmp; rw [if_pos h]
    go_enter Tryz.func42, Tryz.ntmps42
    go_wp2_with fail
    refine (HN.out _ _).mono ?_
    rintro e w1 ⟨rfl, rfl⟩
    go_wp2_with fail
    refine (HN.out _ _).mono ?_
    rintro e w1 ⟨rfl, rfl⟩
    go_wp2
    go_ret
    exact ⟨rfl, rfl⟩
  · subst h
    obtain rfl : c = 0 := by rw [← HC.out]; unfold cmp; simp
    go_enter Tryz.func42, Tryz.ntmps42
    go_wp2_with fail
    refine (HN.out _ _).mono ?_
    rintro e w1 ⟨rfl, rfl⟩
    go_wp2_with fail
    refine (HN.out _ _).mono ?_
    rintro e w1 ⟨rfl, rfl⟩
    go_wp2
    go_ret
    exact ⟨rfl, rfl⟩
  · have h' : ¬ x < y := by omega
    obtain rfl : c = 1 := by rw [← HC.out]; unfold cmp; rw [if_neg h', if_neg (by omega)]
    go_enter Tryz.func42, Tryz.ntmps42
    go_wp2_with fail
    refine (HN.out _ _).mono ?_
    rintro e w1 ⟨rfl, rfl⟩
    go_wp2_with fail
    refine (HN.out _ _).mono ?_
    rintro e w1 ⟨rfl, rfl⟩
    go_wp2
    go_ret
    exact ⟨rfl, rfl⟩
theorem isNaN_rune {w : World} {x : Int} : Calls Tryz.prog 89 #[.int .i32 x] w fun e w' => e = .returned (.bool false) ∧ w' = w := by
  go_enter Tryz.func89, Tryz.ntmps89
  go_wp2
  go_ret
  exact ⟨rfl, rfl⟩
theorem cmp_rune {w : World} (x y : Int) : Calls Tryz.prog 67 #[.int .i32 x, .int .i32 y] w fun e w' => e = .returned (.int .i64 (cmp x y)) ∧ w' = w := by
  have HN := Lib.hid (fun (W : World) (z : Int) => isNaN_rune (w := W) (x := z))
  obtain ⟨c, hc⟩ : ∃ c, cmp x y = c := ⟨_, rfl⟩
  have HC := Lib.hid hc
  rw [hc]
  clear hc
  rcases Int.lt_trichotomy x y with h | h | h
  · obtain rfl : c = -1 := by rw [← HC.out]; unfold cmp; rw [if_pos h]
    go_enter Tryz.func67, Tryz.ntmps67
    go_wp2_with fail
    refine (HN.out _ _).mono ?_
    rintro e w1 ⟨rfl, rfl⟩
    go_wp2_with fail
    refine (HN.out _ _).mono ?_
    rintro e w1 ⟨rfl, rfl⟩
    go_wp2
    go_ret
    exact ⟨rfl, rfl⟩
  · subst h
    obtain rfl : c = 0 := by rw [← HC.out]; unfold cmp; simp
    go_enter Tryz.func67, Tryz.ntmps67
    go_wp2_with fail
    refine (HN.out _ _).mono ?_
    rintro e w1 ⟨rfl, rfl⟩
    go_wp2_with fail
    refine (HN.out _ _).mono ?_
    rintro e w1 ⟨rfl, rfl⟩
    go_wp2
    go_ret
    exact ⟨rfl, rfl⟩
  · have h' : ¬ x < y := by omega
    obtain rfl : c = 1 := by rw [← HC.out]; unfold cmp; rw [if_neg h', if_neg (by omega)]
    go_enter Tryz.func67, Tryz.ntmps67
    go_wp2_with fail
    refine (HN.out _ _).mono ?_
    rintro e w1 ⟨rfl, rfl⟩
    go_wp2_with fail
    refine (HN.out _ _).mono ?_
    rintro e w1 ⟨rfl, rfl⟩
    go_wp2
    go_ret
    exact ⟨rfl, rfl⟩
theorem rank_any {w : World} (b : Bool) : Calls Tryz.prog 32 #[.bool b] w fun e w' => e = .returned (.int .i64 (rk b)) ∧ w' = w := by
  cases b
  · go_enter Tryz.func32, Tryz.ntmps32
    go_wp2
    go_ret
    exact ⟨rfl, rfl⟩
  · go_enter Tryz.func32, Tryz.ntmps32
    go_wp2
    go_ret
    exact ⟨rfl, rfl⟩
def sL (l : List UInt8) : Value := .string ⟨l.toArray⟩
def yesL : List UInt8 := [84, 82, 85, 69]
def noL : List UInt8 := [70, 65, 76, 83, 69]
def trL (b : Bool) : List UInt8 := if b then yesL else noL
theorem truthText_any {w : World} (b : Bool) : Calls Tryz.prog 36 #[.bool b] w fun e w' => e = .returned (sL (trL b)) ∧ w' = w := by
  cases b
  · go_enter Tryz.func36, Tryz.ntmps36
    go_wp2
    go_ret
    exact ⟨rfl, rfl⟩
  · go_enter Tryz.func36, Tryz.ntmps36
    go_wp2
    go_ret
    exact ⟨rfl, rfl⟩
def erL (e : Int) : List UInt8 := if e = 0 then [35, 78, 85, 76, 76, 33] else if e = 7 then [35, 68, 73, 86, 47, 48, 33] else if e = 15 then [35, 86, 65, 76, 85, 69, 33] else if e = 23 then [35, 82, 69, 70, 33] else if e = 29 then [35, 78, 65, 77, 69, 63] else if e = 36 then [35, 78, 85, 77, 33] else if e = 42 then [35, 78, 47, 65] else []
theorem faultText_any {w : World} (e : Int) : Calls Tryz.prog 27 #[.int .i64 e] w fun x w' => x = .returned (sL (erL e)) ∧ w' = w := by
  obtain ⟨L, hL⟩ : ∃ L, erL e = L := ⟨_, rfl⟩
  rw [hL]
  unfold erL at hL
  by_cases h0 : e = 0
  · subst h0
    subst hL
    go_enter Tryz.func27, Tryz.ntmps27
    go_wp2
    go_ret
    exact ⟨rfl, rfl⟩
  rw [if_neg h0] at hL
  by_cases h7 : e = 7
  · subst h7
    subst hL
    go_enter Tryz.func27, Tryz.ntmps27
    go_wp2
    go_ret
    exact ⟨rfl, rfl⟩
  rw [if_neg h7] at hL
  by_cases h15 : e = 15
  · subst h15
    subst hL
    go_enter Tryz.func27, Tryz.ntmps27
    go_wp2
    go_ret
    exact ⟨rfl, rfl⟩
  rw [if_neg h15] at hL
  by_cases h23 : e = 23
  · subst h23
    subst hL
    go_enter Tryz.func27, Tryz.ntmps27
    go_wp2
    go_ret
    exact ⟨rfl, rfl⟩
  rw [if_neg h23] at hL
  by_cases h29 : e = 29
  · subst h29
    subst hL
    go_enter Tryz.func27, Tryz.ntmps27
    go_wp2
    go_ret
    exact ⟨rfl, rfl⟩
  rw [if_neg h29] at hL
  by_cases h36 : e = 36
  · subst h36
    subst hL
    go_enter Tryz.func27, Tryz.ntmps27
    go_wp2
    go_ret
    exact ⟨rfl, rfl⟩
  rw [if_neg h36] at hL
  by_cases h42 : e = 42
  · subst h42
    subst hL
    go_enter Tryz.func27, Tryz.ntmps27
    go_wp2
    go_ret
    exact ⟨rfl, rfl⟩
  rw [if_neg h42] at hL
  subst hL
  go_enter Tryz.func27, Tryz.ntmps27
  go_wp2
  go_ret
  exact ⟨rfl, rfl⟩
theorem erL_none (e : Int) : erL e = [] ↔ ¬ (e = 0 ∨ e = 7 ∨ e = 15 ∨ e = 23 ∨ e = 29 ∨ e = 36 ∨ e = 42) := by
  unfold erL
  repeat' split
  all_goals first | (simp; omega) | (simp only [reduceCtorEq, false_iff]; omega)
theorem fault_any {w : World} (e : Int) : Calls Tryz.prog 21 #[.int .i64 e] w fun x w' => x = .returned (.agg #[.int .i64 4, .int .i64 0, .int .i64 0, .string ⟨#[]⟩, .bool false, .int .i64 e]) ∧ Below w.heap.size w w' := by
  go_enter Tryz.func21, Tryz.ntmps21
  go_wp2
  exact bodyPost_ret (v := .agg #[.int .i64 4, .int .i64 0, .int .i64 0, .string ⟨#[]⟩, .bool false, .int .i64 e]) (by simp [results, Tryz.results21, go_sem]) rfl ⟨rfl, bel0 _ _⟩
theorem lS_any {w : World} (t : ByteArray) : Calls Tryz.prog 20 #[.string t] w fun x w' => x = .returned (.agg #[.int .i64 2, .int .i64 0, .int .i64 0, .string t, .bool false, .int .i64 0]) ∧ Below w.heap.size w w' := by
  go_enter Tryz.func20, Tryz.ntmps20
  go_wp2
  exact bodyPost_ret (v := .agg #[.int .i64 2, .int .i64 0, .int .i64 0, .string t, .bool false, .int .i64 0]) (by simp [results, Tryz.results20, go_sem]) rfl ⟨rfl, bel0 _ _⟩
theorem own_num {w : World} (m s : Int) (t : ByteArray) (b : Bool) (e : Int) : Calls Tryz.prog 24 #[.agg #[.int .i64 1, .int .i64 m, .int .i64 s, .string t, .bool b, .int .i64 e]] w fun x w' => x = .returned (.agg #[.int .i64 1, .int .i64 m, .int .i64 s, .string ⟨#[]⟩, .bool false, .int .i64 0]) ∧ Below w.heap.size w w' := by
  go_enter Tryz.func24, Tryz.ntmps24
  go_wp2
  exact bodyPost_ret (v := .agg #[.int .i64 1, .int .i64 m, .int .i64 s, .string ⟨#[]⟩, .bool false, .int .i64 0]) (by simp [results, Tryz.results24, go_sem]) rfl ⟨rfl, bel2 _ _ _ _⟩
theorem own_str {w : World} (m s : Int) (t : ByteArray) (b : Bool) (e : Int) : Calls Tryz.prog 24 #[.agg #[.int .i64 2, .int .i64 m, .int .i64 s, .string t, .bool b, .int .i64 e]] w fun x w' => x = .returned (.agg #[.int .i64 2, .int .i64 0, .int .i64 0, .string t, .bool false, .int .i64 0]) ∧ Below w.heap.size w w' := by
  go_enter Tryz.func24, Tryz.ntmps24
  go_wp2
  exact bodyPost_ret (v := .agg #[.int .i64 2, .int .i64 0, .int .i64 0, .string t, .bool false, .int .i64 0]) (by simp [results, Tryz.results24, go_sem]) rfl ⟨rfl, bel2 _ _ _ _⟩
theorem own_bool {w : World} (m s : Int) (t : ByteArray) (b : Bool) (e : Int) : Calls Tryz.prog 24 #[.agg #[.int .i64 3, .int .i64 m, .int .i64 s, .string t, .bool b, .int .i64 e]] w fun x w' => x = .returned (.agg #[.int .i64 3, .int .i64 0, .int .i64 0, .string ⟨#[]⟩, .bool b, .int .i64 0]) ∧ Below w.heap.size w w' := by
  go_enter Tryz.func24, Tryz.ntmps24
  go_wp2
  exact bodyPost_ret (v := .agg #[.int .i64 3, .int .i64 0, .int .i64 0, .string ⟨#[]⟩, .bool b, .int .i64 0]) (by simp [results, Tryz.results24, go_sem]) rfl ⟨rfl, bel2 _ _ _ _⟩
theorem own_err {w : World} (m s : Int) (t : ByteArray) (b : Bool) (e : Int) : Calls Tryz.prog 24 #[.agg #[.int .i64 4, .int .i64 m, .int .i64 s, .string t, .bool b, .int .i64 e]] w fun x w' => x = .returned (.agg #[.int .i64 4, .int .i64 0, .int .i64 0, .string ⟨#[]⟩, .bool false, .int .i64 e]) ∧ Below w.heap.size w w' := by
  go_enter Tryz.func24, Tryz.ntmps24
  go_wp2
  exact bodyPost_ret (v := .agg #[.int .i64 4, .int .i64 0, .int .i64 0, .string ⟨#[]⟩, .bool false, .int .i64 e]) (by simp [results, Tryz.results24, go_sem]) rfl ⟨rfl, bel2 _ _ _ _⟩
theorem own_blank {w : World} (m s : Int) (t : ByteArray) (b : Bool) (e : Int) : Calls Tryz.prog 24 #[.agg #[.int .i64 0, .int .i64 m, .int .i64 s, .string t, .bool b, .int .i64 e]] w fun x w' => x = .returned (.agg #[.int .i64 0, .int .i64 0, .int .i64 0, .string ⟨#[]⟩, .bool false, .int .i64 0]) ∧ Below w.heap.size w w' := by
  go_enter Tryz.func24, Tryz.ntmps24
  go_wp2
  exact bodyPost_ret (v := .agg #[.int .i64 0, .int .i64 0, .int .i64 0, .string ⟨#[]⟩, .bool false, .int .i64 0]) (by simp [results, Tryz.results24, go_sem]) rfl ⟨rfl, bel2 _ _ _ _⟩
theorem own_none {w : World} (k m s : Int) (t : ByteArray) (b : Bool) (e : Int) (h1 : ¬ k = 1) (h2 : ¬ k = 2) (h3 : ¬ k = 3) (h4 : ¬ k = 4) : Calls Tryz.prog 24 #[.agg #[.int .i64 k, .int .i64 m, .int .i64 s, .string t, .bool b, .int .i64 e]] w fun x w' => x = .returned (.agg #[.int .i64 k, .int .i64 0, .int .i64 0, .string ⟨#[]⟩, .bool false, .int .i64 0]) ∧ Below w.heap.size w w' := by
  go_enter Tryz.func24, Tryz.ntmps24
  go_wp2
  exact bodyPost_ret (v := .agg #[.int .i64 k, .int .i64 0, .int .i64 0, .string ⟨#[]⟩, .bool false, .int .i64 0]) (by simp [results, Tryz.results24, go_sem]) rfl ⟨rfl, bel2 _ _ _ _⟩
theorem filled_non {w : World} (k : Int) (m s : Int) (t : ByteArray) (b : Bool) (e : Int) (k' : Int) (m' s' : Int) (t' : ByteArray) (b' : Bool) (e' : Int) (h : ¬ k = 0) : Calls Tryz.prog 38 #[.agg #[.int .i64 k, .int .i64 m, .int .i64 s, .string t, .bool b, .int .i64 e], .agg #[.int .i64 k', .int .i64 m', .int .i64 s', .string t', .bool b', .int .i64 e']] w fun x w' => x = .returned (.agg #[.int .i64 k, .int .i64 m, .int .i64 s, .string t, .bool b, .int .i64 e]) ∧ Below w.heap.size w w' := by
  go_enter Tryz.func38, Tryz.ntmps38
  go_wp2
  exact bodyPost_ret (v := .agg #[.int .i64 k, .int .i64 m, .int .i64 s, .string t, .bool b, .int .i64 e]) (by simp [results, Tryz.results38, go_sem]) rfl ⟨rfl, bel2 _ _ _ _⟩
theorem filled_blank {w : World} (k' : Int) (m' s' : Int) (t' : ByteArray) (b' : Bool) (e' : Int) (h : ¬ k' = 4) : Calls Tryz.prog 38 #[.agg #[.int .i64 0, .int .i64 0, .int .i64 0, .string ⟨#[]⟩, .bool false, .int .i64 0], .agg #[.int .i64 k', .int .i64 m', .int .i64 s', .string t', .bool b', .int .i64 e']] w fun x w' => x = .returned (.agg #[.int .i64 k', .int .i64 0, .int .i64 0, .string ⟨#[]⟩, .bool false, .int .i64 0]) ∧ Below w.heap.size w w' := by
  go_enter Tryz.func38, Tryz.ntmps38
  go_wp2
  exact bodyPost_ret (v := .agg #[.int .i64 k', .int .i64 0, .int .i64 0, .string ⟨#[]⟩, .bool false, .int .i64 0]) (by simp [results, Tryz.results38, go_sem]) rfl ⟨rfl, bel2 _ _ _ _⟩
theorem filled_err {w : World} (m' s' : Int) (t' : ByteArray) (b' : Bool) (e' : Int) : Calls Tryz.prog 38 #[.agg #[.int .i64 0, .int .i64 0, .int .i64 0, .string ⟨#[]⟩, .bool false, .int .i64 0], .agg #[.int .i64 4, .int .i64 m', .int .i64 s', .string t', .bool b', .int .i64 e']] w fun x w' => x = .returned (.agg #[.int .i64 0, .int .i64 0, .int .i64 0, .string ⟨#[]⟩, .bool false, .int .i64 0]) ∧ Below w.heap.size w w' := by
  go_enter Tryz.func38, Tryz.ntmps38
  go_wp2
  exact bodyPost_ret (v := .agg #[.int .i64 0, .int .i64 0, .int .i64 0, .string ⟨#[]⟩, .bool false, .int .i64 0]) (by simp [results, Tryz.results38, go_sem]) rfl ⟨rfl, bel2 _ _ _ _⟩
end Go.Proofs.YtmbjmgmnicacpaaGreatDoor
namespace Go.Proofs.YtmbjmgmnicacpaaGreatDoor
open Go.RowKit Go.Sort Go.Lib

theorem below_grow' (w : World) (k : Nat) (os : Array Obj) : Below w.heap.size w (grow (w.drewN k) os) :=
  ⟨rfl, rfl, rfl, by simp [grow, World.drewN], fun i hi => by
    show (w.heap ++ os)[i]? = w.heap[i]?
    rw [Array.getElem?_append_left hi]⟩

theorem fmt_small {w : World} {u : Nat} (h : u < 100) :
    Calls Tryz.prog 77 #[.int .u64 (u : Nat), .int .i64 10] w fun e w' => e = .returned (sL (decDigits u)) ∧ Below w.heap.size w w' := by
  have HS := Lib.hid (fun W : World => Tryz.internal_strconv_small u h W)
  have h1 : ((u : Nat) : Int) < 100 := by omega
  have h2 : IntKind.i64.wrap ((u : Nat) : Int) = (u : Nat) := IntWalk.i64_in _ (by omega)
  clear h
  unfold sL
  go_enter Tryz.func77, Tryz.ntmps77
  go_wp2_with fail
  refine (HS.out _).mono ?_
  rintro e w1 ⟨rfl, rfl⟩
  go_wp2
  go_ret
  exact ⟨rfl, Below.refl _ _⟩

set_option maxHeartbeats 6400000 in
set_option maxRecDepth 100000 in
theorem fmt_big {w : World} {u : Nat} (h : 100 ≤ u) (hu64 : u < 18446744073709551616) (htab : Lib.TabIs Tryz.prog w "internal/strconv.uint64pow10" .u64 Lib.pow10Tab) :
    Calls Tryz.prog 77 #[.int .u64 (u : Nat), .int .i64 10] w fun e w' => e = .returned (sL (decDigits u)) ∧ Below w.heap.size w w' := by
  have hu1 : 1 ≤ u := by omega
  have hnd20 : Lib.nDigits u ≤ 20 := by have := Lib.numDigits_eq u hu1 hu64; split at this <;> omega
  have hal : Tryz.prog.arrayLen 147 = 24 := by simp [Program.arrayLen, Tryz.underlying147]
  have hsl : ∀ W, (Instr.sliceAt 147 (.pointer (some ⟨w.heap.size, 0, none⟩)) none (some (.int .i64 (Lib.nDigits u : Int))) none).run Tryz.prog W = .ok (.slice (some ⟨w.heap.size, 0, none⟩) (Lib.nDigits u) 24) W := fun W => by
    rw [run_sliceAt_array_h W 147 ⟨w.heap.size, 0, none⟩ (by simp [Program.arrayLen, Program.elem, Tryz.underlying147]) .i64 (Lib.nDigits u : Int) (by omega) (by rw [hal]; omega)]
    go_simp
  have hH0 := Lib.holds_zero0 w 147 (Lib.nDigits u) (by omega)
  have hfmt := Tryz.internal_strconv_formatBase10 w.heap.size 0 24 u (Array.replicate (Lib.nDigits u) 0) (w.alloc (.cells Lib.zeros24 147)) hH0 (by rw [Array.size_replicate]; exact Lib.lt_pow_nDigits u) hu64 (by rw [Array.size_replicate]; omega)
  rw [Array.size_replicate] at hfmt
  have HH0 := Lib.hid hH0
  have HN := Lib.hid (fun W ht => Tryz.internal_strconv_numDigits u hu1 hu64 W ht)
  have HT := Lib.hid (Lib.tabIs_alloc htab (.cells Lib.zeros24 147))
  have HF := Lib.hid hfmt
  have iu : (100 : Int) ≤ ((u : Nat) : Int) := by omega
  have hdl := Lib.hid (Lib.decDigits_length u)
  clear hH0 hal hfmt h htab hu1
  unfold sL
  go_enter Tryz.func77, Tryz.ntmps77
  go_wp2_with fail
  refine (HN.out _ HT.out).mono ?_
  rintro e w1 ⟨rfl, rfl⟩
  go_wp2_with fail
  refine HF.out.mono ?_
  rintro e w' ⟨rfl, k, v', dk, rfl, hF⟩
  have hcv : (convert 105 9 (.slice (some ⟨w.heap.size, 0, none⟩) (Lib.nDigits u) 24)).run Tryz.prog ((putRow (fun (b : UInt8) => Value.int .u8 (b.toNat : Int)) (w.alloc (.cells Lib.zeros24 147)) w.heap.size 0 dk).drewN k) = .ok (.string ⟨(Lib.decDigits u).toArray⟩) ((putRow (fun (b : UInt8) => Value.int .u8 (b.toNat : Int)) (w.alloc (.cells Lib.zeros24 147)) w.heap.size 0 dk).drewN k) := by
    have h := run_convert_bytes_back (P := Tryz.prog) ((putRow (fun (b : UInt8) => Value.int .u8 (b.toNat : Int)) (w.alloc (.cells Lib.zeros24 147)) w.heap.size 0 dk).drewN k) 105 9 5 ⟨w.heap.size, 0, none⟩ 24 (Lib.decDigits u) Tryz.underlying105 Tryz.underlying5 Tryz.underlying9 (fun j hj => by
      rw [Lib.row_is_numeral hF j hj, Lib.add_plain, World.cell?_drewN]
      exact cell?_putRow (fun (b : UInt8) => Value.int .u8 (b.toNat : Int)) _ w.heap.size 0 _ dk HH0.out (by rw [hF.size, Array.size_replicate]) j (by rw [hF.size]; rw [Lib.decDigits_length] at hj; exact hj))
    rw [Lib.decDigits_length] at h
    exact h
  obtain ⟨os, eo⟩ := Lib.fin_at w (.cells Lib.zeros24 147) dk k 0
  have hbel : Below w.heap.size w ((putRow (fun (b : UInt8) => Value.int .u8 (b.toNat : Int)) (w.alloc (.cells Lib.zeros24 147)) w.heap.size 0 dk).drewN k) := by rw [eo]; exact below_grow' w k os
  clear eo hF HF HN HT HH0
  generalize (putRow (fun (b : UInt8) => Value.int .u8 (b.toNat : Int)) (w.alloc (.cells Lib.zeros24 147)) w.heap.size 0 dk).drewN k = W2 at *
  go_wp2
  go_ret
  exact ⟨rfl, hbel⟩

/-- strconv.FormatUint tells what it promises, from world w on. -/
def Tens (w : World) : Prop := ∀ (u : Nat) (W : World), u < 18446744073709551616 → Below w.heap.size w W →
  Calls Tryz.prog 58 #[.int .u64 (u : Nat), .int .i64 10] W fun e w' => e = .returned (sL (decDigits u)) ∧ Below W.heap.size W w'
theorem Tens.below {w w' : World} (h : Tens w) (hb : Below w.heap.size w w') : Tens w' := fun n W hn hb' => h n W hn (hb.trans (hb'.mono hb.size))
theorem tab_below {P : Program} {w w' : World} {name : String} {k : IntKind} {zs : List Int} (h : Lib.TabIs P w name k zs) (hb : Below w.heap.size w w') : Lib.TabIs P w' name k zs := by
  unfold Lib.TabIs World.var? at *
  cases hg : P.globalNamed name with
  | none => rw [hg] at h; cases h
  | some g =>
    rw [hg] at h
    rw [← h]
    simp only [Option.bind_some] at h ⊢
    have hlt : g < w.heap.size := by
      rcases Nat.lt_or_ge g w.heap.size with hl | hl
      · exact hl
      · simp [Array.getElem?_eq_none hl] at h
    simp [hb.block g hlt]
theorem fmt0_any {w : World} (u : Nat) (hu : u < 18446744073709551616) (htab : Lib.TabIs Tryz.prog w "internal/strconv.uint64pow10" .u64 Lib.pow10Tab) :
    Calls Tryz.prog 77 #[.int .u64 (u : Nat), .int .i64 10] w fun e w' => e = .returned (sL (decDigits u)) ∧ Below w.heap.size w w' := by
  by_cases h : u < 100
  · exact fmt_small h
  · exact fmt_big (by omega) hu htab
theorem tens_of {w : World} (h : Lib.TabIs Tryz.prog w "internal/strconv.uint64pow10" .u64 Lib.pow10Tab) : Tens w := fun u W hu hb => by
  have HF := Lib.hid (fmt0_any (w := W) u hu (tab_below h hb))
  clear h hb hu
  generalize sL (decDigits u) = V at *
  go_enter Tryz.func58, Tryz.ntmps58
  go_wp2_with fail
  refine HF.out.mono ?_
  rintro e w1 ⟨rfl, hb⟩
  go_wp2
  go_ret
  exact ⟨rfl, hb⟩

theorem hp_of {w : World} {s p : ByteArray} {b : Bool} (h2 : Lib.hasPrefix s.data.toList p.data.toList = b) :
    Calls Tryz.prog 79 #[.string s, .string p] w fun e w' => e = .returned (.bool b) ∧ w' = w := by
  have := Tryz.strings_HasPrefix s p w
  rw [h2] at this
  exact this
set_option maxRecDepth 1000000 in
theorem rep1 {w : World} : Calls Tryz.prog 59 #[.string ⟨#[48]⟩, .int .i64 1] w fun e w' => e = .returned (.string ⟨#[48]⟩) ∧ w' = w := by
  go_enter Tryz.func59, Tryz.ntmps59
  go_wp2
  go_ret
  exact ⟨rfl, rfl⟩
set_option maxRecDepth 1000000 in
theorem rep2 {w : World} : Calls Tryz.prog 59 #[.string ⟨#[48]⟩, .int .i64 2] w fun e w' => e = .returned (.string ⟨#[48, 48]⟩) ∧ w' = w := by
  have HM : Hid (∀ W : World, Calls Tryz.prog 78 #[.int .u64 1, .int .u64 2] W fun e w' => e = .returned (.tuple #[.int .u64 0, .int .u64 2]) ∧ w' = W) := Lib.hid (fun W => Tryz.bits_Mul 1 2 (by decide) (by decide) W)
  have HN : Hid (∀ (W : World) (s : ByteArray), Lib.hasPrefix s.data.toList [48] = false → Calls Tryz.prog 79 #[.string s, .string ⟨#[48]⟩] W fun e w' => e = .returned (.bool false) ∧ w' = W) := Lib.hid (fun W s h => hp_of h)
  have HY : Hid (∀ (W : World) (s : ByteArray), Lib.hasPrefix s.data.toList [48] = true → Calls Tryz.prog 79 #[.string s, .string ⟨#[48]⟩] W fun e w' => e = .returned (.bool true) ∧ w' = W) := Lib.hid (fun W s h => hp_of h)
  go_enter Tryz.func59, Tryz.ntmps59
  go_wp2_with fail
  refine (HM.out _).mono ?_
  rintro e w1 ⟨rfl, rfl⟩
  go_wp2_with fail
  refine (HN.out _ _ (by decide)).mono ?_
  rintro e w1 ⟨rfl, rfl⟩
  go_wp2_with fail
  refine (HN.out _ _ (by decide)).mono ?_
  rintro e w1 ⟨rfl, rfl⟩
  go_wp2_with fail
  refine (HY.out _ _ (by decide)).mono ?_
  rintro e w1 ⟨rfl, rfl⟩
  go_wp2
  go_ret
  exact ⟨rfl, rfl⟩
set_option maxRecDepth 1000000 in
theorem rep3 {w : World} : Calls Tryz.prog 59 #[.string ⟨#[48]⟩, .int .i64 3] w fun e w' => e = .returned (.string ⟨#[48, 48, 48]⟩) ∧ w' = w := by
  have HM : Hid (∀ W : World, Calls Tryz.prog 78 #[.int .u64 1, .int .u64 3] W fun e w' => e = .returned (.tuple #[.int .u64 0, .int .u64 3]) ∧ w' = W) := Lib.hid (fun W => Tryz.bits_Mul 1 3 (by decide) (by decide) W)
  have HN : Hid (∀ (W : World) (s : ByteArray), Lib.hasPrefix s.data.toList [48] = false → Calls Tryz.prog 79 #[.string s, .string ⟨#[48]⟩] W fun e w' => e = .returned (.bool false) ∧ w' = W) := Lib.hid (fun W s h => hp_of h)
  have HY : Hid (∀ (W : World) (s : ByteArray), Lib.hasPrefix s.data.toList [48] = true → Calls Tryz.prog 79 #[.string s, .string ⟨#[48]⟩] W fun e w' => e = .returned (.bool true) ∧ w' = W) := Lib.hid (fun W s h => hp_of h)
  go_enter Tryz.func59, Tryz.ntmps59
  go_wp2_with fail
  refine (HM.out _).mono ?_
  rintro e w1 ⟨rfl, rfl⟩
  go_wp2_with fail
  refine (HN.out _ _ (by decide)).mono ?_
  rintro e w1 ⟨rfl, rfl⟩
  go_wp2_with fail
  refine (HN.out _ _ (by decide)).mono ?_
  rintro e w1 ⟨rfl, rfl⟩
  go_wp2_with fail
  refine (HY.out _ _ (by decide)).mono ?_
  rintro e w1 ⟨rfl, rfl⟩
  go_wp2
  go_ret
  exact ⟨rfl, rfl⟩
set_option maxRecDepth 1000000 in
theorem rep4 {w : World} : Calls Tryz.prog 59 #[.string ⟨#[48]⟩, .int .i64 4] w fun e w' => e = .returned (.string ⟨#[48, 48, 48, 48]⟩) ∧ w' = w := by
  have HM : Hid (∀ W : World, Calls Tryz.prog 78 #[.int .u64 1, .int .u64 4] W fun e w' => e = .returned (.tuple #[.int .u64 0, .int .u64 4]) ∧ w' = W) := Lib.hid (fun W => Tryz.bits_Mul 1 4 (by decide) (by decide) W)
  have HN : Hid (∀ (W : World) (s : ByteArray), Lib.hasPrefix s.data.toList [48] = false → Calls Tryz.prog 79 #[.string s, .string ⟨#[48]⟩] W fun e w' => e = .returned (.bool false) ∧ w' = W) := Lib.hid (fun W s h => hp_of h)
  have HY : Hid (∀ (W : World) (s : ByteArray), Lib.hasPrefix s.data.toList [48] = true → Calls Tryz.prog 79 #[.string s, .string ⟨#[48]⟩] W fun e w' => e = .returned (.bool true) ∧ w' = W) := Lib.hid (fun W s h => hp_of h)
  go_enter Tryz.func59, Tryz.ntmps59
  go_wp2_with fail
  refine (HM.out _).mono ?_
  rintro e w1 ⟨rfl, rfl⟩
  go_wp2_with fail
  refine (HN.out _ _ (by decide)).mono ?_
  rintro e w1 ⟨rfl, rfl⟩
  go_wp2_with fail
  refine (HN.out _ _ (by decide)).mono ?_
  rintro e w1 ⟨rfl, rfl⟩
  go_wp2_with fail
  refine (HY.out _ _ (by decide)).mono ?_
  rintro e w1 ⟨rfl, rfl⟩
  go_wp2
  go_ret
  exact ⟨rfl, rfl⟩
set_option maxRecDepth 1000000 in
theorem rep5 {w : World} : Calls Tryz.prog 59 #[.string ⟨#[48]⟩, .int .i64 5] w fun e w' => e = .returned (.string ⟨#[48, 48, 48, 48, 48]⟩) ∧ w' = w := by
  have HM : Hid (∀ W : World, Calls Tryz.prog 78 #[.int .u64 1, .int .u64 5] W fun e w' => e = .returned (.tuple #[.int .u64 0, .int .u64 5]) ∧ w' = W) := Lib.hid (fun W => Tryz.bits_Mul 1 5 (by decide) (by decide) W)
  have HN : Hid (∀ (W : World) (s : ByteArray), Lib.hasPrefix s.data.toList [48] = false → Calls Tryz.prog 79 #[.string s, .string ⟨#[48]⟩] W fun e w' => e = .returned (.bool false) ∧ w' = W) := Lib.hid (fun W s h => hp_of h)
  have HY : Hid (∀ (W : World) (s : ByteArray), Lib.hasPrefix s.data.toList [48] = true → Calls Tryz.prog 79 #[.string s, .string ⟨#[48]⟩] W fun e w' => e = .returned (.bool true) ∧ w' = W) := Lib.hid (fun W s h => hp_of h)
  go_enter Tryz.func59, Tryz.ntmps59
  go_wp2_with fail
  refine (HM.out _).mono ?_
  rintro e w1 ⟨rfl, rfl⟩
  go_wp2_with fail
  refine (HN.out _ _ (by decide)).mono ?_
  rintro e w1 ⟨rfl, rfl⟩
  go_wp2_with fail
  refine (HN.out _ _ (by decide)).mono ?_
  rintro e w1 ⟨rfl, rfl⟩
  go_wp2_with fail
  refine (HY.out _ _ (by decide)).mono ?_
  rintro e w1 ⟨rfl, rfl⟩
  go_wp2
  go_ret
  exact ⟨rfl, rfl⟩
set_option maxRecDepth 1000000 in
theorem rep6 {w : World} : Calls Tryz.prog 59 #[.string ⟨#[48]⟩, .int .i64 6] w fun e w' => e = .returned (.string ⟨#[48, 48, 48, 48, 48, 48]⟩) ∧ w' = w := by
  have HM : Hid (∀ W : World, Calls Tryz.prog 78 #[.int .u64 1, .int .u64 6] W fun e w' => e = .returned (.tuple #[.int .u64 0, .int .u64 6]) ∧ w' = W) := Lib.hid (fun W => Tryz.bits_Mul 1 6 (by decide) (by decide) W)
  have HN : Hid (∀ (W : World) (s : ByteArray), Lib.hasPrefix s.data.toList [48] = false → Calls Tryz.prog 79 #[.string s, .string ⟨#[48]⟩] W fun e w' => e = .returned (.bool false) ∧ w' = W) := Lib.hid (fun W s h => hp_of h)
  have HY : Hid (∀ (W : World) (s : ByteArray), Lib.hasPrefix s.data.toList [48] = true → Calls Tryz.prog 79 #[.string s, .string ⟨#[48]⟩] W fun e w' => e = .returned (.bool true) ∧ w' = W) := Lib.hid (fun W s h => hp_of h)
  go_enter Tryz.func59, Tryz.ntmps59
  go_wp2_with fail
  refine (HM.out _).mono ?_
  rintro e w1 ⟨rfl, rfl⟩
  go_wp2_with fail
  refine (HN.out _ _ (by decide)).mono ?_
  rintro e w1 ⟨rfl, rfl⟩
  go_wp2_with fail
  refine (HN.out _ _ (by decide)).mono ?_
  rintro e w1 ⟨rfl, rfl⟩
  go_wp2_with fail
  refine (HY.out _ _ (by decide)).mono ?_
  rintro e w1 ⟨rfl, rfl⟩
  go_wp2
  go_ret
  exact ⟨rfl, rfl⟩
set_option maxRecDepth 1000000 in
theorem rep7 {w : World} : Calls Tryz.prog 59 #[.string ⟨#[48]⟩, .int .i64 7] w fun e w' => e = .returned (.string ⟨#[48, 48, 48, 48, 48, 48, 48]⟩) ∧ w' = w := by
  have HM : Hid (∀ W : World, Calls Tryz.prog 78 #[.int .u64 1, .int .u64 7] W fun e w' => e = .returned (.tuple #[.int .u64 0, .int .u64 7]) ∧ w' = W) := Lib.hid (fun W => Tryz.bits_Mul 1 7 (by decide) (by decide) W)
  have HN : Hid (∀ (W : World) (s : ByteArray), Lib.hasPrefix s.data.toList [48] = false → Calls Tryz.prog 79 #[.string s, .string ⟨#[48]⟩] W fun e w' => e = .returned (.bool false) ∧ w' = W) := Lib.hid (fun W s h => hp_of h)
  have HY : Hid (∀ (W : World) (s : ByteArray), Lib.hasPrefix s.data.toList [48] = true → Calls Tryz.prog 79 #[.string s, .string ⟨#[48]⟩] W fun e w' => e = .returned (.bool true) ∧ w' = W) := Lib.hid (fun W s h => hp_of h)
  go_enter Tryz.func59, Tryz.ntmps59
  go_wp2_with fail
  refine (HM.out _).mono ?_
  rintro e w1 ⟨rfl, rfl⟩
  go_wp2_with fail
  refine (HN.out _ _ (by decide)).mono ?_
  rintro e w1 ⟨rfl, rfl⟩
  go_wp2_with fail
  refine (HN.out _ _ (by decide)).mono ?_
  rintro e w1 ⟨rfl, rfl⟩
  go_wp2_with fail
  refine (HY.out _ _ (by decide)).mono ?_
  rintro e w1 ⟨rfl, rfl⟩
  go_wp2
  go_ret
  exact ⟨rfl, rfl⟩
set_option maxRecDepth 1000000 in
theorem rep8 {w : World} : Calls Tryz.prog 59 #[.string ⟨#[48]⟩, .int .i64 8] w fun e w' => e = .returned (.string ⟨#[48, 48, 48, 48, 48, 48, 48, 48]⟩) ∧ w' = w := by
  have HM : Hid (∀ W : World, Calls Tryz.prog 78 #[.int .u64 1, .int .u64 8] W fun e w' => e = .returned (.tuple #[.int .u64 0, .int .u64 8]) ∧ w' = W) := Lib.hid (fun W => Tryz.bits_Mul 1 8 (by decide) (by decide) W)
  have HN : Hid (∀ (W : World) (s : ByteArray), Lib.hasPrefix s.data.toList [48] = false → Calls Tryz.prog 79 #[.string s, .string ⟨#[48]⟩] W fun e w' => e = .returned (.bool false) ∧ w' = W) := Lib.hid (fun W s h => hp_of h)
  have HY : Hid (∀ (W : World) (s : ByteArray), Lib.hasPrefix s.data.toList [48] = true → Calls Tryz.prog 79 #[.string s, .string ⟨#[48]⟩] W fun e w' => e = .returned (.bool true) ∧ w' = W) := Lib.hid (fun W s h => hp_of h)
  go_enter Tryz.func59, Tryz.ntmps59
  go_wp2_with fail
  refine (HM.out _).mono ?_
  rintro e w1 ⟨rfl, rfl⟩
  go_wp2_with fail
  refine (HN.out _ _ (by decide)).mono ?_
  rintro e w1 ⟨rfl, rfl⟩
  go_wp2_with fail
  refine (HN.out _ _ (by decide)).mono ?_
  rintro e w1 ⟨rfl, rfl⟩
  go_wp2_with fail
  refine (HY.out _ _ (by decide)).mono ?_
  rintro e w1 ⟨rfl, rfl⟩
  go_wp2
  go_ret
  exact ⟨rfl, rfl⟩
set_option maxRecDepth 1000000 in
theorem rep9 {w : World} : Calls Tryz.prog 59 #[.string ⟨#[48]⟩, .int .i64 9] w fun e w' => e = .returned (.string ⟨#[48, 48, 48, 48, 48, 48, 48, 48, 48]⟩) ∧ w' = w := by
  have HM : Hid (∀ W : World, Calls Tryz.prog 78 #[.int .u64 1, .int .u64 9] W fun e w' => e = .returned (.tuple #[.int .u64 0, .int .u64 9]) ∧ w' = W) := Lib.hid (fun W => Tryz.bits_Mul 1 9 (by decide) (by decide) W)
  have HN : Hid (∀ (W : World) (s : ByteArray), Lib.hasPrefix s.data.toList [48] = false → Calls Tryz.prog 79 #[.string s, .string ⟨#[48]⟩] W fun e w' => e = .returned (.bool false) ∧ w' = W) := Lib.hid (fun W s h => hp_of h)
  have HY : Hid (∀ (W : World) (s : ByteArray), Lib.hasPrefix s.data.toList [48] = true → Calls Tryz.prog 79 #[.string s, .string ⟨#[48]⟩] W fun e w' => e = .returned (.bool true) ∧ w' = W) := Lib.hid (fun W s h => hp_of h)
  go_enter Tryz.func59, Tryz.ntmps59
  go_wp2_with fail
  refine (HM.out _).mono ?_
  rintro e w1 ⟨rfl, rfl⟩
  go_wp2_with fail
  refine (HN.out _ _ (by decide)).mono ?_
  rintro e w1 ⟨rfl, rfl⟩
  go_wp2_with fail
  refine (HN.out _ _ (by decide)).mono ?_
  rintro e w1 ⟨rfl, rfl⟩
  go_wp2_with fail
  refine (HY.out _ _ (by decide)).mono ?_
  rintro e w1 ⟨rfl, rfl⟩
  go_wp2
  go_ret
  exact ⟨rfl, rfl⟩
theorem rep_any {w : World} {n : Nat} (h1 : 1 ≤ n) (h9 : n ≤ 9) : Calls Tryz.prog 59 #[.string ⟨#[48]⟩, .int .i64 (n : Nat)] w fun e w' => e = .returned (sL (List.replicate n 48)) ∧ w' = w := by
  rcases (by omega : n = 1 ∨ n = 2 ∨ n = 3 ∨ n = 4 ∨ n = 5 ∨ n = 6 ∨ n = 7 ∨ n = 8 ∨ n = 9) with rfl | rfl | rfl | rfl | rfl | rfl | rfl | rfl | rfl
  · exact rep1
  · exact rep2
  · exact rep3
  · exact rep4
  · exact rep5
  · exact rep6
  · exact rep7
  · exact rep8
  · exact rep9
end Go.Proofs.YtmbjmgmnicacpaaGreatDoor
