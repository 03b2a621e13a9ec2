/- ref: round, forth, back, isWithin, isLetter, isDigit, grow, and the reference's mod, by their contracts: each leaves the world as it was. Condition: numbers of 64 bits; an edge is one of the two. -/
import Derived.Test.YtgjijjdpkmdcgaaDoorMem
import Derived.Test.YtgjijjdpkmdcgaaDoorPl
import Derived.Test.YtgjijjdpkmdcgaaDoorProg
namespace Go.Proofs.YtgjijjdpkmdcgaaDoor
open Go.RowKit

theorem bel0 (w : World) (o : Obj) : Below w.heap.size w (w.alloc o) := (Below.refl _ _).alloc (Nat.le_refl _) o
theorem bel1 (w : World) (o o' : Obj) : Below w.heap.size w ((w.alloc o).alloc o') := (bel0 w o).alloc (by simp) o'
theorem bel2 (w : World) (o o' o'' : Obj) : Below w.heap.size w (((w.alloc o).alloc o').alloc o'') := (bel1 w o o').alloc (by simp; omega) o''

theorem round_any {w : World} (n m : Int) (hm : 0 < m) (hM : m ≤ 65536) :
    Calls Tryd.prog 44 #[.int .i64 n, .int .i64 m] w fun e w' => e = .returned (.int .i64 (n % m)) ∧ w = w' := by
  have hbd := tm_bd n hm
  by_cases h : n.tmod m < 0
  · have HV := Lib.hid (tm_neg hm h)
    go_enter Tryd.func44, Tryd.ntmps44
    go_wp2
    go_ret
    exact ⟨by rw [← HV.out]; rfl, rfl⟩
  · have HV := Lib.hid (tm_pos hm h)
    go_enter Tryd.func44, Tryd.ntmps44
    go_wp2
    go_ret
    exact ⟨by rw [← HV.out]; rfl, rfl⟩

theorem mod_any {w : World} (n m : Int) (hm : 0 < m) (hM : m ≤ 65536) :
    Calls Tryd.prog 34 #[.int .i64 n, .int .i64 m] w fun e w' => e = .returned (.int .i64 (n % m)) ∧ w = w' := by
  have hbd := tm_bd n hm
  by_cases h : n.tmod m < 0
  · have HV := Lib.hid (tm_neg hm h)
    go_enter Tryd.func34, Tryd.ntmps34
    go_wp2
    go_ret
    exact ⟨by rw [← HV.out]; rfl, rfl⟩
  · have HV := Lib.hid (tm_pos hm h)
    go_enter Tryd.func34, Tryd.ntmps34
    go_wp2
    go_ret
    exact ⟨by rw [← HV.out]; rfl, rfl⟩

theorem forth_any {w : World} (n b : Int) (rel : Bool) (m : Int) (hm : 0 < m) (hM : m ≤ 65536) :
    Calls Tryd.prog 33 #[.int .i64 n, .int .i64 b, .bool rel, .int .i64 m] w fun e w' => e = .returned (.int .i64 (fo n b rel m)) ∧ w = w' := by
  have h1 := Int.emod_nonneg n (show m ≠ 0 by omega)
  have h2 := Int.emod_lt_of_pos n hm
  have h3 := Int.emod_nonneg b (show m ≠ 0 by omega)
  have h4 := Int.emod_lt_of_pos b hm
  have HX := Lib.hid (fun W : World => round_any (w := W) n m hm hM)
  have HY := Lib.hid (fun W : World => round_any (w := W) b m hm hM)
  have HZ := Lib.hid (fun W : World => round_any (w := W) (n % m + b % m) m hm hM)
  have HV := Lib.hid (show fo n b rel m = if rel = true then (n % m + b % m) % m else n % m from rfl)
  generalize fo n b rel m = V at *
  generalize n % m = x at *
  generalize b % m = y at *
  generalize (x + y) % m = z at *
  cases rel
  · go_enter Tryd.func33, Tryd.ntmps33
    go_wp2_with fail
    refine (HX.out _).mono ?_
    rintro e w1 ⟨rfl, rfl⟩
    go_wp2
    go_ret
    exact ⟨by rw [HV.out]; rfl, rfl⟩
  · go_enter Tryd.func33, Tryd.ntmps33
    go_wp2_with fail
    refine (HX.out _).mono ?_
    rintro e w1 ⟨rfl, rfl⟩
    go_wp2_with fail
    refine (HY.out _).mono ?_
    rintro e w2 ⟨rfl, rfl⟩
    go_wp2_with fail
    refine (HZ.out _).mono ?_
    rintro e w3 ⟨rfl, rfl⟩
    go_wp2
    go_ret
    exact ⟨by rw [HV.out]; rfl, rfl⟩

theorem back_any {w : World} (n b : Int) (rel : Bool) (m : Int) (hm : 0 < m) (hM : m ≤ 65536) :
    Calls Tryd.prog 35 #[.int .i64 n, .int .i64 b, .bool rel, .int .i64 m] w fun e w' => e = .returned (.int .i64 (ba n b rel m)) ∧ w = w' := by
  have h1 := Int.emod_nonneg n (show m ≠ 0 by omega)
  have h2 := Int.emod_lt_of_pos n hm
  have h3 := Int.emod_nonneg b (show m ≠ 0 by omega)
  have h4 := Int.emod_lt_of_pos b hm
  have HX := Lib.hid (fun W : World => round_any (w := W) n m hm hM)
  have HY := Lib.hid (fun W : World => round_any (w := W) b m hm hM)
  have HZ := Lib.hid (fun W : World => round_any (w := W) (n % m - b % m) m hm hM)
  have HV := Lib.hid (show ba n b rel m = if rel = true then (n % m - b % m) % m else n % m from rfl)
  generalize ba n b rel m = V at *
  generalize n % m = x at *
  generalize b % m = y at *
  generalize (x - y) % m = z at *
  cases rel
  · go_enter Tryd.func35, Tryd.ntmps35
    go_wp2_with fail
    refine (HX.out _).mono ?_
    rintro e w1 ⟨rfl, rfl⟩
    go_wp2
    go_ret
    exact ⟨by rw [HV.out]; rfl, rfl⟩
  · go_enter Tryd.func35, Tryd.ntmps35
    go_wp2_with fail
    refine (HX.out _).mono ?_
    rintro e w1 ⟨rfl, rfl⟩
    go_wp2_with fail
    refine (HY.out _).mono ?_
    rintro e w2 ⟨rfl, rfl⟩
    go_wp2_with fail
    refine (HZ.out _).mono ?_
    rintro e w3 ⟨rfl, rfl⟩
    go_wp2
    go_ret
    exact ⟨by rw [HV.out]; rfl, rfl⟩

theorem within_any {w : World} (n m : Int) :
    Calls Tryd.prog 32 #[.int .i64 n, .int .i64 m] w fun e w' => e = .returned (.bool (decide (0 ≤ n ∧ n < m))) ∧ w = w' := by
  by_cases h0 : 0 ≤ n
  · by_cases h1 : n < m
    · have hv : decide (0 ≤ n ∧ n < m) = true := decide_eq_true ⟨h0, h1⟩
      rw [hv]
      clear hv
      go_enter Tryd.func32, Tryd.ntmps32
      go_wp2
      go_ret
      exact ⟨rfl, rfl⟩
    · have hv : decide (0 ≤ n ∧ n < m) = false := decide_eq_false (by omega)
      rw [hv]
      clear hv
      go_enter Tryd.func32, Tryd.ntmps32
      go_wp2
      go_ret
      exact ⟨rfl, rfl⟩
  · have hv : decide (0 ≤ n ∧ n < m) = false := decide_eq_false (by omega)
    rw [hv]
    clear hv
    go_enter Tryd.func32, Tryd.ntmps32
    go_wp2
    go_ret
    exact ⟨rfl, rfl⟩

theorem letter_any {w : World} (n : Int) :
    Calls Tryd.prog 37 #[.int .i32 n] w fun e w' => e = .returned (.bool (decide (65 ≤ n ∧ n ≤ 90))) ∧ w = w' := by
  by_cases h0 : 65 ≤ n
  · by_cases h1 : n ≤ 90
    · have hv : decide (65 ≤ n ∧ n ≤ 90) = true := decide_eq_true ⟨h0, h1⟩
      rw [hv]
      clear hv
      go_enter Tryd.func37, Tryd.ntmps37
      go_wp2
      go_ret
      exact ⟨rfl, rfl⟩
    · have hv : decide (65 ≤ n ∧ n ≤ 90) = false := decide_eq_false (by omega)
      rw [hv]
      clear hv
      go_enter Tryd.func37, Tryd.ntmps37
      go_wp2
      go_ret
      exact ⟨rfl, rfl⟩
  · have hv : decide (65 ≤ n ∧ n ≤ 90) = false := decide_eq_false (by omega)
    rw [hv]
    clear hv
    go_enter Tryd.func37, Tryd.ntmps37
    go_wp2
    go_ret
    exact ⟨rfl, rfl⟩

theorem digit_any {w : World} (n : Int) :
    Calls Tryd.prog 39 #[.int .i32 n] w fun e w' => e = .returned (.bool (decide (48 ≤ n ∧ n ≤ 57))) ∧ w = w' := by
  by_cases h0 : 48 ≤ n
  · by_cases h1 : n ≤ 57
    · have hv : decide (48 ≤ n ∧ n ≤ 57) = true := decide_eq_true ⟨h0, h1⟩
      rw [hv]
      clear hv
      go_enter Tryd.func39, Tryd.ntmps39
      go_wp2
      go_ret
      exact ⟨rfl, rfl⟩
    · have hv : decide (48 ≤ n ∧ n ≤ 57) = false := decide_eq_false (by omega)
      rw [hv]
      clear hv
      go_enter Tryd.func39, Tryd.ntmps39
      go_wp2
      go_ret
      exact ⟨rfl, rfl⟩
  · have hv : decide (48 ≤ n ∧ n ≤ 57) = false := decide_eq_false (by omega)
    rw [hv]
    clear hv
    go_enter Tryd.func39, Tryd.ntmps39
    go_wp2
    go_ret
    exact ⟨rfl, rfl⟩

theorem grow_any {w : World} (n b s m : Nat) (hn : n ≤ 65537) (hb : b ≤ 26) (hs : s ≤ 26) (hm : m ≤ 65536) :
    Calls Tryd.prog 38 #[.int .i64 n, .int .i64 b, .int .i64 s, .int .i64 m] w fun e w' => e = .returned (.int .i64 ((min (n * b + s) (m + 1) : Nat) : Int)) ∧ w = w' := by
  have h1 : n * b ≤ 65537 * 26 := Nat.mul_le_mul hn hb
  have HP := Lib.hid (show ((n : Int) * (b : Int)) = ((n * b : Nat) : Int) by simp)
  generalize n * b = p at *
  have HW := Lib.hid (show wrap64 ((n : Int) * (b : Int)) = (p : Int) by rw [HP.out]; exact IntWalk.wrap64_in _ ⟨by omega, by omega⟩)
  have hw := HW.out
  by_cases h : p + s ≤ m + 1
  · have HV := Lib.hid (show min (p + s) (m + 1) = p + s by omega)
    have h' : (p : Int) + (s : Int) ≤ (m : Int) + 1 := by omega
    go_enter Tryd.func38, Tryd.ntmps38
    go_wp2
    go_ret
    exact ⟨by rw [HV.out]; rfl, rfl⟩
  · have HV := Lib.hid (show min (p + s) (m + 1) = m + 1 by omega)
    have h' : ¬ (p : Int) + (s : Int) ≤ (m : Int) + 1 := by omega
    go_enter Tryd.func38, Tryd.ntmps38
    go_wp2
    go_ret
    exact ⟨by rw [HV.out]; rfl, rfl⟩
end Go.Proofs.YtgjijjdpkmdcgaaDoor
