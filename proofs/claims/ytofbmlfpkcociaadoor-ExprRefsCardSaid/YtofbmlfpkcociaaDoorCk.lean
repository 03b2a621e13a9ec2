/- expr's isWithin, checkConst, checkPlace, checkOp, by their contracts. Conditions: utf8.ValidString keeps its contract; a text's length is one. -/
import Derived.Test.YtofbmlfpkcociaaDoorSt
import Derived.Test.YtofbmlfpkcociaaDoorV5
import Derived.Test.YtofbmlfpkcociaaDoorAc
set_option linter.unusedVariables false
set_option linter.unusedSimpArgs false
namespace Go.Proofs.YtofbmlfpkcociaaDoor
open Go.RowKit

theorem ewithin_any {w : World} (n a b : Int) : Calls Tryd.prog 40 #[.int .i64 n, .int .i64 a, .int .i64 b] w fun e W => e = .returned (.bool (decide (a ≤ n ∧ n ≤ b))) ∧ W = w := by
  by_cases h1 : a ≤ n
  · by_cases h2 : n ≤ b
    · have HV := Lib.hid (show decide (a ≤ n ∧ n ≤ b) = true from decide_eq_true ⟨h1, h2⟩)
      go_enter Tryd.func40, Tryd.ntmps40
      repeat' (first | go_values | go_skip | go_guarded | go_step | go_upon)
      go_ret
      exact ⟨by rw [HV.out]; rfl, rfl⟩
    · have HV := Lib.hid (show decide (a ≤ n ∧ n ≤ b) = false from decide_eq_false fun h => h2 h.2)
      go_enter Tryd.func40, Tryd.ntmps40
      repeat' (first | go_values | go_skip | go_guarded | go_step | go_upon)
      go_ret
      exact ⟨by rw [HV.out]; rfl, rfl⟩
  · have HV := Lib.hid (show decide (a ≤ n ∧ n ≤ b) = false from decide_eq_false fun h => h1 h.1)
    go_enter Tryd.func40, Tryd.ntmps40
    repeat' (first | go_values | go_skip | go_guarded | go_step | go_upon)
    go_ret
    exact ⟨by rw [HV.out]; rfl, rfl⟩

/-- What a Const's value is told as. -/
def ccE (c k : Int) : Int := if c = 0 then (if k = 0 then 1 else 0) else c
set_option maxRecDepth 20000 in
theorem checkConst_any {w : World} (HV : Val w) (k m s : Int) (t : ByteArray) (b : Bool) (e : Int) (ht : t.size ≤ 140737488355328) :
    Calls Tryd.prog 33 #[.agg #[.int .i64 k, .int .i64 m, .int .i64 s, .string t, .bool b, .int .i64 e]] w fun x W => x = .returned (.int .i64 (ccE (ckV k m s t b e) k)) ∧ Below w.heap.size w W := by
  have hb1 := bel0 w (.cells #[.int .i64 k, .int .i64 m, .int .i64 s, .string t, .bool b, .int .i64 e] 37)
  have hk1 := Bk.new w 37 #[.int .i64 k, .int .i64 m, .int .i64 s, .string t, .bool b, .int .i64 e]
  have HC := Lib.hid (check_v (HV.below hb1) k m s t b e ht)
  have HB := Lib.hid (And.intro hb1 hk1)
  generalize ckV k m s t b e = cc at *
  clear hb1 hk1 HV
  by_cases hc : cc = 0
  · subst hc
    by_cases hk : k = 0
    · subst hk
      go_enter Tryd.func33, Tryd.ntmps33
      repeat' (first | go_values | go_skip | go_guarded | go_step | go_upon)
      refine HC.out.mono ?_
      rintro x W ⟨rfl, hb⟩
      have cb0 : W.cell? ⟨w.heap.size, 0, none⟩ = some (.int .i64 0) := (HB.out.2.below hb (by simp)).cell 0
      dsimp only
      repeat' (first | go_values | go_skip | go_guarded | go_step | go_upon)
      go_ret
      exact ⟨rfl, HB.out.1.trans (hb.mono (by simp))⟩
    · go_enter Tryd.func33, Tryd.ntmps33
      repeat' (first | go_values | go_skip | go_guarded | go_step | go_upon)
      refine HC.out.mono ?_
      rintro x W ⟨rfl, hb⟩
      have cb0 : W.cell? ⟨w.heap.size, 0, none⟩ = some (.int .i64 k) := (HB.out.2.below hb (by simp)).cell 0
      have hk' : (k == 0) = false := by simpa using hk
      dsimp only
      repeat' (first | go_values | go_skip | go_guarded | go_step | go_upon)
      go_ret
      exact ⟨by rw [ccE, if_pos rfl, if_neg hk]; rfl, HB.out.1.trans (hb.mono (by simp))⟩
  · have hc' : (cc == 0) = false := by simpa using hc
    have hc2 : (cc != 0) = true := by simpa using hc
    go_enter Tryd.func33, Tryd.ntmps33
    repeat' (first | go_values | go_skip | go_guarded | go_step | go_upon)
    refine HC.out.mono ?_
    rintro x W ⟨rfl, hb⟩
    dsimp only
    repeat' (first | go_values | go_skip | go_guarded | go_step | go_upon)
    go_ret
    exact ⟨by rw [ccE, if_neg hc]; rfl, HB.out.1.trans (hb.mono (by simp))⟩

/-- What a place is told as. -/
def cpE (c s : Int) : Int := if c = 0 then (if 0 ≤ s ∧ s ≤ 7 then 0 else 1) else c
set_option maxRecDepth 20000 in
theorem checkPlace_any {w : World} (p : Pay) (k : Value) :
    Calls Tryd.prog 34 #[.agg (ec p k).toArray] w fun x W => x = .returned (.int .i64 (cpE (ckA p.r1 p.c1 p.r2 p.c2) p.sheet)) ∧ Below w.heap.size w W := by
  have hb1 := bel0 w (.cells (ec p k).toArray 43)
  have hk1 := Bk.new w 43 (ec p k).toArray
  have c7 : (w.alloc (.cells (ec p k).toArray 43)).cell? ⟨w.heap.size, 7, none⟩ = some (.int .i64 p.r1) := hk1.cell 7
  have c8 : (w.alloc (.cells (ec p k).toArray 43)).cell? ⟨w.heap.size, 8, none⟩ = some (.int .i64 p.c1) := hk1.cell 8
  have c9 : (w.alloc (.cells (ec p k).toArray 43)).cell? ⟨w.heap.size, 9, none⟩ = some (.bool p.x1) := hk1.cell 9
  have c10 : (w.alloc (.cells (ec p k).toArray 43)).cell? ⟨w.heap.size, 10, none⟩ = some (.bool p.y1) := hk1.cell 10
  have c11 : (w.alloc (.cells (ec p k).toArray 43)).cell? ⟨w.heap.size, 11, none⟩ = some (.int .i64 p.r2) := hk1.cell 11
  have c12 : (w.alloc (.cells (ec p k).toArray 43)).cell? ⟨w.heap.size, 12, none⟩ = some (.int .i64 p.c2) := hk1.cell 12
  have c13 : (w.alloc (.cells (ec p k).toArray 43)).cell? ⟨w.heap.size, 13, none⟩ = some (.bool p.x2) := hk1.cell 13
  have c14 : (w.alloc (.cells (ec p k).toArray 43)).cell? ⟨w.heap.size, 14, none⟩ = some (.bool p.y2) := hk1.cell 14
  have c15 : (w.alloc (.cells (ec p k).toArray 43)).cell? ⟨w.heap.size, 15, none⟩ = some (.int .i64 p.sheet) := hk1.cell 15
  have HC := Lib.hid (checkArea_any (w := (w.alloc (.cells (ec p k).toArray 43))) p.r1 p.c1 p.r2 p.c2 p.x1 p.y1 p.x2 p.y2)
  have HB := Lib.hid (And.intro hb1 hk1)
  generalize ckA p.r1 p.c1 p.r2 p.c2 = cc at *
  clear hb1 hk1
  by_cases hc : cc = 0
  · subst hc
    have HW := Lib.hid (fun W : World => ewithin_any (w := W) p.sheet 0 7)
    have HE : Hid (cpE 0 p.sheet = if decide (0 ≤ p.sheet ∧ p.sheet ≤ 7) = true then 0 else 1) := Lib.hid (by rw [cpE, if_pos rfl]; simp)
    generalize decide (0 ≤ p.sheet ∧ p.sheet ≤ 7) = bb at *
    go_enter Tryd.func34, Tryd.ntmps34
    repeat' (first | go_values | go_skip | go_guarded | go_step | go_upon)
    refine HC.out.mono ?_
    rintro x W ⟨rfl, hb⟩
    have cb0 : W.cell? ⟨w.heap.size, 15, none⟩ = some (.int .i64 p.sheet) := (HB.out.2.below hb (by simp)).cell 15
    dsimp only
    repeat' (first | go_values | go_skip | go_guarded | go_step | go_upon)
    refine (HW.out _).mono ?_
    rintro x W' ⟨rfl, rfl⟩
    dsimp only
    cases bb
    · repeat' (first | go_values | go_skip | go_guarded | go_step | go_upon)
      go_ret
      exact ⟨by rw [HE.out]; rfl, HB.out.1.trans (hb.mono (by simp))⟩
    · repeat' (first | go_values | go_skip | go_guarded | go_step | go_upon)
      go_ret
      exact ⟨by rw [HE.out]; rfl, HB.out.1.trans (hb.mono (by simp))⟩
  · have hc' : (cc == 0) = false := by simpa using hc
    have hc2 : (cc != 0) = true := by simpa using hc
    go_enter Tryd.func34, Tryd.ntmps34
    repeat' (first | go_values | go_skip | go_guarded | go_step | go_upon)
    refine HC.out.mono ?_
    rintro x W ⟨rfl, hb⟩
    dsimp only
    repeat' (first | go_values | go_skip | go_guarded | go_step | go_upon)
    go_ret
    exact ⟨by rw [cpE, if_neg hc]; rfl, HB.out.1.trans (hb.mono (by simp))⟩
end Go.Proofs.YtofbmlfpkcociaaDoor
