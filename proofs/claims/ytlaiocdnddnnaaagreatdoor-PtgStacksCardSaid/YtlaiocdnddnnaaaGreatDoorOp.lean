/- val.Same, val.Check of any value by their contracts. Condition: utf8.ValidString keeps its contract; a text's length is one. -/
/- expr's isWithin, checkConst, checkPlace, checkOp, by their contracts. Conditions: utf8.ValidString keeps its contract; a text's length is one. -/
/- expr.checkOp by its contract. Condition: the Kind is one of those that have an Op or Kids. -/
import Derived.Test.YtlaiocdnddnnaaaGreatDoorV1
import Derived.Test.YtlaiocdnddnnaaaGreatDoorApp
import Derived.Test.YtlaiocdnddnnaaaGreatDoorAc
set_option linter.unusedVariables false
set_option linter.unusedSimpArgs false
namespace Go.Proofs.YtlaiocdnddnnaaaGreatDoor
open Go.RowKit
def sameB (k m s : Int) (t : ByteArray) (b : Bool) (e : Int) (k' m' s' : Int) (t' : ByteArray) (b' : Bool) (e' : Int) : Bool := decide (k = k' ∧ m = m' ∧ s = s' ∧ t = t' ∧ b = b' ∧ e = e')
theorem toList_inj {s t : ByteArray} (h : s.toList = t.toList) : s = t := by
  rw [ByteArray.toList_eq, ByteArray.toList_eq] at h; exact ByteArray.ext (Array.toList_inj.1 h)
theorem same_any {w : World} (k m s : Int) (t : ByteArray) (b : Bool) (e : Int) (k' m' s' : Int) (t' : ByteArray) (b' : Bool) (e' : Int) :
    Calls Tryz.prog 89 #[.agg #[.int .i64 k, .int .i64 m, .int .i64 s, .string t, .bool b, .int .i64 e], .agg #[.int .i64 k', .int .i64 m', .int .i64 s', .string t', .bool b', .int .i64 e']] w fun x w' => x = .returned (.bool (sameB k m s t b e k' m' s' t' b' e')) ∧ Below w.heap.size w w' := by
  obtain ⟨V, hV⟩ : ∃ V, sameB k m s t b e k' m' s' t' b' e' = V := ⟨_, rfl⟩
  rw [hV]
  cases V with
  | true =>
    obtain ⟨rfl, rfl, rfl, rfl, rfl, rfl⟩ := of_decide_eq_true hV; clear hV; go_enter Tryz.func89, Tryz.ntmps89; go_wp2; go_ret; exact ⟨rfl, bel1 _ _ _⟩
  | false =>
    have h := of_decide_eq_false hV; clear hV; go_enter Tryz.func89, Tryz.ntmps89; go_wp2
    all_goals first
      | (go_ret; exact ⟨rfl, bel1 _ _ _⟩)
      | (exfalso; apply h; refine ⟨?_, ?_, ?_, toList_inj ?_, ?_, ?_⟩ <;> assumption)
def ckV (k m s : Int) (t : ByteArray) (b : Bool) (e : Int) : Int :=
  if k = 1 then (if t.toList = [] ∧ b = false ∧ e = 0 then ckE m s else 1)
  else if k = 2 then (if m = 0 ∧ s = 0 ∧ b = false ∧ e = 0 then uE t.data.toList else 1)
  else if k = 3 then (if m = 0 ∧ s = 0 ∧ t.toList = [] ∧ e = 0 then 0 else 1)
  else if k = 4 then (if m = 0 ∧ s = 0 ∧ t.toList = [] ∧ b = false then feE e else 1)
  else if k = 0 then (if m = 0 ∧ s = 0 ∧ t.toList = [] ∧ b = false ∧ e = 0 then 0 else 1) else 1
theorem empty_text {t : ByteArray} (h : t.toList = []) : t = ⟨#[]⟩ := toList_inj (by rw [h, ByteArray.toList_eq])
theorem check_v {w : World} (HV : Val w) (k m s : Int) (t : ByteArray) (b : Bool) (e : Int) (ht : t.size ≤ 140737488355328) :
    Calls Tryz.prog 90 #[.agg #[.int .i64 k, .int .i64 m, .int .i64 s, .string t, .bool b, .int .i64 e]] w fun x w' => x = .returned (.int .i64 (ckV k m s t b e)) ∧ Below w.heap.size w w' := by
  unfold ckV
  by_cases h1 : k = 1
  · subst h1; rw [if_pos rfl]
    by_cases h : t.toList = [] ∧ b = false ∧ e = 0
    · rw [if_pos h]; obtain ⟨h0, rfl, rfl⟩ := h; rw [empty_text h0]; exact check_num m s
    · rw [if_neg h]; exact check_bad_num m s t b e h
  rw [if_neg h1]
  by_cases h2 : k = 2
  · subst h2; rw [if_pos rfl]
    by_cases h : m = 0 ∧ s = 0 ∧ b = false ∧ e = 0
    · rw [if_pos h]; obtain ⟨rfl, rfl, rfl, rfl⟩ := h; exact check_str HV t ht
    · rw [if_neg h]; exact check_bad_str m s t b e h
  rw [if_neg h2]
  by_cases h3 : k = 3
  · subst h3; rw [if_pos rfl]
    by_cases h : m = 0 ∧ s = 0 ∧ t.toList = [] ∧ e = 0
    · rw [if_pos h]; obtain ⟨rfl, rfl, h0, rfl⟩ := h; rw [empty_text h0]; exact check_bool b
    · rw [if_neg h]; exact check_bad_bool m s t b e h
  rw [if_neg h3]
  by_cases h4 : k = 4
  · subst h4; rw [if_pos rfl]
    by_cases h : m = 0 ∧ s = 0 ∧ t.toList = [] ∧ b = false
    · rw [if_pos h]; obtain ⟨rfl, rfl, h0, rfl⟩ := h; rw [empty_text h0]; exact check_err e
    · rw [if_neg h]; exact check_bad_err m s t b e h
  rw [if_neg h4]
  by_cases h0 : k = 0
  · subst h0; rw [if_pos rfl]
    by_cases h : m = 0 ∧ s = 0 ∧ t.toList = [] ∧ b = false ∧ e = 0
    · rw [if_pos h]; obtain ⟨rfl, rfl, h0, rfl, rfl⟩ := h; rw [empty_text h0]; exact check_blank
    · rw [if_neg h]; exact check_bad_blank m s t b e h
  rw [if_neg h0]
  by_cases h : m = 0 ∧ s = 0 ∧ t.toList = [] ∧ b = false ∧ e = 0
  · obtain ⟨rfl, rfl, hh, rfl, rfl⟩ := h; rw [empty_text hh]; exact check_none k h0 h1 h2 h3 h4
  · exact check_bad_none k m s t b e h1 h2 h3 h4 h
end Go.Proofs.YtlaiocdnddnnaaaGreatDoor
namespace Go.Proofs.YtlaiocdnddnnaaaGreatDoor
open Go.RowKit
theorem ewithin_any {w : World} (n a b : Int) : Calls Tryz.prog 92 #[.int .i64 n, .int .i64 a, .int .i64 b] w fun e W => e = .returned (.bool (decide (a ≤ n ∧ n ≤ b))) ∧ W = w := by
  by_cases h1 : a ≤ n
  · by_cases h2 : n ≤ b
    · have HV := Lib.hid (show decide (a ≤ n ∧ n ≤ b) = true from decide_eq_true ⟨h1, h2⟩); go_enter Tryz.func92, Tryz.ntmps92
      repeat' (first | go_values | go_skip | go_guarded | go_step | go_upon)
      go_ret; exact ⟨by rw [HV.out]; rfl, rfl⟩
    · have HV := Lib.hid (show decide (a ≤ n ∧ n ≤ b) = false from decide_eq_false fun h => h2 h.2); go_enter Tryz.func92, Tryz.ntmps92
      repeat' (first | go_values | go_skip | go_guarded | go_step | go_upon)
      go_ret; exact ⟨by rw [HV.out]; rfl, rfl⟩
  · have HV := Lib.hid (show decide (a ≤ n ∧ n ≤ b) = false from decide_eq_false fun h => h1 h.1); go_enter Tryz.func92, Tryz.ntmps92
    repeat' (first | go_values | go_skip | go_guarded | go_step | go_upon)
    go_ret; exact ⟨by rw [HV.out]; rfl, rfl⟩
def ccE (c k : Int) : Int := if c = 0 then (if k = 0 then 1 else 0) else c
set_option maxRecDepth 20000 in
theorem checkConst_any {w : World} (HV : Val w) (k m s : Int) (t : ByteArray) (b : Bool) (e : Int) (ht : t.size ≤ 140737488355328) :
    Calls Tryz.prog 65 #[.agg #[.int .i64 k, .int .i64 m, .int .i64 s, .string t, .bool b, .int .i64 e]] w fun x W => x = .returned (.int .i64 (ccE (ckV k m s t b e) k)) ∧ Below w.heap.size w W := by
  have hb1 := bel0 w (.cells #[.int .i64 k, .int .i64 m, .int .i64 s, .string t, .bool b, .int .i64 e] 41); have hk1 := Bk.new w 41 #[.int .i64 k, .int .i64 m, .int .i64 s, .string t, .bool b, .int .i64 e]; have HC := Lib.hid (check_v (HV.below hb1) k m s t b e ht); have HB := Lib.hid (And.intro hb1 hk1); generalize ckV k m s t b e = cc at *; clear hb1 hk1 HV
  by_cases hc : cc = 0
  · subst hc
    by_cases hk : k = 0
    · subst hk; go_enter Tryz.func65, Tryz.ntmps65
      repeat' (first | go_values | go_skip | go_guarded | go_step | go_upon)
      refine HC.out.mono ?_; rintro x W ⟨rfl, hb⟩; have cb0 : W.cell? ⟨w.heap.size, 0, none⟩ = some (.int .i64 0) := (HB.out.2.below hb (by simp)).cell 0; dsimp only
      repeat' (first | go_values | go_skip | go_guarded | go_step | go_upon)
      go_ret; exact ⟨rfl, HB.out.1.trans (hb.mono (by simp))⟩
    · go_enter Tryz.func65, Tryz.ntmps65
      repeat' (first | go_values | go_skip | go_guarded | go_step | go_upon)
      refine HC.out.mono ?_; rintro x W ⟨rfl, hb⟩; have cb0 : W.cell? ⟨w.heap.size, 0, none⟩ = some (.int .i64 k) := (HB.out.2.below hb (by simp)).cell 0; have hk' : (k == 0) = false := by simpa using hk
      dsimp only
      repeat' (first | go_values | go_skip | go_guarded | go_step | go_upon)
      go_ret; exact ⟨by rw [ccE, if_pos rfl, if_neg hk]; rfl, HB.out.1.trans (hb.mono (by simp))⟩
  · have hc' : (cc == 0) = false := by simpa using hc
    have hc2 : (cc != 0) = true := by simpa using hc
    go_enter Tryz.func65, Tryz.ntmps65
    repeat' (first | go_values | go_skip | go_guarded | go_step | go_upon)
    refine HC.out.mono ?_; rintro x W ⟨rfl, hb⟩; dsimp only
    repeat' (first | go_values | go_skip | go_guarded | go_step | go_upon)
    go_ret; exact ⟨by rw [ccE, if_neg hc]; rfl, HB.out.1.trans (hb.mono (by simp))⟩
def cpE (c s : Int) : Int := if c = 0 then (if 0 ≤ s ∧ s ≤ 7 then 0 else 1) else c
set_option maxRecDepth 20000 in
theorem checkPlace_any {w : World} (p : Pay) (k : Value) :
    Calls Tryz.prog 66 #[.agg (ec p k).toArray] w fun x W => x = .returned (.int .i64 (cpE (ckA p.r1 p.c1 p.r2 p.c2) p.sheet)) ∧ Below w.heap.size w W := by
  have hb1 := bel0 w (.cells (ec p k).toArray 47); have hk1 := Bk.new w 47 (ec p k).toArray; have c7 : (w.alloc (.cells (ec p k).toArray 47)).cell? ⟨w.heap.size, 7, none⟩ = some (.int .i64 p.r1) := hk1.cell 7; have c8 : (w.alloc (.cells (ec p k).toArray 47)).cell? ⟨w.heap.size, 8, none⟩ = some (.int .i64 p.c1) := hk1.cell 8; have c9 : (w.alloc (.cells (ec p k).toArray 47)).cell? ⟨w.heap.size, 9, none⟩ = some (.bool p.x1) := hk1.cell 9; have c10 : (w.alloc (.cells (ec p k).toArray 47)).cell? ⟨w.heap.size, 10, none⟩ = some (.bool p.y1) := hk1.cell 10; have c11 : (w.alloc (.cells (ec p k).toArray 47)).cell? ⟨w.heap.size, 11, none⟩ = some (.int .i64 p.r2) := hk1.cell 11; have c12 : (w.alloc (.cells (ec p k).toArray 47)).cell? ⟨w.heap.size, 12, none⟩ = some (.int .i64 p.c2) := hk1.cell 12; have c13 : (w.alloc (.cells (ec p k).toArray 47)).cell? ⟨w.heap.size, 13, none⟩ = some (.bool p.x2) := hk1.cell 13; have c14 : (w.alloc (.cells (ec p k).toArray 47)).cell? ⟨w.heap.size, 14, none⟩ = some (.bool p.y2) := hk1.cell 14; have c15 : (w.alloc (.cells (ec p k).toArray 47)).cell? ⟨w.heap.size, 15, none⟩ = some (.int .i64 p.sheet) := hk1.cell 15; have HC := Lib.hid (checkArea_any (w := (w.alloc (.cells (ec p k).toArray 47))) p.r1 p.c1 p.r2 p.c2 p.x1 p.y1 p.x2 p.y2); have HB := Lib.hid (And.intro hb1 hk1); generalize ckA p.r1 p.c1 p.r2 p.c2 = cc at *; clear hb1 hk1
  by_cases hc : cc = 0
  · subst hc; have HW := Lib.hid (fun W : World => ewithin_any (w := W) p.sheet 0 7); have HE : Hid (cpE 0 p.sheet = if decide (0 ≤ p.sheet ∧ p.sheet ≤ 7) = true then 0 else 1) := Lib.hid (by rw [cpE, if_pos rfl]; simp); generalize decide (0 ≤ p.sheet ∧ p.sheet ≤ 7) = bb at *; go_enter Tryz.func66, Tryz.ntmps66
    repeat' (first | go_values | go_skip | go_guarded | go_step | go_upon)
    refine HC.out.mono ?_; rintro x W ⟨rfl, hb⟩; have cb0 : W.cell? ⟨w.heap.size, 15, none⟩ = some (.int .i64 p.sheet) := (HB.out.2.below hb (by simp)).cell 15; dsimp only
    repeat' (first | go_values | go_skip | go_guarded | go_step | go_upon)
    refine (HW.out _).mono ?_; rintro x W' ⟨rfl, rfl⟩; dsimp only
    cases bb
    · repeat' (first | go_values | go_skip | go_guarded | go_step | go_upon)
      go_ret; exact ⟨by rw [HE.out]; rfl, HB.out.1.trans (hb.mono (by simp))⟩
    · repeat' (first | go_values | go_skip | go_guarded | go_step | go_upon)
      go_ret; exact ⟨by rw [HE.out]; rfl, HB.out.1.trans (hb.mono (by simp))⟩
  · have hc' : (cc == 0) = false := by simpa using hc
    have hc2 : (cc != 0) = true := by simpa using hc
    go_enter Tryz.func66, Tryz.ntmps66
    repeat' (first | go_values | go_skip | go_guarded | go_step | go_upon)
    refine HC.out.mono ?_; rintro x W ⟨rfl, hb⟩; dsimp only
    repeat' (first | go_values | go_skip | go_guarded | go_step | go_upon)
    go_ret; exact ⟨by rw [cpE, if_neg hc]; rfl, HB.out.1.trans (hb.mono (by simp))⟩
end Go.Proofs.YtlaiocdnddnnaaaGreatDoor
namespace Go.Proofs.YtlaiocdnddnnaaaGreatDoor
open Go.RowKit
def opB (kind op : Int) (n : Nat) : Bool :=
  if kind = 6 then decide (0 ≤ op ∧ op ≤ 1023) else if kind = 7 then decide (1 ≤ op ∧ op ≤ 3) && decide (n = 1) else if kind = 8 then decide (1 ≤ op ∧ op ≤ 12) && decide (n = 2)
  else if kind = 9 then decide (0 ≤ op ∧ op ≤ 29) && decide (n ≤ 30) else decide (n = 1)
def opE (kind op : Int) (n : Nat) : Int := if opB kind op n = true then 0 else 1
set_option maxRecDepth 20000 in
theorem checkOp_6 {w : World} {p : Pay} (hk : p.kind = 6) (A : Option Addr) (n c : Nat) :
    Calls Tryz.prog 67 #[.agg (ec p (.slice A n c)).toArray] w fun x W => x = .returned (.int .i64 (opE 6 p.op n)) ∧ Below w.heap.size w W := by
  have hb1 := bel0 w (.cells (ec p (.slice A n c)).toArray 47); have hk1 := Bk.new w 47 (ec p (.slice A n c)).toArray; have c0 : (w.alloc (.cells (ec p (.slice A n c)).toArray 47)).cell? ⟨w.heap.size, 0, none⟩ = some (.int .i64 6) := by rw [← hk]; exact hk1.cell 0
  have c16 : (w.alloc (.cells (ec p (.slice A n c)).toArray 47)).cell? ⟨w.heap.size, 16, none⟩ = some (.int .i64 p.op) := hk1.cell 16; have c17 : (w.alloc (.cells (ec p (.slice A n c)).toArray 47)).cell? ⟨w.heap.size, 17, none⟩ = some (.slice A n c) := hk1.cell 17; have HB := Lib.hid hb1; have HW := Lib.hid (fun W : World => ewithin_any (w := W) p.op 0 1023); clear hb1 hk1; generalize p.op = op at *; have HE : Hid (opE 6 op n = if decide (0 ≤ op ∧ op ≤ 1023) = true then 0 else 1) := Lib.hid rfl; generalize decide (0 ≤ op ∧ op ≤ 1023) = bb at *; go_enter Tryz.func67, Tryz.ntmps67
  repeat' (first | go_values | go_skip | go_guarded | go_step | go_upon)
  refine (HW.out _).mono ?_; rintro x W' ⟨rfl, rfl⟩; dsimp only
  cases bb
  · repeat' (first | go_values | go_skip | go_guarded | go_step | go_upon)
    go_ret; exact ⟨by rw [HE.out]; rfl, HB.out⟩
  · repeat' (first | go_values | go_skip | go_guarded | go_step | go_upon)
    go_ret; exact ⟨by rw [HE.out]; rfl, HB.out⟩
set_option maxRecDepth 20000 in
theorem checkOp_7 {w : World} {p : Pay} (hk : p.kind = 7) (A : Option Addr) (n c : Nat) :
    Calls Tryz.prog 67 #[.agg (ec p (.slice A n c)).toArray] w fun x W => x = .returned (.int .i64 (opE 7 p.op n)) ∧ Below w.heap.size w W := by
  have hb1 := bel0 w (.cells (ec p (.slice A n c)).toArray 47); have hk1 := Bk.new w 47 (ec p (.slice A n c)).toArray; have c0 : (w.alloc (.cells (ec p (.slice A n c)).toArray 47)).cell? ⟨w.heap.size, 0, none⟩ = some (.int .i64 7) := by rw [← hk]; exact hk1.cell 0
  have c16 : (w.alloc (.cells (ec p (.slice A n c)).toArray 47)).cell? ⟨w.heap.size, 16, none⟩ = some (.int .i64 p.op) := hk1.cell 16; have c17 : (w.alloc (.cells (ec p (.slice A n c)).toArray 47)).cell? ⟨w.heap.size, 17, none⟩ = some (.slice A n c) := hk1.cell 17; have HB := Lib.hid hb1; have HW := Lib.hid (fun W : World => ewithin_any (w := W) p.op 1 3); clear hb1 hk1; generalize p.op = op at *; have HE : Hid (opE 7 op n = if (decide (1 ≤ op ∧ op ≤ 3) && decide (n = 1)) = true then 0 else 1) := Lib.hid rfl; generalize decide (1 ≤ op ∧ op ≤ 3) = bb at *
  by_cases hn : n = 1
  · have hn2 : ((n : Int) == 1) = true := by simpa using (by omega : (n : Int) = 1)
    rw [decide_eq_true hn, Bool.and_true] at HE; clear hn; go_enter Tryz.func67, Tryz.ntmps67
    repeat' (first | go_values | go_skip | go_guarded | go_step | go_upon)
    refine (HW.out _).mono ?_; rintro x W' ⟨rfl, rfl⟩; dsimp only
    cases bb
    · repeat' (first | go_values | go_skip | go_guarded | go_step | go_upon)
      go_ret; exact ⟨by rw [HE.out]; rfl, HB.out⟩
    · repeat' (first | go_values | go_skip | go_guarded | go_step | go_upon)
      go_ret; exact ⟨by rw [HE.out]; rfl, HB.out⟩
  · have hn2 : ((n : Int) == 1) = false := by simpa using (by omega : ¬ (n : Int) = 1)
    rw [decide_eq_false hn, Bool.and_false] at HE; clear hn; go_enter Tryz.func67, Tryz.ntmps67
    repeat' (first | go_values | go_skip | go_guarded | go_step | go_upon)
    refine (HW.out _).mono ?_; rintro x W' ⟨rfl, rfl⟩; dsimp only
    cases bb
    · repeat' (first | go_values | go_skip | go_guarded | go_step | go_upon)
      go_ret; exact ⟨by rw [HE.out]; rfl, HB.out⟩
    · repeat' (first | go_values | go_skip | go_guarded | go_step | go_upon)
      go_ret; exact ⟨by rw [HE.out]; rfl, HB.out⟩
set_option maxRecDepth 20000 in
theorem checkOp_8 {w : World} {p : Pay} (hk : p.kind = 8) (A : Option Addr) (n c : Nat) :
    Calls Tryz.prog 67 #[.agg (ec p (.slice A n c)).toArray] w fun x W => x = .returned (.int .i64 (opE 8 p.op n)) ∧ Below w.heap.size w W := by
  have hb1 := bel0 w (.cells (ec p (.slice A n c)).toArray 47); have hk1 := Bk.new w 47 (ec p (.slice A n c)).toArray; have c0 : (w.alloc (.cells (ec p (.slice A n c)).toArray 47)).cell? ⟨w.heap.size, 0, none⟩ = some (.int .i64 8) := by rw [← hk]; exact hk1.cell 0
  have c16 : (w.alloc (.cells (ec p (.slice A n c)).toArray 47)).cell? ⟨w.heap.size, 16, none⟩ = some (.int .i64 p.op) := hk1.cell 16; have c17 : (w.alloc (.cells (ec p (.slice A n c)).toArray 47)).cell? ⟨w.heap.size, 17, none⟩ = some (.slice A n c) := hk1.cell 17; have HB := Lib.hid hb1; have HW := Lib.hid (fun W : World => ewithin_any (w := W) p.op 1 12); clear hb1 hk1; generalize p.op = op at *; have HE : Hid (opE 8 op n = if (decide (1 ≤ op ∧ op ≤ 12) && decide (n = 2)) = true then 0 else 1) := Lib.hid rfl; generalize decide (1 ≤ op ∧ op ≤ 12) = bb at *
  by_cases hn : n = 2
  · have hn2 : ((n : Int) == 2) = true := by simpa using (by omega : (n : Int) = 2)
    rw [decide_eq_true hn, Bool.and_true] at HE; clear hn; go_enter Tryz.func67, Tryz.ntmps67
    repeat' (first | go_values | go_skip | go_guarded | go_step | go_upon)
    refine (HW.out _).mono ?_; rintro x W' ⟨rfl, rfl⟩; dsimp only
    cases bb
    · repeat' (first | go_values | go_skip | go_guarded | go_step | go_upon)
      go_ret; exact ⟨by rw [HE.out]; rfl, HB.out⟩
    · repeat' (first | go_values | go_skip | go_guarded | go_step | go_upon)
      go_ret; exact ⟨by rw [HE.out]; rfl, HB.out⟩
  · have hn2 : ((n : Int) == 2) = false := by simpa using (by omega : ¬ (n : Int) = 2)
    rw [decide_eq_false hn, Bool.and_false] at HE; clear hn; go_enter Tryz.func67, Tryz.ntmps67
    repeat' (first | go_values | go_skip | go_guarded | go_step | go_upon)
    refine (HW.out _).mono ?_; rintro x W' ⟨rfl, rfl⟩; dsimp only
    cases bb
    · repeat' (first | go_values | go_skip | go_guarded | go_step | go_upon)
      go_ret; exact ⟨by rw [HE.out]; rfl, HB.out⟩
    · repeat' (first | go_values | go_skip | go_guarded | go_step | go_upon)
      go_ret; exact ⟨by rw [HE.out]; rfl, HB.out⟩
set_option maxRecDepth 20000 in
theorem checkOp_9 {w : World} {p : Pay} (hk : p.kind = 9) (A : Option Addr) (n c : Nat) :
    Calls Tryz.prog 67 #[.agg (ec p (.slice A n c)).toArray] w fun x W => x = .returned (.int .i64 (opE 9 p.op n)) ∧ Below w.heap.size w W := by
  have hb1 := bel0 w (.cells (ec p (.slice A n c)).toArray 47); have hk1 := Bk.new w 47 (ec p (.slice A n c)).toArray; have c0 : (w.alloc (.cells (ec p (.slice A n c)).toArray 47)).cell? ⟨w.heap.size, 0, none⟩ = some (.int .i64 9) := by rw [← hk]; exact hk1.cell 0
  have c16 : (w.alloc (.cells (ec p (.slice A n c)).toArray 47)).cell? ⟨w.heap.size, 16, none⟩ = some (.int .i64 p.op) := hk1.cell 16; have c17 : (w.alloc (.cells (ec p (.slice A n c)).toArray 47)).cell? ⟨w.heap.size, 17, none⟩ = some (.slice A n c) := hk1.cell 17; have HB := Lib.hid hb1; have HW := Lib.hid (fun W : World => ewithin_any (w := W) p.op 0 29); clear hb1 hk1; generalize p.op = op at *; have HE : Hid (opE 9 op n = if (decide (0 ≤ op ∧ op ≤ 29) && decide (n ≤ 30)) = true then 0 else 1) := Lib.hid rfl; generalize decide (0 ≤ op ∧ op ≤ 29) = bb at *
  by_cases hn : n ≤ 30
  · have hn2 : (n : Int) ≤ 30 := by omega
    rw [decide_eq_true hn, Bool.and_true] at HE; clear hn; go_enter Tryz.func67, Tryz.ntmps67
    repeat' (first | go_values | go_skip | go_guarded | go_step | go_upon)
    refine (HW.out _).mono ?_; rintro x W' ⟨rfl, rfl⟩; dsimp only
    cases bb
    · repeat' (first | go_values | go_skip | go_guarded | go_step | go_upon)
      go_ret; exact ⟨by rw [HE.out]; rfl, HB.out⟩
    · repeat' (first | go_values | go_skip | go_guarded | go_step | go_upon)
      go_ret; exact ⟨by rw [HE.out]; rfl, HB.out⟩
  · have hn2 : ¬ (n : Int) ≤ 30 := by omega
    rw [decide_eq_false hn, Bool.and_false] at HE; clear hn; go_enter Tryz.func67, Tryz.ntmps67
    repeat' (first | go_values | go_skip | go_guarded | go_step | go_upon)
    refine (HW.out _).mono ?_; rintro x W' ⟨rfl, rfl⟩; dsimp only
    cases bb
    · repeat' (first | go_values | go_skip | go_guarded | go_step | go_upon)
      go_ret; exact ⟨by rw [HE.out]; rfl, HB.out⟩
    · repeat' (first | go_values | go_skip | go_guarded | go_step | go_upon)
      go_ret; exact ⟨by rw [HE.out]; rfl, HB.out⟩
set_option maxRecDepth 20000 in
theorem checkOp_10 {w : World} {p : Pay} (hk : p.kind = 10) (A : Option Addr) (n c : Nat) :
    Calls Tryz.prog 67 #[.agg (ec p (.slice A n c)).toArray] w fun x W => x = .returned (.int .i64 (opE 10 p.op n)) ∧ Below w.heap.size w W := by
  have hb1 := bel0 w (.cells (ec p (.slice A n c)).toArray 47); have hk1 := Bk.new w 47 (ec p (.slice A n c)).toArray; have c0 : (w.alloc (.cells (ec p (.slice A n c)).toArray 47)).cell? ⟨w.heap.size, 0, none⟩ = some (.int .i64 10) := by rw [← hk]; exact hk1.cell 0
  have c16 : (w.alloc (.cells (ec p (.slice A n c)).toArray 47)).cell? ⟨w.heap.size, 16, none⟩ = some (.int .i64 p.op) := hk1.cell 16; have c17 : (w.alloc (.cells (ec p (.slice A n c)).toArray 47)).cell? ⟨w.heap.size, 17, none⟩ = some (.slice A n c) := hk1.cell 17; have HB := Lib.hid hb1; have HE : Hid (opE 10 p.op n = if decide (n = 1) = true then 0 else 1) := Lib.hid rfl; clear hb1 hk1
  by_cases hn : n = 1
  · have hn2 : ((n : Int) == 1) = true := by simpa using (by omega : (n : Int) = 1)
    rw [decide_eq_true hn] at HE; clear hn; go_enter Tryz.func67, Tryz.ntmps67
    repeat' (first | go_values | go_skip | go_guarded | go_step | go_upon)
    go_ret; exact ⟨by rw [HE.out]; rfl, HB.out⟩
  · have hn2 : ((n : Int) == 1) = false := by simpa using (by omega : ¬ (n : Int) = 1)
    rw [decide_eq_false hn] at HE; clear hn; go_enter Tryz.func67, Tryz.ntmps67
    repeat' (first | go_values | go_skip | go_guarded | go_step | go_upon)
    go_ret; exact ⟨by rw [HE.out]; rfl, HB.out⟩
end Go.Proofs.YtlaiocdnddnnaaaGreatDoor
