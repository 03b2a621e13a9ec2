/- expr.checkOp by its contract. Condition: the Kind is one of those that have an Op or Kids. -/
import Derived.Test.YtofbmlfpkcociaaDoorCk
set_option linter.unusedVariables false
set_option linter.unusedSimpArgs false
namespace Go.Proofs.YtofbmlfpkcociaaDoor
open Go.RowKit

def opB (kind op : Int) (n : Nat) : Bool :=
  if kind = 6 then decide (0 ≤ op ∧ op ≤ 1023) else if kind = 7 then decide (1 ≤ op ∧ op ≤ 3) && decide (n = 1) else if kind = 8 then decide (1 ≤ op ∧ op ≤ 12) && decide (n = 2)
  else if kind = 9 then decide (0 ≤ op ∧ op ≤ 29) && decide (n ≤ 30) else decide (n = 1)
def opE (kind op : Int) (n : Nat) : Int := if opB kind op n = true then 0 else 1

set_option maxRecDepth 20000 in
theorem checkOp_6 {w : World} {p : Pay} (hk : p.kind = 6) (A : Option Addr) (n c : Nat) :
    Calls Tryd.prog 35 #[.agg (ec p (.slice A n c)).toArray] w fun x W => x = .returned (.int .i64 (opE 6 p.op n)) ∧ Below w.heap.size w W := by
  have hb1 := bel0 w (.cells (ec p (.slice A n c)).toArray 43)
  have hk1 := Bk.new w 43 (ec p (.slice A n c)).toArray
  have c0 : (w.alloc (.cells (ec p (.slice A n c)).toArray 43)).cell? ⟨w.heap.size, 0, none⟩ = some (.int .i64 6) := by rw [← hk]; exact hk1.cell 0
  have c16 : (w.alloc (.cells (ec p (.slice A n c)).toArray 43)).cell? ⟨w.heap.size, 16, none⟩ = some (.int .i64 p.op) := hk1.cell 16
  have c17 : (w.alloc (.cells (ec p (.slice A n c)).toArray 43)).cell? ⟨w.heap.size, 17, none⟩ = some (.slice A n c) := hk1.cell 17
  have HB := Lib.hid hb1
  have HW := Lib.hid (fun W : World => ewithin_any (w := W) p.op 0 1023)
  clear hb1 hk1
  generalize p.op = op at *
  have HE : Hid (opE 6 op n = if decide (0 ≤ op ∧ op ≤ 1023) = true then 0 else 1) := Lib.hid rfl
  generalize decide (0 ≤ op ∧ op ≤ 1023) = bb at *
  go_enter Tryd.func35, Tryd.ntmps35
  repeat' (first | go_values | go_skip | go_guarded | go_step | go_upon)
  refine (HW.out _).mono ?_
  rintro x W' ⟨rfl, rfl⟩
  dsimp only
  cases bb
  · repeat' (first | go_values | go_skip | go_guarded | go_step | go_upon)
    go_ret
    exact ⟨by rw [HE.out]; rfl, HB.out⟩
  · repeat' (first | go_values | go_skip | go_guarded | go_step | go_upon)
    go_ret
    exact ⟨by rw [HE.out]; rfl, HB.out⟩

set_option maxRecDepth 20000 in
theorem checkOp_7 {w : World} {p : Pay} (hk : p.kind = 7) (A : Option Addr) (n c : Nat) :
    Calls Tryd.prog 35 #[.agg (ec p (.slice A n c)).toArray] w fun x W => x = .returned (.int .i64 (opE 7 p.op n)) ∧ Below w.heap.size w W := by
  have hb1 := bel0 w (.cells (ec p (.slice A n c)).toArray 43)
  have hk1 := Bk.new w 43 (ec p (.slice A n c)).toArray
  have c0 : (w.alloc (.cells (ec p (.slice A n c)).toArray 43)).cell? ⟨w.heap.size, 0, none⟩ = some (.int .i64 7) := by rw [← hk]; exact hk1.cell 0
  have c16 : (w.alloc (.cells (ec p (.slice A n c)).toArray 43)).cell? ⟨w.heap.size, 16, none⟩ = some (.int .i64 p.op) := hk1.cell 16
  have c17 : (w.alloc (.cells (ec p (.slice A n c)).toArray 43)).cell? ⟨w.heap.size, 17, none⟩ = some (.slice A n c) := hk1.cell 17
  have HB := Lib.hid hb1
  have HW := Lib.hid (fun W : World => ewithin_any (w := W) p.op 1 3)
  clear hb1 hk1
  generalize p.op = op at *
  have HE : Hid (opE 7 op n = if (decide (1 ≤ op ∧ op ≤ 3) && decide (n = 1)) = true then 0 else 1) := Lib.hid rfl
  generalize decide (1 ≤ op ∧ op ≤ 3) = bb at *
  by_cases hn : n = 1
  · have hn2 : ((n : Int) == 1) = true := by simpa using (by omega : (n : Int) = 1)
    rw [decide_eq_true hn, Bool.and_true] at HE
    clear hn
    go_enter Tryd.func35, Tryd.ntmps35
    repeat' (first | go_values | go_skip | go_guarded | go_step | go_upon)
    refine (HW.out _).mono ?_
    rintro x W' ⟨rfl, rfl⟩
    dsimp only
    cases bb
    · repeat' (first | go_values | go_skip | go_guarded | go_step | go_upon)
      go_ret
      exact ⟨by rw [HE.out]; rfl, HB.out⟩
    · repeat' (first | go_values | go_skip | go_guarded | go_step | go_upon)
      go_ret
      exact ⟨by rw [HE.out]; rfl, HB.out⟩
  · have hn2 : ((n : Int) == 1) = false := by simpa using (by omega : ¬ (n : Int) = 1)
    rw [decide_eq_false hn, Bool.and_false] at HE
    clear hn
    go_enter Tryd.func35, Tryd.ntmps35
    repeat' (first | go_values | go_skip | go_guarded | go_step | go_upon)
    refine (HW.out _).mono ?_
    rintro x W' ⟨rfl, rfl⟩
    dsimp only
    cases bb
    · repeat' (first | go_values | go_skip | go_guarded | go_step | go_upon)
      go_ret
      exact ⟨by rw [HE.out]; rfl, HB.out⟩
    · repeat' (first | go_values | go_skip | go_guarded | go_step | go_upon)
      go_ret
      exact ⟨by rw [HE.out]; rfl, HB.out⟩

set_option maxRecDepth 20000 in
theorem checkOp_8 {w : World} {p : Pay} (hk : p.kind = 8) (A : Option Addr) (n c : Nat) :
    Calls Tryd.prog 35 #[.agg (ec p (.slice A n c)).toArray] w fun x W => x = .returned (.int .i64 (opE 8 p.op n)) ∧ Below w.heap.size w W := by
  have hb1 := bel0 w (.cells (ec p (.slice A n c)).toArray 43)
  have hk1 := Bk.new w 43 (ec p (.slice A n c)).toArray
  have c0 : (w.alloc (.cells (ec p (.slice A n c)).toArray 43)).cell? ⟨w.heap.size, 0, none⟩ = some (.int .i64 8) := by rw [← hk]; exact hk1.cell 0
  have c16 : (w.alloc (.cells (ec p (.slice A n c)).toArray 43)).cell? ⟨w.heap.size, 16, none⟩ = some (.int .i64 p.op) := hk1.cell 16
  have c17 : (w.alloc (.cells (ec p (.slice A n c)).toArray 43)).cell? ⟨w.heap.size, 17, none⟩ = some (.slice A n c) := hk1.cell 17
  have HB := Lib.hid hb1
  have HW := Lib.hid (fun W : World => ewithin_any (w := W) p.op 1 12)
  clear hb1 hk1
  generalize p.op = op at *
  have HE : Hid (opE 8 op n = if (decide (1 ≤ op ∧ op ≤ 12) && decide (n = 2)) = true then 0 else 1) := Lib.hid rfl
  generalize decide (1 ≤ op ∧ op ≤ 12) = bb at *
  by_cases hn : n = 2
  · have hn2 : ((n : Int) == 2) = true := by simpa using (by omega : (n : Int) = 2)
    rw [decide_eq_true hn, Bool.and_true] at HE
    clear hn
    go_enter Tryd.func35, Tryd.ntmps35
    repeat' (first | go_values | go_skip | go_guarded | go_step | go_upon)
    refine (HW.out _).mono ?_
    rintro x W' ⟨rfl, rfl⟩
    dsimp only
    cases bb
    · repeat' (first | go_values | go_skip | go_guarded | go_step | go_upon)
      go_ret
      exact ⟨by rw [HE.out]; rfl, HB.out⟩
    · repeat' (first | go_values | go_skip | go_guarded | go_step | go_upon)
      go_ret
      exact ⟨by rw [HE.out]; rfl, HB.out⟩
  · have hn2 : ((n : Int) == 2) = false := by simpa using (by omega : ¬ (n : Int) = 2)
    rw [decide_eq_false hn, Bool.and_false] at HE
    clear hn
    go_enter Tryd.func35, Tryd.ntmps35
    repeat' (first | go_values | go_skip | go_guarded | go_step | go_upon)
    refine (HW.out _).mono ?_
    rintro x W' ⟨rfl, rfl⟩
    dsimp only
    cases bb
    · repeat' (first | go_values | go_skip | go_guarded | go_step | go_upon)
      go_ret
      exact ⟨by rw [HE.out]; rfl, HB.out⟩
    · repeat' (first | go_values | go_skip | go_guarded | go_step | go_upon)
      go_ret
      exact ⟨by rw [HE.out]; rfl, HB.out⟩

set_option maxRecDepth 20000 in
theorem checkOp_9 {w : World} {p : Pay} (hk : p.kind = 9) (A : Option Addr) (n c : Nat) :
    Calls Tryd.prog 35 #[.agg (ec p (.slice A n c)).toArray] w fun x W => x = .returned (.int .i64 (opE 9 p.op n)) ∧ Below w.heap.size w W := by
  have hb1 := bel0 w (.cells (ec p (.slice A n c)).toArray 43)
  have hk1 := Bk.new w 43 (ec p (.slice A n c)).toArray
  have c0 : (w.alloc (.cells (ec p (.slice A n c)).toArray 43)).cell? ⟨w.heap.size, 0, none⟩ = some (.int .i64 9) := by rw [← hk]; exact hk1.cell 0
  have c16 : (w.alloc (.cells (ec p (.slice A n c)).toArray 43)).cell? ⟨w.heap.size, 16, none⟩ = some (.int .i64 p.op) := hk1.cell 16
  have c17 : (w.alloc (.cells (ec p (.slice A n c)).toArray 43)).cell? ⟨w.heap.size, 17, none⟩ = some (.slice A n c) := hk1.cell 17
  have HB := Lib.hid hb1
  have HW := Lib.hid (fun W : World => ewithin_any (w := W) p.op 0 29)
  clear hb1 hk1
  generalize p.op = op at *
  have HE : Hid (opE 9 op n = if (decide (0 ≤ op ∧ op ≤ 29) && decide (n ≤ 30)) = true then 0 else 1) := Lib.hid rfl
  generalize decide (0 ≤ op ∧ op ≤ 29) = bb at *
  by_cases hn : n ≤ 30
  · have hn2 : (n : Int) ≤ 30 := by omega
    rw [decide_eq_true hn, Bool.and_true] at HE
    clear hn
    go_enter Tryd.func35, Tryd.ntmps35
    repeat' (first | go_values | go_skip | go_guarded | go_step | go_upon)
    refine (HW.out _).mono ?_
    rintro x W' ⟨rfl, rfl⟩
    dsimp only
    cases bb
    · repeat' (first | go_values | go_skip | go_guarded | go_step | go_upon)
      go_ret
      exact ⟨by rw [HE.out]; rfl, HB.out⟩
    · repeat' (first | go_values | go_skip | go_guarded | go_step | go_upon)
      go_ret
      exact ⟨by rw [HE.out]; rfl, HB.out⟩
  · have hn2 : ¬ (n : Int) ≤ 30 := by omega
    rw [decide_eq_false hn, Bool.and_false] at HE
    clear hn
    go_enter Tryd.func35, Tryd.ntmps35
    repeat' (first | go_values | go_skip | go_guarded | go_step | go_upon)
    refine (HW.out _).mono ?_
    rintro x W' ⟨rfl, rfl⟩
    dsimp only
    cases bb
    · repeat' (first | go_values | go_skip | go_guarded | go_step | go_upon)
      go_ret
      exact ⟨by rw [HE.out]; rfl, HB.out⟩
    · repeat' (first | go_values | go_skip | go_guarded | go_step | go_upon)
      go_ret
      exact ⟨by rw [HE.out]; rfl, HB.out⟩

set_option maxRecDepth 20000 in
theorem checkOp_10 {w : World} {p : Pay} (hk : p.kind = 10) (A : Option Addr) (n c : Nat) :
    Calls Tryd.prog 35 #[.agg (ec p (.slice A n c)).toArray] w fun x W => x = .returned (.int .i64 (opE 10 p.op n)) ∧ Below w.heap.size w W := by
  have hb1 := bel0 w (.cells (ec p (.slice A n c)).toArray 43)
  have hk1 := Bk.new w 43 (ec p (.slice A n c)).toArray
  have c0 : (w.alloc (.cells (ec p (.slice A n c)).toArray 43)).cell? ⟨w.heap.size, 0, none⟩ = some (.int .i64 10) := by rw [← hk]; exact hk1.cell 0
  have c16 : (w.alloc (.cells (ec p (.slice A n c)).toArray 43)).cell? ⟨w.heap.size, 16, none⟩ = some (.int .i64 p.op) := hk1.cell 16
  have c17 : (w.alloc (.cells (ec p (.slice A n c)).toArray 43)).cell? ⟨w.heap.size, 17, none⟩ = some (.slice A n c) := hk1.cell 17
  have HB := Lib.hid hb1
  have HE : Hid (opE 10 p.op n = if decide (n = 1) = true then 0 else 1) := Lib.hid rfl
  clear hb1 hk1
  by_cases hn : n = 1
  · have hn2 : ((n : Int) == 1) = true := by simpa using (by omega : (n : Int) = 1)
    rw [decide_eq_true hn] at HE
    clear hn
    go_enter Tryd.func35, Tryd.ntmps35
    repeat' (first | go_values | go_skip | go_guarded | go_step | go_upon)
    go_ret
    exact ⟨by rw [HE.out]; rfl, HB.out⟩
  · have hn2 : ((n : Int) == 1) = false := by simpa using (by omega : ¬ (n : Int) = 1)
    rw [decide_eq_false hn] at HE
    clear hn
    go_enter Tryd.func35, Tryd.ntmps35
    repeat' (first | go_values | go_skip | go_guarded | go_step | go_upon)
    go_ret
    exact ⟨by rw [HE.out]; rfl, HB.out⟩
end Go.Proofs.YtofbmlfpkcociaaDoor
