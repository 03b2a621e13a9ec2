/- expr.alike by its contract. No condition. -/
import Derived.Test.YtofbmlfpkcociaaDoorOp
set_option linter.unusedVariables false
set_option linter.unusedSimpArgs false
namespace Go.Proofs.YtofbmlfpkcociaaDoor
open Go.RowKit

def areaB (p q : Pay) : Bool := decide (p.r1 = q.r1 ∧ p.c1 = q.c1 ∧ p.x1 = q.x1 ∧ p.y1 = q.y1 ∧ p.r2 = q.r2 ∧ p.c2 = q.c2 ∧ p.x2 = q.x2 ∧ p.y2 = q.y2)
def valB (p q : Pay) : Bool := sameB p.vk p.vm p.vs p.vt p.vb p.ve q.vk q.vm q.vs q.vt q.vb q.ve
def alikeB (p q : Pay) (n m : Nat) : Bool := decide (p.kind = q.kind) && (valB p q && (areaB p q && (decide (p.sheet = q.sheet) && (decide (p.op = q.op) && decide (n = m)))))
theorem alike_iff {p q : Pay} {n m : Nat} : alikeB p q n m = true ↔ p = q ∧ n = m := by
  obtain ⟨a0, a1, a2, a3, a4, a5, a6, a7, a8, a9, a10, a11, a12, a13, a14, a15, a16⟩ := p
  obtain ⟨b0, b1, b2, b3, b4, b5, b6, b7, b8, b9, b10, b11, b12, b13, b14, b15, b16⟩ := q
  simp only [alikeB, valB, areaB, sameB, Bool.and_eq_true, decide_eq_true_eq, Pay.mk.injEq]
  constructor
  · rintro ⟨h0, ⟨h1, h2, h3, h4, h5, h6⟩, ⟨h7, h8, h9, h10, h11, h12, h13, h14⟩, h15, h16, h17⟩
    exact ⟨⟨h0, h1, h2, h3, h4, h5, h6, h7, h8, h9, h10, h11, h12, h13, h14, h15, h16⟩, h17⟩
  · rintro ⟨⟨h0, h1, h2, h3, h4, h5, h6, h7, h8, h9, h10, h11, h12, h13, h14, h15, h16⟩, h17⟩
    exact ⟨h0, ⟨h1, h2, h3, h4, h5, h6⟩, ⟨h7, h8, h9, h10, h11, h12, h13, h14⟩, h15, h16, h17⟩

set_option maxRecDepth 20000 in
set_option maxHeartbeats 4000000 in
theorem alike_0 {w : World} {p q : Pay} (A A' : Option Addr) (n c m c' : Nat) (h0 : (p.kind == q.kind) = false) :
    Calls Tryd.prog 27 #[.agg (ec p (.slice A n c)).toArray, .agg (ec q (.slice A' m c')).toArray] w fun x W => x = .returned (.bool false) ∧ Below w.heap.size w W := by
  have hb1 := bel1 w (.cells (ec p (.slice A n c)).toArray 43) (.cells (ec q (.slice A' m c')).toArray 43)
  have hk1 : Bk ((w.alloc (.cells (ec p (.slice A n c)).toArray 43)).alloc (.cells (ec q (.slice A' m c')).toArray 43)) w.heap.size 43 (ec p (.slice A n c)).toArray := (Bk.new w _ _).alloc _
  have hk2 : Bk ((w.alloc (.cells (ec p (.slice A n c)).toArray 43)).alloc (.cells (ec q (.slice A' m c')).toArray 43)) (w.heap.size + 1) 43 (ec q (.slice A' m c')).toArray := by simpa using Bk.new (w.alloc (.cells (ec p (.slice A n c)).toArray 43)) 43 (ec q (.slice A' m c')).toArray
  have c0 : ((w.alloc (.cells (ec p (.slice A n c)).toArray 43)).alloc (.cells (ec q (.slice A' m c')).toArray 43)).cell? ⟨w.heap.size, 0, none⟩ = some (.int .i64 p.kind) := hk1.cell 0
  have c1 : ((w.alloc (.cells (ec p (.slice A n c)).toArray 43)).alloc (.cells (ec q (.slice A' m c')).toArray 43)).cell? ⟨w.heap.size, 1, none⟩ = some (.int .i64 p.vk) := hk1.cell 1
  have c2 : ((w.alloc (.cells (ec p (.slice A n c)).toArray 43)).alloc (.cells (ec q (.slice A' m c')).toArray 43)).cell? ⟨w.heap.size, 2, none⟩ = some (.int .i64 p.vm) := hk1.cell 2
  have c3 : ((w.alloc (.cells (ec p (.slice A n c)).toArray 43)).alloc (.cells (ec q (.slice A' m c')).toArray 43)).cell? ⟨w.heap.size, 3, none⟩ = some (.int .i64 p.vs) := hk1.cell 3
  have c4 : ((w.alloc (.cells (ec p (.slice A n c)).toArray 43)).alloc (.cells (ec q (.slice A' m c')).toArray 43)).cell? ⟨w.heap.size, 4, none⟩ = some (.string p.vt) := hk1.cell 4
  have c5 : ((w.alloc (.cells (ec p (.slice A n c)).toArray 43)).alloc (.cells (ec q (.slice A' m c')).toArray 43)).cell? ⟨w.heap.size, 5, none⟩ = some (.bool p.vb) := hk1.cell 5
  have c6 : ((w.alloc (.cells (ec p (.slice A n c)).toArray 43)).alloc (.cells (ec q (.slice A' m c')).toArray 43)).cell? ⟨w.heap.size, 6, none⟩ = some (.int .i64 p.ve) := hk1.cell 6
  have c7 : ((w.alloc (.cells (ec p (.slice A n c)).toArray 43)).alloc (.cells (ec q (.slice A' m c')).toArray 43)).cell? ⟨w.heap.size, 7, none⟩ = some (.int .i64 p.r1) := hk1.cell 7
  have c8 : ((w.alloc (.cells (ec p (.slice A n c)).toArray 43)).alloc (.cells (ec q (.slice A' m c')).toArray 43)).cell? ⟨w.heap.size, 8, none⟩ = some (.int .i64 p.c1) := hk1.cell 8
  have c9 : ((w.alloc (.cells (ec p (.slice A n c)).toArray 43)).alloc (.cells (ec q (.slice A' m c')).toArray 43)).cell? ⟨w.heap.size, 9, none⟩ = some (.bool p.x1) := hk1.cell 9
  have c10 : ((w.alloc (.cells (ec p (.slice A n c)).toArray 43)).alloc (.cells (ec q (.slice A' m c')).toArray 43)).cell? ⟨w.heap.size, 10, none⟩ = some (.bool p.y1) := hk1.cell 10
  have c11 : ((w.alloc (.cells (ec p (.slice A n c)).toArray 43)).alloc (.cells (ec q (.slice A' m c')).toArray 43)).cell? ⟨w.heap.size, 11, none⟩ = some (.int .i64 p.r2) := hk1.cell 11
  have c12 : ((w.alloc (.cells (ec p (.slice A n c)).toArray 43)).alloc (.cells (ec q (.slice A' m c')).toArray 43)).cell? ⟨w.heap.size, 12, none⟩ = some (.int .i64 p.c2) := hk1.cell 12
  have c13 : ((w.alloc (.cells (ec p (.slice A n c)).toArray 43)).alloc (.cells (ec q (.slice A' m c')).toArray 43)).cell? ⟨w.heap.size, 13, none⟩ = some (.bool p.x2) := hk1.cell 13
  have c14 : ((w.alloc (.cells (ec p (.slice A n c)).toArray 43)).alloc (.cells (ec q (.slice A' m c')).toArray 43)).cell? ⟨w.heap.size, 14, none⟩ = some (.bool p.y2) := hk1.cell 14
  have c15 : ((w.alloc (.cells (ec p (.slice A n c)).toArray 43)).alloc (.cells (ec q (.slice A' m c')).toArray 43)).cell? ⟨w.heap.size, 15, none⟩ = some (.int .i64 p.sheet) := hk1.cell 15
  have c16 : ((w.alloc (.cells (ec p (.slice A n c)).toArray 43)).alloc (.cells (ec q (.slice A' m c')).toArray 43)).cell? ⟨w.heap.size, 16, none⟩ = some (.int .i64 p.op) := hk1.cell 16
  have c17 : ((w.alloc (.cells (ec p (.slice A n c)).toArray 43)).alloc (.cells (ec q (.slice A' m c')).toArray 43)).cell? ⟨w.heap.size, 17, none⟩ = some (.slice A n c) := hk1.cell 17
  have d0 : ((w.alloc (.cells (ec p (.slice A n c)).toArray 43)).alloc (.cells (ec q (.slice A' m c')).toArray 43)).cell? ⟨w.heap.size + 1, 0, none⟩ = some (.int .i64 q.kind) := hk2.cell 0
  have d1 : ((w.alloc (.cells (ec p (.slice A n c)).toArray 43)).alloc (.cells (ec q (.slice A' m c')).toArray 43)).cell? ⟨w.heap.size + 1, 1, none⟩ = some (.int .i64 q.vk) := hk2.cell 1
  have d2 : ((w.alloc (.cells (ec p (.slice A n c)).toArray 43)).alloc (.cells (ec q (.slice A' m c')).toArray 43)).cell? ⟨w.heap.size + 1, 2, none⟩ = some (.int .i64 q.vm) := hk2.cell 2
  have d3 : ((w.alloc (.cells (ec p (.slice A n c)).toArray 43)).alloc (.cells (ec q (.slice A' m c')).toArray 43)).cell? ⟨w.heap.size + 1, 3, none⟩ = some (.int .i64 q.vs) := hk2.cell 3
  have d4 : ((w.alloc (.cells (ec p (.slice A n c)).toArray 43)).alloc (.cells (ec q (.slice A' m c')).toArray 43)).cell? ⟨w.heap.size + 1, 4, none⟩ = some (.string q.vt) := hk2.cell 4
  have d5 : ((w.alloc (.cells (ec p (.slice A n c)).toArray 43)).alloc (.cells (ec q (.slice A' m c')).toArray 43)).cell? ⟨w.heap.size + 1, 5, none⟩ = some (.bool q.vb) := hk2.cell 5
  have d6 : ((w.alloc (.cells (ec p (.slice A n c)).toArray 43)).alloc (.cells (ec q (.slice A' m c')).toArray 43)).cell? ⟨w.heap.size + 1, 6, none⟩ = some (.int .i64 q.ve) := hk2.cell 6
  have d7 : ((w.alloc (.cells (ec p (.slice A n c)).toArray 43)).alloc (.cells (ec q (.slice A' m c')).toArray 43)).cell? ⟨w.heap.size + 1, 7, none⟩ = some (.int .i64 q.r1) := hk2.cell 7
  have d8 : ((w.alloc (.cells (ec p (.slice A n c)).toArray 43)).alloc (.cells (ec q (.slice A' m c')).toArray 43)).cell? ⟨w.heap.size + 1, 8, none⟩ = some (.int .i64 q.c1) := hk2.cell 8
  have d9 : ((w.alloc (.cells (ec p (.slice A n c)).toArray 43)).alloc (.cells (ec q (.slice A' m c')).toArray 43)).cell? ⟨w.heap.size + 1, 9, none⟩ = some (.bool q.x1) := hk2.cell 9
  have d10 : ((w.alloc (.cells (ec p (.slice A n c)).toArray 43)).alloc (.cells (ec q (.slice A' m c')).toArray 43)).cell? ⟨w.heap.size + 1, 10, none⟩ = some (.bool q.y1) := hk2.cell 10
  have d11 : ((w.alloc (.cells (ec p (.slice A n c)).toArray 43)).alloc (.cells (ec q (.slice A' m c')).toArray 43)).cell? ⟨w.heap.size + 1, 11, none⟩ = some (.int .i64 q.r2) := hk2.cell 11
  have d12 : ((w.alloc (.cells (ec p (.slice A n c)).toArray 43)).alloc (.cells (ec q (.slice A' m c')).toArray 43)).cell? ⟨w.heap.size + 1, 12, none⟩ = some (.int .i64 q.c2) := hk2.cell 12
  have d13 : ((w.alloc (.cells (ec p (.slice A n c)).toArray 43)).alloc (.cells (ec q (.slice A' m c')).toArray 43)).cell? ⟨w.heap.size + 1, 13, none⟩ = some (.bool q.x2) := hk2.cell 13
  have d14 : ((w.alloc (.cells (ec p (.slice A n c)).toArray 43)).alloc (.cells (ec q (.slice A' m c')).toArray 43)).cell? ⟨w.heap.size + 1, 14, none⟩ = some (.bool q.y2) := hk2.cell 14
  have d15 : ((w.alloc (.cells (ec p (.slice A n c)).toArray 43)).alloc (.cells (ec q (.slice A' m c')).toArray 43)).cell? ⟨w.heap.size + 1, 15, none⟩ = some (.int .i64 q.sheet) := hk2.cell 15
  have d16 : ((w.alloc (.cells (ec p (.slice A n c)).toArray 43)).alloc (.cells (ec q (.slice A' m c')).toArray 43)).cell? ⟨w.heap.size + 1, 16, none⟩ = some (.int .i64 q.op) := hk2.cell 16
  have d17 : ((w.alloc (.cells (ec p (.slice A n c)).toArray 43)).alloc (.cells (ec q (.slice A' m c')).toArray 43)).cell? ⟨w.heap.size + 1, 17, none⟩ = some (.slice A' m c') := hk2.cell 17
  have HB := Lib.hid hb1
  clear hb1 hk1 hk2
  go_enter Tryd.func27, Tryd.ntmps27
  repeat' (first | go_values | go_skip | go_guarded | go_step | go_upon)
  go_ret
  exact ⟨rfl, HB.out⟩

set_option maxRecDepth 20000 in
set_option maxHeartbeats 4000000 in
theorem alike_1 {w : World} {p q : Pay} (A A' : Option Addr) (n c m c' : Nat) (h0 : (p.kind == q.kind) = true) (h1 : valB p q = false) :
    Calls Tryd.prog 27 #[.agg (ec p (.slice A n c)).toArray, .agg (ec q (.slice A' m c')).toArray] w fun x W => x = .returned (.bool false) ∧ Below w.heap.size w W := by
  have hb1 := bel1 w (.cells (ec p (.slice A n c)).toArray 43) (.cells (ec q (.slice A' m c')).toArray 43)
  have hk1 : Bk ((w.alloc (.cells (ec p (.slice A n c)).toArray 43)).alloc (.cells (ec q (.slice A' m c')).toArray 43)) w.heap.size 43 (ec p (.slice A n c)).toArray := (Bk.new w _ _).alloc _
  have hk2 : Bk ((w.alloc (.cells (ec p (.slice A n c)).toArray 43)).alloc (.cells (ec q (.slice A' m c')).toArray 43)) (w.heap.size + 1) 43 (ec q (.slice A' m c')).toArray := by simpa using Bk.new (w.alloc (.cells (ec p (.slice A n c)).toArray 43)) 43 (ec q (.slice A' m c')).toArray
  have c0 : ((w.alloc (.cells (ec p (.slice A n c)).toArray 43)).alloc (.cells (ec q (.slice A' m c')).toArray 43)).cell? ⟨w.heap.size, 0, none⟩ = some (.int .i64 p.kind) := hk1.cell 0
  have c1 : ((w.alloc (.cells (ec p (.slice A n c)).toArray 43)).alloc (.cells (ec q (.slice A' m c')).toArray 43)).cell? ⟨w.heap.size, 1, none⟩ = some (.int .i64 p.vk) := hk1.cell 1
  have c2 : ((w.alloc (.cells (ec p (.slice A n c)).toArray 43)).alloc (.cells (ec q (.slice A' m c')).toArray 43)).cell? ⟨w.heap.size, 2, none⟩ = some (.int .i64 p.vm) := hk1.cell 2
  have c3 : ((w.alloc (.cells (ec p (.slice A n c)).toArray 43)).alloc (.cells (ec q (.slice A' m c')).toArray 43)).cell? ⟨w.heap.size, 3, none⟩ = some (.int .i64 p.vs) := hk1.cell 3
  have c4 : ((w.alloc (.cells (ec p (.slice A n c)).toArray 43)).alloc (.cells (ec q (.slice A' m c')).toArray 43)).cell? ⟨w.heap.size, 4, none⟩ = some (.string p.vt) := hk1.cell 4
  have c5 : ((w.alloc (.cells (ec p (.slice A n c)).toArray 43)).alloc (.cells (ec q (.slice A' m c')).toArray 43)).cell? ⟨w.heap.size, 5, none⟩ = some (.bool p.vb) := hk1.cell 5
  have c6 : ((w.alloc (.cells (ec p (.slice A n c)).toArray 43)).alloc (.cells (ec q (.slice A' m c')).toArray 43)).cell? ⟨w.heap.size, 6, none⟩ = some (.int .i64 p.ve) := hk1.cell 6
  have c7 : ((w.alloc (.cells (ec p (.slice A n c)).toArray 43)).alloc (.cells (ec q (.slice A' m c')).toArray 43)).cell? ⟨w.heap.size, 7, none⟩ = some (.int .i64 p.r1) := hk1.cell 7
  have c8 : ((w.alloc (.cells (ec p (.slice A n c)).toArray 43)).alloc (.cells (ec q (.slice A' m c')).toArray 43)).cell? ⟨w.heap.size, 8, none⟩ = some (.int .i64 p.c1) := hk1.cell 8
  have c9 : ((w.alloc (.cells (ec p (.slice A n c)).toArray 43)).alloc (.cells (ec q (.slice A' m c')).toArray 43)).cell? ⟨w.heap.size, 9, none⟩ = some (.bool p.x1) := hk1.cell 9
  have c10 : ((w.alloc (.cells (ec p (.slice A n c)).toArray 43)).alloc (.cells (ec q (.slice A' m c')).toArray 43)).cell? ⟨w.heap.size, 10, none⟩ = some (.bool p.y1) := hk1.cell 10
  have c11 : ((w.alloc (.cells (ec p (.slice A n c)).toArray 43)).alloc (.cells (ec q (.slice A' m c')).toArray 43)).cell? ⟨w.heap.size, 11, none⟩ = some (.int .i64 p.r2) := hk1.cell 11
  have c12 : ((w.alloc (.cells (ec p (.slice A n c)).toArray 43)).alloc (.cells (ec q (.slice A' m c')).toArray 43)).cell? ⟨w.heap.size, 12, none⟩ = some (.int .i64 p.c2) := hk1.cell 12
  have c13 : ((w.alloc (.cells (ec p (.slice A n c)).toArray 43)).alloc (.cells (ec q (.slice A' m c')).toArray 43)).cell? ⟨w.heap.size, 13, none⟩ = some (.bool p.x2) := hk1.cell 13
  have c14 : ((w.alloc (.cells (ec p (.slice A n c)).toArray 43)).alloc (.cells (ec q (.slice A' m c')).toArray 43)).cell? ⟨w.heap.size, 14, none⟩ = some (.bool p.y2) := hk1.cell 14
  have c15 : ((w.alloc (.cells (ec p (.slice A n c)).toArray 43)).alloc (.cells (ec q (.slice A' m c')).toArray 43)).cell? ⟨w.heap.size, 15, none⟩ = some (.int .i64 p.sheet) := hk1.cell 15
  have c16 : ((w.alloc (.cells (ec p (.slice A n c)).toArray 43)).alloc (.cells (ec q (.slice A' m c')).toArray 43)).cell? ⟨w.heap.size, 16, none⟩ = some (.int .i64 p.op) := hk1.cell 16
  have c17 : ((w.alloc (.cells (ec p (.slice A n c)).toArray 43)).alloc (.cells (ec q (.slice A' m c')).toArray 43)).cell? ⟨w.heap.size, 17, none⟩ = some (.slice A n c) := hk1.cell 17
  have d0 : ((w.alloc (.cells (ec p (.slice A n c)).toArray 43)).alloc (.cells (ec q (.slice A' m c')).toArray 43)).cell? ⟨w.heap.size + 1, 0, none⟩ = some (.int .i64 q.kind) := hk2.cell 0
  have d1 : ((w.alloc (.cells (ec p (.slice A n c)).toArray 43)).alloc (.cells (ec q (.slice A' m c')).toArray 43)).cell? ⟨w.heap.size + 1, 1, none⟩ = some (.int .i64 q.vk) := hk2.cell 1
  have d2 : ((w.alloc (.cells (ec p (.slice A n c)).toArray 43)).alloc (.cells (ec q (.slice A' m c')).toArray 43)).cell? ⟨w.heap.size + 1, 2, none⟩ = some (.int .i64 q.vm) := hk2.cell 2
  have d3 : ((w.alloc (.cells (ec p (.slice A n c)).toArray 43)).alloc (.cells (ec q (.slice A' m c')).toArray 43)).cell? ⟨w.heap.size + 1, 3, none⟩ = some (.int .i64 q.vs) := hk2.cell 3
  have d4 : ((w.alloc (.cells (ec p (.slice A n c)).toArray 43)).alloc (.cells (ec q (.slice A' m c')).toArray 43)).cell? ⟨w.heap.size + 1, 4, none⟩ = some (.string q.vt) := hk2.cell 4
  have d5 : ((w.alloc (.cells (ec p (.slice A n c)).toArray 43)).alloc (.cells (ec q (.slice A' m c')).toArray 43)).cell? ⟨w.heap.size + 1, 5, none⟩ = some (.bool q.vb) := hk2.cell 5
  have d6 : ((w.alloc (.cells (ec p (.slice A n c)).toArray 43)).alloc (.cells (ec q (.slice A' m c')).toArray 43)).cell? ⟨w.heap.size + 1, 6, none⟩ = some (.int .i64 q.ve) := hk2.cell 6
  have d7 : ((w.alloc (.cells (ec p (.slice A n c)).toArray 43)).alloc (.cells (ec q (.slice A' m c')).toArray 43)).cell? ⟨w.heap.size + 1, 7, none⟩ = some (.int .i64 q.r1) := hk2.cell 7
  have d8 : ((w.alloc (.cells (ec p (.slice A n c)).toArray 43)).alloc (.cells (ec q (.slice A' m c')).toArray 43)).cell? ⟨w.heap.size + 1, 8, none⟩ = some (.int .i64 q.c1) := hk2.cell 8
  have d9 : ((w.alloc (.cells (ec p (.slice A n c)).toArray 43)).alloc (.cells (ec q (.slice A' m c')).toArray 43)).cell? ⟨w.heap.size + 1, 9, none⟩ = some (.bool q.x1) := hk2.cell 9
  have d10 : ((w.alloc (.cells (ec p (.slice A n c)).toArray 43)).alloc (.cells (ec q (.slice A' m c')).toArray 43)).cell? ⟨w.heap.size + 1, 10, none⟩ = some (.bool q.y1) := hk2.cell 10
  have d11 : ((w.alloc (.cells (ec p (.slice A n c)).toArray 43)).alloc (.cells (ec q (.slice A' m c')).toArray 43)).cell? ⟨w.heap.size + 1, 11, none⟩ = some (.int .i64 q.r2) := hk2.cell 11
  have d12 : ((w.alloc (.cells (ec p (.slice A n c)).toArray 43)).alloc (.cells (ec q (.slice A' m c')).toArray 43)).cell? ⟨w.heap.size + 1, 12, none⟩ = some (.int .i64 q.c2) := hk2.cell 12
  have d13 : ((w.alloc (.cells (ec p (.slice A n c)).toArray 43)).alloc (.cells (ec q (.slice A' m c')).toArray 43)).cell? ⟨w.heap.size + 1, 13, none⟩ = some (.bool q.x2) := hk2.cell 13
  have d14 : ((w.alloc (.cells (ec p (.slice A n c)).toArray 43)).alloc (.cells (ec q (.slice A' m c')).toArray 43)).cell? ⟨w.heap.size + 1, 14, none⟩ = some (.bool q.y2) := hk2.cell 14
  have d15 : ((w.alloc (.cells (ec p (.slice A n c)).toArray 43)).alloc (.cells (ec q (.slice A' m c')).toArray 43)).cell? ⟨w.heap.size + 1, 15, none⟩ = some (.int .i64 q.sheet) := hk2.cell 15
  have d16 : ((w.alloc (.cells (ec p (.slice A n c)).toArray 43)).alloc (.cells (ec q (.slice A' m c')).toArray 43)).cell? ⟨w.heap.size + 1, 16, none⟩ = some (.int .i64 q.op) := hk2.cell 16
  have d17 : ((w.alloc (.cells (ec p (.slice A n c)).toArray 43)).alloc (.cells (ec q (.slice A' m c')).toArray 43)).cell? ⟨w.heap.size + 1, 17, none⟩ = some (.slice A' m c') := hk2.cell 17
  have HB := Lib.hid hb1
  have HV := Lib.hid (fun W : World => same_any (w := W) p.vk p.vm p.vs p.vt p.vb p.ve q.vk q.vm q.vs q.vt q.vb q.ve)
  rw [show sameB p.vk p.vm p.vs p.vt p.vb p.ve q.vk q.vm q.vs q.vt q.vb q.ve = false from h1] at HV
  clear h1
  clear hb1 hk1 hk2
  go_enter Tryd.func27, Tryd.ntmps27
  repeat' (first | go_values | go_skip | go_guarded | go_step | go_upon)
  refine (HV.out _).mono ?_
  rintro x W ⟨rfl, hb⟩
  dsimp only
  clear c0 c1 c2 c3 c4 c5 c6 c7 c8 c9 c10 c11 c12 c13 c14 c15 c16 c17 d0 d1 d2 d3 d4 d5 d6 d7 d8 d9 d10 d11 d12 d13 d14 d15 d16 d17
  repeat' (first | go_values | go_skip | go_guarded | go_step | go_upon)
  go_ret
  exact ⟨rfl, HB.out.trans (hb.mono (by simp <;> omega))⟩

set_option maxRecDepth 20000 in
set_option maxHeartbeats 4000000 in
theorem alike_2 {w : World} {p q : Pay} (A A' : Option Addr) (n c m c' : Nat) (h0 : (p.kind == q.kind) = true) (h1 : valB p q = true) (h2 : areaB p q = false) :
    Calls Tryd.prog 27 #[.agg (ec p (.slice A n c)).toArray, .agg (ec q (.slice A' m c')).toArray] w fun x W => x = .returned (.bool false) ∧ Below w.heap.size w W := by
  have hb1 := bel1 w (.cells (ec p (.slice A n c)).toArray 43) (.cells (ec q (.slice A' m c')).toArray 43)
  have hk1 : Bk ((w.alloc (.cells (ec p (.slice A n c)).toArray 43)).alloc (.cells (ec q (.slice A' m c')).toArray 43)) w.heap.size 43 (ec p (.slice A n c)).toArray := (Bk.new w _ _).alloc _
  have hk2 : Bk ((w.alloc (.cells (ec p (.slice A n c)).toArray 43)).alloc (.cells (ec q (.slice A' m c')).toArray 43)) (w.heap.size + 1) 43 (ec q (.slice A' m c')).toArray := by simpa using Bk.new (w.alloc (.cells (ec p (.slice A n c)).toArray 43)) 43 (ec q (.slice A' m c')).toArray
  have c0 : ((w.alloc (.cells (ec p (.slice A n c)).toArray 43)).alloc (.cells (ec q (.slice A' m c')).toArray 43)).cell? ⟨w.heap.size, 0, none⟩ = some (.int .i64 p.kind) := hk1.cell 0
  have c1 : ((w.alloc (.cells (ec p (.slice A n c)).toArray 43)).alloc (.cells (ec q (.slice A' m c')).toArray 43)).cell? ⟨w.heap.size, 1, none⟩ = some (.int .i64 p.vk) := hk1.cell 1
  have c2 : ((w.alloc (.cells (ec p (.slice A n c)).toArray 43)).alloc (.cells (ec q (.slice A' m c')).toArray 43)).cell? ⟨w.heap.size, 2, none⟩ = some (.int .i64 p.vm) := hk1.cell 2
  have c3 : ((w.alloc (.cells (ec p (.slice A n c)).toArray 43)).alloc (.cells (ec q (.slice A' m c')).toArray 43)).cell? ⟨w.heap.size, 3, none⟩ = some (.int .i64 p.vs) := hk1.cell 3
  have c4 : ((w.alloc (.cells (ec p (.slice A n c)).toArray 43)).alloc (.cells (ec q (.slice A' m c')).toArray 43)).cell? ⟨w.heap.size, 4, none⟩ = some (.string p.vt) := hk1.cell 4
  have c5 : ((w.alloc (.cells (ec p (.slice A n c)).toArray 43)).alloc (.cells (ec q (.slice A' m c')).toArray 43)).cell? ⟨w.heap.size, 5, none⟩ = some (.bool p.vb) := hk1.cell 5
  have c6 : ((w.alloc (.cells (ec p (.slice A n c)).toArray 43)).alloc (.cells (ec q (.slice A' m c')).toArray 43)).cell? ⟨w.heap.size, 6, none⟩ = some (.int .i64 p.ve) := hk1.cell 6
  have c7 : ((w.alloc (.cells (ec p (.slice A n c)).toArray 43)).alloc (.cells (ec q (.slice A' m c')).toArray 43)).cell? ⟨w.heap.size, 7, none⟩ = some (.int .i64 p.r1) := hk1.cell 7
  have c8 : ((w.alloc (.cells (ec p (.slice A n c)).toArray 43)).alloc (.cells (ec q (.slice A' m c')).toArray 43)).cell? ⟨w.heap.size, 8, none⟩ = some (.int .i64 p.c1) := hk1.cell 8
  have c9 : ((w.alloc (.cells (ec p (.slice A n c)).toArray 43)).alloc (.cells (ec q (.slice A' m c')).toArray 43)).cell? ⟨w.heap.size, 9, none⟩ = some (.bool p.x1) := hk1.cell 9
  have c10 : ((w.alloc (.cells (ec p (.slice A n c)).toArray 43)).alloc (.cells (ec q (.slice A' m c')).toArray 43)).cell? ⟨w.heap.size, 10, none⟩ = some (.bool p.y1) := hk1.cell 10
  have c11 : ((w.alloc (.cells (ec p (.slice A n c)).toArray 43)).alloc (.cells (ec q (.slice A' m c')).toArray 43)).cell? ⟨w.heap.size, 11, none⟩ = some (.int .i64 p.r2) := hk1.cell 11
  have c12 : ((w.alloc (.cells (ec p (.slice A n c)).toArray 43)).alloc (.cells (ec q (.slice A' m c')).toArray 43)).cell? ⟨w.heap.size, 12, none⟩ = some (.int .i64 p.c2) := hk1.cell 12
  have c13 : ((w.alloc (.cells (ec p (.slice A n c)).toArray 43)).alloc (.cells (ec q (.slice A' m c')).toArray 43)).cell? ⟨w.heap.size, 13, none⟩ = some (.bool p.x2) := hk1.cell 13
  have c14 : ((w.alloc (.cells (ec p (.slice A n c)).toArray 43)).alloc (.cells (ec q (.slice A' m c')).toArray 43)).cell? ⟨w.heap.size, 14, none⟩ = some (.bool p.y2) := hk1.cell 14
  have c15 : ((w.alloc (.cells (ec p (.slice A n c)).toArray 43)).alloc (.cells (ec q (.slice A' m c')).toArray 43)).cell? ⟨w.heap.size, 15, none⟩ = some (.int .i64 p.sheet) := hk1.cell 15
  have c16 : ((w.alloc (.cells (ec p (.slice A n c)).toArray 43)).alloc (.cells (ec q (.slice A' m c')).toArray 43)).cell? ⟨w.heap.size, 16, none⟩ = some (.int .i64 p.op) := hk1.cell 16
  have c17 : ((w.alloc (.cells (ec p (.slice A n c)).toArray 43)).alloc (.cells (ec q (.slice A' m c')).toArray 43)).cell? ⟨w.heap.size, 17, none⟩ = some (.slice A n c) := hk1.cell 17
  have d0 : ((w.alloc (.cells (ec p (.slice A n c)).toArray 43)).alloc (.cells (ec q (.slice A' m c')).toArray 43)).cell? ⟨w.heap.size + 1, 0, none⟩ = some (.int .i64 q.kind) := hk2.cell 0
  have d1 : ((w.alloc (.cells (ec p (.slice A n c)).toArray 43)).alloc (.cells (ec q (.slice A' m c')).toArray 43)).cell? ⟨w.heap.size + 1, 1, none⟩ = some (.int .i64 q.vk) := hk2.cell 1
  have d2 : ((w.alloc (.cells (ec p (.slice A n c)).toArray 43)).alloc (.cells (ec q (.slice A' m c')).toArray 43)).cell? ⟨w.heap.size + 1, 2, none⟩ = some (.int .i64 q.vm) := hk2.cell 2
  have d3 : ((w.alloc (.cells (ec p (.slice A n c)).toArray 43)).alloc (.cells (ec q (.slice A' m c')).toArray 43)).cell? ⟨w.heap.size + 1, 3, none⟩ = some (.int .i64 q.vs) := hk2.cell 3
  have d4 : ((w.alloc (.cells (ec p (.slice A n c)).toArray 43)).alloc (.cells (ec q (.slice A' m c')).toArray 43)).cell? ⟨w.heap.size + 1, 4, none⟩ = some (.string q.vt) := hk2.cell 4
  have d5 : ((w.alloc (.cells (ec p (.slice A n c)).toArray 43)).alloc (.cells (ec q (.slice A' m c')).toArray 43)).cell? ⟨w.heap.size + 1, 5, none⟩ = some (.bool q.vb) := hk2.cell 5
  have d6 : ((w.alloc (.cells (ec p (.slice A n c)).toArray 43)).alloc (.cells (ec q (.slice A' m c')).toArray 43)).cell? ⟨w.heap.size + 1, 6, none⟩ = some (.int .i64 q.ve) := hk2.cell 6
  have d7 : ((w.alloc (.cells (ec p (.slice A n c)).toArray 43)).alloc (.cells (ec q (.slice A' m c')).toArray 43)).cell? ⟨w.heap.size + 1, 7, none⟩ = some (.int .i64 q.r1) := hk2.cell 7
  have d8 : ((w.alloc (.cells (ec p (.slice A n c)).toArray 43)).alloc (.cells (ec q (.slice A' m c')).toArray 43)).cell? ⟨w.heap.size + 1, 8, none⟩ = some (.int .i64 q.c1) := hk2.cell 8
  have d9 : ((w.alloc (.cells (ec p (.slice A n c)).toArray 43)).alloc (.cells (ec q (.slice A' m c')).toArray 43)).cell? ⟨w.heap.size + 1, 9, none⟩ = some (.bool q.x1) := hk2.cell 9
  have d10 : ((w.alloc (.cells (ec p (.slice A n c)).toArray 43)).alloc (.cells (ec q (.slice A' m c')).toArray 43)).cell? ⟨w.heap.size + 1, 10, none⟩ = some (.bool q.y1) := hk2.cell 10
  have d11 : ((w.alloc (.cells (ec p (.slice A n c)).toArray 43)).alloc (.cells (ec q (.slice A' m c')).toArray 43)).cell? ⟨w.heap.size + 1, 11, none⟩ = some (.int .i64 q.r2) := hk2.cell 11
  have d12 : ((w.alloc (.cells (ec p (.slice A n c)).toArray 43)).alloc (.cells (ec q (.slice A' m c')).toArray 43)).cell? ⟨w.heap.size + 1, 12, none⟩ = some (.int .i64 q.c2) := hk2.cell 12
  have d13 : ((w.alloc (.cells (ec p (.slice A n c)).toArray 43)).alloc (.cells (ec q (.slice A' m c')).toArray 43)).cell? ⟨w.heap.size + 1, 13, none⟩ = some (.bool q.x2) := hk2.cell 13
  have d14 : ((w.alloc (.cells (ec p (.slice A n c)).toArray 43)).alloc (.cells (ec q (.slice A' m c')).toArray 43)).cell? ⟨w.heap.size + 1, 14, none⟩ = some (.bool q.y2) := hk2.cell 14
  have d15 : ((w.alloc (.cells (ec p (.slice A n c)).toArray 43)).alloc (.cells (ec q (.slice A' m c')).toArray 43)).cell? ⟨w.heap.size + 1, 15, none⟩ = some (.int .i64 q.sheet) := hk2.cell 15
  have d16 : ((w.alloc (.cells (ec p (.slice A n c)).toArray 43)).alloc (.cells (ec q (.slice A' m c')).toArray 43)).cell? ⟨w.heap.size + 1, 16, none⟩ = some (.int .i64 q.op) := hk2.cell 16
  have d17 : ((w.alloc (.cells (ec p (.slice A n c)).toArray 43)).alloc (.cells (ec q (.slice A' m c')).toArray 43)).cell? ⟨w.heap.size + 1, 17, none⟩ = some (.slice A' m c') := hk2.cell 17
  have HB := Lib.hid hb1
  have HV := Lib.hid (fun W : World => same_any (w := W) p.vk p.vm p.vs p.vt p.vb p.ve q.vk q.vm q.vs q.vt q.vb q.ve)
  rw [show sameB p.vk p.vm p.vs p.vt p.vb p.ve q.vk q.vm q.vs q.vt q.vb q.ve = true from h1] at HV
  clear h1
  have HA := Lib.hid (of_decide_eq_false h2)
  clear h2
  clear hb1 hk1 hk2
  go_enter Tryd.func27, Tryd.ntmps27
  repeat' (first | go_values | go_skip | go_guarded | go_step | go_upon)
  refine (HV.out _).mono ?_
  rintro x W ⟨rfl, hb⟩
  dsimp only
  have c72 := (hb.cell (p := ⟨w.heap.size, 7, none⟩) (by simp <;> omega)).trans c7
  have c82 := (hb.cell (p := ⟨w.heap.size, 8, none⟩) (by simp <;> omega)).trans c8
  have c92 := (hb.cell (p := ⟨w.heap.size, 9, none⟩) (by simp <;> omega)).trans c9
  have c102 := (hb.cell (p := ⟨w.heap.size, 10, none⟩) (by simp <;> omega)).trans c10
  have c112 := (hb.cell (p := ⟨w.heap.size, 11, none⟩) (by simp <;> omega)).trans c11
  have c122 := (hb.cell (p := ⟨w.heap.size, 12, none⟩) (by simp <;> omega)).trans c12
  have c132 := (hb.cell (p := ⟨w.heap.size, 13, none⟩) (by simp <;> omega)).trans c13
  have c142 := (hb.cell (p := ⟨w.heap.size, 14, none⟩) (by simp <;> omega)).trans c14
  have c152 := (hb.cell (p := ⟨w.heap.size, 15, none⟩) (by simp <;> omega)).trans c15
  have c162 := (hb.cell (p := ⟨w.heap.size, 16, none⟩) (by simp <;> omega)).trans c16
  have c172 := (hb.cell (p := ⟨w.heap.size, 17, none⟩) (by simp <;> omega)).trans c17
  have d72 := (hb.cell (p := ⟨w.heap.size + 1, 7, none⟩) (by simp <;> omega)).trans d7
  have d82 := (hb.cell (p := ⟨w.heap.size + 1, 8, none⟩) (by simp <;> omega)).trans d8
  have d92 := (hb.cell (p := ⟨w.heap.size + 1, 9, none⟩) (by simp <;> omega)).trans d9
  have d102 := (hb.cell (p := ⟨w.heap.size + 1, 10, none⟩) (by simp <;> omega)).trans d10
  have d112 := (hb.cell (p := ⟨w.heap.size + 1, 11, none⟩) (by simp <;> omega)).trans d11
  have d122 := (hb.cell (p := ⟨w.heap.size + 1, 12, none⟩) (by simp <;> omega)).trans d12
  have d132 := (hb.cell (p := ⟨w.heap.size + 1, 13, none⟩) (by simp <;> omega)).trans d13
  have d142 := (hb.cell (p := ⟨w.heap.size + 1, 14, none⟩) (by simp <;> omega)).trans d14
  have d152 := (hb.cell (p := ⟨w.heap.size + 1, 15, none⟩) (by simp <;> omega)).trans d15
  have d162 := (hb.cell (p := ⟨w.heap.size + 1, 16, none⟩) (by simp <;> omega)).trans d16
  have d172 := (hb.cell (p := ⟨w.heap.size + 1, 17, none⟩) (by simp <;> omega)).trans d17
  clear c0 c1 c2 c3 c4 c5 c6 c7 c8 c9 c10 c11 c12 c13 c14 c15 c16 c17 d0 d1 d2 d3 d4 d5 d6 d7 d8 d9 d10 d11 d12 d13 d14 d15 d16 d17
  repeat' (first | go_values | go_skip | go_guarded | go_step | go_upon)
  all_goals first
    | (go_ret; exact ⟨rfl, HB.out.trans (hb.mono (by simp <;> omega))⟩)
    | (exfalso; refine HA.out ⟨?_, ?_, ?_, ?_, ?_, ?_, ?_, ?_⟩ <;> assumption)

set_option maxRecDepth 20000 in
set_option maxHeartbeats 4000000 in
theorem alike_3 {w : World} {p q : Pay} (A A' : Option Addr) (n c m c' : Nat) (h0 : (p.kind == q.kind) = true) (h1 : valB p q = true) (h2 : areaB p q = true) (h3 : (p.sheet == q.sheet) = false) :
    Calls Tryd.prog 27 #[.agg (ec p (.slice A n c)).toArray, .agg (ec q (.slice A' m c')).toArray] w fun x W => x = .returned (.bool false) ∧ Below w.heap.size w W := by
  have hb1 := bel1 w (.cells (ec p (.slice A n c)).toArray 43) (.cells (ec q (.slice A' m c')).toArray 43)
  have hk1 : Bk ((w.alloc (.cells (ec p (.slice A n c)).toArray 43)).alloc (.cells (ec q (.slice A' m c')).toArray 43)) w.heap.size 43 (ec p (.slice A n c)).toArray := (Bk.new w _ _).alloc _
  have hk2 : Bk ((w.alloc (.cells (ec p (.slice A n c)).toArray 43)).alloc (.cells (ec q (.slice A' m c')).toArray 43)) (w.heap.size + 1) 43 (ec q (.slice A' m c')).toArray := by simpa using Bk.new (w.alloc (.cells (ec p (.slice A n c)).toArray 43)) 43 (ec q (.slice A' m c')).toArray
  have c0 : ((w.alloc (.cells (ec p (.slice A n c)).toArray 43)).alloc (.cells (ec q (.slice A' m c')).toArray 43)).cell? ⟨w.heap.size, 0, none⟩ = some (.int .i64 p.kind) := hk1.cell 0
  have c1 : ((w.alloc (.cells (ec p (.slice A n c)).toArray 43)).alloc (.cells (ec q (.slice A' m c')).toArray 43)).cell? ⟨w.heap.size, 1, none⟩ = some (.int .i64 p.vk) := hk1.cell 1
  have c2 : ((w.alloc (.cells (ec p (.slice A n c)).toArray 43)).alloc (.cells (ec q (.slice A' m c')).toArray 43)).cell? ⟨w.heap.size, 2, none⟩ = some (.int .i64 p.vm) := hk1.cell 2
  have c3 : ((w.alloc (.cells (ec p (.slice A n c)).toArray 43)).alloc (.cells (ec q (.slice A' m c')).toArray 43)).cell? ⟨w.heap.size, 3, none⟩ = some (.int .i64 p.vs) := hk1.cell 3
  have c4 : ((w.alloc (.cells (ec p (.slice A n c)).toArray 43)).alloc (.cells (ec q (.slice A' m c')).toArray 43)).cell? ⟨w.heap.size, 4, none⟩ = some (.string p.vt) := hk1.cell 4
  have c5 : ((w.alloc (.cells (ec p (.slice A n c)).toArray 43)).alloc (.cells (ec q (.slice A' m c')).toArray 43)).cell? ⟨w.heap.size, 5, none⟩ = some (.bool p.vb) := hk1.cell 5
  have c6 : ((w.alloc (.cells (ec p (.slice A n c)).toArray 43)).alloc (.cells (ec q (.slice A' m c')).toArray 43)).cell? ⟨w.heap.size, 6, none⟩ = some (.int .i64 p.ve) := hk1.cell 6
  have c7 : ((w.alloc (.cells (ec p (.slice A n c)).toArray 43)).alloc (.cells (ec q (.slice A' m c')).toArray 43)).cell? ⟨w.heap.size, 7, none⟩ = some (.int .i64 p.r1) := hk1.cell 7
  have c8 : ((w.alloc (.cells (ec p (.slice A n c)).toArray 43)).alloc (.cells (ec q (.slice A' m c')).toArray 43)).cell? ⟨w.heap.size, 8, none⟩ = some (.int .i64 p.c1) := hk1.cell 8
  have c9 : ((w.alloc (.cells (ec p (.slice A n c)).toArray 43)).alloc (.cells (ec q (.slice A' m c')).toArray 43)).cell? ⟨w.heap.size, 9, none⟩ = some (.bool p.x1) := hk1.cell 9
  have c10 : ((w.alloc (.cells (ec p (.slice A n c)).toArray 43)).alloc (.cells (ec q (.slice A' m c')).toArray 43)).cell? ⟨w.heap.size, 10, none⟩ = some (.bool p.y1) := hk1.cell 10
  have c11 : ((w.alloc (.cells (ec p (.slice A n c)).toArray 43)).alloc (.cells (ec q (.slice A' m c')).toArray 43)).cell? ⟨w.heap.size, 11, none⟩ = some (.int .i64 p.r2) := hk1.cell 11
  have c12 : ((w.alloc (.cells (ec p (.slice A n c)).toArray 43)).alloc (.cells (ec q (.slice A' m c')).toArray 43)).cell? ⟨w.heap.size, 12, none⟩ = some (.int .i64 p.c2) := hk1.cell 12
  have c13 : ((w.alloc (.cells (ec p (.slice A n c)).toArray 43)).alloc (.cells (ec q (.slice A' m c')).toArray 43)).cell? ⟨w.heap.size, 13, none⟩ = some (.bool p.x2) := hk1.cell 13
  have c14 : ((w.alloc (.cells (ec p (.slice A n c)).toArray 43)).alloc (.cells (ec q (.slice A' m c')).toArray 43)).cell? ⟨w.heap.size, 14, none⟩ = some (.bool p.y2) := hk1.cell 14
  have c15 : ((w.alloc (.cells (ec p (.slice A n c)).toArray 43)).alloc (.cells (ec q (.slice A' m c')).toArray 43)).cell? ⟨w.heap.size, 15, none⟩ = some (.int .i64 p.sheet) := hk1.cell 15
  have c16 : ((w.alloc (.cells (ec p (.slice A n c)).toArray 43)).alloc (.cells (ec q (.slice A' m c')).toArray 43)).cell? ⟨w.heap.size, 16, none⟩ = some (.int .i64 p.op) := hk1.cell 16
  have c17 : ((w.alloc (.cells (ec p (.slice A n c)).toArray 43)).alloc (.cells (ec q (.slice A' m c')).toArray 43)).cell? ⟨w.heap.size, 17, none⟩ = some (.slice A n c) := hk1.cell 17
  have d0 : ((w.alloc (.cells (ec p (.slice A n c)).toArray 43)).alloc (.cells (ec q (.slice A' m c')).toArray 43)).cell? ⟨w.heap.size + 1, 0, none⟩ = some (.int .i64 q.kind) := hk2.cell 0
  have d1 : ((w.alloc (.cells (ec p (.slice A n c)).toArray 43)).alloc (.cells (ec q (.slice A' m c')).toArray 43)).cell? ⟨w.heap.size + 1, 1, none⟩ = some (.int .i64 q.vk) := hk2.cell 1
  have d2 : ((w.alloc (.cells (ec p (.slice A n c)).toArray 43)).alloc (.cells (ec q (.slice A' m c')).toArray 43)).cell? ⟨w.heap.size + 1, 2, none⟩ = some (.int .i64 q.vm) := hk2.cell 2
  have d3 : ((w.alloc (.cells (ec p (.slice A n c)).toArray 43)).alloc (.cells (ec q (.slice A' m c')).toArray 43)).cell? ⟨w.heap.size + 1, 3, none⟩ = some (.int .i64 q.vs) := hk2.cell 3
  have d4 : ((w.alloc (.cells (ec p (.slice A n c)).toArray 43)).alloc (.cells (ec q (.slice A' m c')).toArray 43)).cell? ⟨w.heap.size + 1, 4, none⟩ = some (.string q.vt) := hk2.cell 4
  have d5 : ((w.alloc (.cells (ec p (.slice A n c)).toArray 43)).alloc (.cells (ec q (.slice A' m c')).toArray 43)).cell? ⟨w.heap.size + 1, 5, none⟩ = some (.bool q.vb) := hk2.cell 5
  have d6 : ((w.alloc (.cells (ec p (.slice A n c)).toArray 43)).alloc (.cells (ec q (.slice A' m c')).toArray 43)).cell? ⟨w.heap.size + 1, 6, none⟩ = some (.int .i64 q.ve) := hk2.cell 6
  have d7 : ((w.alloc (.cells (ec p (.slice A n c)).toArray 43)).alloc (.cells (ec q (.slice A' m c')).toArray 43)).cell? ⟨w.heap.size + 1, 7, none⟩ = some (.int .i64 q.r1) := hk2.cell 7
  have d8 : ((w.alloc (.cells (ec p (.slice A n c)).toArray 43)).alloc (.cells (ec q (.slice A' m c')).toArray 43)).cell? ⟨w.heap.size + 1, 8, none⟩ = some (.int .i64 q.c1) := hk2.cell 8
  have d9 : ((w.alloc (.cells (ec p (.slice A n c)).toArray 43)).alloc (.cells (ec q (.slice A' m c')).toArray 43)).cell? ⟨w.heap.size + 1, 9, none⟩ = some (.bool q.x1) := hk2.cell 9
  have d10 : ((w.alloc (.cells (ec p (.slice A n c)).toArray 43)).alloc (.cells (ec q (.slice A' m c')).toArray 43)).cell? ⟨w.heap.size + 1, 10, none⟩ = some (.bool q.y1) := hk2.cell 10
  have d11 : ((w.alloc (.cells (ec p (.slice A n c)).toArray 43)).alloc (.cells (ec q (.slice A' m c')).toArray 43)).cell? ⟨w.heap.size + 1, 11, none⟩ = some (.int .i64 q.r2) := hk2.cell 11
  have d12 : ((w.alloc (.cells (ec p (.slice A n c)).toArray 43)).alloc (.cells (ec q (.slice A' m c')).toArray 43)).cell? ⟨w.heap.size + 1, 12, none⟩ = some (.int .i64 q.c2) := hk2.cell 12
  have d13 : ((w.alloc (.cells (ec p (.slice A n c)).toArray 43)).alloc (.cells (ec q (.slice A' m c')).toArray 43)).cell? ⟨w.heap.size + 1, 13, none⟩ = some (.bool q.x2) := hk2.cell 13
  have d14 : ((w.alloc (.cells (ec p (.slice A n c)).toArray 43)).alloc (.cells (ec q (.slice A' m c')).toArray 43)).cell? ⟨w.heap.size + 1, 14, none⟩ = some (.bool q.y2) := hk2.cell 14
  have d15 : ((w.alloc (.cells (ec p (.slice A n c)).toArray 43)).alloc (.cells (ec q (.slice A' m c')).toArray 43)).cell? ⟨w.heap.size + 1, 15, none⟩ = some (.int .i64 q.sheet) := hk2.cell 15
  have d16 : ((w.alloc (.cells (ec p (.slice A n c)).toArray 43)).alloc (.cells (ec q (.slice A' m c')).toArray 43)).cell? ⟨w.heap.size + 1, 16, none⟩ = some (.int .i64 q.op) := hk2.cell 16
  have d17 : ((w.alloc (.cells (ec p (.slice A n c)).toArray 43)).alloc (.cells (ec q (.slice A' m c')).toArray 43)).cell? ⟨w.heap.size + 1, 17, none⟩ = some (.slice A' m c') := hk2.cell 17
  have HB := Lib.hid hb1
  have HV := Lib.hid (fun W : World => same_any (w := W) p.vk p.vm p.vs p.vt p.vb p.ve q.vk q.vm q.vs q.vt q.vb q.ve)
  rw [show sameB p.vk p.vm p.vs p.vt p.vb p.ve q.vk q.vm q.vs q.vt q.vb q.ve = true from h1] at HV
  clear h1
  obtain ⟨g0, g1, g2, g3, g4, g5, g6, g7⟩ := of_decide_eq_true h2
  clear h2
  simp only [← g0, ← g1, ← g2, ← g3, ← g4, ← g5, ← g6, ← g7] at d7 d8 d9 d10 d11 d12 d13 d14
  clear g0 g1 g2 g3 g4 g5 g6 g7
  clear hb1 hk1 hk2
  go_enter Tryd.func27, Tryd.ntmps27
  repeat' (first | go_values | go_skip | go_guarded | go_step | go_upon)
  refine (HV.out _).mono ?_
  rintro x W ⟨rfl, hb⟩
  dsimp only
  have c72 := (hb.cell (p := ⟨w.heap.size, 7, none⟩) (by simp <;> omega)).trans c7
  have c82 := (hb.cell (p := ⟨w.heap.size, 8, none⟩) (by simp <;> omega)).trans c8
  have c92 := (hb.cell (p := ⟨w.heap.size, 9, none⟩) (by simp <;> omega)).trans c9
  have c102 := (hb.cell (p := ⟨w.heap.size, 10, none⟩) (by simp <;> omega)).trans c10
  have c112 := (hb.cell (p := ⟨w.heap.size, 11, none⟩) (by simp <;> omega)).trans c11
  have c122 := (hb.cell (p := ⟨w.heap.size, 12, none⟩) (by simp <;> omega)).trans c12
  have c132 := (hb.cell (p := ⟨w.heap.size, 13, none⟩) (by simp <;> omega)).trans c13
  have c142 := (hb.cell (p := ⟨w.heap.size, 14, none⟩) (by simp <;> omega)).trans c14
  have c152 := (hb.cell (p := ⟨w.heap.size, 15, none⟩) (by simp <;> omega)).trans c15
  have c162 := (hb.cell (p := ⟨w.heap.size, 16, none⟩) (by simp <;> omega)).trans c16
  have c172 := (hb.cell (p := ⟨w.heap.size, 17, none⟩) (by simp <;> omega)).trans c17
  have d72 := (hb.cell (p := ⟨w.heap.size + 1, 7, none⟩) (by simp <;> omega)).trans d7
  have d82 := (hb.cell (p := ⟨w.heap.size + 1, 8, none⟩) (by simp <;> omega)).trans d8
  have d92 := (hb.cell (p := ⟨w.heap.size + 1, 9, none⟩) (by simp <;> omega)).trans d9
  have d102 := (hb.cell (p := ⟨w.heap.size + 1, 10, none⟩) (by simp <;> omega)).trans d10
  have d112 := (hb.cell (p := ⟨w.heap.size + 1, 11, none⟩) (by simp <;> omega)).trans d11
  have d122 := (hb.cell (p := ⟨w.heap.size + 1, 12, none⟩) (by simp <;> omega)).trans d12
  have d132 := (hb.cell (p := ⟨w.heap.size + 1, 13, none⟩) (by simp <;> omega)).trans d13
  have d142 := (hb.cell (p := ⟨w.heap.size + 1, 14, none⟩) (by simp <;> omega)).trans d14
  have d152 := (hb.cell (p := ⟨w.heap.size + 1, 15, none⟩) (by simp <;> omega)).trans d15
  have d162 := (hb.cell (p := ⟨w.heap.size + 1, 16, none⟩) (by simp <;> omega)).trans d16
  have d172 := (hb.cell (p := ⟨w.heap.size + 1, 17, none⟩) (by simp <;> omega)).trans d17
  clear c0 c1 c2 c3 c4 c5 c6 c7 c8 c9 c10 c11 c12 c13 c14 c15 c16 c17 d0 d1 d2 d3 d4 d5 d6 d7 d8 d9 d10 d11 d12 d13 d14 d15 d16 d17
  repeat' (first | go_values | go_skip | go_guarded | go_step | go_upon)
  go_ret
  exact ⟨rfl, HB.out.trans (hb.mono (by simp <;> omega))⟩

set_option maxRecDepth 20000 in
set_option maxHeartbeats 4000000 in
theorem alike_4 {w : World} {p q : Pay} (A A' : Option Addr) (n c m c' : Nat) (h0 : (p.kind == q.kind) = true) (h1 : valB p q = true) (h2 : areaB p q = true) (h3 : (p.sheet == q.sheet) = true) (h4 : (p.op == q.op) = false) :
    Calls Tryd.prog 27 #[.agg (ec p (.slice A n c)).toArray, .agg (ec q (.slice A' m c')).toArray] w fun x W => x = .returned (.bool false) ∧ Below w.heap.size w W := by
  have hb1 := bel1 w (.cells (ec p (.slice A n c)).toArray 43) (.cells (ec q (.slice A' m c')).toArray 43)
  have hk1 : Bk ((w.alloc (.cells (ec p (.slice A n c)).toArray 43)).alloc (.cells (ec q (.slice A' m c')).toArray 43)) w.heap.size 43 (ec p (.slice A n c)).toArray := (Bk.new w _ _).alloc _
  have hk2 : Bk ((w.alloc (.cells (ec p (.slice A n c)).toArray 43)).alloc (.cells (ec q (.slice A' m c')).toArray 43)) (w.heap.size + 1) 43 (ec q (.slice A' m c')).toArray := by simpa using Bk.new (w.alloc (.cells (ec p (.slice A n c)).toArray 43)) 43 (ec q (.slice A' m c')).toArray
  have c0 : ((w.alloc (.cells (ec p (.slice A n c)).toArray 43)).alloc (.cells (ec q (.slice A' m c')).toArray 43)).cell? ⟨w.heap.size, 0, none⟩ = some (.int .i64 p.kind) := hk1.cell 0
  have c1 : ((w.alloc (.cells (ec p (.slice A n c)).toArray 43)).alloc (.cells (ec q (.slice A' m c')).toArray 43)).cell? ⟨w.heap.size, 1, none⟩ = some (.int .i64 p.vk) := hk1.cell 1
  have c2 : ((w.alloc (.cells (ec p (.slice A n c)).toArray 43)).alloc (.cells (ec q (.slice A' m c')).toArray 43)).cell? ⟨w.heap.size, 2, none⟩ = some (.int .i64 p.vm) := hk1.cell 2
  have c3 : ((w.alloc (.cells (ec p (.slice A n c)).toArray 43)).alloc (.cells (ec q (.slice A' m c')).toArray 43)).cell? ⟨w.heap.size, 3, none⟩ = some (.int .i64 p.vs) := hk1.cell 3
  have c4 : ((w.alloc (.cells (ec p (.slice A n c)).toArray 43)).alloc (.cells (ec q (.slice A' m c')).toArray 43)).cell? ⟨w.heap.size, 4, none⟩ = some (.string p.vt) := hk1.cell 4
  have c5 : ((w.alloc (.cells (ec p (.slice A n c)).toArray 43)).alloc (.cells (ec q (.slice A' m c')).toArray 43)).cell? ⟨w.heap.size, 5, none⟩ = some (.bool p.vb) := hk1.cell 5
  have c6 : ((w.alloc (.cells (ec p (.slice A n c)).toArray 43)).alloc (.cells (ec q (.slice A' m c')).toArray 43)).cell? ⟨w.heap.size, 6, none⟩ = some (.int .i64 p.ve) := hk1.cell 6
  have c7 : ((w.alloc (.cells (ec p (.slice A n c)).toArray 43)).alloc (.cells (ec q (.slice A' m c')).toArray 43)).cell? ⟨w.heap.size, 7, none⟩ = some (.int .i64 p.r1) := hk1.cell 7
  have c8 : ((w.alloc (.cells (ec p (.slice A n c)).toArray 43)).alloc (.cells (ec q (.slice A' m c')).toArray 43)).cell? ⟨w.heap.size, 8, none⟩ = some (.int .i64 p.c1) := hk1.cell 8
  have c9 : ((w.alloc (.cells (ec p (.slice A n c)).toArray 43)).alloc (.cells (ec q (.slice A' m c')).toArray 43)).cell? ⟨w.heap.size, 9, none⟩ = some (.bool p.x1) := hk1.cell 9
  have c10 : ((w.alloc (.cells (ec p (.slice A n c)).toArray 43)).alloc (.cells (ec q (.slice A' m c')).toArray 43)).cell? ⟨w.heap.size, 10, none⟩ = some (.bool p.y1) := hk1.cell 10
  have c11 : ((w.alloc (.cells (ec p (.slice A n c)).toArray 43)).alloc (.cells (ec q (.slice A' m c')).toArray 43)).cell? ⟨w.heap.size, 11, none⟩ = some (.int .i64 p.r2) := hk1.cell 11
  have c12 : ((w.alloc (.cells (ec p (.slice A n c)).toArray 43)).alloc (.cells (ec q (.slice A' m c')).toArray 43)).cell? ⟨w.heap.size, 12, none⟩ = some (.int .i64 p.c2) := hk1.cell 12
  have c13 : ((w.alloc (.cells (ec p (.slice A n c)).toArray 43)).alloc (.cells (ec q (.slice A' m c')).toArray 43)).cell? ⟨w.heap.size, 13, none⟩ = some (.bool p.x2) := hk1.cell 13
  have c14 : ((w.alloc (.cells (ec p (.slice A n c)).toArray 43)).alloc (.cells (ec q (.slice A' m c')).toArray 43)).cell? ⟨w.heap.size, 14, none⟩ = some (.bool p.y2) := hk1.cell 14
  have c15 : ((w.alloc (.cells (ec p (.slice A n c)).toArray 43)).alloc (.cells (ec q (.slice A' m c')).toArray 43)).cell? ⟨w.heap.size, 15, none⟩ = some (.int .i64 p.sheet) := hk1.cell 15
  have c16 : ((w.alloc (.cells (ec p (.slice A n c)).toArray 43)).alloc (.cells (ec q (.slice A' m c')).toArray 43)).cell? ⟨w.heap.size, 16, none⟩ = some (.int .i64 p.op) := hk1.cell 16
  have c17 : ((w.alloc (.cells (ec p (.slice A n c)).toArray 43)).alloc (.cells (ec q (.slice A' m c')).toArray 43)).cell? ⟨w.heap.size, 17, none⟩ = some (.slice A n c) := hk1.cell 17
  have d0 : ((w.alloc (.cells (ec p (.slice A n c)).toArray 43)).alloc (.cells (ec q (.slice A' m c')).toArray 43)).cell? ⟨w.heap.size + 1, 0, none⟩ = some (.int .i64 q.kind) := hk2.cell 0
  have d1 : ((w.alloc (.cells (ec p (.slice A n c)).toArray 43)).alloc (.cells (ec q (.slice A' m c')).toArray 43)).cell? ⟨w.heap.size + 1, 1, none⟩ = some (.int .i64 q.vk) := hk2.cell 1
  have d2 : ((w.alloc (.cells (ec p (.slice A n c)).toArray 43)).alloc (.cells (ec q (.slice A' m c')).toArray 43)).cell? ⟨w.heap.size + 1, 2, none⟩ = some (.int .i64 q.vm) := hk2.cell 2
  have d3 : ((w.alloc (.cells (ec p (.slice A n c)).toArray 43)).alloc (.cells (ec q (.slice A' m c')).toArray 43)).cell? ⟨w.heap.size + 1, 3, none⟩ = some (.int .i64 q.vs) := hk2.cell 3
  have d4 : ((w.alloc (.cells (ec p (.slice A n c)).toArray 43)).alloc (.cells (ec q (.slice A' m c')).toArray 43)).cell? ⟨w.heap.size + 1, 4, none⟩ = some (.string q.vt) := hk2.cell 4
  have d5 : ((w.alloc (.cells (ec p (.slice A n c)).toArray 43)).alloc (.cells (ec q (.slice A' m c')).toArray 43)).cell? ⟨w.heap.size + 1, 5, none⟩ = some (.bool q.vb) := hk2.cell 5
  have d6 : ((w.alloc (.cells (ec p (.slice A n c)).toArray 43)).alloc (.cells (ec q (.slice A' m c')).toArray 43)).cell? ⟨w.heap.size + 1, 6, none⟩ = some (.int .i64 q.ve) := hk2.cell 6
  have d7 : ((w.alloc (.cells (ec p (.slice A n c)).toArray 43)).alloc (.cells (ec q (.slice A' m c')).toArray 43)).cell? ⟨w.heap.size + 1, 7, none⟩ = some (.int .i64 q.r1) := hk2.cell 7
  have d8 : ((w.alloc (.cells (ec p (.slice A n c)).toArray 43)).alloc (.cells (ec q (.slice A' m c')).toArray 43)).cell? ⟨w.heap.size + 1, 8, none⟩ = some (.int .i64 q.c1) := hk2.cell 8
  have d9 : ((w.alloc (.cells (ec p (.slice A n c)).toArray 43)).alloc (.cells (ec q (.slice A' m c')).toArray 43)).cell? ⟨w.heap.size + 1, 9, none⟩ = some (.bool q.x1) := hk2.cell 9
  have d10 : ((w.alloc (.cells (ec p (.slice A n c)).toArray 43)).alloc (.cells (ec q (.slice A' m c')).toArray 43)).cell? ⟨w.heap.size + 1, 10, none⟩ = some (.bool q.y1) := hk2.cell 10
  have d11 : ((w.alloc (.cells (ec p (.slice A n c)).toArray 43)).alloc (.cells (ec q (.slice A' m c')).toArray 43)).cell? ⟨w.heap.size + 1, 11, none⟩ = some (.int .i64 q.r2) := hk2.cell 11
  have d12 : ((w.alloc (.cells (ec p (.slice A n c)).toArray 43)).alloc (.cells (ec q (.slice A' m c')).toArray 43)).cell? ⟨w.heap.size + 1, 12, none⟩ = some (.int .i64 q.c2) := hk2.cell 12
  have d13 : ((w.alloc (.cells (ec p (.slice A n c)).toArray 43)).alloc (.cells (ec q (.slice A' m c')).toArray 43)).cell? ⟨w.heap.size + 1, 13, none⟩ = some (.bool q.x2) := hk2.cell 13
  have d14 : ((w.alloc (.cells (ec p (.slice A n c)).toArray 43)).alloc (.cells (ec q (.slice A' m c')).toArray 43)).cell? ⟨w.heap.size + 1, 14, none⟩ = some (.bool q.y2) := hk2.cell 14
  have d15 : ((w.alloc (.cells (ec p (.slice A n c)).toArray 43)).alloc (.cells (ec q (.slice A' m c')).toArray 43)).cell? ⟨w.heap.size + 1, 15, none⟩ = some (.int .i64 q.sheet) := hk2.cell 15
  have d16 : ((w.alloc (.cells (ec p (.slice A n c)).toArray 43)).alloc (.cells (ec q (.slice A' m c')).toArray 43)).cell? ⟨w.heap.size + 1, 16, none⟩ = some (.int .i64 q.op) := hk2.cell 16
  have d17 : ((w.alloc (.cells (ec p (.slice A n c)).toArray 43)).alloc (.cells (ec q (.slice A' m c')).toArray 43)).cell? ⟨w.heap.size + 1, 17, none⟩ = some (.slice A' m c') := hk2.cell 17
  have HB := Lib.hid hb1
  have HV := Lib.hid (fun W : World => same_any (w := W) p.vk p.vm p.vs p.vt p.vb p.ve q.vk q.vm q.vs q.vt q.vb q.ve)
  rw [show sameB p.vk p.vm p.vs p.vt p.vb p.ve q.vk q.vm q.vs q.vt q.vb q.ve = true from h1] at HV
  clear h1
  obtain ⟨g0, g1, g2, g3, g4, g5, g6, g7⟩ := of_decide_eq_true h2
  clear h2
  simp only [← g0, ← g1, ← g2, ← g3, ← g4, ← g5, ← g6, ← g7] at d7 d8 d9 d10 d11 d12 d13 d14
  clear g0 g1 g2 g3 g4 g5 g6 g7
  clear hb1 hk1 hk2
  go_enter Tryd.func27, Tryd.ntmps27
  repeat' (first | go_values | go_skip | go_guarded | go_step | go_upon)
  refine (HV.out _).mono ?_
  rintro x W ⟨rfl, hb⟩
  dsimp only
  have c72 := (hb.cell (p := ⟨w.heap.size, 7, none⟩) (by simp <;> omega)).trans c7
  have c82 := (hb.cell (p := ⟨w.heap.size, 8, none⟩) (by simp <;> omega)).trans c8
  have c92 := (hb.cell (p := ⟨w.heap.size, 9, none⟩) (by simp <;> omega)).trans c9
  have c102 := (hb.cell (p := ⟨w.heap.size, 10, none⟩) (by simp <;> omega)).trans c10
  have c112 := (hb.cell (p := ⟨w.heap.size, 11, none⟩) (by simp <;> omega)).trans c11
  have c122 := (hb.cell (p := ⟨w.heap.size, 12, none⟩) (by simp <;> omega)).trans c12
  have c132 := (hb.cell (p := ⟨w.heap.size, 13, none⟩) (by simp <;> omega)).trans c13
  have c142 := (hb.cell (p := ⟨w.heap.size, 14, none⟩) (by simp <;> omega)).trans c14
  have c152 := (hb.cell (p := ⟨w.heap.size, 15, none⟩) (by simp <;> omega)).trans c15
  have c162 := (hb.cell (p := ⟨w.heap.size, 16, none⟩) (by simp <;> omega)).trans c16
  have c172 := (hb.cell (p := ⟨w.heap.size, 17, none⟩) (by simp <;> omega)).trans c17
  have d72 := (hb.cell (p := ⟨w.heap.size + 1, 7, none⟩) (by simp <;> omega)).trans d7
  have d82 := (hb.cell (p := ⟨w.heap.size + 1, 8, none⟩) (by simp <;> omega)).trans d8
  have d92 := (hb.cell (p := ⟨w.heap.size + 1, 9, none⟩) (by simp <;> omega)).trans d9
  have d102 := (hb.cell (p := ⟨w.heap.size + 1, 10, none⟩) (by simp <;> omega)).trans d10
  have d112 := (hb.cell (p := ⟨w.heap.size + 1, 11, none⟩) (by simp <;> omega)).trans d11
  have d122 := (hb.cell (p := ⟨w.heap.size + 1, 12, none⟩) (by simp <;> omega)).trans d12
  have d132 := (hb.cell (p := ⟨w.heap.size + 1, 13, none⟩) (by simp <;> omega)).trans d13
  have d142 := (hb.cell (p := ⟨w.heap.size + 1, 14, none⟩) (by simp <;> omega)).trans d14
  have d152 := (hb.cell (p := ⟨w.heap.size + 1, 15, none⟩) (by simp <;> omega)).trans d15
  have d162 := (hb.cell (p := ⟨w.heap.size + 1, 16, none⟩) (by simp <;> omega)).trans d16
  have d172 := (hb.cell (p := ⟨w.heap.size + 1, 17, none⟩) (by simp <;> omega)).trans d17
  clear c0 c1 c2 c3 c4 c5 c6 c7 c8 c9 c10 c11 c12 c13 c14 c15 c16 c17 d0 d1 d2 d3 d4 d5 d6 d7 d8 d9 d10 d11 d12 d13 d14 d15 d16 d17
  repeat' (first | go_values | go_skip | go_guarded | go_step | go_upon)
  go_ret
  exact ⟨rfl, HB.out.trans (hb.mono (by simp <;> omega))⟩

set_option maxRecDepth 20000 in
set_option maxHeartbeats 4000000 in
theorem alike_5 {w : World} {p q : Pay} (A A' : Option Addr) (n c m c' : Nat) (h0 : (p.kind == q.kind) = true) (h1 : valB p q = true) (h2 : areaB p q = true) (h3 : (p.sheet == q.sheet) = true) (h4 : (p.op == q.op) = true) (h5 : ((n : Int) == (m : Int)) = false) :
    Calls Tryd.prog 27 #[.agg (ec p (.slice A n c)).toArray, .agg (ec q (.slice A' m c')).toArray] w fun x W => x = .returned (.bool false) ∧ Below w.heap.size w W := by
  have hb1 := bel1 w (.cells (ec p (.slice A n c)).toArray 43) (.cells (ec q (.slice A' m c')).toArray 43)
  have hk1 : Bk ((w.alloc (.cells (ec p (.slice A n c)).toArray 43)).alloc (.cells (ec q (.slice A' m c')).toArray 43)) w.heap.size 43 (ec p (.slice A n c)).toArray := (Bk.new w _ _).alloc _
  have hk2 : Bk ((w.alloc (.cells (ec p (.slice A n c)).toArray 43)).alloc (.cells (ec q (.slice A' m c')).toArray 43)) (w.heap.size + 1) 43 (ec q (.slice A' m c')).toArray := by simpa using Bk.new (w.alloc (.cells (ec p (.slice A n c)).toArray 43)) 43 (ec q (.slice A' m c')).toArray
  have c0 : ((w.alloc (.cells (ec p (.slice A n c)).toArray 43)).alloc (.cells (ec q (.slice A' m c')).toArray 43)).cell? ⟨w.heap.size, 0, none⟩ = some (.int .i64 p.kind) := hk1.cell 0
  have c1 : ((w.alloc (.cells (ec p (.slice A n c)).toArray 43)).alloc (.cells (ec q (.slice A' m c')).toArray 43)).cell? ⟨w.heap.size, 1, none⟩ = some (.int .i64 p.vk) := hk1.cell 1
  have c2 : ((w.alloc (.cells (ec p (.slice A n c)).toArray 43)).alloc (.cells (ec q (.slice A' m c')).toArray 43)).cell? ⟨w.heap.size, 2, none⟩ = some (.int .i64 p.vm) := hk1.cell 2
  have c3 : ((w.alloc (.cells (ec p (.slice A n c)).toArray 43)).alloc (.cells (ec q (.slice A' m c')).toArray 43)).cell? ⟨w.heap.size, 3, none⟩ = some (.int .i64 p.vs) := hk1.cell 3
  have c4 : ((w.alloc (.cells (ec p (.slice A n c)).toArray 43)).alloc (.cells (ec q (.slice A' m c')).toArray 43)).cell? ⟨w.heap.size, 4, none⟩ = some (.string p.vt) := hk1.cell 4
  have c5 : ((w.alloc (.cells (ec p (.slice A n c)).toArray 43)).alloc (.cells (ec q (.slice A' m c')).toArray 43)).cell? ⟨w.heap.size, 5, none⟩ = some (.bool p.vb) := hk1.cell 5
  have c6 : ((w.alloc (.cells (ec p (.slice A n c)).toArray 43)).alloc (.cells (ec q (.slice A' m c')).toArray 43)).cell? ⟨w.heap.size, 6, none⟩ = some (.int .i64 p.ve) := hk1.cell 6
  have c7 : ((w.alloc (.cells (ec p (.slice A n c)).toArray 43)).alloc (.cells (ec q (.slice A' m c')).toArray 43)).cell? ⟨w.heap.size, 7, none⟩ = some (.int .i64 p.r1) := hk1.cell 7
  have c8 : ((w.alloc (.cells (ec p (.slice A n c)).toArray 43)).alloc (.cells (ec q (.slice A' m c')).toArray 43)).cell? ⟨w.heap.size, 8, none⟩ = some (.int .i64 p.c1) := hk1.cell 8
  have c9 : ((w.alloc (.cells (ec p (.slice A n c)).toArray 43)).alloc (.cells (ec q (.slice A' m c')).toArray 43)).cell? ⟨w.heap.size, 9, none⟩ = some (.bool p.x1) := hk1.cell 9
  have c10 : ((w.alloc (.cells (ec p (.slice A n c)).toArray 43)).alloc (.cells (ec q (.slice A' m c')).toArray 43)).cell? ⟨w.heap.size, 10, none⟩ = some (.bool p.y1) := hk1.cell 10
  have c11 : ((w.alloc (.cells (ec p (.slice A n c)).toArray 43)).alloc (.cells (ec q (.slice A' m c')).toArray 43)).cell? ⟨w.heap.size, 11, none⟩ = some (.int .i64 p.r2) := hk1.cell 11
  have c12 : ((w.alloc (.cells (ec p (.slice A n c)).toArray 43)).alloc (.cells (ec q (.slice A' m c')).toArray 43)).cell? ⟨w.heap.size, 12, none⟩ = some (.int .i64 p.c2) := hk1.cell 12
  have c13 : ((w.alloc (.cells (ec p (.slice A n c)).toArray 43)).alloc (.cells (ec q (.slice A' m c')).toArray 43)).cell? ⟨w.heap.size, 13, none⟩ = some (.bool p.x2) := hk1.cell 13
  have c14 : ((w.alloc (.cells (ec p (.slice A n c)).toArray 43)).alloc (.cells (ec q (.slice A' m c')).toArray 43)).cell? ⟨w.heap.size, 14, none⟩ = some (.bool p.y2) := hk1.cell 14
  have c15 : ((w.alloc (.cells (ec p (.slice A n c)).toArray 43)).alloc (.cells (ec q (.slice A' m c')).toArray 43)).cell? ⟨w.heap.size, 15, none⟩ = some (.int .i64 p.sheet) := hk1.cell 15
  have c16 : ((w.alloc (.cells (ec p (.slice A n c)).toArray 43)).alloc (.cells (ec q (.slice A' m c')).toArray 43)).cell? ⟨w.heap.size, 16, none⟩ = some (.int .i64 p.op) := hk1.cell 16
  have c17 : ((w.alloc (.cells (ec p (.slice A n c)).toArray 43)).alloc (.cells (ec q (.slice A' m c')).toArray 43)).cell? ⟨w.heap.size, 17, none⟩ = some (.slice A n c) := hk1.cell 17
  have d0 : ((w.alloc (.cells (ec p (.slice A n c)).toArray 43)).alloc (.cells (ec q (.slice A' m c')).toArray 43)).cell? ⟨w.heap.size + 1, 0, none⟩ = some (.int .i64 q.kind) := hk2.cell 0
  have d1 : ((w.alloc (.cells (ec p (.slice A n c)).toArray 43)).alloc (.cells (ec q (.slice A' m c')).toArray 43)).cell? ⟨w.heap.size + 1, 1, none⟩ = some (.int .i64 q.vk) := hk2.cell 1
  have d2 : ((w.alloc (.cells (ec p (.slice A n c)).toArray 43)).alloc (.cells (ec q (.slice A' m c')).toArray 43)).cell? ⟨w.heap.size + 1, 2, none⟩ = some (.int .i64 q.vm) := hk2.cell 2
  have d3 : ((w.alloc (.cells (ec p (.slice A n c)).toArray 43)).alloc (.cells (ec q (.slice A' m c')).toArray 43)).cell? ⟨w.heap.size + 1, 3, none⟩ = some (.int .i64 q.vs) := hk2.cell 3
  have d4 : ((w.alloc (.cells (ec p (.slice A n c)).toArray 43)).alloc (.cells (ec q (.slice A' m c')).toArray 43)).cell? ⟨w.heap.size + 1, 4, none⟩ = some (.string q.vt) := hk2.cell 4
  have d5 : ((w.alloc (.cells (ec p (.slice A n c)).toArray 43)).alloc (.cells (ec q (.slice A' m c')).toArray 43)).cell? ⟨w.heap.size + 1, 5, none⟩ = some (.bool q.vb) := hk2.cell 5
  have d6 : ((w.alloc (.cells (ec p (.slice A n c)).toArray 43)).alloc (.cells (ec q (.slice A' m c')).toArray 43)).cell? ⟨w.heap.size + 1, 6, none⟩ = some (.int .i64 q.ve) := hk2.cell 6
  have d7 : ((w.alloc (.cells (ec p (.slice A n c)).toArray 43)).alloc (.cells (ec q (.slice A' m c')).toArray 43)).cell? ⟨w.heap.size + 1, 7, none⟩ = some (.int .i64 q.r1) := hk2.cell 7
  have d8 : ((w.alloc (.cells (ec p (.slice A n c)).toArray 43)).alloc (.cells (ec q (.slice A' m c')).toArray 43)).cell? ⟨w.heap.size + 1, 8, none⟩ = some (.int .i64 q.c1) := hk2.cell 8
  have d9 : ((w.alloc (.cells (ec p (.slice A n c)).toArray 43)).alloc (.cells (ec q (.slice A' m c')).toArray 43)).cell? ⟨w.heap.size + 1, 9, none⟩ = some (.bool q.x1) := hk2.cell 9
  have d10 : ((w.alloc (.cells (ec p (.slice A n c)).toArray 43)).alloc (.cells (ec q (.slice A' m c')).toArray 43)).cell? ⟨w.heap.size + 1, 10, none⟩ = some (.bool q.y1) := hk2.cell 10
  have d11 : ((w.alloc (.cells (ec p (.slice A n c)).toArray 43)).alloc (.cells (ec q (.slice A' m c')).toArray 43)).cell? ⟨w.heap.size + 1, 11, none⟩ = some (.int .i64 q.r2) := hk2.cell 11
  have d12 : ((w.alloc (.cells (ec p (.slice A n c)).toArray 43)).alloc (.cells (ec q (.slice A' m c')).toArray 43)).cell? ⟨w.heap.size + 1, 12, none⟩ = some (.int .i64 q.c2) := hk2.cell 12
  have d13 : ((w.alloc (.cells (ec p (.slice A n c)).toArray 43)).alloc (.cells (ec q (.slice A' m c')).toArray 43)).cell? ⟨w.heap.size + 1, 13, none⟩ = some (.bool q.x2) := hk2.cell 13
  have d14 : ((w.alloc (.cells (ec p (.slice A n c)).toArray 43)).alloc (.cells (ec q (.slice A' m c')).toArray 43)).cell? ⟨w.heap.size + 1, 14, none⟩ = some (.bool q.y2) := hk2.cell 14
  have d15 : ((w.alloc (.cells (ec p (.slice A n c)).toArray 43)).alloc (.cells (ec q (.slice A' m c')).toArray 43)).cell? ⟨w.heap.size + 1, 15, none⟩ = some (.int .i64 q.sheet) := hk2.cell 15
  have d16 : ((w.alloc (.cells (ec p (.slice A n c)).toArray 43)).alloc (.cells (ec q (.slice A' m c')).toArray 43)).cell? ⟨w.heap.size + 1, 16, none⟩ = some (.int .i64 q.op) := hk2.cell 16
  have d17 : ((w.alloc (.cells (ec p (.slice A n c)).toArray 43)).alloc (.cells (ec q (.slice A' m c')).toArray 43)).cell? ⟨w.heap.size + 1, 17, none⟩ = some (.slice A' m c') := hk2.cell 17
  have HB := Lib.hid hb1
  have HV := Lib.hid (fun W : World => same_any (w := W) p.vk p.vm p.vs p.vt p.vb p.ve q.vk q.vm q.vs q.vt q.vb q.ve)
  rw [show sameB p.vk p.vm p.vs p.vt p.vb p.ve q.vk q.vm q.vs q.vt q.vb q.ve = true from h1] at HV
  clear h1
  obtain ⟨g0, g1, g2, g3, g4, g5, g6, g7⟩ := of_decide_eq_true h2
  clear h2
  simp only [← g0, ← g1, ← g2, ← g3, ← g4, ← g5, ← g6, ← g7] at d7 d8 d9 d10 d11 d12 d13 d14
  clear g0 g1 g2 g3 g4 g5 g6 g7
  clear hb1 hk1 hk2
  go_enter Tryd.func27, Tryd.ntmps27
  repeat' (first | go_values | go_skip | go_guarded | go_step | go_upon)
  refine (HV.out _).mono ?_
  rintro x W ⟨rfl, hb⟩
  dsimp only
  have c72 := (hb.cell (p := ⟨w.heap.size, 7, none⟩) (by simp <;> omega)).trans c7
  have c82 := (hb.cell (p := ⟨w.heap.size, 8, none⟩) (by simp <;> omega)).trans c8
  have c92 := (hb.cell (p := ⟨w.heap.size, 9, none⟩) (by simp <;> omega)).trans c9
  have c102 := (hb.cell (p := ⟨w.heap.size, 10, none⟩) (by simp <;> omega)).trans c10
  have c112 := (hb.cell (p := ⟨w.heap.size, 11, none⟩) (by simp <;> omega)).trans c11
  have c122 := (hb.cell (p := ⟨w.heap.size, 12, none⟩) (by simp <;> omega)).trans c12
  have c132 := (hb.cell (p := ⟨w.heap.size, 13, none⟩) (by simp <;> omega)).trans c13
  have c142 := (hb.cell (p := ⟨w.heap.size, 14, none⟩) (by simp <;> omega)).trans c14
  have c152 := (hb.cell (p := ⟨w.heap.size, 15, none⟩) (by simp <;> omega)).trans c15
  have c162 := (hb.cell (p := ⟨w.heap.size, 16, none⟩) (by simp <;> omega)).trans c16
  have c172 := (hb.cell (p := ⟨w.heap.size, 17, none⟩) (by simp <;> omega)).trans c17
  have d72 := (hb.cell (p := ⟨w.heap.size + 1, 7, none⟩) (by simp <;> omega)).trans d7
  have d82 := (hb.cell (p := ⟨w.heap.size + 1, 8, none⟩) (by simp <;> omega)).trans d8
  have d92 := (hb.cell (p := ⟨w.heap.size + 1, 9, none⟩) (by simp <;> omega)).trans d9
  have d102 := (hb.cell (p := ⟨w.heap.size + 1, 10, none⟩) (by simp <;> omega)).trans d10
  have d112 := (hb.cell (p := ⟨w.heap.size + 1, 11, none⟩) (by simp <;> omega)).trans d11
  have d122 := (hb.cell (p := ⟨w.heap.size + 1, 12, none⟩) (by simp <;> omega)).trans d12
  have d132 := (hb.cell (p := ⟨w.heap.size + 1, 13, none⟩) (by simp <;> omega)).trans d13
  have d142 := (hb.cell (p := ⟨w.heap.size + 1, 14, none⟩) (by simp <;> omega)).trans d14
  have d152 := (hb.cell (p := ⟨w.heap.size + 1, 15, none⟩) (by simp <;> omega)).trans d15
  have d162 := (hb.cell (p := ⟨w.heap.size + 1, 16, none⟩) (by simp <;> omega)).trans d16
  have d172 := (hb.cell (p := ⟨w.heap.size + 1, 17, none⟩) (by simp <;> omega)).trans d17
  clear c0 c1 c2 c3 c4 c5 c6 c7 c8 c9 c10 c11 c12 c13 c14 c15 c16 c17 d0 d1 d2 d3 d4 d5 d6 d7 d8 d9 d10 d11 d12 d13 d14 d15 d16 d17
  repeat' (first | go_values | go_skip | go_guarded | go_step | go_upon)
  go_ret
  exact ⟨rfl, HB.out.trans (hb.mono (by simp <;> omega))⟩

set_option maxRecDepth 20000 in
set_option maxHeartbeats 4000000 in
theorem alike_6 {w : World} {p q : Pay} (A A' : Option Addr) (n c m c' : Nat) (h0 : (p.kind == q.kind) = true) (h1 : valB p q = true) (h2 : areaB p q = true) (h3 : (p.sheet == q.sheet) = true) (h4 : (p.op == q.op) = true) (h5 : ((n : Int) == (m : Int)) = true) :
    Calls Tryd.prog 27 #[.agg (ec p (.slice A n c)).toArray, .agg (ec q (.slice A' m c')).toArray] w fun x W => x = .returned (.bool true) ∧ Below w.heap.size w W := by
  have hb1 := bel1 w (.cells (ec p (.slice A n c)).toArray 43) (.cells (ec q (.slice A' m c')).toArray 43)
  have hk1 : Bk ((w.alloc (.cells (ec p (.slice A n c)).toArray 43)).alloc (.cells (ec q (.slice A' m c')).toArray 43)) w.heap.size 43 (ec p (.slice A n c)).toArray := (Bk.new w _ _).alloc _
  have hk2 : Bk ((w.alloc (.cells (ec p (.slice A n c)).toArray 43)).alloc (.cells (ec q (.slice A' m c')).toArray 43)) (w.heap.size + 1) 43 (ec q (.slice A' m c')).toArray := by simpa using Bk.new (w.alloc (.cells (ec p (.slice A n c)).toArray 43)) 43 (ec q (.slice A' m c')).toArray
  have c0 : ((w.alloc (.cells (ec p (.slice A n c)).toArray 43)).alloc (.cells (ec q (.slice A' m c')).toArray 43)).cell? ⟨w.heap.size, 0, none⟩ = some (.int .i64 p.kind) := hk1.cell 0
  have c1 : ((w.alloc (.cells (ec p (.slice A n c)).toArray 43)).alloc (.cells (ec q (.slice A' m c')).toArray 43)).cell? ⟨w.heap.size, 1, none⟩ = some (.int .i64 p.vk) := hk1.cell 1
  have c2 : ((w.alloc (.cells (ec p (.slice A n c)).toArray 43)).alloc (.cells (ec q (.slice A' m c')).toArray 43)).cell? ⟨w.heap.size, 2, none⟩ = some (.int .i64 p.vm) := hk1.cell 2
  have c3 : ((w.alloc (.cells (ec p (.slice A n c)).toArray 43)).alloc (.cells (ec q (.slice A' m c')).toArray 43)).cell? ⟨w.heap.size, 3, none⟩ = some (.int .i64 p.vs) := hk1.cell 3
  have c4 : ((w.alloc (.cells (ec p (.slice A n c)).toArray 43)).alloc (.cells (ec q (.slice A' m c')).toArray 43)).cell? ⟨w.heap.size, 4, none⟩ = some (.string p.vt) := hk1.cell 4
  have c5 : ((w.alloc (.cells (ec p (.slice A n c)).toArray 43)).alloc (.cells (ec q (.slice A' m c')).toArray 43)).cell? ⟨w.heap.size, 5, none⟩ = some (.bool p.vb) := hk1.cell 5
  have c6 : ((w.alloc (.cells (ec p (.slice A n c)).toArray 43)).alloc (.cells (ec q (.slice A' m c')).toArray 43)).cell? ⟨w.heap.size, 6, none⟩ = some (.int .i64 p.ve) := hk1.cell 6
  have c7 : ((w.alloc (.cells (ec p (.slice A n c)).toArray 43)).alloc (.cells (ec q (.slice A' m c')).toArray 43)).cell? ⟨w.heap.size, 7, none⟩ = some (.int .i64 p.r1) := hk1.cell 7
  have c8 : ((w.alloc (.cells (ec p (.slice A n c)).toArray 43)).alloc (.cells (ec q (.slice A' m c')).toArray 43)).cell? ⟨w.heap.size, 8, none⟩ = some (.int .i64 p.c1) := hk1.cell 8
  have c9 : ((w.alloc (.cells (ec p (.slice A n c)).toArray 43)).alloc (.cells (ec q (.slice A' m c')).toArray 43)).cell? ⟨w.heap.size, 9, none⟩ = some (.bool p.x1) := hk1.cell 9
  have c10 : ((w.alloc (.cells (ec p (.slice A n c)).toArray 43)).alloc (.cells (ec q (.slice A' m c')).toArray 43)).cell? ⟨w.heap.size, 10, none⟩ = some (.bool p.y1) := hk1.cell 10
  have c11 : ((w.alloc (.cells (ec p (.slice A n c)).toArray 43)).alloc (.cells (ec q (.slice A' m c')).toArray 43)).cell? ⟨w.heap.size, 11, none⟩ = some (.int .i64 p.r2) := hk1.cell 11
  have c12 : ((w.alloc (.cells (ec p (.slice A n c)).toArray 43)).alloc (.cells (ec q (.slice A' m c')).toArray 43)).cell? ⟨w.heap.size, 12, none⟩ = some (.int .i64 p.c2) := hk1.cell 12
  have c13 : ((w.alloc (.cells (ec p (.slice A n c)).toArray 43)).alloc (.cells (ec q (.slice A' m c')).toArray 43)).cell? ⟨w.heap.size, 13, none⟩ = some (.bool p.x2) := hk1.cell 13
  have c14 : ((w.alloc (.cells (ec p (.slice A n c)).toArray 43)).alloc (.cells (ec q (.slice A' m c')).toArray 43)).cell? ⟨w.heap.size, 14, none⟩ = some (.bool p.y2) := hk1.cell 14
  have c15 : ((w.alloc (.cells (ec p (.slice A n c)).toArray 43)).alloc (.cells (ec q (.slice A' m c')).toArray 43)).cell? ⟨w.heap.size, 15, none⟩ = some (.int .i64 p.sheet) := hk1.cell 15
  have c16 : ((w.alloc (.cells (ec p (.slice A n c)).toArray 43)).alloc (.cells (ec q (.slice A' m c')).toArray 43)).cell? ⟨w.heap.size, 16, none⟩ = some (.int .i64 p.op) := hk1.cell 16
  have c17 : ((w.alloc (.cells (ec p (.slice A n c)).toArray 43)).alloc (.cells (ec q (.slice A' m c')).toArray 43)).cell? ⟨w.heap.size, 17, none⟩ = some (.slice A n c) := hk1.cell 17
  have d0 : ((w.alloc (.cells (ec p (.slice A n c)).toArray 43)).alloc (.cells (ec q (.slice A' m c')).toArray 43)).cell? ⟨w.heap.size + 1, 0, none⟩ = some (.int .i64 q.kind) := hk2.cell 0
  have d1 : ((w.alloc (.cells (ec p (.slice A n c)).toArray 43)).alloc (.cells (ec q (.slice A' m c')).toArray 43)).cell? ⟨w.heap.size + 1, 1, none⟩ = some (.int .i64 q.vk) := hk2.cell 1
  have d2 : ((w.alloc (.cells (ec p (.slice A n c)).toArray 43)).alloc (.cells (ec q (.slice A' m c')).toArray 43)).cell? ⟨w.heap.size + 1, 2, none⟩ = some (.int .i64 q.vm) := hk2.cell 2
  have d3 : ((w.alloc (.cells (ec p (.slice A n c)).toArray 43)).alloc (.cells (ec q (.slice A' m c')).toArray 43)).cell? ⟨w.heap.size + 1, 3, none⟩ = some (.int .i64 q.vs) := hk2.cell 3
  have d4 : ((w.alloc (.cells (ec p (.slice A n c)).toArray 43)).alloc (.cells (ec q (.slice A' m c')).toArray 43)).cell? ⟨w.heap.size + 1, 4, none⟩ = some (.string q.vt) := hk2.cell 4
  have d5 : ((w.alloc (.cells (ec p (.slice A n c)).toArray 43)).alloc (.cells (ec q (.slice A' m c')).toArray 43)).cell? ⟨w.heap.size + 1, 5, none⟩ = some (.bool q.vb) := hk2.cell 5
  have d6 : ((w.alloc (.cells (ec p (.slice A n c)).toArray 43)).alloc (.cells (ec q (.slice A' m c')).toArray 43)).cell? ⟨w.heap.size + 1, 6, none⟩ = some (.int .i64 q.ve) := hk2.cell 6
  have d7 : ((w.alloc (.cells (ec p (.slice A n c)).toArray 43)).alloc (.cells (ec q (.slice A' m c')).toArray 43)).cell? ⟨w.heap.size + 1, 7, none⟩ = some (.int .i64 q.r1) := hk2.cell 7
  have d8 : ((w.alloc (.cells (ec p (.slice A n c)).toArray 43)).alloc (.cells (ec q (.slice A' m c')).toArray 43)).cell? ⟨w.heap.size + 1, 8, none⟩ = some (.int .i64 q.c1) := hk2.cell 8
  have d9 : ((w.alloc (.cells (ec p (.slice A n c)).toArray 43)).alloc (.cells (ec q (.slice A' m c')).toArray 43)).cell? ⟨w.heap.size + 1, 9, none⟩ = some (.bool q.x1) := hk2.cell 9
  have d10 : ((w.alloc (.cells (ec p (.slice A n c)).toArray 43)).alloc (.cells (ec q (.slice A' m c')).toArray 43)).cell? ⟨w.heap.size + 1, 10, none⟩ = some (.bool q.y1) := hk2.cell 10
  have d11 : ((w.alloc (.cells (ec p (.slice A n c)).toArray 43)).alloc (.cells (ec q (.slice A' m c')).toArray 43)).cell? ⟨w.heap.size + 1, 11, none⟩ = some (.int .i64 q.r2) := hk2.cell 11
  have d12 : ((w.alloc (.cells (ec p (.slice A n c)).toArray 43)).alloc (.cells (ec q (.slice A' m c')).toArray 43)).cell? ⟨w.heap.size + 1, 12, none⟩ = some (.int .i64 q.c2) := hk2.cell 12
  have d13 : ((w.alloc (.cells (ec p (.slice A n c)).toArray 43)).alloc (.cells (ec q (.slice A' m c')).toArray 43)).cell? ⟨w.heap.size + 1, 13, none⟩ = some (.bool q.x2) := hk2.cell 13
  have d14 : ((w.alloc (.cells (ec p (.slice A n c)).toArray 43)).alloc (.cells (ec q (.slice A' m c')).toArray 43)).cell? ⟨w.heap.size + 1, 14, none⟩ = some (.bool q.y2) := hk2.cell 14
  have d15 : ((w.alloc (.cells (ec p (.slice A n c)).toArray 43)).alloc (.cells (ec q (.slice A' m c')).toArray 43)).cell? ⟨w.heap.size + 1, 15, none⟩ = some (.int .i64 q.sheet) := hk2.cell 15
  have d16 : ((w.alloc (.cells (ec p (.slice A n c)).toArray 43)).alloc (.cells (ec q (.slice A' m c')).toArray 43)).cell? ⟨w.heap.size + 1, 16, none⟩ = some (.int .i64 q.op) := hk2.cell 16
  have d17 : ((w.alloc (.cells (ec p (.slice A n c)).toArray 43)).alloc (.cells (ec q (.slice A' m c')).toArray 43)).cell? ⟨w.heap.size + 1, 17, none⟩ = some (.slice A' m c') := hk2.cell 17
  have HB := Lib.hid hb1
  have HV := Lib.hid (fun W : World => same_any (w := W) p.vk p.vm p.vs p.vt p.vb p.ve q.vk q.vm q.vs q.vt q.vb q.ve)
  rw [show sameB p.vk p.vm p.vs p.vt p.vb p.ve q.vk q.vm q.vs q.vt q.vb q.ve = true from h1] at HV
  clear h1
  obtain ⟨g0, g1, g2, g3, g4, g5, g6, g7⟩ := of_decide_eq_true h2
  clear h2
  simp only [← g0, ← g1, ← g2, ← g3, ← g4, ← g5, ← g6, ← g7] at d7 d8 d9 d10 d11 d12 d13 d14
  clear g0 g1 g2 g3 g4 g5 g6 g7
  clear hb1 hk1 hk2
  go_enter Tryd.func27, Tryd.ntmps27
  repeat' (first | go_values | go_skip | go_guarded | go_step | go_upon)
  refine (HV.out _).mono ?_
  rintro x W ⟨rfl, hb⟩
  dsimp only
  have c72 := (hb.cell (p := ⟨w.heap.size, 7, none⟩) (by simp <;> omega)).trans c7
  have c82 := (hb.cell (p := ⟨w.heap.size, 8, none⟩) (by simp <;> omega)).trans c8
  have c92 := (hb.cell (p := ⟨w.heap.size, 9, none⟩) (by simp <;> omega)).trans c9
  have c102 := (hb.cell (p := ⟨w.heap.size, 10, none⟩) (by simp <;> omega)).trans c10
  have c112 := (hb.cell (p := ⟨w.heap.size, 11, none⟩) (by simp <;> omega)).trans c11
  have c122 := (hb.cell (p := ⟨w.heap.size, 12, none⟩) (by simp <;> omega)).trans c12
  have c132 := (hb.cell (p := ⟨w.heap.size, 13, none⟩) (by simp <;> omega)).trans c13
  have c142 := (hb.cell (p := ⟨w.heap.size, 14, none⟩) (by simp <;> omega)).trans c14
  have c152 := (hb.cell (p := ⟨w.heap.size, 15, none⟩) (by simp <;> omega)).trans c15
  have c162 := (hb.cell (p := ⟨w.heap.size, 16, none⟩) (by simp <;> omega)).trans c16
  have c172 := (hb.cell (p := ⟨w.heap.size, 17, none⟩) (by simp <;> omega)).trans c17
  have d72 := (hb.cell (p := ⟨w.heap.size + 1, 7, none⟩) (by simp <;> omega)).trans d7
  have d82 := (hb.cell (p := ⟨w.heap.size + 1, 8, none⟩) (by simp <;> omega)).trans d8
  have d92 := (hb.cell (p := ⟨w.heap.size + 1, 9, none⟩) (by simp <;> omega)).trans d9
  have d102 := (hb.cell (p := ⟨w.heap.size + 1, 10, none⟩) (by simp <;> omega)).trans d10
  have d112 := (hb.cell (p := ⟨w.heap.size + 1, 11, none⟩) (by simp <;> omega)).trans d11
  have d122 := (hb.cell (p := ⟨w.heap.size + 1, 12, none⟩) (by simp <;> omega)).trans d12
  have d132 := (hb.cell (p := ⟨w.heap.size + 1, 13, none⟩) (by simp <;> omega)).trans d13
  have d142 := (hb.cell (p := ⟨w.heap.size + 1, 14, none⟩) (by simp <;> omega)).trans d14
  have d152 := (hb.cell (p := ⟨w.heap.size + 1, 15, none⟩) (by simp <;> omega)).trans d15
  have d162 := (hb.cell (p := ⟨w.heap.size + 1, 16, none⟩) (by simp <;> omega)).trans d16
  have d172 := (hb.cell (p := ⟨w.heap.size + 1, 17, none⟩) (by simp <;> omega)).trans d17
  clear c0 c1 c2 c3 c4 c5 c6 c7 c8 c9 c10 c11 c12 c13 c14 c15 c16 c17 d0 d1 d2 d3 d4 d5 d6 d7 d8 d9 d10 d11 d12 d13 d14 d15 d16 d17
  repeat' (first | go_values | go_skip | go_guarded | go_step | go_upon)
  go_ret
  exact ⟨rfl, HB.out.trans (hb.mono (by simp <;> omega))⟩

theorem alike_any {w : World} (p q : Pay) (A A' : Option Addr) (n c m c' : Nat) :
    Calls Tryd.prog 27 #[.agg (ec p (.slice A n c)).toArray, .agg (ec q (.slice A' m c')).toArray] w fun x W => x = .returned (.bool (alikeB p q n m)) ∧ Below w.heap.size w W := by
  have e : alikeB p q n m = (decide (p.kind = q.kind) && (valB p q && (areaB p q && (decide (p.sheet = q.sheet) && (decide (p.op = q.op) && decide (n = m)))))) := rfl
  by_cases h0 : p.kind = q.kind
  · have b0 : (p.kind == q.kind) = true := by simpa using h0
    cases h1 : valB p q with
    | false => rw [e, h1, Bool.false_and, Bool.and_false]; exact alike_1 A A' n c m c' b0 h1
    | true =>
      cases h2 : areaB p q with
      | false => rw [e, h2, Bool.false_and, Bool.and_false, Bool.and_false]; exact alike_2 A A' n c m c' b0 h1 h2
      | true =>
        by_cases h3 : p.sheet = q.sheet
        · have b3 : (p.sheet == q.sheet) = true := by simpa using h3
          by_cases h4 : p.op = q.op
          · have b4 : (p.op == q.op) = true := by simpa using h4
            by_cases h5 : n = m
            · rw [e, h1, h2, decide_eq_true h0, decide_eq_true h3, decide_eq_true h4, decide_eq_true h5]
              exact alike_6 A A' n c m c' b0 h1 h2 b3 b4 (by rw [beq_iff_eq]; omega)
            · rw [e, decide_eq_false h5, Bool.and_false, Bool.and_false, Bool.and_false, Bool.and_false, Bool.and_false]
              exact alike_5 A A' n c m c' b0 h1 h2 b3 b4 (by rw [beq_eq_false_iff_ne]; omega)
          · rw [e, decide_eq_false h4, Bool.false_and, Bool.and_false, Bool.and_false, Bool.and_false, Bool.and_false]
            exact alike_4 A A' n c m c' b0 h1 h2 b3 (by simpa using h4)
        · rw [e, decide_eq_false h3, Bool.false_and, Bool.and_false, Bool.and_false, Bool.and_false]
          exact alike_3 A A' n c m c' b0 h1 h2 (by simpa using h3)
  · rw [e, decide_eq_false h0, Bool.false_and]
    exact alike_0 A A' n c m c' (by simpa using h0)
end Go.Proofs.YtofbmlfpkcociaaDoor
