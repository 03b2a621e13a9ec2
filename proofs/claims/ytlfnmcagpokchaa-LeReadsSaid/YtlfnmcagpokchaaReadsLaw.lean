/- LeReads by its contract: it returns true. Condition: the bytes read as such. -/
import Derived.Test.YtlfnmcagpokchaaKnown3
import Derived.Test.YtlfnmcagpokchaaLow
import Derived.Test.YtlfnmcagpokchaaGet
import Derived.Test.YtlfnmcagpokchaaSame3
import Derived.Test.YtlfnmcagpokchaaLit
namespace Go.Proofs.Ytlfnmcagpokchaa
open Go.RowKit

theorem sameB_self (x : Int) (l : List UInt8) : sameB x x l l = true := by simp [sameB]
theorem two_boxes2 {w : World} {T T' : TypeId} {cs ds : Array Value} : Bk ((w.alloc (.cells cs T)).alloc (.cells ds T')) w.heap.size T cs ∧ Bk ((w.alloc (.cells cs T)).alloc (.cells ds T')) (w.heap.size + 1) T' ds := by
  refine ⟨(Bk.new w T cs).alloc _, ?_⟩
  have := Bk.new (w.alloc (.cells cs T)) T' ds
  rwa [show (w.alloc (.cells cs T)).heap.size = w.heap.size + 1 by simp] at this

set_option maxHeartbeats 8000000 in
set_option maxRecDepth 100000 in
theorem reads_walk {w : World} {B n c m1 m2 m4 m8 : Nat} {at_ k a1 a2 a4 a8 ab e1 e2 e4 e8 eb en x8 : Int} {A : Option Addr} {l L : List UInt8} (h : Rd w B 1 A n (l.map bv)) (hB : B ≤ w.heap.size) (hn : n ≤ 200) (h1 : m1 < 256) (h2 : m2 < 65536) (h4 : m4 < 4294967296) (h8 : IntKind.i64.wrap (m8 : Int) = x8)
    (H1 : Hid (∀ W : World, Rd W B 1 A n (l.map bv) → B ≤ W.heap.size → Calls Try.prog 8 #[.agg #[.slice A n c, .int .i64 at_]] W fun e w' => e = .returned (.tuple #[.int .i64 m1, .agg #[.slice A n c, .int .i64 a1], .int .i64 e1]) ∧ Below W.heap.size W w'))
    (H2 : Hid (∀ W : World, Rd W B 1 A n (l.map bv) → B ≤ W.heap.size → Calls Try.prog 9 #[.agg #[.slice A n c, .int .i64 at_], .int .i64 1] W fun e w' => e = .returned (.tuple #[.int .u64 m1, .agg #[.slice A n c, .int .i64 a1], .int .i64 e1]) ∧ Below W.heap.size W w'))
    (H3 : Hid (∀ W : World, Rd W B 1 A n (l.map bv) → B ≤ W.heap.size → Calls Try.prog 10 #[.agg #[.slice A n c, .int .i64 at_]] W fun e w' => e = .returned (.tuple #[.int .i64 m2, .agg #[.slice A n c, .int .i64 a2], .int .i64 e2]) ∧ Below W.heap.size W w'))
    (H4 : Hid (∀ W : World, Rd W B 1 A n (l.map bv) → B ≤ W.heap.size → Calls Try.prog 9 #[.agg #[.slice A n c, .int .i64 at_], .int .i64 2] W fun e w' => e = .returned (.tuple #[.int .u64 m2, .agg #[.slice A n c, .int .i64 a2], .int .i64 e2]) ∧ Below W.heap.size W w'))
    (H5 : Hid (∀ W : World, Rd W B 1 A n (l.map bv) → B ≤ W.heap.size → Calls Try.prog 11 #[.agg #[.slice A n c, .int .i64 at_]] W fun e w' => e = .returned (.tuple #[.int .i64 m4, .agg #[.slice A n c, .int .i64 a4], .int .i64 e4]) ∧ Below W.heap.size W w'))
    (H6 : Hid (∀ W : World, Rd W B 1 A n (l.map bv) → B ≤ W.heap.size → Calls Try.prog 9 #[.agg #[.slice A n c, .int .i64 at_], .int .i64 4] W fun e w' => e = .returned (.tuple #[.int .u64 m4, .agg #[.slice A n c, .int .i64 a4], .int .i64 e4]) ∧ Below W.heap.size W w'))
    (H7 : Hid (∀ W : World, Rd W B 1 A n (l.map bv) → B ≤ W.heap.size → Calls Try.prog 12 #[.agg #[.slice A n c, .int .i64 at_]] W fun e w' => e = .returned (.tuple #[.int .i64 x8, .agg #[.slice A n c, .int .i64 a8], .int .i64 e8]) ∧ Below W.heap.size W w'))
    (H8 : Hid (∀ W : World, Rd W B 1 A n (l.map bv) → B ≤ W.heap.size → Calls Try.prog 9 #[.agg #[.slice A n c, .int .i64 at_], .int .i64 8] W fun e w' => e = .returned (.tuple #[.int .u64 m8, .agg #[.slice A n c, .int .i64 a8], .int .i64 e8]) ∧ Below W.heap.size W w'))
    (H9 : Hid (∀ W : World, Rd W B 1 A n (l.map bv) → B ≤ W.heap.size → Calls Try.prog 13 #[.agg #[.slice A n c, .int .i64 at_], .int .i64 k] W fun e w' => ∃ v', e = .returned (.tuple #[v', .agg #[.slice A n c, .int .i64 ab], .int .i64 eb]) ∧ w'.ownsRow W.heap.size 5 1 v' L.length (L.map bv) ∧ Below W.heap.size W w'))
    (H10 : Hid (∀ W : World, Rd W B 1 A n (l.map bv) → B ≤ W.heap.size → Calls Try.prog 14 #[.agg #[.slice A n c, .int .i64 at_], .int .i64 k] W fun e w' => ∃ v', e = .returned (.tuple #[v', .agg #[.slice A n c, .int .i64 ab], .int .i64 eb]) ∧ w'.ownsRow W.heap.size 5 1 v' L.length (L.map bv) ∧ Below W.heap.size W w'))
    (H11 : Hid (∀ W : World, Calls Try.prog 15 #[.agg #[.slice A n c, .int .i64 at_]] W fun e w' => e = .returned (.int .i64 en) ∧ Below W.heap.size W w'))
    (H12 : Hid (∀ W : World, Calls Try.prog 16 #[.agg #[.slice A n c, .int .i64 at_]] W fun e w' => e = .returned (.int .i64 en) ∧ Below W.heap.size W w')) :
    Calls Try.prog 3 #[.slice A n c, .int .i64 at_, .int .i64 k] w fun e w' => e = .returned (.bool true) ∧ Below w.heap.size w w' := by
  go_enter Try.func3, Try.ntmps3
  go_wp2_with fail
  refine (known3_any w).mono ?_
  rintro e w0 ⟨rfl, hb0⟩
  have r0 := h.belowMono hb0 hB
  have z0 : B ≤ w0.heap.size := Nat.le_trans hB hb0.size
  have b0 : Below w.heap.size w ((w0.alloc (.cells #[.slice A n c, .int .i64 at_] 25)).alloc (.cells #[.slice A n c, .int .i64 at_] 26)) := (hb0.alloc hb0.size _).alloc (by simp; have := hb0.size; omega) _
  have R0 : Hid (Rd ((w0.alloc (.cells #[.slice A n c, .int .i64 at_] 25)).alloc (.cells #[.slice A n c, .int .i64 at_] 26)) B 1 A n (l.map bv)) := Lib.hid ((r0.alloc z0 _).alloc (by simp; omega) _)
  have z0' : B ≤ ((w0.alloc (.cells #[.slice A n c, .int .i64 at_] 25)).alloc (.cells #[.slice A n c, .int .i64 at_] 26)).heap.size := by simp; omega
  have K7 := Lib.hid (two_boxes2 (w := w0) (T := 25) (T' := 26) (cs := #[.slice A n c, .int .i64 at_]) (ds := #[.slice A n c, .int .i64 at_])).1
  have K8 := Lib.hid (two_boxes2 (w := w0) (T := 25) (T' := 26) (cs := #[.slice A n c, .int .i64 at_]) (ds := #[.slice A n c, .int .i64 at_])).2
  clear r0 hb0 z0
  have c0 := K7.out.cell 0
  have c1 := K7.out.cell 1
  go_wp2_with fail
  refine (H1.out _ R0.out z0').mono ?_
  rintro e w1 ⟨rfl, hb1⟩
  clear c0 c1
  have R1 := Lib.hid (R0.out.cl z0' hb1 (.cells #[.slice A n c, .int .i64 a1] 25))
  have z1' : B ≤ (w1.alloc (.cells #[.slice A n c, .int .i64 a1] 25)).heap.size := Nat.le_trans z0' (Nat.le_trans hb1.size (by simp))
  have b1 := bel_cl b0 hb1 (.cells #[.slice A n c, .int .i64 a1] 25)
  have K7' := Lib.hid (K7.out.cl hb1 (.cells #[.slice A n c, .int .i64 a1] 25))
  clear K7
  have K7 := K7'
  clear K7'
  have K8' := Lib.hid (K8.out.cl hb1 (.cells #[.slice A n c, .int .i64 a1] 25))
  clear K8
  have K8 := K8'
  clear K8'
  clear R0 z0' b0 hb1
  have K10 := Lib.hid (Bk.new w1 25 #[.slice A n c, .int .i64 a1])
  have c0 := K8.out.cell 0
  have c1 := K8.out.cell 1
  go_wp2_with fail
  refine (H2.out _ R1.out z1').mono ?_
  rintro e w2 ⟨rfl, hb2⟩
  clear c0 c1
  have R2 := Lib.hid (R1.out.cl z1' hb2 (.cells #[.slice A n c, .int .i64 a1] 26))
  have z2' : B ≤ (w2.alloc (.cells #[.slice A n c, .int .i64 a1] 26)).heap.size := Nat.le_trans z1' (Nat.le_trans hb2.size (by simp))
  have b2 := bel_cl b1 hb2 (.cells #[.slice A n c, .int .i64 a1] 26)
  have K7' := Lib.hid (K7.out.cl hb2 (.cells #[.slice A n c, .int .i64 a1] 26))
  clear K7
  have K7 := K7'
  clear K7'
  have K8' := Lib.hid (K8.out.cl hb2 (.cells #[.slice A n c, .int .i64 a1] 26))
  clear K8
  have K8 := K8'
  clear K8'
  have K10' := Lib.hid (K10.out.cl hb2 (.cells #[.slice A n c, .int .i64 a1] 26))
  clear K10
  have K10 := K10'
  clear K10'
  clear R1 z1' b1 hb2
  have K13 := Lib.hid (Bk.new w2 26 #[.slice A n c, .int .i64 a1])
  have c0 := K7.out.cell 0
  have c1 := K7.out.cell 1
  go_wp2_with fail
  refine (H3.out _ R2.out z2').mono ?_
  rintro e w3 ⟨rfl, hb3⟩
  clear c0 c1
  have R3 := Lib.hid (R2.out.cl z2' hb3 (.cells #[.slice A n c, .int .i64 a2] 25))
  have z3' : B ≤ (w3.alloc (.cells #[.slice A n c, .int .i64 a2] 25)).heap.size := Nat.le_trans z2' (Nat.le_trans hb3.size (by simp))
  have b3 := bel_cl b2 hb3 (.cells #[.slice A n c, .int .i64 a2] 25)
  have K7' := Lib.hid (K7.out.cl hb3 (.cells #[.slice A n c, .int .i64 a2] 25))
  clear K7
  have K7 := K7'
  clear K7'
  have K8' := Lib.hid (K8.out.cl hb3 (.cells #[.slice A n c, .int .i64 a2] 25))
  clear K8
  have K8 := K8'
  clear K8'
  have K10' := Lib.hid (K10.out.cl hb3 (.cells #[.slice A n c, .int .i64 a2] 25))
  clear K10
  have K10 := K10'
  clear K10'
  have K13' := Lib.hid (K13.out.cl hb3 (.cells #[.slice A n c, .int .i64 a2] 25))
  clear K13
  have K13 := K13'
  clear K13'
  clear R2 z2' b2 hb3
  have K16 := Lib.hid (Bk.new w3 25 #[.slice A n c, .int .i64 a2])
  have c0 := K8.out.cell 0
  have c1 := K8.out.cell 1
  go_wp2_with fail
  refine (H4.out _ R3.out z3').mono ?_
  rintro e w4 ⟨rfl, hb4⟩
  clear c0 c1
  have R4 := Lib.hid (R3.out.cl z3' hb4 (.cells #[.slice A n c, .int .i64 a2] 26))
  have z4' : B ≤ (w4.alloc (.cells #[.slice A n c, .int .i64 a2] 26)).heap.size := Nat.le_trans z3' (Nat.le_trans hb4.size (by simp))
  have b4 := bel_cl b3 hb4 (.cells #[.slice A n c, .int .i64 a2] 26)
  have K7' := Lib.hid (K7.out.cl hb4 (.cells #[.slice A n c, .int .i64 a2] 26))
  clear K7
  have K7 := K7'
  clear K7'
  have K8' := Lib.hid (K8.out.cl hb4 (.cells #[.slice A n c, .int .i64 a2] 26))
  clear K8
  have K8 := K8'
  clear K8'
  have K10' := Lib.hid (K10.out.cl hb4 (.cells #[.slice A n c, .int .i64 a2] 26))
  clear K10
  have K10 := K10'
  clear K10'
  have K13' := Lib.hid (K13.out.cl hb4 (.cells #[.slice A n c, .int .i64 a2] 26))
  clear K13
  have K13 := K13'
  clear K13'
  have K16' := Lib.hid (K16.out.cl hb4 (.cells #[.slice A n c, .int .i64 a2] 26))
  clear K16
  have K16 := K16'
  clear K16'
  clear R3 z3' b3 hb4
  have K19 := Lib.hid (Bk.new w4 26 #[.slice A n c, .int .i64 a2])
  have c0 := K7.out.cell 0
  have c1 := K7.out.cell 1
  go_wp2_with fail
  refine (H5.out _ R4.out z4').mono ?_
  rintro e w5 ⟨rfl, hb5⟩
  clear c0 c1
  have R5 := Lib.hid (R4.out.cl z4' hb5 (.cells #[.slice A n c, .int .i64 a4] 25))
  have z5' : B ≤ (w5.alloc (.cells #[.slice A n c, .int .i64 a4] 25)).heap.size := Nat.le_trans z4' (Nat.le_trans hb5.size (by simp))
  have b5 := bel_cl b4 hb5 (.cells #[.slice A n c, .int .i64 a4] 25)
  have K7' := Lib.hid (K7.out.cl hb5 (.cells #[.slice A n c, .int .i64 a4] 25))
  clear K7
  have K7 := K7'
  clear K7'
  have K8' := Lib.hid (K8.out.cl hb5 (.cells #[.slice A n c, .int .i64 a4] 25))
  clear K8
  have K8 := K8'
  clear K8'
  have K10' := Lib.hid (K10.out.cl hb5 (.cells #[.slice A n c, .int .i64 a4] 25))
  clear K10
  have K10 := K10'
  clear K10'
  have K13' := Lib.hid (K13.out.cl hb5 (.cells #[.slice A n c, .int .i64 a4] 25))
  clear K13
  have K13 := K13'
  clear K13'
  have K16' := Lib.hid (K16.out.cl hb5 (.cells #[.slice A n c, .int .i64 a4] 25))
  clear K16
  have K16 := K16'
  clear K16'
  have K19' := Lib.hid (K19.out.cl hb5 (.cells #[.slice A n c, .int .i64 a4] 25))
  clear K19
  have K19 := K19'
  clear K19'
  clear R4 z4' b4 hb5
  have K22 := Lib.hid (Bk.new w5 25 #[.slice A n c, .int .i64 a4])
  have c0 := K8.out.cell 0
  have c1 := K8.out.cell 1
  go_wp2_with fail
  refine (H6.out _ R5.out z5').mono ?_
  rintro e w6 ⟨rfl, hb6⟩
  clear c0 c1
  have R6 := Lib.hid (R5.out.cl z5' hb6 (.cells #[.slice A n c, .int .i64 a4] 26))
  have z6' : B ≤ (w6.alloc (.cells #[.slice A n c, .int .i64 a4] 26)).heap.size := Nat.le_trans z5' (Nat.le_trans hb6.size (by simp))
  have b6 := bel_cl b5 hb6 (.cells #[.slice A n c, .int .i64 a4] 26)
  have K7' := Lib.hid (K7.out.cl hb6 (.cells #[.slice A n c, .int .i64 a4] 26))
  clear K7
  have K7 := K7'
  clear K7'
  have K8' := Lib.hid (K8.out.cl hb6 (.cells #[.slice A n c, .int .i64 a4] 26))
  clear K8
  have K8 := K8'
  clear K8'
  have K10' := Lib.hid (K10.out.cl hb6 (.cells #[.slice A n c, .int .i64 a4] 26))
  clear K10
  have K10 := K10'
  clear K10'
  have K13' := Lib.hid (K13.out.cl hb6 (.cells #[.slice A n c, .int .i64 a4] 26))
  clear K13
  have K13 := K13'
  clear K13'
  have K16' := Lib.hid (K16.out.cl hb6 (.cells #[.slice A n c, .int .i64 a4] 26))
  clear K16
  have K16 := K16'
  clear K16'
  have K19' := Lib.hid (K19.out.cl hb6 (.cells #[.slice A n c, .int .i64 a4] 26))
  clear K19
  have K19 := K19'
  clear K19'
  have K22' := Lib.hid (K22.out.cl hb6 (.cells #[.slice A n c, .int .i64 a4] 26))
  clear K22
  have K22 := K22'
  clear K22'
  clear R5 z5' b5 hb6
  have K25 := Lib.hid (Bk.new w6 26 #[.slice A n c, .int .i64 a4])
  have c0 := K7.out.cell 0
  have c1 := K7.out.cell 1
  go_wp2_with fail
  refine (H7.out _ R6.out z6').mono ?_
  rintro e w7 ⟨rfl, hb7⟩
  clear c0 c1
  have R7 := Lib.hid (R6.out.cl z6' hb7 (.cells #[.slice A n c, .int .i64 a8] 25))
  have z7' : B ≤ (w7.alloc (.cells #[.slice A n c, .int .i64 a8] 25)).heap.size := Nat.le_trans z6' (Nat.le_trans hb7.size (by simp))
  have b7 := bel_cl b6 hb7 (.cells #[.slice A n c, .int .i64 a8] 25)
  have K7' := Lib.hid (K7.out.cl hb7 (.cells #[.slice A n c, .int .i64 a8] 25))
  clear K7
  have K7 := K7'
  clear K7'
  have K8' := Lib.hid (K8.out.cl hb7 (.cells #[.slice A n c, .int .i64 a8] 25))
  clear K8
  have K8 := K8'
  clear K8'
  have K10' := Lib.hid (K10.out.cl hb7 (.cells #[.slice A n c, .int .i64 a8] 25))
  clear K10
  have K10 := K10'
  clear K10'
  have K13' := Lib.hid (K13.out.cl hb7 (.cells #[.slice A n c, .int .i64 a8] 25))
  clear K13
  have K13 := K13'
  clear K13'
  have K16' := Lib.hid (K16.out.cl hb7 (.cells #[.slice A n c, .int .i64 a8] 25))
  clear K16
  have K16 := K16'
  clear K16'
  have K19' := Lib.hid (K19.out.cl hb7 (.cells #[.slice A n c, .int .i64 a8] 25))
  clear K19
  have K19 := K19'
  clear K19'
  have K22' := Lib.hid (K22.out.cl hb7 (.cells #[.slice A n c, .int .i64 a8] 25))
  clear K22
  have K22 := K22'
  clear K22'
  have K25' := Lib.hid (K25.out.cl hb7 (.cells #[.slice A n c, .int .i64 a8] 25))
  clear K25
  have K25 := K25'
  clear K25'
  clear R6 z6' b6 hb7
  have K28 := Lib.hid (Bk.new w7 25 #[.slice A n c, .int .i64 a8])
  have c0 := K8.out.cell 0
  have c1 := K8.out.cell 1
  go_wp2_with fail
  refine (H8.out _ R7.out z7').mono ?_
  rintro e w8 ⟨rfl, hb8⟩
  clear c0 c1
  have R8 := Lib.hid (R7.out.cl z7' hb8 (.cells #[.slice A n c, .int .i64 a8] 26))
  have z8' : B ≤ (w8.alloc (.cells #[.slice A n c, .int .i64 a8] 26)).heap.size := Nat.le_trans z7' (Nat.le_trans hb8.size (by simp))
  have b8 := bel_cl b7 hb8 (.cells #[.slice A n c, .int .i64 a8] 26)
  have K7' := Lib.hid (K7.out.cl hb8 (.cells #[.slice A n c, .int .i64 a8] 26))
  clear K7
  have K7 := K7'
  clear K7'
  have K8' := Lib.hid (K8.out.cl hb8 (.cells #[.slice A n c, .int .i64 a8] 26))
  clear K8
  have K8 := K8'
  clear K8'
  have K10' := Lib.hid (K10.out.cl hb8 (.cells #[.slice A n c, .int .i64 a8] 26))
  clear K10
  have K10 := K10'
  clear K10'
  have K13' := Lib.hid (K13.out.cl hb8 (.cells #[.slice A n c, .int .i64 a8] 26))
  clear K13
  have K13 := K13'
  clear K13'
  have K16' := Lib.hid (K16.out.cl hb8 (.cells #[.slice A n c, .int .i64 a8] 26))
  clear K16
  have K16 := K16'
  clear K16'
  have K19' := Lib.hid (K19.out.cl hb8 (.cells #[.slice A n c, .int .i64 a8] 26))
  clear K19
  have K19 := K19'
  clear K19'
  have K22' := Lib.hid (K22.out.cl hb8 (.cells #[.slice A n c, .int .i64 a8] 26))
  clear K22
  have K22 := K22'
  clear K22'
  have K25' := Lib.hid (K25.out.cl hb8 (.cells #[.slice A n c, .int .i64 a8] 26))
  clear K25
  have K25 := K25'
  clear K25'
  have K28' := Lib.hid (K28.out.cl hb8 (.cells #[.slice A n c, .int .i64 a8] 26))
  clear K28
  have K28 := K28'
  clear K28'
  clear R7 z7' b7 hb8
  have K31 := Lib.hid (Bk.new w8 26 #[.slice A n c, .int .i64 a8])
  have c0 := K7.out.cell 0
  have c1 := K7.out.cell 1
  go_wp2_with fail
  refine (H9.out _ R8.out z8').mono ?_
  rintro e w9 ⟨v9, rfl, ho9, hb9⟩
  clear c0 c1
  obtain ⟨A9, c9, rfl, -, -, r9⟩ := own_open ho9
  clear ho9
  have R9 := Lib.hid (R8.out.cl z8' hb9 (.cells #[.slice A n c, .int .i64 ab] 25))
  have z9' : B ≤ (w9.alloc (.cells #[.slice A n c, .int .i64 ab] 25)).heap.size := Nat.le_trans z8' (Nat.le_trans hb9.size (by simp))
  have b9 := bel_cl b8 hb9 (.cells #[.slice A n c, .int .i64 ab] 25)
  have K7' := Lib.hid (K7.out.cl hb9 (.cells #[.slice A n c, .int .i64 ab] 25))
  clear K7
  have K7 := K7'
  clear K7'
  have K8' := Lib.hid (K8.out.cl hb9 (.cells #[.slice A n c, .int .i64 ab] 25))
  clear K8
  have K8 := K8'
  clear K8'
  have K10' := Lib.hid (K10.out.cl hb9 (.cells #[.slice A n c, .int .i64 ab] 25))
  clear K10
  have K10 := K10'
  clear K10'
  have K13' := Lib.hid (K13.out.cl hb9 (.cells #[.slice A n c, .int .i64 ab] 25))
  clear K13
  have K13 := K13'
  clear K13'
  have K16' := Lib.hid (K16.out.cl hb9 (.cells #[.slice A n c, .int .i64 ab] 25))
  clear K16
  have K16 := K16'
  clear K16'
  have K19' := Lib.hid (K19.out.cl hb9 (.cells #[.slice A n c, .int .i64 ab] 25))
  clear K19
  have K19 := K19'
  clear K19'
  have K22' := Lib.hid (K22.out.cl hb9 (.cells #[.slice A n c, .int .i64 ab] 25))
  clear K22
  have K22 := K22'
  clear K22'
  have K25' := Lib.hid (K25.out.cl hb9 (.cells #[.slice A n c, .int .i64 ab] 25))
  clear K25
  have K25 := K25'
  clear K25'
  have K28' := Lib.hid (K28.out.cl hb9 (.cells #[.slice A n c, .int .i64 ab] 25))
  clear K28
  have K28 := K28'
  clear K28'
  have K31' := Lib.hid (K31.out.cl hb9 (.cells #[.slice A n c, .int .i64 ab] 25))
  clear K31
  have K31 := K31'
  clear K31'
  clear R8 z8' b8 hb9
  have K34 := Lib.hid (Bk.new w9 25 #[.slice A n c, .int .i64 ab])
  have S9 := Lib.hid (r9.alloc (Nat.le_refl _) (.cells #[.slice A n c, .int .i64 ab] 25))
  have S9z : w9.heap.size ≤ (w9.alloc (.cells #[.slice A n c, .int .i64 ab] 25)).heap.size := by simp
  clear r9
  have c0 := K8.out.cell 0
  have c1 := K8.out.cell 1
  go_wp2_with fail
  refine (H10.out _ R9.out z9').mono ?_
  rintro e w10 ⟨v10, rfl, ho10, hb10⟩
  clear c0 c1
  obtain ⟨A10, c10, rfl, -, -, r10⟩ := own_open ho10
  clear ho10
  have R10 := Lib.hid (R9.out.cl z9' hb10 (.cells #[.slice A n c, .int .i64 ab] 26))
  have z10' : B ≤ (w10.alloc (.cells #[.slice A n c, .int .i64 ab] 26)).heap.size := Nat.le_trans z9' (Nat.le_trans hb10.size (by simp))
  have b10 := bel_cl b9 hb10 (.cells #[.slice A n c, .int .i64 ab] 26)
  have K7' := Lib.hid (K7.out.cl hb10 (.cells #[.slice A n c, .int .i64 ab] 26))
  clear K7
  have K7 := K7'
  clear K7'
  have K8' := Lib.hid (K8.out.cl hb10 (.cells #[.slice A n c, .int .i64 ab] 26))
  clear K8
  have K8 := K8'
  clear K8'
  have K10' := Lib.hid (K10.out.cl hb10 (.cells #[.slice A n c, .int .i64 ab] 26))
  clear K10
  have K10 := K10'
  clear K10'
  have K13' := Lib.hid (K13.out.cl hb10 (.cells #[.slice A n c, .int .i64 ab] 26))
  clear K13
  have K13 := K13'
  clear K13'
  have K16' := Lib.hid (K16.out.cl hb10 (.cells #[.slice A n c, .int .i64 ab] 26))
  clear K16
  have K16 := K16'
  clear K16'
  have K19' := Lib.hid (K19.out.cl hb10 (.cells #[.slice A n c, .int .i64 ab] 26))
  clear K19
  have K19 := K19'
  clear K19'
  have K22' := Lib.hid (K22.out.cl hb10 (.cells #[.slice A n c, .int .i64 ab] 26))
  clear K22
  have K22 := K22'
  clear K22'
  have K25' := Lib.hid (K25.out.cl hb10 (.cells #[.slice A n c, .int .i64 ab] 26))
  clear K25
  have K25 := K25'
  clear K25'
  have K28' := Lib.hid (K28.out.cl hb10 (.cells #[.slice A n c, .int .i64 ab] 26))
  clear K28
  have K28 := K28'
  clear K28'
  have K31' := Lib.hid (K31.out.cl hb10 (.cells #[.slice A n c, .int .i64 ab] 26))
  clear K31
  have K31 := K31'
  clear K31'
  have K34' := Lib.hid (K34.out.cl hb10 (.cells #[.slice A n c, .int .i64 ab] 26))
  clear K34
  have K34 := K34'
  clear K34'
  have S9' := Lib.hid (S9.out.cl S9z hb10 (.cells #[.slice A n c, .int .i64 ab] 26))
  have S9z' : w9.heap.size ≤ (w10.alloc (.cells #[.slice A n c, .int .i64 ab] 26)).heap.size := Nat.le_trans S9z (Nat.le_trans hb10.size (by simp))
  clear S9 S9z
  have S9 := S9'
  have S9z := S9z'
  clear S9' S9z'
  clear R9 z9' b9 hb10
  have K37 := Lib.hid (Bk.new w10 26 #[.slice A n c, .int .i64 ab])
  have S10 := Lib.hid (r10.alloc (Nat.le_refl _) (.cells #[.slice A n c, .int .i64 ab] 26))
  have S10z : w10.heap.size ≤ (w10.alloc (.cells #[.slice A n c, .int .i64 ab] 26)).heap.size := by simp
  clear r10
  go_wp2_with fail
  generalize hWX : (w10.alloc (.cells #[.slice A n c, .int .i64 ab] 26)) = WX at *
  clear hWX
  refine wp_region_phases (S := fun _ W => Below WX.heap.size WX W) (E := fun W W' => Below W.heap.size W W') [] [(0, Is (.slice A n c)), (7, Is (.pointer (some ⟨w0.heap.size, 0, none⟩))), (8, Is (.pointer (some ⟨w0.heap.size + 1, 0, none⟩))), (9, Is (.int .i64 m1)), (10, Is (.pointer (some ⟨w1.heap.size, 0, none⟩))), (11, Is (.int .i64 e1)), (12, Is (.int .u64 m1)), (13, Is (.pointer (some ⟨w2.heap.size, 0, none⟩))), (14, Is (.int .i64 e1)), (15, Is (.int .i64 m2)), (16, Is (.pointer (some ⟨w3.heap.size, 0, none⟩))), (17, Is (.int .i64 e2)), (18, Is (.int .u64 m2)), (19, Is (.pointer (some ⟨w4.heap.size, 0, none⟩))), (20, Is (.int .i64 e2)), (21, Is (.int .i64 m4)), (22, Is (.pointer (some ⟨w5.heap.size, 0, none⟩))), (23, Is (.int .i64 e4)), (24, Is (.int .u64 m4)), (25, Is (.pointer (some ⟨w6.heap.size, 0, none⟩))), (26, Is (.int .i64 e4)), (27, Is (.int .i64 x8)), (28, Is (.pointer (some ⟨w7.heap.size, 0, none⟩))), (29, Is (.int .i64 e8)), (30, Is (.int .u64 m8)), (31, Is (.pointer (some ⟨w8.heap.size, 0, none⟩))), (32, Is (.int .i64 e8)), (33, Is (.slice A9 L.length c9)), (34, Is (.pointer (some ⟨w9.heap.size, 0, none⟩))), (35, Is (.int .i64 eb)), (36, Is (.slice A10 L.length c10)), (37, Is (.pointer (some ⟨w10.heap.size, 0, none⟩))), (38, Is (.int .i64 eb))] [(112, Is (.int .i64 e1)), (113, Is (.int .i64 e1)), (114, Is (.bool false)), (115, Is (.bool false)), (116, Is (.int .i64 e2)), (117, Is (.int .i64 e2)), (118, Is (.bool false)), (119, Is (.bool false)), (120, Is (.bool false)), (121, Is (.int .i64 e4)), (122, Is (.int .i64 e4)), (123, Is (.bool false)), (124, Is (.bool false)), (125, Is (.bool false)), (126, Is (.int .i64 e8)), (127, Is (.int .i64 e8)), (128, Is (.bool false)), (129, Is (.bool false)), (130, Is (.bool false)), (131, Is (.int .i64 eb)), (132, Is (.int .i64 eb)), (133, Is (.bool false)), (134, Is (.bool false)), (135, Is (.bool false)), (136, Is (.agg #[.slice A n c, .int .i64 at_])), (137, Is (.int .i64 en)), (138, Is (.agg #[.slice A n c, .int .i64 at_])), (139, Is (.int .i64 en)), (140, Is (.bool false)), (141, Is (.bool false))]
    [.op [11] none, .op [14] none, .op [112, 113] none, .op [114] none, .op [17, 115] (some (115, false)), .op [20, 115] (some (115, false)), .op [116, 117, 115] (some (115, false)), .op [115, 118] none, .op [119] none, .op [23, 120] (some (120, false)), .op [26, 120] (some (120, false)), .op [121, 122, 120] (some (120, false)), .op [120, 123] none, .op [124] none, .op [29, 125] (some (125, false)), .op [32, 125] (some (125, false)), .op [126, 127, 125] (some (125, false)), .op [125, 128] none, .op [129] none, .op [35, 130] (some (130, false)), .op [38, 130] (some (130, false)), .op [131, 132, 130] (some (130, false)), .op [130, 133] none, .op [134] none, .op [7, 135] (some (135, false)), .op [136, 135] (some (135, false)), .op [8, 135] (some (135, false)), .op [138, 135] (some (135, false)), .op [137, 139, 135] (some (135, false)), .op [135, 140] none] (by as_aux_lemma => kernel_rfl) ?_ ?_ ?_ ?_ ?_ ⟨stable_is _ _, stable_is _ _, stable_is _ _, stable_is _ _, stable_is _ _, stable_is _ _, stable_is _ _, stable_is _ _, stable_is _ _, stable_is _ _, stable_is _ _, stable_is _ _, stable_is _ _, stable_is _ _, stable_is _ _, stable_is _ _, stable_is _ _, stable_is _ _, stable_is _ _, stable_is _ _, stable_is _ _, stable_is _ _, stable_is _ _, stable_is _ _, stable_is _ _, stable_is _ _, stable_is _ _, stable_is _ _, stable_is _ _, stable_is _ _, stable_is _ _, stable_is _ _, stable_is _ _, stable_is _ _, stable_is _ _, stable_is _ _, stable_is _ _, stable_is _ _, stable_is _ _, stable_is _ _, stable_is _ _, stable_is _ _, stable_is _ _, stable_is _ _, stable_is _ _, stable_is _ _, stable_is _ _, stable_is _ _, stable_is _ _, stable_is _ _, stable_is _ _, stable_is _ _, stable_is _ _, stable_is _ _, stable_is _ _, stable_is _ _, stable_is _ _, stable_is _ _, stable_is _ _, stable_is _ _, stable_is _ _, stable_is _ _, stable_is _ _, trivial⟩ ?_ (Below.refl _ _).drew ?_ ?_
  · as_aux_lemma => kernel_rfl
  · as_aux_lemma => kernel_rfl
  · as_aux_lemma => kernel_rfl
  · as_aux_lemma => kernel_rfl
  · as_aux_lemma => kernel_rfl
  · exact ⟨rfl, rfl, rfl, rfl, rfl, rfl, rfl, rfl, rfl, rfl, rfl, rfl, rfl, rfl, rfl, rfl, rfl, rfl, rfl, rfl, rfl, rfl, rfl, rfl, rfl, rfl, rfl, rfl, rfl, rfl, rfl, rfl, rfl, trivial⟩
  · refine ⟨?_, ?_, ?_, ?_, ?_, ?_, ?_, ?_, ?_, ?_, ?_, ?_, ?_, ?_, ?_, ?_, ?_, ?_, ?_, ?_, ?_, ?_, ?_, ?_, ?_, ?_, ?_, ?_, ?_, ?_, trivial⟩
    · as_aux_lemma =>
        intro vals a W hS hL
        have e11 : a.tmps.getD 11 undef = .int .i64 e1 := hL.1
        clear hL
        go_simp
        exact ⟨⟨fun d hd => by injection hd with hd; subst hd; rfl, fun h => by cases h⟩, hS, Below.refl _ _⟩
    · as_aux_lemma =>
        intro vals a W hS hL
        have e14 : a.tmps.getD 14 undef = .int .i64 e1 := hL.1
        clear hL
        go_simp
        exact ⟨⟨fun d hd => by injection hd with hd; subst hd; rfl, fun h => by cases h⟩, hS, Below.refl _ _⟩
    · as_aux_lemma =>
        intro vals a W hS hL
        have e112 : a.tmps.getD 112 undef = .int .i64 e1 := hL.1
        have e113 : a.tmps.getD 113 undef = .int .i64 e1 := hL.2.1
        clear hL
        have hne : ((e1 : Int) != (e1 : Int)) = false := by simp
        go_simp
        exact ⟨⟨fun d hd => by injection hd with hd; subst hd; rfl, fun h => by cases h⟩, hS, Below.refl _ _⟩
    · as_aux_lemma =>
        intro vals a W hS hL
        have e114 : a.tmps.getD 114 undef = .bool false := hL.1
        clear hL
        go_simp
        exact ⟨⟨fun d hd => by injection hd with hd; subst hd; rfl, fun h => by cases h⟩, hS, Below.refl _ _⟩
    · as_aux_lemma =>
        intro vals a W hS hL
        have e17 : a.tmps.getD 17 undef = .int .i64 e2 := hL.1
        have e115 : a.tmps.getD 115 undef = .bool false := hL.2.1
        clear hL
        refine ⟨false, e115, ?_⟩
        rw [if_pos rfl]
        go_simp
        exact ⟨⟨fun d hd => by injection hd with hd; subst hd; rfl, fun h => by cases h⟩, hS, Below.refl _ _⟩
    · as_aux_lemma =>
        intro vals a W hS hL
        have e20 : a.tmps.getD 20 undef = .int .i64 e2 := hL.1
        have e115 : a.tmps.getD 115 undef = .bool false := hL.2.1
        clear hL
        refine ⟨false, e115, ?_⟩
        rw [if_pos rfl]
        go_simp
        exact ⟨⟨fun d hd => by injection hd with hd; subst hd; rfl, fun h => by cases h⟩, hS, Below.refl _ _⟩
    · as_aux_lemma =>
        intro vals a W hS hL
        have e116 : a.tmps.getD 116 undef = .int .i64 e2 := hL.1
        have e117 : a.tmps.getD 117 undef = .int .i64 e2 := hL.2.1
        have e115 : a.tmps.getD 115 undef = .bool false := hL.2.2.1
        clear hL
        refine ⟨false, e115, ?_⟩
        rw [if_pos rfl]
        have hne : ((e2 : Int) != (e2 : Int)) = false := by simp
        go_simp
        exact ⟨⟨fun d hd => by injection hd with hd; subst hd; rfl, fun h => by cases h⟩, hS, Below.refl _ _⟩
    · as_aux_lemma =>
        intro vals a W hS hL
        have e115 : a.tmps.getD 115 undef = .bool false := hL.1
        have e118 : a.tmps.getD 118 undef = .bool false := hL.2.1
        clear hL
        go_simp
        exact ⟨⟨fun d hd => by injection hd with hd; subst hd; rfl, fun h => by cases h⟩, hS, Below.refl _ _⟩
    · as_aux_lemma =>
        intro vals a W hS hL
        have e119 : a.tmps.getD 119 undef = .bool false := hL.1
        clear hL
        go_simp
        exact ⟨⟨fun d hd => by injection hd with hd; subst hd; rfl, fun h => by cases h⟩, hS, Below.refl _ _⟩
    · as_aux_lemma =>
        intro vals a W hS hL
        have e23 : a.tmps.getD 23 undef = .int .i64 e4 := hL.1
        have e120 : a.tmps.getD 120 undef = .bool false := hL.2.1
        clear hL
        refine ⟨false, e120, ?_⟩
        rw [if_pos rfl]
        go_simp
        exact ⟨⟨fun d hd => by injection hd with hd; subst hd; rfl, fun h => by cases h⟩, hS, Below.refl _ _⟩
    · as_aux_lemma =>
        intro vals a W hS hL
        have e26 : a.tmps.getD 26 undef = .int .i64 e4 := hL.1
        have e120 : a.tmps.getD 120 undef = .bool false := hL.2.1
        clear hL
        refine ⟨false, e120, ?_⟩
        rw [if_pos rfl]
        go_simp
        exact ⟨⟨fun d hd => by injection hd with hd; subst hd; rfl, fun h => by cases h⟩, hS, Below.refl _ _⟩
    · as_aux_lemma =>
        intro vals a W hS hL
        have e121 : a.tmps.getD 121 undef = .int .i64 e4 := hL.1
        have e122 : a.tmps.getD 122 undef = .int .i64 e4 := hL.2.1
        have e120 : a.tmps.getD 120 undef = .bool false := hL.2.2.1
        clear hL
        refine ⟨false, e120, ?_⟩
        rw [if_pos rfl]
        have hne : ((e4 : Int) != (e4 : Int)) = false := by simp
        go_simp
        exact ⟨⟨fun d hd => by injection hd with hd; subst hd; rfl, fun h => by cases h⟩, hS, Below.refl _ _⟩
    · as_aux_lemma =>
        intro vals a W hS hL
        have e120 : a.tmps.getD 120 undef = .bool false := hL.1
        have e123 : a.tmps.getD 123 undef = .bool false := hL.2.1
        clear hL
        go_simp
        exact ⟨⟨fun d hd => by injection hd with hd; subst hd; rfl, fun h => by cases h⟩, hS, Below.refl _ _⟩
    · as_aux_lemma =>
        intro vals a W hS hL
        have e124 : a.tmps.getD 124 undef = .bool false := hL.1
        clear hL
        go_simp
        exact ⟨⟨fun d hd => by injection hd with hd; subst hd; rfl, fun h => by cases h⟩, hS, Below.refl _ _⟩
    · as_aux_lemma =>
        intro vals a W hS hL
        have e29 : a.tmps.getD 29 undef = .int .i64 e8 := hL.1
        have e125 : a.tmps.getD 125 undef = .bool false := hL.2.1
        clear hL
        refine ⟨false, e125, ?_⟩
        rw [if_pos rfl]
        go_simp
        exact ⟨⟨fun d hd => by injection hd with hd; subst hd; rfl, fun h => by cases h⟩, hS, Below.refl _ _⟩
    · as_aux_lemma =>
        intro vals a W hS hL
        have e32 : a.tmps.getD 32 undef = .int .i64 e8 := hL.1
        have e125 : a.tmps.getD 125 undef = .bool false := hL.2.1
        clear hL
        refine ⟨false, e125, ?_⟩
        rw [if_pos rfl]
        go_simp
        exact ⟨⟨fun d hd => by injection hd with hd; subst hd; rfl, fun h => by cases h⟩, hS, Below.refl _ _⟩
    · as_aux_lemma =>
        intro vals a W hS hL
        have e126 : a.tmps.getD 126 undef = .int .i64 e8 := hL.1
        have e127 : a.tmps.getD 127 undef = .int .i64 e8 := hL.2.1
        have e125 : a.tmps.getD 125 undef = .bool false := hL.2.2.1
        clear hL
        refine ⟨false, e125, ?_⟩
        rw [if_pos rfl]
        have hne : ((e8 : Int) != (e8 : Int)) = false := by simp
        go_simp
        exact ⟨⟨fun d hd => by injection hd with hd; subst hd; rfl, fun h => by cases h⟩, hS, Below.refl _ _⟩
    · as_aux_lemma =>
        intro vals a W hS hL
        have e125 : a.tmps.getD 125 undef = .bool false := hL.1
        have e128 : a.tmps.getD 128 undef = .bool false := hL.2.1
        clear hL
        go_simp
        exact ⟨⟨fun d hd => by injection hd with hd; subst hd; rfl, fun h => by cases h⟩, hS, Below.refl _ _⟩
    · as_aux_lemma =>
        intro vals a W hS hL
        have e129 : a.tmps.getD 129 undef = .bool false := hL.1
        clear hL
        go_simp
        exact ⟨⟨fun d hd => by injection hd with hd; subst hd; rfl, fun h => by cases h⟩, hS, Below.refl _ _⟩
    · as_aux_lemma =>
        intro vals a W hS hL
        have e35 : a.tmps.getD 35 undef = .int .i64 eb := hL.1
        have e130 : a.tmps.getD 130 undef = .bool false := hL.2.1
        clear hL
        refine ⟨false, e130, ?_⟩
        rw [if_pos rfl]
        go_simp
        exact ⟨⟨fun d hd => by injection hd with hd; subst hd; rfl, fun h => by cases h⟩, hS, Below.refl _ _⟩
    · as_aux_lemma =>
        intro vals a W hS hL
        have e38 : a.tmps.getD 38 undef = .int .i64 eb := hL.1
        have e130 : a.tmps.getD 130 undef = .bool false := hL.2.1
        clear hL
        refine ⟨false, e130, ?_⟩
        rw [if_pos rfl]
        go_simp
        exact ⟨⟨fun d hd => by injection hd with hd; subst hd; rfl, fun h => by cases h⟩, hS, Below.refl _ _⟩
    · as_aux_lemma =>
        intro vals a W hS hL
        have e131 : a.tmps.getD 131 undef = .int .i64 eb := hL.1
        have e132 : a.tmps.getD 132 undef = .int .i64 eb := hL.2.1
        have e130 : a.tmps.getD 130 undef = .bool false := hL.2.2.1
        clear hL
        refine ⟨false, e130, ?_⟩
        rw [if_pos rfl]
        have hne : ((eb : Int) != (eb : Int)) = false := by simp
        go_simp
        exact ⟨⟨fun d hd => by injection hd with hd; subst hd; rfl, fun h => by cases h⟩, hS, Below.refl _ _⟩
    · as_aux_lemma =>
        intro vals a W hS hL
        have e130 : a.tmps.getD 130 undef = .bool false := hL.1
        have e133 : a.tmps.getD 133 undef = .bool false := hL.2.1
        clear hL
        go_simp
        exact ⟨⟨fun d hd => by injection hd with hd; subst hd; rfl, fun h => by cases h⟩, hS, Below.refl _ _⟩
    · as_aux_lemma =>
        intro vals a W hS hL
        have e134 : a.tmps.getD 134 undef = .bool false := hL.1
        clear hL
        go_simp
        exact ⟨⟨fun d hd => by injection hd with hd; subst hd; rfl, fun h => by cases h⟩, hS, Below.refl _ _⟩
    · as_aux_lemma =>
        intro vals a W hS hL
        have e7 : a.tmps.getD 7 undef = .pointer (some ⟨w0.heap.size, 0, none⟩) := hL.1
        have e135 : a.tmps.getD 135 undef = .bool false := hL.2.1
        clear hL
        refine ⟨false, e135, ?_⟩
        rw [if_pos rfl]
        have q := K7.out.below hS K7.out.lt
        have f0 := q.cell 0
        have f1 := q.cell 1
        go_simp
        exact ⟨⟨fun d hd => by injection hd with hd; subst hd; rfl, fun h => by cases h⟩, hS, Below.refl _ _⟩
    · as_aux_lemma =>
        intro vals a W hS hL
        have e136 : a.tmps.getD 136 undef = .agg #[.slice A n c, .int .i64 at_] := hL.1
        have e135 : a.tmps.getD 135 undef = .bool false := hL.2.1
        clear hL
        refine ⟨false, e135, ?_⟩
        rw [if_pos rfl]
        go_simp
        refine (H11.out W).mono ?_
        rintro e W' ⟨rfl, hb⟩
        exact ⟨_, rfl, ⟨fun d hd => by injection hd with hd; subst hd; rfl, fun h => by cases h⟩, hS.trans (hb.mono hS.size), hb⟩
    · as_aux_lemma =>
        intro vals a W hS hL
        have e8 : a.tmps.getD 8 undef = .pointer (some ⟨w0.heap.size + 1, 0, none⟩) := hL.1
        have e135 : a.tmps.getD 135 undef = .bool false := hL.2.1
        clear hL
        refine ⟨false, e135, ?_⟩
        rw [if_pos rfl]
        have q := K8.out.below hS K8.out.lt
        have f0 := q.cell 0
        have f1 := q.cell 1
        go_simp
        exact ⟨⟨fun d hd => by injection hd with hd; subst hd; rfl, fun h => by cases h⟩, hS, Below.refl _ _⟩
    · as_aux_lemma =>
        intro vals a W hS hL
        have e138 : a.tmps.getD 138 undef = .agg #[.slice A n c, .int .i64 at_] := hL.1
        have e135 : a.tmps.getD 135 undef = .bool false := hL.2.1
        clear hL
        refine ⟨false, e135, ?_⟩
        rw [if_pos rfl]
        go_simp
        refine (H12.out W).mono ?_
        rintro e W' ⟨rfl, hb⟩
        exact ⟨_, rfl, ⟨fun d hd => by injection hd with hd; subst hd; rfl, fun h => by cases h⟩, hS.trans (hb.mono hS.size), hb⟩
    · as_aux_lemma =>
        intro vals a W hS hL
        have e137 : a.tmps.getD 137 undef = .int .i64 en := hL.1
        have e139 : a.tmps.getD 139 undef = .int .i64 en := hL.2.1
        have e135 : a.tmps.getD 135 undef = .bool false := hL.2.2.1
        clear hL
        refine ⟨false, e135, ?_⟩
        rw [if_pos rfl]
        have hne : ((en : Int) != (en : Int)) = false := by simp
        go_simp
        exact ⟨⟨fun d hd => by injection hd with hd; subst hd; rfl, fun h => by cases h⟩, hS, Below.refl _ _⟩
    · as_aux_lemma =>
        intro vals a W hS hL
        have e135 : a.tmps.getD 135 undef = .bool false := hL.1
        have e140 : a.tmps.getD 140 undef = .bool false := hL.2.1
        clear hL
        go_simp
        exact ⟨⟨fun d hd => by injection hd with hd; subst hd; rfl, fun h => by cases h⟩, hS, Below.refl _ _⟩
  · intro x W vals hd hsz hT _ _ _ hS
    have f0 : x.tmps.getD 0 undef = .slice A n c := hT 0 (by simp)
    have f7 : x.tmps.getD 7 undef = .pointer (some ⟨w0.heap.size, 0, none⟩) := hT 7 (by simp)
    have f8 : x.tmps.getD 8 undef = .pointer (some ⟨w0.heap.size + 1, 0, none⟩) := hT 8 (by simp)
    have f9 : x.tmps.getD 9 undef = .int .i64 m1 := hT 9 (by simp)
    have f10 : x.tmps.getD 10 undef = .pointer (some ⟨w1.heap.size, 0, none⟩) := hT 10 (by simp)
    have f11 : x.tmps.getD 11 undef = .int .i64 e1 := hT 11 (by simp)
    have f12 : x.tmps.getD 12 undef = .int .u64 m1 := hT 12 (by simp)
    have f13 : x.tmps.getD 13 undef = .pointer (some ⟨w2.heap.size, 0, none⟩) := hT 13 (by simp)
    have f14 : x.tmps.getD 14 undef = .int .i64 e1 := hT 14 (by simp)
    have f15 : x.tmps.getD 15 undef = .int .i64 m2 := hT 15 (by simp)
    have f16 : x.tmps.getD 16 undef = .pointer (some ⟨w3.heap.size, 0, none⟩) := hT 16 (by simp)
    have f17 : x.tmps.getD 17 undef = .int .i64 e2 := hT 17 (by simp)
    have f18 : x.tmps.getD 18 undef = .int .u64 m2 := hT 18 (by simp)
    have f19 : x.tmps.getD 19 undef = .pointer (some ⟨w4.heap.size, 0, none⟩) := hT 19 (by simp)
    have f20 : x.tmps.getD 20 undef = .int .i64 e2 := hT 20 (by simp)
    have f21 : x.tmps.getD 21 undef = .int .i64 m4 := hT 21 (by simp)
    have f22 : x.tmps.getD 22 undef = .pointer (some ⟨w5.heap.size, 0, none⟩) := hT 22 (by simp)
    have f23 : x.tmps.getD 23 undef = .int .i64 e4 := hT 23 (by simp)
    have f24 : x.tmps.getD 24 undef = .int .u64 m4 := hT 24 (by simp)
    have f25 : x.tmps.getD 25 undef = .pointer (some ⟨w6.heap.size, 0, none⟩) := hT 25 (by simp)
    have f26 : x.tmps.getD 26 undef = .int .i64 e4 := hT 26 (by simp)
    have f27 : x.tmps.getD 27 undef = .int .i64 x8 := hT 27 (by simp)
    have f28 : x.tmps.getD 28 undef = .pointer (some ⟨w7.heap.size, 0, none⟩) := hT 28 (by simp)
    have f29 : x.tmps.getD 29 undef = .int .i64 e8 := hT 29 (by simp)
    have f30 : x.tmps.getD 30 undef = .int .u64 m8 := hT 30 (by simp)
    have f31 : x.tmps.getD 31 undef = .pointer (some ⟨w8.heap.size, 0, none⟩) := hT 31 (by simp)
    have f32 : x.tmps.getD 32 undef = .int .i64 e8 := hT 32 (by simp)
    have f33 : x.tmps.getD 33 undef = .slice A9 L.length c9 := hT 33 (by simp)
    have f34 : x.tmps.getD 34 undef = .pointer (some ⟨w9.heap.size, 0, none⟩) := hT 34 (by simp)
    have f35 : x.tmps.getD 35 undef = .int .i64 eb := hT 35 (by simp)
    have f36 : x.tmps.getD 36 undef = .slice A10 L.length c10 := hT 36 (by simp)
    have f37 : x.tmps.getD 37 undef = .pointer (some ⟨w10.heap.size, 0, none⟩) := hT 37 (by simp)
    have f38 : x.tmps.getD 38 undef = .int .i64 eb := hT 38 (by simp)
    have f141 : x.tmps.getD 141 undef = .bool false := hT 141 (by simp)
    have bW : Below w.heap.size w W := b10.trans (hS.mono b10.size)
    have R11 := Lib.hid (R10.out.belowMono hS z10')
    have z11' : B ≤ W.heap.size := Nat.le_trans z10' hS.size
    have hSz := hS.size
    have K7' := Lib.hid (K7.out.below hS K7.out.lt)
    clear K7
    have K7 := K7'
    clear K7'
    have K8' := Lib.hid (K8.out.below hS K8.out.lt)
    clear K8
    have K8 := K8'
    clear K8'
    have K10' := Lib.hid (K10.out.below hS K10.out.lt)
    clear K10
    have K10 := K10'
    clear K10'
    have K13' := Lib.hid (K13.out.below hS K13.out.lt)
    clear K13
    have K13 := K13'
    clear K13'
    have K16' := Lib.hid (K16.out.below hS K16.out.lt)
    clear K16
    have K16 := K16'
    clear K16'
    have K19' := Lib.hid (K19.out.below hS K19.out.lt)
    clear K19
    have K19 := K19'
    clear K19'
    have K22' := Lib.hid (K22.out.below hS K22.out.lt)
    clear K22
    have K22 := K22'
    clear K22'
    have K25' := Lib.hid (K25.out.below hS K25.out.lt)
    clear K25
    have K25 := K25'
    clear K25'
    have K28' := Lib.hid (K28.out.below hS K28.out.lt)
    clear K28
    have K28 := K28'
    clear K28'
    have K31' := Lib.hid (K31.out.below hS K31.out.lt)
    clear K31
    have K31 := K31'
    clear K31'
    have K34' := Lib.hid (K34.out.below hS K34.out.lt)
    clear K34
    have K34 := K34'
    clear K34'
    have K37' := Lib.hid (K37.out.below hS K37.out.lt)
    clear K37
    have K37 := K37'
    clear K37'
    have S9' := Lib.hid (S9.out.belowMono hS S9z)
    clear S9
    have S9 := S9'
    clear S9'
    have S10' := Lib.hid (S10.out.belowMono hS S10z)
    clear S10
    have S10 := S10'
    clear S10'
    clear hT hS
    rw [act_lit 204 x hd hsz]
    simp only [List.range, List.range.loop, List.map, f0, f7, f8, f9, f10, f11, f12, f13, f14, f15, f16, f17, f18, f19, f20, f21, f22, f23, f24, f25, f26, f27, f28, f29, f30, f31, f32, f33, f34, f35, f36, f37, f38, f141]
    clear f0 f7 f8 f9 f10 f11 f12 f13 f14 f15 f16 f17 f18 f19 f20 f21 f22 f23 f24 f25 f26 f27 f28 f29 f30 f31 f32 f33 f34 f35 f36 f37 f38 f141
    have hw1 : IntKind.i64.wrap (m1 : Int) = m1 := IntWalk.i64_in _ (by omega)
    have hw2 : IntKind.i64.wrap (m2 : Int) = m2 := IntWalk.i64_in _ (by omega)
    have hw4 : IntKind.i64.wrap (m4 : Int) = m4 := IntWalk.i64_in _ (by omega)
    have hn1 : ((m1 : Int) != (m1 : Int)) = false := by simp
    have hn2 : ((m2 : Int) != (m2 : Int)) = false := by simp
    have hn4 : ((m4 : Int) != (m4 : Int)) = false := by simp
    have hn8 : ((x8 : Int) != (x8 : Int)) = false := by simp
    have s9 := run_str (c := c9) S9.out
    have s10 := run_str (c := c10) S10.out
    have c0 := K10.out.cell 0
    have c1 := K10.out.cell 1
    have c2 := K13.out.cell 1
    go_wp2_with fail
    refine (same_any R11.out R11.out z11' z11').mono ?_
    rintro e w12 ⟨rfl, hb12⟩
    rw [sameB_self]
    clear c0 c1 c2
    clear s9 s10 S9 S9z S10 S10z
    have R12 := Lib.hid (R11.out.belowMono hb12 z11')
    have z12' : B ≤ w12.heap.size := Nat.le_trans z11' hb12.size
    have b12 := bW.trans (hb12.mono bW.size)
    have K7' := Lib.hid (K7.out.below hb12 K7.out.lt)
    clear K7
    have K7 := K7'
    clear K7'
    have K8' := Lib.hid (K8.out.below hb12 K8.out.lt)
    clear K8
    have K8 := K8'
    clear K8'
    have K10' := Lib.hid (K10.out.below hb12 K10.out.lt)
    clear K10
    have K10 := K10'
    clear K10'
    have K13' := Lib.hid (K13.out.below hb12 K13.out.lt)
    clear K13
    have K13 := K13'
    clear K13'
    have K16' := Lib.hid (K16.out.below hb12 K16.out.lt)
    clear K16
    have K16 := K16'
    clear K16'
    have K19' := Lib.hid (K19.out.below hb12 K19.out.lt)
    clear K19
    have K19 := K19'
    clear K19'
    have K22' := Lib.hid (K22.out.below hb12 K22.out.lt)
    clear K22
    have K22 := K22'
    clear K22'
    have K25' := Lib.hid (K25.out.below hb12 K25.out.lt)
    clear K25
    have K25 := K25'
    clear K25'
    have K28' := Lib.hid (K28.out.below hb12 K28.out.lt)
    clear K28
    have K28 := K28'
    clear K28'
    have K31' := Lib.hid (K31.out.below hb12 K31.out.lt)
    clear K31
    have K31 := K31'
    clear K31'
    have K34' := Lib.hid (K34.out.below hb12 K34.out.lt)
    clear K34
    have K34 := K34'
    clear K34'
    have K37' := Lib.hid (K37.out.below hb12 K37.out.lt)
    clear K37
    have K37 := K37'
    clear K37'
    clear R11 z11' bW hb12
    have c0 := K16.out.cell 0
    have c1 := K16.out.cell 1
    have c2 := K19.out.cell 1
    go_wp2_with fail
    refine (same_any R12.out R12.out z12' z12').mono ?_
    rintro e w13 ⟨rfl, hb13⟩
    rw [sameB_self]
    clear c0 c1 c2
    have R13 := Lib.hid (R12.out.belowMono hb13 z12')
    have z13' : B ≤ w13.heap.size := Nat.le_trans z12' hb13.size
    have b13 := b12.trans (hb13.mono b12.size)
    have K7' := Lib.hid (K7.out.below hb13 K7.out.lt)
    clear K7
    have K7 := K7'
    clear K7'
    have K8' := Lib.hid (K8.out.below hb13 K8.out.lt)
    clear K8
    have K8 := K8'
    clear K8'
    have K10' := Lib.hid (K10.out.below hb13 K10.out.lt)
    clear K10
    have K10 := K10'
    clear K10'
    have K13' := Lib.hid (K13.out.below hb13 K13.out.lt)
    clear K13
    have K13 := K13'
    clear K13'
    have K16' := Lib.hid (K16.out.below hb13 K16.out.lt)
    clear K16
    have K16 := K16'
    clear K16'
    have K19' := Lib.hid (K19.out.below hb13 K19.out.lt)
    clear K19
    have K19 := K19'
    clear K19'
    have K22' := Lib.hid (K22.out.below hb13 K22.out.lt)
    clear K22
    have K22 := K22'
    clear K22'
    have K25' := Lib.hid (K25.out.below hb13 K25.out.lt)
    clear K25
    have K25 := K25'
    clear K25'
    have K28' := Lib.hid (K28.out.below hb13 K28.out.lt)
    clear K28
    have K28 := K28'
    clear K28'
    have K31' := Lib.hid (K31.out.below hb13 K31.out.lt)
    clear K31
    have K31 := K31'
    clear K31'
    have K34' := Lib.hid (K34.out.below hb13 K34.out.lt)
    clear K34
    have K34 := K34'
    clear K34'
    have K37' := Lib.hid (K37.out.below hb13 K37.out.lt)
    clear K37
    have K37 := K37'
    clear K37'
    clear R12 z12' b12 hb13
    have c0 := K22.out.cell 0
    have c1 := K22.out.cell 1
    have c2 := K25.out.cell 1
    go_wp2_with fail
    refine (same_any R13.out R13.out z13' z13').mono ?_
    rintro e w14 ⟨rfl, hb14⟩
    rw [sameB_self]
    clear c0 c1 c2
    have R14 := Lib.hid (R13.out.belowMono hb14 z13')
    have z14' : B ≤ w14.heap.size := Nat.le_trans z13' hb14.size
    have b14 := b13.trans (hb14.mono b13.size)
    have K7' := Lib.hid (K7.out.below hb14 K7.out.lt)
    clear K7
    have K7 := K7'
    clear K7'
    have K8' := Lib.hid (K8.out.below hb14 K8.out.lt)
    clear K8
    have K8 := K8'
    clear K8'
    have K10' := Lib.hid (K10.out.below hb14 K10.out.lt)
    clear K10
    have K10 := K10'
    clear K10'
    have K13' := Lib.hid (K13.out.below hb14 K13.out.lt)
    clear K13
    have K13 := K13'
    clear K13'
    have K16' := Lib.hid (K16.out.below hb14 K16.out.lt)
    clear K16
    have K16 := K16'
    clear K16'
    have K19' := Lib.hid (K19.out.below hb14 K19.out.lt)
    clear K19
    have K19 := K19'
    clear K19'
    have K22' := Lib.hid (K22.out.below hb14 K22.out.lt)
    clear K22
    have K22 := K22'
    clear K22'
    have K25' := Lib.hid (K25.out.below hb14 K25.out.lt)
    clear K25
    have K25 := K25'
    clear K25'
    have K28' := Lib.hid (K28.out.below hb14 K28.out.lt)
    clear K28
    have K28 := K28'
    clear K28'
    have K31' := Lib.hid (K31.out.below hb14 K31.out.lt)
    clear K31
    have K31 := K31'
    clear K31'
    have K34' := Lib.hid (K34.out.below hb14 K34.out.lt)
    clear K34
    have K34 := K34'
    clear K34'
    have K37' := Lib.hid (K37.out.below hb14 K37.out.lt)
    clear K37
    have K37 := K37'
    clear K37'
    clear R13 z13' b13 hb14
    have c0 := K28.out.cell 0
    have c1 := K28.out.cell 1
    have c2 := K31.out.cell 1
    go_wp2_with fail
    refine (same_any R14.out R14.out z14' z14').mono ?_
    rintro e w15 ⟨rfl, hb15⟩
    rw [sameB_self]
    clear c0 c1 c2
    have R15 := Lib.hid (R14.out.belowMono hb15 z14')
    have z15' : B ≤ w15.heap.size := Nat.le_trans z14' hb15.size
    have b15 := b14.trans (hb15.mono b14.size)
    have K7' := Lib.hid (K7.out.below hb15 K7.out.lt)
    clear K7
    have K7 := K7'
    clear K7'
    have K8' := Lib.hid (K8.out.below hb15 K8.out.lt)
    clear K8
    have K8 := K8'
    clear K8'
    have K10' := Lib.hid (K10.out.below hb15 K10.out.lt)
    clear K10
    have K10 := K10'
    clear K10'
    have K13' := Lib.hid (K13.out.below hb15 K13.out.lt)
    clear K13
    have K13 := K13'
    clear K13'
    have K16' := Lib.hid (K16.out.below hb15 K16.out.lt)
    clear K16
    have K16 := K16'
    clear K16'
    have K19' := Lib.hid (K19.out.below hb15 K19.out.lt)
    clear K19
    have K19 := K19'
    clear K19'
    have K22' := Lib.hid (K22.out.below hb15 K22.out.lt)
    clear K22
    have K22 := K22'
    clear K22'
    have K25' := Lib.hid (K25.out.below hb15 K25.out.lt)
    clear K25
    have K25 := K25'
    clear K25'
    have K28' := Lib.hid (K28.out.below hb15 K28.out.lt)
    clear K28
    have K28 := K28'
    clear K28'
    have K31' := Lib.hid (K31.out.below hb15 K31.out.lt)
    clear K31
    have K31 := K31'
    clear K31'
    have K34' := Lib.hid (K34.out.below hb15 K34.out.lt)
    clear K34
    have K34 := K34'
    clear K34'
    have K37' := Lib.hid (K37.out.below hb15 K37.out.lt)
    clear K37
    have K37 := K37'
    clear K37'
    clear R14 z14' b14 hb15
    have c0 := K34.out.cell 0
    have c1 := K34.out.cell 1
    have c2 := K37.out.cell 1
    go_wp2_with fail
    refine (same_any R15.out R15.out z15' z15').mono ?_
    rintro e w16 ⟨rfl, hb16⟩
    rw [sameB_self]
    clear c0 c1 c2
    have R16 := Lib.hid (R15.out.belowMono hb16 z15')
    have z16' : B ≤ w16.heap.size := Nat.le_trans z15' hb16.size
    have b16 := b15.trans (hb16.mono b15.size)
    have K7' := Lib.hid (K7.out.below hb16 K7.out.lt)
    clear K7
    have K7 := K7'
    clear K7'
    have K8' := Lib.hid (K8.out.below hb16 K8.out.lt)
    clear K8
    have K8 := K8'
    clear K8'
    have K10' := Lib.hid (K10.out.below hb16 K10.out.lt)
    clear K10
    have K10 := K10'
    clear K10'
    have K13' := Lib.hid (K13.out.below hb16 K13.out.lt)
    clear K13
    have K13 := K13'
    clear K13'
    have K16' := Lib.hid (K16.out.below hb16 K16.out.lt)
    clear K16
    have K16 := K16'
    clear K16'
    have K19' := Lib.hid (K19.out.below hb16 K19.out.lt)
    clear K19
    have K19 := K19'
    clear K19'
    have K22' := Lib.hid (K22.out.below hb16 K22.out.lt)
    clear K22
    have K22 := K22'
    clear K22'
    have K25' := Lib.hid (K25.out.below hb16 K25.out.lt)
    clear K25
    have K25 := K25'
    clear K25'
    have K28' := Lib.hid (K28.out.below hb16 K28.out.lt)
    clear K28
    have K28 := K28'
    clear K28'
    have K31' := Lib.hid (K31.out.below hb16 K31.out.lt)
    clear K31
    have K31 := K31'
    clear K31'
    have K34' := Lib.hid (K34.out.below hb16 K34.out.lt)
    clear K34
    have K34 := K34'
    clear K34'
    have K37' := Lib.hid (K37.out.below hb16 K37.out.lt)
    clear K37
    have K37 := K37'
    clear K37'
    clear R15 z15' b15 hb16
    go_wp2
    go_ret
    exact ⟨rfl, b16⟩
end Go.Proofs.Ytlfnmcagpokchaa
