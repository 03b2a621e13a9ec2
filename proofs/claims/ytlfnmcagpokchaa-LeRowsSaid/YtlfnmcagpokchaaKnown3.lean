/- cashbooklaw3.known by its contract: it returns true, and nothing that was there has turned. No condition. -/
import Derived.Test.YtlfnmcagpokchaaU
import Derived.Test.YtlfnmcagpokchaaBy
import Derived.Test.YtlfnmcagpokchaaPuts
namespace Go.Proofs.Ytlfnmcagpokchaa
open Go.RowKit

def kb : List UInt8 := [1, 2, 3, 4, 255, 255, 255, 255, 255, 255, 255, 255]

theorem own_open {w : World} {base n : Nat} {v : Value} {l : List UInt8} (h : w.ownsRow base 5 1 v n (l.map bv)) : ∃ A c, v = .slice A n c ∧ n ≤ c ∧ c ≤ maxLen ∧ Rd w w.heap.size 1 A n (l.map bv) := own_form h

section
variable {w : World} {B c : Nat} {A : Option Addr}
theorem kc1 (h : Rd w B 1 A 12 (kb.map bv)) (hc : 12 ≤ c) (hB : B ≤ w.heap.size) :
    Calls Try.prog 8 #[.agg #[.slice A 12 c, .int .i64 0]] w fun e w' => e = .returned (.tuple #[.int .i64 1, .agg #[.slice A 12 c, .int .i64 1], .int .i64 0]) ∧ Below w.heap.size w w' :=
  u8_any h hc (by omega) hB
theorem kc2 (h : Rd w B 1 A 12 (kb.map bv)) (hc : 12 ≤ c) (hB : B ≤ w.heap.size) :
    Calls Try.prog 10 #[.agg #[.slice A 12 c, .int .i64 1]] w fun e w' => e = .returned (.tuple #[.int .i64 770, .agg #[.slice A 12 c, .int .i64 3], .int .i64 0]) ∧ Below w.heap.size w w' :=
  u16_any h hc (by omega) hB
theorem kc3 (h : Rd w B 1 A 12 (kb.map bv)) (hc : 12 ≤ c) (hB : B ≤ w.heap.size) :
    Calls Try.prog 11 #[.agg #[.slice A 12 c, .int .i64 0]] w fun e w' => e = .returned (.tuple #[.int .i64 67305985, .agg #[.slice A 12 c, .int .i64 4], .int .i64 0]) ∧ Below w.heap.size w w' :=
  u32_any h hc (by omega) hB
theorem kc4 (h : Rd w B 1 A 12 (kb.map bv)) (hc : 12 ≤ c) (hB : B ≤ w.heap.size) :
    Calls Try.prog 12 #[.agg #[.slice A 12 c, .int .i64 4]] w fun e w' => e = .returned (.tuple #[.int .i64 (-1), .agg #[.slice A 12 c, .int .i64 12], .int .i64 0]) ∧ Below w.heap.size w w' :=
  i64_any h hc (by omega) hB
theorem kc5 (h : Rd w B 1 A 12 (kb.map bv)) (hc : 12 ≤ c) (hB : B ≤ w.heap.size) :
    Calls Try.prog 11 #[.agg #[.slice A 12 c, .int .i64 10]] w fun e w' => e = .returned (.tuple #[.int .i64 0, .agg #[.slice A 12 c, .int .i64 10], .int .i64 5]) ∧ Below w.heap.size w w' :=
  u32_any h hc (by omega) hB
theorem kc6 (h : Rd w B 1 A 12 (kb.map bv)) (hc : 12 ≤ c) (hB : B ≤ w.heap.size) :
    Calls Try.prog 13 #[.agg #[.slice A 12 c, .int .i64 3], .int .i64 2] w fun e w' => ∃ v', e = .returned (.tuple #[v', .agg #[.slice A 12 c, .int .i64 5], .int .i64 0]) ∧ w'.ownsRow w.heap.size 5 1 v' 2 (([4, 255] : List UInt8).map bv) ∧ Below w.heap.size w w' :=
  bytes_any h hc (by omega) hB
theorem kc7 (h : Rd w B 1 A 1 (([9] : List UInt8).map bv)) (hB : B ≤ w.heap.size) :
    Calls Try.prog 18 #[.slice A 1 c, .int .i64 513] w fun e w' => ∃ v', e = .returned (.tuple #[v', .int .i64 0]) ∧ w'.ownsRow w.heap.size 5 1 v' 3 (([9, 1, 2] : List UInt8).map bv) ∧ Below w.heap.size w w' :=
  put16_any h hB (by omega)
theorem kc8 : Calls Try.prog 19 #[.slice none 0 0, .int .i64 (-1)] w fun e w' => ∃ v', e = .returned (.tuple #[v', .int .i64 1]) ∧ w'.ownsRow w.heap.size 5 1 v' 0 (([] : List UInt8).map bv) ∧ Below w.heap.size w w' :=
  put32_any (B := w.heap.size) (l := []) (Rd.nil _ _ _ _) (Nat.le_refl _) (by omega)
theorem kc9 : Calls Try.prog 8 #[.agg #[.slice none 0 0, .int .i64 1]] w fun e w' => e = .returned (.tuple #[.int .i64 0, .agg #[.slice none 0 0, .int .i64 1], .int .i64 1]) ∧ Below w.heap.size w w' :=
  u8_any (B := w.heap.size) (l := []) (Rd.nil _ _ _ _) (Nat.le_refl _) (by omega) (Nat.le_refl _)
theorem kc10 : Calls Try.prog 15 #[.agg #[.slice A 12 c, .int .i64 0]] w fun e w' => e = .returned (.int .i64 4) ∧ Below w.heap.size w w' := end_any (by omega)
theorem kc11 : Calls Try.prog 15 #[.agg #[.slice A 12 c, .int .i64 12]] w fun e w' => e = .returned (.int .i64 0) ∧ Below w.heap.size w w' := end_any (by omega)
theorem kc12 : Calls Try.prog 20 #[.slice none 0 0, .int .i64 (-1)] w fun e w' => ∃ A' c', e = .returned (.slice A' 8 c') ∧ Below w.heap.size w w' :=
  (put64_any (B := w.heap.size) (l := []) (Rd.nil _ _ _ _) (Nat.le_refl _) (by omega)).mono fun e w' h => by
    obtain ⟨v, rfl, ho, hb⟩ := h
    obtain ⟨A, c, rfl, _⟩ := own_form ho
    exact ⟨A, c, rfl, hb⟩
end

theorem Rd.cl {w w1 : World} {B n : Nat} {A : Option Addr} {xs : List Value} (h : Rd w B 1 A n xs) (hB : B ≤ w.heap.size) (hb : Below w.heap.size w w1) (o : Obj) : Rd (w1.alloc o) B 1 A n xs := (h.belowMono hb hB).alloc (Nat.le_trans hB hb.size) o
theorem Bk.cl {w w1 : World} {g : Nat} {T : TypeId} {cs : Array Value} (h : Bk w g T cs) (hb : Below w.heap.size w w1) (o : Obj) : Bk (w1.alloc o) g T cs := (h.below hb h.lt).alloc o
theorem bel_cl {w0 w w1 : World} (h : Below w0.heap.size w0 w) (hb : Below w.heap.size w w1) (o : Obj) : Below w0.heap.size w0 (w1.alloc o) := (h.trans (hb.mono h.size)).alloc (Nat.le_trans h.size hb.size) o

set_option maxHeartbeats 4000000 in
set_option maxRecDepth 100000 in
theorem known3_any (w : World) : Calls Try.prog 7 #[] w fun e w' => e = .returned (.bool true) ∧ Below w.heap.size w w' := by
  have r0 : Rd ((w.alloc (.cells (kb.map bv).toArray 5)).alloc (.cells #[.slice (some ⟨w.heap.size, 0, none⟩) 12 12, .int .i64 0] 25)) (w.heap.size + 1) 1 (some ⟨w.heap.size, 0, none⟩) 12 (kb.map bv) := (Rd.fresh w 5 1 12 (kb.map bv) rfl).alloc (by simp) _
  have b0 : Below w.heap.size w ((w.alloc (.cells (kb.map bv).toArray 5)).alloc (.cells #[.slice (some ⟨w.heap.size, 0, none⟩) 12 12, .int .i64 0] 25)) := ((Below.refl _ _).alloc (Nat.le_refl _) _).alloc (by simp) _
  have k0 : Bk ((w.alloc (.cells (kb.map bv).toArray 5)).alloc (.cells #[.slice (some ⟨w.heap.size, 0, none⟩) 12 12, .int .i64 0] 25)) (w.heap.size + 1) 25 #[.slice (some ⟨w.heap.size, 0, none⟩) 12 12, .int .i64 0] := by
    have := Bk.new (w.alloc (.cells (kb.map bv).toArray 5)) 25 #[.slice (some ⟨w.heap.size, 0, none⟩) 12 12, .int .i64 0]
    simpa using this
  have e0 : ((w.alloc (.cells (kb.map bv).toArray 5)).alloc (.cells #[.slice (some ⟨w.heap.size, 0, none⟩) 12 12, .int .i64 0] 25)) = (w.alloc (.cells #[.int .u8 1, .int .u8 2, .int .u8 3, .int .u8 4, .int .u8 255, .int .u8 255, .int .u8 255, .int .u8 255, .int .u8 255, .int .u8 255, .int .u8 255, .int .u8 255] 5)).alloc (.cells #[.slice (some ⟨w.heap.size, 0, none⟩) 12 12, .int .i64 0] 25) := rfl
  have s0 : w.heap.size + 2 ≤ ((w.alloc (.cells (kb.map bv).toArray 5)).alloc (.cells #[.slice (some ⟨w.heap.size, 0, none⟩) 12 12, .int .i64 0] 25)).heap.size := by simp
  go_enter Try.func7, Try.ntmps7
  go_wp2_with fail
  rw [← e0]
  clear e0
  generalize ((w.alloc (.cells (kb.map bv).toArray 5)).alloc (.cells #[.slice (some ⟨w.heap.size, 0, none⟩) 12 12, .int .i64 0] 25)) = W0 at *
  have hB0 : w.heap.size + 1 ≤ W0.heap.size := by omega
  have R0 := Lib.hid r0
  have K0 := Lib.hid k0
  clear r0 k0
  have c0 := K0.out.cell 0
  have c1 := K0.out.cell 1
  go_wp2_with fail
  refine (kc1 R0.out (Nat.le_refl _) hB0).mono ?_
  rintro e w1 ⟨rfl, hb1⟩
  clear c0 c1
  have R1 := Lib.hid (R0.out.cl hB0 hb1 (.cells #[.slice (some ⟨w.heap.size, 0, none⟩) 12 12, .int .i64 1] 25))
  have hB1 : w.heap.size + 1 ≤ (w1.alloc (.cells #[.slice (some ⟨w.heap.size, 0, none⟩) 12 12, .int .i64 1] 25)).heap.size := Nat.le_trans hB0 (Nat.le_trans hb1.size (by simp))
  have b1 := bel_cl b0 hb1 (.cells #[.slice (some ⟨w.heap.size, 0, none⟩) 12 12, .int .i64 1] 25)
  have K0' := Lib.hid (K0.out.cl hb1 (.cells #[.slice (some ⟨w.heap.size, 0, none⟩) 12 12, .int .i64 1] 25))
  clear K0
  have K0 := K0'
  clear K0'
  clear R0 hB0 b0 hb1
  have K1 := Lib.hid (Bk.new w1 25 #[.slice (some ⟨w.heap.size, 0, none⟩) 12 12, .int .i64 1])
  have c0 := K1.out.cell 0
  have c1 := K1.out.cell 1
  go_wp2_with fail
  refine (kc2 R1.out (Nat.le_refl _) hB1).mono ?_
  rintro e w2 ⟨rfl, hb2⟩
  clear c0 c1
  have R2 := Lib.hid (R1.out.cl hB1 hb2 (.cells #[.slice (some ⟨w.heap.size, 0, none⟩) 12 12, .int .i64 3] 25))
  have hB2 : w.heap.size + 1 ≤ (w2.alloc (.cells #[.slice (some ⟨w.heap.size, 0, none⟩) 12 12, .int .i64 3] 25)).heap.size := Nat.le_trans hB1 (Nat.le_trans hb2.size (by simp))
  have b2 := bel_cl b1 hb2 (.cells #[.slice (some ⟨w.heap.size, 0, none⟩) 12 12, .int .i64 3] 25)
  have K0' := Lib.hid (K0.out.cl hb2 (.cells #[.slice (some ⟨w.heap.size, 0, none⟩) 12 12, .int .i64 3] 25))
  clear K0
  have K0 := K0'
  clear K0'
  have K1' := Lib.hid (K1.out.cl hb2 (.cells #[.slice (some ⟨w.heap.size, 0, none⟩) 12 12, .int .i64 3] 25))
  clear K1
  have K1 := K1'
  clear K1'
  clear R1 hB1 b1 hb2
  have K2 := Lib.hid (Bk.new w2 25 #[.slice (some ⟨w.heap.size, 0, none⟩) 12 12, .int .i64 3])
  have c0 := K0.out.cell 0
  have c1 := K0.out.cell 1
  go_wp2_with fail
  refine (kc3 R2.out (Nat.le_refl _) hB2).mono ?_
  rintro e w3 ⟨rfl, hb3⟩
  clear c0 c1
  have R3 := Lib.hid (R2.out.cl hB2 hb3 (.cells #[.slice (some ⟨w.heap.size, 0, none⟩) 12 12, .int .i64 4] 25))
  have hB3 : w.heap.size + 1 ≤ (w3.alloc (.cells #[.slice (some ⟨w.heap.size, 0, none⟩) 12 12, .int .i64 4] 25)).heap.size := Nat.le_trans hB2 (Nat.le_trans hb3.size (by simp))
  have b3 := bel_cl b2 hb3 (.cells #[.slice (some ⟨w.heap.size, 0, none⟩) 12 12, .int .i64 4] 25)
  have K0' := Lib.hid (K0.out.cl hb3 (.cells #[.slice (some ⟨w.heap.size, 0, none⟩) 12 12, .int .i64 4] 25))
  clear K0
  have K0 := K0'
  clear K0'
  have K1' := Lib.hid (K1.out.cl hb3 (.cells #[.slice (some ⟨w.heap.size, 0, none⟩) 12 12, .int .i64 4] 25))
  clear K1
  have K1 := K1'
  clear K1'
  have K2' := Lib.hid (K2.out.cl hb3 (.cells #[.slice (some ⟨w.heap.size, 0, none⟩) 12 12, .int .i64 4] 25))
  clear K2
  have K2 := K2'
  clear K2'
  clear R2 hB2 b2 hb3
  have K3 := Lib.hid (Bk.new w3 25 #[.slice (some ⟨w.heap.size, 0, none⟩) 12 12, .int .i64 4])
  have c0 := K0.out.cell 0
  have c1 := K0.out.cell 1
  go_wp2_with fail
  refine (kc4 R3.out (Nat.le_refl _) hB3).mono ?_
  rintro e w4 ⟨rfl, hb4⟩
  clear c0 c1
  have R4 := Lib.hid (R3.out.cl hB3 hb4 (.cells #[.slice (some ⟨w.heap.size, 0, none⟩) 12 12, .int .i64 12] 25))
  have hB4 : w.heap.size + 1 ≤ (w4.alloc (.cells #[.slice (some ⟨w.heap.size, 0, none⟩) 12 12, .int .i64 12] 25)).heap.size := Nat.le_trans hB3 (Nat.le_trans hb4.size (by simp))
  have b4 := bel_cl b3 hb4 (.cells #[.slice (some ⟨w.heap.size, 0, none⟩) 12 12, .int .i64 12] 25)
  have K0' := Lib.hid (K0.out.cl hb4 (.cells #[.slice (some ⟨w.heap.size, 0, none⟩) 12 12, .int .i64 12] 25))
  clear K0
  have K0 := K0'
  clear K0'
  have K1' := Lib.hid (K1.out.cl hb4 (.cells #[.slice (some ⟨w.heap.size, 0, none⟩) 12 12, .int .i64 12] 25))
  clear K1
  have K1 := K1'
  clear K1'
  have K2' := Lib.hid (K2.out.cl hb4 (.cells #[.slice (some ⟨w.heap.size, 0, none⟩) 12 12, .int .i64 12] 25))
  clear K2
  have K2 := K2'
  clear K2'
  have K3' := Lib.hid (K3.out.cl hb4 (.cells #[.slice (some ⟨w.heap.size, 0, none⟩) 12 12, .int .i64 12] 25))
  clear K3
  have K3 := K3'
  clear K3'
  clear R3 hB3 b3 hb4
  have K4 := Lib.hid (Bk.new w4 25 #[.slice (some ⟨w.heap.size, 0, none⟩) 12 12, .int .i64 12])
  have c0 := K0.out.cell 0
  have c1 := K0.out.cell 1
  go_wp2_with fail
  refine (kc5 R4.out (Nat.le_refl _) hB4).mono ?_
  rintro e w5 ⟨rfl, hb5⟩
  clear c0 c1
  have R5 := Lib.hid (R4.out.cl hB4 hb5 (.cells #[.slice (some ⟨w.heap.size, 0, none⟩) 12 12, .int .i64 10] 25))
  have hB5 : w.heap.size + 1 ≤ (w5.alloc (.cells #[.slice (some ⟨w.heap.size, 0, none⟩) 12 12, .int .i64 10] 25)).heap.size := Nat.le_trans hB4 (Nat.le_trans hb5.size (by simp))
  have b5 := bel_cl b4 hb5 (.cells #[.slice (some ⟨w.heap.size, 0, none⟩) 12 12, .int .i64 10] 25)
  have K0' := Lib.hid (K0.out.cl hb5 (.cells #[.slice (some ⟨w.heap.size, 0, none⟩) 12 12, .int .i64 10] 25))
  clear K0
  have K0 := K0'
  clear K0'
  have K1' := Lib.hid (K1.out.cl hb5 (.cells #[.slice (some ⟨w.heap.size, 0, none⟩) 12 12, .int .i64 10] 25))
  clear K1
  have K1 := K1'
  clear K1'
  have K2' := Lib.hid (K2.out.cl hb5 (.cells #[.slice (some ⟨w.heap.size, 0, none⟩) 12 12, .int .i64 10] 25))
  clear K2
  have K2 := K2'
  clear K2'
  have K3' := Lib.hid (K3.out.cl hb5 (.cells #[.slice (some ⟨w.heap.size, 0, none⟩) 12 12, .int .i64 10] 25))
  clear K3
  have K3 := K3'
  clear K3'
  have K4' := Lib.hid (K4.out.cl hb5 (.cells #[.slice (some ⟨w.heap.size, 0, none⟩) 12 12, .int .i64 10] 25))
  clear K4
  have K4 := K4'
  clear K4'
  clear R4 hB4 b4 hb5
  have K5 := Lib.hid (Bk.new w5 25 #[.slice (some ⟨w.heap.size, 0, none⟩) 12 12, .int .i64 10])
  have c0 := K2.out.cell 0
  have c1 := K2.out.cell 1
  go_wp2_with fail
  refine (kc6 R5.out (Nat.le_refl _) hB5).mono ?_
  rintro e w6 ⟨v6, rfl, ho6, hb6⟩
  clear c0 c1
  obtain ⟨A6, c6, rfl, -, -, r6⟩ := own_open ho6
  clear ho6
  have R6 := Lib.hid (R5.out.cl hB5 hb6 (.cells #[.slice (some ⟨w.heap.size, 0, none⟩) 12 12, .int .i64 5] 25))
  have hB6 : w.heap.size + 1 ≤ (w6.alloc (.cells #[.slice (some ⟨w.heap.size, 0, none⟩) 12 12, .int .i64 5] 25)).heap.size := Nat.le_trans hB5 (Nat.le_trans hb6.size (by simp))
  have b6 := bel_cl b5 hb6 (.cells #[.slice (some ⟨w.heap.size, 0, none⟩) 12 12, .int .i64 5] 25)
  have K0' := Lib.hid (K0.out.cl hb6 (.cells #[.slice (some ⟨w.heap.size, 0, none⟩) 12 12, .int .i64 5] 25))
  clear K0
  have K0 := K0'
  clear K0'
  have K1' := Lib.hid (K1.out.cl hb6 (.cells #[.slice (some ⟨w.heap.size, 0, none⟩) 12 12, .int .i64 5] 25))
  clear K1
  have K1 := K1'
  clear K1'
  have K2' := Lib.hid (K2.out.cl hb6 (.cells #[.slice (some ⟨w.heap.size, 0, none⟩) 12 12, .int .i64 5] 25))
  clear K2
  have K2 := K2'
  clear K2'
  have K3' := Lib.hid (K3.out.cl hb6 (.cells #[.slice (some ⟨w.heap.size, 0, none⟩) 12 12, .int .i64 5] 25))
  clear K3
  have K3 := K3'
  clear K3'
  have K4' := Lib.hid (K4.out.cl hb6 (.cells #[.slice (some ⟨w.heap.size, 0, none⟩) 12 12, .int .i64 5] 25))
  clear K4
  have K4 := K4'
  clear K4'
  have K5' := Lib.hid (K5.out.cl hb6 (.cells #[.slice (some ⟨w.heap.size, 0, none⟩) 12 12, .int .i64 5] 25))
  clear K5
  have K5 := K5'
  clear K5'
  clear R5 hB5 b5 hb6
  have K6 := Lib.hid (Bk.new w6 25 #[.slice (some ⟨w.heap.size, 0, none⟩) 12 12, .int .i64 5])
  have S6 := Lib.hid (r6.alloc (Nat.le_refl _) (.cells #[.slice (some ⟨w.heap.size, 0, none⟩) 12 12, .int .i64 5] 25))
  have S6z : w6.heap.size ≤ (w6.alloc (.cells #[.slice (some ⟨w.heap.size, 0, none⟩) 12 12, .int .i64 5] 25)).heap.size := by simp
  clear r6
  have r9 : Rd ((w6.alloc (.cells #[.slice (some ⟨w.heap.size, 0, none⟩) 12 12, .int .i64 5] 25)).alloc (.cells #[.int .u8 9] 5)) (w6.heap.size + 1 + 1) 1 (some ⟨w6.heap.size + 1, 0, none⟩) 1 (([9] : List UInt8).map bv) := by
    have := Rd.fresh (w6.alloc (.cells #[.slice (some ⟨w.heap.size, 0, none⟩) 12 12, .int .i64 5] 25)) 5 1 1 [.int .u8 9] rfl
    rwa [show (w6.alloc (.cells #[.slice (some ⟨w.heap.size, 0, none⟩) 12 12, .int .i64 5] 25)).heap.size = w6.heap.size + 1 by simp] at this
  have z9 : w6.heap.size + 1 + 1 ≤ ((w6.alloc (.cells #[.slice (some ⟨w.heap.size, 0, none⟩) 12 12, .int .i64 5] 25)).alloc (.cells #[.int .u8 9] 5)).heap.size := by simp
  have x9 : Below (w6.alloc (.cells #[.slice (some ⟨w.heap.size, 0, none⟩) 12 12, .int .i64 5] 25)).heap.size (w6.alloc (.cells #[.slice (some ⟨w.heap.size, 0, none⟩) 12 12, .int .i64 5] 25)) ((w6.alloc (.cells #[.slice (some ⟨w.heap.size, 0, none⟩) 12 12, .int .i64 5] 25)).alloc (.cells #[.int .u8 9] 5)) := (Below.refl _ _).alloc (Nat.le_refl _) _
  go_wp2_with fail
  refine (kc7 r9 z9).mono ?_
  rintro e w7 ⟨v7, rfl, ho7, hb7⟩
  obtain ⟨A7, c7, rfl, -, -, r7⟩ := own_open ho7
  have hb7' := x9.trans (hb7.mono x9.size)
  clear ho7 r9 z9 x9 hb7
  have hb7 := hb7'
  clear hb7'
  have R7 := Lib.hid (R6.out.belowMono hb7 hB6)
  have hB7 : w.heap.size + 1 ≤ w7.heap.size := Nat.le_trans hB6 hb7.size
  have b7 := b6.trans (hb7.mono b6.size)
  have K0' := Lib.hid (K0.out.below hb7 K0.out.lt)
  clear K0
  have K0 := K0'
  clear K0'
  have K1' := Lib.hid (K1.out.below hb7 K1.out.lt)
  clear K1
  have K1 := K1'
  clear K1'
  have K2' := Lib.hid (K2.out.below hb7 K2.out.lt)
  clear K2
  have K2 := K2'
  clear K2'
  have K3' := Lib.hid (K3.out.below hb7 K3.out.lt)
  clear K3
  have K3 := K3'
  clear K3'
  have K4' := Lib.hid (K4.out.below hb7 K4.out.lt)
  clear K4
  have K4 := K4'
  clear K4'
  have K5' := Lib.hid (K5.out.below hb7 K5.out.lt)
  clear K5
  have K5 := K5'
  clear K5'
  have K6' := Lib.hid (K6.out.below hb7 K6.out.lt)
  clear K6
  have K6 := K6'
  clear K6'
  have S6' := Lib.hid (S6.out.belowMono hb7 S6z)
  have S6z' : w6.heap.size ≤ w7.heap.size := Nat.le_trans S6z hb7.size
  clear S6 S6z
  have S6 := S6'
  have S6z := S6z'
  clear S6' S6z'
  clear R6 hB6 b6 hb7
  have S7 := Lib.hid r7
  have S7z : w7.heap.size ≤ w7.heap.size := Nat.le_refl _
  clear r7
  go_wp2_with fail
  refine kc8.mono ?_
  rintro e w8 ⟨v8, rfl, -, hb8⟩
  have R8 := Lib.hid (R7.out.belowMono hb8 hB7)
  have hB8 : w.heap.size + 1 ≤ w8.heap.size := Nat.le_trans hB7 hb8.size
  have b8 := b7.trans (hb8.mono b7.size)
  have K0' := Lib.hid (K0.out.below hb8 K0.out.lt)
  clear K0
  have K0 := K0'
  clear K0'
  have K1' := Lib.hid (K1.out.below hb8 K1.out.lt)
  clear K1
  have K1 := K1'
  clear K1'
  have K2' := Lib.hid (K2.out.below hb8 K2.out.lt)
  clear K2
  have K2 := K2'
  clear K2'
  have K3' := Lib.hid (K3.out.below hb8 K3.out.lt)
  clear K3
  have K3 := K3'
  clear K3'
  have K4' := Lib.hid (K4.out.below hb8 K4.out.lt)
  clear K4
  have K4 := K4'
  clear K4'
  have K5' := Lib.hid (K5.out.below hb8 K5.out.lt)
  clear K5
  have K5 := K5'
  clear K5'
  have K6' := Lib.hid (K6.out.below hb8 K6.out.lt)
  clear K6
  have K6 := K6'
  clear K6'
  have S6' := Lib.hid (S6.out.belowMono hb8 S6z)
  have S6z' : w6.heap.size ≤ w8.heap.size := Nat.le_trans S6z hb8.size
  clear S6 S6z
  have S6 := S6'
  have S6z := S6z'
  clear S6' S6z'
  have S7' := Lib.hid (S7.out.belowMono hb8 S7z)
  have S7z' : w7.heap.size ≤ w8.heap.size := Nat.le_trans S7z hb8.size
  clear S7 S7z
  have S7 := S7'
  have S7z := S7z'
  clear S7' S7z'
  clear R7 hB7 b7 hb8
  go_wp2_with fail
  refine kc9.mono ?_
  rintro e w9 ⟨rfl, hb9⟩
  have R9 := Lib.hid (R8.out.cl hB8 hb9 (.cells #[.slice none 0 0, .int .i64 1] 25))
  have hB9 : w.heap.size + 1 ≤ (w9.alloc (.cells #[.slice none 0 0, .int .i64 1] 25)).heap.size := Nat.le_trans hB8 (Nat.le_trans hb9.size (by simp))
  have b9 := bel_cl b8 hb9 (.cells #[.slice none 0 0, .int .i64 1] 25)
  have K0' := Lib.hid (K0.out.cl hb9 (.cells #[.slice none 0 0, .int .i64 1] 25))
  clear K0
  have K0 := K0'
  clear K0'
  have K1' := Lib.hid (K1.out.cl hb9 (.cells #[.slice none 0 0, .int .i64 1] 25))
  clear K1
  have K1 := K1'
  clear K1'
  have K2' := Lib.hid (K2.out.cl hb9 (.cells #[.slice none 0 0, .int .i64 1] 25))
  clear K2
  have K2 := K2'
  clear K2'
  have K3' := Lib.hid (K3.out.cl hb9 (.cells #[.slice none 0 0, .int .i64 1] 25))
  clear K3
  have K3 := K3'
  clear K3'
  have K4' := Lib.hid (K4.out.cl hb9 (.cells #[.slice none 0 0, .int .i64 1] 25))
  clear K4
  have K4 := K4'
  clear K4'
  have K5' := Lib.hid (K5.out.cl hb9 (.cells #[.slice none 0 0, .int .i64 1] 25))
  clear K5
  have K5 := K5'
  clear K5'
  have K6' := Lib.hid (K6.out.cl hb9 (.cells #[.slice none 0 0, .int .i64 1] 25))
  clear K6
  have K6 := K6'
  clear K6'
  have S6' := Lib.hid (S6.out.cl (Nat.le_trans S6z (Nat.le_refl _)) hb9 (.cells #[.slice none 0 0, .int .i64 1] 25))
  have S6z' : w6.heap.size ≤ (w9.alloc (.cells #[.slice none 0 0, .int .i64 1] 25)).heap.size := Nat.le_trans S6z (Nat.le_trans hb9.size (by simp))
  clear S6 S6z
  have S6 := S6'
  have S6z := S6z'
  clear S6' S6z'
  have S7' := Lib.hid (S7.out.cl (Nat.le_trans S7z (Nat.le_refl _)) hb9 (.cells #[.slice none 0 0, .int .i64 1] 25))
  have S7z' : w7.heap.size ≤ (w9.alloc (.cells #[.slice none 0 0, .int .i64 1] 25)).heap.size := Nat.le_trans S7z (Nat.le_trans hb9.size (by simp))
  clear S7 S7z
  have S7 := S7'
  have S7z := S7z'
  clear S7' S7z'
  clear R8 hB8 b8 hb9
  have s6 := run_str (c := c6) S6.out
  have s7 := run_str (c := c7) S7.out
  have t6 := strOf_list [4, 255]
  have t7 := strOf_list [9, 1, 2]
  have c0 := K0.out.cell 0
  have c1 := K0.out.cell 1
  have c5 := K5.out.cell 1
  have c6' := K6.out.cell 1
  go_wp2_with fail
  refine (kc10 (A := some ⟨w.heap.size, 0, none⟩) (c := 12)).mono ?_
  rintro e w10 ⟨rfl, hb10⟩
  clear c0 c1 c5 c6' s6 s7 t6 t7
  have R10 := Lib.hid (R9.out.belowMono hb10 hB9)
  have hB10 : w.heap.size + 1 ≤ w10.heap.size := Nat.le_trans hB9 hb10.size
  have b10 := b9.trans (hb10.mono b9.size)
  have K0' := Lib.hid (K0.out.below hb10 K0.out.lt)
  clear K0
  have K0 := K0'
  clear K0'
  have K1' := Lib.hid (K1.out.below hb10 K1.out.lt)
  clear K1
  have K1 := K1'
  clear K1'
  have K2' := Lib.hid (K2.out.below hb10 K2.out.lt)
  clear K2
  have K2 := K2'
  clear K2'
  have K3' := Lib.hid (K3.out.below hb10 K3.out.lt)
  clear K3
  have K3 := K3'
  clear K3'
  have K4' := Lib.hid (K4.out.below hb10 K4.out.lt)
  clear K4
  have K4 := K4'
  clear K4'
  have K5' := Lib.hid (K5.out.below hb10 K5.out.lt)
  clear K5
  have K5 := K5'
  clear K5'
  have K6' := Lib.hid (K6.out.below hb10 K6.out.lt)
  clear K6
  have K6 := K6'
  clear K6'
  have S6' := Lib.hid (S6.out.belowMono hb10 S6z)
  have S6z' : w6.heap.size ≤ w10.heap.size := Nat.le_trans S6z hb10.size
  clear S6 S6z
  have S6 := S6'
  have S6z := S6z'
  clear S6' S6z'
  have S7' := Lib.hid (S7.out.belowMono hb10 S7z)
  have S7z' : w7.heap.size ≤ w10.heap.size := Nat.le_trans S7z hb10.size
  clear S7 S7z
  have S7 := S7'
  have S7z := S7z'
  clear S7' S7z'
  clear R9 hB9 b9 hb10
  have c0 := K0.out.cell 0
  go_wp2_with fail
  refine (kc11 (A := some ⟨w.heap.size, 0, none⟩) (c := 12)).mono ?_
  rintro e w11 ⟨rfl, hb11⟩
  clear c0
  have R11 := Lib.hid (R10.out.belowMono hb11 hB10)
  have hB11 : w.heap.size + 1 ≤ w11.heap.size := Nat.le_trans hB10 hb11.size
  have b11 := b10.trans (hb11.mono b10.size)
  have K0' := Lib.hid (K0.out.below hb11 K0.out.lt)
  clear K0
  have K0 := K0'
  clear K0'
  have K1' := Lib.hid (K1.out.below hb11 K1.out.lt)
  clear K1
  have K1 := K1'
  clear K1'
  have K2' := Lib.hid (K2.out.below hb11 K2.out.lt)
  clear K2
  have K2 := K2'
  clear K2'
  have K3' := Lib.hid (K3.out.below hb11 K3.out.lt)
  clear K3
  have K3 := K3'
  clear K3'
  have K4' := Lib.hid (K4.out.below hb11 K4.out.lt)
  clear K4
  have K4 := K4'
  clear K4'
  have K5' := Lib.hid (K5.out.below hb11 K5.out.lt)
  clear K5
  have K5 := K5'
  clear K5'
  have K6' := Lib.hid (K6.out.below hb11 K6.out.lt)
  clear K6
  have K6 := K6'
  clear K6'
  have S6' := Lib.hid (S6.out.belowMono hb11 S6z)
  have S6z' : w6.heap.size ≤ w11.heap.size := Nat.le_trans S6z hb11.size
  clear S6 S6z
  have S6 := S6'
  have S6z := S6z'
  clear S6' S6z'
  have S7' := Lib.hid (S7.out.belowMono hb11 S7z)
  have S7z' : w7.heap.size ≤ w11.heap.size := Nat.le_trans S7z hb11.size
  clear S7 S7z
  have S7 := S7'
  have S7z := S7z'
  clear S7' S7z'
  clear R10 hB10 b10 hb11
  go_wp2_with fail
  refine kc12.mono ?_
  rintro e w12 ⟨A12, c12, rfl, hb12⟩
  have b12 := b11.trans (hb12.mono b11.size)
  go_wp2
  go_ret
  exact ⟨rfl, b12⟩
end Go.Proofs.Ytlfnmcagpokchaa
