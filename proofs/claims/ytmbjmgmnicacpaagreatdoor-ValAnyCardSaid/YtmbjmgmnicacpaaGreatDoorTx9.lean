/- dec.Text by the contracts of what it calls: eight cases. Condition: these. -/
/- dec.Text by its contract: what it tells of a decimal that may be. Condition: strconv.FormatUint keeps its contract (its table is laid). -/
import Derived.Test.YtmbjmgmnicacpaaGreatDoorFm
import Derived.Test.YtmbjmgmnicacpaaGreatDoorD2
import Derived.Test.YtmbjmgmnicacpaaGreatDoorBox8
import Derived.Test.YtmbjmgmnicacpaaGreatDoorDigOps
import Derived.Test.YtmbjmgmnicacpaaGreatDoorPa3
namespace Go.Proofs.YtmbjmgmnicacpaaGreatDoor
open Go.RowKit

set_option maxRecDepth 100000 in
theorem tw_nwa {w : World} {m : Int} {n : Nat} {D : List UInt8}
    (K1 : ∀ W : World, Calls Tryz.prog 25 #[.agg #[.int .i64 m, .int .i64 0]] W fun e w' => e = .returned (.int .i64 0) ∧ Below W.heap.size W w')
    (K2 : ∀ W : World, Calls Tryz.prog 57 #[.int .i64 m] W fun e w' => e = .returned (.agg #[.bool false, .int .u64 0, .int .u64 (n : Nat)]) ∧ Below W.heap.size W w')
    (K3 : ∀ W : World, Below w.heap.size w W → Calls Tryz.prog 58 #[.int .u64 (n : Nat), .int .i64 10] W fun e w' => e = .returned (sL D) ∧ Below W.heap.size W w')
    (_h1 : ¬ 0 < wrap64 (1 - (D.length : Int)))
    (hzz : D.length ≤ 100)
    (hD : 1 ≤ D.length)
    : Calls Tryz.prog 35 #[.agg #[.int .i64 m, .int .i64 0]] w fun e w' => e = .returned (.string (⟨D.toArray⟩ : ByteArray)) ∧ Below w.heap.size w w' := by
  have H1 := Lib.hid K1
  have H2 := Lib.hid K2
  have H3 := Lib.hid K3
  clear K1 K2 K3
  have HZ := Lib.hid hzz
  clear hzz
  unfold sL at *
  have H0 := Lib.hid (sb1 w 23 #[.int .i64 m, .int .i64 0])
  go_enter Tryz.func35, Tryz.ntmps35
  go_wp2_with fail
  refine (H1.out _).mono ?_
  rintro e w1 ⟨rfl, hb⟩
  have HB := Lib.hid (H0.out.call hb)
  clear hb H0
  have k1 := HB.out.bk _ (.head _)
  have c0 := k1.cell 0
  have c1 := k1.cell 1
  clear k1
  go_wp2_with fail
  refine (H2.out _).mono ?_
  rintro e w2 ⟨rfl, hb⟩
  have HB2 := Lib.hid ((HB.out.call hb).alloc 95 #[.bool false, .int .u64 0, .int .u64 (n : Nat)])
  clear hb HB c0 c1
  have k1 := HB2.out.bk _ (.tail _ (.head _))
  have c0 := k1.cell 0
  have c1 := k1.cell 1
  have k2 := HB2.out.bk _ (.head _)
  have d0 := k2.cell 0
  have d1 := k2.cell 1
  have d2 := k2.cell 2
  clear k1 k2
  go_wp2_with fail
  refine (H3.out _ HB2.out.bel).mono ?_
  rintro e w3 ⟨rfl, hb⟩
  have HB3 := Lib.hid (HB2.out.call hb)
  clear hb HB2 c0 c1 d0 d1 d2
  have k1 := HB3.out.bk _ (.tail _ (.head _))
  have c0 := k1.cell 0
  have c1 := k1.cell 1
  have k2 := HB3.out.bk _ (.head _)
  have d0 := k2.cell 0
  have d1 := k2.cell 1
  have d2 := k2.cell 2
  clear k1 k2
  have hbel := HB3.out.bel
  clear HB3
  have hzz := HZ.out
  have hD' : ¬ (D.length : Int) < 1 := by omega
  clear _h1
  go_wp2
  go_ret
  exact ⟨rfl, hbel⟩
set_option maxRecDepth 100000 in
theorem tw_nwm {w : World} {m : Int} {n : Nat} {D : List UInt8}
    (K1 : ∀ W : World, Calls Tryz.prog 25 #[.agg #[.int .i64 m, .int .i64 0]] W fun e w' => e = .returned (.int .i64 0) ∧ Below W.heap.size W w')
    (K2 : ∀ W : World, Calls Tryz.prog 57 #[.int .i64 m] W fun e w' => e = .returned (.agg #[.bool true, .int .u64 0, .int .u64 (n : Nat)]) ∧ Below W.heap.size W w')
    (K3 : ∀ W : World, Below w.heap.size w W → Calls Tryz.prog 58 #[.int .u64 (n : Nat), .int .i64 10] W fun e w' => e = .returned (sL D) ∧ Below W.heap.size W w')
    (_h1 : ¬ 0 < wrap64 (1 - (D.length : Int)))
    (hzz : D.length ≤ 100)
    (hD : 1 ≤ D.length)
    : Calls Tryz.prog 35 #[.agg #[.int .i64 m, .int .i64 0]] w fun e w' => e = .returned (.string ((⟨#[45]⟩ : ByteArray) ++ (⟨D.toArray⟩ : ByteArray))) ∧ Below w.heap.size w w' := by
  have H1 := Lib.hid K1
  have H2 := Lib.hid K2
  have H3 := Lib.hid K3
  clear K1 K2 K3
  have HZ := Lib.hid hzz
  clear hzz
  unfold sL at *
  have H0 := Lib.hid (sb1 w 23 #[.int .i64 m, .int .i64 0])
  go_enter Tryz.func35, Tryz.ntmps35
  go_wp2_with fail
  refine (H1.out _).mono ?_
  rintro e w1 ⟨rfl, hb⟩
  have HB := Lib.hid (H0.out.call hb)
  clear hb H0
  have k1 := HB.out.bk _ (.head _)
  have c0 := k1.cell 0
  have c1 := k1.cell 1
  clear k1
  go_wp2_with fail
  refine (H2.out _).mono ?_
  rintro e w2 ⟨rfl, hb⟩
  have HB2 := Lib.hid ((HB.out.call hb).alloc 95 #[.bool true, .int .u64 0, .int .u64 (n : Nat)])
  clear hb HB c0 c1
  have k1 := HB2.out.bk _ (.tail _ (.head _))
  have c0 := k1.cell 0
  have c1 := k1.cell 1
  have k2 := HB2.out.bk _ (.head _)
  have d0 := k2.cell 0
  have d1 := k2.cell 1
  have d2 := k2.cell 2
  clear k1 k2
  go_wp2_with fail
  refine (H3.out _ HB2.out.bel).mono ?_
  rintro e w3 ⟨rfl, hb⟩
  have HB3 := Lib.hid (HB2.out.call hb)
  clear hb HB2 c0 c1 d0 d1 d2
  have k1 := HB3.out.bk _ (.tail _ (.head _))
  have c0 := k1.cell 0
  have c1 := k1.cell 1
  have k2 := HB3.out.bk _ (.head _)
  have d0 := k2.cell 0
  have d1 := k2.cell 1
  have d2 := k2.cell 2
  clear k1 k2
  have hbel := HB3.out.bel
  clear HB3
  have hzz := HZ.out
  have hD' : ¬ (D.length : Int) < 1 := by omega
  clear _h1
  go_wp2
  go_ret
  exact ⟨rfl, hbel⟩
set_option maxRecDepth 100000 in
theorem tw_npa {w : World} {m : Int} {n s p : Nat} {D : List UInt8}
    (K1 : ∀ W : World, Calls Tryz.prog 25 #[.agg #[.int .i64 m, .int .i64 (s : Nat)]] W fun e w' => e = .returned (.int .i64 0) ∧ Below W.heap.size W w')
    (K2 : ∀ W : World, Calls Tryz.prog 57 #[.int .i64 m] W fun e w' => e = .returned (.agg #[.bool false, .int .u64 0, .int .u64 (n : Nat)]) ∧ Below W.heap.size W w')
    (K3 : ∀ W : World, Below w.heap.size w W → Calls Tryz.prog 58 #[.int .u64 (n : Nat), .int .i64 10] W fun e w' => e = .returned (sL D) ∧ Below W.heap.size W w')
    (h1 : ¬ 0 < wrap64 (wrap64 ((s : Int) + 1) - (D.length : Int)))
    (hs : (0 : Int) < (s : Nat)) (h2 : wrap64 ((D.length : Int) - (s : Int)) = (p : Nat)) (hp : p ≤ D.length)
    (hzz : D.length ≤ 100)
    : Calls Tryz.prog 35 #[.agg #[.int .i64 m, .int .i64 (s : Nat)]] w fun e w' => e = .returned (.string ((⟨D.toArray⟩ : ByteArray).extract 0 p ++ ⟨#[46]⟩ ++ (⟨D.toArray⟩ : ByteArray).extract p (⟨D.toArray⟩ : ByteArray).size)) ∧ Below w.heap.size w w' := by
  have H1 := Lib.hid K1
  have H2 := Lib.hid K2
  have H3 := Lib.hid K3
  clear K1 K2 K3
  have HZ := Lib.hid hzz
  clear hzz
  unfold sL at *
  have H0 := Lib.hid (sb1 w 23 #[.int .i64 m, .int .i64 (s : Nat)])
  go_enter Tryz.func35, Tryz.ntmps35
  go_wp2_with fail
  refine (H1.out _).mono ?_
  rintro e w1 ⟨rfl, hb⟩
  have HB := Lib.hid (H0.out.call hb)
  clear hb H0
  have k1 := HB.out.bk _ (.head _)
  have c0 := k1.cell 0
  have c1 := k1.cell 1
  clear k1
  go_wp2_with fail
  refine (H2.out _).mono ?_
  rintro e w2 ⟨rfl, hb⟩
  have HB2 := Lib.hid ((HB.out.call hb).alloc 95 #[.bool false, .int .u64 0, .int .u64 (n : Nat)])
  clear hb HB c0 c1
  have k1 := HB2.out.bk _ (.tail _ (.head _))
  have c0 := k1.cell 0
  have c1 := k1.cell 1
  have k2 := HB2.out.bk _ (.head _)
  have d0 := k2.cell 0
  have d1 := k2.cell 1
  have d2 := k2.cell 2
  clear k1 k2
  go_wp2_with fail
  refine (H3.out _ HB2.out.bel).mono ?_
  rintro e w3 ⟨rfl, hb⟩
  have HB3 := Lib.hid (HB2.out.call hb)
  clear hb HB2 c0 c1 d0 d1 d2
  have k1 := HB3.out.bk _ (.tail _ (.head _))
  have c0 := k1.cell 0
  have c1 := k1.cell 1
  have k2 := HB3.out.bk _ (.head _)
  have d0 := k2.cell 0
  have d1 := k2.cell 1
  have d2 := k2.cell 2
  clear k1 k2
  go_wp2_with fail
  obtain ⟨q, hq⟩ : ∃ q : ByteArray, (⟨D.toArray⟩ : ByteArray) = q := ⟨_, rfl⟩
  have HQ := Lib.hid hq
  have hqs : q.size = D.length := by rw [← hq]; simp [ByteArray.size]
  have hq1 : p ≤ q.size := by omega
  have hq2 : (p : Int) ≤ (q.size : Int) := by omega
  have hq3 : q.size ≤ 100 := by have := HZ.out; omega
  rw [hq]
  simp only [h2]
  have hbel := HB3.out.bel
  clear hq hqs h1 hs hp HZ HB3 h2 H1 H2 H3 c0 c1 d1 d2
  go_region
  all_goals
    go_wp2
    go_ret
    exact ⟨by rw [HQ.out]; rfl, hbel.drew⟩
set_option maxRecDepth 100000 in
theorem tw_npm {w : World} {m : Int} {n s p : Nat} {D : List UInt8}
    (K1 : ∀ W : World, Calls Tryz.prog 25 #[.agg #[.int .i64 m, .int .i64 (s : Nat)]] W fun e w' => e = .returned (.int .i64 0) ∧ Below W.heap.size W w')
    (K2 : ∀ W : World, Calls Tryz.prog 57 #[.int .i64 m] W fun e w' => e = .returned (.agg #[.bool true, .int .u64 0, .int .u64 (n : Nat)]) ∧ Below W.heap.size W w')
    (K3 : ∀ W : World, Below w.heap.size w W → Calls Tryz.prog 58 #[.int .u64 (n : Nat), .int .i64 10] W fun e w' => e = .returned (sL D) ∧ Below W.heap.size W w')
    (h1 : ¬ 0 < wrap64 (wrap64 ((s : Int) + 1) - (D.length : Int)))
    (hs : (0 : Int) < (s : Nat)) (h2 : wrap64 ((D.length : Int) - (s : Int)) = (p : Nat)) (hp : p ≤ D.length)
    (hzz : D.length ≤ 100)
    : Calls Tryz.prog 35 #[.agg #[.int .i64 m, .int .i64 (s : Nat)]] w fun e w' => e = .returned (.string ((⟨#[45]⟩ : ByteArray) ++ ((⟨D.toArray⟩ : ByteArray).extract 0 p ++ ⟨#[46]⟩ ++ (⟨D.toArray⟩ : ByteArray).extract p (⟨D.toArray⟩ : ByteArray).size))) ∧ Below w.heap.size w w' := by
  have H1 := Lib.hid K1
  have H2 := Lib.hid K2
  have H3 := Lib.hid K3
  clear K1 K2 K3
  have HZ := Lib.hid hzz
  clear hzz
  unfold sL at *
  have H0 := Lib.hid (sb1 w 23 #[.int .i64 m, .int .i64 (s : Nat)])
  go_enter Tryz.func35, Tryz.ntmps35
  go_wp2_with fail
  refine (H1.out _).mono ?_
  rintro e w1 ⟨rfl, hb⟩
  have HB := Lib.hid (H0.out.call hb)
  clear hb H0
  have k1 := HB.out.bk _ (.head _)
  have c0 := k1.cell 0
  have c1 := k1.cell 1
  clear k1
  go_wp2_with fail
  refine (H2.out _).mono ?_
  rintro e w2 ⟨rfl, hb⟩
  have HB2 := Lib.hid ((HB.out.call hb).alloc 95 #[.bool true, .int .u64 0, .int .u64 (n : Nat)])
  clear hb HB c0 c1
  have k1 := HB2.out.bk _ (.tail _ (.head _))
  have c0 := k1.cell 0
  have c1 := k1.cell 1
  have k2 := HB2.out.bk _ (.head _)
  have d0 := k2.cell 0
  have d1 := k2.cell 1
  have d2 := k2.cell 2
  clear k1 k2
  go_wp2_with fail
  refine (H3.out _ HB2.out.bel).mono ?_
  rintro e w3 ⟨rfl, hb⟩
  have HB3 := Lib.hid (HB2.out.call hb)
  clear hb HB2 c0 c1 d0 d1 d2
  have k1 := HB3.out.bk _ (.tail _ (.head _))
  have c0 := k1.cell 0
  have c1 := k1.cell 1
  have k2 := HB3.out.bk _ (.head _)
  have d0 := k2.cell 0
  have d1 := k2.cell 1
  have d2 := k2.cell 2
  clear k1 k2
  go_wp2_with fail
  obtain ⟨q, hq⟩ : ∃ q : ByteArray, (⟨D.toArray⟩ : ByteArray) = q := ⟨_, rfl⟩
  have HQ := Lib.hid hq
  have hqs : q.size = D.length := by rw [← hq]; simp [ByteArray.size]
  have hq1 : p ≤ q.size := by omega
  have hq2 : (p : Int) ≤ (q.size : Int) := by omega
  have hq3 : q.size ≤ 100 := by have := HZ.out; omega
  rw [hq]
  simp only [h2]
  have hbel := HB3.out.bel
  clear hq hqs h1 hs hp HZ HB3 h2 H1 H2 H3 c0 c1 d1 d2
  go_region
  all_goals
    go_wp2
    go_ret
    exact ⟨by rw [HQ.out]; rfl, hbel.drew⟩
set_option maxRecDepth 100000 in
theorem tw_lpa {w : World} {m : Int} {n s k p : Nat} {D Z : List UInt8}
    (K1 : ∀ W : World, Calls Tryz.prog 25 #[.agg #[.int .i64 m, .int .i64 (s : Nat)]] W fun e w' => e = .returned (.int .i64 0) ∧ Below W.heap.size W w')
    (K2 : ∀ W : World, Calls Tryz.prog 57 #[.int .i64 m] W fun e w' => e = .returned (.agg #[.bool false, .int .u64 0, .int .u64 (n : Nat)]) ∧ Below W.heap.size W w')
    (K3 : ∀ W : World, Below w.heap.size w W → Calls Tryz.prog 58 #[.int .u64 (n : Nat), .int .i64 10] W fun e w' => e = .returned (sL D) ∧ Below W.heap.size W w')
    (K4 : ∀ W : World, Calls Tryz.prog 59 #[.string ⟨#[48]⟩, .int .i64 (k : Nat)] W fun e w' => e = .returned (sL Z) ∧ w' = W)
    (h1 : wrap64 (wrap64 ((s : Int) + 1) - (D.length : Int)) = (k : Nat)) (h0 : (0 : Int) < (k : Nat)) (hsz : ¬ 9223372036854775807 < Z.length + D.length)
    (hs : (0 : Int) < (s : Nat)) (h2 : wrap64 ((Z.length : Int) + (D.length : Int) - (s : Int)) = (p : Nat)) (hp : p ≤ Z.length + D.length)
    (hzz : Z.length + D.length ≤ 100)
    : Calls Tryz.prog 35 #[.agg #[.int .i64 m, .int .i64 (s : Nat)]] w fun e w' => e = .returned (.string (((⟨Z.toArray⟩ : ByteArray) ++ ⟨D.toArray⟩).extract 0 p ++ ⟨#[46]⟩ ++ ((⟨Z.toArray⟩ : ByteArray) ++ ⟨D.toArray⟩).extract p ((⟨Z.toArray⟩ : ByteArray) ++ ⟨D.toArray⟩).size)) ∧ Below w.heap.size w w' := by
  have H1 := Lib.hid K1
  have H2 := Lib.hid K2
  have H3 := Lib.hid K3
  have H4 := Lib.hid K4
  clear K1 K2 K3 K4
  have HZ := Lib.hid hzz
  clear hzz
  unfold sL at *
  have H0 := Lib.hid (sb1 w 23 #[.int .i64 m, .int .i64 (s : Nat)])
  go_enter Tryz.func35, Tryz.ntmps35
  go_wp2_with fail
  refine (H1.out _).mono ?_
  rintro e w1 ⟨rfl, hb⟩
  have HB := Lib.hid (H0.out.call hb)
  clear hb H0
  have k1 := HB.out.bk _ (.head _)
  have c0 := k1.cell 0
  have c1 := k1.cell 1
  clear k1
  go_wp2_with fail
  refine (H2.out _).mono ?_
  rintro e w2 ⟨rfl, hb⟩
  have HB2 := Lib.hid ((HB.out.call hb).alloc 95 #[.bool false, .int .u64 0, .int .u64 (n : Nat)])
  clear hb HB c0 c1
  have k1 := HB2.out.bk _ (.tail _ (.head _))
  have c0 := k1.cell 0
  have c1 := k1.cell 1
  have k2 := HB2.out.bk _ (.head _)
  have d0 := k2.cell 0
  have d1 := k2.cell 1
  have d2 := k2.cell 2
  clear k1 k2
  go_wp2_with fail
  refine (H3.out _ HB2.out.bel).mono ?_
  rintro e w3 ⟨rfl, hb⟩
  have HB3 := Lib.hid (HB2.out.call hb)
  clear hb HB2 c0 c1 d0 d1 d2
  have k1 := HB3.out.bk _ (.tail _ (.head _))
  have c0 := k1.cell 0
  have c1 := k1.cell 1
  have k2 := HB3.out.bk _ (.head _)
  have d0 := k2.cell 0
  have d1 := k2.cell 1
  have d2 := k2.cell 2
  clear k1 k2
  go_wp2_with fail
  refine (H4.out _).mono ?_
  rintro e w4 ⟨rfl, rfl⟩
  go_wp2_with fail
  obtain ⟨q, hq⟩ : ∃ q : ByteArray, ((⟨Z.toArray⟩ : ByteArray) ++ ⟨D.toArray⟩) = q := ⟨_, rfl⟩
  have HQ := Lib.hid hq
  have hqs : q.size = Z.length + D.length := by rw [← hq]; simp [ByteArray.size]
  have hq1 : p ≤ q.size := by omega
  have hq2 : (p : Int) ≤ (q.size : Int) := by omega
  have hq3 : q.size ≤ 100 := by have := HZ.out; omega
  rw [hq]
  simp only [h2]
  have hbel := HB3.out.bel
  clear hq hqs h1 hs hp HZ HB3 h2 H1 H2 H3 c0 c1 d1 d2 h0 hsz H4
  go_region
  all_goals
    go_wp2
    go_ret
    exact ⟨by rw [HQ.out]; rfl, hbel.drew⟩
set_option maxRecDepth 100000 in
theorem tw_lpm {w : World} {m : Int} {n s k p : Nat} {D Z : List UInt8}
    (K1 : ∀ W : World, Calls Tryz.prog 25 #[.agg #[.int .i64 m, .int .i64 (s : Nat)]] W fun e w' => e = .returned (.int .i64 0) ∧ Below W.heap.size W w')
    (K2 : ∀ W : World, Calls Tryz.prog 57 #[.int .i64 m] W fun e w' => e = .returned (.agg #[.bool true, .int .u64 0, .int .u64 (n : Nat)]) ∧ Below W.heap.size W w')
    (K3 : ∀ W : World, Below w.heap.size w W → Calls Tryz.prog 58 #[.int .u64 (n : Nat), .int .i64 10] W fun e w' => e = .returned (sL D) ∧ Below W.heap.size W w')
    (K4 : ∀ W : World, Calls Tryz.prog 59 #[.string ⟨#[48]⟩, .int .i64 (k : Nat)] W fun e w' => e = .returned (sL Z) ∧ w' = W)
    (h1 : wrap64 (wrap64 ((s : Int) + 1) - (D.length : Int)) = (k : Nat)) (h0 : (0 : Int) < (k : Nat)) (hsz : ¬ 9223372036854775807 < Z.length + D.length)
    (hs : (0 : Int) < (s : Nat)) (h2 : wrap64 ((Z.length : Int) + (D.length : Int) - (s : Int)) = (p : Nat)) (hp : p ≤ Z.length + D.length)
    (hzz : Z.length + D.length ≤ 100)
    : Calls Tryz.prog 35 #[.agg #[.int .i64 m, .int .i64 (s : Nat)]] w fun e w' => e = .returned (.string ((⟨#[45]⟩ : ByteArray) ++ (((⟨Z.toArray⟩ : ByteArray) ++ ⟨D.toArray⟩).extract 0 p ++ ⟨#[46]⟩ ++ ((⟨Z.toArray⟩ : ByteArray) ++ ⟨D.toArray⟩).extract p ((⟨Z.toArray⟩ : ByteArray) ++ ⟨D.toArray⟩).size))) ∧ Below w.heap.size w w' := by
  have H1 := Lib.hid K1
  have H2 := Lib.hid K2
  have H3 := Lib.hid K3
  have H4 := Lib.hid K4
  clear K1 K2 K3 K4
  have HZ := Lib.hid hzz
  clear hzz
  unfold sL at *
  have H0 := Lib.hid (sb1 w 23 #[.int .i64 m, .int .i64 (s : Nat)])
  go_enter Tryz.func35, Tryz.ntmps35
  go_wp2_with fail
  refine (H1.out _).mono ?_
  rintro e w1 ⟨rfl, hb⟩
  have HB := Lib.hid (H0.out.call hb)
  clear hb H0
  have k1 := HB.out.bk _ (.head _)
  have c0 := k1.cell 0
  have c1 := k1.cell 1
  clear k1
  go_wp2_with fail
  refine (H2.out _).mono ?_
  rintro e w2 ⟨rfl, hb⟩
  have HB2 := Lib.hid ((HB.out.call hb).alloc 95 #[.bool true, .int .u64 0, .int .u64 (n : Nat)])
  clear hb HB c0 c1
  have k1 := HB2.out.bk _ (.tail _ (.head _))
  have c0 := k1.cell 0
  have c1 := k1.cell 1
  have k2 := HB2.out.bk _ (.head _)
  have d0 := k2.cell 0
  have d1 := k2.cell 1
  have d2 := k2.cell 2
  clear k1 k2
  go_wp2_with fail
  refine (H3.out _ HB2.out.bel).mono ?_
  rintro e w3 ⟨rfl, hb⟩
  have HB3 := Lib.hid (HB2.out.call hb)
  clear hb HB2 c0 c1 d0 d1 d2
  have k1 := HB3.out.bk _ (.tail _ (.head _))
  have c0 := k1.cell 0
  have c1 := k1.cell 1
  have k2 := HB3.out.bk _ (.head _)
  have d0 := k2.cell 0
  have d1 := k2.cell 1
  have d2 := k2.cell 2
  clear k1 k2
  go_wp2_with fail
  refine (H4.out _).mono ?_
  rintro e w4 ⟨rfl, rfl⟩
  go_wp2_with fail
  obtain ⟨q, hq⟩ : ∃ q : ByteArray, ((⟨Z.toArray⟩ : ByteArray) ++ ⟨D.toArray⟩) = q := ⟨_, rfl⟩
  have HQ := Lib.hid hq
  have hqs : q.size = Z.length + D.length := by rw [← hq]; simp [ByteArray.size]
  have hq1 : p ≤ q.size := by omega
  have hq2 : (p : Int) ≤ (q.size : Int) := by omega
  have hq3 : q.size ≤ 100 := by have := HZ.out; omega
  rw [hq]
  simp only [h2]
  have hbel := HB3.out.bel
  clear hq hqs h1 hs hp HZ HB3 h2 H1 H2 H3 c0 c1 d1 d2 h0 hsz H4
  go_region
  all_goals
    go_wp2
    go_ret
    exact ⟨by rw [HQ.out]; rfl, hbel.drew⟩
end Go.Proofs.YtmbjmgmnicacpaaGreatDoor
namespace Go.Proofs.YtmbjmgmnicacpaaGreatDoor
open Go.RowKit

theorem ba_app (l m : List UInt8) : (⟨l.toArray⟩ : ByteArray) ++ (⟨m.toArray⟩ : ByteArray) = ⟨(l ++ m).toArray⟩ := by
  apply ByteArray.ext
  simp
theorem ba_take (l : List UInt8) (p : Nat) : (⟨l.toArray⟩ : ByteArray).extract 0 p = ⟨(l.take p).toArray⟩ := by
  apply ByteArray.ext
  simp
theorem ba_drop (l : List UInt8) (p : Nat) : (⟨l.toArray⟩ : ByteArray).extract p (⟨l.toArray⟩ : ByteArray).size = ⟨(l.drop p).toArray⟩ := by
  apply ByteArray.ext
  rw [bsize, ByteArray.data_extract]
  apply Array.toList_inj.1
  rw [Array.toList_extract, List.extract_eq_take_drop, List.take_of_length_le (by simp)]
theorem dec_len {n : Nat} (h : n < 18446744073709551616) : 1 ≤ (Lib.decDigits n).length ∧ (Lib.decDigits n).length ≤ 20 := by
  by_cases h0 : n = 0
  · subst h0
    rw [decDigits_0]
    simp
  · rw [decDigits_digs n n (Nat.le_refl _) (by omega), List.length_reverse, List.length_map]
    have h1 : (digs n).length ≤ 20 := digs_len.2 (by omega)
    rw [digs_pos (by omega)] at *
    simp only [List.length_cons] at *
    omega
theorem w64 {x : Int} (h0 : -9223372036854775808 ≤ x) (h1 : x ≤ 9223372036854775807) : wrap64 x = x := IntWalk.wrap64_in _ ⟨h0, h1⟩

theorem text_any {w : World} (HT : Tens w) {m : Int} {s : Nat} (h : Gd m s) :
    Calls Tryz.prog 35 #[.agg #[.int .i64 m, .int .i64 (s : Nat)]] w fun e w' => e = .returned (sL (decTx m s)) ∧ Below w.heap.size w w' := by
  have hm0 := h.lo
  have hm1 := h.hi
  have hs9 := h.s9
  have hn : m.natAbs < 18446744073709551616 := by omega
  have K1 : ∀ W : World, Calls Tryz.prog 25 #[.agg #[.int .i64 m, .int .i64 (s : Nat)]] W fun e w' => e = .returned (.int .i64 0) ∧ Below W.heap.size W w' := fun W => by
    have := check_any (w := W) (m := m) (s := (s : Int))
    rw [h.ck] at this
    exact this
  have K2 : ∀ W : World, Calls Tryz.prog 57 #[.int .i64 m] W fun e w' => e = .returned (.agg #[.bool (decide (m < 0)), .int .u64 0, .int .u64 (m.natAbs : Nat)]) ∧ Below W.heap.size W w' := fun W => by
    have := widen_any (w := W) hm0 hm1
    rw [wd_small hn] at this
    exact this
  have K3 : ∀ W : World, Below w.heap.size w W → Calls Tryz.prog 58 #[.int .u64 (m.natAbs : Nat), .int .i64 10] W fun e w' => e = .returned (sL (Lib.decDigits m.natAbs)) ∧ Below W.heap.size W w' := fun W hb => HT _ W hn hb
  obtain ⟨hd1, hd20⟩ := dec_len hn
  have hpad := prog_pad m.natAbs s
  have hplen := padded_len m.natAbs s
  have hll : (padded m.natAbs s).length = (s + 1 - (Lib.decDigits m.natAbs).length) + (Lib.decDigits m.natAbs).length := by
    have := congrArg List.length hpad
    simp only [List.length_append, List.length_replicate, List.length_reverse, List.length_map] at this
    omega
  clear h HT
  have e1 : wrap64 ((s : Int) + 1) = (s : Int) + 1 := w64 (by omega) (by omega)
  by_cases hlack : 0 < s + 1 - (Lib.decDigits m.natAbs).length
  · have K4 : ∀ W : World, Calls Tryz.prog 59 #[.string ⟨#[48]⟩, .int .i64 ((s + 1 - (Lib.decDigits m.natAbs).length : Nat) : Int)] W fun e w' => e = .returned (sL (List.replicate (s + 1 - (Lib.decDigits m.natAbs).length) 48)) ∧ w' = W := fun W => rep_any hlack (by omega)
    have hs0 : (0 : Int) < (s : Nat) := by omega
    have hzl : (List.replicate (s + 1 - (Lib.decDigits m.natAbs).length) (48 : UInt8)).length = s + 1 - (Lib.decDigits m.natAbs).length := List.length_replicate
    have h1 : wrap64 (wrap64 ((s : Int) + 1) - ((Lib.decDigits m.natAbs).length : Int)) = ((s + 1 - (Lib.decDigits m.natAbs).length : Nat) : Int) := by rw [e1, w64 (by omega) (by omega)]; omega
    have h2 : wrap64 (((List.replicate (s + 1 - (Lib.decDigits m.natAbs).length) (48 : UInt8)).length : Int) + ((Lib.decDigits m.natAbs).length : Int) - (s : Int)) = (((padded m.natAbs s).length - s : Nat) : Int) := by rw [hzl, w64 (by omega) (by omega)]; omega
    have key : ((⟨(List.replicate (s + 1 - (Lib.decDigits m.natAbs).length) (48 : UInt8)).toArray⟩ : ByteArray) ++ ⟨(Lib.decDigits m.natAbs).toArray⟩) = ⟨(((padded m.natAbs s).map bt).reverse).toArray⟩ := by rw [ba_app, hpad]
    have fin : (⟨(((padded m.natAbs s).map bt).reverse).toArray⟩ : ByteArray).extract 0 ((padded m.natAbs s).length - s) ++ ⟨#[46]⟩ ++ (⟨(((padded m.natAbs s).map bt).reverse).toArray⟩ : ByteArray).extract ((padded m.natAbs s).length - s) (⟨(((padded m.natAbs s).map bt).reverse).toArray⟩ : ByteArray).size = ⟨(body (padded m.natAbs s) s).toArray⟩ := by
      rw [ba_take, ba_drop, show (⟨#[46]⟩ : ByteArray) = ⟨([46] : List UInt8).toArray⟩ from rfl, ba_app, ba_app, prog_point hplen (by omega)]
    unfold decTx
    by_cases hneg : m < 0
    · rw [show decide (m < 0) = true from decide_eq_true hneg] at K2
      refine (tw_lpm K1 K2 K3 K4 h1 (by omega) (by omega) hs0 h2 (by omega) (by omega)).mono ?_
      rintro e w' ⟨rfl, hb⟩
      refine ⟨?_, hb⟩
      rw [key, fin, if_pos hneg, show (⟨#[45]⟩ : ByteArray) = ⟨([45] : List UInt8).toArray⟩ from rfl, ba_app]
      rfl
    · rw [show decide (m < 0) = false from decide_eq_false hneg] at K2
      refine (tw_lpa K1 K2 K3 K4 h1 (by omega) (by omega) hs0 h2 (by omega) (by omega)).mono ?_
      rintro e w' ⟨rfl, hb⟩
      refine ⟨?_, hb⟩
      rw [key, fin, if_neg hneg]
      rfl
  · have hk0 : s + 1 - (Lib.decDigits m.natAbs).length = 0 := by omega
    rw [hk0, List.replicate_zero, List.nil_append] at hpad
    rw [hk0, Nat.zero_add] at hll
    have key : (⟨(Lib.decDigits m.natAbs).toArray⟩ : ByteArray) = ⟨(((padded m.natAbs s).map bt).reverse).toArray⟩ := by rw [hpad]
    unfold decTx
    by_cases hs : s = 0
    · subst hs
      have h1 : ¬ 0 < wrap64 (1 - ((Lib.decDigits m.natAbs).length : Int)) := by rw [w64 (by omega) (by omega)]; omega
      have fin : (⟨(((padded m.natAbs 0).map bt).reverse).toArray⟩ : ByteArray) = ⟨(body (padded m.natAbs 0) 0).toArray⟩ := by rw [prog_whole]
      by_cases hneg : m < 0
      · rw [show decide (m < 0) = true from decide_eq_true hneg] at K2
        refine (tw_nwm K1 K2 K3 h1 (by omega) (by omega)).mono ?_
        rintro e w' ⟨rfl, hb⟩
        refine ⟨?_, hb⟩
        rw [key, fin, if_pos hneg, show (⟨#[45]⟩ : ByteArray) = ⟨([45] : List UInt8).toArray⟩ from rfl, ba_app]
        rfl
      · rw [show decide (m < 0) = false from decide_eq_false hneg] at K2
        refine (tw_nwa K1 K2 K3 h1 (by omega) (by omega)).mono ?_
        rintro e w' ⟨rfl, hb⟩
        refine ⟨?_, hb⟩
        rw [key, fin, if_neg hneg]
        rfl
    · have hs0 : (0 : Int) < (s : Nat) := by omega
      have h1 : ¬ 0 < wrap64 (wrap64 ((s : Int) + 1) - ((Lib.decDigits m.natAbs).length : Int)) := by rw [e1, w64 (by omega) (by omega)]; omega
      have h2 : wrap64 (((Lib.decDigits m.natAbs).length : Int) - (s : Int)) = (((padded m.natAbs s).length - s : Nat) : Int) := by rw [w64 (by omega) (by omega)]; omega
      have fin : (⟨(((padded m.natAbs s).map bt).reverse).toArray⟩ : ByteArray).extract 0 ((padded m.natAbs s).length - s) ++ ⟨#[46]⟩ ++ (⟨(((padded m.natAbs s).map bt).reverse).toArray⟩ : ByteArray).extract ((padded m.natAbs s).length - s) (⟨(((padded m.natAbs s).map bt).reverse).toArray⟩ : ByteArray).size = ⟨(body (padded m.natAbs s) s).toArray⟩ := by
        rw [ba_take, ba_drop, show (⟨#[46]⟩ : ByteArray) = ⟨([46] : List UInt8).toArray⟩ from rfl, ba_app, ba_app, prog_point hplen (by omega)]
      by_cases hneg : m < 0
      · rw [show decide (m < 0) = true from decide_eq_true hneg] at K2
        refine (tw_npm K1 K2 K3 h1 hs0 h2 (by omega) (by omega)).mono ?_
        rintro e w' ⟨rfl, hb⟩
        refine ⟨?_, hb⟩
        rw [key, fin, if_pos hneg, show (⟨#[45]⟩ : ByteArray) = ⟨([45] : List UInt8).toArray⟩ from rfl, ba_app]
        rfl
      · rw [show decide (m < 0) = false from decide_eq_false hneg] at K2
        refine (tw_npa K1 K2 K3 h1 hs0 h2 (by omega) (by omega)).mono ?_
        rintro e w' ⟨rfl, hb⟩
        refine ⟨?_, hb⟩
        rw [key, fin, if_neg hneg]
        rfl
end Go.Proofs.YtmbjmgmnicacpaaGreatDoor
