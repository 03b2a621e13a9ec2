/- dec.Text by the contracts of what it calls: eight cases. Condition: these. -/
import Derived.Test.YtmbjmgmnicacpaaDoorFm
import Derived.Test.YtmbjmgmnicacpaaDoorD2
import Derived.Test.YtmbjmgmnicacpaaDoorBox8
import Derived.Test.YtmbjmgmnicacpaaDoorDecP
namespace Go.Proofs.YtmbjmgmnicacpaaDoor
open Go.RowKit

set_option maxRecDepth 100000 in
theorem tw_nwa {w : World} {m : Int} {n : Nat} {D : List UInt8}
    (K1 : ∀ W : World, Calls Tryd.prog 20 #[.agg #[.int .i64 m, .int .i64 0]] W fun e w' => e = .returned (.int .i64 0) ∧ Below W.heap.size W w')
    (K2 : ∀ W : World, Calls Tryd.prog 45 #[.int .i64 m] W fun e w' => e = .returned (.agg #[.bool false, .int .u64 0, .int .u64 (n : Nat)]) ∧ Below W.heap.size W w')
    (K3 : ∀ W : World, Below w.heap.size w W → Calls Tryd.prog 54 #[.int .u64 (n : Nat), .int .i64 10] W fun e w' => e = .returned (sL D) ∧ Below W.heap.size W w')
    (_h1 : ¬ 0 < wrap64 (1 - (D.length : Int)))
    (hzz : D.length ≤ 100)
    (hD : 1 ≤ D.length)
    : Calls Tryd.prog 34 #[.agg #[.int .i64 m, .int .i64 0]] w fun e w' => e = .returned (.string (⟨D.toArray⟩ : ByteArray)) ∧ Below w.heap.size w w' := by
  have H1 := Lib.hid K1
  have H2 := Lib.hid K2
  have H3 := Lib.hid K3
  clear K1 K2 K3
  have HZ := Lib.hid hzz
  clear hzz
  unfold sL at *
  have H0 := Lib.hid (sb1 w 23 #[.int .i64 m, .int .i64 0])
  go_enter Tryd.func34, Tryd.ntmps34
  go_wp2_with fail
  refine (H1.out _).mono ?_
  rintro e w1 ⟨rfl, hb⟩
  have HB := Lib.hid (H0.out.call hb)
  clear hb H0
  have k1 := HB.out.bk _ (.head _)
  have c0 := k1.cell 0
  have c1 := k1.cell 1
  clear k1
  go_wp2_with fail
  refine (H2.out _).mono ?_
  rintro e w2 ⟨rfl, hb⟩
  have HB2 := Lib.hid ((HB.out.call hb).alloc 59 #[.bool false, .int .u64 0, .int .u64 (n : Nat)])
  clear hb HB c0 c1
  have k1 := HB2.out.bk _ (.tail _ (.head _))
  have c0 := k1.cell 0
  have c1 := k1.cell 1
  have k2 := HB2.out.bk _ (.head _)
  have d0 := k2.cell 0
  have d1 := k2.cell 1
  have d2 := k2.cell 2
  clear k1 k2
  go_wp2_with fail
  refine (H3.out _ HB2.out.bel).mono ?_
  rintro e w3 ⟨rfl, hb⟩
  have HB3 := Lib.hid (HB2.out.call hb)
  clear hb HB2 c0 c1 d0 d1 d2
  have k1 := HB3.out.bk _ (.tail _ (.head _))
  have c0 := k1.cell 0
  have c1 := k1.cell 1
  have k2 := HB3.out.bk _ (.head _)
  have d0 := k2.cell 0
  have d1 := k2.cell 1
  have d2 := k2.cell 2
  clear k1 k2
  have hbel := HB3.out.bel
  clear HB3
  have hzz := HZ.out
  have hD' : ¬ (D.length : Int) < 1 := by omega
  clear _h1
  go_wp2
  go_ret
  exact ⟨rfl, hbel⟩
set_option maxRecDepth 100000 in
theorem tw_nwm {w : World} {m : Int} {n : Nat} {D : List UInt8}
    (K1 : ∀ W : World, Calls Tryd.prog 20 #[.agg #[.int .i64 m, .int .i64 0]] W fun e w' => e = .returned (.int .i64 0) ∧ Below W.heap.size W w')
    (K2 : ∀ W : World, Calls Tryd.prog 45 #[.int .i64 m] W fun e w' => e = .returned (.agg #[.bool true, .int .u64 0, .int .u64 (n : Nat)]) ∧ Below W.heap.size W w')
    (K3 : ∀ W : World, Below w.heap.size w W → Calls Tryd.prog 54 #[.int .u64 (n : Nat), .int .i64 10] W fun e w' => e = .returned (sL D) ∧ Below W.heap.size W w')
    (_h1 : ¬ 0 < wrap64 (1 - (D.length : Int)))
    (hzz : D.length ≤ 100)
    (hD : 1 ≤ D.length)
    : Calls Tryd.prog 34 #[.agg #[.int .i64 m, .int .i64 0]] w fun e w' => e = .returned (.string ((⟨#[45]⟩ : ByteArray) ++ (⟨D.toArray⟩ : ByteArray))) ∧ Below w.heap.size w w' := by
  have H1 := Lib.hid K1
  have H2 := Lib.hid K2
  have H3 := Lib.hid K3
  clear K1 K2 K3
  have HZ := Lib.hid hzz
  clear hzz
  unfold sL at *
  have H0 := Lib.hid (sb1 w 23 #[.int .i64 m, .int .i64 0])
  go_enter Tryd.func34, Tryd.ntmps34
  go_wp2_with fail
  refine (H1.out _).mono ?_
  rintro e w1 ⟨rfl, hb⟩
  have HB := Lib.hid (H0.out.call hb)
  clear hb H0
  have k1 := HB.out.bk _ (.head _)
  have c0 := k1.cell 0
  have c1 := k1.cell 1
  clear k1
  go_wp2_with fail
  refine (H2.out _).mono ?_
  rintro e w2 ⟨rfl, hb⟩
  have HB2 := Lib.hid ((HB.out.call hb).alloc 59 #[.bool true, .int .u64 0, .int .u64 (n : Nat)])
  clear hb HB c0 c1
  have k1 := HB2.out.bk _ (.tail _ (.head _))
  have c0 := k1.cell 0
  have c1 := k1.cell 1
  have k2 := HB2.out.bk _ (.head _)
  have d0 := k2.cell 0
  have d1 := k2.cell 1
  have d2 := k2.cell 2
  clear k1 k2
  go_wp2_with fail
  refine (H3.out _ HB2.out.bel).mono ?_
  rintro e w3 ⟨rfl, hb⟩
  have HB3 := Lib.hid (HB2.out.call hb)
  clear hb HB2 c0 c1 d0 d1 d2
  have k1 := HB3.out.bk _ (.tail _ (.head _))
  have c0 := k1.cell 0
  have c1 := k1.cell 1
  have k2 := HB3.out.bk _ (.head _)
  have d0 := k2.cell 0
  have d1 := k2.cell 1
  have d2 := k2.cell 2
  clear k1 k2
  have hbel := HB3.out.bel
  clear HB3
  have hzz := HZ.out
  have hD' : ¬ (D.length : Int) < 1 := by omega
  clear _h1
  go_wp2
  go_ret
  exact ⟨rfl, hbel⟩
set_option maxRecDepth 100000 in
theorem tw_npa {w : World} {m : Int} {n s p : Nat} {D : List UInt8}
    (K1 : ∀ W : World, Calls Tryd.prog 20 #[.agg #[.int .i64 m, .int .i64 (s : Nat)]] W fun e w' => e = .returned (.int .i64 0) ∧ Below W.heap.size W w')
    (K2 : ∀ W : World, Calls Tryd.prog 45 #[.int .i64 m] W fun e w' => e = .returned (.agg #[.bool false, .int .u64 0, .int .u64 (n : Nat)]) ∧ Below W.heap.size W w')
    (K3 : ∀ W : World, Below w.heap.size w W → Calls Tryd.prog 54 #[.int .u64 (n : Nat), .int .i64 10] W fun e w' => e = .returned (sL D) ∧ Below W.heap.size W w')
    (h1 : ¬ 0 < wrap64 (wrap64 ((s : Int) + 1) - (D.length : Int)))
    (hs : (0 : Int) < (s : Nat)) (h2 : wrap64 ((D.length : Int) - (s : Int)) = (p : Nat)) (hp : p ≤ D.length)
    (hzz : D.length ≤ 100)
    : Calls Tryd.prog 34 #[.agg #[.int .i64 m, .int .i64 (s : Nat)]] w fun e w' => e = .returned (.string ((⟨D.toArray⟩ : ByteArray).extract 0 p ++ ⟨#[46]⟩ ++ (⟨D.toArray⟩ : ByteArray).extract p (⟨D.toArray⟩ : ByteArray).size)) ∧ Below w.heap.size w w' := by
  have H1 := Lib.hid K1
  have H2 := Lib.hid K2
  have H3 := Lib.hid K3
  clear K1 K2 K3
  have HZ := Lib.hid hzz
  clear hzz
  unfold sL at *
  have H0 := Lib.hid (sb1 w 23 #[.int .i64 m, .int .i64 (s : Nat)])
  go_enter Tryd.func34, Tryd.ntmps34
  go_wp2_with fail
  refine (H1.out _).mono ?_
  rintro e w1 ⟨rfl, hb⟩
  have HB := Lib.hid (H0.out.call hb)
  clear hb H0
  have k1 := HB.out.bk _ (.head _)
  have c0 := k1.cell 0
  have c1 := k1.cell 1
  clear k1
  go_wp2_with fail
  refine (H2.out _).mono ?_
  rintro e w2 ⟨rfl, hb⟩
  have HB2 := Lib.hid ((HB.out.call hb).alloc 59 #[.bool false, .int .u64 0, .int .u64 (n : Nat)])
  clear hb HB c0 c1
  have k1 := HB2.out.bk _ (.tail _ (.head _))
  have c0 := k1.cell 0
  have c1 := k1.cell 1
  have k2 := HB2.out.bk _ (.head _)
  have d0 := k2.cell 0
  have d1 := k2.cell 1
  have d2 := k2.cell 2
  clear k1 k2
  go_wp2_with fail
  refine (H3.out _ HB2.out.bel).mono ?_
  rintro e w3 ⟨rfl, hb⟩
  have HB3 := Lib.hid (HB2.out.call hb)
  clear hb HB2 c0 c1 d0 d1 d2
  have k1 := HB3.out.bk _ (.tail _ (.head _))
  have c0 := k1.cell 0
  have c1 := k1.cell 1
  have k2 := HB3.out.bk _ (.head _)
  have d0 := k2.cell 0
  have d1 := k2.cell 1
  have d2 := k2.cell 2
  clear k1 k2
  go_wp2_with fail
  obtain ⟨q, hq⟩ : ∃ q : ByteArray, (⟨D.toArray⟩ : ByteArray) = q := ⟨_, rfl⟩
  have HQ := Lib.hid hq
  have hqs : q.size = D.length := by rw [← hq]; simp [ByteArray.size]
  have hq1 : p ≤ q.size := by omega
  have hq2 : (p : Int) ≤ (q.size : Int) := by omega
  have hq3 : q.size ≤ 100 := by have := HZ.out; omega
  rw [hq]
  simp only [h2]
  have hbel := HB3.out.bel
  clear hq hqs h1 hs hp HZ HB3 h2 H1 H2 H3 c0 c1 d1 d2
  go_region
  all_goals
    go_wp2
    go_ret
    exact ⟨by rw [HQ.out]; rfl, hbel.drew⟩
set_option maxRecDepth 100000 in
theorem tw_npm {w : World} {m : Int} {n s p : Nat} {D : List UInt8}
    (K1 : ∀ W : World, Calls Tryd.prog 20 #[.agg #[.int .i64 m, .int .i64 (s : Nat)]] W fun e w' => e = .returned (.int .i64 0) ∧ Below W.heap.size W w')
    (K2 : ∀ W : World, Calls Tryd.prog 45 #[.int .i64 m] W fun e w' => e = .returned (.agg #[.bool true, .int .u64 0, .int .u64 (n : Nat)]) ∧ Below W.heap.size W w')
    (K3 : ∀ W : World, Below w.heap.size w W → Calls Tryd.prog 54 #[.int .u64 (n : Nat), .int .i64 10] W fun e w' => e = .returned (sL D) ∧ Below W.heap.size W w')
    (h1 : ¬ 0 < wrap64 (wrap64 ((s : Int) + 1) - (D.length : Int)))
    (hs : (0 : Int) < (s : Nat)) (h2 : wrap64 ((D.length : Int) - (s : Int)) = (p : Nat)) (hp : p ≤ D.length)
    (hzz : D.length ≤ 100)
    : Calls Tryd.prog 34 #[.agg #[.int .i64 m, .int .i64 (s : Nat)]] w fun e w' => e = .returned (.string ((⟨#[45]⟩ : ByteArray) ++ ((⟨D.toArray⟩ : ByteArray).extract 0 p ++ ⟨#[46]⟩ ++ (⟨D.toArray⟩ : ByteArray).extract p (⟨D.toArray⟩ : ByteArray).size))) ∧ Below w.heap.size w w' := by
  have H1 := Lib.hid K1
  have H2 := Lib.hid K2
  have H3 := Lib.hid K3
  clear K1 K2 K3
  have HZ := Lib.hid hzz
  clear hzz
  unfold sL at *
  have H0 := Lib.hid (sb1 w 23 #[.int .i64 m, .int .i64 (s : Nat)])
  go_enter Tryd.func34, Tryd.ntmps34
  go_wp2_with fail
  refine (H1.out _).mono ?_
  rintro e w1 ⟨rfl, hb⟩
  have HB := Lib.hid (H0.out.call hb)
  clear hb H0
  have k1 := HB.out.bk _ (.head _)
  have c0 := k1.cell 0
  have c1 := k1.cell 1
  clear k1
  go_wp2_with fail
  refine (H2.out _).mono ?_
  rintro e w2 ⟨rfl, hb⟩
  have HB2 := Lib.hid ((HB.out.call hb).alloc 59 #[.bool true, .int .u64 0, .int .u64 (n : Nat)])
  clear hb HB c0 c1
  have k1 := HB2.out.bk _ (.tail _ (.head _))
  have c0 := k1.cell 0
  have c1 := k1.cell 1
  have k2 := HB2.out.bk _ (.head _)
  have d0 := k2.cell 0
  have d1 := k2.cell 1
  have d2 := k2.cell 2
  clear k1 k2
  go_wp2_with fail
  refine (H3.out _ HB2.out.bel).mono ?_
  rintro e w3 ⟨rfl, hb⟩
  have HB3 := Lib.hid (HB2.out.call hb)
  clear hb HB2 c0 c1 d0 d1 d2
  have k1 := HB3.out.bk _ (.tail _ (.head _))
  have c0 := k1.cell 0
  have c1 := k1.cell 1
  have k2 := HB3.out.bk _ (.head _)
  have d0 := k2.cell 0
  have d1 := k2.cell 1
  have d2 := k2.cell 2
  clear k1 k2
  go_wp2_with fail
  obtain ⟨q, hq⟩ : ∃ q : ByteArray, (⟨D.toArray⟩ : ByteArray) = q := ⟨_, rfl⟩
  have HQ := Lib.hid hq
  have hqs : q.size = D.length := by rw [← hq]; simp [ByteArray.size]
  have hq1 : p ≤ q.size := by omega
  have hq2 : (p : Int) ≤ (q.size : Int) := by omega
  have hq3 : q.size ≤ 100 := by have := HZ.out; omega
  rw [hq]
  simp only [h2]
  have hbel := HB3.out.bel
  clear hq hqs h1 hs hp HZ HB3 h2 H1 H2 H3 c0 c1 d1 d2
  go_region
  all_goals
    go_wp2
    go_ret
    exact ⟨by rw [HQ.out]; rfl, hbel.drew⟩
set_option maxRecDepth 100000 in
theorem tw_lpa {w : World} {m : Int} {n s k p : Nat} {D Z : List UInt8}
    (K1 : ∀ W : World, Calls Tryd.prog 20 #[.agg #[.int .i64 m, .int .i64 (s : Nat)]] W fun e w' => e = .returned (.int .i64 0) ∧ Below W.heap.size W w')
    (K2 : ∀ W : World, Calls Tryd.prog 45 #[.int .i64 m] W fun e w' => e = .returned (.agg #[.bool false, .int .u64 0, .int .u64 (n : Nat)]) ∧ Below W.heap.size W w')
    (K3 : ∀ W : World, Below w.heap.size w W → Calls Tryd.prog 54 #[.int .u64 (n : Nat), .int .i64 10] W fun e w' => e = .returned (sL D) ∧ Below W.heap.size W w')
    (K4 : ∀ W : World, Calls Tryd.prog 55 #[.string ⟨#[48]⟩, .int .i64 (k : Nat)] W fun e w' => e = .returned (sL Z) ∧ w' = W)
    (h1 : wrap64 (wrap64 ((s : Int) + 1) - (D.length : Int)) = (k : Nat)) (h0 : (0 : Int) < (k : Nat)) (hsz : ¬ 9223372036854775807 < Z.length + D.length)
    (hs : (0 : Int) < (s : Nat)) (h2 : wrap64 ((Z.length : Int) + (D.length : Int) - (s : Int)) = (p : Nat)) (hp : p ≤ Z.length + D.length)
    (hzz : Z.length + D.length ≤ 100)
    : Calls Tryd.prog 34 #[.agg #[.int .i64 m, .int .i64 (s : Nat)]] w fun e w' => e = .returned (.string (((⟨Z.toArray⟩ : ByteArray) ++ ⟨D.toArray⟩).extract 0 p ++ ⟨#[46]⟩ ++ ((⟨Z.toArray⟩ : ByteArray) ++ ⟨D.toArray⟩).extract p ((⟨Z.toArray⟩ : ByteArray) ++ ⟨D.toArray⟩).size)) ∧ Below w.heap.size w w' := by
  have H1 := Lib.hid K1
  have H2 := Lib.hid K2
  have H3 := Lib.hid K3
  have H4 := Lib.hid K4
  clear K1 K2 K3 K4
  have HZ := Lib.hid hzz
  clear hzz
  unfold sL at *
  have H0 := Lib.hid (sb1 w 23 #[.int .i64 m, .int .i64 (s : Nat)])
  go_enter Tryd.func34, Tryd.ntmps34
  go_wp2_with fail
  refine (H1.out _).mono ?_
  rintro e w1 ⟨rfl, hb⟩
  have HB := Lib.hid (H0.out.call hb)
  clear hb H0
  have k1 := HB.out.bk _ (.head _)
  have c0 := k1.cell 0
  have c1 := k1.cell 1
  clear k1
  go_wp2_with fail
  refine (H2.out _).mono ?_
  rintro e w2 ⟨rfl, hb⟩
  have HB2 := Lib.hid ((HB.out.call hb).alloc 59 #[.bool false, .int .u64 0, .int .u64 (n : Nat)])
  clear hb HB c0 c1
  have k1 := HB2.out.bk _ (.tail _ (.head _))
  have c0 := k1.cell 0
  have c1 := k1.cell 1
  have k2 := HB2.out.bk _ (.head _)
  have d0 := k2.cell 0
  have d1 := k2.cell 1
  have d2 := k2.cell 2
  clear k1 k2
  go_wp2_with fail
  refine (H3.out _ HB2.out.bel).mono ?_
  rintro e w3 ⟨rfl, hb⟩
  have HB3 := Lib.hid (HB2.out.call hb)
  clear hb HB2 c0 c1 d0 d1 d2
  have k1 := HB3.out.bk _ (.tail _ (.head _))
  have c0 := k1.cell 0
  have c1 := k1.cell 1
  have k2 := HB3.out.bk _ (.head _)
  have d0 := k2.cell 0
  have d1 := k2.cell 1
  have d2 := k2.cell 2
  clear k1 k2
  go_wp2_with fail
  refine (H4.out _).mono ?_
  rintro e w4 ⟨rfl, rfl⟩
  go_wp2_with fail
  obtain ⟨q, hq⟩ : ∃ q : ByteArray, ((⟨Z.toArray⟩ : ByteArray) ++ ⟨D.toArray⟩) = q := ⟨_, rfl⟩
  have HQ := Lib.hid hq
  have hqs : q.size = Z.length + D.length := by rw [← hq]; simp [ByteArray.size]
  have hq1 : p ≤ q.size := by omega
  have hq2 : (p : Int) ≤ (q.size : Int) := by omega
  have hq3 : q.size ≤ 100 := by have := HZ.out; omega
  rw [hq]
  simp only [h2]
  have hbel := HB3.out.bel
  clear hq hqs h1 hs hp HZ HB3 h2 H1 H2 H3 c0 c1 d1 d2 h0 hsz H4
  go_region
  all_goals
    go_wp2
    go_ret
    exact ⟨by rw [HQ.out]; rfl, hbel.drew⟩
set_option maxRecDepth 100000 in
theorem tw_lpm {w : World} {m : Int} {n s k p : Nat} {D Z : List UInt8}
    (K1 : ∀ W : World, Calls Tryd.prog 20 #[.agg #[.int .i64 m, .int .i64 (s : Nat)]] W fun e w' => e = .returned (.int .i64 0) ∧ Below W.heap.size W w')
    (K2 : ∀ W : World, Calls Tryd.prog 45 #[.int .i64 m] W fun e w' => e = .returned (.agg #[.bool true, .int .u64 0, .int .u64 (n : Nat)]) ∧ Below W.heap.size W w')
    (K3 : ∀ W : World, Below w.heap.size w W → Calls Tryd.prog 54 #[.int .u64 (n : Nat), .int .i64 10] W fun e w' => e = .returned (sL D) ∧ Below W.heap.size W w')
    (K4 : ∀ W : World, Calls Tryd.prog 55 #[.string ⟨#[48]⟩, .int .i64 (k : Nat)] W fun e w' => e = .returned (sL Z) ∧ w' = W)
    (h1 : wrap64 (wrap64 ((s : Int) + 1) - (D.length : Int)) = (k : Nat)) (h0 : (0 : Int) < (k : Nat)) (hsz : ¬ 9223372036854775807 < Z.length + D.length)
    (hs : (0 : Int) < (s : Nat)) (h2 : wrap64 ((Z.length : Int) + (D.length : Int) - (s : Int)) = (p : Nat)) (hp : p ≤ Z.length + D.length)
    (hzz : Z.length + D.length ≤ 100)
    : Calls Tryd.prog 34 #[.agg #[.int .i64 m, .int .i64 (s : Nat)]] w fun e w' => e = .returned (.string ((⟨#[45]⟩ : ByteArray) ++ (((⟨Z.toArray⟩ : ByteArray) ++ ⟨D.toArray⟩).extract 0 p ++ ⟨#[46]⟩ ++ ((⟨Z.toArray⟩ : ByteArray) ++ ⟨D.toArray⟩).extract p ((⟨Z.toArray⟩ : ByteArray) ++ ⟨D.toArray⟩).size))) ∧ Below w.heap.size w w' := by
  have H1 := Lib.hid K1
  have H2 := Lib.hid K2
  have H3 := Lib.hid K3
  have H4 := Lib.hid K4
  clear K1 K2 K3 K4
  have HZ := Lib.hid hzz
  clear hzz
  unfold sL at *
  have H0 := Lib.hid (sb1 w 23 #[.int .i64 m, .int .i64 (s : Nat)])
  go_enter Tryd.func34, Tryd.ntmps34
  go_wp2_with fail
  refine (H1.out _).mono ?_
  rintro e w1 ⟨rfl, hb⟩
  have HB := Lib.hid (H0.out.call hb)
  clear hb H0
  have k1 := HB.out.bk _ (.head _)
  have c0 := k1.cell 0
  have c1 := k1.cell 1
  clear k1
  go_wp2_with fail
  refine (H2.out _).mono ?_
  rintro e w2 ⟨rfl, hb⟩
  have HB2 := Lib.hid ((HB.out.call hb).alloc 59 #[.bool true, .int .u64 0, .int .u64 (n : Nat)])
  clear hb HB c0 c1
  have k1 := HB2.out.bk _ (.tail _ (.head _))
  have c0 := k1.cell 0
  have c1 := k1.cell 1
  have k2 := HB2.out.bk _ (.head _)
  have d0 := k2.cell 0
  have d1 := k2.cell 1
  have d2 := k2.cell 2
  clear k1 k2
  go_wp2_with fail
  refine (H3.out _ HB2.out.bel).mono ?_
  rintro e w3 ⟨rfl, hb⟩
  have HB3 := Lib.hid (HB2.out.call hb)
  clear hb HB2 c0 c1 d0 d1 d2
  have k1 := HB3.out.bk _ (.tail _ (.head _))
  have c0 := k1.cell 0
  have c1 := k1.cell 1
  have k2 := HB3.out.bk _ (.head _)
  have d0 := k2.cell 0
  have d1 := k2.cell 1
  have d2 := k2.cell 2
  clear k1 k2
  go_wp2_with fail
  refine (H4.out _).mono ?_
  rintro e w4 ⟨rfl, rfl⟩
  go_wp2_with fail
  obtain ⟨q, hq⟩ : ∃ q : ByteArray, ((⟨Z.toArray⟩ : ByteArray) ++ ⟨D.toArray⟩) = q := ⟨_, rfl⟩
  have HQ := Lib.hid hq
  have hqs : q.size = Z.length + D.length := by rw [← hq]; simp [ByteArray.size]
  have hq1 : p ≤ q.size := by omega
  have hq2 : (p : Int) ≤ (q.size : Int) := by omega
  have hq3 : q.size ≤ 100 := by have := HZ.out; omega
  rw [hq]
  simp only [h2]
  have hbel := HB3.out.bel
  clear hq hqs h1 hs hp HZ HB3 h2 H1 H2 H3 c0 c1 d1 d2 h0 hsz H4
  go_region
  all_goals
    go_wp2
    go_ret
    exact ⟨by rw [HQ.out]; rfl, hbel.drew⟩
end Go.Proofs.YtmbjmgmnicacpaaDoor
