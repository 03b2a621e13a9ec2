/- cashbooklaw9.ValOrder by its contract: it returns true. Condition: utf8.ValidString keeps its contract; a text's length is one. -/
import Derived.Test.YtmbjmgmnicacpaaDoorKnown9
import Derived.Test.YtmbjmgmnicacpaaDoorV5
namespace Go.Proofs.YtmbjmgmnicacpaaDoor
open Go.RowKit

set_option maxRecDepth 20000 in
set_option maxHeartbeats 2000000 in
theorem order_long1 {w : World} {k1 m1 s1 : Int} {t1 : ByteArray} {b1 : Bool} {e1 : Int} {k2 m2 s2 : Int} {t2 : ByteArray} {b2 : Bool} {e2 : Int} {k3 m3 s3 : Int} {t3 : ByteArray} {b3 : Bool} {e3 : Int} (h1 : 1000 < t1.size) :
    Calls Tryd.prog 3 #[.agg #[.int .i64 k1, .int .i64 m1, .int .i64 s1, .string t1, .bool b1, .int .i64 e1], .agg #[.int .i64 k2, .int .i64 m2, .int .i64 s2, .string t2, .bool b2, .int .i64 e2], .agg #[.int .i64 k3, .int .i64 m3, .int .i64 s3, .string t3, .bool b3, .int .i64 e3]] w fun x w' => x = .returned (.bool true) ∧ Below w.heap.size w w' := by
  have HN := Lib.hid (fun W : World => known9_any (w := W))
  have h1' : (1000 : Int) < ((t1.size : Nat) : Int) := by omega
  clear h1
  have HB := Lib.hid (((sb1 w 25 #[.int .i64 k1, .int .i64 m1, .int .i64 s1, .string t1, .bool b1, .int .i64 e1]).push (by simp) 25 #[.int .i64 k2, .int .i64 m2, .int .i64 s2, .string t2, .bool b2, .int .i64 e2]).push (by simp) 25 #[.int .i64 k3, .int .i64 m3, .int .i64 s3, .string t3, .bool b3, .int .i64 e3])
  go_enter Tryd.func3, Tryd.ntmps3
  go_wp2_with fail
  refine (HN.out _).mono ?_
  rintro x w1 ⟨rfl, hb⟩
  have hB := HB.out.call hb
  clear hb HB
  have HB := Lib.hid hB
  clear hB
  have ka := HB.out.box (i := 2) rfl
  have ca0 := ka.cell 0
  have ca1 := ka.cell 1
  have ca2 := ka.cell 2
  have ca3 := ka.cell 3
  have ca4 := ka.cell 4
  have ca5 := ka.cell 5
  clear ka
  have kb := HB.out.box (i := 1) rfl
  have cb0 := kb.cell 0
  have cb1 := kb.cell 1
  have cb2 := kb.cell 2
  have cb3 := kb.cell 3
  have cb4 := kb.cell 4
  have cb5 := kb.cell 5
  clear kb
  have kc := HB.out.box (i := 0) rfl
  have cc0 := kc.cell 0
  have cc1 := kc.cell 1
  have cc2 := kc.cell 2
  have cc3 := kc.cell 3
  have cc4 := kc.cell 4
  have cc5 := kc.cell 5
  clear kc
  have hbel := HB.out.bel
  clear HB
  go_wp2
  go_ret
  exact ⟨rfl, hbel⟩

set_option maxRecDepth 20000 in
set_option maxHeartbeats 2000000 in
theorem order_long2 {w : World} {k1 m1 s1 : Int} {t1 : ByteArray} {b1 : Bool} {e1 : Int} {k2 m2 s2 : Int} {t2 : ByteArray} {b2 : Bool} {e2 : Int} {k3 m3 s3 : Int} {t3 : ByteArray} {b3 : Bool} {e3 : Int} (h1 : t1.size ≤ 1000) (h2 : 1000 < t2.size) :
    Calls Tryd.prog 3 #[.agg #[.int .i64 k1, .int .i64 m1, .int .i64 s1, .string t1, .bool b1, .int .i64 e1], .agg #[.int .i64 k2, .int .i64 m2, .int .i64 s2, .string t2, .bool b2, .int .i64 e2], .agg #[.int .i64 k3, .int .i64 m3, .int .i64 s3, .string t3, .bool b3, .int .i64 e3]] w fun x w' => x = .returned (.bool true) ∧ Below w.heap.size w w' := by
  have HN := Lib.hid (fun W : World => known9_any (w := W))
  have h1' : ¬ (1000 : Int) < ((t1.size : Nat) : Int) := by omega
  clear h1
  have h2' : (1000 : Int) < ((t2.size : Nat) : Int) := by omega
  clear h2
  have HB := Lib.hid (((sb1 w 25 #[.int .i64 k1, .int .i64 m1, .int .i64 s1, .string t1, .bool b1, .int .i64 e1]).push (by simp) 25 #[.int .i64 k2, .int .i64 m2, .int .i64 s2, .string t2, .bool b2, .int .i64 e2]).push (by simp) 25 #[.int .i64 k3, .int .i64 m3, .int .i64 s3, .string t3, .bool b3, .int .i64 e3])
  go_enter Tryd.func3, Tryd.ntmps3
  go_wp2_with fail
  refine (HN.out _).mono ?_
  rintro x w1 ⟨rfl, hb⟩
  have hB := HB.out.call hb
  clear hb HB
  have HB := Lib.hid hB
  clear hB
  have ka := HB.out.box (i := 2) rfl
  have ca0 := ka.cell 0
  have ca1 := ka.cell 1
  have ca2 := ka.cell 2
  have ca3 := ka.cell 3
  have ca4 := ka.cell 4
  have ca5 := ka.cell 5
  clear ka
  have kb := HB.out.box (i := 1) rfl
  have cb0 := kb.cell 0
  have cb1 := kb.cell 1
  have cb2 := kb.cell 2
  have cb3 := kb.cell 3
  have cb4 := kb.cell 4
  have cb5 := kb.cell 5
  clear kb
  have kc := HB.out.box (i := 0) rfl
  have cc0 := kc.cell 0
  have cc1 := kc.cell 1
  have cc2 := kc.cell 2
  have cc3 := kc.cell 3
  have cc4 := kc.cell 4
  have cc5 := kc.cell 5
  clear kc
  have hbel := HB.out.bel
  clear HB
  go_wp2
  go_ret
  exact ⟨rfl, hbel⟩

set_option maxRecDepth 20000 in
set_option maxHeartbeats 2000000 in
theorem order_long3 {w : World} {k1 m1 s1 : Int} {t1 : ByteArray} {b1 : Bool} {e1 : Int} {k2 m2 s2 : Int} {t2 : ByteArray} {b2 : Bool} {e2 : Int} {k3 m3 s3 : Int} {t3 : ByteArray} {b3 : Bool} {e3 : Int} (h1 : t1.size ≤ 1000) (h2 : t2.size ≤ 1000) (h3 : 1000 < t3.size) :
    Calls Tryd.prog 3 #[.agg #[.int .i64 k1, .int .i64 m1, .int .i64 s1, .string t1, .bool b1, .int .i64 e1], .agg #[.int .i64 k2, .int .i64 m2, .int .i64 s2, .string t2, .bool b2, .int .i64 e2], .agg #[.int .i64 k3, .int .i64 m3, .int .i64 s3, .string t3, .bool b3, .int .i64 e3]] w fun x w' => x = .returned (.bool true) ∧ Below w.heap.size w w' := by
  have HN := Lib.hid (fun W : World => known9_any (w := W))
  have h1' : ¬ (1000 : Int) < ((t1.size : Nat) : Int) := by omega
  clear h1
  have h2' : ¬ (1000 : Int) < ((t2.size : Nat) : Int) := by omega
  clear h2
  have h3' : (1000 : Int) < ((t3.size : Nat) : Int) := by omega
  clear h3
  have HB := Lib.hid (((sb1 w 25 #[.int .i64 k1, .int .i64 m1, .int .i64 s1, .string t1, .bool b1, .int .i64 e1]).push (by simp) 25 #[.int .i64 k2, .int .i64 m2, .int .i64 s2, .string t2, .bool b2, .int .i64 e2]).push (by simp) 25 #[.int .i64 k3, .int .i64 m3, .int .i64 s3, .string t3, .bool b3, .int .i64 e3])
  go_enter Tryd.func3, Tryd.ntmps3
  go_wp2_with fail
  refine (HN.out _).mono ?_
  rintro x w1 ⟨rfl, hb⟩
  have hB := HB.out.call hb
  clear hb HB
  have HB := Lib.hid hB
  clear hB
  have ka := HB.out.box (i := 2) rfl
  have ca0 := ka.cell 0
  have ca1 := ka.cell 1
  have ca2 := ka.cell 2
  have ca3 := ka.cell 3
  have ca4 := ka.cell 4
  have ca5 := ka.cell 5
  clear ka
  have kb := HB.out.box (i := 1) rfl
  have cb0 := kb.cell 0
  have cb1 := kb.cell 1
  have cb2 := kb.cell 2
  have cb3 := kb.cell 3
  have cb4 := kb.cell 4
  have cb5 := kb.cell 5
  clear kb
  have kc := HB.out.box (i := 0) rfl
  have cc0 := kc.cell 0
  have cc1 := kc.cell 1
  have cc2 := kc.cell 2
  have cc3 := kc.cell 3
  have cc4 := kc.cell 4
  have cc5 := kc.cell 5
  clear kc
  have hbel := HB.out.bel
  clear HB
  go_wp2
  go_ret
  exact ⟨rfl, hbel⟩

set_option maxRecDepth 20000 in
set_option maxHeartbeats 2000000 in
theorem order_bad1 {w : World} {k1 m1 s1 : Int} {t1 : ByteArray} {b1 : Bool} {e1 : Int} {k2 m2 s2 : Int} {t2 : ByteArray} {b2 : Bool} {e2 : Int} {k3 m3 s3 : Int} {t3 : ByteArray} {b3 : Bool} {e3 : Int} (h1 : t1.size ≤ 1000) (h2 : t2.size ≤ 1000) (h3 : t3.size ≤ 1000) {E1 : Int} (hE1 : ¬ E1 = 0) (K1 : ∀ W : World, Below w.heap.size w W → Calls Tryd.prog 7 #[.agg #[.int .i64 k1, .int .i64 m1, .int .i64 s1, .string t1, .bool b1, .int .i64 e1]] W fun x w' => x = .returned (.int .i64 E1) ∧ Below W.heap.size W w') :
    Calls Tryd.prog 3 #[.agg #[.int .i64 k1, .int .i64 m1, .int .i64 s1, .string t1, .bool b1, .int .i64 e1], .agg #[.int .i64 k2, .int .i64 m2, .int .i64 s2, .string t2, .bool b2, .int .i64 e2], .agg #[.int .i64 k3, .int .i64 m3, .int .i64 s3, .string t3, .bool b3, .int .i64 e3]] w fun x w' => x = .returned (.bool true) ∧ Below w.heap.size w w' := by
  have HN := Lib.hid (fun W : World => known9_any (w := W))
  have h1' : ¬ (1000 : Int) < ((t1.size : Nat) : Int) := by omega
  clear h1
  have h2' : ¬ (1000 : Int) < ((t2.size : Nat) : Int) := by omega
  clear h2
  have h3' : ¬ (1000 : Int) < ((t3.size : Nat) : Int) := by omega
  clear h3
  have hE1' : (E1 != 0) = true := bne_iff_ne.2 hE1
  clear hE1
  have H1 := Lib.hid K1
  clear K1
  have HB := Lib.hid (((sb1 w 25 #[.int .i64 k1, .int .i64 m1, .int .i64 s1, .string t1, .bool b1, .int .i64 e1]).push (by simp) 25 #[.int .i64 k2, .int .i64 m2, .int .i64 s2, .string t2, .bool b2, .int .i64 e2]).push (by simp) 25 #[.int .i64 k3, .int .i64 m3, .int .i64 s3, .string t3, .bool b3, .int .i64 e3])
  go_enter Tryd.func3, Tryd.ntmps3
  go_wp2_with fail
  refine (HN.out _).mono ?_
  rintro x w1 ⟨rfl, hb⟩
  have hB := HB.out.call hb
  clear hb HB
  have HB := Lib.hid hB
  clear hB
  have ka := HB.out.box (i := 2) rfl
  have ca0 := ka.cell 0
  have ca1 := ka.cell 1
  have ca2 := ka.cell 2
  have ca3 := ka.cell 3
  have ca4 := ka.cell 4
  have ca5 := ka.cell 5
  clear ka
  have kb := HB.out.box (i := 1) rfl
  have cb0 := kb.cell 0
  have cb1 := kb.cell 1
  have cb2 := kb.cell 2
  have cb3 := kb.cell 3
  have cb4 := kb.cell 4
  have cb5 := kb.cell 5
  clear kb
  have kc := HB.out.box (i := 0) rfl
  have cc0 := kc.cell 0
  have cc1 := kc.cell 1
  have cc2 := kc.cell 2
  have cc3 := kc.cell 3
  have cc4 := kc.cell 4
  have cc5 := kc.cell 5
  clear kc
  go_wp2_with fail
  refine (H1.out _ HB.out.bel).mono ?_
  rintro x w2 ⟨rfl, hb⟩
  have hB := HB.out.call hb
  clear hb HB
  have HB := Lib.hid hB
  clear hB
  clear ca0 ca1 ca2 ca3 ca4 ca5 cb0 cb1 cb2 cb3 cb4 cb5 cc0 cc1 cc2 cc3 cc4 cc5
  have hbel := HB.out.bel
  clear HB
  go_wp2
  go_ret
  exact ⟨rfl, hbel⟩

set_option maxRecDepth 20000 in
set_option maxHeartbeats 2000000 in
theorem order_bad2 {w : World} {k1 m1 s1 : Int} {t1 : ByteArray} {b1 : Bool} {e1 : Int} {k2 m2 s2 : Int} {t2 : ByteArray} {b2 : Bool} {e2 : Int} {k3 m3 s3 : Int} {t3 : ByteArray} {b3 : Bool} {e3 : Int} (h1 : t1.size ≤ 1000) (h2 : t2.size ≤ 1000) (h3 : t3.size ≤ 1000) (K1 : ∀ W : World, Below w.heap.size w W → Calls Tryd.prog 7 #[.agg #[.int .i64 k1, .int .i64 m1, .int .i64 s1, .string t1, .bool b1, .int .i64 e1]] W fun x w' => x = .returned (.int .i64 0) ∧ Below W.heap.size W w') {E2 : Int} (hE2 : ¬ E2 = 0) (K2 : ∀ W : World, Below w.heap.size w W → Calls Tryd.prog 7 #[.agg #[.int .i64 k2, .int .i64 m2, .int .i64 s2, .string t2, .bool b2, .int .i64 e2]] W fun x w' => x = .returned (.int .i64 E2) ∧ Below W.heap.size W w') :
    Calls Tryd.prog 3 #[.agg #[.int .i64 k1, .int .i64 m1, .int .i64 s1, .string t1, .bool b1, .int .i64 e1], .agg #[.int .i64 k2, .int .i64 m2, .int .i64 s2, .string t2, .bool b2, .int .i64 e2], .agg #[.int .i64 k3, .int .i64 m3, .int .i64 s3, .string t3, .bool b3, .int .i64 e3]] w fun x w' => x = .returned (.bool true) ∧ Below w.heap.size w w' := by
  have HN := Lib.hid (fun W : World => known9_any (w := W))
  have h1' : ¬ (1000 : Int) < ((t1.size : Nat) : Int) := by omega
  clear h1
  have h2' : ¬ (1000 : Int) < ((t2.size : Nat) : Int) := by omega
  clear h2
  have h3' : ¬ (1000 : Int) < ((t3.size : Nat) : Int) := by omega
  clear h3
  have H1 := Lib.hid K1
  clear K1
  have hE2' : (E2 != 0) = true := bne_iff_ne.2 hE2
  clear hE2
  have H2 := Lib.hid K2
  clear K2
  have HB := Lib.hid (((sb1 w 25 #[.int .i64 k1, .int .i64 m1, .int .i64 s1, .string t1, .bool b1, .int .i64 e1]).push (by simp) 25 #[.int .i64 k2, .int .i64 m2, .int .i64 s2, .string t2, .bool b2, .int .i64 e2]).push (by simp) 25 #[.int .i64 k3, .int .i64 m3, .int .i64 s3, .string t3, .bool b3, .int .i64 e3])
  go_enter Tryd.func3, Tryd.ntmps3
  go_wp2_with fail
  refine (HN.out _).mono ?_
  rintro x w1 ⟨rfl, hb⟩
  have hB := HB.out.call hb
  clear hb HB
  have HB := Lib.hid hB
  clear hB
  have ka := HB.out.box (i := 2) rfl
  have ca0 := ka.cell 0
  have ca1 := ka.cell 1
  have ca2 := ka.cell 2
  have ca3 := ka.cell 3
  have ca4 := ka.cell 4
  have ca5 := ka.cell 5
  clear ka
  have kb := HB.out.box (i := 1) rfl
  have cb0 := kb.cell 0
  have cb1 := kb.cell 1
  have cb2 := kb.cell 2
  have cb3 := kb.cell 3
  have cb4 := kb.cell 4
  have cb5 := kb.cell 5
  clear kb
  have kc := HB.out.box (i := 0) rfl
  have cc0 := kc.cell 0
  have cc1 := kc.cell 1
  have cc2 := kc.cell 2
  have cc3 := kc.cell 3
  have cc4 := kc.cell 4
  have cc5 := kc.cell 5
  clear kc
  go_wp2_with fail
  refine (H1.out _ HB.out.bel).mono ?_
  rintro x w2 ⟨rfl, hb⟩
  have hB := HB.out.call hb
  clear hb HB
  have HB := Lib.hid hB
  clear hB
  clear ca0 ca1 ca2 ca3 ca4 ca5 cb0 cb1 cb2 cb3 cb4 cb5 cc0 cc1 cc2 cc3 cc4 cc5
  have ka := HB.out.box (i := 2) rfl
  have ca0 := ka.cell 0
  have ca1 := ka.cell 1
  have ca2 := ka.cell 2
  have ca3 := ka.cell 3
  have ca4 := ka.cell 4
  have ca5 := ka.cell 5
  clear ka
  have kb := HB.out.box (i := 1) rfl
  have cb0 := kb.cell 0
  have cb1 := kb.cell 1
  have cb2 := kb.cell 2
  have cb3 := kb.cell 3
  have cb4 := kb.cell 4
  have cb5 := kb.cell 5
  clear kb
  have kc := HB.out.box (i := 0) rfl
  have cc0 := kc.cell 0
  have cc1 := kc.cell 1
  have cc2 := kc.cell 2
  have cc3 := kc.cell 3
  have cc4 := kc.cell 4
  have cc5 := kc.cell 5
  clear kc
  go_wp2_with fail
  refine (H2.out _ HB.out.bel).mono ?_
  rintro x w3 ⟨rfl, hb⟩
  have hB := HB.out.call hb
  clear hb HB
  have HB := Lib.hid hB
  clear hB
  clear ca0 ca1 ca2 ca3 ca4 ca5 cb0 cb1 cb2 cb3 cb4 cb5 cc0 cc1 cc2 cc3 cc4 cc5
  have hbel := HB.out.bel
  clear HB
  go_wp2
  go_ret
  exact ⟨rfl, hbel⟩

set_option maxRecDepth 20000 in
set_option maxHeartbeats 2000000 in
theorem order_bad3 {w : World} {k1 m1 s1 : Int} {t1 : ByteArray} {b1 : Bool} {e1 : Int} {k2 m2 s2 : Int} {t2 : ByteArray} {b2 : Bool} {e2 : Int} {k3 m3 s3 : Int} {t3 : ByteArray} {b3 : Bool} {e3 : Int} (h1 : t1.size ≤ 1000) (h2 : t2.size ≤ 1000) (h3 : t3.size ≤ 1000) (K1 : ∀ W : World, Below w.heap.size w W → Calls Tryd.prog 7 #[.agg #[.int .i64 k1, .int .i64 m1, .int .i64 s1, .string t1, .bool b1, .int .i64 e1]] W fun x w' => x = .returned (.int .i64 0) ∧ Below W.heap.size W w') (K2 : ∀ W : World, Below w.heap.size w W → Calls Tryd.prog 7 #[.agg #[.int .i64 k2, .int .i64 m2, .int .i64 s2, .string t2, .bool b2, .int .i64 e2]] W fun x w' => x = .returned (.int .i64 0) ∧ Below W.heap.size W w') {E3 : Int} (hE3 : ¬ E3 = 0) (K3 : ∀ W : World, Below w.heap.size w W → Calls Tryd.prog 7 #[.agg #[.int .i64 k3, .int .i64 m3, .int .i64 s3, .string t3, .bool b3, .int .i64 e3]] W fun x w' => x = .returned (.int .i64 E3) ∧ Below W.heap.size W w') :
    Calls Tryd.prog 3 #[.agg #[.int .i64 k1, .int .i64 m1, .int .i64 s1, .string t1, .bool b1, .int .i64 e1], .agg #[.int .i64 k2, .int .i64 m2, .int .i64 s2, .string t2, .bool b2, .int .i64 e2], .agg #[.int .i64 k3, .int .i64 m3, .int .i64 s3, .string t3, .bool b3, .int .i64 e3]] w fun x w' => x = .returned (.bool true) ∧ Below w.heap.size w w' := by
  have HN := Lib.hid (fun W : World => known9_any (w := W))
  have h1' : ¬ (1000 : Int) < ((t1.size : Nat) : Int) := by omega
  clear h1
  have h2' : ¬ (1000 : Int) < ((t2.size : Nat) : Int) := by omega
  clear h2
  have h3' : ¬ (1000 : Int) < ((t3.size : Nat) : Int) := by omega
  clear h3
  have H1 := Lib.hid K1
  clear K1
  have H2 := Lib.hid K2
  clear K2
  have hE3' : (E3 != 0) = true := bne_iff_ne.2 hE3
  clear hE3
  have H3 := Lib.hid K3
  clear K3
  have HB := Lib.hid (((sb1 w 25 #[.int .i64 k1, .int .i64 m1, .int .i64 s1, .string t1, .bool b1, .int .i64 e1]).push (by simp) 25 #[.int .i64 k2, .int .i64 m2, .int .i64 s2, .string t2, .bool b2, .int .i64 e2]).push (by simp) 25 #[.int .i64 k3, .int .i64 m3, .int .i64 s3, .string t3, .bool b3, .int .i64 e3])
  go_enter Tryd.func3, Tryd.ntmps3
  go_wp2_with fail
  refine (HN.out _).mono ?_
  rintro x w1 ⟨rfl, hb⟩
  have hB := HB.out.call hb
  clear hb HB
  have HB := Lib.hid hB
  clear hB
  have ka := HB.out.box (i := 2) rfl
  have ca0 := ka.cell 0
  have ca1 := ka.cell 1
  have ca2 := ka.cell 2
  have ca3 := ka.cell 3
  have ca4 := ka.cell 4
  have ca5 := ka.cell 5
  clear ka
  have kb := HB.out.box (i := 1) rfl
  have cb0 := kb.cell 0
  have cb1 := kb.cell 1
  have cb2 := kb.cell 2
  have cb3 := kb.cell 3
  have cb4 := kb.cell 4
  have cb5 := kb.cell 5
  clear kb
  have kc := HB.out.box (i := 0) rfl
  have cc0 := kc.cell 0
  have cc1 := kc.cell 1
  have cc2 := kc.cell 2
  have cc3 := kc.cell 3
  have cc4 := kc.cell 4
  have cc5 := kc.cell 5
  clear kc
  go_wp2_with fail
  refine (H1.out _ HB.out.bel).mono ?_
  rintro x w2 ⟨rfl, hb⟩
  have hB := HB.out.call hb
  clear hb HB
  have HB := Lib.hid hB
  clear hB
  clear ca0 ca1 ca2 ca3 ca4 ca5 cb0 cb1 cb2 cb3 cb4 cb5 cc0 cc1 cc2 cc3 cc4 cc5
  have ka := HB.out.box (i := 2) rfl
  have ca0 := ka.cell 0
  have ca1 := ka.cell 1
  have ca2 := ka.cell 2
  have ca3 := ka.cell 3
  have ca4 := ka.cell 4
  have ca5 := ka.cell 5
  clear ka
  have kb := HB.out.box (i := 1) rfl
  have cb0 := kb.cell 0
  have cb1 := kb.cell 1
  have cb2 := kb.cell 2
  have cb3 := kb.cell 3
  have cb4 := kb.cell 4
  have cb5 := kb.cell 5
  clear kb
  have kc := HB.out.box (i := 0) rfl
  have cc0 := kc.cell 0
  have cc1 := kc.cell 1
  have cc2 := kc.cell 2
  have cc3 := kc.cell 3
  have cc4 := kc.cell 4
  have cc5 := kc.cell 5
  clear kc
  go_wp2_with fail
  refine (H2.out _ HB.out.bel).mono ?_
  rintro x w3 ⟨rfl, hb⟩
  have hB := HB.out.call hb
  clear hb HB
  have HB := Lib.hid hB
  clear hB
  clear ca0 ca1 ca2 ca3 ca4 ca5 cb0 cb1 cb2 cb3 cb4 cb5 cc0 cc1 cc2 cc3 cc4 cc5
  have ka := HB.out.box (i := 2) rfl
  have ca0 := ka.cell 0
  have ca1 := ka.cell 1
  have ca2 := ka.cell 2
  have ca3 := ka.cell 3
  have ca4 := ka.cell 4
  have ca5 := ka.cell 5
  clear ka
  have kb := HB.out.box (i := 1) rfl
  have cb0 := kb.cell 0
  have cb1 := kb.cell 1
  have cb2 := kb.cell 2
  have cb3 := kb.cell 3
  have cb4 := kb.cell 4
  have cb5 := kb.cell 5
  clear kb
  have kc := HB.out.box (i := 0) rfl
  have cc0 := kc.cell 0
  have cc1 := kc.cell 1
  have cc2 := kc.cell 2
  have cc3 := kc.cell 3
  have cc4 := kc.cell 4
  have cc5 := kc.cell 5
  clear kc
  go_wp2_with fail
  refine (H3.out _ HB.out.bel).mono ?_
  rintro x w4 ⟨rfl, hb⟩
  have hB := HB.out.call hb
  clear hb HB
  have HB := Lib.hid hB
  clear hB
  clear ca0 ca1 ca2 ca3 ca4 ca5 cb0 cb1 cb2 cb3 cb4 cb5 cc0 cc1 cc2 cc3 cc4 cc5
  have hbel := HB.out.bel
  clear HB
  go_wp2
  go_ret
  exact ⟨rfl, hbel⟩

set_option maxRecDepth 20000 in
set_option maxHeartbeats 2000000 in
theorem order_blank1 {w : World} {m1 s1 : Int} {t1 : ByteArray} {b1 : Bool} {e1 : Int} {k2 m2 s2 : Int} {t2 : ByteArray} {b2 : Bool} {e2 : Int} {k3 m3 s3 : Int} {t3 : ByteArray} {b3 : Bool} {e3 : Int} (h1 : t1.size ≤ 1000) (h2 : t2.size ≤ 1000) (h3 : t3.size ≤ 1000) (K1 : ∀ W : World, Below w.heap.size w W → Calls Tryd.prog 7 #[.agg #[.int .i64 0, .int .i64 m1, .int .i64 s1, .string t1, .bool b1, .int .i64 e1]] W fun x w' => x = .returned (.int .i64 0) ∧ Below W.heap.size W w') (K2 : ∀ W : World, Below w.heap.size w W → Calls Tryd.prog 7 #[.agg #[.int .i64 k2, .int .i64 m2, .int .i64 s2, .string t2, .bool b2, .int .i64 e2]] W fun x w' => x = .returned (.int .i64 0) ∧ Below W.heap.size W w') (K3 : ∀ W : World, Below w.heap.size w W → Calls Tryd.prog 7 #[.agg #[.int .i64 k3, .int .i64 m3, .int .i64 s3, .string t3, .bool b3, .int .i64 e3]] W fun x w' => x = .returned (.int .i64 0) ∧ Below W.heap.size W w') :
    Calls Tryd.prog 3 #[.agg #[.int .i64 0, .int .i64 m1, .int .i64 s1, .string t1, .bool b1, .int .i64 e1], .agg #[.int .i64 k2, .int .i64 m2, .int .i64 s2, .string t2, .bool b2, .int .i64 e2], .agg #[.int .i64 k3, .int .i64 m3, .int .i64 s3, .string t3, .bool b3, .int .i64 e3]] w fun x w' => x = .returned (.bool true) ∧ Below w.heap.size w w' := by
  have HN := Lib.hid (fun W : World => known9_any (w := W))
  have h1' : ¬ (1000 : Int) < ((t1.size : Nat) : Int) := by omega
  clear h1
  have h2' : ¬ (1000 : Int) < ((t2.size : Nat) : Int) := by omega
  clear h2
  have h3' : ¬ (1000 : Int) < ((t3.size : Nat) : Int) := by omega
  clear h3
  have H1 := Lib.hid K1
  clear K1
  have H2 := Lib.hid K2
  clear K2
  have H3 := Lib.hid K3
  clear K3
  have HB := Lib.hid (((sb1 w 25 #[.int .i64 0, .int .i64 m1, .int .i64 s1, .string t1, .bool b1, .int .i64 e1]).push (by simp) 25 #[.int .i64 k2, .int .i64 m2, .int .i64 s2, .string t2, .bool b2, .int .i64 e2]).push (by simp) 25 #[.int .i64 k3, .int .i64 m3, .int .i64 s3, .string t3, .bool b3, .int .i64 e3])
  go_enter Tryd.func3, Tryd.ntmps3
  go_wp2_with fail
  refine (HN.out _).mono ?_
  rintro x w1 ⟨rfl, hb⟩
  have hB := HB.out.call hb
  clear hb HB
  have HB := Lib.hid hB
  clear hB
  have ka := HB.out.box (i := 2) rfl
  have ca0 := ka.cell 0
  have ca1 := ka.cell 1
  have ca2 := ka.cell 2
  have ca3 := ka.cell 3
  have ca4 := ka.cell 4
  have ca5 := ka.cell 5
  clear ka
  have kb := HB.out.box (i := 1) rfl
  have cb0 := kb.cell 0
  have cb1 := kb.cell 1
  have cb2 := kb.cell 2
  have cb3 := kb.cell 3
  have cb4 := kb.cell 4
  have cb5 := kb.cell 5
  clear kb
  have kc := HB.out.box (i := 0) rfl
  have cc0 := kc.cell 0
  have cc1 := kc.cell 1
  have cc2 := kc.cell 2
  have cc3 := kc.cell 3
  have cc4 := kc.cell 4
  have cc5 := kc.cell 5
  clear kc
  go_wp2_with fail
  refine (H1.out _ HB.out.bel).mono ?_
  rintro x w2 ⟨rfl, hb⟩
  have hB := HB.out.call hb
  clear hb HB
  have HB := Lib.hid hB
  clear hB
  clear ca0 ca1 ca2 ca3 ca4 ca5 cb0 cb1 cb2 cb3 cb4 cb5 cc0 cc1 cc2 cc3 cc4 cc5
  have ka := HB.out.box (i := 2) rfl
  have ca0 := ka.cell 0
  have ca1 := ka.cell 1
  have ca2 := ka.cell 2
  have ca3 := ka.cell 3
  have ca4 := ka.cell 4
  have ca5 := ka.cell 5
  clear ka
  have kb := HB.out.box (i := 1) rfl
  have cb0 := kb.cell 0
  have cb1 := kb.cell 1
  have cb2 := kb.cell 2
  have cb3 := kb.cell 3
  have cb4 := kb.cell 4
  have cb5 := kb.cell 5
  clear kb
  have kc := HB.out.box (i := 0) rfl
  have cc0 := kc.cell 0
  have cc1 := kc.cell 1
  have cc2 := kc.cell 2
  have cc3 := kc.cell 3
  have cc4 := kc.cell 4
  have cc5 := kc.cell 5
  clear kc
  go_wp2_with fail
  refine (H2.out _ HB.out.bel).mono ?_
  rintro x w3 ⟨rfl, hb⟩
  have hB := HB.out.call hb
  clear hb HB
  have HB := Lib.hid hB
  clear hB
  clear ca0 ca1 ca2 ca3 ca4 ca5 cb0 cb1 cb2 cb3 cb4 cb5 cc0 cc1 cc2 cc3 cc4 cc5
  have ka := HB.out.box (i := 2) rfl
  have ca0 := ka.cell 0
  have ca1 := ka.cell 1
  have ca2 := ka.cell 2
  have ca3 := ka.cell 3
  have ca4 := ka.cell 4
  have ca5 := ka.cell 5
  clear ka
  have kb := HB.out.box (i := 1) rfl
  have cb0 := kb.cell 0
  have cb1 := kb.cell 1
  have cb2 := kb.cell 2
  have cb3 := kb.cell 3
  have cb4 := kb.cell 4
  have cb5 := kb.cell 5
  clear kb
  have kc := HB.out.box (i := 0) rfl
  have cc0 := kc.cell 0
  have cc1 := kc.cell 1
  have cc2 := kc.cell 2
  have cc3 := kc.cell 3
  have cc4 := kc.cell 4
  have cc5 := kc.cell 5
  clear kc
  go_wp2_with fail
  refine (H3.out _ HB.out.bel).mono ?_
  rintro x w4 ⟨rfl, hb⟩
  have hB := HB.out.call hb
  clear hb HB
  have HB := Lib.hid hB
  clear hB
  clear ca0 ca1 ca2 ca3 ca4 ca5 cb0 cb1 cb2 cb3 cb4 cb5 cc0 cc1 cc2 cc3 cc4 cc5
  have ka := HB.out.box (i := 2) rfl
  have ca0 := ka.cell 0
  have ca1 := ka.cell 1
  have ca2 := ka.cell 2
  have ca3 := ka.cell 3
  have ca4 := ka.cell 4
  have ca5 := ka.cell 5
  clear ka
  have kb := HB.out.box (i := 1) rfl
  have cb0 := kb.cell 0
  have cb1 := kb.cell 1
  have cb2 := kb.cell 2
  have cb3 := kb.cell 3
  have cb4 := kb.cell 4
  have cb5 := kb.cell 5
  clear kb
  have kc := HB.out.box (i := 0) rfl
  have cc0 := kc.cell 0
  have cc1 := kc.cell 1
  have cc2 := kc.cell 2
  have cc3 := kc.cell 3
  have cc4 := kc.cell 4
  have cc5 := kc.cell 5
  clear kc
  have hbel := HB.out.bel
  clear HB
  go_wp2
  go_ret
  exact ⟨rfl, hbel⟩

set_option maxRecDepth 20000 in
set_option maxHeartbeats 2000000 in
theorem order_blank2 {w : World} {k1 m1 s1 : Int} {t1 : ByteArray} {b1 : Bool} {e1 : Int} {m2 s2 : Int} {t2 : ByteArray} {b2 : Bool} {e2 : Int} {k3 m3 s3 : Int} {t3 : ByteArray} {b3 : Bool} {e3 : Int} (h1 : t1.size ≤ 1000) (h2 : t2.size ≤ 1000) (h3 : t3.size ≤ 1000) (K1 : ∀ W : World, Below w.heap.size w W → Calls Tryd.prog 7 #[.agg #[.int .i64 k1, .int .i64 m1, .int .i64 s1, .string t1, .bool b1, .int .i64 e1]] W fun x w' => x = .returned (.int .i64 0) ∧ Below W.heap.size W w') (K2 : ∀ W : World, Below w.heap.size w W → Calls Tryd.prog 7 #[.agg #[.int .i64 0, .int .i64 m2, .int .i64 s2, .string t2, .bool b2, .int .i64 e2]] W fun x w' => x = .returned (.int .i64 0) ∧ Below W.heap.size W w') (K3 : ∀ W : World, Below w.heap.size w W → Calls Tryd.prog 7 #[.agg #[.int .i64 k3, .int .i64 m3, .int .i64 s3, .string t3, .bool b3, .int .i64 e3]] W fun x w' => x = .returned (.int .i64 0) ∧ Below W.heap.size W w') (hk1 : ¬ k1 = 0) :
    Calls Tryd.prog 3 #[.agg #[.int .i64 k1, .int .i64 m1, .int .i64 s1, .string t1, .bool b1, .int .i64 e1], .agg #[.int .i64 0, .int .i64 m2, .int .i64 s2, .string t2, .bool b2, .int .i64 e2], .agg #[.int .i64 k3, .int .i64 m3, .int .i64 s3, .string t3, .bool b3, .int .i64 e3]] w fun x w' => x = .returned (.bool true) ∧ Below w.heap.size w w' := by
  have HN := Lib.hid (fun W : World => known9_any (w := W))
  have h1' : ¬ (1000 : Int) < ((t1.size : Nat) : Int) := by omega
  clear h1
  have h2' : ¬ (1000 : Int) < ((t2.size : Nat) : Int) := by omega
  clear h2
  have h3' : ¬ (1000 : Int) < ((t3.size : Nat) : Int) := by omega
  clear h3
  have H1 := Lib.hid K1
  clear K1
  have H2 := Lib.hid K2
  clear K2
  have H3 := Lib.hid K3
  clear K3
  have hk1' : (k1 == 0) = false := beq_eq_false_iff_ne.2 hk1
  have HB := Lib.hid (((sb1 w 25 #[.int .i64 k1, .int .i64 m1, .int .i64 s1, .string t1, .bool b1, .int .i64 e1]).push (by simp) 25 #[.int .i64 0, .int .i64 m2, .int .i64 s2, .string t2, .bool b2, .int .i64 e2]).push (by simp) 25 #[.int .i64 k3, .int .i64 m3, .int .i64 s3, .string t3, .bool b3, .int .i64 e3])
  go_enter Tryd.func3, Tryd.ntmps3
  go_wp2_with fail
  refine (HN.out _).mono ?_
  rintro x w1 ⟨rfl, hb⟩
  have hB := HB.out.call hb
  clear hb HB
  have HB := Lib.hid hB
  clear hB
  have ka := HB.out.box (i := 2) rfl
  have ca0 := ka.cell 0
  have ca1 := ka.cell 1
  have ca2 := ka.cell 2
  have ca3 := ka.cell 3
  have ca4 := ka.cell 4
  have ca5 := ka.cell 5
  clear ka
  have kb := HB.out.box (i := 1) rfl
  have cb0 := kb.cell 0
  have cb1 := kb.cell 1
  have cb2 := kb.cell 2
  have cb3 := kb.cell 3
  have cb4 := kb.cell 4
  have cb5 := kb.cell 5
  clear kb
  have kc := HB.out.box (i := 0) rfl
  have cc0 := kc.cell 0
  have cc1 := kc.cell 1
  have cc2 := kc.cell 2
  have cc3 := kc.cell 3
  have cc4 := kc.cell 4
  have cc5 := kc.cell 5
  clear kc
  go_wp2_with fail
  refine (H1.out _ HB.out.bel).mono ?_
  rintro x w2 ⟨rfl, hb⟩
  have hB := HB.out.call hb
  clear hb HB
  have HB := Lib.hid hB
  clear hB
  clear ca0 ca1 ca2 ca3 ca4 ca5 cb0 cb1 cb2 cb3 cb4 cb5 cc0 cc1 cc2 cc3 cc4 cc5
  have ka := HB.out.box (i := 2) rfl
  have ca0 := ka.cell 0
  have ca1 := ka.cell 1
  have ca2 := ka.cell 2
  have ca3 := ka.cell 3
  have ca4 := ka.cell 4
  have ca5 := ka.cell 5
  clear ka
  have kb := HB.out.box (i := 1) rfl
  have cb0 := kb.cell 0
  have cb1 := kb.cell 1
  have cb2 := kb.cell 2
  have cb3 := kb.cell 3
  have cb4 := kb.cell 4
  have cb5 := kb.cell 5
  clear kb
  have kc := HB.out.box (i := 0) rfl
  have cc0 := kc.cell 0
  have cc1 := kc.cell 1
  have cc2 := kc.cell 2
  have cc3 := kc.cell 3
  have cc4 := kc.cell 4
  have cc5 := kc.cell 5
  clear kc
  go_wp2_with fail
  refine (H2.out _ HB.out.bel).mono ?_
  rintro x w3 ⟨rfl, hb⟩
  have hB := HB.out.call hb
  clear hb HB
  have HB := Lib.hid hB
  clear hB
  clear ca0 ca1 ca2 ca3 ca4 ca5 cb0 cb1 cb2 cb3 cb4 cb5 cc0 cc1 cc2 cc3 cc4 cc5
  have ka := HB.out.box (i := 2) rfl
  have ca0 := ka.cell 0
  have ca1 := ka.cell 1
  have ca2 := ka.cell 2
  have ca3 := ka.cell 3
  have ca4 := ka.cell 4
  have ca5 := ka.cell 5
  clear ka
  have kb := HB.out.box (i := 1) rfl
  have cb0 := kb.cell 0
  have cb1 := kb.cell 1
  have cb2 := kb.cell 2
  have cb3 := kb.cell 3
  have cb4 := kb.cell 4
  have cb5 := kb.cell 5
  clear kb
  have kc := HB.out.box (i := 0) rfl
  have cc0 := kc.cell 0
  have cc1 := kc.cell 1
  have cc2 := kc.cell 2
  have cc3 := kc.cell 3
  have cc4 := kc.cell 4
  have cc5 := kc.cell 5
  clear kc
  go_wp2_with fail
  refine (H3.out _ HB.out.bel).mono ?_
  rintro x w4 ⟨rfl, hb⟩
  have hB := HB.out.call hb
  clear hb HB
  have HB := Lib.hid hB
  clear hB
  clear ca0 ca1 ca2 ca3 ca4 ca5 cb0 cb1 cb2 cb3 cb4 cb5 cc0 cc1 cc2 cc3 cc4 cc5
  have ka := HB.out.box (i := 2) rfl
  have ca0 := ka.cell 0
  have ca1 := ka.cell 1
  have ca2 := ka.cell 2
  have ca3 := ka.cell 3
  have ca4 := ka.cell 4
  have ca5 := ka.cell 5
  clear ka
  have kb := HB.out.box (i := 1) rfl
  have cb0 := kb.cell 0
  have cb1 := kb.cell 1
  have cb2 := kb.cell 2
  have cb3 := kb.cell 3
  have cb4 := kb.cell 4
  have cb5 := kb.cell 5
  clear kb
  have kc := HB.out.box (i := 0) rfl
  have cc0 := kc.cell 0
  have cc1 := kc.cell 1
  have cc2 := kc.cell 2
  have cc3 := kc.cell 3
  have cc4 := kc.cell 4
  have cc5 := kc.cell 5
  clear kc
  have hbel := HB.out.bel
  clear HB
  go_wp2
  go_ret
  exact ⟨rfl, hbel⟩

set_option maxRecDepth 20000 in
set_option maxHeartbeats 2000000 in
theorem order_blank3 {w : World} {k1 m1 s1 : Int} {t1 : ByteArray} {b1 : Bool} {e1 : Int} {k2 m2 s2 : Int} {t2 : ByteArray} {b2 : Bool} {e2 : Int} {m3 s3 : Int} {t3 : ByteArray} {b3 : Bool} {e3 : Int} (h1 : t1.size ≤ 1000) (h2 : t2.size ≤ 1000) (h3 : t3.size ≤ 1000) (K1 : ∀ W : World, Below w.heap.size w W → Calls Tryd.prog 7 #[.agg #[.int .i64 k1, .int .i64 m1, .int .i64 s1, .string t1, .bool b1, .int .i64 e1]] W fun x w' => x = .returned (.int .i64 0) ∧ Below W.heap.size W w') (K2 : ∀ W : World, Below w.heap.size w W → Calls Tryd.prog 7 #[.agg #[.int .i64 k2, .int .i64 m2, .int .i64 s2, .string t2, .bool b2, .int .i64 e2]] W fun x w' => x = .returned (.int .i64 0) ∧ Below W.heap.size W w') (K3 : ∀ W : World, Below w.heap.size w W → Calls Tryd.prog 7 #[.agg #[.int .i64 0, .int .i64 m3, .int .i64 s3, .string t3, .bool b3, .int .i64 e3]] W fun x w' => x = .returned (.int .i64 0) ∧ Below W.heap.size W w') (hk1 : ¬ k1 = 0) (hk2 : ¬ k2 = 0) :
    Calls Tryd.prog 3 #[.agg #[.int .i64 k1, .int .i64 m1, .int .i64 s1, .string t1, .bool b1, .int .i64 e1], .agg #[.int .i64 k2, .int .i64 m2, .int .i64 s2, .string t2, .bool b2, .int .i64 e2], .agg #[.int .i64 0, .int .i64 m3, .int .i64 s3, .string t3, .bool b3, .int .i64 e3]] w fun x w' => x = .returned (.bool true) ∧ Below w.heap.size w w' := by
  have HN := Lib.hid (fun W : World => known9_any (w := W))
  have h1' : ¬ (1000 : Int) < ((t1.size : Nat) : Int) := by omega
  clear h1
  have h2' : ¬ (1000 : Int) < ((t2.size : Nat) : Int) := by omega
  clear h2
  have h3' : ¬ (1000 : Int) < ((t3.size : Nat) : Int) := by omega
  clear h3
  have H1 := Lib.hid K1
  clear K1
  have H2 := Lib.hid K2
  clear K2
  have H3 := Lib.hid K3
  clear K3
  have hk1' : (k1 == 0) = false := beq_eq_false_iff_ne.2 hk1
  have hk2' : (k2 == 0) = false := beq_eq_false_iff_ne.2 hk2
  have HB := Lib.hid (((sb1 w 25 #[.int .i64 k1, .int .i64 m1, .int .i64 s1, .string t1, .bool b1, .int .i64 e1]).push (by simp) 25 #[.int .i64 k2, .int .i64 m2, .int .i64 s2, .string t2, .bool b2, .int .i64 e2]).push (by simp) 25 #[.int .i64 0, .int .i64 m3, .int .i64 s3, .string t3, .bool b3, .int .i64 e3])
  go_enter Tryd.func3, Tryd.ntmps3
  go_wp2_with fail
  refine (HN.out _).mono ?_
  rintro x w1 ⟨rfl, hb⟩
  have hB := HB.out.call hb
  clear hb HB
  have HB := Lib.hid hB
  clear hB
  have ka := HB.out.box (i := 2) rfl
  have ca0 := ka.cell 0
  have ca1 := ka.cell 1
  have ca2 := ka.cell 2
  have ca3 := ka.cell 3
  have ca4 := ka.cell 4
  have ca5 := ka.cell 5
  clear ka
  have kb := HB.out.box (i := 1) rfl
  have cb0 := kb.cell 0
  have cb1 := kb.cell 1
  have cb2 := kb.cell 2
  have cb3 := kb.cell 3
  have cb4 := kb.cell 4
  have cb5 := kb.cell 5
  clear kb
  have kc := HB.out.box (i := 0) rfl
  have cc0 := kc.cell 0
  have cc1 := kc.cell 1
  have cc2 := kc.cell 2
  have cc3 := kc.cell 3
  have cc4 := kc.cell 4
  have cc5 := kc.cell 5
  clear kc
  go_wp2_with fail
  refine (H1.out _ HB.out.bel).mono ?_
  rintro x w2 ⟨rfl, hb⟩
  have hB := HB.out.call hb
  clear hb HB
  have HB := Lib.hid hB
  clear hB
  clear ca0 ca1 ca2 ca3 ca4 ca5 cb0 cb1 cb2 cb3 cb4 cb5 cc0 cc1 cc2 cc3 cc4 cc5
  have ka := HB.out.box (i := 2) rfl
  have ca0 := ka.cell 0
  have ca1 := ka.cell 1
  have ca2 := ka.cell 2
  have ca3 := ka.cell 3
  have ca4 := ka.cell 4
  have ca5 := ka.cell 5
  clear ka
  have kb := HB.out.box (i := 1) rfl
  have cb0 := kb.cell 0
  have cb1 := kb.cell 1
  have cb2 := kb.cell 2
  have cb3 := kb.cell 3
  have cb4 := kb.cell 4
  have cb5 := kb.cell 5
  clear kb
  have kc := HB.out.box (i := 0) rfl
  have cc0 := kc.cell 0
  have cc1 := kc.cell 1
  have cc2 := kc.cell 2
  have cc3 := kc.cell 3
  have cc4 := kc.cell 4
  have cc5 := kc.cell 5
  clear kc
  go_wp2_with fail
  refine (H2.out _ HB.out.bel).mono ?_
  rintro x w3 ⟨rfl, hb⟩
  have hB := HB.out.call hb
  clear hb HB
  have HB := Lib.hid hB
  clear hB
  clear ca0 ca1 ca2 ca3 ca4 ca5 cb0 cb1 cb2 cb3 cb4 cb5 cc0 cc1 cc2 cc3 cc4 cc5
  have ka := HB.out.box (i := 2) rfl
  have ca0 := ka.cell 0
  have ca1 := ka.cell 1
  have ca2 := ka.cell 2
  have ca3 := ka.cell 3
  have ca4 := ka.cell 4
  have ca5 := ka.cell 5
  clear ka
  have kb := HB.out.box (i := 1) rfl
  have cb0 := kb.cell 0
  have cb1 := kb.cell 1
  have cb2 := kb.cell 2
  have cb3 := kb.cell 3
  have cb4 := kb.cell 4
  have cb5 := kb.cell 5
  clear kb
  have kc := HB.out.box (i := 0) rfl
  have cc0 := kc.cell 0
  have cc1 := kc.cell 1
  have cc2 := kc.cell 2
  have cc3 := kc.cell 3
  have cc4 := kc.cell 4
  have cc5 := kc.cell 5
  clear kc
  go_wp2_with fail
  refine (H3.out _ HB.out.bel).mono ?_
  rintro x w4 ⟨rfl, hb⟩
  have hB := HB.out.call hb
  clear hb HB
  have HB := Lib.hid hB
  clear hB
  clear ca0 ca1 ca2 ca3 ca4 ca5 cb0 cb1 cb2 cb3 cb4 cb5 cc0 cc1 cc2 cc3 cc4 cc5
  have ka := HB.out.box (i := 2) rfl
  have ca0 := ka.cell 0
  have ca1 := ka.cell 1
  have ca2 := ka.cell 2
  have ca3 := ka.cell 3
  have ca4 := ka.cell 4
  have ca5 := ka.cell 5
  clear ka
  have kb := HB.out.box (i := 1) rfl
  have cb0 := kb.cell 0
  have cb1 := kb.cell 1
  have cb2 := kb.cell 2
  have cb3 := kb.cell 3
  have cb4 := kb.cell 4
  have cb5 := kb.cell 5
  clear kb
  have kc := HB.out.box (i := 0) rfl
  have cc0 := kc.cell 0
  have cc1 := kc.cell 1
  have cc2 := kc.cell 2
  have cc3 := kc.cell 3
  have cc4 := kc.cell 4
  have cc5 := kc.cell 5
  clear kc
  have hbel := HB.out.bel
  clear HB
  go_wp2
  go_ret
  exact ⟨rfl, hbel⟩

set_option maxRecDepth 20000 in
set_option maxHeartbeats 2000000 in
theorem order_p {w : World} {k1 m1 s1 : Int} {t1 : ByteArray} {b1 : Bool} {e1 : Int} {k2 m2 s2 : Int} {t2 : ByteArray} {b2 : Bool} {e2 : Int} {k3 m3 s3 : Int} {t3 : ByteArray} {b3 : Bool} {e3 : Int} {Y Z : Int} (h1 : t1.size ≤ 1000) (h2 : t2.size ≤ 1000) (h3 : t3.size ≤ 1000) (K1 : ∀ W : World, Below w.heap.size w W → Calls Tryd.prog 7 #[.agg #[.int .i64 k1, .int .i64 m1, .int .i64 s1, .string t1, .bool b1, .int .i64 e1]] W fun x w' => x = .returned (.int .i64 0) ∧ Below W.heap.size W w') (K2 : ∀ W : World, Below w.heap.size w W → Calls Tryd.prog 7 #[.agg #[.int .i64 k2, .int .i64 m2, .int .i64 s2, .string t2, .bool b2, .int .i64 e2]] W fun x w' => x = .returned (.int .i64 0) ∧ Below W.heap.size W w') (K3 : ∀ W : World, Below w.heap.size w W → Calls Tryd.prog 7 #[.agg #[.int .i64 k3, .int .i64 m3, .int .i64 s3, .string t3, .bool b3, .int .i64 e3]] W fun x w' => x = .returned (.int .i64 0) ∧ Below W.heap.size W w') (hk1 : ¬ k1 = 0) (hk2 : ¬ k2 = 0) (hk3 : ¬ k3 = 0) (C1 : ∀ W : World, Calls Tryd.prog 8 #[.agg #[.int .i64 k1, .int .i64 m1, .int .i64 s1, .string t1, .bool b1, .int .i64 e1], .agg #[.int .i64 k2, .int .i64 m2, .int .i64 s2, .string t2, .bool b2, .int .i64 e2]] W fun x w' => x = .returned (.int .i64 1) ∧ Below W.heap.size W w') (C2 : ∀ W : World, Calls Tryd.prog 8 #[.agg #[.int .i64 k2, .int .i64 m2, .int .i64 s2, .string t2, .bool b2, .int .i64 e2], .agg #[.int .i64 k3, .int .i64 m3, .int .i64 s3, .string t3, .bool b3, .int .i64 e3]] W fun x w' => x = .returned (.int .i64 Y) ∧ Below W.heap.size W w') (C3 : ∀ W : World, Calls Tryd.prog 8 #[.agg #[.int .i64 k1, .int .i64 m1, .int .i64 s1, .string t1, .bool b1, .int .i64 e1], .agg #[.int .i64 k3, .int .i64 m3, .int .i64 s3, .string t3, .bool b3, .int .i64 e3]] W fun x w' => x = .returned (.int .i64 Z) ∧ Below W.heap.size W w') (C4 : ∀ W : World, Calls Tryd.prog 8 #[.agg #[.int .i64 k2, .int .i64 m2, .int .i64 s2, .string t2, .bool b2, .int .i64 e2], .agg #[.int .i64 k1, .int .i64 m1, .int .i64 s1, .string t1, .bool b1, .int .i64 e1]] W fun x w' => x = .returned (.int .i64 (-1)) ∧ Below W.heap.size W w') (C5 : ∀ W : World, Calls Tryd.prog 9 #[.agg #[.int .i64 k1, .int .i64 m1, .int .i64 s1, .string t1, .bool b1, .int .i64 e1], .agg #[.int .i64 k2, .int .i64 m2, .int .i64 s2, .string t2, .bool b2, .int .i64 e2]] W fun x w' => x = .returned (.bool false) ∧ Below W.heap.size W w') :
    Calls Tryd.prog 3 #[.agg #[.int .i64 k1, .int .i64 m1, .int .i64 s1, .string t1, .bool b1, .int .i64 e1], .agg #[.int .i64 k2, .int .i64 m2, .int .i64 s2, .string t2, .bool b2, .int .i64 e2], .agg #[.int .i64 k3, .int .i64 m3, .int .i64 s3, .string t3, .bool b3, .int .i64 e3]] w fun x w' => x = .returned (.bool true) ∧ Below w.heap.size w w' := by
  have HN := Lib.hid (fun W : World => known9_any (w := W))
  have h1' : ¬ (1000 : Int) < ((t1.size : Nat) : Int) := by omega
  clear h1
  have h2' : ¬ (1000 : Int) < ((t2.size : Nat) : Int) := by omega
  clear h2
  have h3' : ¬ (1000 : Int) < ((t3.size : Nat) : Int) := by omega
  clear h3
  have H1 := Lib.hid K1
  clear K1
  have H2 := Lib.hid K2
  clear K2
  have H3 := Lib.hid K3
  clear K3
  have hk1' : (k1 == 0) = false := beq_eq_false_iff_ne.2 hk1
  have hk2' : (k2 == 0) = false := beq_eq_false_iff_ne.2 hk2
  have hk3' : (k3 == 0) = false := beq_eq_false_iff_ne.2 hk3
  have C1h := Lib.hid C1
  clear C1
  have C2h := Lib.hid C2
  clear C2
  have C3h := Lib.hid C3
  clear C3
  have C4h := Lib.hid C4
  clear C4
  have C5h := Lib.hid C5
  clear C5
  have HB := Lib.hid (((sb1 w 25 #[.int .i64 k1, .int .i64 m1, .int .i64 s1, .string t1, .bool b1, .int .i64 e1]).push (by simp) 25 #[.int .i64 k2, .int .i64 m2, .int .i64 s2, .string t2, .bool b2, .int .i64 e2]).push (by simp) 25 #[.int .i64 k3, .int .i64 m3, .int .i64 s3, .string t3, .bool b3, .int .i64 e3])
  go_enter Tryd.func3, Tryd.ntmps3
  go_wp2_with fail
  refine (HN.out _).mono ?_
  rintro x w1 ⟨rfl, hb⟩
  have hB := HB.out.call hb
  clear hb HB
  have HB := Lib.hid hB
  clear hB
  have ka := HB.out.box (i := 2) rfl
  have ca0 := ka.cell 0
  have ca1 := ka.cell 1
  have ca2 := ka.cell 2
  have ca3 := ka.cell 3
  have ca4 := ka.cell 4
  have ca5 := ka.cell 5
  clear ka
  have kb := HB.out.box (i := 1) rfl
  have cb0 := kb.cell 0
  have cb1 := kb.cell 1
  have cb2 := kb.cell 2
  have cb3 := kb.cell 3
  have cb4 := kb.cell 4
  have cb5 := kb.cell 5
  clear kb
  have kc := HB.out.box (i := 0) rfl
  have cc0 := kc.cell 0
  have cc1 := kc.cell 1
  have cc2 := kc.cell 2
  have cc3 := kc.cell 3
  have cc4 := kc.cell 4
  have cc5 := kc.cell 5
  clear kc
  go_wp2_with fail
  refine (H1.out _ HB.out.bel).mono ?_
  rintro x w2 ⟨rfl, hb⟩
  have hB := HB.out.call hb
  clear hb HB
  have HB := Lib.hid hB
  clear hB
  clear ca0 ca1 ca2 ca3 ca4 ca5 cb0 cb1 cb2 cb3 cb4 cb5 cc0 cc1 cc2 cc3 cc4 cc5
  have ka := HB.out.box (i := 2) rfl
  have ca0 := ka.cell 0
  have ca1 := ka.cell 1
  have ca2 := ka.cell 2
  have ca3 := ka.cell 3
  have ca4 := ka.cell 4
  have ca5 := ka.cell 5
  clear ka
  have kb := HB.out.box (i := 1) rfl
  have cb0 := kb.cell 0
  have cb1 := kb.cell 1
  have cb2 := kb.cell 2
  have cb3 := kb.cell 3
  have cb4 := kb.cell 4
  have cb5 := kb.cell 5
  clear kb
  have kc := HB.out.box (i := 0) rfl
  have cc0 := kc.cell 0
  have cc1 := kc.cell 1
  have cc2 := kc.cell 2
  have cc3 := kc.cell 3
  have cc4 := kc.cell 4
  have cc5 := kc.cell 5
  clear kc
  go_wp2_with fail
  refine (H2.out _ HB.out.bel).mono ?_
  rintro x w3 ⟨rfl, hb⟩
  have hB := HB.out.call hb
  clear hb HB
  have HB := Lib.hid hB
  clear hB
  clear ca0 ca1 ca2 ca3 ca4 ca5 cb0 cb1 cb2 cb3 cb4 cb5 cc0 cc1 cc2 cc3 cc4 cc5
  have ka := HB.out.box (i := 2) rfl
  have ca0 := ka.cell 0
  have ca1 := ka.cell 1
  have ca2 := ka.cell 2
  have ca3 := ka.cell 3
  have ca4 := ka.cell 4
  have ca5 := ka.cell 5
  clear ka
  have kb := HB.out.box (i := 1) rfl
  have cb0 := kb.cell 0
  have cb1 := kb.cell 1
  have cb2 := kb.cell 2
  have cb3 := kb.cell 3
  have cb4 := kb.cell 4
  have cb5 := kb.cell 5
  clear kb
  have kc := HB.out.box (i := 0) rfl
  have cc0 := kc.cell 0
  have cc1 := kc.cell 1
  have cc2 := kc.cell 2
  have cc3 := kc.cell 3
  have cc4 := kc.cell 4
  have cc5 := kc.cell 5
  clear kc
  go_wp2_with fail
  refine (H3.out _ HB.out.bel).mono ?_
  rintro x w4 ⟨rfl, hb⟩
  have hB := HB.out.call hb
  clear hb HB
  have HB := Lib.hid hB
  clear hB
  clear ca0 ca1 ca2 ca3 ca4 ca5 cb0 cb1 cb2 cb3 cb4 cb5 cc0 cc1 cc2 cc3 cc4 cc5
  have ka := HB.out.box (i := 2) rfl
  have ca0 := ka.cell 0
  have ca1 := ka.cell 1
  have ca2 := ka.cell 2
  have ca3 := ka.cell 3
  have ca4 := ka.cell 4
  have ca5 := ka.cell 5
  clear ka
  have kb := HB.out.box (i := 1) rfl
  have cb0 := kb.cell 0
  have cb1 := kb.cell 1
  have cb2 := kb.cell 2
  have cb3 := kb.cell 3
  have cb4 := kb.cell 4
  have cb5 := kb.cell 5
  clear kb
  have kc := HB.out.box (i := 0) rfl
  have cc0 := kc.cell 0
  have cc1 := kc.cell 1
  have cc2 := kc.cell 2
  have cc3 := kc.cell 3
  have cc4 := kc.cell 4
  have cc5 := kc.cell 5
  clear kc
  clear HN H1 H2 H3
  go_wp2_with fail
  clear ca0 ca1 ca2 ca3 ca4 ca5 cb0 cb1 cb2 cb3 cb4 cb5 cc0 cc1 cc2 cc3 cc4 cc5
  refine wp_region_phases (S := (fun vals W => SX w 3 ([] : List Stp) vals ([(w.heap.size + 2, 25, #[.int .i64 k3, .int .i64 m3, .int .i64 s3, .string t3, .bool b3, .int .i64 e3]), (w.heap.size + 1, 25, #[.int .i64 k2, .int .i64 m2, .int .i64 s2, .string t2, .bool b2, .int .i64 e2]), (w.heap.size, 25, #[.int .i64 k1, .int .i64 m1, .int .i64 s1, .string t1, .bool b1, .int .i64 e1])] : List (Nat × TypeId × Array Value)) W)) (E := (fun _ _ => True)) [] [(3, Is (.pointer (some ⟨w.heap.size, 0, none⟩))), (4, Is (.pointer (some ⟨w.heap.size + 1, 0, none⟩))), (5, Is (.pointer (some ⟨w.heap.size + 2, 0, none⟩)))] [(56, Is (.agg #[.int .i64 k1, .int .i64 m1, .int .i64 s1, .string t1, .bool b1, .int .i64 e1])), (57, Is (.agg #[.int .i64 k2, .int .i64 m2, .int .i64 s2, .string t2, .bool b2, .int .i64 e2])), (58, Is (.int .i64 1)), (59, Is (.agg #[.int .i64 k2, .int .i64 m2, .int .i64 s2, .string t2, .bool b2, .int .i64 e2])), (60, Is (.agg #[.int .i64 k3, .int .i64 m3, .int .i64 s3, .string t3, .bool b3, .int .i64 e3])), (61, Is (.int .i64 Y)), (62, Is (.agg #[.int .i64 k1, .int .i64 m1, .int .i64 s1, .string t1, .bool b1, .int .i64 e1])), (63, Is (.agg #[.int .i64 k3, .int .i64 m3, .int .i64 s3, .string t3, .bool b3, .int .i64 e3])), (64, Is (.int .i64 Z)), (7, Is (.int .i64 1)), (8, Is (.int .i64 Y)), (9, Is (.int .i64 Z))]
    [.op [3] none, .op [4] none, .op [56, 57] none, .op [4] none, .op [5] none, .op [59, 60] none, .op [3] none, .op [5] none, .op [62, 63] none, .op [58] none, .op [61] none, .op [64] none] (by as_aux_lemma => kernel_rfl) ?_ ?_ ?_ ?_ ?_ ⟨stable_is _ _, stable_is _ _, stable_is _ _, stable_is _ _, stable_is _ _, stable_is _ _, stable_is _ _, stable_is _ _, stable_is _ _, stable_is _ _, stable_is _ _, stable_is _ _, stable_is _ _, stable_is _ _, stable_is _ _, trivial⟩ ?_ (HB.out.drew) ?_ ?_
  · as_aux_lemma => kernel_rfl
  · as_aux_lemma => kernel_rfl
  · as_aux_lemma => kernel_rfl
  · as_aux_lemma => kernel_rfl
  · as_aux_lemma => kernel_rfl
  · exact ⟨rfl, rfl, rfl, trivial⟩
  · refine ⟨?_, ?_, ?_, ?_, ?_, ?_, ?_, ?_, ?_, ?_, ?_, ?_, trivial⟩
    · as_aux_lemma =>
        intro vals a W hS hL
        have e3 : a.tmps.getD 3 undef = .pointer (some ⟨w.heap.size, 0, none⟩) := hL.1
        clear hL
        have kb : Bk W (w.heap.size) 25 #[.int .i64 k1, .int .i64 m1, .int .i64 s1, .string t1, .bool b1, .int .i64 e1] := hS.bk 2 rfl rfl
        have f0 := kb.cell 0
        have f1 := kb.cell 1
        have f2 := kb.cell 2
        have f3 := kb.cell 3
        have f4 := kb.cell 4
        have f5 := kb.cell 5
        clear kb
        go_simp
        exact ⟨⟨fun d hd => by injection hd with hd; subst hd; rfl, fun h => by cases h⟩, hS, trivial⟩
    · as_aux_lemma =>
        intro vals a W hS hL
        have e4 : a.tmps.getD 4 undef = .pointer (some ⟨w.heap.size + 1, 0, none⟩) := hL.1
        clear hL
        have kb : Bk W (w.heap.size + 1) 25 #[.int .i64 k2, .int .i64 m2, .int .i64 s2, .string t2, .bool b2, .int .i64 e2] := hS.bk 1 rfl rfl
        have f0 := kb.cell 0
        have f1 := kb.cell 1
        have f2 := kb.cell 2
        have f3 := kb.cell 3
        have f4 := kb.cell 4
        have f5 := kb.cell 5
        clear kb
        go_simp
        exact ⟨⟨fun d hd => by injection hd with hd; subst hd; rfl, fun h => by cases h⟩, hS, trivial⟩
    · as_aux_lemma =>
        intro vals a W hS hL
        have e56 : a.tmps.getD 56 undef = .agg #[.int .i64 k1, .int .i64 m1, .int .i64 s1, .string t1, .bool b1, .int .i64 e1] := hL.1
        have e57 : a.tmps.getD 57 undef = .agg #[.int .i64 k2, .int .i64 m2, .int .i64 s2, .string t2, .bool b2, .int .i64 e2] := hL.2.1
        clear hL
        go_simp
        refine (C1h.out W).mono ?_
        rintro e W' ⟨rfl, hb⟩
        exact ⟨_, rfl, ⟨fun d hd => by injection hd with hd; subst hd; rfl, fun h => by cases h⟩, hS.call hb, trivial⟩
    · as_aux_lemma =>
        intro vals a W hS hL
        have e4 : a.tmps.getD 4 undef = .pointer (some ⟨w.heap.size + 1, 0, none⟩) := hL.1
        clear hL
        have kb : Bk W (w.heap.size + 1) 25 #[.int .i64 k2, .int .i64 m2, .int .i64 s2, .string t2, .bool b2, .int .i64 e2] := hS.bk 1 rfl rfl
        have f0 := kb.cell 0
        have f1 := kb.cell 1
        have f2 := kb.cell 2
        have f3 := kb.cell 3
        have f4 := kb.cell 4
        have f5 := kb.cell 5
        clear kb
        go_simp
        exact ⟨⟨fun d hd => by injection hd with hd; subst hd; rfl, fun h => by cases h⟩, hS, trivial⟩
    · as_aux_lemma =>
        intro vals a W hS hL
        have e5 : a.tmps.getD 5 undef = .pointer (some ⟨w.heap.size + 2, 0, none⟩) := hL.1
        clear hL
        have kb : Bk W (w.heap.size + 2) 25 #[.int .i64 k3, .int .i64 m3, .int .i64 s3, .string t3, .bool b3, .int .i64 e3] := hS.bk 0 rfl rfl
        have f0 := kb.cell 0
        have f1 := kb.cell 1
        have f2 := kb.cell 2
        have f3 := kb.cell 3
        have f4 := kb.cell 4
        have f5 := kb.cell 5
        clear kb
        go_simp
        exact ⟨⟨fun d hd => by injection hd with hd; subst hd; rfl, fun h => by cases h⟩, hS, trivial⟩
    · as_aux_lemma =>
        intro vals a W hS hL
        have e59 : a.tmps.getD 59 undef = .agg #[.int .i64 k2, .int .i64 m2, .int .i64 s2, .string t2, .bool b2, .int .i64 e2] := hL.1
        have e60 : a.tmps.getD 60 undef = .agg #[.int .i64 k3, .int .i64 m3, .int .i64 s3, .string t3, .bool b3, .int .i64 e3] := hL.2.1
        clear hL
        go_simp
        refine (C2h.out W).mono ?_
        rintro e W' ⟨rfl, hb⟩
        exact ⟨_, rfl, ⟨fun d hd => by injection hd with hd; subst hd; rfl, fun h => by cases h⟩, hS.call hb, trivial⟩
    · as_aux_lemma =>
        intro vals a W hS hL
        have e3 : a.tmps.getD 3 undef = .pointer (some ⟨w.heap.size, 0, none⟩) := hL.1
        clear hL
        have kb : Bk W (w.heap.size) 25 #[.int .i64 k1, .int .i64 m1, .int .i64 s1, .string t1, .bool b1, .int .i64 e1] := hS.bk 2 rfl rfl
        have f0 := kb.cell 0
        have f1 := kb.cell 1
        have f2 := kb.cell 2
        have f3 := kb.cell 3
        have f4 := kb.cell 4
        have f5 := kb.cell 5
        clear kb
        go_simp
        exact ⟨⟨fun d hd => by injection hd with hd; subst hd; rfl, fun h => by cases h⟩, hS, trivial⟩
    · as_aux_lemma =>
        intro vals a W hS hL
        have e5 : a.tmps.getD 5 undef = .pointer (some ⟨w.heap.size + 2, 0, none⟩) := hL.1
        clear hL
        have kb : Bk W (w.heap.size + 2) 25 #[.int .i64 k3, .int .i64 m3, .int .i64 s3, .string t3, .bool b3, .int .i64 e3] := hS.bk 0 rfl rfl
        have f0 := kb.cell 0
        have f1 := kb.cell 1
        have f2 := kb.cell 2
        have f3 := kb.cell 3
        have f4 := kb.cell 4
        have f5 := kb.cell 5
        clear kb
        go_simp
        exact ⟨⟨fun d hd => by injection hd with hd; subst hd; rfl, fun h => by cases h⟩, hS, trivial⟩
    · as_aux_lemma =>
        intro vals a W hS hL
        have e62 : a.tmps.getD 62 undef = .agg #[.int .i64 k1, .int .i64 m1, .int .i64 s1, .string t1, .bool b1, .int .i64 e1] := hL.1
        have e63 : a.tmps.getD 63 undef = .agg #[.int .i64 k3, .int .i64 m3, .int .i64 s3, .string t3, .bool b3, .int .i64 e3] := hL.2.1
        clear hL
        go_simp
        refine (C3h.out W).mono ?_
        rintro e W' ⟨rfl, hb⟩
        exact ⟨_, rfl, ⟨fun d hd => by injection hd with hd; subst hd; rfl, fun h => by cases h⟩, hS.call hb, trivial⟩
    · as_aux_lemma =>
        intro vals a W hS hL
        have e58 : a.tmps.getD 58 undef = .int .i64 1 := hL.1
        clear hL
        go_simp
        exact ⟨⟨fun d hd => by injection hd with hd; subst hd; rfl, fun h => by cases h⟩, hS, trivial⟩
    · as_aux_lemma =>
        intro vals a W hS hL
        have e61 : a.tmps.getD 61 undef = .int .i64 Y := hL.1
        clear hL
        go_simp
        exact ⟨⟨fun d hd => by injection hd with hd; subst hd; rfl, fun h => by cases h⟩, hS, trivial⟩
    · as_aux_lemma =>
        intro vals a W hS hL
        have e64 : a.tmps.getD 64 undef = .int .i64 Z := hL.1
        clear hL
        go_simp
        exact ⟨⟨fun d hd => by injection hd with hd; subst hd; rfl, fun h => by cases h⟩, hS, trivial⟩
  · intro a W' vals hd hsz hT hF hv hP hS
    obtain rfl : vals = [] := List.eq_nil_of_length_eq_zero hv
    have hS2 : SX w 3 ([] : List Stp) [] ([(w.heap.size + 2, 25, #[.int .i64 k3, .int .i64 m3, .int .i64 s3, .string t3, .bool b3, .int .i64 e3]), (w.heap.size + 1, 25, #[.int .i64 k2, .int .i64 m2, .int .i64 s2, .string t2, .bool b2, .int .i64 e2]), (w.heap.size, 25, #[.int .i64 k1, .int .i64 m1, .int .i64 s1, .string t1, .bool b1, .int .i64 e1])] : List (Nat × TypeId × Array Value)) W' := hS
    clear hS
    have hB0 := hS2
    have hB : SB w 3 ([(w.heap.size + 2, 25, #[.int .i64 k3, .int .i64 m3, .int .i64 s3, .string t3, .bool b3, .int .i64 e3]), (w.heap.size + 1, 25, #[.int .i64 k2, .int .i64 m2, .int .i64 s2, .string t2, .bool b2, .int .i64 e2]), (w.heap.size, 25, #[.int .i64 k1, .int .i64 m1, .int .i64 s1, .string t1, .bool b1, .int .i64 e1])] : List (Nat × TypeId × Array Value)) W' := hB0
    clear hB0
    have e3 : a.tmps.getD 3 undef = .pointer (some ⟨w.heap.size, 0, none⟩) := hT 3 (by simp)
    have e4 : a.tmps.getD 4 undef = .pointer (some ⟨w.heap.size + 1, 0, none⟩) := hT 4 (by simp)
    have e5 : a.tmps.getD 5 undef = .pointer (some ⟨w.heap.size + 2, 0, none⟩) := hT 5 (by simp)
    have e7 : a.tmps.getD 7 undef = .int .i64 1 := hT 7 (by simp)
    have e8 : a.tmps.getD 8 undef = .int .i64 Y := hT 8 (by simp)
    have e9 : a.tmps.getD 9 undef = .int .i64 Z := hT 9 (by simp)
    clear hT hF hP
    rw [act_lit 101 a hd hsz]
    simp only [List.range, List.range.loop, List.map, e3, e4, e5, e7, e8, e9]
    clear hd hsz e3 e4 e5 e7 e8 e9
    have HB2 := Lib.hid hB
    clear hB HB C1h C2h C3h
    have ka := HB2.out.box (i := 2) rfl
    have ca0 := ka.cell 0
    have ca1 := ka.cell 1
    have ca2 := ka.cell 2
    have ca3 := ka.cell 3
    have ca4 := ka.cell 4
    have ca5 := ka.cell 5
    clear ka
    have kb := HB2.out.box (i := 1) rfl
    have cb0 := kb.cell 0
    have cb1 := kb.cell 1
    have cb2 := kb.cell 2
    have cb3 := kb.cell 3
    have cb4 := kb.cell 4
    have cb5 := kb.cell 5
    clear kb
    go_wp2_with fail
    refine (C4h.out _).mono ?_
    rintro x w8 ⟨rfl, hb⟩
    have HB3 := Lib.hid (HB2.out.call hb)
    clear hb HB2
    clear ca0 ca1 ca2 ca3 ca4 ca5 cb0 cb1 cb2 cb3 cb4 cb5
    have ka := HB3.out.box (i := 2) rfl
    have ca0 := ka.cell 0
    have ca1 := ka.cell 1
    have ca2 := ka.cell 2
    have ca3 := ka.cell 3
    have ca4 := ka.cell 4
    have ca5 := ka.cell 5
    clear ka
    have kb := HB3.out.box (i := 1) rfl
    have cb0 := kb.cell 0
    have cb1 := kb.cell 1
    have cb2 := kb.cell 2
    have cb3 := kb.cell 3
    have cb4 := kb.cell 4
    have cb5 := kb.cell 5
    clear kb
    go_wp2_with fail
    refine (C5h.out _).mono ?_
    rintro x w9 ⟨rfl, hb⟩
    have hbel := (HB3.out.call hb).bel
    clear hb HB3 C4h C5h
    clear ca0 ca1 ca2 ca3 ca4 ca5 cb0 cb1 cb2 cb3 cb4 cb5
    go_wp2
    go_ret
    exact ⟨rfl, hbel⟩

set_option maxRecDepth 20000 in
set_option maxHeartbeats 2000000 in
theorem order_mp {w : World} {k1 m1 s1 : Int} {t1 : ByteArray} {b1 : Bool} {e1 : Int} {k2 m2 s2 : Int} {t2 : ByteArray} {b2 : Bool} {e2 : Int} {k3 m3 s3 : Int} {t3 : ByteArray} {b3 : Bool} {e3 : Int} {Z : Int} (h1 : t1.size ≤ 1000) (h2 : t2.size ≤ 1000) (h3 : t3.size ≤ 1000) (K1 : ∀ W : World, Below w.heap.size w W → Calls Tryd.prog 7 #[.agg #[.int .i64 k1, .int .i64 m1, .int .i64 s1, .string t1, .bool b1, .int .i64 e1]] W fun x w' => x = .returned (.int .i64 0) ∧ Below W.heap.size W w') (K2 : ∀ W : World, Below w.heap.size w W → Calls Tryd.prog 7 #[.agg #[.int .i64 k2, .int .i64 m2, .int .i64 s2, .string t2, .bool b2, .int .i64 e2]] W fun x w' => x = .returned (.int .i64 0) ∧ Below W.heap.size W w') (K3 : ∀ W : World, Below w.heap.size w W → Calls Tryd.prog 7 #[.agg #[.int .i64 k3, .int .i64 m3, .int .i64 s3, .string t3, .bool b3, .int .i64 e3]] W fun x w' => x = .returned (.int .i64 0) ∧ Below W.heap.size W w') (hk1 : ¬ k1 = 0) (hk2 : ¬ k2 = 0) (hk3 : ¬ k3 = 0) (C1 : ∀ W : World, Calls Tryd.prog 8 #[.agg #[.int .i64 k1, .int .i64 m1, .int .i64 s1, .string t1, .bool b1, .int .i64 e1], .agg #[.int .i64 k2, .int .i64 m2, .int .i64 s2, .string t2, .bool b2, .int .i64 e2]] W fun x w' => x = .returned (.int .i64 (-1)) ∧ Below W.heap.size W w') (C2 : ∀ W : World, Calls Tryd.prog 8 #[.agg #[.int .i64 k2, .int .i64 m2, .int .i64 s2, .string t2, .bool b2, .int .i64 e2], .agg #[.int .i64 k3, .int .i64 m3, .int .i64 s3, .string t3, .bool b3, .int .i64 e3]] W fun x w' => x = .returned (.int .i64 1) ∧ Below W.heap.size W w') (C3 : ∀ W : World, Calls Tryd.prog 8 #[.agg #[.int .i64 k1, .int .i64 m1, .int .i64 s1, .string t1, .bool b1, .int .i64 e1], .agg #[.int .i64 k3, .int .i64 m3, .int .i64 s3, .string t3, .bool b3, .int .i64 e3]] W fun x w' => x = .returned (.int .i64 Z) ∧ Below W.heap.size W w') (C4 : ∀ W : World, Calls Tryd.prog 8 #[.agg #[.int .i64 k2, .int .i64 m2, .int .i64 s2, .string t2, .bool b2, .int .i64 e2], .agg #[.int .i64 k1, .int .i64 m1, .int .i64 s1, .string t1, .bool b1, .int .i64 e1]] W fun x w' => x = .returned (.int .i64 1) ∧ Below W.heap.size W w') (C5 : ∀ W : World, Calls Tryd.prog 9 #[.agg #[.int .i64 k1, .int .i64 m1, .int .i64 s1, .string t1, .bool b1, .int .i64 e1], .agg #[.int .i64 k2, .int .i64 m2, .int .i64 s2, .string t2, .bool b2, .int .i64 e2]] W fun x w' => x = .returned (.bool false) ∧ Below W.heap.size W w') :
    Calls Tryd.prog 3 #[.agg #[.int .i64 k1, .int .i64 m1, .int .i64 s1, .string t1, .bool b1, .int .i64 e1], .agg #[.int .i64 k2, .int .i64 m2, .int .i64 s2, .string t2, .bool b2, .int .i64 e2], .agg #[.int .i64 k3, .int .i64 m3, .int .i64 s3, .string t3, .bool b3, .int .i64 e3]] w fun x w' => x = .returned (.bool true) ∧ Below w.heap.size w w' := by
  have HN := Lib.hid (fun W : World => known9_any (w := W))
  have h1' : ¬ (1000 : Int) < ((t1.size : Nat) : Int) := by omega
  clear h1
  have h2' : ¬ (1000 : Int) < ((t2.size : Nat) : Int) := by omega
  clear h2
  have h3' : ¬ (1000 : Int) < ((t3.size : Nat) : Int) := by omega
  clear h3
  have H1 := Lib.hid K1
  clear K1
  have H2 := Lib.hid K2
  clear K2
  have H3 := Lib.hid K3
  clear K3
  have hk1' : (k1 == 0) = false := beq_eq_false_iff_ne.2 hk1
  have hk2' : (k2 == 0) = false := beq_eq_false_iff_ne.2 hk2
  have hk3' : (k3 == 0) = false := beq_eq_false_iff_ne.2 hk3
  have C1h := Lib.hid C1
  clear C1
  have C2h := Lib.hid C2
  clear C2
  have C3h := Lib.hid C3
  clear C3
  have C4h := Lib.hid C4
  clear C4
  have C5h := Lib.hid C5
  clear C5
  have HB := Lib.hid (((sb1 w 25 #[.int .i64 k1, .int .i64 m1, .int .i64 s1, .string t1, .bool b1, .int .i64 e1]).push (by simp) 25 #[.int .i64 k2, .int .i64 m2, .int .i64 s2, .string t2, .bool b2, .int .i64 e2]).push (by simp) 25 #[.int .i64 k3, .int .i64 m3, .int .i64 s3, .string t3, .bool b3, .int .i64 e3])
  go_enter Tryd.func3, Tryd.ntmps3
  go_wp2_with fail
  refine (HN.out _).mono ?_
  rintro x w1 ⟨rfl, hb⟩
  have hB := HB.out.call hb
  clear hb HB
  have HB := Lib.hid hB
  clear hB
  have ka := HB.out.box (i := 2) rfl
  have ca0 := ka.cell 0
  have ca1 := ka.cell 1
  have ca2 := ka.cell 2
  have ca3 := ka.cell 3
  have ca4 := ka.cell 4
  have ca5 := ka.cell 5
  clear ka
  have kb := HB.out.box (i := 1) rfl
  have cb0 := kb.cell 0
  have cb1 := kb.cell 1
  have cb2 := kb.cell 2
  have cb3 := kb.cell 3
  have cb4 := kb.cell 4
  have cb5 := kb.cell 5
  clear kb
  have kc := HB.out.box (i := 0) rfl
  have cc0 := kc.cell 0
  have cc1 := kc.cell 1
  have cc2 := kc.cell 2
  have cc3 := kc.cell 3
  have cc4 := kc.cell 4
  have cc5 := kc.cell 5
  clear kc
  go_wp2_with fail
  refine (H1.out _ HB.out.bel).mono ?_
  rintro x w2 ⟨rfl, hb⟩
  have hB := HB.out.call hb
  clear hb HB
  have HB := Lib.hid hB
  clear hB
  clear ca0 ca1 ca2 ca3 ca4 ca5 cb0 cb1 cb2 cb3 cb4 cb5 cc0 cc1 cc2 cc3 cc4 cc5
  have ka := HB.out.box (i := 2) rfl
  have ca0 := ka.cell 0
  have ca1 := ka.cell 1
  have ca2 := ka.cell 2
  have ca3 := ka.cell 3
  have ca4 := ka.cell 4
  have ca5 := ka.cell 5
  clear ka
  have kb := HB.out.box (i := 1) rfl
  have cb0 := kb.cell 0
  have cb1 := kb.cell 1
  have cb2 := kb.cell 2
  have cb3 := kb.cell 3
  have cb4 := kb.cell 4
  have cb5 := kb.cell 5
  clear kb
  have kc := HB.out.box (i := 0) rfl
  have cc0 := kc.cell 0
  have cc1 := kc.cell 1
  have cc2 := kc.cell 2
  have cc3 := kc.cell 3
  have cc4 := kc.cell 4
  have cc5 := kc.cell 5
  clear kc
  go_wp2_with fail
  refine (H2.out _ HB.out.bel).mono ?_
  rintro x w3 ⟨rfl, hb⟩
  have hB := HB.out.call hb
  clear hb HB
  have HB := Lib.hid hB
  clear hB
  clear ca0 ca1 ca2 ca3 ca4 ca5 cb0 cb1 cb2 cb3 cb4 cb5 cc0 cc1 cc2 cc3 cc4 cc5
  have ka := HB.out.box (i := 2) rfl
  have ca0 := ka.cell 0
  have ca1 := ka.cell 1
  have ca2 := ka.cell 2
  have ca3 := ka.cell 3
  have ca4 := ka.cell 4
  have ca5 := ka.cell 5
  clear ka
  have kb := HB.out.box (i := 1) rfl
  have cb0 := kb.cell 0
  have cb1 := kb.cell 1
  have cb2 := kb.cell 2
  have cb3 := kb.cell 3
  have cb4 := kb.cell 4
  have cb5 := kb.cell 5
  clear kb
  have kc := HB.out.box (i := 0) rfl
  have cc0 := kc.cell 0
  have cc1 := kc.cell 1
  have cc2 := kc.cell 2
  have cc3 := kc.cell 3
  have cc4 := kc.cell 4
  have cc5 := kc.cell 5
  clear kc
  go_wp2_with fail
  refine (H3.out _ HB.out.bel).mono ?_
  rintro x w4 ⟨rfl, hb⟩
  have hB := HB.out.call hb
  clear hb HB
  have HB := Lib.hid hB
  clear hB
  clear ca0 ca1 ca2 ca3 ca4 ca5 cb0 cb1 cb2 cb3 cb4 cb5 cc0 cc1 cc2 cc3 cc4 cc5
  have ka := HB.out.box (i := 2) rfl
  have ca0 := ka.cell 0
  have ca1 := ka.cell 1
  have ca2 := ka.cell 2
  have ca3 := ka.cell 3
  have ca4 := ka.cell 4
  have ca5 := ka.cell 5
  clear ka
  have kb := HB.out.box (i := 1) rfl
  have cb0 := kb.cell 0
  have cb1 := kb.cell 1
  have cb2 := kb.cell 2
  have cb3 := kb.cell 3
  have cb4 := kb.cell 4
  have cb5 := kb.cell 5
  clear kb
  have kc := HB.out.box (i := 0) rfl
  have cc0 := kc.cell 0
  have cc1 := kc.cell 1
  have cc2 := kc.cell 2
  have cc3 := kc.cell 3
  have cc4 := kc.cell 4
  have cc5 := kc.cell 5
  clear kc
  clear HN H1 H2 H3
  go_wp2_with fail
  clear ca0 ca1 ca2 ca3 ca4 ca5 cb0 cb1 cb2 cb3 cb4 cb5 cc0 cc1 cc2 cc3 cc4 cc5
  refine wp_region_phases (S := (fun vals W => SX w 3 ([] : List Stp) vals ([(w.heap.size + 2, 25, #[.int .i64 k3, .int .i64 m3, .int .i64 s3, .string t3, .bool b3, .int .i64 e3]), (w.heap.size + 1, 25, #[.int .i64 k2, .int .i64 m2, .int .i64 s2, .string t2, .bool b2, .int .i64 e2]), (w.heap.size, 25, #[.int .i64 k1, .int .i64 m1, .int .i64 s1, .string t1, .bool b1, .int .i64 e1])] : List (Nat × TypeId × Array Value)) W)) (E := (fun _ _ => True)) [] [(3, Is (.pointer (some ⟨w.heap.size, 0, none⟩))), (4, Is (.pointer (some ⟨w.heap.size + 1, 0, none⟩))), (5, Is (.pointer (some ⟨w.heap.size + 2, 0, none⟩)))] [(56, Is (.agg #[.int .i64 k1, .int .i64 m1, .int .i64 s1, .string t1, .bool b1, .int .i64 e1])), (57, Is (.agg #[.int .i64 k2, .int .i64 m2, .int .i64 s2, .string t2, .bool b2, .int .i64 e2])), (58, Is (.int .i64 (-1))), (59, Is (.agg #[.int .i64 k2, .int .i64 m2, .int .i64 s2, .string t2, .bool b2, .int .i64 e2])), (60, Is (.agg #[.int .i64 k3, .int .i64 m3, .int .i64 s3, .string t3, .bool b3, .int .i64 e3])), (61, Is (.int .i64 1)), (62, Is (.agg #[.int .i64 k1, .int .i64 m1, .int .i64 s1, .string t1, .bool b1, .int .i64 e1])), (63, Is (.agg #[.int .i64 k3, .int .i64 m3, .int .i64 s3, .string t3, .bool b3, .int .i64 e3])), (64, Is (.int .i64 Z)), (7, Is (.int .i64 (-1))), (8, Is (.int .i64 1)), (9, Is (.int .i64 Z))]
    [.op [3] none, .op [4] none, .op [56, 57] none, .op [4] none, .op [5] none, .op [59, 60] none, .op [3] none, .op [5] none, .op [62, 63] none, .op [58] none, .op [61] none, .op [64] none] (by as_aux_lemma => kernel_rfl) ?_ ?_ ?_ ?_ ?_ ⟨stable_is _ _, stable_is _ _, stable_is _ _, stable_is _ _, stable_is _ _, stable_is _ _, stable_is _ _, stable_is _ _, stable_is _ _, stable_is _ _, stable_is _ _, stable_is _ _, stable_is _ _, stable_is _ _, stable_is _ _, trivial⟩ ?_ (HB.out.drew) ?_ ?_
  · as_aux_lemma => kernel_rfl
  · as_aux_lemma => kernel_rfl
  · as_aux_lemma => kernel_rfl
  · as_aux_lemma => kernel_rfl
  · as_aux_lemma => kernel_rfl
  · exact ⟨rfl, rfl, rfl, trivial⟩
  · refine ⟨?_, ?_, ?_, ?_, ?_, ?_, ?_, ?_, ?_, ?_, ?_, ?_, trivial⟩
    · as_aux_lemma =>
        intro vals a W hS hL
        have e3 : a.tmps.getD 3 undef = .pointer (some ⟨w.heap.size, 0, none⟩) := hL.1
        clear hL
        have kb : Bk W (w.heap.size) 25 #[.int .i64 k1, .int .i64 m1, .int .i64 s1, .string t1, .bool b1, .int .i64 e1] := hS.bk 2 rfl rfl
        have f0 := kb.cell 0
        have f1 := kb.cell 1
        have f2 := kb.cell 2
        have f3 := kb.cell 3
        have f4 := kb.cell 4
        have f5 := kb.cell 5
        clear kb
        go_simp
        exact ⟨⟨fun d hd => by injection hd with hd; subst hd; rfl, fun h => by cases h⟩, hS, trivial⟩
    · as_aux_lemma =>
        intro vals a W hS hL
        have e4 : a.tmps.getD 4 undef = .pointer (some ⟨w.heap.size + 1, 0, none⟩) := hL.1
        clear hL
        have kb : Bk W (w.heap.size + 1) 25 #[.int .i64 k2, .int .i64 m2, .int .i64 s2, .string t2, .bool b2, .int .i64 e2] := hS.bk 1 rfl rfl
        have f0 := kb.cell 0
        have f1 := kb.cell 1
        have f2 := kb.cell 2
        have f3 := kb.cell 3
        have f4 := kb.cell 4
        have f5 := kb.cell 5
        clear kb
        go_simp
        exact ⟨⟨fun d hd => by injection hd with hd; subst hd; rfl, fun h => by cases h⟩, hS, trivial⟩
    · as_aux_lemma =>
        intro vals a W hS hL
        have e56 : a.tmps.getD 56 undef = .agg #[.int .i64 k1, .int .i64 m1, .int .i64 s1, .string t1, .bool b1, .int .i64 e1] := hL.1
        have e57 : a.tmps.getD 57 undef = .agg #[.int .i64 k2, .int .i64 m2, .int .i64 s2, .string t2, .bool b2, .int .i64 e2] := hL.2.1
        clear hL
        go_simp
        refine (C1h.out W).mono ?_
        rintro e W' ⟨rfl, hb⟩
        exact ⟨_, rfl, ⟨fun d hd => by injection hd with hd; subst hd; rfl, fun h => by cases h⟩, hS.call hb, trivial⟩
    · as_aux_lemma =>
        intro vals a W hS hL
        have e4 : a.tmps.getD 4 undef = .pointer (some ⟨w.heap.size + 1, 0, none⟩) := hL.1
        clear hL
        have kb : Bk W (w.heap.size + 1) 25 #[.int .i64 k2, .int .i64 m2, .int .i64 s2, .string t2, .bool b2, .int .i64 e2] := hS.bk 1 rfl rfl
        have f0 := kb.cell 0
        have f1 := kb.cell 1
        have f2 := kb.cell 2
        have f3 := kb.cell 3
        have f4 := kb.cell 4
        have f5 := kb.cell 5
        clear kb
        go_simp
        exact ⟨⟨fun d hd => by injection hd with hd; subst hd; rfl, fun h => by cases h⟩, hS, trivial⟩
    · as_aux_lemma =>
        intro vals a W hS hL
        have e5 : a.tmps.getD 5 undef = .pointer (some ⟨w.heap.size + 2, 0, none⟩) := hL.1
        clear hL
        have kb : Bk W (w.heap.size + 2) 25 #[.int .i64 k3, .int .i64 m3, .int .i64 s3, .string t3, .bool b3, .int .i64 e3] := hS.bk 0 rfl rfl
        have f0 := kb.cell 0
        have f1 := kb.cell 1
        have f2 := kb.cell 2
        have f3 := kb.cell 3
        have f4 := kb.cell 4
        have f5 := kb.cell 5
        clear kb
        go_simp
        exact ⟨⟨fun d hd => by injection hd with hd; subst hd; rfl, fun h => by cases h⟩, hS, trivial⟩
    · as_aux_lemma =>
        intro vals a W hS hL
        have e59 : a.tmps.getD 59 undef = .agg #[.int .i64 k2, .int .i64 m2, .int .i64 s2, .string t2, .bool b2, .int .i64 e2] := hL.1
        have e60 : a.tmps.getD 60 undef = .agg #[.int .i64 k3, .int .i64 m3, .int .i64 s3, .string t3, .bool b3, .int .i64 e3] := hL.2.1
        clear hL
        go_simp
        refine (C2h.out W).mono ?_
        rintro e W' ⟨rfl, hb⟩
        exact ⟨_, rfl, ⟨fun d hd => by injection hd with hd; subst hd; rfl, fun h => by cases h⟩, hS.call hb, trivial⟩
    · as_aux_lemma =>
        intro vals a W hS hL
        have e3 : a.tmps.getD 3 undef = .pointer (some ⟨w.heap.size, 0, none⟩) := hL.1
        clear hL
        have kb : Bk W (w.heap.size) 25 #[.int .i64 k1, .int .i64 m1, .int .i64 s1, .string t1, .bool b1, .int .i64 e1] := hS.bk 2 rfl rfl
        have f0 := kb.cell 0
        have f1 := kb.cell 1
        have f2 := kb.cell 2
        have f3 := kb.cell 3
        have f4 := kb.cell 4
        have f5 := kb.cell 5
        clear kb
        go_simp
        exact ⟨⟨fun d hd => by injection hd with hd; subst hd; rfl, fun h => by cases h⟩, hS, trivial⟩
    · as_aux_lemma =>
        intro vals a W hS hL
        have e5 : a.tmps.getD 5 undef = .pointer (some ⟨w.heap.size + 2, 0, none⟩) := hL.1
        clear hL
        have kb : Bk W (w.heap.size + 2) 25 #[.int .i64 k3, .int .i64 m3, .int .i64 s3, .string t3, .bool b3, .int .i64 e3] := hS.bk 0 rfl rfl
        have f0 := kb.cell 0
        have f1 := kb.cell 1
        have f2 := kb.cell 2
        have f3 := kb.cell 3
        have f4 := kb.cell 4
        have f5 := kb.cell 5
        clear kb
        go_simp
        exact ⟨⟨fun d hd => by injection hd with hd; subst hd; rfl, fun h => by cases h⟩, hS, trivial⟩
    · as_aux_lemma =>
        intro vals a W hS hL
        have e62 : a.tmps.getD 62 undef = .agg #[.int .i64 k1, .int .i64 m1, .int .i64 s1, .string t1, .bool b1, .int .i64 e1] := hL.1
        have e63 : a.tmps.getD 63 undef = .agg #[.int .i64 k3, .int .i64 m3, .int .i64 s3, .string t3, .bool b3, .int .i64 e3] := hL.2.1
        clear hL
        go_simp
        refine (C3h.out W).mono ?_
        rintro e W' ⟨rfl, hb⟩
        exact ⟨_, rfl, ⟨fun d hd => by injection hd with hd; subst hd; rfl, fun h => by cases h⟩, hS.call hb, trivial⟩
    · as_aux_lemma =>
        intro vals a W hS hL
        have e58 : a.tmps.getD 58 undef = .int .i64 (-1) := hL.1
        clear hL
        go_simp
        exact ⟨⟨fun d hd => by injection hd with hd; subst hd; rfl, fun h => by cases h⟩, hS, trivial⟩
    · as_aux_lemma =>
        intro vals a W hS hL
        have e61 : a.tmps.getD 61 undef = .int .i64 1 := hL.1
        clear hL
        go_simp
        exact ⟨⟨fun d hd => by injection hd with hd; subst hd; rfl, fun h => by cases h⟩, hS, trivial⟩
    · as_aux_lemma =>
        intro vals a W hS hL
        have e64 : a.tmps.getD 64 undef = .int .i64 Z := hL.1
        clear hL
        go_simp
        exact ⟨⟨fun d hd => by injection hd with hd; subst hd; rfl, fun h => by cases h⟩, hS, trivial⟩
  · intro a W' vals hd hsz hT hF hv hP hS
    obtain rfl : vals = [] := List.eq_nil_of_length_eq_zero hv
    have hS2 : SX w 3 ([] : List Stp) [] ([(w.heap.size + 2, 25, #[.int .i64 k3, .int .i64 m3, .int .i64 s3, .string t3, .bool b3, .int .i64 e3]), (w.heap.size + 1, 25, #[.int .i64 k2, .int .i64 m2, .int .i64 s2, .string t2, .bool b2, .int .i64 e2]), (w.heap.size, 25, #[.int .i64 k1, .int .i64 m1, .int .i64 s1, .string t1, .bool b1, .int .i64 e1])] : List (Nat × TypeId × Array Value)) W' := hS
    clear hS
    have hB0 := hS2
    have hB : SB w 3 ([(w.heap.size + 2, 25, #[.int .i64 k3, .int .i64 m3, .int .i64 s3, .string t3, .bool b3, .int .i64 e3]), (w.heap.size + 1, 25, #[.int .i64 k2, .int .i64 m2, .int .i64 s2, .string t2, .bool b2, .int .i64 e2]), (w.heap.size, 25, #[.int .i64 k1, .int .i64 m1, .int .i64 s1, .string t1, .bool b1, .int .i64 e1])] : List (Nat × TypeId × Array Value)) W' := hB0
    clear hB0
    have e3 : a.tmps.getD 3 undef = .pointer (some ⟨w.heap.size, 0, none⟩) := hT 3 (by simp)
    have e4 : a.tmps.getD 4 undef = .pointer (some ⟨w.heap.size + 1, 0, none⟩) := hT 4 (by simp)
    have e5 : a.tmps.getD 5 undef = .pointer (some ⟨w.heap.size + 2, 0, none⟩) := hT 5 (by simp)
    have e7 : a.tmps.getD 7 undef = .int .i64 (-1) := hT 7 (by simp)
    have e8 : a.tmps.getD 8 undef = .int .i64 1 := hT 8 (by simp)
    have e9 : a.tmps.getD 9 undef = .int .i64 Z := hT 9 (by simp)
    clear hT hF hP
    rw [act_lit 101 a hd hsz]
    simp only [List.range, List.range.loop, List.map, e3, e4, e5, e7, e8, e9]
    clear hd hsz e3 e4 e5 e7 e8 e9
    have HB2 := Lib.hid hB
    clear hB HB C1h C2h C3h
    have ka := HB2.out.box (i := 2) rfl
    have ca0 := ka.cell 0
    have ca1 := ka.cell 1
    have ca2 := ka.cell 2
    have ca3 := ka.cell 3
    have ca4 := ka.cell 4
    have ca5 := ka.cell 5
    clear ka
    have kb := HB2.out.box (i := 1) rfl
    have cb0 := kb.cell 0
    have cb1 := kb.cell 1
    have cb2 := kb.cell 2
    have cb3 := kb.cell 3
    have cb4 := kb.cell 4
    have cb5 := kb.cell 5
    clear kb
    go_wp2_with fail
    refine (C4h.out _).mono ?_
    rintro x w8 ⟨rfl, hb⟩
    have HB3 := Lib.hid (HB2.out.call hb)
    clear hb HB2
    clear ca0 ca1 ca2 ca3 ca4 ca5 cb0 cb1 cb2 cb3 cb4 cb5
    have ka := HB3.out.box (i := 2) rfl
    have ca0 := ka.cell 0
    have ca1 := ka.cell 1
    have ca2 := ka.cell 2
    have ca3 := ka.cell 3
    have ca4 := ka.cell 4
    have ca5 := ka.cell 5
    clear ka
    have kb := HB3.out.box (i := 1) rfl
    have cb0 := kb.cell 0
    have cb1 := kb.cell 1
    have cb2 := kb.cell 2
    have cb3 := kb.cell 3
    have cb4 := kb.cell 4
    have cb5 := kb.cell 5
    clear kb
    go_wp2_with fail
    refine (C5h.out _).mono ?_
    rintro x w9 ⟨rfl, hb⟩
    have hbel := (HB3.out.call hb).bel
    clear hb HB3 C4h C5h
    clear ca0 ca1 ca2 ca3 ca4 ca5 cb0 cb1 cb2 cb3 cb4 cb5
    go_wp2
    go_ret
    exact ⟨rfl, hbel⟩

set_option maxRecDepth 20000 in
set_option maxHeartbeats 2000000 in
theorem order_zp {w : World} {k1 m1 s1 : Int} {t1 : ByteArray} {b1 : Bool} {e1 : Int} {k2 m2 s2 : Int} {t2 : ByteArray} {b2 : Bool} {e2 : Int} {k3 m3 s3 : Int} {t3 : ByteArray} {b3 : Bool} {e3 : Int} {Z : Int} (h1 : t1.size ≤ 1000) (h2 : t2.size ≤ 1000) (h3 : t3.size ≤ 1000) (K1 : ∀ W : World, Below w.heap.size w W → Calls Tryd.prog 7 #[.agg #[.int .i64 k1, .int .i64 m1, .int .i64 s1, .string t1, .bool b1, .int .i64 e1]] W fun x w' => x = .returned (.int .i64 0) ∧ Below W.heap.size W w') (K2 : ∀ W : World, Below w.heap.size w W → Calls Tryd.prog 7 #[.agg #[.int .i64 k2, .int .i64 m2, .int .i64 s2, .string t2, .bool b2, .int .i64 e2]] W fun x w' => x = .returned (.int .i64 0) ∧ Below W.heap.size W w') (K3 : ∀ W : World, Below w.heap.size w W → Calls Tryd.prog 7 #[.agg #[.int .i64 k3, .int .i64 m3, .int .i64 s3, .string t3, .bool b3, .int .i64 e3]] W fun x w' => x = .returned (.int .i64 0) ∧ Below W.heap.size W w') (hk1 : ¬ k1 = 0) (hk2 : ¬ k2 = 0) (hk3 : ¬ k3 = 0) (C1 : ∀ W : World, Calls Tryd.prog 8 #[.agg #[.int .i64 k1, .int .i64 m1, .int .i64 s1, .string t1, .bool b1, .int .i64 e1], .agg #[.int .i64 k2, .int .i64 m2, .int .i64 s2, .string t2, .bool b2, .int .i64 e2]] W fun x w' => x = .returned (.int .i64 0) ∧ Below W.heap.size W w') (C2 : ∀ W : World, Calls Tryd.prog 8 #[.agg #[.int .i64 k2, .int .i64 m2, .int .i64 s2, .string t2, .bool b2, .int .i64 e2], .agg #[.int .i64 k3, .int .i64 m3, .int .i64 s3, .string t3, .bool b3, .int .i64 e3]] W fun x w' => x = .returned (.int .i64 1) ∧ Below W.heap.size W w') (C3 : ∀ W : World, Calls Tryd.prog 8 #[.agg #[.int .i64 k1, .int .i64 m1, .int .i64 s1, .string t1, .bool b1, .int .i64 e1], .agg #[.int .i64 k3, .int .i64 m3, .int .i64 s3, .string t3, .bool b3, .int .i64 e3]] W fun x w' => x = .returned (.int .i64 Z) ∧ Below W.heap.size W w') (C4 : ∀ W : World, Calls Tryd.prog 8 #[.agg #[.int .i64 k2, .int .i64 m2, .int .i64 s2, .string t2, .bool b2, .int .i64 e2], .agg #[.int .i64 k1, .int .i64 m1, .int .i64 s1, .string t1, .bool b1, .int .i64 e1]] W fun x w' => x = .returned (.int .i64 0) ∧ Below W.heap.size W w') (C5 : ∀ W : World, Calls Tryd.prog 9 #[.agg #[.int .i64 k1, .int .i64 m1, .int .i64 s1, .string t1, .bool b1, .int .i64 e1], .agg #[.int .i64 k2, .int .i64 m2, .int .i64 s2, .string t2, .bool b2, .int .i64 e2]] W fun x w' => x = .returned (.bool true) ∧ Below W.heap.size W w') :
    Calls Tryd.prog 3 #[.agg #[.int .i64 k1, .int .i64 m1, .int .i64 s1, .string t1, .bool b1, .int .i64 e1], .agg #[.int .i64 k2, .int .i64 m2, .int .i64 s2, .string t2, .bool b2, .int .i64 e2], .agg #[.int .i64 k3, .int .i64 m3, .int .i64 s3, .string t3, .bool b3, .int .i64 e3]] w fun x w' => x = .returned (.bool true) ∧ Below w.heap.size w w' := by
  have HN := Lib.hid (fun W : World => known9_any (w := W))
  have h1' : ¬ (1000 : Int) < ((t1.size : Nat) : Int) := by omega
  clear h1
  have h2' : ¬ (1000 : Int) < ((t2.size : Nat) : Int) := by omega
  clear h2
  have h3' : ¬ (1000 : Int) < ((t3.size : Nat) : Int) := by omega
  clear h3
  have H1 := Lib.hid K1
  clear K1
  have H2 := Lib.hid K2
  clear K2
  have H3 := Lib.hid K3
  clear K3
  have hk1' : (k1 == 0) = false := beq_eq_false_iff_ne.2 hk1
  have hk2' : (k2 == 0) = false := beq_eq_false_iff_ne.2 hk2
  have hk3' : (k3 == 0) = false := beq_eq_false_iff_ne.2 hk3
  have C1h := Lib.hid C1
  clear C1
  have C2h := Lib.hid C2
  clear C2
  have C3h := Lib.hid C3
  clear C3
  have C4h := Lib.hid C4
  clear C4
  have C5h := Lib.hid C5
  clear C5
  have HB := Lib.hid (((sb1 w 25 #[.int .i64 k1, .int .i64 m1, .int .i64 s1, .string t1, .bool b1, .int .i64 e1]).push (by simp) 25 #[.int .i64 k2, .int .i64 m2, .int .i64 s2, .string t2, .bool b2, .int .i64 e2]).push (by simp) 25 #[.int .i64 k3, .int .i64 m3, .int .i64 s3, .string t3, .bool b3, .int .i64 e3])
  go_enter Tryd.func3, Tryd.ntmps3
  go_wp2_with fail
  refine (HN.out _).mono ?_
  rintro x w1 ⟨rfl, hb⟩
  have hB := HB.out.call hb
  clear hb HB
  have HB := Lib.hid hB
  clear hB
  have ka := HB.out.box (i := 2) rfl
  have ca0 := ka.cell 0
  have ca1 := ka.cell 1
  have ca2 := ka.cell 2
  have ca3 := ka.cell 3
  have ca4 := ka.cell 4
  have ca5 := ka.cell 5
  clear ka
  have kb := HB.out.box (i := 1) rfl
  have cb0 := kb.cell 0
  have cb1 := kb.cell 1
  have cb2 := kb.cell 2
  have cb3 := kb.cell 3
  have cb4 := kb.cell 4
  have cb5 := kb.cell 5
  clear kb
  have kc := HB.out.box (i := 0) rfl
  have cc0 := kc.cell 0
  have cc1 := kc.cell 1
  have cc2 := kc.cell 2
  have cc3 := kc.cell 3
  have cc4 := kc.cell 4
  have cc5 := kc.cell 5
  clear kc
  go_wp2_with fail
  refine (H1.out _ HB.out.bel).mono ?_
  rintro x w2 ⟨rfl, hb⟩
  have hB := HB.out.call hb
  clear hb HB
  have HB := Lib.hid hB
  clear hB
  clear ca0 ca1 ca2 ca3 ca4 ca5 cb0 cb1 cb2 cb3 cb4 cb5 cc0 cc1 cc2 cc3 cc4 cc5
  have ka := HB.out.box (i := 2) rfl
  have ca0 := ka.cell 0
  have ca1 := ka.cell 1
  have ca2 := ka.cell 2
  have ca3 := ka.cell 3
  have ca4 := ka.cell 4
  have ca5 := ka.cell 5
  clear ka
  have kb := HB.out.box (i := 1) rfl
  have cb0 := kb.cell 0
  have cb1 := kb.cell 1
  have cb2 := kb.cell 2
  have cb3 := kb.cell 3
  have cb4 := kb.cell 4
  have cb5 := kb.cell 5
  clear kb
  have kc := HB.out.box (i := 0) rfl
  have cc0 := kc.cell 0
  have cc1 := kc.cell 1
  have cc2 := kc.cell 2
  have cc3 := kc.cell 3
  have cc4 := kc.cell 4
  have cc5 := kc.cell 5
  clear kc
  go_wp2_with fail
  refine (H2.out _ HB.out.bel).mono ?_
  rintro x w3 ⟨rfl, hb⟩
  have hB := HB.out.call hb
  clear hb HB
  have HB := Lib.hid hB
  clear hB
  clear ca0 ca1 ca2 ca3 ca4 ca5 cb0 cb1 cb2 cb3 cb4 cb5 cc0 cc1 cc2 cc3 cc4 cc5
  have ka := HB.out.box (i := 2) rfl
  have ca0 := ka.cell 0
  have ca1 := ka.cell 1
  have ca2 := ka.cell 2
  have ca3 := ka.cell 3
  have ca4 := ka.cell 4
  have ca5 := ka.cell 5
  clear ka
  have kb := HB.out.box (i := 1) rfl
  have cb0 := kb.cell 0
  have cb1 := kb.cell 1
  have cb2 := kb.cell 2
  have cb3 := kb.cell 3
  have cb4 := kb.cell 4
  have cb5 := kb.cell 5
  clear kb
  have kc := HB.out.box (i := 0) rfl
  have cc0 := kc.cell 0
  have cc1 := kc.cell 1
  have cc2 := kc.cell 2
  have cc3 := kc.cell 3
  have cc4 := kc.cell 4
  have cc5 := kc.cell 5
  clear kc
  go_wp2_with fail
  refine (H3.out _ HB.out.bel).mono ?_
  rintro x w4 ⟨rfl, hb⟩
  have hB := HB.out.call hb
  clear hb HB
  have HB := Lib.hid hB
  clear hB
  clear ca0 ca1 ca2 ca3 ca4 ca5 cb0 cb1 cb2 cb3 cb4 cb5 cc0 cc1 cc2 cc3 cc4 cc5
  have ka := HB.out.box (i := 2) rfl
  have ca0 := ka.cell 0
  have ca1 := ka.cell 1
  have ca2 := ka.cell 2
  have ca3 := ka.cell 3
  have ca4 := ka.cell 4
  have ca5 := ka.cell 5
  clear ka
  have kb := HB.out.box (i := 1) rfl
  have cb0 := kb.cell 0
  have cb1 := kb.cell 1
  have cb2 := kb.cell 2
  have cb3 := kb.cell 3
  have cb4 := kb.cell 4
  have cb5 := kb.cell 5
  clear kb
  have kc := HB.out.box (i := 0) rfl
  have cc0 := kc.cell 0
  have cc1 := kc.cell 1
  have cc2 := kc.cell 2
  have cc3 := kc.cell 3
  have cc4 := kc.cell 4
  have cc5 := kc.cell 5
  clear kc
  clear HN H1 H2 H3
  go_wp2_with fail
  clear ca0 ca1 ca2 ca3 ca4 ca5 cb0 cb1 cb2 cb3 cb4 cb5 cc0 cc1 cc2 cc3 cc4 cc5
  refine wp_region_phases (S := (fun vals W => SX w 3 ([] : List Stp) vals ([(w.heap.size + 2, 25, #[.int .i64 k3, .int .i64 m3, .int .i64 s3, .string t3, .bool b3, .int .i64 e3]), (w.heap.size + 1, 25, #[.int .i64 k2, .int .i64 m2, .int .i64 s2, .string t2, .bool b2, .int .i64 e2]), (w.heap.size, 25, #[.int .i64 k1, .int .i64 m1, .int .i64 s1, .string t1, .bool b1, .int .i64 e1])] : List (Nat × TypeId × Array Value)) W)) (E := (fun _ _ => True)) [] [(3, Is (.pointer (some ⟨w.heap.size, 0, none⟩))), (4, Is (.pointer (some ⟨w.heap.size + 1, 0, none⟩))), (5, Is (.pointer (some ⟨w.heap.size + 2, 0, none⟩)))] [(56, Is (.agg #[.int .i64 k1, .int .i64 m1, .int .i64 s1, .string t1, .bool b1, .int .i64 e1])), (57, Is (.agg #[.int .i64 k2, .int .i64 m2, .int .i64 s2, .string t2, .bool b2, .int .i64 e2])), (58, Is (.int .i64 0)), (59, Is (.agg #[.int .i64 k2, .int .i64 m2, .int .i64 s2, .string t2, .bool b2, .int .i64 e2])), (60, Is (.agg #[.int .i64 k3, .int .i64 m3, .int .i64 s3, .string t3, .bool b3, .int .i64 e3])), (61, Is (.int .i64 1)), (62, Is (.agg #[.int .i64 k1, .int .i64 m1, .int .i64 s1, .string t1, .bool b1, .int .i64 e1])), (63, Is (.agg #[.int .i64 k3, .int .i64 m3, .int .i64 s3, .string t3, .bool b3, .int .i64 e3])), (64, Is (.int .i64 Z)), (7, Is (.int .i64 0)), (8, Is (.int .i64 1)), (9, Is (.int .i64 Z))]
    [.op [3] none, .op [4] none, .op [56, 57] none, .op [4] none, .op [5] none, .op [59, 60] none, .op [3] none, .op [5] none, .op [62, 63] none, .op [58] none, .op [61] none, .op [64] none] (by as_aux_lemma => kernel_rfl) ?_ ?_ ?_ ?_ ?_ ⟨stable_is _ _, stable_is _ _, stable_is _ _, stable_is _ _, stable_is _ _, stable_is _ _, stable_is _ _, stable_is _ _, stable_is _ _, stable_is _ _, stable_is _ _, stable_is _ _, stable_is _ _, stable_is _ _, stable_is _ _, trivial⟩ ?_ (HB.out.drew) ?_ ?_
  · as_aux_lemma => kernel_rfl
  · as_aux_lemma => kernel_rfl
  · as_aux_lemma => kernel_rfl
  · as_aux_lemma => kernel_rfl
  · as_aux_lemma => kernel_rfl
  · exact ⟨rfl, rfl, rfl, trivial⟩
  · refine ⟨?_, ?_, ?_, ?_, ?_, ?_, ?_, ?_, ?_, ?_, ?_, ?_, trivial⟩
    · as_aux_lemma =>
        intro vals a W hS hL
        have e3 : a.tmps.getD 3 undef = .pointer (some ⟨w.heap.size, 0, none⟩) := hL.1
        clear hL
        have kb : Bk W (w.heap.size) 25 #[.int .i64 k1, .int .i64 m1, .int .i64 s1, .string t1, .bool b1, .int .i64 e1] := hS.bk 2 rfl rfl
        have f0 := kb.cell 0
        have f1 := kb.cell 1
        have f2 := kb.cell 2
        have f3 := kb.cell 3
        have f4 := kb.cell 4
        have f5 := kb.cell 5
        clear kb
        go_simp
        exact ⟨⟨fun d hd => by injection hd with hd; subst hd; rfl, fun h => by cases h⟩, hS, trivial⟩
    · as_aux_lemma =>
        intro vals a W hS hL
        have e4 : a.tmps.getD 4 undef = .pointer (some ⟨w.heap.size + 1, 0, none⟩) := hL.1
        clear hL
        have kb : Bk W (w.heap.size + 1) 25 #[.int .i64 k2, .int .i64 m2, .int .i64 s2, .string t2, .bool b2, .int .i64 e2] := hS.bk 1 rfl rfl
        have f0 := kb.cell 0
        have f1 := kb.cell 1
        have f2 := kb.cell 2
        have f3 := kb.cell 3
        have f4 := kb.cell 4
        have f5 := kb.cell 5
        clear kb
        go_simp
        exact ⟨⟨fun d hd => by injection hd with hd; subst hd; rfl, fun h => by cases h⟩, hS, trivial⟩
    · as_aux_lemma =>
        intro vals a W hS hL
        have e56 : a.tmps.getD 56 undef = .agg #[.int .i64 k1, .int .i64 m1, .int .i64 s1, .string t1, .bool b1, .int .i64 e1] := hL.1
        have e57 : a.tmps.getD 57 undef = .agg #[.int .i64 k2, .int .i64 m2, .int .i64 s2, .string t2, .bool b2, .int .i64 e2] := hL.2.1
        clear hL
        go_simp
        refine (C1h.out W).mono ?_
        rintro e W' ⟨rfl, hb⟩
        exact ⟨_, rfl, ⟨fun d hd => by injection hd with hd; subst hd; rfl, fun h => by cases h⟩, hS.call hb, trivial⟩
    · as_aux_lemma =>
        intro vals a W hS hL
        have e4 : a.tmps.getD 4 undef = .pointer (some ⟨w.heap.size + 1, 0, none⟩) := hL.1
        clear hL
        have kb : Bk W (w.heap.size + 1) 25 #[.int .i64 k2, .int .i64 m2, .int .i64 s2, .string t2, .bool b2, .int .i64 e2] := hS.bk 1 rfl rfl
        have f0 := kb.cell 0
        have f1 := kb.cell 1
        have f2 := kb.cell 2
        have f3 := kb.cell 3
        have f4 := kb.cell 4
        have f5 := kb.cell 5
        clear kb
        go_simp
        exact ⟨⟨fun d hd => by injection hd with hd; subst hd; rfl, fun h => by cases h⟩, hS, trivial⟩
    · as_aux_lemma =>
        intro vals a W hS hL
        have e5 : a.tmps.getD 5 undef = .pointer (some ⟨w.heap.size + 2, 0, none⟩) := hL.1
        clear hL
        have kb : Bk W (w.heap.size + 2) 25 #[.int .i64 k3, .int .i64 m3, .int .i64 s3, .string t3, .bool b3, .int .i64 e3] := hS.bk 0 rfl rfl
        have f0 := kb.cell 0
        have f1 := kb.cell 1
        have f2 := kb.cell 2
        have f3 := kb.cell 3
        have f4 := kb.cell 4
        have f5 := kb.cell 5
        clear kb
        go_simp
        exact ⟨⟨fun d hd => by injection hd with hd; subst hd; rfl, fun h => by cases h⟩, hS, trivial⟩
    · as_aux_lemma =>
        intro vals a W hS hL
        have e59 : a.tmps.getD 59 undef = .agg #[.int .i64 k2, .int .i64 m2, .int .i64 s2, .string t2, .bool b2, .int .i64 e2] := hL.1
        have e60 : a.tmps.getD 60 undef = .agg #[.int .i64 k3, .int .i64 m3, .int .i64 s3, .string t3, .bool b3, .int .i64 e3] := hL.2.1
        clear hL
        go_simp
        refine (C2h.out W).mono ?_
        rintro e W' ⟨rfl, hb⟩
        exact ⟨_, rfl, ⟨fun d hd => by injection hd with hd; subst hd; rfl, fun h => by cases h⟩, hS.call hb, trivial⟩
    · as_aux_lemma =>
        intro vals a W hS hL
        have e3 : a.tmps.getD 3 undef = .pointer (some ⟨w.heap.size, 0, none⟩) := hL.1
        clear hL
        have kb : Bk W (w.heap.size) 25 #[.int .i64 k1, .int .i64 m1, .int .i64 s1, .string t1, .bool b1, .int .i64 e1] := hS.bk 2 rfl rfl
        have f0 := kb.cell 0
        have f1 := kb.cell 1
        have f2 := kb.cell 2
        have f3 := kb.cell 3
        have f4 := kb.cell 4
        have f5 := kb.cell 5
        clear kb
        go_simp
        exact ⟨⟨fun d hd => by injection hd with hd; subst hd; rfl, fun h => by cases h⟩, hS, trivial⟩
    · as_aux_lemma =>
        intro vals a W hS hL
        have e5 : a.tmps.getD 5 undef = .pointer (some ⟨w.heap.size + 2, 0, none⟩) := hL.1
        clear hL
        have kb : Bk W (w.heap.size + 2) 25 #[.int .i64 k3, .int .i64 m3, .int .i64 s3, .string t3, .bool b3, .int .i64 e3] := hS.bk 0 rfl rfl
        have f0 := kb.cell 0
        have f1 := kb.cell 1
        have f2 := kb.cell 2
        have f3 := kb.cell 3
        have f4 := kb.cell 4
        have f5 := kb.cell 5
        clear kb
        go_simp
        exact ⟨⟨fun d hd => by injection hd with hd; subst hd; rfl, fun h => by cases h⟩, hS, trivial⟩
    · as_aux_lemma =>
        intro vals a W hS hL
        have e62 : a.tmps.getD 62 undef = .agg #[.int .i64 k1, .int .i64 m1, .int .i64 s1, .string t1, .bool b1, .int .i64 e1] := hL.1
        have e63 : a.tmps.getD 63 undef = .agg #[.int .i64 k3, .int .i64 m3, .int .i64 s3, .string t3, .bool b3, .int .i64 e3] := hL.2.1
        clear hL
        go_simp
        refine (C3h.out W).mono ?_
        rintro e W' ⟨rfl, hb⟩
        exact ⟨_, rfl, ⟨fun d hd => by injection hd with hd; subst hd; rfl, fun h => by cases h⟩, hS.call hb, trivial⟩
    · as_aux_lemma =>
        intro vals a W hS hL
        have e58 : a.tmps.getD 58 undef = .int .i64 0 := hL.1
        clear hL
        go_simp
        exact ⟨⟨fun d hd => by injection hd with hd; subst hd; rfl, fun h => by cases h⟩, hS, trivial⟩
    · as_aux_lemma =>
        intro vals a W hS hL
        have e61 : a.tmps.getD 61 undef = .int .i64 1 := hL.1
        clear hL
        go_simp
        exact ⟨⟨fun d hd => by injection hd with hd; subst hd; rfl, fun h => by cases h⟩, hS, trivial⟩
    · as_aux_lemma =>
        intro vals a W hS hL
        have e64 : a.tmps.getD 64 undef = .int .i64 Z := hL.1
        clear hL
        go_simp
        exact ⟨⟨fun d hd => by injection hd with hd; subst hd; rfl, fun h => by cases h⟩, hS, trivial⟩
  · intro a W' vals hd hsz hT hF hv hP hS
    obtain rfl : vals = [] := List.eq_nil_of_length_eq_zero hv
    have hS2 : SX w 3 ([] : List Stp) [] ([(w.heap.size + 2, 25, #[.int .i64 k3, .int .i64 m3, .int .i64 s3, .string t3, .bool b3, .int .i64 e3]), (w.heap.size + 1, 25, #[.int .i64 k2, .int .i64 m2, .int .i64 s2, .string t2, .bool b2, .int .i64 e2]), (w.heap.size, 25, #[.int .i64 k1, .int .i64 m1, .int .i64 s1, .string t1, .bool b1, .int .i64 e1])] : List (Nat × TypeId × Array Value)) W' := hS
    clear hS
    have hB0 := hS2
    have hB : SB w 3 ([(w.heap.size + 2, 25, #[.int .i64 k3, .int .i64 m3, .int .i64 s3, .string t3, .bool b3, .int .i64 e3]), (w.heap.size + 1, 25, #[.int .i64 k2, .int .i64 m2, .int .i64 s2, .string t2, .bool b2, .int .i64 e2]), (w.heap.size, 25, #[.int .i64 k1, .int .i64 m1, .int .i64 s1, .string t1, .bool b1, .int .i64 e1])] : List (Nat × TypeId × Array Value)) W' := hB0
    clear hB0
    have e3 : a.tmps.getD 3 undef = .pointer (some ⟨w.heap.size, 0, none⟩) := hT 3 (by simp)
    have e4 : a.tmps.getD 4 undef = .pointer (some ⟨w.heap.size + 1, 0, none⟩) := hT 4 (by simp)
    have e5 : a.tmps.getD 5 undef = .pointer (some ⟨w.heap.size + 2, 0, none⟩) := hT 5 (by simp)
    have e7 : a.tmps.getD 7 undef = .int .i64 0 := hT 7 (by simp)
    have e8 : a.tmps.getD 8 undef = .int .i64 1 := hT 8 (by simp)
    have e9 : a.tmps.getD 9 undef = .int .i64 Z := hT 9 (by simp)
    clear hT hF hP
    rw [act_lit 101 a hd hsz]
    simp only [List.range, List.range.loop, List.map, e3, e4, e5, e7, e8, e9]
    clear hd hsz e3 e4 e5 e7 e8 e9
    have HB2 := Lib.hid hB
    clear hB HB C1h C2h C3h
    have ka := HB2.out.box (i := 2) rfl
    have ca0 := ka.cell 0
    have ca1 := ka.cell 1
    have ca2 := ka.cell 2
    have ca3 := ka.cell 3
    have ca4 := ka.cell 4
    have ca5 := ka.cell 5
    clear ka
    have kb := HB2.out.box (i := 1) rfl
    have cb0 := kb.cell 0
    have cb1 := kb.cell 1
    have cb2 := kb.cell 2
    have cb3 := kb.cell 3
    have cb4 := kb.cell 4
    have cb5 := kb.cell 5
    clear kb
    go_wp2_with fail
    refine (C4h.out _).mono ?_
    rintro x w8 ⟨rfl, hb⟩
    have HB3 := Lib.hid (HB2.out.call hb)
    clear hb HB2
    clear ca0 ca1 ca2 ca3 ca4 ca5 cb0 cb1 cb2 cb3 cb4 cb5
    have ka := HB3.out.box (i := 2) rfl
    have ca0 := ka.cell 0
    have ca1 := ka.cell 1
    have ca2 := ka.cell 2
    have ca3 := ka.cell 3
    have ca4 := ka.cell 4
    have ca5 := ka.cell 5
    clear ka
    have kb := HB3.out.box (i := 1) rfl
    have cb0 := kb.cell 0
    have cb1 := kb.cell 1
    have cb2 := kb.cell 2
    have cb3 := kb.cell 3
    have cb4 := kb.cell 4
    have cb5 := kb.cell 5
    clear kb
    go_wp2_with fail
    refine (C5h.out _).mono ?_
    rintro x w9 ⟨rfl, hb⟩
    have hbel := (HB3.out.call hb).bel
    clear hb HB3 C4h C5h
    clear ca0 ca1 ca2 ca3 ca4 ca5 cb0 cb1 cb2 cb3 cb4 cb5
    go_wp2
    go_ret
    exact ⟨rfl, hbel⟩

set_option maxRecDepth 20000 in
set_option maxHeartbeats 2000000 in
theorem order_mmm {w : World} {k1 m1 s1 : Int} {t1 : ByteArray} {b1 : Bool} {e1 : Int} {k2 m2 s2 : Int} {t2 : ByteArray} {b2 : Bool} {e2 : Int} {k3 m3 s3 : Int} {t3 : ByteArray} {b3 : Bool} {e3 : Int} (h1 : t1.size ≤ 1000) (h2 : t2.size ≤ 1000) (h3 : t3.size ≤ 1000) (K1 : ∀ W : World, Below w.heap.size w W → Calls Tryd.prog 7 #[.agg #[.int .i64 k1, .int .i64 m1, .int .i64 s1, .string t1, .bool b1, .int .i64 e1]] W fun x w' => x = .returned (.int .i64 0) ∧ Below W.heap.size W w') (K2 : ∀ W : World, Below w.heap.size w W → Calls Tryd.prog 7 #[.agg #[.int .i64 k2, .int .i64 m2, .int .i64 s2, .string t2, .bool b2, .int .i64 e2]] W fun x w' => x = .returned (.int .i64 0) ∧ Below W.heap.size W w') (K3 : ∀ W : World, Below w.heap.size w W → Calls Tryd.prog 7 #[.agg #[.int .i64 k3, .int .i64 m3, .int .i64 s3, .string t3, .bool b3, .int .i64 e3]] W fun x w' => x = .returned (.int .i64 0) ∧ Below W.heap.size W w') (hk1 : ¬ k1 = 0) (hk2 : ¬ k2 = 0) (hk3 : ¬ k3 = 0) (C1 : ∀ W : World, Calls Tryd.prog 8 #[.agg #[.int .i64 k1, .int .i64 m1, .int .i64 s1, .string t1, .bool b1, .int .i64 e1], .agg #[.int .i64 k2, .int .i64 m2, .int .i64 s2, .string t2, .bool b2, .int .i64 e2]] W fun x w' => x = .returned (.int .i64 (-1)) ∧ Below W.heap.size W w') (C2 : ∀ W : World, Calls Tryd.prog 8 #[.agg #[.int .i64 k2, .int .i64 m2, .int .i64 s2, .string t2, .bool b2, .int .i64 e2], .agg #[.int .i64 k3, .int .i64 m3, .int .i64 s3, .string t3, .bool b3, .int .i64 e3]] W fun x w' => x = .returned (.int .i64 (-1)) ∧ Below W.heap.size W w') (C3 : ∀ W : World, Calls Tryd.prog 8 #[.agg #[.int .i64 k1, .int .i64 m1, .int .i64 s1, .string t1, .bool b1, .int .i64 e1], .agg #[.int .i64 k3, .int .i64 m3, .int .i64 s3, .string t3, .bool b3, .int .i64 e3]] W fun x w' => x = .returned (.int .i64 (-1)) ∧ Below W.heap.size W w') (C4 : ∀ W : World, Calls Tryd.prog 8 #[.agg #[.int .i64 k2, .int .i64 m2, .int .i64 s2, .string t2, .bool b2, .int .i64 e2], .agg #[.int .i64 k1, .int .i64 m1, .int .i64 s1, .string t1, .bool b1, .int .i64 e1]] W fun x w' => x = .returned (.int .i64 1) ∧ Below W.heap.size W w') (C5 : ∀ W : World, Calls Tryd.prog 9 #[.agg #[.int .i64 k1, .int .i64 m1, .int .i64 s1, .string t1, .bool b1, .int .i64 e1], .agg #[.int .i64 k2, .int .i64 m2, .int .i64 s2, .string t2, .bool b2, .int .i64 e2]] W fun x w' => x = .returned (.bool false) ∧ Below W.heap.size W w') :
    Calls Tryd.prog 3 #[.agg #[.int .i64 k1, .int .i64 m1, .int .i64 s1, .string t1, .bool b1, .int .i64 e1], .agg #[.int .i64 k2, .int .i64 m2, .int .i64 s2, .string t2, .bool b2, .int .i64 e2], .agg #[.int .i64 k3, .int .i64 m3, .int .i64 s3, .string t3, .bool b3, .int .i64 e3]] w fun x w' => x = .returned (.bool true) ∧ Below w.heap.size w w' := by
  have HN := Lib.hid (fun W : World => known9_any (w := W))
  have h1' : ¬ (1000 : Int) < ((t1.size : Nat) : Int) := by omega
  clear h1
  have h2' : ¬ (1000 : Int) < ((t2.size : Nat) : Int) := by omega
  clear h2
  have h3' : ¬ (1000 : Int) < ((t3.size : Nat) : Int) := by omega
  clear h3
  have H1 := Lib.hid K1
  clear K1
  have H2 := Lib.hid K2
  clear K2
  have H3 := Lib.hid K3
  clear K3
  have hk1' : (k1 == 0) = false := beq_eq_false_iff_ne.2 hk1
  have hk2' : (k2 == 0) = false := beq_eq_false_iff_ne.2 hk2
  have hk3' : (k3 == 0) = false := beq_eq_false_iff_ne.2 hk3
  have C1h := Lib.hid C1
  clear C1
  have C2h := Lib.hid C2
  clear C2
  have C3h := Lib.hid C3
  clear C3
  have C4h := Lib.hid C4
  clear C4
  have C5h := Lib.hid C5
  clear C5
  have HB := Lib.hid (((sb1 w 25 #[.int .i64 k1, .int .i64 m1, .int .i64 s1, .string t1, .bool b1, .int .i64 e1]).push (by simp) 25 #[.int .i64 k2, .int .i64 m2, .int .i64 s2, .string t2, .bool b2, .int .i64 e2]).push (by simp) 25 #[.int .i64 k3, .int .i64 m3, .int .i64 s3, .string t3, .bool b3, .int .i64 e3])
  go_enter Tryd.func3, Tryd.ntmps3
  go_wp2_with fail
  refine (HN.out _).mono ?_
  rintro x w1 ⟨rfl, hb⟩
  have hB := HB.out.call hb
  clear hb HB
  have HB := Lib.hid hB
  clear hB
  have ka := HB.out.box (i := 2) rfl
  have ca0 := ka.cell 0
  have ca1 := ka.cell 1
  have ca2 := ka.cell 2
  have ca3 := ka.cell 3
  have ca4 := ka.cell 4
  have ca5 := ka.cell 5
  clear ka
  have kb := HB.out.box (i := 1) rfl
  have cb0 := kb.cell 0
  have cb1 := kb.cell 1
  have cb2 := kb.cell 2
  have cb3 := kb.cell 3
  have cb4 := kb.cell 4
  have cb5 := kb.cell 5
  clear kb
  have kc := HB.out.box (i := 0) rfl
  have cc0 := kc.cell 0
  have cc1 := kc.cell 1
  have cc2 := kc.cell 2
  have cc3 := kc.cell 3
  have cc4 := kc.cell 4
  have cc5 := kc.cell 5
  clear kc
  go_wp2_with fail
  refine (H1.out _ HB.out.bel).mono ?_
  rintro x w2 ⟨rfl, hb⟩
  have hB := HB.out.call hb
  clear hb HB
  have HB := Lib.hid hB
  clear hB
  clear ca0 ca1 ca2 ca3 ca4 ca5 cb0 cb1 cb2 cb3 cb4 cb5 cc0 cc1 cc2 cc3 cc4 cc5
  have ka := HB.out.box (i := 2) rfl
  have ca0 := ka.cell 0
  have ca1 := ka.cell 1
  have ca2 := ka.cell 2
  have ca3 := ka.cell 3
  have ca4 := ka.cell 4
  have ca5 := ka.cell 5
  clear ka
  have kb := HB.out.box (i := 1) rfl
  have cb0 := kb.cell 0
  have cb1 := kb.cell 1
  have cb2 := kb.cell 2
  have cb3 := kb.cell 3
  have cb4 := kb.cell 4
  have cb5 := kb.cell 5
  clear kb
  have kc := HB.out.box (i := 0) rfl
  have cc0 := kc.cell 0
  have cc1 := kc.cell 1
  have cc2 := kc.cell 2
  have cc3 := kc.cell 3
  have cc4 := kc.cell 4
  have cc5 := kc.cell 5
  clear kc
  go_wp2_with fail
  refine (H2.out _ HB.out.bel).mono ?_
  rintro x w3 ⟨rfl, hb⟩
  have hB := HB.out.call hb
  clear hb HB
  have HB := Lib.hid hB
  clear hB
  clear ca0 ca1 ca2 ca3 ca4 ca5 cb0 cb1 cb2 cb3 cb4 cb5 cc0 cc1 cc2 cc3 cc4 cc5
  have ka := HB.out.box (i := 2) rfl
  have ca0 := ka.cell 0
  have ca1 := ka.cell 1
  have ca2 := ka.cell 2
  have ca3 := ka.cell 3
  have ca4 := ka.cell 4
  have ca5 := ka.cell 5
  clear ka
  have kb := HB.out.box (i := 1) rfl
  have cb0 := kb.cell 0
  have cb1 := kb.cell 1
  have cb2 := kb.cell 2
  have cb3 := kb.cell 3
  have cb4 := kb.cell 4
  have cb5 := kb.cell 5
  clear kb
  have kc := HB.out.box (i := 0) rfl
  have cc0 := kc.cell 0
  have cc1 := kc.cell 1
  have cc2 := kc.cell 2
  have cc3 := kc.cell 3
  have cc4 := kc.cell 4
  have cc5 := kc.cell 5
  clear kc
  go_wp2_with fail
  refine (H3.out _ HB.out.bel).mono ?_
  rintro x w4 ⟨rfl, hb⟩
  have hB := HB.out.call hb
  clear hb HB
  have HB := Lib.hid hB
  clear hB
  clear ca0 ca1 ca2 ca3 ca4 ca5 cb0 cb1 cb2 cb3 cb4 cb5 cc0 cc1 cc2 cc3 cc4 cc5
  have ka := HB.out.box (i := 2) rfl
  have ca0 := ka.cell 0
  have ca1 := ka.cell 1
  have ca2 := ka.cell 2
  have ca3 := ka.cell 3
  have ca4 := ka.cell 4
  have ca5 := ka.cell 5
  clear ka
  have kb := HB.out.box (i := 1) rfl
  have cb0 := kb.cell 0
  have cb1 := kb.cell 1
  have cb2 := kb.cell 2
  have cb3 := kb.cell 3
  have cb4 := kb.cell 4
  have cb5 := kb.cell 5
  clear kb
  have kc := HB.out.box (i := 0) rfl
  have cc0 := kc.cell 0
  have cc1 := kc.cell 1
  have cc2 := kc.cell 2
  have cc3 := kc.cell 3
  have cc4 := kc.cell 4
  have cc5 := kc.cell 5
  clear kc
  clear HN H1 H2 H3
  go_wp2_with fail
  clear ca0 ca1 ca2 ca3 ca4 ca5 cb0 cb1 cb2 cb3 cb4 cb5 cc0 cc1 cc2 cc3 cc4 cc5
  refine wp_region_phases (S := (fun vals W => SX w 3 ([] : List Stp) vals ([(w.heap.size + 2, 25, #[.int .i64 k3, .int .i64 m3, .int .i64 s3, .string t3, .bool b3, .int .i64 e3]), (w.heap.size + 1, 25, #[.int .i64 k2, .int .i64 m2, .int .i64 s2, .string t2, .bool b2, .int .i64 e2]), (w.heap.size, 25, #[.int .i64 k1, .int .i64 m1, .int .i64 s1, .string t1, .bool b1, .int .i64 e1])] : List (Nat × TypeId × Array Value)) W)) (E := (fun _ _ => True)) [] [(3, Is (.pointer (some ⟨w.heap.size, 0, none⟩))), (4, Is (.pointer (some ⟨w.heap.size + 1, 0, none⟩))), (5, Is (.pointer (some ⟨w.heap.size + 2, 0, none⟩)))] [(56, Is (.agg #[.int .i64 k1, .int .i64 m1, .int .i64 s1, .string t1, .bool b1, .int .i64 e1])), (57, Is (.agg #[.int .i64 k2, .int .i64 m2, .int .i64 s2, .string t2, .bool b2, .int .i64 e2])), (58, Is (.int .i64 (-1))), (59, Is (.agg #[.int .i64 k2, .int .i64 m2, .int .i64 s2, .string t2, .bool b2, .int .i64 e2])), (60, Is (.agg #[.int .i64 k3, .int .i64 m3, .int .i64 s3, .string t3, .bool b3, .int .i64 e3])), (61, Is (.int .i64 (-1))), (62, Is (.agg #[.int .i64 k1, .int .i64 m1, .int .i64 s1, .string t1, .bool b1, .int .i64 e1])), (63, Is (.agg #[.int .i64 k3, .int .i64 m3, .int .i64 s3, .string t3, .bool b3, .int .i64 e3])), (64, Is (.int .i64 (-1))), (7, Is (.int .i64 (-1))), (8, Is (.int .i64 (-1))), (9, Is (.int .i64 (-1)))]
    [.op [3] none, .op [4] none, .op [56, 57] none, .op [4] none, .op [5] none, .op [59, 60] none, .op [3] none, .op [5] none, .op [62, 63] none, .op [58] none, .op [61] none, .op [64] none] (by as_aux_lemma => kernel_rfl) ?_ ?_ ?_ ?_ ?_ ⟨stable_is _ _, stable_is _ _, stable_is _ _, stable_is _ _, stable_is _ _, stable_is _ _, stable_is _ _, stable_is _ _, stable_is _ _, stable_is _ _, stable_is _ _, stable_is _ _, stable_is _ _, stable_is _ _, stable_is _ _, trivial⟩ ?_ (HB.out.drew) ?_ ?_
  · as_aux_lemma => kernel_rfl
  · as_aux_lemma => kernel_rfl
  · as_aux_lemma => kernel_rfl
  · as_aux_lemma => kernel_rfl
  · as_aux_lemma => kernel_rfl
  · exact ⟨rfl, rfl, rfl, trivial⟩
  · refine ⟨?_, ?_, ?_, ?_, ?_, ?_, ?_, ?_, ?_, ?_, ?_, ?_, trivial⟩
    · as_aux_lemma =>
        intro vals a W hS hL
        have e3 : a.tmps.getD 3 undef = .pointer (some ⟨w.heap.size, 0, none⟩) := hL.1
        clear hL
        have kb : Bk W (w.heap.size) 25 #[.int .i64 k1, .int .i64 m1, .int .i64 s1, .string t1, .bool b1, .int .i64 e1] := hS.bk 2 rfl rfl
        have f0 := kb.cell 0
        have f1 := kb.cell 1
        have f2 := kb.cell 2
        have f3 := kb.cell 3
        have f4 := kb.cell 4
        have f5 := kb.cell 5
        clear kb
        go_simp
        exact ⟨⟨fun d hd => by injection hd with hd; subst hd; rfl, fun h => by cases h⟩, hS, trivial⟩
    · as_aux_lemma =>
        intro vals a W hS hL
        have e4 : a.tmps.getD 4 undef = .pointer (some ⟨w.heap.size + 1, 0, none⟩) := hL.1
        clear hL
        have kb : Bk W (w.heap.size + 1) 25 #[.int .i64 k2, .int .i64 m2, .int .i64 s2, .string t2, .bool b2, .int .i64 e2] := hS.bk 1 rfl rfl
        have f0 := kb.cell 0
        have f1 := kb.cell 1
        have f2 := kb.cell 2
        have f3 := kb.cell 3
        have f4 := kb.cell 4
        have f5 := kb.cell 5
        clear kb
        go_simp
        exact ⟨⟨fun d hd => by injection hd with hd; subst hd; rfl, fun h => by cases h⟩, hS, trivial⟩
    · as_aux_lemma =>
        intro vals a W hS hL
        have e56 : a.tmps.getD 56 undef = .agg #[.int .i64 k1, .int .i64 m1, .int .i64 s1, .string t1, .bool b1, .int .i64 e1] := hL.1
        have e57 : a.tmps.getD 57 undef = .agg #[.int .i64 k2, .int .i64 m2, .int .i64 s2, .string t2, .bool b2, .int .i64 e2] := hL.2.1
        clear hL
        go_simp
        refine (C1h.out W).mono ?_
        rintro e W' ⟨rfl, hb⟩
        exact ⟨_, rfl, ⟨fun d hd => by injection hd with hd; subst hd; rfl, fun h => by cases h⟩, hS.call hb, trivial⟩
    · as_aux_lemma =>
        intro vals a W hS hL
        have e4 : a.tmps.getD 4 undef = .pointer (some ⟨w.heap.size + 1, 0, none⟩) := hL.1
        clear hL
        have kb : Bk W (w.heap.size + 1) 25 #[.int .i64 k2, .int .i64 m2, .int .i64 s2, .string t2, .bool b2, .int .i64 e2] := hS.bk 1 rfl rfl
        have f0 := kb.cell 0
        have f1 := kb.cell 1
        have f2 := kb.cell 2
        have f3 := kb.cell 3
        have f4 := kb.cell 4
        have f5 := kb.cell 5
        clear kb
        go_simp
        exact ⟨⟨fun d hd => by injection hd with hd; subst hd; rfl, fun h => by cases h⟩, hS, trivial⟩
    · as_aux_lemma =>
        intro vals a W hS hL
        have e5 : a.tmps.getD 5 undef = .pointer (some ⟨w.heap.size + 2, 0, none⟩) := hL.1
        clear hL
        have kb : Bk W (w.heap.size + 2) 25 #[.int .i64 k3, .int .i64 m3, .int .i64 s3, .string t3, .bool b3, .int .i64 e3] := hS.bk 0 rfl rfl
        have f0 := kb.cell 0
        have f1 := kb.cell 1
        have f2 := kb.cell 2
        have f3 := kb.cell 3
        have f4 := kb.cell 4
        have f5 := kb.cell 5
        clear kb
        go_simp
        exact ⟨⟨fun d hd => by injection hd with hd; subst hd; rfl, fun h => by cases h⟩, hS, trivial⟩
    · as_aux_lemma =>
        intro vals a W hS hL
        have e59 : a.tmps.getD 59 undef = .agg #[.int .i64 k2, .int .i64 m2, .int .i64 s2, .string t2, .bool b2, .int .i64 e2] := hL.1
        have e60 : a.tmps.getD 60 undef = .agg #[.int .i64 k3, .int .i64 m3, .int .i64 s3, .string t3, .bool b3, .int .i64 e3] := hL.2.1
        clear hL
        go_simp
        refine (C2h.out W).mono ?_
        rintro e W' ⟨rfl, hb⟩
        exact ⟨_, rfl, ⟨fun d hd => by injection hd with hd; subst hd; rfl, fun h => by cases h⟩, hS.call hb, trivial⟩
    · as_aux_lemma =>
        intro vals a W hS hL
        have e3 : a.tmps.getD 3 undef = .pointer (some ⟨w.heap.size, 0, none⟩) := hL.1
        clear hL
        have kb : Bk W (w.heap.size) 25 #[.int .i64 k1, .int .i64 m1, .int .i64 s1, .string t1, .bool b1, .int .i64 e1] := hS.bk 2 rfl rfl
        have f0 := kb.cell 0
        have f1 := kb.cell 1
        have f2 := kb.cell 2
        have f3 := kb.cell 3
        have f4 := kb.cell 4
        have f5 := kb.cell 5
        clear kb
        go_simp
        exact ⟨⟨fun d hd => by injection hd with hd; subst hd; rfl, fun h => by cases h⟩, hS, trivial⟩
    · as_aux_lemma =>
        intro vals a W hS hL
        have e5 : a.tmps.getD 5 undef = .pointer (some ⟨w.heap.size + 2, 0, none⟩) := hL.1
        clear hL
        have kb : Bk W (w.heap.size + 2) 25 #[.int .i64 k3, .int .i64 m3, .int .i64 s3, .string t3, .bool b3, .int .i64 e3] := hS.bk 0 rfl rfl
        have f0 := kb.cell 0
        have f1 := kb.cell 1
        have f2 := kb.cell 2
        have f3 := kb.cell 3
        have f4 := kb.cell 4
        have f5 := kb.cell 5
        clear kb
        go_simp
        exact ⟨⟨fun d hd => by injection hd with hd; subst hd; rfl, fun h => by cases h⟩, hS, trivial⟩
    · as_aux_lemma =>
        intro vals a W hS hL
        have e62 : a.tmps.getD 62 undef = .agg #[.int .i64 k1, .int .i64 m1, .int .i64 s1, .string t1, .bool b1, .int .i64 e1] := hL.1
        have e63 : a.tmps.getD 63 undef = .agg #[.int .i64 k3, .int .i64 m3, .int .i64 s3, .string t3, .bool b3, .int .i64 e3] := hL.2.1
        clear hL
        go_simp
        refine (C3h.out W).mono ?_
        rintro e W' ⟨rfl, hb⟩
        exact ⟨_, rfl, ⟨fun d hd => by injection hd with hd; subst hd; rfl, fun h => by cases h⟩, hS.call hb, trivial⟩
    · as_aux_lemma =>
        intro vals a W hS hL
        have e58 : a.tmps.getD 58 undef = .int .i64 (-1) := hL.1
        clear hL
        go_simp
        exact ⟨⟨fun d hd => by injection hd with hd; subst hd; rfl, fun h => by cases h⟩, hS, trivial⟩
    · as_aux_lemma =>
        intro vals a W hS hL
        have e61 : a.tmps.getD 61 undef = .int .i64 (-1) := hL.1
        clear hL
        go_simp
        exact ⟨⟨fun d hd => by injection hd with hd; subst hd; rfl, fun h => by cases h⟩, hS, trivial⟩
    · as_aux_lemma =>
        intro vals a W hS hL
        have e64 : a.tmps.getD 64 undef = .int .i64 (-1) := hL.1
        clear hL
        go_simp
        exact ⟨⟨fun d hd => by injection hd with hd; subst hd; rfl, fun h => by cases h⟩, hS, trivial⟩
  · intro a W' vals hd hsz hT hF hv hP hS
    obtain rfl : vals = [] := List.eq_nil_of_length_eq_zero hv
    have hS2 : SX w 3 ([] : List Stp) [] ([(w.heap.size + 2, 25, #[.int .i64 k3, .int .i64 m3, .int .i64 s3, .string t3, .bool b3, .int .i64 e3]), (w.heap.size + 1, 25, #[.int .i64 k2, .int .i64 m2, .int .i64 s2, .string t2, .bool b2, .int .i64 e2]), (w.heap.size, 25, #[.int .i64 k1, .int .i64 m1, .int .i64 s1, .string t1, .bool b1, .int .i64 e1])] : List (Nat × TypeId × Array Value)) W' := hS
    clear hS
    have hB0 := hS2
    have hB : SB w 3 ([(w.heap.size + 2, 25, #[.int .i64 k3, .int .i64 m3, .int .i64 s3, .string t3, .bool b3, .int .i64 e3]), (w.heap.size + 1, 25, #[.int .i64 k2, .int .i64 m2, .int .i64 s2, .string t2, .bool b2, .int .i64 e2]), (w.heap.size, 25, #[.int .i64 k1, .int .i64 m1, .int .i64 s1, .string t1, .bool b1, .int .i64 e1])] : List (Nat × TypeId × Array Value)) W' := hB0
    clear hB0
    have e3 : a.tmps.getD 3 undef = .pointer (some ⟨w.heap.size, 0, none⟩) := hT 3 (by simp)
    have e4 : a.tmps.getD 4 undef = .pointer (some ⟨w.heap.size + 1, 0, none⟩) := hT 4 (by simp)
    have e5 : a.tmps.getD 5 undef = .pointer (some ⟨w.heap.size + 2, 0, none⟩) := hT 5 (by simp)
    have e7 : a.tmps.getD 7 undef = .int .i64 (-1) := hT 7 (by simp)
    have e8 : a.tmps.getD 8 undef = .int .i64 (-1) := hT 8 (by simp)
    have e9 : a.tmps.getD 9 undef = .int .i64 (-1) := hT 9 (by simp)
    clear hT hF hP
    rw [act_lit 101 a hd hsz]
    simp only [List.range, List.range.loop, List.map, e3, e4, e5, e7, e8, e9]
    clear hd hsz e3 e4 e5 e7 e8 e9
    have HB2 := Lib.hid hB
    clear hB HB C1h C2h C3h
    have ka := HB2.out.box (i := 2) rfl
    have ca0 := ka.cell 0
    have ca1 := ka.cell 1
    have ca2 := ka.cell 2
    have ca3 := ka.cell 3
    have ca4 := ka.cell 4
    have ca5 := ka.cell 5
    clear ka
    have kb := HB2.out.box (i := 1) rfl
    have cb0 := kb.cell 0
    have cb1 := kb.cell 1
    have cb2 := kb.cell 2
    have cb3 := kb.cell 3
    have cb4 := kb.cell 4
    have cb5 := kb.cell 5
    clear kb
    go_wp2_with fail
    refine (C4h.out _).mono ?_
    rintro x w8 ⟨rfl, hb⟩
    have HB3 := Lib.hid (HB2.out.call hb)
    clear hb HB2
    clear ca0 ca1 ca2 ca3 ca4 ca5 cb0 cb1 cb2 cb3 cb4 cb5
    have ka := HB3.out.box (i := 2) rfl
    have ca0 := ka.cell 0
    have ca1 := ka.cell 1
    have ca2 := ka.cell 2
    have ca3 := ka.cell 3
    have ca4 := ka.cell 4
    have ca5 := ka.cell 5
    clear ka
    have kb := HB3.out.box (i := 1) rfl
    have cb0 := kb.cell 0
    have cb1 := kb.cell 1
    have cb2 := kb.cell 2
    have cb3 := kb.cell 3
    have cb4 := kb.cell 4
    have cb5 := kb.cell 5
    clear kb
    go_wp2_with fail
    refine (C5h.out _).mono ?_
    rintro x w9 ⟨rfl, hb⟩
    have hbel := (HB3.out.call hb).bel
    clear hb HB3 C4h C5h
    clear ca0 ca1 ca2 ca3 ca4 ca5 cb0 cb1 cb2 cb3 cb4 cb5
    go_wp2
    go_ret
    exact ⟨rfl, hbel⟩

set_option maxRecDepth 20000 in
set_option maxHeartbeats 2000000 in
theorem order_mzm {w : World} {k1 m1 s1 : Int} {t1 : ByteArray} {b1 : Bool} {e1 : Int} {k2 m2 s2 : Int} {t2 : ByteArray} {b2 : Bool} {e2 : Int} {k3 m3 s3 : Int} {t3 : ByteArray} {b3 : Bool} {e3 : Int} (h1 : t1.size ≤ 1000) (h2 : t2.size ≤ 1000) (h3 : t3.size ≤ 1000) (K1 : ∀ W : World, Below w.heap.size w W → Calls Tryd.prog 7 #[.agg #[.int .i64 k1, .int .i64 m1, .int .i64 s1, .string t1, .bool b1, .int .i64 e1]] W fun x w' => x = .returned (.int .i64 0) ∧ Below W.heap.size W w') (K2 : ∀ W : World, Below w.heap.size w W → Calls Tryd.prog 7 #[.agg #[.int .i64 k2, .int .i64 m2, .int .i64 s2, .string t2, .bool b2, .int .i64 e2]] W fun x w' => x = .returned (.int .i64 0) ∧ Below W.heap.size W w') (K3 : ∀ W : World, Below w.heap.size w W → Calls Tryd.prog 7 #[.agg #[.int .i64 k3, .int .i64 m3, .int .i64 s3, .string t3, .bool b3, .int .i64 e3]] W fun x w' => x = .returned (.int .i64 0) ∧ Below W.heap.size W w') (hk1 : ¬ k1 = 0) (hk2 : ¬ k2 = 0) (hk3 : ¬ k3 = 0) (C1 : ∀ W : World, Calls Tryd.prog 8 #[.agg #[.int .i64 k1, .int .i64 m1, .int .i64 s1, .string t1, .bool b1, .int .i64 e1], .agg #[.int .i64 k2, .int .i64 m2, .int .i64 s2, .string t2, .bool b2, .int .i64 e2]] W fun x w' => x = .returned (.int .i64 (-1)) ∧ Below W.heap.size W w') (C2 : ∀ W : World, Calls Tryd.prog 8 #[.agg #[.int .i64 k2, .int .i64 m2, .int .i64 s2, .string t2, .bool b2, .int .i64 e2], .agg #[.int .i64 k3, .int .i64 m3, .int .i64 s3, .string t3, .bool b3, .int .i64 e3]] W fun x w' => x = .returned (.int .i64 0) ∧ Below W.heap.size W w') (C3 : ∀ W : World, Calls Tryd.prog 8 #[.agg #[.int .i64 k1, .int .i64 m1, .int .i64 s1, .string t1, .bool b1, .int .i64 e1], .agg #[.int .i64 k3, .int .i64 m3, .int .i64 s3, .string t3, .bool b3, .int .i64 e3]] W fun x w' => x = .returned (.int .i64 (-1)) ∧ Below W.heap.size W w') (C4 : ∀ W : World, Calls Tryd.prog 8 #[.agg #[.int .i64 k2, .int .i64 m2, .int .i64 s2, .string t2, .bool b2, .int .i64 e2], .agg #[.int .i64 k1, .int .i64 m1, .int .i64 s1, .string t1, .bool b1, .int .i64 e1]] W fun x w' => x = .returned (.int .i64 1) ∧ Below W.heap.size W w') (C5 : ∀ W : World, Calls Tryd.prog 9 #[.agg #[.int .i64 k1, .int .i64 m1, .int .i64 s1, .string t1, .bool b1, .int .i64 e1], .agg #[.int .i64 k2, .int .i64 m2, .int .i64 s2, .string t2, .bool b2, .int .i64 e2]] W fun x w' => x = .returned (.bool false) ∧ Below W.heap.size W w') :
    Calls Tryd.prog 3 #[.agg #[.int .i64 k1, .int .i64 m1, .int .i64 s1, .string t1, .bool b1, .int .i64 e1], .agg #[.int .i64 k2, .int .i64 m2, .int .i64 s2, .string t2, .bool b2, .int .i64 e2], .agg #[.int .i64 k3, .int .i64 m3, .int .i64 s3, .string t3, .bool b3, .int .i64 e3]] w fun x w' => x = .returned (.bool true) ∧ Below w.heap.size w w' := by
  have HN := Lib.hid (fun W : World => known9_any (w := W))
  have h1' : ¬ (1000 : Int) < ((t1.size : Nat) : Int) := by omega
  clear h1
  have h2' : ¬ (1000 : Int) < ((t2.size : Nat) : Int) := by omega
  clear h2
  have h3' : ¬ (1000 : Int) < ((t3.size : Nat) : Int) := by omega
  clear h3
  have H1 := Lib.hid K1
  clear K1
  have H2 := Lib.hid K2
  clear K2
  have H3 := Lib.hid K3
  clear K3
  have hk1' : (k1 == 0) = false := beq_eq_false_iff_ne.2 hk1
  have hk2' : (k2 == 0) = false := beq_eq_false_iff_ne.2 hk2
  have hk3' : (k3 == 0) = false := beq_eq_false_iff_ne.2 hk3
  have C1h := Lib.hid C1
  clear C1
  have C2h := Lib.hid C2
  clear C2
  have C3h := Lib.hid C3
  clear C3
  have C4h := Lib.hid C4
  clear C4
  have C5h := Lib.hid C5
  clear C5
  have HB := Lib.hid (((sb1 w 25 #[.int .i64 k1, .int .i64 m1, .int .i64 s1, .string t1, .bool b1, .int .i64 e1]).push (by simp) 25 #[.int .i64 k2, .int .i64 m2, .int .i64 s2, .string t2, .bool b2, .int .i64 e2]).push (by simp) 25 #[.int .i64 k3, .int .i64 m3, .int .i64 s3, .string t3, .bool b3, .int .i64 e3])
  go_enter Tryd.func3, Tryd.ntmps3
  go_wp2_with fail
  refine (HN.out _).mono ?_
  rintro x w1 ⟨rfl, hb⟩
  have hB := HB.out.call hb
  clear hb HB
  have HB := Lib.hid hB
  clear hB
  have ka := HB.out.box (i := 2) rfl
  have ca0 := ka.cell 0
  have ca1 := ka.cell 1
  have ca2 := ka.cell 2
  have ca3 := ka.cell 3
  have ca4 := ka.cell 4
  have ca5 := ka.cell 5
  clear ka
  have kb := HB.out.box (i := 1) rfl
  have cb0 := kb.cell 0
  have cb1 := kb.cell 1
  have cb2 := kb.cell 2
  have cb3 := kb.cell 3
  have cb4 := kb.cell 4
  have cb5 := kb.cell 5
  clear kb
  have kc := HB.out.box (i := 0) rfl
  have cc0 := kc.cell 0
  have cc1 := kc.cell 1
  have cc2 := kc.cell 2
  have cc3 := kc.cell 3
  have cc4 := kc.cell 4
  have cc5 := kc.cell 5
  clear kc
  go_wp2_with fail
  refine (H1.out _ HB.out.bel).mono ?_
  rintro x w2 ⟨rfl, hb⟩
  have hB := HB.out.call hb
  clear hb HB
  have HB := Lib.hid hB
  clear hB
  clear ca0 ca1 ca2 ca3 ca4 ca5 cb0 cb1 cb2 cb3 cb4 cb5 cc0 cc1 cc2 cc3 cc4 cc5
  have ka := HB.out.box (i := 2) rfl
  have ca0 := ka.cell 0
  have ca1 := ka.cell 1
  have ca2 := ka.cell 2
  have ca3 := ka.cell 3
  have ca4 := ka.cell 4
  have ca5 := ka.cell 5
  clear ka
  have kb := HB.out.box (i := 1) rfl
  have cb0 := kb.cell 0
  have cb1 := kb.cell 1
  have cb2 := kb.cell 2
  have cb3 := kb.cell 3
  have cb4 := kb.cell 4
  have cb5 := kb.cell 5
  clear kb
  have kc := HB.out.box (i := 0) rfl
  have cc0 := kc.cell 0
  have cc1 := kc.cell 1
  have cc2 := kc.cell 2
  have cc3 := kc.cell 3
  have cc4 := kc.cell 4
  have cc5 := kc.cell 5
  clear kc
  go_wp2_with fail
  refine (H2.out _ HB.out.bel).mono ?_
  rintro x w3 ⟨rfl, hb⟩
  have hB := HB.out.call hb
  clear hb HB
  have HB := Lib.hid hB
  clear hB
  clear ca0 ca1 ca2 ca3 ca4 ca5 cb0 cb1 cb2 cb3 cb4 cb5 cc0 cc1 cc2 cc3 cc4 cc5
  have ka := HB.out.box (i := 2) rfl
  have ca0 := ka.cell 0
  have ca1 := ka.cell 1
  have ca2 := ka.cell 2
  have ca3 := ka.cell 3
  have ca4 := ka.cell 4
  have ca5 := ka.cell 5
  clear ka
  have kb := HB.out.box (i := 1) rfl
  have cb0 := kb.cell 0
  have cb1 := kb.cell 1
  have cb2 := kb.cell 2
  have cb3 := kb.cell 3
  have cb4 := kb.cell 4
  have cb5 := kb.cell 5
  clear kb
  have kc := HB.out.box (i := 0) rfl
  have cc0 := kc.cell 0
  have cc1 := kc.cell 1
  have cc2 := kc.cell 2
  have cc3 := kc.cell 3
  have cc4 := kc.cell 4
  have cc5 := kc.cell 5
  clear kc
  go_wp2_with fail
  refine (H3.out _ HB.out.bel).mono ?_
  rintro x w4 ⟨rfl, hb⟩
  have hB := HB.out.call hb
  clear hb HB
  have HB := Lib.hid hB
  clear hB
  clear ca0 ca1 ca2 ca3 ca4 ca5 cb0 cb1 cb2 cb3 cb4 cb5 cc0 cc1 cc2 cc3 cc4 cc5
  have ka := HB.out.box (i := 2) rfl
  have ca0 := ka.cell 0
  have ca1 := ka.cell 1
  have ca2 := ka.cell 2
  have ca3 := ka.cell 3
  have ca4 := ka.cell 4
  have ca5 := ka.cell 5
  clear ka
  have kb := HB.out.box (i := 1) rfl
  have cb0 := kb.cell 0
  have cb1 := kb.cell 1
  have cb2 := kb.cell 2
  have cb3 := kb.cell 3
  have cb4 := kb.cell 4
  have cb5 := kb.cell 5
  clear kb
  have kc := HB.out.box (i := 0) rfl
  have cc0 := kc.cell 0
  have cc1 := kc.cell 1
  have cc2 := kc.cell 2
  have cc3 := kc.cell 3
  have cc4 := kc.cell 4
  have cc5 := kc.cell 5
  clear kc
  clear HN H1 H2 H3
  go_wp2_with fail
  clear ca0 ca1 ca2 ca3 ca4 ca5 cb0 cb1 cb2 cb3 cb4 cb5 cc0 cc1 cc2 cc3 cc4 cc5
  refine wp_region_phases (S := (fun vals W => SX w 3 ([] : List Stp) vals ([(w.heap.size + 2, 25, #[.int .i64 k3, .int .i64 m3, .int .i64 s3, .string t3, .bool b3, .int .i64 e3]), (w.heap.size + 1, 25, #[.int .i64 k2, .int .i64 m2, .int .i64 s2, .string t2, .bool b2, .int .i64 e2]), (w.heap.size, 25, #[.int .i64 k1, .int .i64 m1, .int .i64 s1, .string t1, .bool b1, .int .i64 e1])] : List (Nat × TypeId × Array Value)) W)) (E := (fun _ _ => True)) [] [(3, Is (.pointer (some ⟨w.heap.size, 0, none⟩))), (4, Is (.pointer (some ⟨w.heap.size + 1, 0, none⟩))), (5, Is (.pointer (some ⟨w.heap.size + 2, 0, none⟩)))] [(56, Is (.agg #[.int .i64 k1, .int .i64 m1, .int .i64 s1, .string t1, .bool b1, .int .i64 e1])), (57, Is (.agg #[.int .i64 k2, .int .i64 m2, .int .i64 s2, .string t2, .bool b2, .int .i64 e2])), (58, Is (.int .i64 (-1))), (59, Is (.agg #[.int .i64 k2, .int .i64 m2, .int .i64 s2, .string t2, .bool b2, .int .i64 e2])), (60, Is (.agg #[.int .i64 k3, .int .i64 m3, .int .i64 s3, .string t3, .bool b3, .int .i64 e3])), (61, Is (.int .i64 0)), (62, Is (.agg #[.int .i64 k1, .int .i64 m1, .int .i64 s1, .string t1, .bool b1, .int .i64 e1])), (63, Is (.agg #[.int .i64 k3, .int .i64 m3, .int .i64 s3, .string t3, .bool b3, .int .i64 e3])), (64, Is (.int .i64 (-1))), (7, Is (.int .i64 (-1))), (8, Is (.int .i64 0)), (9, Is (.int .i64 (-1)))]
    [.op [3] none, .op [4] none, .op [56, 57] none, .op [4] none, .op [5] none, .op [59, 60] none, .op [3] none, .op [5] none, .op [62, 63] none, .op [58] none, .op [61] none, .op [64] none] (by as_aux_lemma => kernel_rfl) ?_ ?_ ?_ ?_ ?_ ⟨stable_is _ _, stable_is _ _, stable_is _ _, stable_is _ _, stable_is _ _, stable_is _ _, stable_is _ _, stable_is _ _, stable_is _ _, stable_is _ _, stable_is _ _, stable_is _ _, stable_is _ _, stable_is _ _, stable_is _ _, trivial⟩ ?_ (HB.out.drew) ?_ ?_
  · as_aux_lemma => kernel_rfl
  · as_aux_lemma => kernel_rfl
  · as_aux_lemma => kernel_rfl
  · as_aux_lemma => kernel_rfl
  · as_aux_lemma => kernel_rfl
  · exact ⟨rfl, rfl, rfl, trivial⟩
  · refine ⟨?_, ?_, ?_, ?_, ?_, ?_, ?_, ?_, ?_, ?_, ?_, ?_, trivial⟩
    · as_aux_lemma =>
        intro vals a W hS hL
        have e3 : a.tmps.getD 3 undef = .pointer (some ⟨w.heap.size, 0, none⟩) := hL.1
        clear hL
        have kb : Bk W (w.heap.size) 25 #[.int .i64 k1, .int .i64 m1, .int .i64 s1, .string t1, .bool b1, .int .i64 e1] := hS.bk 2 rfl rfl
        have f0 := kb.cell 0
        have f1 := kb.cell 1
        have f2 := kb.cell 2
        have f3 := kb.cell 3
        have f4 := kb.cell 4
        have f5 := kb.cell 5
        clear kb
        go_simp
        exact ⟨⟨fun d hd => by injection hd with hd; subst hd; rfl, fun h => by cases h⟩, hS, trivial⟩
    · as_aux_lemma =>
        intro vals a W hS hL
        have e4 : a.tmps.getD 4 undef = .pointer (some ⟨w.heap.size + 1, 0, none⟩) := hL.1
        clear hL
        have kb : Bk W (w.heap.size + 1) 25 #[.int .i64 k2, .int .i64 m2, .int .i64 s2, .string t2, .bool b2, .int .i64 e2] := hS.bk 1 rfl rfl
        have f0 := kb.cell 0
        have f1 := kb.cell 1
        have f2 := kb.cell 2
        have f3 := kb.cell 3
        have f4 := kb.cell 4
        have f5 := kb.cell 5
        clear kb
        go_simp
        exact ⟨⟨fun d hd => by injection hd with hd; subst hd; rfl, fun h => by cases h⟩, hS, trivial⟩
    · as_aux_lemma =>
        intro vals a W hS hL
        have e56 : a.tmps.getD 56 undef = .agg #[.int .i64 k1, .int .i64 m1, .int .i64 s1, .string t1, .bool b1, .int .i64 e1] := hL.1
        have e57 : a.tmps.getD 57 undef = .agg #[.int .i64 k2, .int .i64 m2, .int .i64 s2, .string t2, .bool b2, .int .i64 e2] := hL.2.1
        clear hL
        go_simp
        refine (C1h.out W).mono ?_
        rintro e W' ⟨rfl, hb⟩
        exact ⟨_, rfl, ⟨fun d hd => by injection hd with hd; subst hd; rfl, fun h => by cases h⟩, hS.call hb, trivial⟩
    · as_aux_lemma =>
        intro vals a W hS hL
        have e4 : a.tmps.getD 4 undef = .pointer (some ⟨w.heap.size + 1, 0, none⟩) := hL.1
        clear hL
        have kb : Bk W (w.heap.size + 1) 25 #[.int .i64 k2, .int .i64 m2, .int .i64 s2, .string t2, .bool b2, .int .i64 e2] := hS.bk 1 rfl rfl
        have f0 := kb.cell 0
        have f1 := kb.cell 1
        have f2 := kb.cell 2
        have f3 := kb.cell 3
        have f4 := kb.cell 4
        have f5 := kb.cell 5
        clear kb
        go_simp
        exact ⟨⟨fun d hd => by injection hd with hd; subst hd; rfl, fun h => by cases h⟩, hS, trivial⟩
    · as_aux_lemma =>
        intro vals a W hS hL
        have e5 : a.tmps.getD 5 undef = .pointer (some ⟨w.heap.size + 2, 0, none⟩) := hL.1
        clear hL
        have kb : Bk W (w.heap.size + 2) 25 #[.int .i64 k3, .int .i64 m3, .int .i64 s3, .string t3, .bool b3, .int .i64 e3] := hS.bk 0 rfl rfl
        have f0 := kb.cell 0
        have f1 := kb.cell 1
        have f2 := kb.cell 2
        have f3 := kb.cell 3
        have f4 := kb.cell 4
        have f5 := kb.cell 5
        clear kb
        go_simp
        exact ⟨⟨fun d hd => by injection hd with hd; subst hd; rfl, fun h => by cases h⟩, hS, trivial⟩
    · as_aux_lemma =>
        intro vals a W hS hL
        have e59 : a.tmps.getD 59 undef = .agg #[.int .i64 k2, .int .i64 m2, .int .i64 s2, .string t2, .bool b2, .int .i64 e2] := hL.1
        have e60 : a.tmps.getD 60 undef = .agg #[.int .i64 k3, .int .i64 m3, .int .i64 s3, .string t3, .bool b3, .int .i64 e3] := hL.2.1
        clear hL
        go_simp
        refine (C2h.out W).mono ?_
        rintro e W' ⟨rfl, hb⟩
        exact ⟨_, rfl, ⟨fun d hd => by injection hd with hd; subst hd; rfl, fun h => by cases h⟩, hS.call hb, trivial⟩
    · as_aux_lemma =>
        intro vals a W hS hL
        have e3 : a.tmps.getD 3 undef = .pointer (some ⟨w.heap.size, 0, none⟩) := hL.1
        clear hL
        have kb : Bk W (w.heap.size) 25 #[.int .i64 k1, .int .i64 m1, .int .i64 s1, .string t1, .bool b1, .int .i64 e1] := hS.bk 2 rfl rfl
        have f0 := kb.cell 0
        have f1 := kb.cell 1
        have f2 := kb.cell 2
        have f3 := kb.cell 3
        have f4 := kb.cell 4
        have f5 := kb.cell 5
        clear kb
        go_simp
        exact ⟨⟨fun d hd => by injection hd with hd; subst hd; rfl, fun h => by cases h⟩, hS, trivial⟩
    · as_aux_lemma =>
        intro vals a W hS hL
        have e5 : a.tmps.getD 5 undef = .pointer (some ⟨w.heap.size + 2, 0, none⟩) := hL.1
        clear hL
        have kb : Bk W (w.heap.size + 2) 25 #[.int .i64 k3, .int .i64 m3, .int .i64 s3, .string t3, .bool b3, .int .i64 e3] := hS.bk 0 rfl rfl
        have f0 := kb.cell 0
        have f1 := kb.cell 1
        have f2 := kb.cell 2
        have f3 := kb.cell 3
        have f4 := kb.cell 4
        have f5 := kb.cell 5
        clear kb
        go_simp
        exact ⟨⟨fun d hd => by injection hd with hd; subst hd; rfl, fun h => by cases h⟩, hS, trivial⟩
    · as_aux_lemma =>
        intro vals a W hS hL
        have e62 : a.tmps.getD 62 undef = .agg #[.int .i64 k1, .int .i64 m1, .int .i64 s1, .string t1, .bool b1, .int .i64 e1] := hL.1
        have e63 : a.tmps.getD 63 undef = .agg #[.int .i64 k3, .int .i64 m3, .int .i64 s3, .string t3, .bool b3, .int .i64 e3] := hL.2.1
        clear hL
        go_simp
        refine (C3h.out W).mono ?_
        rintro e W' ⟨rfl, hb⟩
        exact ⟨_, rfl, ⟨fun d hd => by injection hd with hd; subst hd; rfl, fun h => by cases h⟩, hS.call hb, trivial⟩
    · as_aux_lemma =>
        intro vals a W hS hL
        have e58 : a.tmps.getD 58 undef = .int .i64 (-1) := hL.1
        clear hL
        go_simp
        exact ⟨⟨fun d hd => by injection hd with hd; subst hd; rfl, fun h => by cases h⟩, hS, trivial⟩
    · as_aux_lemma =>
        intro vals a W hS hL
        have e61 : a.tmps.getD 61 undef = .int .i64 0 := hL.1
        clear hL
        go_simp
        exact ⟨⟨fun d hd => by injection hd with hd; subst hd; rfl, fun h => by cases h⟩, hS, trivial⟩
    · as_aux_lemma =>
        intro vals a W hS hL
        have e64 : a.tmps.getD 64 undef = .int .i64 (-1) := hL.1
        clear hL
        go_simp
        exact ⟨⟨fun d hd => by injection hd with hd; subst hd; rfl, fun h => by cases h⟩, hS, trivial⟩
  · intro a W' vals hd hsz hT hF hv hP hS
    obtain rfl : vals = [] := List.eq_nil_of_length_eq_zero hv
    have hS2 : SX w 3 ([] : List Stp) [] ([(w.heap.size + 2, 25, #[.int .i64 k3, .int .i64 m3, .int .i64 s3, .string t3, .bool b3, .int .i64 e3]), (w.heap.size + 1, 25, #[.int .i64 k2, .int .i64 m2, .int .i64 s2, .string t2, .bool b2, .int .i64 e2]), (w.heap.size, 25, #[.int .i64 k1, .int .i64 m1, .int .i64 s1, .string t1, .bool b1, .int .i64 e1])] : List (Nat × TypeId × Array Value)) W' := hS
    clear hS
    have hB0 := hS2
    have hB : SB w 3 ([(w.heap.size + 2, 25, #[.int .i64 k3, .int .i64 m3, .int .i64 s3, .string t3, .bool b3, .int .i64 e3]), (w.heap.size + 1, 25, #[.int .i64 k2, .int .i64 m2, .int .i64 s2, .string t2, .bool b2, .int .i64 e2]), (w.heap.size, 25, #[.int .i64 k1, .int .i64 m1, .int .i64 s1, .string t1, .bool b1, .int .i64 e1])] : List (Nat × TypeId × Array Value)) W' := hB0
    clear hB0
    have e3 : a.tmps.getD 3 undef = .pointer (some ⟨w.heap.size, 0, none⟩) := hT 3 (by simp)
    have e4 : a.tmps.getD 4 undef = .pointer (some ⟨w.heap.size + 1, 0, none⟩) := hT 4 (by simp)
    have e5 : a.tmps.getD 5 undef = .pointer (some ⟨w.heap.size + 2, 0, none⟩) := hT 5 (by simp)
    have e7 : a.tmps.getD 7 undef = .int .i64 (-1) := hT 7 (by simp)
    have e8 : a.tmps.getD 8 undef = .int .i64 0 := hT 8 (by simp)
    have e9 : a.tmps.getD 9 undef = .int .i64 (-1) := hT 9 (by simp)
    clear hT hF hP
    rw [act_lit 101 a hd hsz]
    simp only [List.range, List.range.loop, List.map, e3, e4, e5, e7, e8, e9]
    clear hd hsz e3 e4 e5 e7 e8 e9
    have HB2 := Lib.hid hB
    clear hB HB C1h C2h C3h
    have ka := HB2.out.box (i := 2) rfl
    have ca0 := ka.cell 0
    have ca1 := ka.cell 1
    have ca2 := ka.cell 2
    have ca3 := ka.cell 3
    have ca4 := ka.cell 4
    have ca5 := ka.cell 5
    clear ka
    have kb := HB2.out.box (i := 1) rfl
    have cb0 := kb.cell 0
    have cb1 := kb.cell 1
    have cb2 := kb.cell 2
    have cb3 := kb.cell 3
    have cb4 := kb.cell 4
    have cb5 := kb.cell 5
    clear kb
    go_wp2_with fail
    refine (C4h.out _).mono ?_
    rintro x w8 ⟨rfl, hb⟩
    have HB3 := Lib.hid (HB2.out.call hb)
    clear hb HB2
    clear ca0 ca1 ca2 ca3 ca4 ca5 cb0 cb1 cb2 cb3 cb4 cb5
    have ka := HB3.out.box (i := 2) rfl
    have ca0 := ka.cell 0
    have ca1 := ka.cell 1
    have ca2 := ka.cell 2
    have ca3 := ka.cell 3
    have ca4 := ka.cell 4
    have ca5 := ka.cell 5
    clear ka
    have kb := HB3.out.box (i := 1) rfl
    have cb0 := kb.cell 0
    have cb1 := kb.cell 1
    have cb2 := kb.cell 2
    have cb3 := kb.cell 3
    have cb4 := kb.cell 4
    have cb5 := kb.cell 5
    clear kb
    go_wp2_with fail
    refine (C5h.out _).mono ?_
    rintro x w9 ⟨rfl, hb⟩
    have hbel := (HB3.out.call hb).bel
    clear hb HB3 C4h C5h
    clear ca0 ca1 ca2 ca3 ca4 ca5 cb0 cb1 cb2 cb3 cb4 cb5
    go_wp2
    go_ret
    exact ⟨rfl, hbel⟩

set_option maxRecDepth 20000 in
set_option maxHeartbeats 2000000 in
theorem order_zmm {w : World} {k1 m1 s1 : Int} {t1 : ByteArray} {b1 : Bool} {e1 : Int} {k2 m2 s2 : Int} {t2 : ByteArray} {b2 : Bool} {e2 : Int} {k3 m3 s3 : Int} {t3 : ByteArray} {b3 : Bool} {e3 : Int} (h1 : t1.size ≤ 1000) (h2 : t2.size ≤ 1000) (h3 : t3.size ≤ 1000) (K1 : ∀ W : World, Below w.heap.size w W → Calls Tryd.prog 7 #[.agg #[.int .i64 k1, .int .i64 m1, .int .i64 s1, .string t1, .bool b1, .int .i64 e1]] W fun x w' => x = .returned (.int .i64 0) ∧ Below W.heap.size W w') (K2 : ∀ W : World, Below w.heap.size w W → Calls Tryd.prog 7 #[.agg #[.int .i64 k2, .int .i64 m2, .int .i64 s2, .string t2, .bool b2, .int .i64 e2]] W fun x w' => x = .returned (.int .i64 0) ∧ Below W.heap.size W w') (K3 : ∀ W : World, Below w.heap.size w W → Calls Tryd.prog 7 #[.agg #[.int .i64 k3, .int .i64 m3, .int .i64 s3, .string t3, .bool b3, .int .i64 e3]] W fun x w' => x = .returned (.int .i64 0) ∧ Below W.heap.size W w') (hk1 : ¬ k1 = 0) (hk2 : ¬ k2 = 0) (hk3 : ¬ k3 = 0) (C1 : ∀ W : World, Calls Tryd.prog 8 #[.agg #[.int .i64 k1, .int .i64 m1, .int .i64 s1, .string t1, .bool b1, .int .i64 e1], .agg #[.int .i64 k2, .int .i64 m2, .int .i64 s2, .string t2, .bool b2, .int .i64 e2]] W fun x w' => x = .returned (.int .i64 0) ∧ Below W.heap.size W w') (C2 : ∀ W : World, Calls Tryd.prog 8 #[.agg #[.int .i64 k2, .int .i64 m2, .int .i64 s2, .string t2, .bool b2, .int .i64 e2], .agg #[.int .i64 k3, .int .i64 m3, .int .i64 s3, .string t3, .bool b3, .int .i64 e3]] W fun x w' => x = .returned (.int .i64 (-1)) ∧ Below W.heap.size W w') (C3 : ∀ W : World, Calls Tryd.prog 8 #[.agg #[.int .i64 k1, .int .i64 m1, .int .i64 s1, .string t1, .bool b1, .int .i64 e1], .agg #[.int .i64 k3, .int .i64 m3, .int .i64 s3, .string t3, .bool b3, .int .i64 e3]] W fun x w' => x = .returned (.int .i64 (-1)) ∧ Below W.heap.size W w') (C4 : ∀ W : World, Calls Tryd.prog 8 #[.agg #[.int .i64 k2, .int .i64 m2, .int .i64 s2, .string t2, .bool b2, .int .i64 e2], .agg #[.int .i64 k1, .int .i64 m1, .int .i64 s1, .string t1, .bool b1, .int .i64 e1]] W fun x w' => x = .returned (.int .i64 0) ∧ Below W.heap.size W w') (C5 : ∀ W : World, Calls Tryd.prog 9 #[.agg #[.int .i64 k1, .int .i64 m1, .int .i64 s1, .string t1, .bool b1, .int .i64 e1], .agg #[.int .i64 k2, .int .i64 m2, .int .i64 s2, .string t2, .bool b2, .int .i64 e2]] W fun x w' => x = .returned (.bool true) ∧ Below W.heap.size W w') :
    Calls Tryd.prog 3 #[.agg #[.int .i64 k1, .int .i64 m1, .int .i64 s1, .string t1, .bool b1, .int .i64 e1], .agg #[.int .i64 k2, .int .i64 m2, .int .i64 s2, .string t2, .bool b2, .int .i64 e2], .agg #[.int .i64 k3, .int .i64 m3, .int .i64 s3, .string t3, .bool b3, .int .i64 e3]] w fun x w' => x = .returned (.bool true) ∧ Below w.heap.size w w' := by
  have HN := Lib.hid (fun W : World => known9_any (w := W))
  have h1' : ¬ (1000 : Int) < ((t1.size : Nat) : Int) := by omega
  clear h1
  have h2' : ¬ (1000 : Int) < ((t2.size : Nat) : Int) := by omega
  clear h2
  have h3' : ¬ (1000 : Int) < ((t3.size : Nat) : Int) := by omega
  clear h3
  have H1 := Lib.hid K1
  clear K1
  have H2 := Lib.hid K2
  clear K2
  have H3 := Lib.hid K3
  clear K3
  have hk1' : (k1 == 0) = false := beq_eq_false_iff_ne.2 hk1
  have hk2' : (k2 == 0) = false := beq_eq_false_iff_ne.2 hk2
  have hk3' : (k3 == 0) = false := beq_eq_false_iff_ne.2 hk3
  have C1h := Lib.hid C1
  clear C1
  have C2h := Lib.hid C2
  clear C2
  have C3h := Lib.hid C3
  clear C3
  have C4h := Lib.hid C4
  clear C4
  have C5h := Lib.hid C5
  clear C5
  have HB := Lib.hid (((sb1 w 25 #[.int .i64 k1, .int .i64 m1, .int .i64 s1, .string t1, .bool b1, .int .i64 e1]).push (by simp) 25 #[.int .i64 k2, .int .i64 m2, .int .i64 s2, .string t2, .bool b2, .int .i64 e2]).push (by simp) 25 #[.int .i64 k3, .int .i64 m3, .int .i64 s3, .string t3, .bool b3, .int .i64 e3])
  go_enter Tryd.func3, Tryd.ntmps3
  go_wp2_with fail
  refine (HN.out _).mono ?_
  rintro x w1 ⟨rfl, hb⟩
  have hB := HB.out.call hb
  clear hb HB
  have HB := Lib.hid hB
  clear hB
  have ka := HB.out.box (i := 2) rfl
  have ca0 := ka.cell 0
  have ca1 := ka.cell 1
  have ca2 := ka.cell 2
  have ca3 := ka.cell 3
  have ca4 := ka.cell 4
  have ca5 := ka.cell 5
  clear ka
  have kb := HB.out.box (i := 1) rfl
  have cb0 := kb.cell 0
  have cb1 := kb.cell 1
  have cb2 := kb.cell 2
  have cb3 := kb.cell 3
  have cb4 := kb.cell 4
  have cb5 := kb.cell 5
  clear kb
  have kc := HB.out.box (i := 0) rfl
  have cc0 := kc.cell 0
  have cc1 := kc.cell 1
  have cc2 := kc.cell 2
  have cc3 := kc.cell 3
  have cc4 := kc.cell 4
  have cc5 := kc.cell 5
  clear kc
  go_wp2_with fail
  refine (H1.out _ HB.out.bel).mono ?_
  rintro x w2 ⟨rfl, hb⟩
  have hB := HB.out.call hb
  clear hb HB
  have HB := Lib.hid hB
  clear hB
  clear ca0 ca1 ca2 ca3 ca4 ca5 cb0 cb1 cb2 cb3 cb4 cb5 cc0 cc1 cc2 cc3 cc4 cc5
  have ka := HB.out.box (i := 2) rfl
  have ca0 := ka.cell 0
  have ca1 := ka.cell 1
  have ca2 := ka.cell 2
  have ca3 := ka.cell 3
  have ca4 := ka.cell 4
  have ca5 := ka.cell 5
  clear ka
  have kb := HB.out.box (i := 1) rfl
  have cb0 := kb.cell 0
  have cb1 := kb.cell 1
  have cb2 := kb.cell 2
  have cb3 := kb.cell 3
  have cb4 := kb.cell 4
  have cb5 := kb.cell 5
  clear kb
  have kc := HB.out.box (i := 0) rfl
  have cc0 := kc.cell 0
  have cc1 := kc.cell 1
  have cc2 := kc.cell 2
  have cc3 := kc.cell 3
  have cc4 := kc.cell 4
  have cc5 := kc.cell 5
  clear kc
  go_wp2_with fail
  refine (H2.out _ HB.out.bel).mono ?_
  rintro x w3 ⟨rfl, hb⟩
  have hB := HB.out.call hb
  clear hb HB
  have HB := Lib.hid hB
  clear hB
  clear ca0 ca1 ca2 ca3 ca4 ca5 cb0 cb1 cb2 cb3 cb4 cb5 cc0 cc1 cc2 cc3 cc4 cc5
  have ka := HB.out.box (i := 2) rfl
  have ca0 := ka.cell 0
  have ca1 := ka.cell 1
  have ca2 := ka.cell 2
  have ca3 := ka.cell 3
  have ca4 := ka.cell 4
  have ca5 := ka.cell 5
  clear ka
  have kb := HB.out.box (i := 1) rfl
  have cb0 := kb.cell 0
  have cb1 := kb.cell 1
  have cb2 := kb.cell 2
  have cb3 := kb.cell 3
  have cb4 := kb.cell 4
  have cb5 := kb.cell 5
  clear kb
  have kc := HB.out.box (i := 0) rfl
  have cc0 := kc.cell 0
  have cc1 := kc.cell 1
  have cc2 := kc.cell 2
  have cc3 := kc.cell 3
  have cc4 := kc.cell 4
  have cc5 := kc.cell 5
  clear kc
  go_wp2_with fail
  refine (H3.out _ HB.out.bel).mono ?_
  rintro x w4 ⟨rfl, hb⟩
  have hB := HB.out.call hb
  clear hb HB
  have HB := Lib.hid hB
  clear hB
  clear ca0 ca1 ca2 ca3 ca4 ca5 cb0 cb1 cb2 cb3 cb4 cb5 cc0 cc1 cc2 cc3 cc4 cc5
  have ka := HB.out.box (i := 2) rfl
  have ca0 := ka.cell 0
  have ca1 := ka.cell 1
  have ca2 := ka.cell 2
  have ca3 := ka.cell 3
  have ca4 := ka.cell 4
  have ca5 := ka.cell 5
  clear ka
  have kb := HB.out.box (i := 1) rfl
  have cb0 := kb.cell 0
  have cb1 := kb.cell 1
  have cb2 := kb.cell 2
  have cb3 := kb.cell 3
  have cb4 := kb.cell 4
  have cb5 := kb.cell 5
  clear kb
  have kc := HB.out.box (i := 0) rfl
  have cc0 := kc.cell 0
  have cc1 := kc.cell 1
  have cc2 := kc.cell 2
  have cc3 := kc.cell 3
  have cc4 := kc.cell 4
  have cc5 := kc.cell 5
  clear kc
  clear HN H1 H2 H3
  go_wp2_with fail
  clear ca0 ca1 ca2 ca3 ca4 ca5 cb0 cb1 cb2 cb3 cb4 cb5 cc0 cc1 cc2 cc3 cc4 cc5
  refine wp_region_phases (S := (fun vals W => SX w 3 ([] : List Stp) vals ([(w.heap.size + 2, 25, #[.int .i64 k3, .int .i64 m3, .int .i64 s3, .string t3, .bool b3, .int .i64 e3]), (w.heap.size + 1, 25, #[.int .i64 k2, .int .i64 m2, .int .i64 s2, .string t2, .bool b2, .int .i64 e2]), (w.heap.size, 25, #[.int .i64 k1, .int .i64 m1, .int .i64 s1, .string t1, .bool b1, .int .i64 e1])] : List (Nat × TypeId × Array Value)) W)) (E := (fun _ _ => True)) [] [(3, Is (.pointer (some ⟨w.heap.size, 0, none⟩))), (4, Is (.pointer (some ⟨w.heap.size + 1, 0, none⟩))), (5, Is (.pointer (some ⟨w.heap.size + 2, 0, none⟩)))] [(56, Is (.agg #[.int .i64 k1, .int .i64 m1, .int .i64 s1, .string t1, .bool b1, .int .i64 e1])), (57, Is (.agg #[.int .i64 k2, .int .i64 m2, .int .i64 s2, .string t2, .bool b2, .int .i64 e2])), (58, Is (.int .i64 0)), (59, Is (.agg #[.int .i64 k2, .int .i64 m2, .int .i64 s2, .string t2, .bool b2, .int .i64 e2])), (60, Is (.agg #[.int .i64 k3, .int .i64 m3, .int .i64 s3, .string t3, .bool b3, .int .i64 e3])), (61, Is (.int .i64 (-1))), (62, Is (.agg #[.int .i64 k1, .int .i64 m1, .int .i64 s1, .string t1, .bool b1, .int .i64 e1])), (63, Is (.agg #[.int .i64 k3, .int .i64 m3, .int .i64 s3, .string t3, .bool b3, .int .i64 e3])), (64, Is (.int .i64 (-1))), (7, Is (.int .i64 0)), (8, Is (.int .i64 (-1))), (9, Is (.int .i64 (-1)))]
    [.op [3] none, .op [4] none, .op [56, 57] none, .op [4] none, .op [5] none, .op [59, 60] none, .op [3] none, .op [5] none, .op [62, 63] none, .op [58] none, .op [61] none, .op [64] none] (by as_aux_lemma => kernel_rfl) ?_ ?_ ?_ ?_ ?_ ⟨stable_is _ _, stable_is _ _, stable_is _ _, stable_is _ _, stable_is _ _, stable_is _ _, stable_is _ _, stable_is _ _, stable_is _ _, stable_is _ _, stable_is _ _, stable_is _ _, stable_is _ _, stable_is _ _, stable_is _ _, trivial⟩ ?_ (HB.out.drew) ?_ ?_
  · as_aux_lemma => kernel_rfl
  · as_aux_lemma => kernel_rfl
  · as_aux_lemma => kernel_rfl
  · as_aux_lemma => kernel_rfl
  · as_aux_lemma => kernel_rfl
  · exact ⟨rfl, rfl, rfl, trivial⟩
  · refine ⟨?_, ?_, ?_, ?_, ?_, ?_, ?_, ?_, ?_, ?_, ?_, ?_, trivial⟩
    · as_aux_lemma =>
        intro vals a W hS hL
        have e3 : a.tmps.getD 3 undef = .pointer (some ⟨w.heap.size, 0, none⟩) := hL.1
        clear hL
        have kb : Bk W (w.heap.size) 25 #[.int .i64 k1, .int .i64 m1, .int .i64 s1, .string t1, .bool b1, .int .i64 e1] := hS.bk 2 rfl rfl
        have f0 := kb.cell 0
        have f1 := kb.cell 1
        have f2 := kb.cell 2
        have f3 := kb.cell 3
        have f4 := kb.cell 4
        have f5 := kb.cell 5
        clear kb
        go_simp
        exact ⟨⟨fun d hd => by injection hd with hd; subst hd; rfl, fun h => by cases h⟩, hS, trivial⟩
    · as_aux_lemma =>
        intro vals a W hS hL
        have e4 : a.tmps.getD 4 undef = .pointer (some ⟨w.heap.size + 1, 0, none⟩) := hL.1
        clear hL
        have kb : Bk W (w.heap.size + 1) 25 #[.int .i64 k2, .int .i64 m2, .int .i64 s2, .string t2, .bool b2, .int .i64 e2] := hS.bk 1 rfl rfl
        have f0 := kb.cell 0
        have f1 := kb.cell 1
        have f2 := kb.cell 2
        have f3 := kb.cell 3
        have f4 := kb.cell 4
        have f5 := kb.cell 5
        clear kb
        go_simp
        exact ⟨⟨fun d hd => by injection hd with hd; subst hd; rfl, fun h => by cases h⟩, hS, trivial⟩
    · as_aux_lemma =>
        intro vals a W hS hL
        have e56 : a.tmps.getD 56 undef = .agg #[.int .i64 k1, .int .i64 m1, .int .i64 s1, .string t1, .bool b1, .int .i64 e1] := hL.1
        have e57 : a.tmps.getD 57 undef = .agg #[.int .i64 k2, .int .i64 m2, .int .i64 s2, .string t2, .bool b2, .int .i64 e2] := hL.2.1
        clear hL
        go_simp
        refine (C1h.out W).mono ?_
        rintro e W' ⟨rfl, hb⟩
        exact ⟨_, rfl, ⟨fun d hd => by injection hd with hd; subst hd; rfl, fun h => by cases h⟩, hS.call hb, trivial⟩
    · as_aux_lemma =>
        intro vals a W hS hL
        have e4 : a.tmps.getD 4 undef = .pointer (some ⟨w.heap.size + 1, 0, none⟩) := hL.1
        clear hL
        have kb : Bk W (w.heap.size + 1) 25 #[.int .i64 k2, .int .i64 m2, .int .i64 s2, .string t2, .bool b2, .int .i64 e2] := hS.bk 1 rfl rfl
        have f0 := kb.cell 0
        have f1 := kb.cell 1
        have f2 := kb.cell 2
        have f3 := kb.cell 3
        have f4 := kb.cell 4
        have f5 := kb.cell 5
        clear kb
        go_simp
        exact ⟨⟨fun d hd => by injection hd with hd; subst hd; rfl, fun h => by cases h⟩, hS, trivial⟩
    · as_aux_lemma =>
        intro vals a W hS hL
        have e5 : a.tmps.getD 5 undef = .pointer (some ⟨w.heap.size + 2, 0, none⟩) := hL.1
        clear hL
        have kb : Bk W (w.heap.size + 2) 25 #[.int .i64 k3, .int .i64 m3, .int .i64 s3, .string t3, .bool b3, .int .i64 e3] := hS.bk 0 rfl rfl
        have f0 := kb.cell 0
        have f1 := kb.cell 1
        have f2 := kb.cell 2
        have f3 := kb.cell 3
        have f4 := kb.cell 4
        have f5 := kb.cell 5
        clear kb
        go_simp
        exact ⟨⟨fun d hd => by injection hd with hd; subst hd; rfl, fun h => by cases h⟩, hS, trivial⟩
    · as_aux_lemma =>
        intro vals a W hS hL
        have e59 : a.tmps.getD 59 undef = .agg #[.int .i64 k2, .int .i64 m2, .int .i64 s2, .string t2, .bool b2, .int .i64 e2] := hL.1
        have e60 : a.tmps.getD 60 undef = .agg #[.int .i64 k3, .int .i64 m3, .int .i64 s3, .string t3, .bool b3, .int .i64 e3] := hL.2.1
        clear hL
        go_simp
        refine (C2h.out W).mono ?_
        rintro e W' ⟨rfl, hb⟩
        exact ⟨_, rfl, ⟨fun d hd => by injection hd with hd; subst hd; rfl, fun h => by cases h⟩, hS.call hb, trivial⟩
    · as_aux_lemma =>
        intro vals a W hS hL
        have e3 : a.tmps.getD 3 undef = .pointer (some ⟨w.heap.size, 0, none⟩) := hL.1
        clear hL
        have kb : Bk W (w.heap.size) 25 #[.int .i64 k1, .int .i64 m1, .int .i64 s1, .string t1, .bool b1, .int .i64 e1] := hS.bk 2 rfl rfl
        have f0 := kb.cell 0
        have f1 := kb.cell 1
        have f2 := kb.cell 2
        have f3 := kb.cell 3
        have f4 := kb.cell 4
        have f5 := kb.cell 5
        clear kb
        go_simp
        exact ⟨⟨fun d hd => by injection hd with hd; subst hd; rfl, fun h => by cases h⟩, hS, trivial⟩
    · as_aux_lemma =>
        intro vals a W hS hL
        have e5 : a.tmps.getD 5 undef = .pointer (some ⟨w.heap.size + 2, 0, none⟩) := hL.1
        clear hL
        have kb : Bk W (w.heap.size + 2) 25 #[.int .i64 k3, .int .i64 m3, .int .i64 s3, .string t3, .bool b3, .int .i64 e3] := hS.bk 0 rfl rfl
        have f0 := kb.cell 0
        have f1 := kb.cell 1
        have f2 := kb.cell 2
        have f3 := kb.cell 3
        have f4 := kb.cell 4
        have f5 := kb.cell 5
        clear kb
        go_simp
        exact ⟨⟨fun d hd => by injection hd with hd; subst hd; rfl, fun h => by cases h⟩, hS, trivial⟩
    · as_aux_lemma =>
        intro vals a W hS hL
        have e62 : a.tmps.getD 62 undef = .agg #[.int .i64 k1, .int .i64 m1, .int .i64 s1, .string t1, .bool b1, .int .i64 e1] := hL.1
        have e63 : a.tmps.getD 63 undef = .agg #[.int .i64 k3, .int .i64 m3, .int .i64 s3, .string t3, .bool b3, .int .i64 e3] := hL.2.1
        clear hL
        go_simp
        refine (C3h.out W).mono ?_
        rintro e W' ⟨rfl, hb⟩
        exact ⟨_, rfl, ⟨fun d hd => by injection hd with hd; subst hd; rfl, fun h => by cases h⟩, hS.call hb, trivial⟩
    · as_aux_lemma =>
        intro vals a W hS hL
        have e58 : a.tmps.getD 58 undef = .int .i64 0 := hL.1
        clear hL
        go_simp
        exact ⟨⟨fun d hd => by injection hd with hd; subst hd; rfl, fun h => by cases h⟩, hS, trivial⟩
    · as_aux_lemma =>
        intro vals a W hS hL
        have e61 : a.tmps.getD 61 undef = .int .i64 (-1) := hL.1
        clear hL
        go_simp
        exact ⟨⟨fun d hd => by injection hd with hd; subst hd; rfl, fun h => by cases h⟩, hS, trivial⟩
    · as_aux_lemma =>
        intro vals a W hS hL
        have e64 : a.tmps.getD 64 undef = .int .i64 (-1) := hL.1
        clear hL
        go_simp
        exact ⟨⟨fun d hd => by injection hd with hd; subst hd; rfl, fun h => by cases h⟩, hS, trivial⟩
  · intro a W' vals hd hsz hT hF hv hP hS
    obtain rfl : vals = [] := List.eq_nil_of_length_eq_zero hv
    have hS2 : SX w 3 ([] : List Stp) [] ([(w.heap.size + 2, 25, #[.int .i64 k3, .int .i64 m3, .int .i64 s3, .string t3, .bool b3, .int .i64 e3]), (w.heap.size + 1, 25, #[.int .i64 k2, .int .i64 m2, .int .i64 s2, .string t2, .bool b2, .int .i64 e2]), (w.heap.size, 25, #[.int .i64 k1, .int .i64 m1, .int .i64 s1, .string t1, .bool b1, .int .i64 e1])] : List (Nat × TypeId × Array Value)) W' := hS
    clear hS
    have hB0 := hS2
    have hB : SB w 3 ([(w.heap.size + 2, 25, #[.int .i64 k3, .int .i64 m3, .int .i64 s3, .string t3, .bool b3, .int .i64 e3]), (w.heap.size + 1, 25, #[.int .i64 k2, .int .i64 m2, .int .i64 s2, .string t2, .bool b2, .int .i64 e2]), (w.heap.size, 25, #[.int .i64 k1, .int .i64 m1, .int .i64 s1, .string t1, .bool b1, .int .i64 e1])] : List (Nat × TypeId × Array Value)) W' := hB0
    clear hB0
    have e3 : a.tmps.getD 3 undef = .pointer (some ⟨w.heap.size, 0, none⟩) := hT 3 (by simp)
    have e4 : a.tmps.getD 4 undef = .pointer (some ⟨w.heap.size + 1, 0, none⟩) := hT 4 (by simp)
    have e5 : a.tmps.getD 5 undef = .pointer (some ⟨w.heap.size + 2, 0, none⟩) := hT 5 (by simp)
    have e7 : a.tmps.getD 7 undef = .int .i64 0 := hT 7 (by simp)
    have e8 : a.tmps.getD 8 undef = .int .i64 (-1) := hT 8 (by simp)
    have e9 : a.tmps.getD 9 undef = .int .i64 (-1) := hT 9 (by simp)
    clear hT hF hP
    rw [act_lit 101 a hd hsz]
    simp only [List.range, List.range.loop, List.map, e3, e4, e5, e7, e8, e9]
    clear hd hsz e3 e4 e5 e7 e8 e9
    have HB2 := Lib.hid hB
    clear hB HB C1h C2h C3h
    have ka := HB2.out.box (i := 2) rfl
    have ca0 := ka.cell 0
    have ca1 := ka.cell 1
    have ca2 := ka.cell 2
    have ca3 := ka.cell 3
    have ca4 := ka.cell 4
    have ca5 := ka.cell 5
    clear ka
    have kb := HB2.out.box (i := 1) rfl
    have cb0 := kb.cell 0
    have cb1 := kb.cell 1
    have cb2 := kb.cell 2
    have cb3 := kb.cell 3
    have cb4 := kb.cell 4
    have cb5 := kb.cell 5
    clear kb
    go_wp2_with fail
    refine (C4h.out _).mono ?_
    rintro x w8 ⟨rfl, hb⟩
    have HB3 := Lib.hid (HB2.out.call hb)
    clear hb HB2
    clear ca0 ca1 ca2 ca3 ca4 ca5 cb0 cb1 cb2 cb3 cb4 cb5
    have ka := HB3.out.box (i := 2) rfl
    have ca0 := ka.cell 0
    have ca1 := ka.cell 1
    have ca2 := ka.cell 2
    have ca3 := ka.cell 3
    have ca4 := ka.cell 4
    have ca5 := ka.cell 5
    clear ka
    have kb := HB3.out.box (i := 1) rfl
    have cb0 := kb.cell 0
    have cb1 := kb.cell 1
    have cb2 := kb.cell 2
    have cb3 := kb.cell 3
    have cb4 := kb.cell 4
    have cb5 := kb.cell 5
    clear kb
    go_wp2_with fail
    refine (C5h.out _).mono ?_
    rintro x w9 ⟨rfl, hb⟩
    have hbel := (HB3.out.call hb).bel
    clear hb HB3 C4h C5h
    clear ca0 ca1 ca2 ca3 ca4 ca5 cb0 cb1 cb2 cb3 cb4 cb5
    go_wp2
    go_ret
    exact ⟨rfl, hbel⟩

set_option maxRecDepth 20000 in
set_option maxHeartbeats 2000000 in
theorem order_zzm {w : World} {k1 m1 s1 : Int} {t1 : ByteArray} {b1 : Bool} {e1 : Int} {k2 m2 s2 : Int} {t2 : ByteArray} {b2 : Bool} {e2 : Int} {k3 m3 s3 : Int} {t3 : ByteArray} {b3 : Bool} {e3 : Int} (h1 : t1.size ≤ 1000) (h2 : t2.size ≤ 1000) (h3 : t3.size ≤ 1000) (K1 : ∀ W : World, Below w.heap.size w W → Calls Tryd.prog 7 #[.agg #[.int .i64 k1, .int .i64 m1, .int .i64 s1, .string t1, .bool b1, .int .i64 e1]] W fun x w' => x = .returned (.int .i64 0) ∧ Below W.heap.size W w') (K2 : ∀ W : World, Below w.heap.size w W → Calls Tryd.prog 7 #[.agg #[.int .i64 k2, .int .i64 m2, .int .i64 s2, .string t2, .bool b2, .int .i64 e2]] W fun x w' => x = .returned (.int .i64 0) ∧ Below W.heap.size W w') (K3 : ∀ W : World, Below w.heap.size w W → Calls Tryd.prog 7 #[.agg #[.int .i64 k3, .int .i64 m3, .int .i64 s3, .string t3, .bool b3, .int .i64 e3]] W fun x w' => x = .returned (.int .i64 0) ∧ Below W.heap.size W w') (hk1 : ¬ k1 = 0) (hk2 : ¬ k2 = 0) (hk3 : ¬ k3 = 0) (C1 : ∀ W : World, Calls Tryd.prog 8 #[.agg #[.int .i64 k1, .int .i64 m1, .int .i64 s1, .string t1, .bool b1, .int .i64 e1], .agg #[.int .i64 k2, .int .i64 m2, .int .i64 s2, .string t2, .bool b2, .int .i64 e2]] W fun x w' => x = .returned (.int .i64 0) ∧ Below W.heap.size W w') (C2 : ∀ W : World, Calls Tryd.prog 8 #[.agg #[.int .i64 k2, .int .i64 m2, .int .i64 s2, .string t2, .bool b2, .int .i64 e2], .agg #[.int .i64 k3, .int .i64 m3, .int .i64 s3, .string t3, .bool b3, .int .i64 e3]] W fun x w' => x = .returned (.int .i64 0) ∧ Below W.heap.size W w') (C3 : ∀ W : World, Calls Tryd.prog 8 #[.agg #[.int .i64 k1, .int .i64 m1, .int .i64 s1, .string t1, .bool b1, .int .i64 e1], .agg #[.int .i64 k3, .int .i64 m3, .int .i64 s3, .string t3, .bool b3, .int .i64 e3]] W fun x w' => x = .returned (.int .i64 (-1)) ∧ Below W.heap.size W w') (C4 : ∀ W : World, Calls Tryd.prog 8 #[.agg #[.int .i64 k2, .int .i64 m2, .int .i64 s2, .string t2, .bool b2, .int .i64 e2], .agg #[.int .i64 k1, .int .i64 m1, .int .i64 s1, .string t1, .bool b1, .int .i64 e1]] W fun x w' => x = .returned (.int .i64 0) ∧ Below W.heap.size W w') (C5 : ∀ W : World, Calls Tryd.prog 9 #[.agg #[.int .i64 k1, .int .i64 m1, .int .i64 s1, .string t1, .bool b1, .int .i64 e1], .agg #[.int .i64 k2, .int .i64 m2, .int .i64 s2, .string t2, .bool b2, .int .i64 e2]] W fun x w' => x = .returned (.bool true) ∧ Below W.heap.size W w') :
    Calls Tryd.prog 3 #[.agg #[.int .i64 k1, .int .i64 m1, .int .i64 s1, .string t1, .bool b1, .int .i64 e1], .agg #[.int .i64 k2, .int .i64 m2, .int .i64 s2, .string t2, .bool b2, .int .i64 e2], .agg #[.int .i64 k3, .int .i64 m3, .int .i64 s3, .string t3, .bool b3, .int .i64 e3]] w fun x w' => x = .returned (.bool true) ∧ Below w.heap.size w w' := by
  have HN := Lib.hid (fun W : World => known9_any (w := W))
  have h1' : ¬ (1000 : Int) < ((t1.size : Nat) : Int) := by omega
  clear h1
  have h2' : ¬ (1000 : Int) < ((t2.size : Nat) : Int) := by omega
  clear h2
  have h3' : ¬ (1000 : Int) < ((t3.size : Nat) : Int) := by omega
  clear h3
  have H1 := Lib.hid K1
  clear K1
  have H2 := Lib.hid K2
  clear K2
  have H3 := Lib.hid K3
  clear K3
  have hk1' : (k1 == 0) = false := beq_eq_false_iff_ne.2 hk1
  have hk2' : (k2 == 0) = false := beq_eq_false_iff_ne.2 hk2
  have hk3' : (k3 == 0) = false := beq_eq_false_iff_ne.2 hk3
  have C1h := Lib.hid C1
  clear C1
  have C2h := Lib.hid C2
  clear C2
  have C3h := Lib.hid C3
  clear C3
  have C4h := Lib.hid C4
  clear C4
  have C5h := Lib.hid C5
  clear C5
  have HB := Lib.hid (((sb1 w 25 #[.int .i64 k1, .int .i64 m1, .int .i64 s1, .string t1, .bool b1, .int .i64 e1]).push (by simp) 25 #[.int .i64 k2, .int .i64 m2, .int .i64 s2, .string t2, .bool b2, .int .i64 e2]).push (by simp) 25 #[.int .i64 k3, .int .i64 m3, .int .i64 s3, .string t3, .bool b3, .int .i64 e3])
  go_enter Tryd.func3, Tryd.ntmps3
  go_wp2_with fail
  refine (HN.out _).mono ?_
  rintro x w1 ⟨rfl, hb⟩
  have hB := HB.out.call hb
  clear hb HB
  have HB := Lib.hid hB
  clear hB
  have ka := HB.out.box (i := 2) rfl
  have ca0 := ka.cell 0
  have ca1 := ka.cell 1
  have ca2 := ka.cell 2
  have ca3 := ka.cell 3
  have ca4 := ka.cell 4
  have ca5 := ka.cell 5
  clear ka
  have kb := HB.out.box (i := 1) rfl
  have cb0 := kb.cell 0
  have cb1 := kb.cell 1
  have cb2 := kb.cell 2
  have cb3 := kb.cell 3
  have cb4 := kb.cell 4
  have cb5 := kb.cell 5
  clear kb
  have kc := HB.out.box (i := 0) rfl
  have cc0 := kc.cell 0
  have cc1 := kc.cell 1
  have cc2 := kc.cell 2
  have cc3 := kc.cell 3
  have cc4 := kc.cell 4
  have cc5 := kc.cell 5
  clear kc
  go_wp2_with fail
  refine (H1.out _ HB.out.bel).mono ?_
  rintro x w2 ⟨rfl, hb⟩
  have hB := HB.out.call hb
  clear hb HB
  have HB := Lib.hid hB
  clear hB
  clear ca0 ca1 ca2 ca3 ca4 ca5 cb0 cb1 cb2 cb3 cb4 cb5 cc0 cc1 cc2 cc3 cc4 cc5
  have ka := HB.out.box (i := 2) rfl
  have ca0 := ka.cell 0
  have ca1 := ka.cell 1
  have ca2 := ka.cell 2
  have ca3 := ka.cell 3
  have ca4 := ka.cell 4
  have ca5 := ka.cell 5
  clear ka
  have kb := HB.out.box (i := 1) rfl
  have cb0 := kb.cell 0
  have cb1 := kb.cell 1
  have cb2 := kb.cell 2
  have cb3 := kb.cell 3
  have cb4 := kb.cell 4
  have cb5 := kb.cell 5
  clear kb
  have kc := HB.out.box (i := 0) rfl
  have cc0 := kc.cell 0
  have cc1 := kc.cell 1
  have cc2 := kc.cell 2
  have cc3 := kc.cell 3
  have cc4 := kc.cell 4
  have cc5 := kc.cell 5
  clear kc
  go_wp2_with fail
  refine (H2.out _ HB.out.bel).mono ?_
  rintro x w3 ⟨rfl, hb⟩
  have hB := HB.out.call hb
  clear hb HB
  have HB := Lib.hid hB
  clear hB
  clear ca0 ca1 ca2 ca3 ca4 ca5 cb0 cb1 cb2 cb3 cb4 cb5 cc0 cc1 cc2 cc3 cc4 cc5
  have ka := HB.out.box (i := 2) rfl
  have ca0 := ka.cell 0
  have ca1 := ka.cell 1
  have ca2 := ka.cell 2
  have ca3 := ka.cell 3
  have ca4 := ka.cell 4
  have ca5 := ka.cell 5
  clear ka
  have kb := HB.out.box (i := 1) rfl
  have cb0 := kb.cell 0
  have cb1 := kb.cell 1
  have cb2 := kb.cell 2
  have cb3 := kb.cell 3
  have cb4 := kb.cell 4
  have cb5 := kb.cell 5
  clear kb
  have kc := HB.out.box (i := 0) rfl
  have cc0 := kc.cell 0
  have cc1 := kc.cell 1
  have cc2 := kc.cell 2
  have cc3 := kc.cell 3
  have cc4 := kc.cell 4
  have cc5 := kc.cell 5
  clear kc
  go_wp2_with fail
  refine (H3.out _ HB.out.bel).mono ?_
  rintro x w4 ⟨rfl, hb⟩
  have hB := HB.out.call hb
  clear hb HB
  have HB := Lib.hid hB
  clear hB
  clear ca0 ca1 ca2 ca3 ca4 ca5 cb0 cb1 cb2 cb3 cb4 cb5 cc0 cc1 cc2 cc3 cc4 cc5
  have ka := HB.out.box (i := 2) rfl
  have ca0 := ka.cell 0
  have ca1 := ka.cell 1
  have ca2 := ka.cell 2
  have ca3 := ka.cell 3
  have ca4 := ka.cell 4
  have ca5 := ka.cell 5
  clear ka
  have kb := HB.out.box (i := 1) rfl
  have cb0 := kb.cell 0
  have cb1 := kb.cell 1
  have cb2 := kb.cell 2
  have cb3 := kb.cell 3
  have cb4 := kb.cell 4
  have cb5 := kb.cell 5
  clear kb
  have kc := HB.out.box (i := 0) rfl
  have cc0 := kc.cell 0
  have cc1 := kc.cell 1
  have cc2 := kc.cell 2
  have cc3 := kc.cell 3
  have cc4 := kc.cell 4
  have cc5 := kc.cell 5
  clear kc
  clear HN H1 H2 H3
  go_wp2_with fail
  clear ca0 ca1 ca2 ca3 ca4 ca5 cb0 cb1 cb2 cb3 cb4 cb5 cc0 cc1 cc2 cc3 cc4 cc5
  refine wp_region_phases (S := (fun vals W => SX w 3 ([] : List Stp) vals ([(w.heap.size + 2, 25, #[.int .i64 k3, .int .i64 m3, .int .i64 s3, .string t3, .bool b3, .int .i64 e3]), (w.heap.size + 1, 25, #[.int .i64 k2, .int .i64 m2, .int .i64 s2, .string t2, .bool b2, .int .i64 e2]), (w.heap.size, 25, #[.int .i64 k1, .int .i64 m1, .int .i64 s1, .string t1, .bool b1, .int .i64 e1])] : List (Nat × TypeId × Array Value)) W)) (E := (fun _ _ => True)) [] [(3, Is (.pointer (some ⟨w.heap.size, 0, none⟩))), (4, Is (.pointer (some ⟨w.heap.size + 1, 0, none⟩))), (5, Is (.pointer (some ⟨w.heap.size + 2, 0, none⟩)))] [(56, Is (.agg #[.int .i64 k1, .int .i64 m1, .int .i64 s1, .string t1, .bool b1, .int .i64 e1])), (57, Is (.agg #[.int .i64 k2, .int .i64 m2, .int .i64 s2, .string t2, .bool b2, .int .i64 e2])), (58, Is (.int .i64 0)), (59, Is (.agg #[.int .i64 k2, .int .i64 m2, .int .i64 s2, .string t2, .bool b2, .int .i64 e2])), (60, Is (.agg #[.int .i64 k3, .int .i64 m3, .int .i64 s3, .string t3, .bool b3, .int .i64 e3])), (61, Is (.int .i64 0)), (62, Is (.agg #[.int .i64 k1, .int .i64 m1, .int .i64 s1, .string t1, .bool b1, .int .i64 e1])), (63, Is (.agg #[.int .i64 k3, .int .i64 m3, .int .i64 s3, .string t3, .bool b3, .int .i64 e3])), (64, Is (.int .i64 (-1))), (7, Is (.int .i64 0)), (8, Is (.int .i64 0)), (9, Is (.int .i64 (-1)))]
    [.op [3] none, .op [4] none, .op [56, 57] none, .op [4] none, .op [5] none, .op [59, 60] none, .op [3] none, .op [5] none, .op [62, 63] none, .op [58] none, .op [61] none, .op [64] none] (by as_aux_lemma => kernel_rfl) ?_ ?_ ?_ ?_ ?_ ⟨stable_is _ _, stable_is _ _, stable_is _ _, stable_is _ _, stable_is _ _, stable_is _ _, stable_is _ _, stable_is _ _, stable_is _ _, stable_is _ _, stable_is _ _, stable_is _ _, stable_is _ _, stable_is _ _, stable_is _ _, trivial⟩ ?_ (HB.out.drew) ?_ ?_
  · as_aux_lemma => kernel_rfl
  · as_aux_lemma => kernel_rfl
  · as_aux_lemma => kernel_rfl
  · as_aux_lemma => kernel_rfl
  · as_aux_lemma => kernel_rfl
  · exact ⟨rfl, rfl, rfl, trivial⟩
  · refine ⟨?_, ?_, ?_, ?_, ?_, ?_, ?_, ?_, ?_, ?_, ?_, ?_, trivial⟩
    · as_aux_lemma =>
        intro vals a W hS hL
        have e3 : a.tmps.getD 3 undef = .pointer (some ⟨w.heap.size, 0, none⟩) := hL.1
        clear hL
        have kb : Bk W (w.heap.size) 25 #[.int .i64 k1, .int .i64 m1, .int .i64 s1, .string t1, .bool b1, .int .i64 e1] := hS.bk 2 rfl rfl
        have f0 := kb.cell 0
        have f1 := kb.cell 1
        have f2 := kb.cell 2
        have f3 := kb.cell 3
        have f4 := kb.cell 4
        have f5 := kb.cell 5
        clear kb
        go_simp
        exact ⟨⟨fun d hd => by injection hd with hd; subst hd; rfl, fun h => by cases h⟩, hS, trivial⟩
    · as_aux_lemma =>
        intro vals a W hS hL
        have e4 : a.tmps.getD 4 undef = .pointer (some ⟨w.heap.size + 1, 0, none⟩) := hL.1
        clear hL
        have kb : Bk W (w.heap.size + 1) 25 #[.int .i64 k2, .int .i64 m2, .int .i64 s2, .string t2, .bool b2, .int .i64 e2] := hS.bk 1 rfl rfl
        have f0 := kb.cell 0
        have f1 := kb.cell 1
        have f2 := kb.cell 2
        have f3 := kb.cell 3
        have f4 := kb.cell 4
        have f5 := kb.cell 5
        clear kb
        go_simp
        exact ⟨⟨fun d hd => by injection hd with hd; subst hd; rfl, fun h => by cases h⟩, hS, trivial⟩
    · as_aux_lemma =>
        intro vals a W hS hL
        have e56 : a.tmps.getD 56 undef = .agg #[.int .i64 k1, .int .i64 m1, .int .i64 s1, .string t1, .bool b1, .int .i64 e1] := hL.1
        have e57 : a.tmps.getD 57 undef = .agg #[.int .i64 k2, .int .i64 m2, .int .i64 s2, .string t2, .bool b2, .int .i64 e2] := hL.2.1
        clear hL
        go_simp
        refine (C1h.out W).mono ?_
        rintro e W' ⟨rfl, hb⟩
        exact ⟨_, rfl, ⟨fun d hd => by injection hd with hd; subst hd; rfl, fun h => by cases h⟩, hS.call hb, trivial⟩
    · as_aux_lemma =>
        intro vals a W hS hL
        have e4 : a.tmps.getD 4 undef = .pointer (some ⟨w.heap.size + 1, 0, none⟩) := hL.1
        clear hL
        have kb : Bk W (w.heap.size + 1) 25 #[.int .i64 k2, .int .i64 m2, .int .i64 s2, .string t2, .bool b2, .int .i64 e2] := hS.bk 1 rfl rfl
        have f0 := kb.cell 0
        have f1 := kb.cell 1
        have f2 := kb.cell 2
        have f3 := kb.cell 3
        have f4 := kb.cell 4
        have f5 := kb.cell 5
        clear kb
        go_simp
        exact ⟨⟨fun d hd => by injection hd with hd; subst hd; rfl, fun h => by cases h⟩, hS, trivial⟩
    · as_aux_lemma =>
        intro vals a W hS hL
        have e5 : a.tmps.getD 5 undef = .pointer (some ⟨w.heap.size + 2, 0, none⟩) := hL.1
        clear hL
        have kb : Bk W (w.heap.size + 2) 25 #[.int .i64 k3, .int .i64 m3, .int .i64 s3, .string t3, .bool b3, .int .i64 e3] := hS.bk 0 rfl rfl
        have f0 := kb.cell 0
        have f1 := kb.cell 1
        have f2 := kb.cell 2
        have f3 := kb.cell 3
        have f4 := kb.cell 4
        have f5 := kb.cell 5
        clear kb
        go_simp
        exact ⟨⟨fun d hd => by injection hd with hd; subst hd; rfl, fun h => by cases h⟩, hS, trivial⟩
    · as_aux_lemma =>
        intro vals a W hS hL
        have e59 : a.tmps.getD 59 undef = .agg #[.int .i64 k2, .int .i64 m2, .int .i64 s2, .string t2, .bool b2, .int .i64 e2] := hL.1
        have e60 : a.tmps.getD 60 undef = .agg #[.int .i64 k3, .int .i64 m3, .int .i64 s3, .string t3, .bool b3, .int .i64 e3] := hL.2.1
        clear hL
        go_simp
        refine (C2h.out W).mono ?_
        rintro e W' ⟨rfl, hb⟩
        exact ⟨_, rfl, ⟨fun d hd => by injection hd with hd; subst hd; rfl, fun h => by cases h⟩, hS.call hb, trivial⟩
    · as_aux_lemma =>
        intro vals a W hS hL
        have e3 : a.tmps.getD 3 undef = .pointer (some ⟨w.heap.size, 0, none⟩) := hL.1
        clear hL
        have kb : Bk W (w.heap.size) 25 #[.int .i64 k1, .int .i64 m1, .int .i64 s1, .string t1, .bool b1, .int .i64 e1] := hS.bk 2 rfl rfl
        have f0 := kb.cell 0
        have f1 := kb.cell 1
        have f2 := kb.cell 2
        have f3 := kb.cell 3
        have f4 := kb.cell 4
        have f5 := kb.cell 5
        clear kb
        go_simp
        exact ⟨⟨fun d hd => by injection hd with hd; subst hd; rfl, fun h => by cases h⟩, hS, trivial⟩
    · as_aux_lemma =>
        intro vals a W hS hL
        have e5 : a.tmps.getD 5 undef = .pointer (some ⟨w.heap.size + 2, 0, none⟩) := hL.1
        clear hL
        have kb : Bk W (w.heap.size + 2) 25 #[.int .i64 k3, .int .i64 m3, .int .i64 s3, .string t3, .bool b3, .int .i64 e3] := hS.bk 0 rfl rfl
        have f0 := kb.cell 0
        have f1 := kb.cell 1
        have f2 := kb.cell 2
        have f3 := kb.cell 3
        have f4 := kb.cell 4
        have f5 := kb.cell 5
        clear kb
        go_simp
        exact ⟨⟨fun d hd => by injection hd with hd; subst hd; rfl, fun h => by cases h⟩, hS, trivial⟩
    · as_aux_lemma =>
        intro vals a W hS hL
        have e62 : a.tmps.getD 62 undef = .agg #[.int .i64 k1, .int .i64 m1, .int .i64 s1, .string t1, .bool b1, .int .i64 e1] := hL.1
        have e63 : a.tmps.getD 63 undef = .agg #[.int .i64 k3, .int .i64 m3, .int .i64 s3, .string t3, .bool b3, .int .i64 e3] := hL.2.1
        clear hL
        go_simp
        refine (C3h.out W).mono ?_
        rintro e W' ⟨rfl, hb⟩
        exact ⟨_, rfl, ⟨fun d hd => by injection hd with hd; subst hd; rfl, fun h => by cases h⟩, hS.call hb, trivial⟩
    · as_aux_lemma =>
        intro vals a W hS hL
        have e58 : a.tmps.getD 58 undef = .int .i64 0 := hL.1
        clear hL
        go_simp
        exact ⟨⟨fun d hd => by injection hd with hd; subst hd; rfl, fun h => by cases h⟩, hS, trivial⟩
    · as_aux_lemma =>
        intro vals a W hS hL
        have e61 : a.tmps.getD 61 undef = .int .i64 0 := hL.1
        clear hL
        go_simp
        exact ⟨⟨fun d hd => by injection hd with hd; subst hd; rfl, fun h => by cases h⟩, hS, trivial⟩
    · as_aux_lemma =>
        intro vals a W hS hL
        have e64 : a.tmps.getD 64 undef = .int .i64 (-1) := hL.1
        clear hL
        go_simp
        exact ⟨⟨fun d hd => by injection hd with hd; subst hd; rfl, fun h => by cases h⟩, hS, trivial⟩
  · intro a W' vals hd hsz hT hF hv hP hS
    obtain rfl : vals = [] := List.eq_nil_of_length_eq_zero hv
    have hS2 : SX w 3 ([] : List Stp) [] ([(w.heap.size + 2, 25, #[.int .i64 k3, .int .i64 m3, .int .i64 s3, .string t3, .bool b3, .int .i64 e3]), (w.heap.size + 1, 25, #[.int .i64 k2, .int .i64 m2, .int .i64 s2, .string t2, .bool b2, .int .i64 e2]), (w.heap.size, 25, #[.int .i64 k1, .int .i64 m1, .int .i64 s1, .string t1, .bool b1, .int .i64 e1])] : List (Nat × TypeId × Array Value)) W' := hS
    clear hS
    have hB0 := hS2
    have hB : SB w 3 ([(w.heap.size + 2, 25, #[.int .i64 k3, .int .i64 m3, .int .i64 s3, .string t3, .bool b3, .int .i64 e3]), (w.heap.size + 1, 25, #[.int .i64 k2, .int .i64 m2, .int .i64 s2, .string t2, .bool b2, .int .i64 e2]), (w.heap.size, 25, #[.int .i64 k1, .int .i64 m1, .int .i64 s1, .string t1, .bool b1, .int .i64 e1])] : List (Nat × TypeId × Array Value)) W' := hB0
    clear hB0
    have e3 : a.tmps.getD 3 undef = .pointer (some ⟨w.heap.size, 0, none⟩) := hT 3 (by simp)
    have e4 : a.tmps.getD 4 undef = .pointer (some ⟨w.heap.size + 1, 0, none⟩) := hT 4 (by simp)
    have e5 : a.tmps.getD 5 undef = .pointer (some ⟨w.heap.size + 2, 0, none⟩) := hT 5 (by simp)
    have e7 : a.tmps.getD 7 undef = .int .i64 0 := hT 7 (by simp)
    have e8 : a.tmps.getD 8 undef = .int .i64 0 := hT 8 (by simp)
    have e9 : a.tmps.getD 9 undef = .int .i64 (-1) := hT 9 (by simp)
    clear hT hF hP
    rw [act_lit 101 a hd hsz]
    simp only [List.range, List.range.loop, List.map, e3, e4, e5, e7, e8, e9]
    clear hd hsz e3 e4 e5 e7 e8 e9
    have HB2 := Lib.hid hB
    clear hB HB C1h C2h C3h
    have ka := HB2.out.box (i := 2) rfl
    have ca0 := ka.cell 0
    have ca1 := ka.cell 1
    have ca2 := ka.cell 2
    have ca3 := ka.cell 3
    have ca4 := ka.cell 4
    have ca5 := ka.cell 5
    clear ka
    have kb := HB2.out.box (i := 1) rfl
    have cb0 := kb.cell 0
    have cb1 := kb.cell 1
    have cb2 := kb.cell 2
    have cb3 := kb.cell 3
    have cb4 := kb.cell 4
    have cb5 := kb.cell 5
    clear kb
    go_wp2_with fail
    refine (C4h.out _).mono ?_
    rintro x w8 ⟨rfl, hb⟩
    have HB3 := Lib.hid (HB2.out.call hb)
    clear hb HB2
    clear ca0 ca1 ca2 ca3 ca4 ca5 cb0 cb1 cb2 cb3 cb4 cb5
    have ka := HB3.out.box (i := 2) rfl
    have ca0 := ka.cell 0
    have ca1 := ka.cell 1
    have ca2 := ka.cell 2
    have ca3 := ka.cell 3
    have ca4 := ka.cell 4
    have ca5 := ka.cell 5
    clear ka
    have kb := HB3.out.box (i := 1) rfl
    have cb0 := kb.cell 0
    have cb1 := kb.cell 1
    have cb2 := kb.cell 2
    have cb3 := kb.cell 3
    have cb4 := kb.cell 4
    have cb5 := kb.cell 5
    clear kb
    go_wp2_with fail
    refine (C5h.out _).mono ?_
    rintro x w9 ⟨rfl, hb⟩
    have hbel := (HB3.out.call hb).bel
    clear hb HB3 C4h C5h
    clear ca0 ca1 ca2 ca3 ca4 ca5 cb0 cb1 cb2 cb3 cb4 cb5
    go_wp2
    go_ret
    exact ⟨rfl, hbel⟩

set_option maxRecDepth 20000 in
set_option maxHeartbeats 2000000 in
theorem order_zzz {w : World} {k1 m1 s1 : Int} {t1 : ByteArray} {b1 : Bool} {e1 : Int} {k2 m2 s2 : Int} {t2 : ByteArray} {b2 : Bool} {e2 : Int} {k3 m3 s3 : Int} {t3 : ByteArray} {b3 : Bool} {e3 : Int} (h1 : t1.size ≤ 1000) (h2 : t2.size ≤ 1000) (h3 : t3.size ≤ 1000) (K1 : ∀ W : World, Below w.heap.size w W → Calls Tryd.prog 7 #[.agg #[.int .i64 k1, .int .i64 m1, .int .i64 s1, .string t1, .bool b1, .int .i64 e1]] W fun x w' => x = .returned (.int .i64 0) ∧ Below W.heap.size W w') (K2 : ∀ W : World, Below w.heap.size w W → Calls Tryd.prog 7 #[.agg #[.int .i64 k2, .int .i64 m2, .int .i64 s2, .string t2, .bool b2, .int .i64 e2]] W fun x w' => x = .returned (.int .i64 0) ∧ Below W.heap.size W w') (K3 : ∀ W : World, Below w.heap.size w W → Calls Tryd.prog 7 #[.agg #[.int .i64 k3, .int .i64 m3, .int .i64 s3, .string t3, .bool b3, .int .i64 e3]] W fun x w' => x = .returned (.int .i64 0) ∧ Below W.heap.size W w') (hk1 : ¬ k1 = 0) (hk2 : ¬ k2 = 0) (hk3 : ¬ k3 = 0) (C1 : ∀ W : World, Calls Tryd.prog 8 #[.agg #[.int .i64 k1, .int .i64 m1, .int .i64 s1, .string t1, .bool b1, .int .i64 e1], .agg #[.int .i64 k2, .int .i64 m2, .int .i64 s2, .string t2, .bool b2, .int .i64 e2]] W fun x w' => x = .returned (.int .i64 0) ∧ Below W.heap.size W w') (C2 : ∀ W : World, Calls Tryd.prog 8 #[.agg #[.int .i64 k2, .int .i64 m2, .int .i64 s2, .string t2, .bool b2, .int .i64 e2], .agg #[.int .i64 k3, .int .i64 m3, .int .i64 s3, .string t3, .bool b3, .int .i64 e3]] W fun x w' => x = .returned (.int .i64 0) ∧ Below W.heap.size W w') (C3 : ∀ W : World, Calls Tryd.prog 8 #[.agg #[.int .i64 k1, .int .i64 m1, .int .i64 s1, .string t1, .bool b1, .int .i64 e1], .agg #[.int .i64 k3, .int .i64 m3, .int .i64 s3, .string t3, .bool b3, .int .i64 e3]] W fun x w' => x = .returned (.int .i64 0) ∧ Below W.heap.size W w') (C4 : ∀ W : World, Calls Tryd.prog 8 #[.agg #[.int .i64 k2, .int .i64 m2, .int .i64 s2, .string t2, .bool b2, .int .i64 e2], .agg #[.int .i64 k1, .int .i64 m1, .int .i64 s1, .string t1, .bool b1, .int .i64 e1]] W fun x w' => x = .returned (.int .i64 0) ∧ Below W.heap.size W w') (C5 : ∀ W : World, Calls Tryd.prog 9 #[.agg #[.int .i64 k1, .int .i64 m1, .int .i64 s1, .string t1, .bool b1, .int .i64 e1], .agg #[.int .i64 k2, .int .i64 m2, .int .i64 s2, .string t2, .bool b2, .int .i64 e2]] W fun x w' => x = .returned (.bool true) ∧ Below W.heap.size W w') :
    Calls Tryd.prog 3 #[.agg #[.int .i64 k1, .int .i64 m1, .int .i64 s1, .string t1, .bool b1, .int .i64 e1], .agg #[.int .i64 k2, .int .i64 m2, .int .i64 s2, .string t2, .bool b2, .int .i64 e2], .agg #[.int .i64 k3, .int .i64 m3, .int .i64 s3, .string t3, .bool b3, .int .i64 e3]] w fun x w' => x = .returned (.bool true) ∧ Below w.heap.size w w' := by
  have HN := Lib.hid (fun W : World => known9_any (w := W))
  have h1' : ¬ (1000 : Int) < ((t1.size : Nat) : Int) := by omega
  clear h1
  have h2' : ¬ (1000 : Int) < ((t2.size : Nat) : Int) := by omega
  clear h2
  have h3' : ¬ (1000 : Int) < ((t3.size : Nat) : Int) := by omega
  clear h3
  have H1 := Lib.hid K1
  clear K1
  have H2 := Lib.hid K2
  clear K2
  have H3 := Lib.hid K3
  clear K3
  have hk1' : (k1 == 0) = false := beq_eq_false_iff_ne.2 hk1
  have hk2' : (k2 == 0) = false := beq_eq_false_iff_ne.2 hk2
  have hk3' : (k3 == 0) = false := beq_eq_false_iff_ne.2 hk3
  have C1h := Lib.hid C1
  clear C1
  have C2h := Lib.hid C2
  clear C2
  have C3h := Lib.hid C3
  clear C3
  have C4h := Lib.hid C4
  clear C4
  have C5h := Lib.hid C5
  clear C5
  have HB := Lib.hid (((sb1 w 25 #[.int .i64 k1, .int .i64 m1, .int .i64 s1, .string t1, .bool b1, .int .i64 e1]).push (by simp) 25 #[.int .i64 k2, .int .i64 m2, .int .i64 s2, .string t2, .bool b2, .int .i64 e2]).push (by simp) 25 #[.int .i64 k3, .int .i64 m3, .int .i64 s3, .string t3, .bool b3, .int .i64 e3])
  go_enter Tryd.func3, Tryd.ntmps3
  go_wp2_with fail
  refine (HN.out _).mono ?_
  rintro x w1 ⟨rfl, hb⟩
  have hB := HB.out.call hb
  clear hb HB
  have HB := Lib.hid hB
  clear hB
  have ka := HB.out.box (i := 2) rfl
  have ca0 := ka.cell 0
  have ca1 := ka.cell 1
  have ca2 := ka.cell 2
  have ca3 := ka.cell 3
  have ca4 := ka.cell 4
  have ca5 := ka.cell 5
  clear ka
  have kb := HB.out.box (i := 1) rfl
  have cb0 := kb.cell 0
  have cb1 := kb.cell 1
  have cb2 := kb.cell 2
  have cb3 := kb.cell 3
  have cb4 := kb.cell 4
  have cb5 := kb.cell 5
  clear kb
  have kc := HB.out.box (i := 0) rfl
  have cc0 := kc.cell 0
  have cc1 := kc.cell 1
  have cc2 := kc.cell 2
  have cc3 := kc.cell 3
  have cc4 := kc.cell 4
  have cc5 := kc.cell 5
  clear kc
  go_wp2_with fail
  refine (H1.out _ HB.out.bel).mono ?_
  rintro x w2 ⟨rfl, hb⟩
  have hB := HB.out.call hb
  clear hb HB
  have HB := Lib.hid hB
  clear hB
  clear ca0 ca1 ca2 ca3 ca4 ca5 cb0 cb1 cb2 cb3 cb4 cb5 cc0 cc1 cc2 cc3 cc4 cc5
  have ka := HB.out.box (i := 2) rfl
  have ca0 := ka.cell 0
  have ca1 := ka.cell 1
  have ca2 := ka.cell 2
  have ca3 := ka.cell 3
  have ca4 := ka.cell 4
  have ca5 := ka.cell 5
  clear ka
  have kb := HB.out.box (i := 1) rfl
  have cb0 := kb.cell 0
  have cb1 := kb.cell 1
  have cb2 := kb.cell 2
  have cb3 := kb.cell 3
  have cb4 := kb.cell 4
  have cb5 := kb.cell 5
  clear kb
  have kc := HB.out.box (i := 0) rfl
  have cc0 := kc.cell 0
  have cc1 := kc.cell 1
  have cc2 := kc.cell 2
  have cc3 := kc.cell 3
  have cc4 := kc.cell 4
  have cc5 := kc.cell 5
  clear kc
  go_wp2_with fail
  refine (H2.out _ HB.out.bel).mono ?_
  rintro x w3 ⟨rfl, hb⟩
  have hB := HB.out.call hb
  clear hb HB
  have HB := Lib.hid hB
  clear hB
  clear ca0 ca1 ca2 ca3 ca4 ca5 cb0 cb1 cb2 cb3 cb4 cb5 cc0 cc1 cc2 cc3 cc4 cc5
  have ka := HB.out.box (i := 2) rfl
  have ca0 := ka.cell 0
  have ca1 := ka.cell 1
  have ca2 := ka.cell 2
  have ca3 := ka.cell 3
  have ca4 := ka.cell 4
  have ca5 := ka.cell 5
  clear ka
  have kb := HB.out.box (i := 1) rfl
  have cb0 := kb.cell 0
  have cb1 := kb.cell 1
  have cb2 := kb.cell 2
  have cb3 := kb.cell 3
  have cb4 := kb.cell 4
  have cb5 := kb.cell 5
  clear kb
  have kc := HB.out.box (i := 0) rfl
  have cc0 := kc.cell 0
  have cc1 := kc.cell 1
  have cc2 := kc.cell 2
  have cc3 := kc.cell 3
  have cc4 := kc.cell 4
  have cc5 := kc.cell 5
  clear kc
  go_wp2_with fail
  refine (H3.out _ HB.out.bel).mono ?_
  rintro x w4 ⟨rfl, hb⟩
  have hB := HB.out.call hb
  clear hb HB
  have HB := Lib.hid hB
  clear hB
  clear ca0 ca1 ca2 ca3 ca4 ca5 cb0 cb1 cb2 cb3 cb4 cb5 cc0 cc1 cc2 cc3 cc4 cc5
  have ka := HB.out.box (i := 2) rfl
  have ca0 := ka.cell 0
  have ca1 := ka.cell 1
  have ca2 := ka.cell 2
  have ca3 := ka.cell 3
  have ca4 := ka.cell 4
  have ca5 := ka.cell 5
  clear ka
  have kb := HB.out.box (i := 1) rfl
  have cb0 := kb.cell 0
  have cb1 := kb.cell 1
  have cb2 := kb.cell 2
  have cb3 := kb.cell 3
  have cb4 := kb.cell 4
  have cb5 := kb.cell 5
  clear kb
  have kc := HB.out.box (i := 0) rfl
  have cc0 := kc.cell 0
  have cc1 := kc.cell 1
  have cc2 := kc.cell 2
  have cc3 := kc.cell 3
  have cc4 := kc.cell 4
  have cc5 := kc.cell 5
  clear kc
  clear HN H1 H2 H3
  go_wp2_with fail
  clear ca0 ca1 ca2 ca3 ca4 ca5 cb0 cb1 cb2 cb3 cb4 cb5 cc0 cc1 cc2 cc3 cc4 cc5
  refine wp_region_phases (S := (fun vals W => SX w 3 ([] : List Stp) vals ([(w.heap.size + 2, 25, #[.int .i64 k3, .int .i64 m3, .int .i64 s3, .string t3, .bool b3, .int .i64 e3]), (w.heap.size + 1, 25, #[.int .i64 k2, .int .i64 m2, .int .i64 s2, .string t2, .bool b2, .int .i64 e2]), (w.heap.size, 25, #[.int .i64 k1, .int .i64 m1, .int .i64 s1, .string t1, .bool b1, .int .i64 e1])] : List (Nat × TypeId × Array Value)) W)) (E := (fun _ _ => True)) [] [(3, Is (.pointer (some ⟨w.heap.size, 0, none⟩))), (4, Is (.pointer (some ⟨w.heap.size + 1, 0, none⟩))), (5, Is (.pointer (some ⟨w.heap.size + 2, 0, none⟩)))] [(56, Is (.agg #[.int .i64 k1, .int .i64 m1, .int .i64 s1, .string t1, .bool b1, .int .i64 e1])), (57, Is (.agg #[.int .i64 k2, .int .i64 m2, .int .i64 s2, .string t2, .bool b2, .int .i64 e2])), (58, Is (.int .i64 0)), (59, Is (.agg #[.int .i64 k2, .int .i64 m2, .int .i64 s2, .string t2, .bool b2, .int .i64 e2])), (60, Is (.agg #[.int .i64 k3, .int .i64 m3, .int .i64 s3, .string t3, .bool b3, .int .i64 e3])), (61, Is (.int .i64 0)), (62, Is (.agg #[.int .i64 k1, .int .i64 m1, .int .i64 s1, .string t1, .bool b1, .int .i64 e1])), (63, Is (.agg #[.int .i64 k3, .int .i64 m3, .int .i64 s3, .string t3, .bool b3, .int .i64 e3])), (64, Is (.int .i64 0)), (7, Is (.int .i64 0)), (8, Is (.int .i64 0)), (9, Is (.int .i64 0))]
    [.op [3] none, .op [4] none, .op [56, 57] none, .op [4] none, .op [5] none, .op [59, 60] none, .op [3] none, .op [5] none, .op [62, 63] none, .op [58] none, .op [61] none, .op [64] none] (by as_aux_lemma => kernel_rfl) ?_ ?_ ?_ ?_ ?_ ⟨stable_is _ _, stable_is _ _, stable_is _ _, stable_is _ _, stable_is _ _, stable_is _ _, stable_is _ _, stable_is _ _, stable_is _ _, stable_is _ _, stable_is _ _, stable_is _ _, stable_is _ _, stable_is _ _, stable_is _ _, trivial⟩ ?_ (HB.out.drew) ?_ ?_
  · as_aux_lemma => kernel_rfl
  · as_aux_lemma => kernel_rfl
  · as_aux_lemma => kernel_rfl
  · as_aux_lemma => kernel_rfl
  · as_aux_lemma => kernel_rfl
  · exact ⟨rfl, rfl, rfl, trivial⟩
  · refine ⟨?_, ?_, ?_, ?_, ?_, ?_, ?_, ?_, ?_, ?_, ?_, ?_, trivial⟩
    · as_aux_lemma =>
        intro vals a W hS hL
        have e3 : a.tmps.getD 3 undef = .pointer (some ⟨w.heap.size, 0, none⟩) := hL.1
        clear hL
        have kb : Bk W (w.heap.size) 25 #[.int .i64 k1, .int .i64 m1, .int .i64 s1, .string t1, .bool b1, .int .i64 e1] := hS.bk 2 rfl rfl
        have f0 := kb.cell 0
        have f1 := kb.cell 1
        have f2 := kb.cell 2
        have f3 := kb.cell 3
        have f4 := kb.cell 4
        have f5 := kb.cell 5
        clear kb
        go_simp
        exact ⟨⟨fun d hd => by injection hd with hd; subst hd; rfl, fun h => by cases h⟩, hS, trivial⟩
    · as_aux_lemma =>
        intro vals a W hS hL
        have e4 : a.tmps.getD 4 undef = .pointer (some ⟨w.heap.size + 1, 0, none⟩) := hL.1
        clear hL
        have kb : Bk W (w.heap.size + 1) 25 #[.int .i64 k2, .int .i64 m2, .int .i64 s2, .string t2, .bool b2, .int .i64 e2] := hS.bk 1 rfl rfl
        have f0 := kb.cell 0
        have f1 := kb.cell 1
        have f2 := kb.cell 2
        have f3 := kb.cell 3
        have f4 := kb.cell 4
        have f5 := kb.cell 5
        clear kb
        go_simp
        exact ⟨⟨fun d hd => by injection hd with hd; subst hd; rfl, fun h => by cases h⟩, hS, trivial⟩
    · as_aux_lemma =>
        intro vals a W hS hL
        have e56 : a.tmps.getD 56 undef = .agg #[.int .i64 k1, .int .i64 m1, .int .i64 s1, .string t1, .bool b1, .int .i64 e1] := hL.1
        have e57 : a.tmps.getD 57 undef = .agg #[.int .i64 k2, .int .i64 m2, .int .i64 s2, .string t2, .bool b2, .int .i64 e2] := hL.2.1
        clear hL
        go_simp
        refine (C1h.out W).mono ?_
        rintro e W' ⟨rfl, hb⟩
        exact ⟨_, rfl, ⟨fun d hd => by injection hd with hd; subst hd; rfl, fun h => by cases h⟩, hS.call hb, trivial⟩
    · as_aux_lemma =>
        intro vals a W hS hL
        have e4 : a.tmps.getD 4 undef = .pointer (some ⟨w.heap.size + 1, 0, none⟩) := hL.1
        clear hL
        have kb : Bk W (w.heap.size + 1) 25 #[.int .i64 k2, .int .i64 m2, .int .i64 s2, .string t2, .bool b2, .int .i64 e2] := hS.bk 1 rfl rfl
        have f0 := kb.cell 0
        have f1 := kb.cell 1
        have f2 := kb.cell 2
        have f3 := kb.cell 3
        have f4 := kb.cell 4
        have f5 := kb.cell 5
        clear kb
        go_simp
        exact ⟨⟨fun d hd => by injection hd with hd; subst hd; rfl, fun h => by cases h⟩, hS, trivial⟩
    · as_aux_lemma =>
        intro vals a W hS hL
        have e5 : a.tmps.getD 5 undef = .pointer (some ⟨w.heap.size + 2, 0, none⟩) := hL.1
        clear hL
        have kb : Bk W (w.heap.size + 2) 25 #[.int .i64 k3, .int .i64 m3, .int .i64 s3, .string t3, .bool b3, .int .i64 e3] := hS.bk 0 rfl rfl
        have f0 := kb.cell 0
        have f1 := kb.cell 1
        have f2 := kb.cell 2
        have f3 := kb.cell 3
        have f4 := kb.cell 4
        have f5 := kb.cell 5
        clear kb
        go_simp
        exact ⟨⟨fun d hd => by injection hd with hd; subst hd; rfl, fun h => by cases h⟩, hS, trivial⟩
    · as_aux_lemma =>
        intro vals a W hS hL
        have e59 : a.tmps.getD 59 undef = .agg #[.int .i64 k2, .int .i64 m2, .int .i64 s2, .string t2, .bool b2, .int .i64 e2] := hL.1
        have e60 : a.tmps.getD 60 undef = .agg #[.int .i64 k3, .int .i64 m3, .int .i64 s3, .string t3, .bool b3, .int .i64 e3] := hL.2.1
        clear hL
        go_simp
        refine (C2h.out W).mono ?_
        rintro e W' ⟨rfl, hb⟩
        exact ⟨_, rfl, ⟨fun d hd => by injection hd with hd; subst hd; rfl, fun h => by cases h⟩, hS.call hb, trivial⟩
    · as_aux_lemma =>
        intro vals a W hS hL
        have e3 : a.tmps.getD 3 undef = .pointer (some ⟨w.heap.size, 0, none⟩) := hL.1
        clear hL
        have kb : Bk W (w.heap.size) 25 #[.int .i64 k1, .int .i64 m1, .int .i64 s1, .string t1, .bool b1, .int .i64 e1] := hS.bk 2 rfl rfl
        have f0 := kb.cell 0
        have f1 := kb.cell 1
        have f2 := kb.cell 2
        have f3 := kb.cell 3
        have f4 := kb.cell 4
        have f5 := kb.cell 5
        clear kb
        go_simp
        exact ⟨⟨fun d hd => by injection hd with hd; subst hd; rfl, fun h => by cases h⟩, hS, trivial⟩
    · as_aux_lemma =>
        intro vals a W hS hL
        have e5 : a.tmps.getD 5 undef = .pointer (some ⟨w.heap.size + 2, 0, none⟩) := hL.1
        clear hL
        have kb : Bk W (w.heap.size + 2) 25 #[.int .i64 k3, .int .i64 m3, .int .i64 s3, .string t3, .bool b3, .int .i64 e3] := hS.bk 0 rfl rfl
        have f0 := kb.cell 0
        have f1 := kb.cell 1
        have f2 := kb.cell 2
        have f3 := kb.cell 3
        have f4 := kb.cell 4
        have f5 := kb.cell 5
        clear kb
        go_simp
        exact ⟨⟨fun d hd => by injection hd with hd; subst hd; rfl, fun h => by cases h⟩, hS, trivial⟩
    · as_aux_lemma =>
        intro vals a W hS hL
        have e62 : a.tmps.getD 62 undef = .agg #[.int .i64 k1, .int .i64 m1, .int .i64 s1, .string t1, .bool b1, .int .i64 e1] := hL.1
        have e63 : a.tmps.getD 63 undef = .agg #[.int .i64 k3, .int .i64 m3, .int .i64 s3, .string t3, .bool b3, .int .i64 e3] := hL.2.1
        clear hL
        go_simp
        refine (C3h.out W).mono ?_
        rintro e W' ⟨rfl, hb⟩
        exact ⟨_, rfl, ⟨fun d hd => by injection hd with hd; subst hd; rfl, fun h => by cases h⟩, hS.call hb, trivial⟩
    · as_aux_lemma =>
        intro vals a W hS hL
        have e58 : a.tmps.getD 58 undef = .int .i64 0 := hL.1
        clear hL
        go_simp
        exact ⟨⟨fun d hd => by injection hd with hd; subst hd; rfl, fun h => by cases h⟩, hS, trivial⟩
    · as_aux_lemma =>
        intro vals a W hS hL
        have e61 : a.tmps.getD 61 undef = .int .i64 0 := hL.1
        clear hL
        go_simp
        exact ⟨⟨fun d hd => by injection hd with hd; subst hd; rfl, fun h => by cases h⟩, hS, trivial⟩
    · as_aux_lemma =>
        intro vals a W hS hL
        have e64 : a.tmps.getD 64 undef = .int .i64 0 := hL.1
        clear hL
        go_simp
        exact ⟨⟨fun d hd => by injection hd with hd; subst hd; rfl, fun h => by cases h⟩, hS, trivial⟩
  · intro a W' vals hd hsz hT hF hv hP hS
    obtain rfl : vals = [] := List.eq_nil_of_length_eq_zero hv
    have hS2 : SX w 3 ([] : List Stp) [] ([(w.heap.size + 2, 25, #[.int .i64 k3, .int .i64 m3, .int .i64 s3, .string t3, .bool b3, .int .i64 e3]), (w.heap.size + 1, 25, #[.int .i64 k2, .int .i64 m2, .int .i64 s2, .string t2, .bool b2, .int .i64 e2]), (w.heap.size, 25, #[.int .i64 k1, .int .i64 m1, .int .i64 s1, .string t1, .bool b1, .int .i64 e1])] : List (Nat × TypeId × Array Value)) W' := hS
    clear hS
    have hB0 := hS2
    have hB : SB w 3 ([(w.heap.size + 2, 25, #[.int .i64 k3, .int .i64 m3, .int .i64 s3, .string t3, .bool b3, .int .i64 e3]), (w.heap.size + 1, 25, #[.int .i64 k2, .int .i64 m2, .int .i64 s2, .string t2, .bool b2, .int .i64 e2]), (w.heap.size, 25, #[.int .i64 k1, .int .i64 m1, .int .i64 s1, .string t1, .bool b1, .int .i64 e1])] : List (Nat × TypeId × Array Value)) W' := hB0
    clear hB0
    have e3 : a.tmps.getD 3 undef = .pointer (some ⟨w.heap.size, 0, none⟩) := hT 3 (by simp)
    have e4 : a.tmps.getD 4 undef = .pointer (some ⟨w.heap.size + 1, 0, none⟩) := hT 4 (by simp)
    have e5 : a.tmps.getD 5 undef = .pointer (some ⟨w.heap.size + 2, 0, none⟩) := hT 5 (by simp)
    have e7 : a.tmps.getD 7 undef = .int .i64 0 := hT 7 (by simp)
    have e8 : a.tmps.getD 8 undef = .int .i64 0 := hT 8 (by simp)
    have e9 : a.tmps.getD 9 undef = .int .i64 0 := hT 9 (by simp)
    clear hT hF hP
    rw [act_lit 101 a hd hsz]
    simp only [List.range, List.range.loop, List.map, e3, e4, e5, e7, e8, e9]
    clear hd hsz e3 e4 e5 e7 e8 e9
    have HB2 := Lib.hid hB
    clear hB HB C1h C2h C3h
    have ka := HB2.out.box (i := 2) rfl
    have ca0 := ka.cell 0
    have ca1 := ka.cell 1
    have ca2 := ka.cell 2
    have ca3 := ka.cell 3
    have ca4 := ka.cell 4
    have ca5 := ka.cell 5
    clear ka
    have kb := HB2.out.box (i := 1) rfl
    have cb0 := kb.cell 0
    have cb1 := kb.cell 1
    have cb2 := kb.cell 2
    have cb3 := kb.cell 3
    have cb4 := kb.cell 4
    have cb5 := kb.cell 5
    clear kb
    go_wp2_with fail
    refine (C4h.out _).mono ?_
    rintro x w8 ⟨rfl, hb⟩
    have HB3 := Lib.hid (HB2.out.call hb)
    clear hb HB2
    clear ca0 ca1 ca2 ca3 ca4 ca5 cb0 cb1 cb2 cb3 cb4 cb5
    have ka := HB3.out.box (i := 2) rfl
    have ca0 := ka.cell 0
    have ca1 := ka.cell 1
    have ca2 := ka.cell 2
    have ca3 := ka.cell 3
    have ca4 := ka.cell 4
    have ca5 := ka.cell 5
    clear ka
    have kb := HB3.out.box (i := 1) rfl
    have cb0 := kb.cell 0
    have cb1 := kb.cell 1
    have cb2 := kb.cell 2
    have cb3 := kb.cell 3
    have cb4 := kb.cell 4
    have cb5 := kb.cell 5
    clear kb
    go_wp2_with fail
    refine (C5h.out _).mono ?_
    rintro x w9 ⟨rfl, hb⟩
    have hbel := (HB3.out.call hb).bel
    clear hb HB3 C4h C5h
    clear ca0 ca1 ca2 ca3 ca4 ca5 cb0 cb1 cb2 cb3 cb4 cb5
    go_wp2
    go_ret
    exact ⟨rfl, hbel⟩

end Go.Proofs.YtmbjmgmnicacpaaDoor
