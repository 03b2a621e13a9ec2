/- cashbooklaw9.ValTruths by its contract: it returns true. Condition: utf8.ValidString and strconv.FormatUint keep their contracts; a text's length is one. -/
import Derived.Test.YtmbjmgmnicacpaaDoorKnown9
import Derived.Test.YtmbjmgmnicacpaaDoorV5
namespace Go.Proofs.YtmbjmgmnicacpaaDoor
open Go.RowKit

set_option maxRecDepth 20000 in
set_option maxHeartbeats 2000000 in
theorem truths_long {w : World} (k m s : Int) (t : ByteArray) (b : Bool) (e : Int) (h : 1000 < t.size) :
    Calls Tryd.prog 5 #[.agg #[.int .i64 k, .int .i64 m, .int .i64 s, .string t, .bool b, .int .i64 e]] w fun x w' => x = .returned (.bool true) ∧ Below w.heap.size w w' := by
  have HN := Lib.hid (fun W : World => known9_any (w := W))
  have h' : (1000 : Int) < ((t.size : Nat) : Int) := by omega
  clear h
  have HB := Lib.hid (sb1 w 25 #[.int .i64 k, .int .i64 m, .int .i64 s, .string t, .bool b, .int .i64 e])
  go_enter Tryd.func5, Tryd.ntmps5
  go_wp2_with fail
  refine (HN.out _).mono ?_
  rintro x w1 ⟨rfl, hb⟩
  have hB := HB.out.call hb
  clear hb HB
  have HB := Lib.hid hB
  clear hB
  have kv := HB.out.box (i := 0) rfl
  have cv0 := kv.cell 0
  have cv1 := kv.cell 1
  have cv2 := kv.cell 2
  have cv3 := kv.cell 3
  have cv4 := kv.cell 4
  have cv5 := kv.cell 5
  clear kv
  have hbel := HB.out.bel
  clear HB
  go_wp2
  go_ret
  exact ⟨rfl, hbel⟩

set_option maxRecDepth 20000 in
set_option maxHeartbeats 2000000 in
theorem truths_bad {w : World} (k m s : Int) (t : ByteArray) (b : Bool) (e : Int) (E : Int) (h : t.size ≤ 1000) (hE : ¬ E = 0) (HK : ∀ W : World, Below w.heap.size w W → Calls Tryd.prog 7 #[.agg #[.int .i64 k, .int .i64 m, .int .i64 s, .string t, .bool b, .int .i64 e]] W fun x w' => x = .returned (.int .i64 E) ∧ Below W.heap.size W w') :
    Calls Tryd.prog 5 #[.agg #[.int .i64 k, .int .i64 m, .int .i64 s, .string t, .bool b, .int .i64 e]] w fun x w' => x = .returned (.bool true) ∧ Below w.heap.size w w' := by
  have HN := Lib.hid (fun W : World => known9_any (w := W))
  have h' : ¬ (1000 : Int) < ((t.size : Nat) : Int) := by omega
  have hE' : (E != 0) = true := bne_iff_ne.2 hE
  clear h hE
  have HC := Lib.hid HK
  clear HK
  have HB := Lib.hid (sb1 w 25 #[.int .i64 k, .int .i64 m, .int .i64 s, .string t, .bool b, .int .i64 e])
  go_enter Tryd.func5, Tryd.ntmps5
  go_wp2_with fail
  refine (HN.out _).mono ?_
  rintro x w1 ⟨rfl, hb⟩
  have hB := HB.out.call hb
  clear hb HB
  have HB := Lib.hid hB
  clear hB
  have kv := HB.out.box (i := 0) rfl
  have cv0 := kv.cell 0
  have cv1 := kv.cell 1
  have cv2 := kv.cell 2
  have cv3 := kv.cell 3
  have cv4 := kv.cell 4
  have cv5 := kv.cell 5
  clear kv
  go_wp2_with fail
  refine (HC.out _ HB.out.bel).mono ?_
  rintro x w2 ⟨rfl, hb⟩
  have hB := HB.out.call hb
  clear hb HB
  have HB := Lib.hid hB
  clear hB
  clear cv0 cv1 cv2 cv3 cv4 cv5
  have hbel := HB.out.bel
  clear HB
  go_wp2
  go_ret
  exact ⟨rfl, hbel⟩

set_option maxRecDepth 20000 in
set_option maxHeartbeats 2000000 in
theorem truths_err {w : World} (e : Int) (HK : ∀ W : World, Below w.heap.size w W → Calls Tryd.prog 7 #[.agg #[.int .i64 4, .int .i64 0, .int .i64 0, .string ⟨#[]⟩, .bool false, .int .i64 e]] W fun x w' => x = .returned (.int .i64 0) ∧ Below W.heap.size W w') (K1 : ∀ W : World, Calls Tryd.prog 12 #[.agg #[.int .i64 4, .int .i64 0, .int .i64 0, .string ⟨#[]⟩, .bool false, .int .i64 e]] W fun x w' => x = .returned (.tuple #[.bool false, .agg #[.int .i64 4, .int .i64 0, .int .i64 0, .string ⟨#[]⟩, .bool false, .int .i64 e], .bool false]) ∧ Below W.heap.size W w') (K2 : ∀ W : World, Below w.heap.size w W → Calls Tryd.prog 13 #[.agg #[.int .i64 4, .int .i64 0, .int .i64 0, .string ⟨#[]⟩, .bool false, .int .i64 e]] W fun x w' => x = .returned (.tuple #[.string ⟨#[]⟩, .agg #[.int .i64 4, .int .i64 0, .int .i64 0, .string ⟨#[]⟩, .bool false, .int .i64 e], .bool false]) ∧ Below W.heap.size W w') :
    Calls Tryd.prog 5 #[.agg #[.int .i64 4, .int .i64 0, .int .i64 0, .string ⟨#[]⟩, .bool false, .int .i64 e]] w fun x w' => x = .returned (.bool true) ∧ Below w.heap.size w w' := by
  have HN := Lib.hid (fun W : World => known9_any (w := W))
  have HC := Lib.hid HK
  have H1 := Lib.hid K1
  have H2 := Lib.hid K2
  clear HK K1 K2
  have HB := Lib.hid (sb1 w 25 #[.int .i64 4, .int .i64 0, .int .i64 0, .string ⟨#[]⟩, .bool false, .int .i64 e])
  go_enter Tryd.func5, Tryd.ntmps5
  go_wp2_with fail
  refine (HN.out _).mono ?_
  rintro x w1 ⟨rfl, hb⟩
  have hB := HB.out.call hb
  clear hb HB
  have HB := Lib.hid hB
  clear hB
  have kv := HB.out.box (i := 0) rfl
  have cv0 := kv.cell 0
  have cv1 := kv.cell 1
  have cv2 := kv.cell 2
  have cv3 := kv.cell 3
  have cv4 := kv.cell 4
  have cv5 := kv.cell 5
  clear kv
  go_wp2_with fail
  refine (HC.out _ HB.out.bel).mono ?_
  rintro x w2 ⟨rfl, hb⟩
  have hB := HB.out.call hb
  clear hb HB
  have HB := Lib.hid hB
  clear hB
  clear cv0 cv1 cv2 cv3 cv4 cv5
  have kv := HB.out.box (i := 0) rfl
  have cv0 := kv.cell 0
  have cv1 := kv.cell 1
  have cv2 := kv.cell 2
  have cv3 := kv.cell 3
  have cv4 := kv.cell 4
  have cv5 := kv.cell 5
  clear kv
  go_wp2_with fail
  refine (H1.out _).mono ?_
  rintro x w3 ⟨rfl, hb⟩
  have hB := HB.out.call hb
  clear hb HB
  have HB := Lib.hid hB
  clear hB
  have hB := HB.out.alloc 25 #[.int .i64 4, .int .i64 0, .int .i64 0, .string ⟨#[]⟩, .bool false, .int .i64 e]
  clear HB
  have HB := Lib.hid hB
  clear hB
  clear cv0 cv1 cv2 cv3 cv4 cv5
  have kv := HB.out.box (i := 1) rfl
  have cv0 := kv.cell 0
  have cv1 := kv.cell 1
  have cv2 := kv.cell 2
  have cv3 := kv.cell 3
  have cv4 := kv.cell 4
  have cv5 := kv.cell 5
  clear kv
  go_wp2_with fail
  refine (H2.out _ HB.out.bel).mono ?_
  rintro x w4 ⟨rfl, hb⟩
  have hB := HB.out.call hb
  clear hb HB
  have HB := Lib.hid hB
  clear hB
  have hB := HB.out.alloc 25 #[.int .i64 4, .int .i64 0, .int .i64 0, .string ⟨#[]⟩, .bool false, .int .i64 e]
  clear HB
  have HB := Lib.hid hB
  clear hB
  clear cv0 cv1 cv2 cv3 cv4 cv5
  have kv := HB.out.box (i := 2) rfl
  have cv0 := kv.cell 0
  have cv1 := kv.cell 1
  have cv2 := kv.cell 2
  have cv3 := kv.cell 3
  have cv4 := kv.cell 4
  have cv5 := kv.cell 5
  clear kv
  have ky := HB.out.box (i := 1) rfl
  have cy0 := ky.cell 0
  have cy1 := ky.cell 1
  have cy2 := ky.cell 2
  have cy3 := ky.cell 3
  have cy4 := ky.cell 4
  have cy5 := ky.cell 5
  clear ky
  have hbel := HB.out.bel
  clear HB
  go_wp2
  go_ret
  exact ⟨rfl, hbel⟩

set_option maxRecDepth 20000 in
set_option maxHeartbeats 2000000 in
theorem truths_blank {w : World}  (HK : ∀ W : World, Below w.heap.size w W → Calls Tryd.prog 7 #[.agg #[.int .i64 0, .int .i64 0, .int .i64 0, .string ⟨#[]⟩, .bool false, .int .i64 0]] W fun x w' => x = .returned (.int .i64 0) ∧ Below W.heap.size W w') (K1 : ∀ W : World, Calls Tryd.prog 12 #[.agg #[.int .i64 0, .int .i64 0, .int .i64 0, .string ⟨#[]⟩, .bool false, .int .i64 0]] W fun x w' => x = .returned (.tuple #[.bool false, .agg #[.int .i64 0, .int .i64 0, .int .i64 0, .string ⟨#[]⟩, .bool false, .int .i64 0], .bool true]) ∧ Below W.heap.size W w') (K2 : ∀ W : World, Below w.heap.size w W → Calls Tryd.prog 13 #[.agg #[.int .i64 0, .int .i64 0, .int .i64 0, .string ⟨#[]⟩, .bool false, .int .i64 0]] W fun x w' => x = .returned (.tuple #[.string ⟨#[]⟩, .agg #[.int .i64 0, .int .i64 0, .int .i64 0, .string ⟨#[]⟩, .bool false, .int .i64 0], .bool true]) ∧ Below W.heap.size W w') (K3 : ∀ W : World, Calls Tryd.prog 12 #[.agg #[.int .i64 2, .int .i64 0, .int .i64 0, .string ⟨#[]⟩, .bool false, .int .i64 0]] W fun x w' => x = .returned (.tuple #[.bool false, .agg #[.int .i64 4, .int .i64 0, .int .i64 0, .string ⟨#[]⟩, .bool false, .int .i64 15], .bool false]) ∧ Below W.heap.size W w') :
    Calls Tryd.prog 5 #[.agg #[.int .i64 0, .int .i64 0, .int .i64 0, .string ⟨#[]⟩, .bool false, .int .i64 0]] w fun x w' => x = .returned (.bool true) ∧ Below w.heap.size w w' := by
  have HN := Lib.hid (fun W : World => known9_any (w := W))
  have HC := Lib.hid HK
  have H1 := Lib.hid K1
  have H2 := Lib.hid K2
  clear HK K1 K2
  have H3 := Lib.hid K3
  clear K3
  have HS := Lib.hid (fun (W : World) (q : ByteArray) => lS_any (w := W) q)
  have HB := Lib.hid (sb1 w 25 #[.int .i64 0, .int .i64 0, .int .i64 0, .string ⟨#[]⟩, .bool false, .int .i64 0])
  go_enter Tryd.func5, Tryd.ntmps5
  go_wp2_with fail
  refine (HN.out _).mono ?_
  rintro x w1 ⟨rfl, hb⟩
  have hB := HB.out.call hb
  clear hb HB
  have HB := Lib.hid hB
  clear hB
  have kv := HB.out.box (i := 0) rfl
  have cv0 := kv.cell 0
  have cv1 := kv.cell 1
  have cv2 := kv.cell 2
  have cv3 := kv.cell 3
  have cv4 := kv.cell 4
  have cv5 := kv.cell 5
  clear kv
  go_wp2_with fail
  refine (HC.out _ HB.out.bel).mono ?_
  rintro x w2 ⟨rfl, hb⟩
  have hB := HB.out.call hb
  clear hb HB
  have HB := Lib.hid hB
  clear hB
  clear cv0 cv1 cv2 cv3 cv4 cv5
  have kv := HB.out.box (i := 0) rfl
  have cv0 := kv.cell 0
  have cv1 := kv.cell 1
  have cv2 := kv.cell 2
  have cv3 := kv.cell 3
  have cv4 := kv.cell 4
  have cv5 := kv.cell 5
  clear kv
  go_wp2_with fail
  refine (H1.out _).mono ?_
  rintro x w3 ⟨rfl, hb⟩
  have hB := HB.out.call hb
  clear hb HB
  have HB := Lib.hid hB
  clear hB
  have hB := HB.out.alloc 25 #[.int .i64 0, .int .i64 0, .int .i64 0, .string ⟨#[]⟩, .bool false, .int .i64 0]
  clear HB
  have HB := Lib.hid hB
  clear hB
  clear cv0 cv1 cv2 cv3 cv4 cv5
  have kv := HB.out.box (i := 1) rfl
  have cv0 := kv.cell 0
  have cv1 := kv.cell 1
  have cv2 := kv.cell 2
  have cv3 := kv.cell 3
  have cv4 := kv.cell 4
  have cv5 := kv.cell 5
  clear kv
  go_wp2_with fail
  refine (H2.out _ HB.out.bel).mono ?_
  rintro x w4 ⟨rfl, hb⟩
  have hB := HB.out.call hb
  clear hb HB
  have HB := Lib.hid hB
  clear hB
  have hB := HB.out.alloc 25 #[.int .i64 0, .int .i64 0, .int .i64 0, .string ⟨#[]⟩, .bool false, .int .i64 0]
  clear HB
  have HB := Lib.hid hB
  clear hB
  clear cv0 cv1 cv2 cv3 cv4 cv5
  have kv := HB.out.box (i := 2) rfl
  have cv0 := kv.cell 0
  have cv1 := kv.cell 1
  have cv2 := kv.cell 2
  have cv3 := kv.cell 3
  have cv4 := kv.cell 4
  have cv5 := kv.cell 5
  clear kv
  have ky := HB.out.box (i := 1) rfl
  have cy0 := ky.cell 0
  have cy1 := ky.cell 1
  have cy2 := ky.cell 2
  have cy3 := ky.cell 3
  have cy4 := ky.cell 4
  have cy5 := ky.cell 5
  clear ky
  go_wp2_with fail
  refine (HS.out _ _).mono ?_
  rintro x w5 ⟨rfl, hb⟩
  have hB := HB.out.call hb
  clear hb HB
  have HB := Lib.hid hB
  clear hB
  clear cv0 cv1 cv2 cv3 cv4 cv5
  clear cy0 cy1 cy2 cy3 cy4 cy5
  go_wp2_with fail
  refine (H3.out _).mono ?_
  rintro x w6 ⟨rfl, hb⟩
  have hB := HB.out.call hb
  clear hb HB
  have HB := Lib.hid hB
  clear hB
  have hB := HB.out.alloc 25 #[.int .i64 4, .int .i64 0, .int .i64 0, .string ⟨#[]⟩, .bool false, .int .i64 15]
  clear HB
  have HB := Lib.hid hB
  clear hB
  have kv := HB.out.box (i := 3) rfl
  have cv0 := kv.cell 0
  have cv1 := kv.cell 1
  have cv2 := kv.cell 2
  have cv3 := kv.cell 3
  have cv4 := kv.cell 4
  have cv5 := kv.cell 5
  clear kv
  have hbel := HB.out.bel
  clear HB
  go_wp2
  go_ret
  exact ⟨rfl, hbel⟩

set_option maxRecDepth 20000 in
set_option maxHeartbeats 2000000 in
theorem truths_bool_false {w : World}  (HK : ∀ W : World, Below w.heap.size w W → Calls Tryd.prog 7 #[.agg #[.int .i64 3, .int .i64 0, .int .i64 0, .string ⟨#[]⟩, .bool false, .int .i64 0]] W fun x w' => x = .returned (.int .i64 0) ∧ Below W.heap.size W w') (K1 : ∀ W : World, Calls Tryd.prog 12 #[.agg #[.int .i64 3, .int .i64 0, .int .i64 0, .string ⟨#[]⟩, .bool false, .int .i64 0]] W fun x w' => x = .returned (.tuple #[.bool false, .agg #[.int .i64 0, .int .i64 0, .int .i64 0, .string ⟨#[]⟩, .bool false, .int .i64 0], .bool true]) ∧ Below W.heap.size W w') (K2 : ∀ W : World, Below w.heap.size w W → Calls Tryd.prog 13 #[.agg #[.int .i64 3, .int .i64 0, .int .i64 0, .string ⟨#[]⟩, .bool false, .int .i64 0]] W fun x w' => x = .returned (.tuple #[.string ⟨#[70, 65, 76, 83, 69]⟩, .agg #[.int .i64 0, .int .i64 0, .int .i64 0, .string ⟨#[]⟩, .bool false, .int .i64 0], .bool true]) ∧ Below W.heap.size W w') (K3 : ∀ W : World, Calls Tryd.prog 12 #[.agg #[.int .i64 2, .int .i64 0, .int .i64 0, .string ⟨#[70, 65, 76, 83, 69]⟩, .bool false, .int .i64 0]] W fun x w' => x = .returned (.tuple #[.bool false, .agg #[.int .i64 0, .int .i64 0, .int .i64 0, .string ⟨#[]⟩, .bool false, .int .i64 0], .bool true]) ∧ Below W.heap.size W w') :
    Calls Tryd.prog 5 #[.agg #[.int .i64 3, .int .i64 0, .int .i64 0, .string ⟨#[]⟩, .bool false, .int .i64 0]] w fun x w' => x = .returned (.bool true) ∧ Below w.heap.size w w' := by
  have HN := Lib.hid (fun W : World => known9_any (w := W))
  have HC := Lib.hid HK
  have H1 := Lib.hid K1
  have H2 := Lib.hid K2
  clear HK K1 K2
  have H3 := Lib.hid K3
  clear K3
  have HS := Lib.hid (fun (W : World) (q : ByteArray) => lS_any (w := W) q)
  have HB := Lib.hid (sb1 w 25 #[.int .i64 3, .int .i64 0, .int .i64 0, .string ⟨#[]⟩, .bool false, .int .i64 0])
  go_enter Tryd.func5, Tryd.ntmps5
  go_wp2_with fail
  refine (HN.out _).mono ?_
  rintro x w1 ⟨rfl, hb⟩
  have hB := HB.out.call hb
  clear hb HB
  have HB := Lib.hid hB
  clear hB
  have kv := HB.out.box (i := 0) rfl
  have cv0 := kv.cell 0
  have cv1 := kv.cell 1
  have cv2 := kv.cell 2
  have cv3 := kv.cell 3
  have cv4 := kv.cell 4
  have cv5 := kv.cell 5
  clear kv
  go_wp2_with fail
  refine (HC.out _ HB.out.bel).mono ?_
  rintro x w2 ⟨rfl, hb⟩
  have hB := HB.out.call hb
  clear hb HB
  have HB := Lib.hid hB
  clear hB
  clear cv0 cv1 cv2 cv3 cv4 cv5
  have kv := HB.out.box (i := 0) rfl
  have cv0 := kv.cell 0
  have cv1 := kv.cell 1
  have cv2 := kv.cell 2
  have cv3 := kv.cell 3
  have cv4 := kv.cell 4
  have cv5 := kv.cell 5
  clear kv
  go_wp2_with fail
  refine (H1.out _).mono ?_
  rintro x w3 ⟨rfl, hb⟩
  have hB := HB.out.call hb
  clear hb HB
  have HB := Lib.hid hB
  clear hB
  have hB := HB.out.alloc 25 #[.int .i64 0, .int .i64 0, .int .i64 0, .string ⟨#[]⟩, .bool false, .int .i64 0]
  clear HB
  have HB := Lib.hid hB
  clear hB
  clear cv0 cv1 cv2 cv3 cv4 cv5
  have kv := HB.out.box (i := 1) rfl
  have cv0 := kv.cell 0
  have cv1 := kv.cell 1
  have cv2 := kv.cell 2
  have cv3 := kv.cell 3
  have cv4 := kv.cell 4
  have cv5 := kv.cell 5
  clear kv
  go_wp2_with fail
  refine (H2.out _ HB.out.bel).mono ?_
  rintro x w4 ⟨rfl, hb⟩
  have hB := HB.out.call hb
  clear hb HB
  have HB := Lib.hid hB
  clear hB
  have hB := HB.out.alloc 25 #[.int .i64 0, .int .i64 0, .int .i64 0, .string ⟨#[]⟩, .bool false, .int .i64 0]
  clear HB
  have HB := Lib.hid hB
  clear hB
  clear cv0 cv1 cv2 cv3 cv4 cv5
  have kv := HB.out.box (i := 2) rfl
  have cv0 := kv.cell 0
  have cv1 := kv.cell 1
  have cv2 := kv.cell 2
  have cv3 := kv.cell 3
  have cv4 := kv.cell 4
  have cv5 := kv.cell 5
  clear kv
  have ky := HB.out.box (i := 1) rfl
  have cy0 := ky.cell 0
  have cy1 := ky.cell 1
  have cy2 := ky.cell 2
  have cy3 := ky.cell 3
  have cy4 := ky.cell 4
  have cy5 := ky.cell 5
  clear ky
  go_wp2_with fail
  refine (HS.out _ _).mono ?_
  rintro x w5 ⟨rfl, hb⟩
  have hB := HB.out.call hb
  clear hb HB
  have HB := Lib.hid hB
  clear hB
  clear cv0 cv1 cv2 cv3 cv4 cv5
  clear cy0 cy1 cy2 cy3 cy4 cy5
  go_wp2_with fail
  refine (H3.out _).mono ?_
  rintro x w6 ⟨rfl, hb⟩
  have hB := HB.out.call hb
  clear hb HB
  have HB := Lib.hid hB
  clear hB
  have hB := HB.out.alloc 25 #[.int .i64 0, .int .i64 0, .int .i64 0, .string ⟨#[]⟩, .bool false, .int .i64 0]
  clear HB
  have HB := Lib.hid hB
  clear hB
  have kv := HB.out.box (i := 3) rfl
  have cv0 := kv.cell 0
  have cv1 := kv.cell 1
  have cv2 := kv.cell 2
  have cv3 := kv.cell 3
  have cv4 := kv.cell 4
  have cv5 := kv.cell 5
  clear kv
  have hbel := HB.out.bel
  clear HB
  go_wp2
  go_ret
  exact ⟨rfl, hbel⟩

set_option maxRecDepth 20000 in
set_option maxHeartbeats 2000000 in
theorem truths_bool_true {w : World}  (HK : ∀ W : World, Below w.heap.size w W → Calls Tryd.prog 7 #[.agg #[.int .i64 3, .int .i64 0, .int .i64 0, .string ⟨#[]⟩, .bool true, .int .i64 0]] W fun x w' => x = .returned (.int .i64 0) ∧ Below W.heap.size W w') (K1 : ∀ W : World, Calls Tryd.prog 12 #[.agg #[.int .i64 3, .int .i64 0, .int .i64 0, .string ⟨#[]⟩, .bool true, .int .i64 0]] W fun x w' => x = .returned (.tuple #[.bool true, .agg #[.int .i64 0, .int .i64 0, .int .i64 0, .string ⟨#[]⟩, .bool false, .int .i64 0], .bool true]) ∧ Below W.heap.size W w') (K2 : ∀ W : World, Below w.heap.size w W → Calls Tryd.prog 13 #[.agg #[.int .i64 3, .int .i64 0, .int .i64 0, .string ⟨#[]⟩, .bool true, .int .i64 0]] W fun x w' => x = .returned (.tuple #[.string ⟨#[84, 82, 85, 69]⟩, .agg #[.int .i64 0, .int .i64 0, .int .i64 0, .string ⟨#[]⟩, .bool false, .int .i64 0], .bool true]) ∧ Below W.heap.size W w') (K3 : ∀ W : World, Calls Tryd.prog 12 #[.agg #[.int .i64 2, .int .i64 0, .int .i64 0, .string ⟨#[84, 82, 85, 69]⟩, .bool false, .int .i64 0]] W fun x w' => x = .returned (.tuple #[.bool true, .agg #[.int .i64 0, .int .i64 0, .int .i64 0, .string ⟨#[]⟩, .bool false, .int .i64 0], .bool true]) ∧ Below W.heap.size W w') :
    Calls Tryd.prog 5 #[.agg #[.int .i64 3, .int .i64 0, .int .i64 0, .string ⟨#[]⟩, .bool true, .int .i64 0]] w fun x w' => x = .returned (.bool true) ∧ Below w.heap.size w w' := by
  have HN := Lib.hid (fun W : World => known9_any (w := W))
  have HC := Lib.hid HK
  have H1 := Lib.hid K1
  have H2 := Lib.hid K2
  clear HK K1 K2
  have H3 := Lib.hid K3
  clear K3
  have HS := Lib.hid (fun (W : World) (q : ByteArray) => lS_any (w := W) q)
  have HB := Lib.hid (sb1 w 25 #[.int .i64 3, .int .i64 0, .int .i64 0, .string ⟨#[]⟩, .bool true, .int .i64 0])
  go_enter Tryd.func5, Tryd.ntmps5
  go_wp2_with fail
  refine (HN.out _).mono ?_
  rintro x w1 ⟨rfl, hb⟩
  have hB := HB.out.call hb
  clear hb HB
  have HB := Lib.hid hB
  clear hB
  have kv := HB.out.box (i := 0) rfl
  have cv0 := kv.cell 0
  have cv1 := kv.cell 1
  have cv2 := kv.cell 2
  have cv3 := kv.cell 3
  have cv4 := kv.cell 4
  have cv5 := kv.cell 5
  clear kv
  go_wp2_with fail
  refine (HC.out _ HB.out.bel).mono ?_
  rintro x w2 ⟨rfl, hb⟩
  have hB := HB.out.call hb
  clear hb HB
  have HB := Lib.hid hB
  clear hB
  clear cv0 cv1 cv2 cv3 cv4 cv5
  have kv := HB.out.box (i := 0) rfl
  have cv0 := kv.cell 0
  have cv1 := kv.cell 1
  have cv2 := kv.cell 2
  have cv3 := kv.cell 3
  have cv4 := kv.cell 4
  have cv5 := kv.cell 5
  clear kv
  go_wp2_with fail
  refine (H1.out _).mono ?_
  rintro x w3 ⟨rfl, hb⟩
  have hB := HB.out.call hb
  clear hb HB
  have HB := Lib.hid hB
  clear hB
  have hB := HB.out.alloc 25 #[.int .i64 0, .int .i64 0, .int .i64 0, .string ⟨#[]⟩, .bool false, .int .i64 0]
  clear HB
  have HB := Lib.hid hB
  clear hB
  clear cv0 cv1 cv2 cv3 cv4 cv5
  have kv := HB.out.box (i := 1) rfl
  have cv0 := kv.cell 0
  have cv1 := kv.cell 1
  have cv2 := kv.cell 2
  have cv3 := kv.cell 3
  have cv4 := kv.cell 4
  have cv5 := kv.cell 5
  clear kv
  go_wp2_with fail
  refine (H2.out _ HB.out.bel).mono ?_
  rintro x w4 ⟨rfl, hb⟩
  have hB := HB.out.call hb
  clear hb HB
  have HB := Lib.hid hB
  clear hB
  have hB := HB.out.alloc 25 #[.int .i64 0, .int .i64 0, .int .i64 0, .string ⟨#[]⟩, .bool false, .int .i64 0]
  clear HB
  have HB := Lib.hid hB
  clear hB
  clear cv0 cv1 cv2 cv3 cv4 cv5
  have kv := HB.out.box (i := 2) rfl
  have cv0 := kv.cell 0
  have cv1 := kv.cell 1
  have cv2 := kv.cell 2
  have cv3 := kv.cell 3
  have cv4 := kv.cell 4
  have cv5 := kv.cell 5
  clear kv
  have ky := HB.out.box (i := 1) rfl
  have cy0 := ky.cell 0
  have cy1 := ky.cell 1
  have cy2 := ky.cell 2
  have cy3 := ky.cell 3
  have cy4 := ky.cell 4
  have cy5 := ky.cell 5
  clear ky
  go_wp2_with fail
  refine (HS.out _ _).mono ?_
  rintro x w5 ⟨rfl, hb⟩
  have hB := HB.out.call hb
  clear hb HB
  have HB := Lib.hid hB
  clear hB
  clear cv0 cv1 cv2 cv3 cv4 cv5
  clear cy0 cy1 cy2 cy3 cy4 cy5
  go_wp2_with fail
  refine (H3.out _).mono ?_
  rintro x w6 ⟨rfl, hb⟩
  have hB := HB.out.call hb
  clear hb HB
  have HB := Lib.hid hB
  clear hB
  have hB := HB.out.alloc 25 #[.int .i64 0, .int .i64 0, .int .i64 0, .string ⟨#[]⟩, .bool false, .int .i64 0]
  clear HB
  have HB := Lib.hid hB
  clear hB
  have kv := HB.out.box (i := 3) rfl
  have cv0 := kv.cell 0
  have cv1 := kv.cell 1
  have cv2 := kv.cell 2
  have cv3 := kv.cell 3
  have cv4 := kv.cell 4
  have cv5 := kv.cell 5
  clear kv
  have hbel := HB.out.bel
  clear HB
  go_wp2
  go_ret
  exact ⟨rfl, hbel⟩

set_option maxRecDepth 20000 in
set_option maxHeartbeats 2000000 in
theorem truths_num0 {w : World} (s : Nat) (L : List UInt8) (HK : ∀ W : World, Below w.heap.size w W → Calls Tryd.prog 7 #[.agg #[.int .i64 1, .int .i64 0, .int .i64 (s : Nat), .string ⟨#[]⟩, .bool false, .int .i64 0]] W fun x w' => x = .returned (.int .i64 0) ∧ Below W.heap.size W w') (K1 : ∀ W : World, Calls Tryd.prog 12 #[.agg #[.int .i64 1, .int .i64 0, .int .i64 (s : Nat), .string ⟨#[]⟩, .bool false, .int .i64 0]] W fun x w' => x = .returned (.tuple #[.bool false, .agg #[.int .i64 0, .int .i64 0, .int .i64 0, .string ⟨#[]⟩, .bool false, .int .i64 0], .bool true]) ∧ Below W.heap.size W w') (K2 : ∀ W : World, Below w.heap.size w W → Calls Tryd.prog 13 #[.agg #[.int .i64 1, .int .i64 0, .int .i64 (s : Nat), .string ⟨#[]⟩, .bool false, .int .i64 0]] W fun x w' => x = .returned (.tuple #[.string ⟨L.toArray⟩, .agg #[.int .i64 0, .int .i64 0, .int .i64 0, .string ⟨#[]⟩, .bool false, .int .i64 0], .bool true]) ∧ Below W.heap.size W w') (K3 : ∀ W : World, Calls Tryd.prog 12 #[.agg #[.int .i64 2, .int .i64 0, .int .i64 0, .string ⟨L.toArray⟩, .bool false, .int .i64 0]] W fun x w' => x = .returned (.tuple #[.bool false, .agg #[.int .i64 4, .int .i64 0, .int .i64 0, .string ⟨#[]⟩, .bool false, .int .i64 15], .bool false]) ∧ Below W.heap.size W w') :
    Calls Tryd.prog 5 #[.agg #[.int .i64 1, .int .i64 0, .int .i64 (s : Nat), .string ⟨#[]⟩, .bool false, .int .i64 0]] w fun x w' => x = .returned (.bool true) ∧ Below w.heap.size w w' := by
  have HN := Lib.hid (fun W : World => known9_any (w := W))
  have HC := Lib.hid HK
  have H1 := Lib.hid K1
  have H2 := Lib.hid K2
  clear HK K1 K2
  have H3 := Lib.hid K3
  clear K3
  have HS := Lib.hid (fun (W : World) (q : ByteArray) => lS_any (w := W) q)
  have HB := Lib.hid (sb1 w 25 #[.int .i64 1, .int .i64 0, .int .i64 (s : Nat), .string ⟨#[]⟩, .bool false, .int .i64 0])
  go_enter Tryd.func5, Tryd.ntmps5
  go_wp2_with fail
  refine (HN.out _).mono ?_
  rintro x w1 ⟨rfl, hb⟩
  have hB := HB.out.call hb
  clear hb HB
  have HB := Lib.hid hB
  clear hB
  have kv := HB.out.box (i := 0) rfl
  have cv0 := kv.cell 0
  have cv1 := kv.cell 1
  have cv2 := kv.cell 2
  have cv3 := kv.cell 3
  have cv4 := kv.cell 4
  have cv5 := kv.cell 5
  clear kv
  go_wp2_with fail
  refine (HC.out _ HB.out.bel).mono ?_
  rintro x w2 ⟨rfl, hb⟩
  have hB := HB.out.call hb
  clear hb HB
  have HB := Lib.hid hB
  clear hB
  clear cv0 cv1 cv2 cv3 cv4 cv5
  have kv := HB.out.box (i := 0) rfl
  have cv0 := kv.cell 0
  have cv1 := kv.cell 1
  have cv2 := kv.cell 2
  have cv3 := kv.cell 3
  have cv4 := kv.cell 4
  have cv5 := kv.cell 5
  clear kv
  go_wp2_with fail
  refine (H1.out _).mono ?_
  rintro x w3 ⟨rfl, hb⟩
  have hB := HB.out.call hb
  clear hb HB
  have HB := Lib.hid hB
  clear hB
  have hB := HB.out.alloc 25 #[.int .i64 0, .int .i64 0, .int .i64 0, .string ⟨#[]⟩, .bool false, .int .i64 0]
  clear HB
  have HB := Lib.hid hB
  clear hB
  clear cv0 cv1 cv2 cv3 cv4 cv5
  have kv := HB.out.box (i := 1) rfl
  have cv0 := kv.cell 0
  have cv1 := kv.cell 1
  have cv2 := kv.cell 2
  have cv3 := kv.cell 3
  have cv4 := kv.cell 4
  have cv5 := kv.cell 5
  clear kv
  go_wp2_with fail
  refine (H2.out _ HB.out.bel).mono ?_
  rintro x w4 ⟨rfl, hb⟩
  have hB := HB.out.call hb
  clear hb HB
  have HB := Lib.hid hB
  clear hB
  have hB := HB.out.alloc 25 #[.int .i64 0, .int .i64 0, .int .i64 0, .string ⟨#[]⟩, .bool false, .int .i64 0]
  clear HB
  have HB := Lib.hid hB
  clear hB
  clear cv0 cv1 cv2 cv3 cv4 cv5
  have kv := HB.out.box (i := 2) rfl
  have cv0 := kv.cell 0
  have cv1 := kv.cell 1
  have cv2 := kv.cell 2
  have cv3 := kv.cell 3
  have cv4 := kv.cell 4
  have cv5 := kv.cell 5
  clear kv
  have ky := HB.out.box (i := 1) rfl
  have cy0 := ky.cell 0
  have cy1 := ky.cell 1
  have cy2 := ky.cell 2
  have cy3 := ky.cell 3
  have cy4 := ky.cell 4
  have cy5 := ky.cell 5
  clear ky
  go_wp2_with fail
  refine (HS.out _ _).mono ?_
  rintro x w5 ⟨rfl, hb⟩
  have hB := HB.out.call hb
  clear hb HB
  have HB := Lib.hid hB
  clear hB
  clear cv0 cv1 cv2 cv3 cv4 cv5
  clear cy0 cy1 cy2 cy3 cy4 cy5
  go_wp2_with fail
  refine (H3.out _).mono ?_
  rintro x w6 ⟨rfl, hb⟩
  have hB := HB.out.call hb
  clear hb HB
  have HB := Lib.hid hB
  clear hB
  have hB := HB.out.alloc 25 #[.int .i64 4, .int .i64 0, .int .i64 0, .string ⟨#[]⟩, .bool false, .int .i64 15]
  clear HB
  have HB := Lib.hid hB
  clear hB
  have kv := HB.out.box (i := 3) rfl
  have cv0 := kv.cell 0
  have cv1 := kv.cell 1
  have cv2 := kv.cell 2
  have cv3 := kv.cell 3
  have cv4 := kv.cell 4
  have cv5 := kv.cell 5
  clear kv
  have hbel := HB.out.bel
  clear HB
  go_wp2
  go_ret
  exact ⟨rfl, hbel⟩

set_option maxRecDepth 20000 in
set_option maxHeartbeats 2000000 in
theorem truths_numn {w : World} (m : Int) (s : Nat) (L : List UInt8) (hm : ¬ m = 0) (HK : ∀ W : World, Below w.heap.size w W → Calls Tryd.prog 7 #[.agg #[.int .i64 1, .int .i64 m, .int .i64 (s : Nat), .string ⟨#[]⟩, .bool false, .int .i64 0]] W fun x w' => x = .returned (.int .i64 0) ∧ Below W.heap.size W w') (K1 : ∀ W : World, Calls Tryd.prog 12 #[.agg #[.int .i64 1, .int .i64 m, .int .i64 (s : Nat), .string ⟨#[]⟩, .bool false, .int .i64 0]] W fun x w' => x = .returned (.tuple #[.bool true, .agg #[.int .i64 0, .int .i64 0, .int .i64 0, .string ⟨#[]⟩, .bool false, .int .i64 0], .bool true]) ∧ Below W.heap.size W w') (K2 : ∀ W : World, Below w.heap.size w W → Calls Tryd.prog 13 #[.agg #[.int .i64 1, .int .i64 m, .int .i64 (s : Nat), .string ⟨#[]⟩, .bool false, .int .i64 0]] W fun x w' => x = .returned (.tuple #[.string ⟨L.toArray⟩, .agg #[.int .i64 0, .int .i64 0, .int .i64 0, .string ⟨#[]⟩, .bool false, .int .i64 0], .bool true]) ∧ Below W.heap.size W w') (K3 : ∀ W : World, Calls Tryd.prog 12 #[.agg #[.int .i64 2, .int .i64 0, .int .i64 0, .string ⟨L.toArray⟩, .bool false, .int .i64 0]] W fun x w' => x = .returned (.tuple #[.bool false, .agg #[.int .i64 4, .int .i64 0, .int .i64 0, .string ⟨#[]⟩, .bool false, .int .i64 15], .bool false]) ∧ Below W.heap.size W w') :
    Calls Tryd.prog 5 #[.agg #[.int .i64 1, .int .i64 m, .int .i64 (s : Nat), .string ⟨#[]⟩, .bool false, .int .i64 0]] w fun x w' => x = .returned (.bool true) ∧ Below w.heap.size w w' := by
  have HN := Lib.hid (fun W : World => known9_any (w := W))
  have HC := Lib.hid HK
  have H1 := Lib.hid K1
  have H2 := Lib.hid K2
  clear HK K1 K2
  have H3 := Lib.hid K3
  clear K3
  have HS := Lib.hid (fun (W : World) (q : ByteArray) => lS_any (w := W) q)
  have hm' : (m != 0) = true := bne_iff_ne.2 hm
  have HB := Lib.hid (sb1 w 25 #[.int .i64 1, .int .i64 m, .int .i64 (s : Nat), .string ⟨#[]⟩, .bool false, .int .i64 0])
  go_enter Tryd.func5, Tryd.ntmps5
  go_wp2_with fail
  refine (HN.out _).mono ?_
  rintro x w1 ⟨rfl, hb⟩
  have hB := HB.out.call hb
  clear hb HB
  have HB := Lib.hid hB
  clear hB
  have kv := HB.out.box (i := 0) rfl
  have cv0 := kv.cell 0
  have cv1 := kv.cell 1
  have cv2 := kv.cell 2
  have cv3 := kv.cell 3
  have cv4 := kv.cell 4
  have cv5 := kv.cell 5
  clear kv
  go_wp2_with fail
  refine (HC.out _ HB.out.bel).mono ?_
  rintro x w2 ⟨rfl, hb⟩
  have hB := HB.out.call hb
  clear hb HB
  have HB := Lib.hid hB
  clear hB
  clear cv0 cv1 cv2 cv3 cv4 cv5
  have kv := HB.out.box (i := 0) rfl
  have cv0 := kv.cell 0
  have cv1 := kv.cell 1
  have cv2 := kv.cell 2
  have cv3 := kv.cell 3
  have cv4 := kv.cell 4
  have cv5 := kv.cell 5
  clear kv
  go_wp2_with fail
  refine (H1.out _).mono ?_
  rintro x w3 ⟨rfl, hb⟩
  have hB := HB.out.call hb
  clear hb HB
  have HB := Lib.hid hB
  clear hB
  have hB := HB.out.alloc 25 #[.int .i64 0, .int .i64 0, .int .i64 0, .string ⟨#[]⟩, .bool false, .int .i64 0]
  clear HB
  have HB := Lib.hid hB
  clear hB
  clear cv0 cv1 cv2 cv3 cv4 cv5
  have kv := HB.out.box (i := 1) rfl
  have cv0 := kv.cell 0
  have cv1 := kv.cell 1
  have cv2 := kv.cell 2
  have cv3 := kv.cell 3
  have cv4 := kv.cell 4
  have cv5 := kv.cell 5
  clear kv
  go_wp2_with fail
  refine (H2.out _ HB.out.bel).mono ?_
  rintro x w4 ⟨rfl, hb⟩
  have hB := HB.out.call hb
  clear hb HB
  have HB := Lib.hid hB
  clear hB
  have hB := HB.out.alloc 25 #[.int .i64 0, .int .i64 0, .int .i64 0, .string ⟨#[]⟩, .bool false, .int .i64 0]
  clear HB
  have HB := Lib.hid hB
  clear hB
  clear cv0 cv1 cv2 cv3 cv4 cv5
  have kv := HB.out.box (i := 2) rfl
  have cv0 := kv.cell 0
  have cv1 := kv.cell 1
  have cv2 := kv.cell 2
  have cv3 := kv.cell 3
  have cv4 := kv.cell 4
  have cv5 := kv.cell 5
  clear kv
  have ky := HB.out.box (i := 1) rfl
  have cy0 := ky.cell 0
  have cy1 := ky.cell 1
  have cy2 := ky.cell 2
  have cy3 := ky.cell 3
  have cy4 := ky.cell 4
  have cy5 := ky.cell 5
  clear ky
  go_wp2_with fail
  refine (HS.out _ _).mono ?_
  rintro x w5 ⟨rfl, hb⟩
  have hB := HB.out.call hb
  clear hb HB
  have HB := Lib.hid hB
  clear hB
  clear cv0 cv1 cv2 cv3 cv4 cv5
  clear cy0 cy1 cy2 cy3 cy4 cy5
  go_wp2_with fail
  refine (H3.out _).mono ?_
  rintro x w6 ⟨rfl, hb⟩
  have hB := HB.out.call hb
  clear hb HB
  have HB := Lib.hid hB
  clear hB
  have hB := HB.out.alloc 25 #[.int .i64 4, .int .i64 0, .int .i64 0, .string ⟨#[]⟩, .bool false, .int .i64 15]
  clear HB
  have HB := Lib.hid hB
  clear hB
  have kv := HB.out.box (i := 3) rfl
  have cv0 := kv.cell 0
  have cv1 := kv.cell 1
  have cv2 := kv.cell 2
  have cv3 := kv.cell 3
  have cv4 := kv.cell 4
  have cv5 := kv.cell 5
  clear kv
  have hbel := HB.out.bel
  clear HB
  go_wp2
  go_ret
  exact ⟨rfl, hbel⟩

set_option maxRecDepth 20000 in
set_option maxHeartbeats 2000000 in
theorem truths_str_yes {w : World}  (HK : ∀ W : World, Below w.heap.size w W → Calls Tryd.prog 7 #[.agg #[.int .i64 2, .int .i64 0, .int .i64 0, .string ⟨#[84, 82, 85, 69]⟩, .bool false, .int .i64 0]] W fun x w' => x = .returned (.int .i64 0) ∧ Below W.heap.size W w') (K1 : ∀ W : World, Calls Tryd.prog 12 #[.agg #[.int .i64 2, .int .i64 0, .int .i64 0, .string ⟨#[84, 82, 85, 69]⟩, .bool false, .int .i64 0]] W fun x w' => x = .returned (.tuple #[.bool true, .agg #[.int .i64 0, .int .i64 0, .int .i64 0, .string ⟨#[]⟩, .bool false, .int .i64 0], .bool true]) ∧ Below W.heap.size W w') (K2 : ∀ W : World, Below w.heap.size w W → Calls Tryd.prog 13 #[.agg #[.int .i64 2, .int .i64 0, .int .i64 0, .string ⟨#[84, 82, 85, 69]⟩, .bool false, .int .i64 0]] W fun x w' => x = .returned (.tuple #[.string ⟨#[84, 82, 85, 69]⟩, .agg #[.int .i64 0, .int .i64 0, .int .i64 0, .string ⟨#[]⟩, .bool false, .int .i64 0], .bool true]) ∧ Below W.heap.size W w') :
    Calls Tryd.prog 5 #[.agg #[.int .i64 2, .int .i64 0, .int .i64 0, .string ⟨#[84, 82, 85, 69]⟩, .bool false, .int .i64 0]] w fun x w' => x = .returned (.bool true) ∧ Below w.heap.size w w' := by
  have HN := Lib.hid (fun W : World => known9_any (w := W))
  have HC := Lib.hid HK
  have H1 := Lib.hid K1
  have H2 := Lib.hid K2
  clear HK K1 K2
  have HB := Lib.hid (sb1 w 25 #[.int .i64 2, .int .i64 0, .int .i64 0, .string ⟨#[84, 82, 85, 69]⟩, .bool false, .int .i64 0])
  go_enter Tryd.func5, Tryd.ntmps5
  go_wp2_with fail
  refine (HN.out _).mono ?_
  rintro x w1 ⟨rfl, hb⟩
  have hB := HB.out.call hb
  clear hb HB
  have HB := Lib.hid hB
  clear hB
  have kv := HB.out.box (i := 0) rfl
  have cv0 := kv.cell 0
  have cv1 := kv.cell 1
  have cv2 := kv.cell 2
  have cv3 := kv.cell 3
  have cv4 := kv.cell 4
  have cv5 := kv.cell 5
  clear kv
  go_wp2_with fail
  refine (HC.out _ HB.out.bel).mono ?_
  rintro x w2 ⟨rfl, hb⟩
  have hB := HB.out.call hb
  clear hb HB
  have HB := Lib.hid hB
  clear hB
  clear cv0 cv1 cv2 cv3 cv4 cv5
  have kv := HB.out.box (i := 0) rfl
  have cv0 := kv.cell 0
  have cv1 := kv.cell 1
  have cv2 := kv.cell 2
  have cv3 := kv.cell 3
  have cv4 := kv.cell 4
  have cv5 := kv.cell 5
  clear kv
  go_wp2_with fail
  refine (H1.out _).mono ?_
  rintro x w3 ⟨rfl, hb⟩
  have hB := HB.out.call hb
  clear hb HB
  have HB := Lib.hid hB
  clear hB
  have hB := HB.out.alloc 25 #[.int .i64 0, .int .i64 0, .int .i64 0, .string ⟨#[]⟩, .bool false, .int .i64 0]
  clear HB
  have HB := Lib.hid hB
  clear hB
  clear cv0 cv1 cv2 cv3 cv4 cv5
  have kv := HB.out.box (i := 1) rfl
  have cv0 := kv.cell 0
  have cv1 := kv.cell 1
  have cv2 := kv.cell 2
  have cv3 := kv.cell 3
  have cv4 := kv.cell 4
  have cv5 := kv.cell 5
  clear kv
  go_wp2_with fail
  refine (H2.out _ HB.out.bel).mono ?_
  rintro x w4 ⟨rfl, hb⟩
  have hB := HB.out.call hb
  clear hb HB
  have HB := Lib.hid hB
  clear hB
  have hB := HB.out.alloc 25 #[.int .i64 0, .int .i64 0, .int .i64 0, .string ⟨#[]⟩, .bool false, .int .i64 0]
  clear HB
  have HB := Lib.hid hB
  clear hB
  clear cv0 cv1 cv2 cv3 cv4 cv5
  have kv := HB.out.box (i := 2) rfl
  have cv0 := kv.cell 0
  have cv1 := kv.cell 1
  have cv2 := kv.cell 2
  have cv3 := kv.cell 3
  have cv4 := kv.cell 4
  have cv5 := kv.cell 5
  clear kv
  have ky := HB.out.box (i := 1) rfl
  have cy0 := ky.cell 0
  have cy1 := ky.cell 1
  have cy2 := ky.cell 2
  have cy3 := ky.cell 3
  have cy4 := ky.cell 4
  have cy5 := ky.cell 5
  clear ky
  clear HN HC H1 H2
  have HF := Lib.hid (fun W : World => fault_any (w := W) 15)
  go_wp2_with fail
  clear cv0 cv1 cv2 cv3 cv4 cv5
  clear cy0 cy1 cy2 cy3 cy4 cy5
  refine wp_region_phases (S := (fun vals W => SX w 1 ([] : List Stp) vals ([(w4.heap.size, 25, #[.int .i64 0, .int .i64 0, .int .i64 0, .string ⟨#[]⟩, .bool false, .int .i64 0]), (w3.heap.size, 25, #[.int .i64 0, .int .i64 0, .int .i64 0, .string ⟨#[]⟩, .bool false, .int .i64 0]), (w.heap.size, 25, #[.int .i64 2, .int .i64 0, .int .i64 0, .string ⟨#[84, 82, 85, 69]⟩, .bool false, .int .i64 0])] : List (Nat × TypeId × Array Value)) W)) (E := (fun _ _ => True)) [] [(1, Is (.pointer (some ⟨w.heap.size, 0, none⟩))), (3, Is (.bool true)), (4, Is (.pointer (some ⟨w3.heap.size, 0, none⟩))), (5, Is (.bool true)), (6, Is (.string ⟨#[84, 82, 85, 69]⟩)), (8, Is (.bool true))] [(60, Is (.bool true)), (61, Is (.bool true)), (62, Is (.string ⟨#[84, 82, 85, 69]⟩)), (63, Is (.pointer (some ⟨w.heap.size, 3, none⟩))), (64, Is (.string ⟨#[84, 82, 85, 69]⟩)), (65, Is (.bool true)), (66, Is (.bool true)), (67, Is (.bool true)), (68, Is (.bool true)), (69, Is (.string ⟨#[84, 82, 85, 69]⟩)), (70, Is (.bool true)), (71, Is (.bool true)), (72, Is (undef)), (73, Is (undef)), (74, Is (.bool true)), (75, Is (.bool true)), (76, Is (.bool true)), (77, Is (.bool true)), (78, Is (.bool true)), (79, Is (.string ⟨#[84, 82, 85, 69]⟩)), (80, Is (.bool true)), (81, Is (.bool true)), (82, Is (.bool true)), (83, Is (.bool true)), (84, Is (.bool true)), (85, Is (.bool true)), (86, Is (undef)), (87, Is (undef)), (88, Is (undef)), (89, Is (.bool true)), (90, Is (.bool true)), (2, Is (.bool true))]
    [.op [8] none, .op [60] none, .op [6, 61] (some (61, true)), .op [1, 61] (some (61, true)), .op [63, 61] (some (61, true)), .op [62, 64, 61] (some (61, true)), .op [61, 65] none, .op [66] none, .op [5, 67] (some (67, true)), .op [6, 67] (some (67, true)), .op [69, 67] (some (67, true)), .op [70, 67] (some (67, true)), .op [6, 71] (some (71, false)), .op [72, 71] (some (71, false)), .op [71, 73, 67] (some (67, true)), .op [68, 74, 67] (some (67, true)), .op [67, 75] none, .op [76] none, .op [3, 77] (some (77, true)), .op [6, 77] (some (77, true)), .op [79, 77] (some (77, true)), .op [78, 80, 77] (some (77, true)), .op [77, 81] none, .op [82] none, .op [5, 83] (some (83, true)), .op [84, 83] (some (83, true)), .op [4, 85] (some (85, false)), .op [85] (some (85, false)), .op [86, 87, 85] (some (85, false)), .op [85, 88, 83] (some (83, true)), .op [83, 89] none, .op [90] none] (by as_aux_lemma => kernel_rfl) ?_ ?_ ?_ ?_ ?_ ⟨stable_is _ _, stable_is _ _, stable_is _ _, stable_is _ _, stable_is _ _, stable_is _ _, stable_is _ _, stable_is _ _, stable_is _ _, stable_is _ _, stable_is _ _, stable_is _ _, stable_is _ _, stable_is _ _, stable_is _ _, stable_is _ _, stable_is _ _, stable_is _ _, stable_is _ _, stable_is _ _, stable_is _ _, stable_is _ _, stable_is _ _, stable_is _ _, stable_is _ _, stable_is _ _, stable_is _ _, stable_is _ _, stable_is _ _, stable_is _ _, stable_is _ _, stable_is _ _, stable_is _ _, stable_is _ _, stable_is _ _, stable_is _ _, stable_is _ _, stable_is _ _, trivial⟩ ?_ (HB.out.drew) ?_ ?_
  · as_aux_lemma => kernel_rfl
  · as_aux_lemma => kernel_rfl
  · as_aux_lemma => kernel_rfl
  · as_aux_lemma => kernel_rfl
  · as_aux_lemma => kernel_rfl
  · exact ⟨rfl, rfl, rfl, rfl, rfl, rfl, trivial⟩
  · refine ⟨?_, ?_, ?_, ?_, ?_, ?_, ?_, ?_, ?_, ?_, ?_, ?_, ?_, ?_, ?_, ?_, ?_, ?_, ?_, ?_, ?_, ?_, ?_, ?_, ?_, ?_, ?_, ?_, ?_, ?_, ?_, ?_, trivial⟩
    · as_aux_lemma =>
        intro vals a W hS hL
        have e8 : a.tmps.getD 8 undef = .bool true := hL.1
        clear hL
        go_simp
        exact ⟨⟨fun d hd => by injection hd with hd; subst hd; rfl, fun h => by cases h⟩, hS, trivial⟩
    · as_aux_lemma =>
        intro vals a W hS hL
        have e60 : a.tmps.getD 60 undef = .bool true := hL.1
        clear hL
        go_simp
        exact ⟨⟨fun d hd => by injection hd with hd; subst hd; rfl, fun h => by cases h⟩, hS, trivial⟩
    · as_aux_lemma =>
        intro vals a W hS hL
        have e6 : a.tmps.getD 6 undef = .string ⟨#[84, 82, 85, 69]⟩ := hL.1
        have e61 : a.tmps.getD 61 undef = .bool true := hL.2.1
        clear hL
        refine ⟨true, e61, ?_⟩
        rw [if_pos rfl]
        go_simp
        exact ⟨⟨fun d hd => by injection hd with hd; subst hd; rfl, fun h => by cases h⟩, hS, trivial⟩
    · as_aux_lemma =>
        intro vals a W hS hL
        have e1 : a.tmps.getD 1 undef = .pointer (some ⟨w.heap.size, 0, none⟩) := hL.1
        have e61 : a.tmps.getD 61 undef = .bool true := hL.2.1
        clear hL
        refine ⟨true, e61, ?_⟩
        rw [if_pos rfl]
        go_simp
        exact ⟨⟨fun d hd => by injection hd with hd; subst hd; rfl, fun h => by cases h⟩, hS, trivial⟩
    · as_aux_lemma =>
        intro vals a W hS hL
        have e63 : a.tmps.getD 63 undef = .pointer (some ⟨w.heap.size, 3, none⟩) := hL.1
        have e61 : a.tmps.getD 61 undef = .bool true := hL.2.1
        clear hL
        refine ⟨true, e61, ?_⟩
        rw [if_pos rfl]
        have kb : Bk W (w.heap.size) 25 #[.int .i64 2, .int .i64 0, .int .i64 0, .string ⟨#[84, 82, 85, 69]⟩, .bool false, .int .i64 0] := hS.bk 2 rfl rfl
        have f3 := kb.cell 3
        clear kb
        go_simp
        exact ⟨⟨fun d hd => by injection hd with hd; subst hd; rfl, fun h => by cases h⟩, hS, trivial⟩
    · as_aux_lemma =>
        intro vals a W hS hL
        have e62 : a.tmps.getD 62 undef = .string ⟨#[84, 82, 85, 69]⟩ := hL.1
        have e64 : a.tmps.getD 64 undef = .string ⟨#[84, 82, 85, 69]⟩ := hL.2.1
        have e61 : a.tmps.getD 61 undef = .bool true := hL.2.2.1
        clear hL
        refine ⟨true, e61, ?_⟩
        rw [if_pos rfl]
        go_simp
        exact ⟨⟨fun d hd => by injection hd with hd; subst hd; rfl, fun h => by cases h⟩, hS, trivial⟩
    · as_aux_lemma =>
        intro vals a W hS hL
        have e61 : a.tmps.getD 61 undef = .bool true := hL.1
        have e65 : a.tmps.getD 65 undef = .bool true := hL.2.1
        clear hL
        go_simp
        exact ⟨⟨fun d hd => by injection hd with hd; subst hd; rfl, fun h => by cases h⟩, hS, trivial⟩
    · as_aux_lemma =>
        intro vals a W hS hL
        have e66 : a.tmps.getD 66 undef = .bool true := hL.1
        clear hL
        go_simp
        exact ⟨⟨fun d hd => by injection hd with hd; subst hd; rfl, fun h => by cases h⟩, hS, trivial⟩
    · as_aux_lemma =>
        intro vals a W hS hL
        have e5 : a.tmps.getD 5 undef = .bool true := hL.1
        have e67 : a.tmps.getD 67 undef = .bool true := hL.2.1
        clear hL
        refine ⟨true, e67, ?_⟩
        rw [if_pos rfl]
        go_simp
        exact ⟨⟨fun d hd => by injection hd with hd; subst hd; rfl, fun h => by cases h⟩, hS, trivial⟩
    · as_aux_lemma =>
        intro vals a W hS hL
        have e6 : a.tmps.getD 6 undef = .string ⟨#[84, 82, 85, 69]⟩ := hL.1
        have e67 : a.tmps.getD 67 undef = .bool true := hL.2.1
        clear hL
        refine ⟨true, e67, ?_⟩
        rw [if_pos rfl]
        go_simp
        exact ⟨⟨fun d hd => by injection hd with hd; subst hd; rfl, fun h => by cases h⟩, hS, trivial⟩
    · as_aux_lemma =>
        intro vals a W hS hL
        have e69 : a.tmps.getD 69 undef = .string ⟨#[84, 82, 85, 69]⟩ := hL.1
        have e67 : a.tmps.getD 67 undef = .bool true := hL.2.1
        clear hL
        refine ⟨true, e67, ?_⟩
        rw [if_pos rfl]
        go_simp
        exact ⟨⟨fun d hd => by injection hd with hd; subst hd; rfl, fun h => by cases h⟩, hS, trivial⟩
    · as_aux_lemma =>
        intro vals a W hS hL
        have e70 : a.tmps.getD 70 undef = .bool true := hL.1
        have e67 : a.tmps.getD 67 undef = .bool true := hL.2.1
        clear hL
        refine ⟨true, e67, ?_⟩
        rw [if_pos rfl]
        go_simp
        exact ⟨⟨fun d hd => by injection hd with hd; subst hd; rfl, fun h => by cases h⟩, hS, trivial⟩
    · as_aux_lemma =>
        intro vals a W hS hL
        have e6 : a.tmps.getD 6 undef = .string ⟨#[84, 82, 85, 69]⟩ := hL.1
        have e71 : a.tmps.getD 71 undef = .bool true := hL.2.1
        clear hL
        refine ⟨true, e71, ?_⟩
        rw [if_neg (by decide)]
        exact ⟨⟨fun d hd => by injection hd with hd; subst hd; rfl, fun h => by cases h⟩, trivial⟩
    · as_aux_lemma =>
        intro vals a W hS hL
        have e72 : a.tmps.getD 72 undef = undef := hL.1
        have e71 : a.tmps.getD 71 undef = .bool true := hL.2.1
        clear hL
        refine ⟨true, e71, ?_⟩
        rw [if_neg (by decide)]
        exact ⟨⟨fun d hd => by injection hd with hd; subst hd; rfl, fun h => by cases h⟩, trivial⟩
    · as_aux_lemma =>
        intro vals a W hS hL
        have e71 : a.tmps.getD 71 undef = .bool true := hL.1
        have e73 : a.tmps.getD 73 undef = undef := hL.2.1
        have e67 : a.tmps.getD 67 undef = .bool true := hL.2.2.1
        clear hL
        refine ⟨true, e67, ?_⟩
        rw [if_pos rfl]
        go_simp
        exact ⟨⟨fun d hd => by injection hd with hd; subst hd; rfl, fun h => by cases h⟩, hS, trivial⟩
    · as_aux_lemma =>
        intro vals a W hS hL
        have e68 : a.tmps.getD 68 undef = .bool true := hL.1
        have e74 : a.tmps.getD 74 undef = .bool true := hL.2.1
        have e67 : a.tmps.getD 67 undef = .bool true := hL.2.2.1
        clear hL
        refine ⟨true, e67, ?_⟩
        rw [if_pos rfl]
        go_simp
        exact ⟨⟨fun d hd => by injection hd with hd; subst hd; rfl, fun h => by cases h⟩, hS, trivial⟩
    · as_aux_lemma =>
        intro vals a W hS hL
        have e67 : a.tmps.getD 67 undef = .bool true := hL.1
        have e75 : a.tmps.getD 75 undef = .bool true := hL.2.1
        clear hL
        go_simp
        exact ⟨⟨fun d hd => by injection hd with hd; subst hd; rfl, fun h => by cases h⟩, hS, trivial⟩
    · as_aux_lemma =>
        intro vals a W hS hL
        have e76 : a.tmps.getD 76 undef = .bool true := hL.1
        clear hL
        go_simp
        exact ⟨⟨fun d hd => by injection hd with hd; subst hd; rfl, fun h => by cases h⟩, hS, trivial⟩
    · as_aux_lemma =>
        intro vals a W hS hL
        have e3 : a.tmps.getD 3 undef = .bool true := hL.1
        have e77 : a.tmps.getD 77 undef = .bool true := hL.2.1
        clear hL
        refine ⟨true, e77, ?_⟩
        rw [if_pos rfl]
        go_simp
        exact ⟨⟨fun d hd => by injection hd with hd; subst hd; rfl, fun h => by cases h⟩, hS, trivial⟩
    · as_aux_lemma =>
        intro vals a W hS hL
        have e6 : a.tmps.getD 6 undef = .string ⟨#[84, 82, 85, 69]⟩ := hL.1
        have e77 : a.tmps.getD 77 undef = .bool true := hL.2.1
        clear hL
        refine ⟨true, e77, ?_⟩
        rw [if_pos rfl]
        go_simp
        exact ⟨⟨fun d hd => by injection hd with hd; subst hd; rfl, fun h => by cases h⟩, hS, trivial⟩
    · as_aux_lemma =>
        intro vals a W hS hL
        have e79 : a.tmps.getD 79 undef = .string ⟨#[84, 82, 85, 69]⟩ := hL.1
        have e77 : a.tmps.getD 77 undef = .bool true := hL.2.1
        clear hL
        refine ⟨true, e77, ?_⟩
        rw [if_pos rfl]
        go_simp
        exact ⟨⟨fun d hd => by injection hd with hd; subst hd; rfl, fun h => by cases h⟩, hS, trivial⟩
    · as_aux_lemma =>
        intro vals a W hS hL
        have e78 : a.tmps.getD 78 undef = .bool true := hL.1
        have e80 : a.tmps.getD 80 undef = .bool true := hL.2.1
        have e77 : a.tmps.getD 77 undef = .bool true := hL.2.2.1
        clear hL
        refine ⟨true, e77, ?_⟩
        rw [if_pos rfl]
        go_simp
        exact ⟨⟨fun d hd => by injection hd with hd; subst hd; rfl, fun h => by cases h⟩, hS, trivial⟩
    · as_aux_lemma =>
        intro vals a W hS hL
        have e77 : a.tmps.getD 77 undef = .bool true := hL.1
        have e81 : a.tmps.getD 81 undef = .bool true := hL.2.1
        clear hL
        go_simp
        exact ⟨⟨fun d hd => by injection hd with hd; subst hd; rfl, fun h => by cases h⟩, hS, trivial⟩
    · as_aux_lemma =>
        intro vals a W hS hL
        have e82 : a.tmps.getD 82 undef = .bool true := hL.1
        clear hL
        go_simp
        exact ⟨⟨fun d hd => by injection hd with hd; subst hd; rfl, fun h => by cases h⟩, hS, trivial⟩
    · as_aux_lemma =>
        intro vals a W hS hL
        have e5 : a.tmps.getD 5 undef = .bool true := hL.1
        have e83 : a.tmps.getD 83 undef = .bool true := hL.2.1
        clear hL
        refine ⟨true, e83, ?_⟩
        rw [if_pos rfl]
        go_simp
        exact ⟨⟨fun d hd => by injection hd with hd; subst hd; rfl, fun h => by cases h⟩, hS, trivial⟩
    · as_aux_lemma =>
        intro vals a W hS hL
        have e84 : a.tmps.getD 84 undef = .bool true := hL.1
        have e83 : a.tmps.getD 83 undef = .bool true := hL.2.1
        clear hL
        refine ⟨true, e83, ?_⟩
        rw [if_pos rfl]
        go_simp
        exact ⟨⟨fun d hd => by injection hd with hd; subst hd; rfl, fun h => by cases h⟩, hS, trivial⟩
    · as_aux_lemma =>
        intro vals a W hS hL
        have e4 : a.tmps.getD 4 undef = .pointer (some ⟨w3.heap.size, 0, none⟩) := hL.1
        have e85 : a.tmps.getD 85 undef = .bool true := hL.2.1
        clear hL
        refine ⟨true, e85, ?_⟩
        rw [if_neg (by decide)]
        exact ⟨⟨fun d hd => by injection hd with hd; subst hd; rfl, fun h => by cases h⟩, trivial⟩
    · as_aux_lemma =>
        intro vals a W hS hL
        have e85 : a.tmps.getD 85 undef = .bool true := hL.1
        clear hL
        refine ⟨true, e85, ?_⟩
        rw [if_neg (by decide)]
        exact ⟨⟨fun d hd => by injection hd with hd; subst hd; rfl, fun h => by cases h⟩, trivial⟩
    · as_aux_lemma =>
        intro vals a W hS hL
        have e86 : a.tmps.getD 86 undef = undef := hL.1
        have e87 : a.tmps.getD 87 undef = undef := hL.2.1
        have e85 : a.tmps.getD 85 undef = .bool true := hL.2.2.1
        clear hL
        refine ⟨true, e85, ?_⟩
        rw [if_neg (by decide)]
        exact ⟨⟨fun d hd => by injection hd with hd; subst hd; rfl, fun h => by cases h⟩, trivial⟩
    · as_aux_lemma =>
        intro vals a W hS hL
        have e85 : a.tmps.getD 85 undef = .bool true := hL.1
        have e88 : a.tmps.getD 88 undef = undef := hL.2.1
        have e83 : a.tmps.getD 83 undef = .bool true := hL.2.2.1
        clear hL
        refine ⟨true, e83, ?_⟩
        rw [if_pos rfl]
        go_simp
        exact ⟨⟨fun d hd => by injection hd with hd; subst hd; rfl, fun h => by cases h⟩, hS, trivial⟩
    · as_aux_lemma =>
        intro vals a W hS hL
        have e83 : a.tmps.getD 83 undef = .bool true := hL.1
        have e89 : a.tmps.getD 89 undef = .bool true := hL.2.1
        clear hL
        go_simp
        exact ⟨⟨fun d hd => by injection hd with hd; subst hd; rfl, fun h => by cases h⟩, hS, trivial⟩
    · as_aux_lemma =>
        intro vals a W hS hL
        have e90 : a.tmps.getD 90 undef = .bool true := hL.1
        clear hL
        go_simp
        exact ⟨⟨fun d hd => by injection hd with hd; subst hd; rfl, fun h => by cases h⟩, hS, trivial⟩
  · intro a W' vals hd hsz hT hF hv hP hS
    obtain rfl : vals = [] := List.eq_nil_of_length_eq_zero hv
    have hS2 : SX w 1 ([] : List Stp) [] ([(w4.heap.size, 25, #[.int .i64 0, .int .i64 0, .int .i64 0, .string ⟨#[]⟩, .bool false, .int .i64 0]), (w3.heap.size, 25, #[.int .i64 0, .int .i64 0, .int .i64 0, .string ⟨#[]⟩, .bool false, .int .i64 0]), (w.heap.size, 25, #[.int .i64 2, .int .i64 0, .int .i64 0, .string ⟨#[84, 82, 85, 69]⟩, .bool false, .int .i64 0])] : List (Nat × TypeId × Array Value)) W' := hS
    clear hS
    have hB0 := hS2
    have hB : SB w 1 ([(w4.heap.size, 25, #[.int .i64 0, .int .i64 0, .int .i64 0, .string ⟨#[]⟩, .bool false, .int .i64 0]), (w3.heap.size, 25, #[.int .i64 0, .int .i64 0, .int .i64 0, .string ⟨#[]⟩, .bool false, .int .i64 0]), (w.heap.size, 25, #[.int .i64 2, .int .i64 0, .int .i64 0, .string ⟨#[84, 82, 85, 69]⟩, .bool false, .int .i64 0])] : List (Nat × TypeId × Array Value)) W' := hB0
    clear hB0
    have e2 : a.tmps.getD 2 undef = .bool true := hT 2 (by simp)
    clear hT hF hP
    go_wp2
    refine bodyPost_ret (v := .bool true) ?_ hd ⟨rfl, hB.bel⟩
    rw [Array.getD_eq_getD_getElem?] at e2
    simp [results, Tryd.results5, go_sem, e2]

set_option maxRecDepth 20000 in
set_option maxHeartbeats 2000000 in
theorem truths_str_no {w : World}  (HK : ∀ W : World, Below w.heap.size w W → Calls Tryd.prog 7 #[.agg #[.int .i64 2, .int .i64 0, .int .i64 0, .string ⟨#[70, 65, 76, 83, 69]⟩, .bool false, .int .i64 0]] W fun x w' => x = .returned (.int .i64 0) ∧ Below W.heap.size W w') (K1 : ∀ W : World, Calls Tryd.prog 12 #[.agg #[.int .i64 2, .int .i64 0, .int .i64 0, .string ⟨#[70, 65, 76, 83, 69]⟩, .bool false, .int .i64 0]] W fun x w' => x = .returned (.tuple #[.bool false, .agg #[.int .i64 0, .int .i64 0, .int .i64 0, .string ⟨#[]⟩, .bool false, .int .i64 0], .bool true]) ∧ Below W.heap.size W w') (K2 : ∀ W : World, Below w.heap.size w W → Calls Tryd.prog 13 #[.agg #[.int .i64 2, .int .i64 0, .int .i64 0, .string ⟨#[70, 65, 76, 83, 69]⟩, .bool false, .int .i64 0]] W fun x w' => x = .returned (.tuple #[.string ⟨#[70, 65, 76, 83, 69]⟩, .agg #[.int .i64 0, .int .i64 0, .int .i64 0, .string ⟨#[]⟩, .bool false, .int .i64 0], .bool true]) ∧ Below W.heap.size W w') :
    Calls Tryd.prog 5 #[.agg #[.int .i64 2, .int .i64 0, .int .i64 0, .string ⟨#[70, 65, 76, 83, 69]⟩, .bool false, .int .i64 0]] w fun x w' => x = .returned (.bool true) ∧ Below w.heap.size w w' := by
  have HN := Lib.hid (fun W : World => known9_any (w := W))
  have HC := Lib.hid HK
  have H1 := Lib.hid K1
  have H2 := Lib.hid K2
  clear HK K1 K2
  have HB := Lib.hid (sb1 w 25 #[.int .i64 2, .int .i64 0, .int .i64 0, .string ⟨#[70, 65, 76, 83, 69]⟩, .bool false, .int .i64 0])
  go_enter Tryd.func5, Tryd.ntmps5
  go_wp2_with fail
  refine (HN.out _).mono ?_
  rintro x w1 ⟨rfl, hb⟩
  have hB := HB.out.call hb
  clear hb HB
  have HB := Lib.hid hB
  clear hB
  have kv := HB.out.box (i := 0) rfl
  have cv0 := kv.cell 0
  have cv1 := kv.cell 1
  have cv2 := kv.cell 2
  have cv3 := kv.cell 3
  have cv4 := kv.cell 4
  have cv5 := kv.cell 5
  clear kv
  go_wp2_with fail
  refine (HC.out _ HB.out.bel).mono ?_
  rintro x w2 ⟨rfl, hb⟩
  have hB := HB.out.call hb
  clear hb HB
  have HB := Lib.hid hB
  clear hB
  clear cv0 cv1 cv2 cv3 cv4 cv5
  have kv := HB.out.box (i := 0) rfl
  have cv0 := kv.cell 0
  have cv1 := kv.cell 1
  have cv2 := kv.cell 2
  have cv3 := kv.cell 3
  have cv4 := kv.cell 4
  have cv5 := kv.cell 5
  clear kv
  go_wp2_with fail
  refine (H1.out _).mono ?_
  rintro x w3 ⟨rfl, hb⟩
  have hB := HB.out.call hb
  clear hb HB
  have HB := Lib.hid hB
  clear hB
  have hB := HB.out.alloc 25 #[.int .i64 0, .int .i64 0, .int .i64 0, .string ⟨#[]⟩, .bool false, .int .i64 0]
  clear HB
  have HB := Lib.hid hB
  clear hB
  clear cv0 cv1 cv2 cv3 cv4 cv5
  have kv := HB.out.box (i := 1) rfl
  have cv0 := kv.cell 0
  have cv1 := kv.cell 1
  have cv2 := kv.cell 2
  have cv3 := kv.cell 3
  have cv4 := kv.cell 4
  have cv5 := kv.cell 5
  clear kv
  go_wp2_with fail
  refine (H2.out _ HB.out.bel).mono ?_
  rintro x w4 ⟨rfl, hb⟩
  have hB := HB.out.call hb
  clear hb HB
  have HB := Lib.hid hB
  clear hB
  have hB := HB.out.alloc 25 #[.int .i64 0, .int .i64 0, .int .i64 0, .string ⟨#[]⟩, .bool false, .int .i64 0]
  clear HB
  have HB := Lib.hid hB
  clear hB
  clear cv0 cv1 cv2 cv3 cv4 cv5
  have kv := HB.out.box (i := 2) rfl
  have cv0 := kv.cell 0
  have cv1 := kv.cell 1
  have cv2 := kv.cell 2
  have cv3 := kv.cell 3
  have cv4 := kv.cell 4
  have cv5 := kv.cell 5
  clear kv
  have ky := HB.out.box (i := 1) rfl
  have cy0 := ky.cell 0
  have cy1 := ky.cell 1
  have cy2 := ky.cell 2
  have cy3 := ky.cell 3
  have cy4 := ky.cell 4
  have cy5 := ky.cell 5
  clear ky
  clear HN HC H1 H2
  have HF := Lib.hid (fun W : World => fault_any (w := W) 15)
  go_wp2_with fail
  clear cv0 cv1 cv2 cv3 cv4 cv5
  clear cy0 cy1 cy2 cy3 cy4 cy5
  refine wp_region_phases (S := (fun vals W => SX w 1 ([] : List Stp) vals ([(w4.heap.size, 25, #[.int .i64 0, .int .i64 0, .int .i64 0, .string ⟨#[]⟩, .bool false, .int .i64 0]), (w3.heap.size, 25, #[.int .i64 0, .int .i64 0, .int .i64 0, .string ⟨#[]⟩, .bool false, .int .i64 0]), (w.heap.size, 25, #[.int .i64 2, .int .i64 0, .int .i64 0, .string ⟨#[70, 65, 76, 83, 69]⟩, .bool false, .int .i64 0])] : List (Nat × TypeId × Array Value)) W)) (E := (fun _ _ => True)) [] [(1, Is (.pointer (some ⟨w.heap.size, 0, none⟩))), (3, Is (.bool false)), (4, Is (.pointer (some ⟨w3.heap.size, 0, none⟩))), (5, Is (.bool true)), (6, Is (.string ⟨#[70, 65, 76, 83, 69]⟩)), (8, Is (.bool true))] [(60, Is (.bool true)), (61, Is (.bool true)), (62, Is (.string ⟨#[70, 65, 76, 83, 69]⟩)), (63, Is (.pointer (some ⟨w.heap.size, 3, none⟩))), (64, Is (.string ⟨#[70, 65, 76, 83, 69]⟩)), (65, Is (.bool true)), (66, Is (.bool true)), (67, Is (.bool true)), (68, Is (.bool true)), (69, Is (.string ⟨#[70, 65, 76, 83, 69]⟩)), (70, Is (.bool false)), (71, Is (.bool false)), (72, Is (.string ⟨#[70, 65, 76, 83, 69]⟩)), (73, Is (.bool true)), (74, Is (.bool true)), (75, Is (.bool true)), (76, Is (.bool true)), (77, Is (.bool true)), (78, Is (.bool false)), (79, Is (.string ⟨#[70, 65, 76, 83, 69]⟩)), (80, Is (.bool false)), (81, Is (.bool true)), (82, Is (.bool true)), (83, Is (.bool true)), (84, Is (.bool true)), (85, Is (.bool true)), (86, Is (undef)), (87, Is (undef)), (88, Is (undef)), (89, Is (.bool true)), (90, Is (.bool true)), (2, Is (.bool true))]
    [.op [8] none, .op [60] none, .op [6, 61] (some (61, true)), .op [1, 61] (some (61, true)), .op [63, 61] (some (61, true)), .op [62, 64, 61] (some (61, true)), .op [61, 65] none, .op [66] none, .op [5, 67] (some (67, true)), .op [6, 67] (some (67, true)), .op [69, 67] (some (67, true)), .op [70, 67] (some (67, true)), .op [6, 71] (some (71, false)), .op [72, 71] (some (71, false)), .op [71, 73, 67] (some (67, true)), .op [68, 74, 67] (some (67, true)), .op [67, 75] none, .op [76] none, .op [3, 77] (some (77, true)), .op [6, 77] (some (77, true)), .op [79, 77] (some (77, true)), .op [78, 80, 77] (some (77, true)), .op [77, 81] none, .op [82] none, .op [5, 83] (some (83, true)), .op [84, 83] (some (83, true)), .op [4, 85] (some (85, false)), .op [85] (some (85, false)), .op [86, 87, 85] (some (85, false)), .op [85, 88, 83] (some (83, true)), .op [83, 89] none, .op [90] none] (by as_aux_lemma => kernel_rfl) ?_ ?_ ?_ ?_ ?_ ⟨stable_is _ _, stable_is _ _, stable_is _ _, stable_is _ _, stable_is _ _, stable_is _ _, stable_is _ _, stable_is _ _, stable_is _ _, stable_is _ _, stable_is _ _, stable_is _ _, stable_is _ _, stable_is _ _, stable_is _ _, stable_is _ _, stable_is _ _, stable_is _ _, stable_is _ _, stable_is _ _, stable_is _ _, stable_is _ _, stable_is _ _, stable_is _ _, stable_is _ _, stable_is _ _, stable_is _ _, stable_is _ _, stable_is _ _, stable_is _ _, stable_is _ _, stable_is _ _, stable_is _ _, stable_is _ _, stable_is _ _, stable_is _ _, stable_is _ _, stable_is _ _, trivial⟩ ?_ (HB.out.drew) ?_ ?_
  · as_aux_lemma => kernel_rfl
  · as_aux_lemma => kernel_rfl
  · as_aux_lemma => kernel_rfl
  · as_aux_lemma => kernel_rfl
  · as_aux_lemma => kernel_rfl
  · exact ⟨rfl, rfl, rfl, rfl, rfl, rfl, trivial⟩
  · refine ⟨?_, ?_, ?_, ?_, ?_, ?_, ?_, ?_, ?_, ?_, ?_, ?_, ?_, ?_, ?_, ?_, ?_, ?_, ?_, ?_, ?_, ?_, ?_, ?_, ?_, ?_, ?_, ?_, ?_, ?_, ?_, ?_, trivial⟩
    · as_aux_lemma =>
        intro vals a W hS hL
        have e8 : a.tmps.getD 8 undef = .bool true := hL.1
        clear hL
        go_simp
        exact ⟨⟨fun d hd => by injection hd with hd; subst hd; rfl, fun h => by cases h⟩, hS, trivial⟩
    · as_aux_lemma =>
        intro vals a W hS hL
        have e60 : a.tmps.getD 60 undef = .bool true := hL.1
        clear hL
        go_simp
        exact ⟨⟨fun d hd => by injection hd with hd; subst hd; rfl, fun h => by cases h⟩, hS, trivial⟩
    · as_aux_lemma =>
        intro vals a W hS hL
        have e6 : a.tmps.getD 6 undef = .string ⟨#[70, 65, 76, 83, 69]⟩ := hL.1
        have e61 : a.tmps.getD 61 undef = .bool true := hL.2.1
        clear hL
        refine ⟨true, e61, ?_⟩
        rw [if_pos rfl]
        go_simp
        exact ⟨⟨fun d hd => by injection hd with hd; subst hd; rfl, fun h => by cases h⟩, hS, trivial⟩
    · as_aux_lemma =>
        intro vals a W hS hL
        have e1 : a.tmps.getD 1 undef = .pointer (some ⟨w.heap.size, 0, none⟩) := hL.1
        have e61 : a.tmps.getD 61 undef = .bool true := hL.2.1
        clear hL
        refine ⟨true, e61, ?_⟩
        rw [if_pos rfl]
        go_simp
        exact ⟨⟨fun d hd => by injection hd with hd; subst hd; rfl, fun h => by cases h⟩, hS, trivial⟩
    · as_aux_lemma =>
        intro vals a W hS hL
        have e63 : a.tmps.getD 63 undef = .pointer (some ⟨w.heap.size, 3, none⟩) := hL.1
        have e61 : a.tmps.getD 61 undef = .bool true := hL.2.1
        clear hL
        refine ⟨true, e61, ?_⟩
        rw [if_pos rfl]
        have kb : Bk W (w.heap.size) 25 #[.int .i64 2, .int .i64 0, .int .i64 0, .string ⟨#[70, 65, 76, 83, 69]⟩, .bool false, .int .i64 0] := hS.bk 2 rfl rfl
        have f3 := kb.cell 3
        clear kb
        go_simp
        exact ⟨⟨fun d hd => by injection hd with hd; subst hd; rfl, fun h => by cases h⟩, hS, trivial⟩
    · as_aux_lemma =>
        intro vals a W hS hL
        have e62 : a.tmps.getD 62 undef = .string ⟨#[70, 65, 76, 83, 69]⟩ := hL.1
        have e64 : a.tmps.getD 64 undef = .string ⟨#[70, 65, 76, 83, 69]⟩ := hL.2.1
        have e61 : a.tmps.getD 61 undef = .bool true := hL.2.2.1
        clear hL
        refine ⟨true, e61, ?_⟩
        rw [if_pos rfl]
        go_simp
        exact ⟨⟨fun d hd => by injection hd with hd; subst hd; rfl, fun h => by cases h⟩, hS, trivial⟩
    · as_aux_lemma =>
        intro vals a W hS hL
        have e61 : a.tmps.getD 61 undef = .bool true := hL.1
        have e65 : a.tmps.getD 65 undef = .bool true := hL.2.1
        clear hL
        go_simp
        exact ⟨⟨fun d hd => by injection hd with hd; subst hd; rfl, fun h => by cases h⟩, hS, trivial⟩
    · as_aux_lemma =>
        intro vals a W hS hL
        have e66 : a.tmps.getD 66 undef = .bool true := hL.1
        clear hL
        go_simp
        exact ⟨⟨fun d hd => by injection hd with hd; subst hd; rfl, fun h => by cases h⟩, hS, trivial⟩
    · as_aux_lemma =>
        intro vals a W hS hL
        have e5 : a.tmps.getD 5 undef = .bool true := hL.1
        have e67 : a.tmps.getD 67 undef = .bool true := hL.2.1
        clear hL
        refine ⟨true, e67, ?_⟩
        rw [if_pos rfl]
        go_simp
        exact ⟨⟨fun d hd => by injection hd with hd; subst hd; rfl, fun h => by cases h⟩, hS, trivial⟩
    · as_aux_lemma =>
        intro vals a W hS hL
        have e6 : a.tmps.getD 6 undef = .string ⟨#[70, 65, 76, 83, 69]⟩ := hL.1
        have e67 : a.tmps.getD 67 undef = .bool true := hL.2.1
        clear hL
        refine ⟨true, e67, ?_⟩
        rw [if_pos rfl]
        go_simp
        exact ⟨⟨fun d hd => by injection hd with hd; subst hd; rfl, fun h => by cases h⟩, hS, trivial⟩
    · as_aux_lemma =>
        intro vals a W hS hL
        have e69 : a.tmps.getD 69 undef = .string ⟨#[70, 65, 76, 83, 69]⟩ := hL.1
        have e67 : a.tmps.getD 67 undef = .bool true := hL.2.1
        clear hL
        refine ⟨true, e67, ?_⟩
        rw [if_pos rfl]
        go_simp
        exact ⟨⟨fun d hd => by injection hd with hd; subst hd; rfl, fun h => by cases h⟩, hS, trivial⟩
    · as_aux_lemma =>
        intro vals a W hS hL
        have e70 : a.tmps.getD 70 undef = .bool false := hL.1
        have e67 : a.tmps.getD 67 undef = .bool true := hL.2.1
        clear hL
        refine ⟨true, e67, ?_⟩
        rw [if_pos rfl]
        go_simp
        exact ⟨⟨fun d hd => by injection hd with hd; subst hd; rfl, fun h => by cases h⟩, hS, trivial⟩
    · as_aux_lemma =>
        intro vals a W hS hL
        have e6 : a.tmps.getD 6 undef = .string ⟨#[70, 65, 76, 83, 69]⟩ := hL.1
        have e71 : a.tmps.getD 71 undef = .bool false := hL.2.1
        clear hL
        refine ⟨false, e71, ?_⟩
        rw [if_pos rfl]
        go_simp
        exact ⟨⟨fun d hd => by injection hd with hd; subst hd; rfl, fun h => by cases h⟩, hS, trivial⟩
    · as_aux_lemma =>
        intro vals a W hS hL
        have e72 : a.tmps.getD 72 undef = .string ⟨#[70, 65, 76, 83, 69]⟩ := hL.1
        have e71 : a.tmps.getD 71 undef = .bool false := hL.2.1
        clear hL
        refine ⟨false, e71, ?_⟩
        rw [if_pos rfl]
        go_simp
        exact ⟨⟨fun d hd => by injection hd with hd; subst hd; rfl, fun h => by cases h⟩, hS, trivial⟩
    · as_aux_lemma =>
        intro vals a W hS hL
        have e71 : a.tmps.getD 71 undef = .bool false := hL.1
        have e73 : a.tmps.getD 73 undef = .bool true := hL.2.1
        have e67 : a.tmps.getD 67 undef = .bool true := hL.2.2.1
        clear hL
        refine ⟨true, e67, ?_⟩
        rw [if_pos rfl]
        go_simp
        exact ⟨⟨fun d hd => by injection hd with hd; subst hd; rfl, fun h => by cases h⟩, hS, trivial⟩
    · as_aux_lemma =>
        intro vals a W hS hL
        have e68 : a.tmps.getD 68 undef = .bool true := hL.1
        have e74 : a.tmps.getD 74 undef = .bool true := hL.2.1
        have e67 : a.tmps.getD 67 undef = .bool true := hL.2.2.1
        clear hL
        refine ⟨true, e67, ?_⟩
        rw [if_pos rfl]
        go_simp
        exact ⟨⟨fun d hd => by injection hd with hd; subst hd; rfl, fun h => by cases h⟩, hS, trivial⟩
    · as_aux_lemma =>
        intro vals a W hS hL
        have e67 : a.tmps.getD 67 undef = .bool true := hL.1
        have e75 : a.tmps.getD 75 undef = .bool true := hL.2.1
        clear hL
        go_simp
        exact ⟨⟨fun d hd => by injection hd with hd; subst hd; rfl, fun h => by cases h⟩, hS, trivial⟩
    · as_aux_lemma =>
        intro vals a W hS hL
        have e76 : a.tmps.getD 76 undef = .bool true := hL.1
        clear hL
        go_simp
        exact ⟨⟨fun d hd => by injection hd with hd; subst hd; rfl, fun h => by cases h⟩, hS, trivial⟩
    · as_aux_lemma =>
        intro vals a W hS hL
        have e3 : a.tmps.getD 3 undef = .bool false := hL.1
        have e77 : a.tmps.getD 77 undef = .bool true := hL.2.1
        clear hL
        refine ⟨true, e77, ?_⟩
        rw [if_pos rfl]
        go_simp
        exact ⟨⟨fun d hd => by injection hd with hd; subst hd; rfl, fun h => by cases h⟩, hS, trivial⟩
    · as_aux_lemma =>
        intro vals a W hS hL
        have e6 : a.tmps.getD 6 undef = .string ⟨#[70, 65, 76, 83, 69]⟩ := hL.1
        have e77 : a.tmps.getD 77 undef = .bool true := hL.2.1
        clear hL
        refine ⟨true, e77, ?_⟩
        rw [if_pos rfl]
        go_simp
        exact ⟨⟨fun d hd => by injection hd with hd; subst hd; rfl, fun h => by cases h⟩, hS, trivial⟩
    · as_aux_lemma =>
        intro vals a W hS hL
        have e79 : a.tmps.getD 79 undef = .string ⟨#[70, 65, 76, 83, 69]⟩ := hL.1
        have e77 : a.tmps.getD 77 undef = .bool true := hL.2.1
        clear hL
        refine ⟨true, e77, ?_⟩
        rw [if_pos rfl]
        go_simp
        exact ⟨⟨fun d hd => by injection hd with hd; subst hd; rfl, fun h => by cases h⟩, hS, trivial⟩
    · as_aux_lemma =>
        intro vals a W hS hL
        have e78 : a.tmps.getD 78 undef = .bool false := hL.1
        have e80 : a.tmps.getD 80 undef = .bool false := hL.2.1
        have e77 : a.tmps.getD 77 undef = .bool true := hL.2.2.1
        clear hL
        refine ⟨true, e77, ?_⟩
        rw [if_pos rfl]
        go_simp
        exact ⟨⟨fun d hd => by injection hd with hd; subst hd; rfl, fun h => by cases h⟩, hS, trivial⟩
    · as_aux_lemma =>
        intro vals a W hS hL
        have e77 : a.tmps.getD 77 undef = .bool true := hL.1
        have e81 : a.tmps.getD 81 undef = .bool true := hL.2.1
        clear hL
        go_simp
        exact ⟨⟨fun d hd => by injection hd with hd; subst hd; rfl, fun h => by cases h⟩, hS, trivial⟩
    · as_aux_lemma =>
        intro vals a W hS hL
        have e82 : a.tmps.getD 82 undef = .bool true := hL.1
        clear hL
        go_simp
        exact ⟨⟨fun d hd => by injection hd with hd; subst hd; rfl, fun h => by cases h⟩, hS, trivial⟩
    · as_aux_lemma =>
        intro vals a W hS hL
        have e5 : a.tmps.getD 5 undef = .bool true := hL.1
        have e83 : a.tmps.getD 83 undef = .bool true := hL.2.1
        clear hL
        refine ⟨true, e83, ?_⟩
        rw [if_pos rfl]
        go_simp
        exact ⟨⟨fun d hd => by injection hd with hd; subst hd; rfl, fun h => by cases h⟩, hS, trivial⟩
    · as_aux_lemma =>
        intro vals a W hS hL
        have e84 : a.tmps.getD 84 undef = .bool true := hL.1
        have e83 : a.tmps.getD 83 undef = .bool true := hL.2.1
        clear hL
        refine ⟨true, e83, ?_⟩
        rw [if_pos rfl]
        go_simp
        exact ⟨⟨fun d hd => by injection hd with hd; subst hd; rfl, fun h => by cases h⟩, hS, trivial⟩
    · as_aux_lemma =>
        intro vals a W hS hL
        have e4 : a.tmps.getD 4 undef = .pointer (some ⟨w3.heap.size, 0, none⟩) := hL.1
        have e85 : a.tmps.getD 85 undef = .bool true := hL.2.1
        clear hL
        refine ⟨true, e85, ?_⟩
        rw [if_neg (by decide)]
        exact ⟨⟨fun d hd => by injection hd with hd; subst hd; rfl, fun h => by cases h⟩, trivial⟩
    · as_aux_lemma =>
        intro vals a W hS hL
        have e85 : a.tmps.getD 85 undef = .bool true := hL.1
        clear hL
        refine ⟨true, e85, ?_⟩
        rw [if_neg (by decide)]
        exact ⟨⟨fun d hd => by injection hd with hd; subst hd; rfl, fun h => by cases h⟩, trivial⟩
    · as_aux_lemma =>
        intro vals a W hS hL
        have e86 : a.tmps.getD 86 undef = undef := hL.1
        have e87 : a.tmps.getD 87 undef = undef := hL.2.1
        have e85 : a.tmps.getD 85 undef = .bool true := hL.2.2.1
        clear hL
        refine ⟨true, e85, ?_⟩
        rw [if_neg (by decide)]
        exact ⟨⟨fun d hd => by injection hd with hd; subst hd; rfl, fun h => by cases h⟩, trivial⟩
    · as_aux_lemma =>
        intro vals a W hS hL
        have e85 : a.tmps.getD 85 undef = .bool true := hL.1
        have e88 : a.tmps.getD 88 undef = undef := hL.2.1
        have e83 : a.tmps.getD 83 undef = .bool true := hL.2.2.1
        clear hL
        refine ⟨true, e83, ?_⟩
        rw [if_pos rfl]
        go_simp
        exact ⟨⟨fun d hd => by injection hd with hd; subst hd; rfl, fun h => by cases h⟩, hS, trivial⟩
    · as_aux_lemma =>
        intro vals a W hS hL
        have e83 : a.tmps.getD 83 undef = .bool true := hL.1
        have e89 : a.tmps.getD 89 undef = .bool true := hL.2.1
        clear hL
        go_simp
        exact ⟨⟨fun d hd => by injection hd with hd; subst hd; rfl, fun h => by cases h⟩, hS, trivial⟩
    · as_aux_lemma =>
        intro vals a W hS hL
        have e90 : a.tmps.getD 90 undef = .bool true := hL.1
        clear hL
        go_simp
        exact ⟨⟨fun d hd => by injection hd with hd; subst hd; rfl, fun h => by cases h⟩, hS, trivial⟩
  · intro a W' vals hd hsz hT hF hv hP hS
    obtain rfl : vals = [] := List.eq_nil_of_length_eq_zero hv
    have hS2 : SX w 1 ([] : List Stp) [] ([(w4.heap.size, 25, #[.int .i64 0, .int .i64 0, .int .i64 0, .string ⟨#[]⟩, .bool false, .int .i64 0]), (w3.heap.size, 25, #[.int .i64 0, .int .i64 0, .int .i64 0, .string ⟨#[]⟩, .bool false, .int .i64 0]), (w.heap.size, 25, #[.int .i64 2, .int .i64 0, .int .i64 0, .string ⟨#[70, 65, 76, 83, 69]⟩, .bool false, .int .i64 0])] : List (Nat × TypeId × Array Value)) W' := hS
    clear hS
    have hB0 := hS2
    have hB : SB w 1 ([(w4.heap.size, 25, #[.int .i64 0, .int .i64 0, .int .i64 0, .string ⟨#[]⟩, .bool false, .int .i64 0]), (w3.heap.size, 25, #[.int .i64 0, .int .i64 0, .int .i64 0, .string ⟨#[]⟩, .bool false, .int .i64 0]), (w.heap.size, 25, #[.int .i64 2, .int .i64 0, .int .i64 0, .string ⟨#[70, 65, 76, 83, 69]⟩, .bool false, .int .i64 0])] : List (Nat × TypeId × Array Value)) W' := hB0
    clear hB0
    have e2 : a.tmps.getD 2 undef = .bool true := hT 2 (by simp)
    clear hT hF hP
    go_wp2
    refine bodyPost_ret (v := .bool true) ?_ hd ⟨rfl, hB.bel⟩
    rw [Array.getD_eq_getD_getElem?] at e2
    simp [results, Tryd.results5, go_sem, e2]

set_option maxRecDepth 20000 in
set_option maxHeartbeats 2000000 in
theorem truths_str {w : World} (t : List UInt8) (h : t.length ≤ 1000) (h1 : (t == [84, 82, 85, 69]) = false) (h2 : (t == [70, 65, 76, 83, 69]) = false) (HK : ∀ W : World, Below w.heap.size w W → Calls Tryd.prog 7 #[.agg #[.int .i64 2, .int .i64 0, .int .i64 0, .string ⟨t.toArray⟩, .bool false, .int .i64 0]] W fun x w' => x = .returned (.int .i64 0) ∧ Below W.heap.size W w') (K1 : ∀ W : World, Calls Tryd.prog 12 #[.agg #[.int .i64 2, .int .i64 0, .int .i64 0, .string ⟨t.toArray⟩, .bool false, .int .i64 0]] W fun x w' => x = .returned (.tuple #[.bool false, .agg #[.int .i64 4, .int .i64 0, .int .i64 0, .string ⟨#[]⟩, .bool false, .int .i64 15], .bool false]) ∧ Below W.heap.size W w') (K2 : ∀ W : World, Below w.heap.size w W → Calls Tryd.prog 13 #[.agg #[.int .i64 2, .int .i64 0, .int .i64 0, .string ⟨t.toArray⟩, .bool false, .int .i64 0]] W fun x w' => x = .returned (.tuple #[.string ⟨t.toArray⟩, .agg #[.int .i64 0, .int .i64 0, .int .i64 0, .string ⟨#[]⟩, .bool false, .int .i64 0], .bool true]) ∧ Below W.heap.size W w') :
    Calls Tryd.prog 5 #[.agg #[.int .i64 2, .int .i64 0, .int .i64 0, .string ⟨t.toArray⟩, .bool false, .int .i64 0]] w fun x w' => x = .returned (.bool true) ∧ Below w.heap.size w w' := by
  have HN := Lib.hid (fun W : World => known9_any (w := W))
  have HC := Lib.hid HK
  have H1 := Lib.hid K1
  have H2 := Lib.hid K2
  clear HK K1 K2
  have h' : ¬ (1000 : Int) < ((t.length : Nat) : Int) := by omega
  have Hq1 := Lib.hid h1
  have Hq2 := Lib.hid h2
  clear h h1 h2
  have HB := Lib.hid (sb1 w 25 #[.int .i64 2, .int .i64 0, .int .i64 0, .string ⟨t.toArray⟩, .bool false, .int .i64 0])
  go_enter Tryd.func5, Tryd.ntmps5
  go_wp2_with fail
  refine (HN.out _).mono ?_
  rintro x w1 ⟨rfl, hb⟩
  have hB := HB.out.call hb
  clear hb HB
  have HB := Lib.hid hB
  clear hB
  have kv := HB.out.box (i := 0) rfl
  have cv0 := kv.cell 0
  have cv1 := kv.cell 1
  have cv2 := kv.cell 2
  have cv3 := kv.cell 3
  have cv4 := kv.cell 4
  have cv5 := kv.cell 5
  clear kv
  go_wp2_with fail
  refine (HC.out _ HB.out.bel).mono ?_
  rintro x w2 ⟨rfl, hb⟩
  have hB := HB.out.call hb
  clear hb HB
  have HB := Lib.hid hB
  clear hB
  clear cv0 cv1 cv2 cv3 cv4 cv5
  have kv := HB.out.box (i := 0) rfl
  have cv0 := kv.cell 0
  have cv1 := kv.cell 1
  have cv2 := kv.cell 2
  have cv3 := kv.cell 3
  have cv4 := kv.cell 4
  have cv5 := kv.cell 5
  clear kv
  go_wp2_with fail
  refine (H1.out _).mono ?_
  rintro x w3 ⟨rfl, hb⟩
  have hB := HB.out.call hb
  clear hb HB
  have HB := Lib.hid hB
  clear hB
  have hB := HB.out.alloc 25 #[.int .i64 4, .int .i64 0, .int .i64 0, .string ⟨#[]⟩, .bool false, .int .i64 15]
  clear HB
  have HB := Lib.hid hB
  clear hB
  clear cv0 cv1 cv2 cv3 cv4 cv5
  have kv := HB.out.box (i := 1) rfl
  have cv0 := kv.cell 0
  have cv1 := kv.cell 1
  have cv2 := kv.cell 2
  have cv3 := kv.cell 3
  have cv4 := kv.cell 4
  have cv5 := kv.cell 5
  clear kv
  go_wp2_with fail
  refine (H2.out _ HB.out.bel).mono ?_
  rintro x w4 ⟨rfl, hb⟩
  have hB := HB.out.call hb
  clear hb HB
  have HB := Lib.hid hB
  clear hB
  have hB := HB.out.alloc 25 #[.int .i64 0, .int .i64 0, .int .i64 0, .string ⟨#[]⟩, .bool false, .int .i64 0]
  clear HB
  have HB := Lib.hid hB
  clear hB
  clear cv0 cv1 cv2 cv3 cv4 cv5
  have kv := HB.out.box (i := 2) rfl
  have cv0 := kv.cell 0
  have cv1 := kv.cell 1
  have cv2 := kv.cell 2
  have cv3 := kv.cell 3
  have cv4 := kv.cell 4
  have cv5 := kv.cell 5
  clear kv
  have ky := HB.out.box (i := 1) rfl
  have cy0 := ky.cell 0
  have cy1 := ky.cell 1
  have cy2 := ky.cell 2
  have cy3 := ky.cell 3
  have cy4 := ky.cell 4
  have cy5 := ky.cell 5
  clear ky
  clear HN HC H1 H2
  have HF := Lib.hid (fun W : World => fault_any (w := W) 15)
  go_wp2_with fail
  clear cv0 cv1 cv2 cv3 cv4 cv5
  clear cy0 cy1 cy2 cy3 cy4 cy5
  refine wp_region_phases (S := (fun vals W => SX w 1 ([] : List Stp) vals ([(w4.heap.size, 25, #[.int .i64 0, .int .i64 0, .int .i64 0, .string ⟨#[]⟩, .bool false, .int .i64 0]), (w3.heap.size, 25, #[.int .i64 4, .int .i64 0, .int .i64 0, .string ⟨#[]⟩, .bool false, .int .i64 15]), (w.heap.size, 25, #[.int .i64 2, .int .i64 0, .int .i64 0, .string ⟨t.toArray⟩, .bool false, .int .i64 0])] : List (Nat × TypeId × Array Value)) W)) (E := (fun _ _ => True)) [] [(1, Is (.pointer (some ⟨w.heap.size, 0, none⟩))), (3, Is (.bool false)), (4, Is (.pointer (some ⟨w3.heap.size, 0, none⟩))), (5, Is (.bool false)), (6, Is (.string ⟨t.toArray⟩)), (8, Is (.bool true))] [(60, Is (.bool true)), (61, Is (.bool true)), (62, Is (.string ⟨t.toArray⟩)), (63, Is (.pointer (some ⟨w.heap.size, 3, none⟩))), (64, Is (.string ⟨t.toArray⟩)), (65, Is (.bool true)), (66, Is (.bool true)), (67, Is (.bool true)), (68, Is (.bool false)), (69, Is (.string ⟨t.toArray⟩)), (70, Is (.bool false)), (71, Is (.bool false)), (72, Is (.string ⟨t.toArray⟩)), (73, Is (.bool false)), (74, Is (.bool false)), (75, Is (.bool true)), (76, Is (.bool true)), (77, Is (.bool true)), (78, Is (.bool false)), (79, Is (.string ⟨t.toArray⟩)), (80, Is (.bool false)), (81, Is (.bool true)), (82, Is (.bool true)), (83, Is (.bool true)), (84, Is (.bool false)), (85, Is (.bool false)), (86, Is (.agg #[.int .i64 4, .int .i64 0, .int .i64 0, .string ⟨#[]⟩, .bool false, .int .i64 15])), (87, Is (.agg #[.int .i64 4, .int .i64 0, .int .i64 0, .string ⟨#[]⟩, .bool false, .int .i64 15])), (88, Is (.bool true)), (89, Is (.bool true)), (90, Is (.bool true)), (2, Is (.bool true))]
    [.op [8] none, .op [60] none, .op [6, 61] (some (61, true)), .op [1, 61] (some (61, true)), .op [63, 61] (some (61, true)), .op [62, 64, 61] (some (61, true)), .op [61, 65] none, .op [66] none, .op [5, 67] (some (67, true)), .op [6, 67] (some (67, true)), .op [69, 67] (some (67, true)), .op [70, 67] (some (67, true)), .op [6, 71] (some (71, false)), .op [72, 71] (some (71, false)), .op [71, 73, 67] (some (67, true)), .op [68, 74, 67] (some (67, true)), .op [67, 75] none, .op [76] none, .op [3, 77] (some (77, true)), .op [6, 77] (some (77, true)), .op [79, 77] (some (77, true)), .op [78, 80, 77] (some (77, true)), .op [77, 81] none, .op [82] none, .op [5, 83] (some (83, true)), .op [84, 83] (some (83, true)), .op [4, 85] (some (85, false)), .op [85] (some (85, false)), .op [86, 87, 85] (some (85, false)), .op [85, 88, 83] (some (83, true)), .op [83, 89] none, .op [90] none] (by as_aux_lemma => kernel_rfl) ?_ ?_ ?_ ?_ ?_ ⟨stable_is _ _, stable_is _ _, stable_is _ _, stable_is _ _, stable_is _ _, stable_is _ _, stable_is _ _, stable_is _ _, stable_is _ _, stable_is _ _, stable_is _ _, stable_is _ _, stable_is _ _, stable_is _ _, stable_is _ _, stable_is _ _, stable_is _ _, stable_is _ _, stable_is _ _, stable_is _ _, stable_is _ _, stable_is _ _, stable_is _ _, stable_is _ _, stable_is _ _, stable_is _ _, stable_is _ _, stable_is _ _, stable_is _ _, stable_is _ _, stable_is _ _, stable_is _ _, stable_is _ _, stable_is _ _, stable_is _ _, stable_is _ _, stable_is _ _, stable_is _ _, trivial⟩ ?_ (HB.out.drew) ?_ ?_
  · as_aux_lemma => kernel_rfl
  · as_aux_lemma => kernel_rfl
  · as_aux_lemma => kernel_rfl
  · as_aux_lemma => kernel_rfl
  · as_aux_lemma => kernel_rfl
  · exact ⟨rfl, rfl, rfl, rfl, rfl, rfl, trivial⟩
  · refine ⟨?_, ?_, ?_, ?_, ?_, ?_, ?_, ?_, ?_, ?_, ?_, ?_, ?_, ?_, ?_, ?_, ?_, ?_, ?_, ?_, ?_, ?_, ?_, ?_, ?_, ?_, ?_, ?_, ?_, ?_, ?_, ?_, trivial⟩
    · as_aux_lemma =>
        intro vals a W hS hL
        have e8 : a.tmps.getD 8 undef = .bool true := hL.1
        clear hL
        go_simp
        exact ⟨⟨fun d hd => by injection hd with hd; subst hd; rfl, fun h => by cases h⟩, hS, trivial⟩
    · as_aux_lemma =>
        intro vals a W hS hL
        have e60 : a.tmps.getD 60 undef = .bool true := hL.1
        clear hL
        go_simp
        exact ⟨⟨fun d hd => by injection hd with hd; subst hd; rfl, fun h => by cases h⟩, hS, trivial⟩
    · as_aux_lemma =>
        intro vals a W hS hL
        have e6 : a.tmps.getD 6 undef = .string ⟨t.toArray⟩ := hL.1
        have e61 : a.tmps.getD 61 undef = .bool true := hL.2.1
        clear hL
        refine ⟨true, e61, ?_⟩
        rw [if_pos rfl]
        go_simp
        exact ⟨⟨fun d hd => by injection hd with hd; subst hd; rfl, fun h => by cases h⟩, hS, trivial⟩
    · as_aux_lemma =>
        intro vals a W hS hL
        have e1 : a.tmps.getD 1 undef = .pointer (some ⟨w.heap.size, 0, none⟩) := hL.1
        have e61 : a.tmps.getD 61 undef = .bool true := hL.2.1
        clear hL
        refine ⟨true, e61, ?_⟩
        rw [if_pos rfl]
        go_simp
        exact ⟨⟨fun d hd => by injection hd with hd; subst hd; rfl, fun h => by cases h⟩, hS, trivial⟩
    · as_aux_lemma =>
        intro vals a W hS hL
        have e63 : a.tmps.getD 63 undef = .pointer (some ⟨w.heap.size, 3, none⟩) := hL.1
        have e61 : a.tmps.getD 61 undef = .bool true := hL.2.1
        clear hL
        refine ⟨true, e61, ?_⟩
        rw [if_pos rfl]
        have kb : Bk W (w.heap.size) 25 #[.int .i64 2, .int .i64 0, .int .i64 0, .string ⟨t.toArray⟩, .bool false, .int .i64 0] := hS.bk 2 rfl rfl
        have f3 := kb.cell 3
        clear kb
        go_simp
        exact ⟨⟨fun d hd => by injection hd with hd; subst hd; rfl, fun h => by cases h⟩, hS, trivial⟩
    · as_aux_lemma =>
        intro vals a W hS hL
        have e62 : a.tmps.getD 62 undef = .string ⟨t.toArray⟩ := hL.1
        have e64 : a.tmps.getD 64 undef = .string ⟨t.toArray⟩ := hL.2.1
        have e61 : a.tmps.getD 61 undef = .bool true := hL.2.2.1
        clear hL
        refine ⟨true, e61, ?_⟩
        rw [if_pos rfl]
        go_simp
        exact ⟨⟨fun d hd => by injection hd with hd; subst hd; rfl, fun h => by cases h⟩, hS, trivial⟩
    · as_aux_lemma =>
        intro vals a W hS hL
        have e61 : a.tmps.getD 61 undef = .bool true := hL.1
        have e65 : a.tmps.getD 65 undef = .bool true := hL.2.1
        clear hL
        go_simp
        exact ⟨⟨fun d hd => by injection hd with hd; subst hd; rfl, fun h => by cases h⟩, hS, trivial⟩
    · as_aux_lemma =>
        intro vals a W hS hL
        have e66 : a.tmps.getD 66 undef = .bool true := hL.1
        clear hL
        go_simp
        exact ⟨⟨fun d hd => by injection hd with hd; subst hd; rfl, fun h => by cases h⟩, hS, trivial⟩
    · as_aux_lemma =>
        intro vals a W hS hL
        have e5 : a.tmps.getD 5 undef = .bool false := hL.1
        have e67 : a.tmps.getD 67 undef = .bool true := hL.2.1
        clear hL
        refine ⟨true, e67, ?_⟩
        rw [if_pos rfl]
        go_simp
        exact ⟨⟨fun d hd => by injection hd with hd; subst hd; rfl, fun h => by cases h⟩, hS, trivial⟩
    · as_aux_lemma =>
        intro vals a W hS hL
        have e6 : a.tmps.getD 6 undef = .string ⟨t.toArray⟩ := hL.1
        have e67 : a.tmps.getD 67 undef = .bool true := hL.2.1
        clear hL
        refine ⟨true, e67, ?_⟩
        rw [if_pos rfl]
        go_simp
        exact ⟨⟨fun d hd => by injection hd with hd; subst hd; rfl, fun h => by cases h⟩, hS, trivial⟩
    · as_aux_lemma =>
        intro vals a W hS hL
        have e69 : a.tmps.getD 69 undef = .string ⟨t.toArray⟩ := hL.1
        have e67 : a.tmps.getD 67 undef = .bool true := hL.2.1
        clear hL
        refine ⟨true, e67, ?_⟩
        rw [if_pos rfl]
        have hq := Hq1.out
        go_simp
        exact ⟨⟨fun d hd => by injection hd with hd; subst hd; rfl, fun h => by cases h⟩, hS, trivial⟩
    · as_aux_lemma =>
        intro vals a W hS hL
        have e70 : a.tmps.getD 70 undef = .bool false := hL.1
        have e67 : a.tmps.getD 67 undef = .bool true := hL.2.1
        clear hL
        refine ⟨true, e67, ?_⟩
        rw [if_pos rfl]
        go_simp
        exact ⟨⟨fun d hd => by injection hd with hd; subst hd; rfl, fun h => by cases h⟩, hS, trivial⟩
    · as_aux_lemma =>
        intro vals a W hS hL
        have e6 : a.tmps.getD 6 undef = .string ⟨t.toArray⟩ := hL.1
        have e71 : a.tmps.getD 71 undef = .bool false := hL.2.1
        clear hL
        refine ⟨false, e71, ?_⟩
        rw [if_pos rfl]
        go_simp
        exact ⟨⟨fun d hd => by injection hd with hd; subst hd; rfl, fun h => by cases h⟩, hS, trivial⟩
    · as_aux_lemma =>
        intro vals a W hS hL
        have e72 : a.tmps.getD 72 undef = .string ⟨t.toArray⟩ := hL.1
        have e71 : a.tmps.getD 71 undef = .bool false := hL.2.1
        clear hL
        refine ⟨false, e71, ?_⟩
        rw [if_pos rfl]
        have hq := Hq2.out
        go_simp
        exact ⟨⟨fun d hd => by injection hd with hd; subst hd; rfl, fun h => by cases h⟩, hS, trivial⟩
    · as_aux_lemma =>
        intro vals a W hS hL
        have e71 : a.tmps.getD 71 undef = .bool false := hL.1
        have e73 : a.tmps.getD 73 undef = .bool false := hL.2.1
        have e67 : a.tmps.getD 67 undef = .bool true := hL.2.2.1
        clear hL
        refine ⟨true, e67, ?_⟩
        rw [if_pos rfl]
        go_simp
        exact ⟨⟨fun d hd => by injection hd with hd; subst hd; rfl, fun h => by cases h⟩, hS, trivial⟩
    · as_aux_lemma =>
        intro vals a W hS hL
        have e68 : a.tmps.getD 68 undef = .bool false := hL.1
        have e74 : a.tmps.getD 74 undef = .bool false := hL.2.1
        have e67 : a.tmps.getD 67 undef = .bool true := hL.2.2.1
        clear hL
        refine ⟨true, e67, ?_⟩
        rw [if_pos rfl]
        go_simp
        exact ⟨⟨fun d hd => by injection hd with hd; subst hd; rfl, fun h => by cases h⟩, hS, trivial⟩
    · as_aux_lemma =>
        intro vals a W hS hL
        have e67 : a.tmps.getD 67 undef = .bool true := hL.1
        have e75 : a.tmps.getD 75 undef = .bool true := hL.2.1
        clear hL
        go_simp
        exact ⟨⟨fun d hd => by injection hd with hd; subst hd; rfl, fun h => by cases h⟩, hS, trivial⟩
    · as_aux_lemma =>
        intro vals a W hS hL
        have e76 : a.tmps.getD 76 undef = .bool true := hL.1
        clear hL
        go_simp
        exact ⟨⟨fun d hd => by injection hd with hd; subst hd; rfl, fun h => by cases h⟩, hS, trivial⟩
    · as_aux_lemma =>
        intro vals a W hS hL
        have e3 : a.tmps.getD 3 undef = .bool false := hL.1
        have e77 : a.tmps.getD 77 undef = .bool true := hL.2.1
        clear hL
        refine ⟨true, e77, ?_⟩
        rw [if_pos rfl]
        go_simp
        exact ⟨⟨fun d hd => by injection hd with hd; subst hd; rfl, fun h => by cases h⟩, hS, trivial⟩
    · as_aux_lemma =>
        intro vals a W hS hL
        have e6 : a.tmps.getD 6 undef = .string ⟨t.toArray⟩ := hL.1
        have e77 : a.tmps.getD 77 undef = .bool true := hL.2.1
        clear hL
        refine ⟨true, e77, ?_⟩
        rw [if_pos rfl]
        go_simp
        exact ⟨⟨fun d hd => by injection hd with hd; subst hd; rfl, fun h => by cases h⟩, hS, trivial⟩
    · as_aux_lemma =>
        intro vals a W hS hL
        have e79 : a.tmps.getD 79 undef = .string ⟨t.toArray⟩ := hL.1
        have e77 : a.tmps.getD 77 undef = .bool true := hL.2.1
        clear hL
        refine ⟨true, e77, ?_⟩
        rw [if_pos rfl]
        have hq := Hq1.out
        go_simp
        exact ⟨⟨fun d hd => by injection hd with hd; subst hd; rfl, fun h => by cases h⟩, hS, trivial⟩
    · as_aux_lemma =>
        intro vals a W hS hL
        have e78 : a.tmps.getD 78 undef = .bool false := hL.1
        have e80 : a.tmps.getD 80 undef = .bool false := hL.2.1
        have e77 : a.tmps.getD 77 undef = .bool true := hL.2.2.1
        clear hL
        refine ⟨true, e77, ?_⟩
        rw [if_pos rfl]
        go_simp
        exact ⟨⟨fun d hd => by injection hd with hd; subst hd; rfl, fun h => by cases h⟩, hS, trivial⟩
    · as_aux_lemma =>
        intro vals a W hS hL
        have e77 : a.tmps.getD 77 undef = .bool true := hL.1
        have e81 : a.tmps.getD 81 undef = .bool true := hL.2.1
        clear hL
        go_simp
        exact ⟨⟨fun d hd => by injection hd with hd; subst hd; rfl, fun h => by cases h⟩, hS, trivial⟩
    · as_aux_lemma =>
        intro vals a W hS hL
        have e82 : a.tmps.getD 82 undef = .bool true := hL.1
        clear hL
        go_simp
        exact ⟨⟨fun d hd => by injection hd with hd; subst hd; rfl, fun h => by cases h⟩, hS, trivial⟩
    · as_aux_lemma =>
        intro vals a W hS hL
        have e5 : a.tmps.getD 5 undef = .bool false := hL.1
        have e83 : a.tmps.getD 83 undef = .bool true := hL.2.1
        clear hL
        refine ⟨true, e83, ?_⟩
        rw [if_pos rfl]
        go_simp
        exact ⟨⟨fun d hd => by injection hd with hd; subst hd; rfl, fun h => by cases h⟩, hS, trivial⟩
    · as_aux_lemma =>
        intro vals a W hS hL
        have e84 : a.tmps.getD 84 undef = .bool false := hL.1
        have e83 : a.tmps.getD 83 undef = .bool true := hL.2.1
        clear hL
        refine ⟨true, e83, ?_⟩
        rw [if_pos rfl]
        go_simp
        exact ⟨⟨fun d hd => by injection hd with hd; subst hd; rfl, fun h => by cases h⟩, hS, trivial⟩
    · as_aux_lemma =>
        intro vals a W hS hL
        have e4 : a.tmps.getD 4 undef = .pointer (some ⟨w3.heap.size, 0, none⟩) := hL.1
        have e85 : a.tmps.getD 85 undef = .bool false := hL.2.1
        clear hL
        refine ⟨false, e85, ?_⟩
        rw [if_pos rfl]
        have kb : Bk W (w3.heap.size) 25 #[.int .i64 4, .int .i64 0, .int .i64 0, .string ⟨#[]⟩, .bool false, .int .i64 15] := hS.bk 1 rfl rfl
        have f0 := kb.cell 0
        have f1 := kb.cell 1
        have f2 := kb.cell 2
        have f3 := kb.cell 3
        have f4 := kb.cell 4
        have f5 := kb.cell 5
        clear kb
        go_simp
        exact ⟨⟨fun d hd => by injection hd with hd; subst hd; rfl, fun h => by cases h⟩, hS, trivial⟩
    · as_aux_lemma =>
        intro vals a W hS hL
        have e85 : a.tmps.getD 85 undef = .bool false := hL.1
        clear hL
        refine ⟨false, e85, ?_⟩
        rw [if_pos rfl]
        go_simp
        refine (HF.out W).mono ?_
        rintro e W' ⟨rfl, hb⟩
        exact ⟨_, rfl, ⟨fun d hd => by injection hd with hd; subst hd; rfl, fun h => by cases h⟩, hS.call hb, trivial⟩
    · as_aux_lemma =>
        intro vals a W hS hL
        have e86 : a.tmps.getD 86 undef = .agg #[.int .i64 4, .int .i64 0, .int .i64 0, .string ⟨#[]⟩, .bool false, .int .i64 15] := hL.1
        have e87 : a.tmps.getD 87 undef = .agg #[.int .i64 4, .int .i64 0, .int .i64 0, .string ⟨#[]⟩, .bool false, .int .i64 15] := hL.2.1
        have e85 : a.tmps.getD 85 undef = .bool false := hL.2.2.1
        clear hL
        refine ⟨false, e85, ?_⟩
        rw [if_pos rfl]
        go_simp
        exact ⟨⟨fun d hd => by injection hd with hd; subst hd; rfl, fun h => by cases h⟩, hS, trivial⟩
    · as_aux_lemma =>
        intro vals a W hS hL
        have e85 : a.tmps.getD 85 undef = .bool false := hL.1
        have e88 : a.tmps.getD 88 undef = .bool true := hL.2.1
        have e83 : a.tmps.getD 83 undef = .bool true := hL.2.2.1
        clear hL
        refine ⟨true, e83, ?_⟩
        rw [if_pos rfl]
        go_simp
        exact ⟨⟨fun d hd => by injection hd with hd; subst hd; rfl, fun h => by cases h⟩, hS, trivial⟩
    · as_aux_lemma =>
        intro vals a W hS hL
        have e83 : a.tmps.getD 83 undef = .bool true := hL.1
        have e89 : a.tmps.getD 89 undef = .bool true := hL.2.1
        clear hL
        go_simp
        exact ⟨⟨fun d hd => by injection hd with hd; subst hd; rfl, fun h => by cases h⟩, hS, trivial⟩
    · as_aux_lemma =>
        intro vals a W hS hL
        have e90 : a.tmps.getD 90 undef = .bool true := hL.1
        clear hL
        go_simp
        exact ⟨⟨fun d hd => by injection hd with hd; subst hd; rfl, fun h => by cases h⟩, hS, trivial⟩
  · intro a W' vals hd hsz hT hF hv hP hS
    obtain rfl : vals = [] := List.eq_nil_of_length_eq_zero hv
    have hS2 : SX w 1 ([] : List Stp) [] ([(w4.heap.size, 25, #[.int .i64 0, .int .i64 0, .int .i64 0, .string ⟨#[]⟩, .bool false, .int .i64 0]), (w3.heap.size, 25, #[.int .i64 4, .int .i64 0, .int .i64 0, .string ⟨#[]⟩, .bool false, .int .i64 15]), (w.heap.size, 25, #[.int .i64 2, .int .i64 0, .int .i64 0, .string ⟨t.toArray⟩, .bool false, .int .i64 0])] : List (Nat × TypeId × Array Value)) W' := hS
    clear hS
    have hB0 := hS2
    have hB : SB w 1 ([(w4.heap.size, 25, #[.int .i64 0, .int .i64 0, .int .i64 0, .string ⟨#[]⟩, .bool false, .int .i64 0]), (w3.heap.size, 25, #[.int .i64 4, .int .i64 0, .int .i64 0, .string ⟨#[]⟩, .bool false, .int .i64 15]), (w.heap.size, 25, #[.int .i64 2, .int .i64 0, .int .i64 0, .string ⟨t.toArray⟩, .bool false, .int .i64 0])] : List (Nat × TypeId × Array Value)) W' := hB0
    clear hB0
    have e2 : a.tmps.getD 2 undef = .bool true := hT 2 (by simp)
    clear hT hF hP
    go_wp2
    refine bodyPost_ret (v := .bool true) ?_ hd ⟨rfl, hB.bel⟩
    rw [Array.getD_eq_getD_getElem?] at e2
    simp [results, Tryd.results5, go_sem, e2]

theorem l_eq {l m : List UInt8} (h : (l == m) = false) : ((⟨l.toArray⟩ : ByteArray).toList == m) = false := by rw [ByteArray.toList_eq]; exact h
theorem head_ne {c : UInt8} {r : List UInt8} (h : c.toNat < 58) : ((c :: r) == [84, 82, 85, 69]) = false ∧ ((c :: r) == [70, 65, 76, 83, 69]) = false := by
  constructor
  · refine beq_eq_false_iff_ne.2 fun he => ?_
    injection he with h1 _
    subst h1
    revert h
    decide
  · refine beq_eq_false_iff_ne.2 fun he => ?_
    injection he with h1 _
    subst h1
    revert h
    decide
theorem valTruths_any {w : World} (HT : Tens w) (HV : Val w) (k m s : Int) (t : ByteArray) (b : Bool) (e : Int) (m0 : -9223372036854775808 ≤ m) (m1 : m ≤ 9223372036854775807) :
    Calls Tryd.prog 5 #[.agg #[.int .i64 k, .int .i64 m, .int .i64 s, .string t, .bool b, .int .i64 e]] w fun x w' => x = .returned (.bool true) ∧ Below w.heap.size w w' := by
  by_cases hl : 1000 < t.size
  · exact truths_long k m s t b e hl
  · have hc : ∀ W : World, Below w.heap.size w W → Calls Tryd.prog 7 #[.agg #[.int .i64 k, .int .i64 m, .int .i64 s, .string t, .bool b, .int .i64 e]] W fun x w' => x = .returned (.int .i64 (ckV k m s t b e)) ∧ Below W.heap.size W w' := fun W hb => check_v (HV.below hb) k m s t b e (by omega)
    by_cases h0 : ckV k m s t b e = 0
    · rw [h0] at hc
      obtain ⟨x, hx, hsx, -, e0⟩ := ckV_form h0 m0 m1
      rw [e0] at hc ⊢
      cases x with
      | blank => exact truths_blank hc (fun W => truth_blank) (fun W _ => words_blank) (fun W => truth_none _ (l_eq (l := []) rfl) (l_eq (l := []) rfl))
      | num m' s' =>
        obtain ⟨c, r, hd, hcc⟩ := decTx_head m' s'
        obtain ⟨n1, n2⟩ := head_ne (r := r) hcc
        rw [← hd] at n1 n2
        have W2 : ∀ W : World, Below w.heap.size w W → Calls Tryd.prog 13 #[xval (.num m' s')] W fun y w' => y = .returned (.tuple #[.string ⟨(decTx m' s').toArray⟩, .agg #[.int .i64 0, .int .i64 0, .int .i64 0, .string ⟨#[]⟩, .bool false, .int .i64 0], .bool true]) ∧ Below W.heap.size W w' := fun W hb => words_num (HT.below hb) hx
        by_cases hm : m' = 0
        · subst hm
          exact truths_num0 s' _ hc (fun W => truth_num0 _) W2 (fun W => truth_none _ (l_eq n1) (l_eq n2))
        · exact truths_numn m' s' _ hm hc (fun W => truth_numn _ _ hm) W2 (fun W => truth_none _ (l_eq n1) (l_eq n2))
      | str l =>
        have hll : l.length ≤ t.size := hsx
        by_cases q1 : l = [84, 82, 85, 69]
        · subst q1
          exact truths_str_yes hc (fun W => truth_yes) (fun W _ => words_str _)
        · by_cases q2 : l = [70, 65, 76, 83, 69]
          · subst q2
            exact truths_str_no hc (fun W => truth_no) (fun W _ => words_str _)
          · have n1 : (l == [84, 82, 85, 69]) = false := beq_eq_false_iff_ne.2 q1
            have n2 : (l == [70, 65, 76, 83, 69]) = false := beq_eq_false_iff_ne.2 q2
            exact truths_str l (by omega) n1 n2 hc (fun W => truth_none _ (l_eq n1) (l_eq n2)) (fun W _ => words_str _)
      | bool b' =>
        cases b'
        · exact truths_bool_false hc (fun W => truth_bool _) (fun W _ => words_bool _) (fun W => truth_no)
        · exact truths_bool_true hc (fun W => truth_bool _) (fun W _ => words_bool _) (fun W => truth_yes)
      | err e' => exact truths_err e' hc (fun W => truth_err _) (fun W _ => words_err _)
    · exact truths_bad k m s t b e _ (by omega) h0 hc
end Go.Proofs.YtmbjmgmnicacpaaDoor
