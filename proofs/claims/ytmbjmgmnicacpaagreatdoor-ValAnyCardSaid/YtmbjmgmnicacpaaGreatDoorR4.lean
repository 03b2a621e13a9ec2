/- The reference's CompareVals by its contract. Condition: its calls keep theirs. -/
/- The reference's CompareVals of any two values that may be, by its contract: it tells what val.Compare tells. Condition: the texts are not too long. -/
import Derived.Test.YtmbjmgmnicacpaaGreatDoorR1
import Derived.Test.YtmbjmgmnicacpaaGreatDoorSums
namespace Go.Proofs.YtmbjmgmnicacpaaGreatDoor
open Go.RowKit

set_option maxRecDepth 20000 in
set_option maxHeartbeats 4000000 in
theorem bcmp_kl {w : World} {k m s : Int} {t : ByteArray} {b : Bool} {e : Int} {k' m' s' : Int} {t' : ByteArray} {b' : Bool} {e' : Int} {x0 x1 x2 : Int} {x3 : ByteArray} {x4 : Bool} {x5 : Int} {y0 y1 y2 : Int} {y3 : ByteArray} {y4 : Bool} {y5 : Int}
    (KX : ∀ W : World, Calls Tryz.prog 43 #[.agg #[.int .i64 k, .int .i64 m, .int .i64 s, .string t, .bool b, .int .i64 e], .int .i64 k'] W fun x w' => x = .returned (.agg #[.int .i64 x0, .int .i64 x1, .int .i64 x2, .string x3, .bool x4, .int .i64 x5]) ∧ Below W.heap.size W w')
    (KY : ∀ W : World, Calls Tryz.prog 43 #[.agg #[.int .i64 k', .int .i64 m', .int .i64 s', .string t', .bool b', .int .i64 e'], .int .i64 k] W fun x w' => x = .returned (.agg #[.int .i64 y0, .int .i64 y1, .int .i64 y2, .string y3, .bool y4, .int .i64 y5]) ∧ Below W.heap.size W w') (h : x0 < y0) :
    Calls Tryz.prog 19 #[.agg #[.int .i64 k, .int .i64 m, .int .i64 s, .string t, .bool b, .int .i64 e], .agg #[.int .i64 k', .int .i64 m', .int .i64 s', .string t', .bool b', .int .i64 e']] w fun x w' => x = .returned (.int .i64 (-1)) ∧ Below w.heap.size w w' := by
  have HX := Lib.hid KX
  have HY := Lib.hid KY
  clear KX KY
  have h' : (x0 != y0) = true := bne_iff_ne.2 (by omega)
  have h0 : ¬ x0 = y0 := by omega
  have HB := Lib.hid ((sb1 w 29 #[.int .i64 k, .int .i64 m, .int .i64 s, .string t, .bool b, .int .i64 e]).push (by simp) 29 #[.int .i64 k', .int .i64 m', .int .i64 s', .string t', .bool b', .int .i64 e'])
  go_enter Tryz.func19, Tryz.ntmps19
  go_wp2_with fail
  refine (HX.out _).mono ?_
  rintro x w1 ⟨rfl, hb⟩
  have hB := (HB.out.call hb).alloc 29 #[.int .i64 x0, .int .i64 x1, .int .i64 x2, .string x3, .bool x4, .int .i64 x5]
  clear hb HB
  have HB := Lib.hid hB
  clear hB
  have kb := HB.out.box (i := 1) rfl
  have cb0 := kb.cell 0
  have cb1 := kb.cell 1
  have cb2 := kb.cell 2
  have cb3 := kb.cell 3
  have cb4 := kb.cell 4
  have cb5 := kb.cell 5
  clear kb
  have ka := HB.out.box (i := 2) rfl
  have ca0 := ka.cell 0
  have ca1 := ka.cell 1
  have ca2 := ka.cell 2
  have ca3 := ka.cell 3
  have ca4 := ka.cell 4
  have ca5 := ka.cell 5
  clear ka
  have kx := HB.out.box (i := 0) rfl
  have cx0 := kx.cell 0
  have cx1 := kx.cell 1
  have cx2 := kx.cell 2
  have cx3 := kx.cell 3
  have cx4 := kx.cell 4
  have cx5 := kx.cell 5
  clear kx
  go_wp2_with fail
  refine (HY.out _).mono ?_
  rintro x w2 ⟨rfl, hb⟩
  have hB := (HB.out.call hb).alloc 29 #[.int .i64 y0, .int .i64 y1, .int .i64 y2, .string y3, .bool y4, .int .i64 y5]
  clear hb HB ca0 ca1 ca2 ca3 ca4 ca5 cb0 cb1 cb2 cb3 cb4 cb5 cx0 cx1 cx2 cx3 cx4 cx5
  have HB := Lib.hid hB
  clear hB
  have kx := HB.out.box (i := 1) rfl
  have cx0 := kx.cell 0
  have cx1 := kx.cell 1
  have cx2 := kx.cell 2
  have cx3 := kx.cell 3
  have cx4 := kx.cell 4
  have cx5 := kx.cell 5
  clear kx
  have ky := HB.out.box (i := 0) rfl
  have cy0 := ky.cell 0
  have cy1 := ky.cell 1
  have cy2 := ky.cell 2
  have cy3 := ky.cell 3
  have cy4 := ky.cell 4
  have cy5 := ky.cell 5
  clear ky
  have hbel := HB.out.bel
  clear HB HX HY
  go_wp2
  go_ret
  exact ⟨rfl, hbel⟩

set_option maxRecDepth 20000 in
set_option maxHeartbeats 4000000 in
theorem bcmp_kg {w : World} {k m s : Int} {t : ByteArray} {b : Bool} {e : Int} {k' m' s' : Int} {t' : ByteArray} {b' : Bool} {e' : Int} {x0 x1 x2 : Int} {x3 : ByteArray} {x4 : Bool} {x5 : Int} {y0 y1 y2 : Int} {y3 : ByteArray} {y4 : Bool} {y5 : Int}
    (KX : ∀ W : World, Calls Tryz.prog 43 #[.agg #[.int .i64 k, .int .i64 m, .int .i64 s, .string t, .bool b, .int .i64 e], .int .i64 k'] W fun x w' => x = .returned (.agg #[.int .i64 x0, .int .i64 x1, .int .i64 x2, .string x3, .bool x4, .int .i64 x5]) ∧ Below W.heap.size W w')
    (KY : ∀ W : World, Calls Tryz.prog 43 #[.agg #[.int .i64 k', .int .i64 m', .int .i64 s', .string t', .bool b', .int .i64 e'], .int .i64 k] W fun x w' => x = .returned (.agg #[.int .i64 y0, .int .i64 y1, .int .i64 y2, .string y3, .bool y4, .int .i64 y5]) ∧ Below W.heap.size W w') (h : y0 < x0) :
    Calls Tryz.prog 19 #[.agg #[.int .i64 k, .int .i64 m, .int .i64 s, .string t, .bool b, .int .i64 e], .agg #[.int .i64 k', .int .i64 m', .int .i64 s', .string t', .bool b', .int .i64 e']] w fun x w' => x = .returned (.int .i64 1) ∧ Below w.heap.size w w' := by
  have HX := Lib.hid KX
  have HY := Lib.hid KY
  clear KX KY
  have h' : (x0 != y0) = true := bne_iff_ne.2 (by omega)
  have h0 : ¬ x0 = y0 := by omega
  have h1 : ¬ x0 < y0 := by omega
  clear h
  have HB := Lib.hid ((sb1 w 29 #[.int .i64 k, .int .i64 m, .int .i64 s, .string t, .bool b, .int .i64 e]).push (by simp) 29 #[.int .i64 k', .int .i64 m', .int .i64 s', .string t', .bool b', .int .i64 e'])
  go_enter Tryz.func19, Tryz.ntmps19
  go_wp2_with fail
  refine (HX.out _).mono ?_
  rintro x w1 ⟨rfl, hb⟩
  have hB := (HB.out.call hb).alloc 29 #[.int .i64 x0, .int .i64 x1, .int .i64 x2, .string x3, .bool x4, .int .i64 x5]
  clear hb HB
  have HB := Lib.hid hB
  clear hB
  have kb := HB.out.box (i := 1) rfl
  have cb0 := kb.cell 0
  have cb1 := kb.cell 1
  have cb2 := kb.cell 2
  have cb3 := kb.cell 3
  have cb4 := kb.cell 4
  have cb5 := kb.cell 5
  clear kb
  have ka := HB.out.box (i := 2) rfl
  have ca0 := ka.cell 0
  have ca1 := ka.cell 1
  have ca2 := ka.cell 2
  have ca3 := ka.cell 3
  have ca4 := ka.cell 4
  have ca5 := ka.cell 5
  clear ka
  have kx := HB.out.box (i := 0) rfl
  have cx0 := kx.cell 0
  have cx1 := kx.cell 1
  have cx2 := kx.cell 2
  have cx3 := kx.cell 3
  have cx4 := kx.cell 4
  have cx5 := kx.cell 5
  clear kx
  go_wp2_with fail
  refine (HY.out _).mono ?_
  rintro x w2 ⟨rfl, hb⟩
  have hB := (HB.out.call hb).alloc 29 #[.int .i64 y0, .int .i64 y1, .int .i64 y2, .string y3, .bool y4, .int .i64 y5]
  clear hb HB ca0 ca1 ca2 ca3 ca4 ca5 cb0 cb1 cb2 cb3 cb4 cb5 cx0 cx1 cx2 cx3 cx4 cx5
  have HB := Lib.hid hB
  clear hB
  have kx := HB.out.box (i := 1) rfl
  have cx0 := kx.cell 0
  have cx1 := kx.cell 1
  have cx2 := kx.cell 2
  have cx3 := kx.cell 3
  have cx4 := kx.cell 4
  have cx5 := kx.cell 5
  clear kx
  have ky := HB.out.box (i := 0) rfl
  have cy0 := ky.cell 0
  have cy1 := ky.cell 1
  have cy2 := ky.cell 2
  have cy3 := ky.cell 3
  have cy4 := ky.cell 4
  have cy5 := ky.cell 5
  clear ky
  have hbel := HB.out.bel
  clear HB HX HY
  go_wp2
  go_ret
  exact ⟨rfl, hbel⟩

set_option maxRecDepth 20000 in
set_option maxHeartbeats 4000000 in
theorem bcmp_blank {w : World} {k m s : Int} {t : ByteArray} {b : Bool} {e : Int} {k' m' s' : Int} {t' : ByteArray} {b' : Bool} {e' : Int} {x1 x2 : Int} {x3 : ByteArray} {x4 : Bool} {x5 : Int} {y1 y2 : Int} {y3 : ByteArray} {y4 : Bool} {y5 : Int}
    (KX : ∀ W : World, Calls Tryz.prog 43 #[.agg #[.int .i64 k, .int .i64 m, .int .i64 s, .string t, .bool b, .int .i64 e], .int .i64 k'] W fun x w' => x = .returned (.agg #[.int .i64 0, .int .i64 x1, .int .i64 x2, .string x3, .bool x4, .int .i64 x5]) ∧ Below W.heap.size W w')
    (KY : ∀ W : World, Calls Tryz.prog 43 #[.agg #[.int .i64 k', .int .i64 m', .int .i64 s', .string t', .bool b', .int .i64 e'], .int .i64 k] W fun x w' => x = .returned (.agg #[.int .i64 0, .int .i64 y1, .int .i64 y2, .string y3, .bool y4, .int .i64 y5]) ∧ Below W.heap.size W w') :
    Calls Tryz.prog 19 #[.agg #[.int .i64 k, .int .i64 m, .int .i64 s, .string t, .bool b, .int .i64 e], .agg #[.int .i64 k', .int .i64 m', .int .i64 s', .string t', .bool b', .int .i64 e']] w fun x w' => x = .returned (.int .i64 0) ∧ Below w.heap.size w w' := by
  have HX := Lib.hid KX
  have HY := Lib.hid KY
  clear KX KY
  have HB := Lib.hid ((sb1 w 29 #[.int .i64 k, .int .i64 m, .int .i64 s, .string t, .bool b, .int .i64 e]).push (by simp) 29 #[.int .i64 k', .int .i64 m', .int .i64 s', .string t', .bool b', .int .i64 e'])
  go_enter Tryz.func19, Tryz.ntmps19
  go_wp2_with fail
  refine (HX.out _).mono ?_
  rintro x w1 ⟨rfl, hb⟩
  have hB := (HB.out.call hb).alloc 29 #[.int .i64 0, .int .i64 x1, .int .i64 x2, .string x3, .bool x4, .int .i64 x5]
  clear hb HB
  have HB := Lib.hid hB
  clear hB
  have kb := HB.out.box (i := 1) rfl
  have cb0 := kb.cell 0
  have cb1 := kb.cell 1
  have cb2 := kb.cell 2
  have cb3 := kb.cell 3
  have cb4 := kb.cell 4
  have cb5 := kb.cell 5
  clear kb
  have ka := HB.out.box (i := 2) rfl
  have ca0 := ka.cell 0
  have ca1 := ka.cell 1
  have ca2 := ka.cell 2
  have ca3 := ka.cell 3
  have ca4 := ka.cell 4
  have ca5 := ka.cell 5
  clear ka
  have kx := HB.out.box (i := 0) rfl
  have cx0 := kx.cell 0
  have cx1 := kx.cell 1
  have cx2 := kx.cell 2
  have cx3 := kx.cell 3
  have cx4 := kx.cell 4
  have cx5 := kx.cell 5
  clear kx
  go_wp2_with fail
  refine (HY.out _).mono ?_
  rintro x w2 ⟨rfl, hb⟩
  have hB := (HB.out.call hb).alloc 29 #[.int .i64 0, .int .i64 y1, .int .i64 y2, .string y3, .bool y4, .int .i64 y5]
  clear hb HB ca0 ca1 ca2 ca3 ca4 ca5 cb0 cb1 cb2 cb3 cb4 cb5 cx0 cx1 cx2 cx3 cx4 cx5
  have HB := Lib.hid hB
  clear hB
  have kx := HB.out.box (i := 1) rfl
  have cx0 := kx.cell 0
  have cx1 := kx.cell 1
  have cx2 := kx.cell 2
  have cx3 := kx.cell 3
  have cx4 := kx.cell 4
  have cx5 := kx.cell 5
  clear kx
  have ky := HB.out.box (i := 0) rfl
  have cy0 := ky.cell 0
  have cy1 := ky.cell 1
  have cy2 := ky.cell 2
  have cy3 := ky.cell 3
  have cy4 := ky.cell 4
  have cy5 := ky.cell 5
  clear ky
  have hbel := HB.out.bel
  clear HB HX HY
  go_wp2
  go_ret
  exact ⟨rfl, hbel⟩

set_option maxRecDepth 20000 in
set_option maxHeartbeats 4000000 in
theorem bcmp_num {w : World} {k m s : Int} {t : ByteArray} {b : Bool} {e : Int} {k' m' s' : Int} {t' : ByteArray} {b' : Bool} {e' : Int} {x1 x2 : Int} {x3 : ByteArray} {x4 : Bool} {x5 : Int} {y1 y2 : Int} {y3 : ByteArray} {y4 : Bool} {y5 : Int} {C : Int}
    (KX : ∀ W : World, Calls Tryz.prog 43 #[.agg #[.int .i64 k, .int .i64 m, .int .i64 s, .string t, .bool b, .int .i64 e], .int .i64 k'] W fun x w' => x = .returned (.agg #[.int .i64 1, .int .i64 x1, .int .i64 x2, .string x3, .bool x4, .int .i64 x5]) ∧ Below W.heap.size W w')
    (KY : ∀ W : World, Calls Tryz.prog 43 #[.agg #[.int .i64 k', .int .i64 m', .int .i64 s', .string t', .bool b', .int .i64 e'], .int .i64 k] W fun x w' => x = .returned (.agg #[.int .i64 1, .int .i64 y1, .int .i64 y2, .string y3, .bool y4, .int .i64 y5]) ∧ Below W.heap.size W w') (KC : ∀ W : World, Calls Tryz.prog 44 #[.agg #[.int .i64 x1, .int .i64 x2], .agg #[.int .i64 y1, .int .i64 y2]] W fun x w' => x = .returned (.int .i64 C) ∧ Below W.heap.size W w') :
    Calls Tryz.prog 19 #[.agg #[.int .i64 k, .int .i64 m, .int .i64 s, .string t, .bool b, .int .i64 e], .agg #[.int .i64 k', .int .i64 m', .int .i64 s', .string t', .bool b', .int .i64 e']] w fun x w' => x = .returned (.int .i64 C) ∧ Below w.heap.size w w' := by
  have HX := Lib.hid KX
  have HY := Lib.hid KY
  clear KX KY
  have HC := Lib.hid KC
  clear KC
  have HB := Lib.hid ((sb1 w 29 #[.int .i64 k, .int .i64 m, .int .i64 s, .string t, .bool b, .int .i64 e]).push (by simp) 29 #[.int .i64 k', .int .i64 m', .int .i64 s', .string t', .bool b', .int .i64 e'])
  go_enter Tryz.func19, Tryz.ntmps19
  go_wp2_with fail
  refine (HX.out _).mono ?_
  rintro x w1 ⟨rfl, hb⟩
  have hB := (HB.out.call hb).alloc 29 #[.int .i64 1, .int .i64 x1, .int .i64 x2, .string x3, .bool x4, .int .i64 x5]
  clear hb HB
  have HB := Lib.hid hB
  clear hB
  have kb := HB.out.box (i := 1) rfl
  have cb0 := kb.cell 0
  have cb1 := kb.cell 1
  have cb2 := kb.cell 2
  have cb3 := kb.cell 3
  have cb4 := kb.cell 4
  have cb5 := kb.cell 5
  clear kb
  have ka := HB.out.box (i := 2) rfl
  have ca0 := ka.cell 0
  have ca1 := ka.cell 1
  have ca2 := ka.cell 2
  have ca3 := ka.cell 3
  have ca4 := ka.cell 4
  have ca5 := ka.cell 5
  clear ka
  have kx := HB.out.box (i := 0) rfl
  have cx0 := kx.cell 0
  have cx1 := kx.cell 1
  have cx2 := kx.cell 2
  have cx3 := kx.cell 3
  have cx4 := kx.cell 4
  have cx5 := kx.cell 5
  clear kx
  go_wp2_with fail
  refine (HY.out _).mono ?_
  rintro x w2 ⟨rfl, hb⟩
  have hB := (HB.out.call hb).alloc 29 #[.int .i64 1, .int .i64 y1, .int .i64 y2, .string y3, .bool y4, .int .i64 y5]
  clear hb HB ca0 ca1 ca2 ca3 ca4 ca5 cb0 cb1 cb2 cb3 cb4 cb5 cx0 cx1 cx2 cx3 cx4 cx5
  have HB := Lib.hid hB
  clear hB
  have kx := HB.out.box (i := 1) rfl
  have cx0 := kx.cell 0
  have cx1 := kx.cell 1
  have cx2 := kx.cell 2
  have cx3 := kx.cell 3
  have cx4 := kx.cell 4
  have cx5 := kx.cell 5
  clear kx
  have ky := HB.out.box (i := 0) rfl
  have cy0 := ky.cell 0
  have cy1 := ky.cell 1
  have cy2 := ky.cell 2
  have cy3 := ky.cell 3
  have cy4 := ky.cell 4
  have cy5 := ky.cell 5
  clear ky
  go_wp2_with fail
  refine (HC.out _).mono ?_
  rintro x w3 ⟨rfl, hb⟩
  have hbel := (HB.out.call hb).bel
  clear hb HC cx0 cx1 cx2 cx3 cx4 cx5 cy0 cy1 cy2 cy3 cy4 cy5
  clear HB HX HY
  go_wp2
  go_ret
  exact ⟨rfl, hbel⟩

set_option maxRecDepth 20000 in
set_option maxHeartbeats 4000000 in
theorem bcmp_se {w : World} {k m s : Int} {t : ByteArray} {b : Bool} {e : Int} {k' m' s' : Int} {t' : ByteArray} {b' : Bool} {e' : Int} {x1 x2 : Int} {p : List UInt8} {x4 : Bool} {x5 : Int} {y1 y2 : Int} {y4 : Bool} {y5 : Int}
    (KX : ∀ W : World, Calls Tryz.prog 43 #[.agg #[.int .i64 k, .int .i64 m, .int .i64 s, .string t, .bool b, .int .i64 e], .int .i64 k'] W fun x w' => x = .returned (.agg #[.int .i64 2, .int .i64 x1, .int .i64 x2, .string ⟨p.toArray⟩, .bool x4, .int .i64 x5]) ∧ Below W.heap.size W w')
    (KY : ∀ W : World, Calls Tryz.prog 43 #[.agg #[.int .i64 k', .int .i64 m', .int .i64 s', .string t', .bool b', .int .i64 e'], .int .i64 k] W fun x w' => x = .returned (.agg #[.int .i64 2, .int .i64 y1, .int .i64 y2, .string ⟨p.toArray⟩, .bool y4, .int .i64 y5]) ∧ Below W.heap.size W w') :
    Calls Tryz.prog 19 #[.agg #[.int .i64 k, .int .i64 m, .int .i64 s, .string t, .bool b, .int .i64 e], .agg #[.int .i64 k', .int .i64 m', .int .i64 s', .string t', .bool b', .int .i64 e']] w fun x w' => x = .returned (.int .i64 0) ∧ Below w.heap.size w w' := by
  have HX := Lib.hid KX
  have HY := Lib.hid KY
  clear KX KY
  have HB := Lib.hid ((sb1 w 29 #[.int .i64 k, .int .i64 m, .int .i64 s, .string t, .bool b, .int .i64 e]).push (by simp) 29 #[.int .i64 k', .int .i64 m', .int .i64 s', .string t', .bool b', .int .i64 e'])
  go_enter Tryz.func19, Tryz.ntmps19
  go_wp2_with fail
  refine (HX.out _).mono ?_
  rintro x w1 ⟨rfl, hb⟩
  have hB := (HB.out.call hb).alloc 29 #[.int .i64 2, .int .i64 x1, .int .i64 x2, .string ⟨p.toArray⟩, .bool x4, .int .i64 x5]
  clear hb HB
  have HB := Lib.hid hB
  clear hB
  have kb := HB.out.box (i := 1) rfl
  have cb0 := kb.cell 0
  have cb1 := kb.cell 1
  have cb2 := kb.cell 2
  have cb3 := kb.cell 3
  have cb4 := kb.cell 4
  have cb5 := kb.cell 5
  clear kb
  have ka := HB.out.box (i := 2) rfl
  have ca0 := ka.cell 0
  have ca1 := ka.cell 1
  have ca2 := ka.cell 2
  have ca3 := ka.cell 3
  have ca4 := ka.cell 4
  have ca5 := ka.cell 5
  clear ka
  have kx := HB.out.box (i := 0) rfl
  have cx0 := kx.cell 0
  have cx1 := kx.cell 1
  have cx2 := kx.cell 2
  have cx3 := kx.cell 3
  have cx4 := kx.cell 4
  have cx5 := kx.cell 5
  clear kx
  go_wp2_with fail
  refine (HY.out _).mono ?_
  rintro x w2 ⟨rfl, hb⟩
  have hB := (HB.out.call hb).alloc 29 #[.int .i64 2, .int .i64 y1, .int .i64 y2, .string ⟨p.toArray⟩, .bool y4, .int .i64 y5]
  clear hb HB ca0 ca1 ca2 ca3 ca4 ca5 cb0 cb1 cb2 cb3 cb4 cb5 cx0 cx1 cx2 cx3 cx4 cx5
  have HB := Lib.hid hB
  clear hB
  have kx := HB.out.box (i := 1) rfl
  have cx0 := kx.cell 0
  have cx1 := kx.cell 1
  have cx2 := kx.cell 2
  have cx3 := kx.cell 3
  have cx4 := kx.cell 4
  have cx5 := kx.cell 5
  clear kx
  have ky := HB.out.box (i := 0) rfl
  have cy0 := ky.cell 0
  have cy1 := ky.cell 1
  have cy2 := ky.cell 2
  have cy3 := ky.cell 3
  have cy4 := ky.cell 4
  have cy5 := ky.cell 5
  clear ky
  have hbel := HB.out.bel
  clear HB HX HY
  go_wp2
  go_ret
  exact ⟨rfl, hbel⟩

set_option maxRecDepth 20000 in
set_option maxHeartbeats 4000000 in
theorem bcmp_sl {w : World} {k m s : Int} {t : ByteArray} {b : Bool} {e : Int} {k' m' s' : Int} {t' : ByteArray} {b' : Bool} {e' : Int} {x1 x2 : Int} {p : List UInt8} {x4 : Bool} {x5 : Int} {y1 y2 : Int} {q : List UInt8} {y4 : Bool} {y5 : Int}
    (KX : ∀ W : World, Calls Tryz.prog 43 #[.agg #[.int .i64 k, .int .i64 m, .int .i64 s, .string t, .bool b, .int .i64 e], .int .i64 k'] W fun x w' => x = .returned (.agg #[.int .i64 2, .int .i64 x1, .int .i64 x2, .string ⟨p.toArray⟩, .bool x4, .int .i64 x5]) ∧ Below W.heap.size W w')
    (KY : ∀ W : World, Calls Tryz.prog 43 #[.agg #[.int .i64 k', .int .i64 m', .int .i64 s', .string t', .bool b', .int .i64 e'], .int .i64 k] W fun x w' => x = .returned (.agg #[.int .i64 2, .int .i64 y1, .int .i64 y2, .string ⟨q.toArray⟩, .bool y4, .int .i64 y5]) ∧ Below W.heap.size W w') (hne : ¬ p = q) (hl : Op.bytesLess p q = true) :
    Calls Tryz.prog 19 #[.agg #[.int .i64 k, .int .i64 m, .int .i64 s, .string t, .bool b, .int .i64 e], .agg #[.int .i64 k', .int .i64 m', .int .i64 s', .string t', .bool b', .int .i64 e']] w fun x w' => x = .returned (.int .i64 (-1)) ∧ Below w.heap.size w w' := by
  have HX := Lib.hid KX
  have HY := Lib.hid KY
  clear KX KY
  have hq : (p == q) = false := beq_eq_false_iff_ne.2 hne
  have hq2 : (!p == q) = true := by rw [hq]; rfl
  clear hne
  have HB := Lib.hid ((sb1 w 29 #[.int .i64 k, .int .i64 m, .int .i64 s, .string t, .bool b, .int .i64 e]).push (by simp) 29 #[.int .i64 k', .int .i64 m', .int .i64 s', .string t', .bool b', .int .i64 e'])
  go_enter Tryz.func19, Tryz.ntmps19
  go_wp2_with fail
  refine (HX.out _).mono ?_
  rintro x w1 ⟨rfl, hb⟩
  have hB := (HB.out.call hb).alloc 29 #[.int .i64 2, .int .i64 x1, .int .i64 x2, .string ⟨p.toArray⟩, .bool x4, .int .i64 x5]
  clear hb HB
  have HB := Lib.hid hB
  clear hB
  have kb := HB.out.box (i := 1) rfl
  have cb0 := kb.cell 0
  have cb1 := kb.cell 1
  have cb2 := kb.cell 2
  have cb3 := kb.cell 3
  have cb4 := kb.cell 4
  have cb5 := kb.cell 5
  clear kb
  have ka := HB.out.box (i := 2) rfl
  have ca0 := ka.cell 0
  have ca1 := ka.cell 1
  have ca2 := ka.cell 2
  have ca3 := ka.cell 3
  have ca4 := ka.cell 4
  have ca5 := ka.cell 5
  clear ka
  have kx := HB.out.box (i := 0) rfl
  have cx0 := kx.cell 0
  have cx1 := kx.cell 1
  have cx2 := kx.cell 2
  have cx3 := kx.cell 3
  have cx4 := kx.cell 4
  have cx5 := kx.cell 5
  clear kx
  go_wp2_with fail
  refine (HY.out _).mono ?_
  rintro x w2 ⟨rfl, hb⟩
  have hB := (HB.out.call hb).alloc 29 #[.int .i64 2, .int .i64 y1, .int .i64 y2, .string ⟨q.toArray⟩, .bool y4, .int .i64 y5]
  clear hb HB ca0 ca1 ca2 ca3 ca4 ca5 cb0 cb1 cb2 cb3 cb4 cb5 cx0 cx1 cx2 cx3 cx4 cx5
  have HB := Lib.hid hB
  clear hB
  have kx := HB.out.box (i := 1) rfl
  have cx0 := kx.cell 0
  have cx1 := kx.cell 1
  have cx2 := kx.cell 2
  have cx3 := kx.cell 3
  have cx4 := kx.cell 4
  have cx5 := kx.cell 5
  clear kx
  have ky := HB.out.box (i := 0) rfl
  have cy0 := ky.cell 0
  have cy1 := ky.cell 1
  have cy2 := ky.cell 2
  have cy3 := ky.cell 3
  have cy4 := ky.cell 4
  have cy5 := ky.cell 5
  clear ky
  have hbel := HB.out.bel
  clear HB HX HY
  go_wp2
  go_ret
  exact ⟨rfl, hbel⟩

set_option maxRecDepth 20000 in
set_option maxHeartbeats 4000000 in
theorem bcmp_sg {w : World} {k m s : Int} {t : ByteArray} {b : Bool} {e : Int} {k' m' s' : Int} {t' : ByteArray} {b' : Bool} {e' : Int} {x1 x2 : Int} {p : List UInt8} {x4 : Bool} {x5 : Int} {y1 y2 : Int} {q : List UInt8} {y4 : Bool} {y5 : Int}
    (KX : ∀ W : World, Calls Tryz.prog 43 #[.agg #[.int .i64 k, .int .i64 m, .int .i64 s, .string t, .bool b, .int .i64 e], .int .i64 k'] W fun x w' => x = .returned (.agg #[.int .i64 2, .int .i64 x1, .int .i64 x2, .string ⟨p.toArray⟩, .bool x4, .int .i64 x5]) ∧ Below W.heap.size W w')
    (KY : ∀ W : World, Calls Tryz.prog 43 #[.agg #[.int .i64 k', .int .i64 m', .int .i64 s', .string t', .bool b', .int .i64 e'], .int .i64 k] W fun x w' => x = .returned (.agg #[.int .i64 2, .int .i64 y1, .int .i64 y2, .string ⟨q.toArray⟩, .bool y4, .int .i64 y5]) ∧ Below W.heap.size W w') (hne : ¬ p = q) (hl : Op.bytesLess p q = false) :
    Calls Tryz.prog 19 #[.agg #[.int .i64 k, .int .i64 m, .int .i64 s, .string t, .bool b, .int .i64 e], .agg #[.int .i64 k', .int .i64 m', .int .i64 s', .string t', .bool b', .int .i64 e']] w fun x w' => x = .returned (.int .i64 1) ∧ Below w.heap.size w w' := by
  have HX := Lib.hid KX
  have HY := Lib.hid KY
  clear KX KY
  have hq : (p == q) = false := beq_eq_false_iff_ne.2 hne
  have hq2 : (!p == q) = true := by rw [hq]; rfl
  clear hne
  have HB := Lib.hid ((sb1 w 29 #[.int .i64 k, .int .i64 m, .int .i64 s, .string t, .bool b, .int .i64 e]).push (by simp) 29 #[.int .i64 k', .int .i64 m', .int .i64 s', .string t', .bool b', .int .i64 e'])
  go_enter Tryz.func19, Tryz.ntmps19
  go_wp2_with fail
  refine (HX.out _).mono ?_
  rintro x w1 ⟨rfl, hb⟩
  have hB := (HB.out.call hb).alloc 29 #[.int .i64 2, .int .i64 x1, .int .i64 x2, .string ⟨p.toArray⟩, .bool x4, .int .i64 x5]
  clear hb HB
  have HB := Lib.hid hB
  clear hB
  have kb := HB.out.box (i := 1) rfl
  have cb0 := kb.cell 0
  have cb1 := kb.cell 1
  have cb2 := kb.cell 2
  have cb3 := kb.cell 3
  have cb4 := kb.cell 4
  have cb5 := kb.cell 5
  clear kb
  have ka := HB.out.box (i := 2) rfl
  have ca0 := ka.cell 0
  have ca1 := ka.cell 1
  have ca2 := ka.cell 2
  have ca3 := ka.cell 3
  have ca4 := ka.cell 4
  have ca5 := ka.cell 5
  clear ka
  have kx := HB.out.box (i := 0) rfl
  have cx0 := kx.cell 0
  have cx1 := kx.cell 1
  have cx2 := kx.cell 2
  have cx3 := kx.cell 3
  have cx4 := kx.cell 4
  have cx5 := kx.cell 5
  clear kx
  go_wp2_with fail
  refine (HY.out _).mono ?_
  rintro x w2 ⟨rfl, hb⟩
  have hB := (HB.out.call hb).alloc 29 #[.int .i64 2, .int .i64 y1, .int .i64 y2, .string ⟨q.toArray⟩, .bool y4, .int .i64 y5]
  clear hb HB ca0 ca1 ca2 ca3 ca4 ca5 cb0 cb1 cb2 cb3 cb4 cb5 cx0 cx1 cx2 cx3 cx4 cx5
  have HB := Lib.hid hB
  clear hB
  have kx := HB.out.box (i := 1) rfl
  have cx0 := kx.cell 0
  have cx1 := kx.cell 1
  have cx2 := kx.cell 2
  have cx3 := kx.cell 3
  have cx4 := kx.cell 4
  have cx5 := kx.cell 5
  clear kx
  have ky := HB.out.box (i := 0) rfl
  have cy0 := ky.cell 0
  have cy1 := ky.cell 1
  have cy2 := ky.cell 2
  have cy3 := ky.cell 3
  have cy4 := ky.cell 4
  have cy5 := ky.cell 5
  clear ky
  have hbel := HB.out.bel
  clear HB HX HY
  go_wp2
  go_ret
  exact ⟨rfl, hbel⟩

set_option maxRecDepth 20000 in
set_option maxHeartbeats 4000000 in
theorem bcmp_b_true_true {w : World} {k m s : Int} {t : ByteArray} {b : Bool} {e : Int} {k' m' s' : Int} {t' : ByteArray} {b' : Bool} {e' : Int} {x1 x2 : Int} {x3 : ByteArray} {x5 : Int} {y1 y2 : Int} {y3 : ByteArray} {y5 : Int}
    (KX : ∀ W : World, Calls Tryz.prog 43 #[.agg #[.int .i64 k, .int .i64 m, .int .i64 s, .string t, .bool b, .int .i64 e], .int .i64 k'] W fun x w' => x = .returned (.agg #[.int .i64 3, .int .i64 x1, .int .i64 x2, .string x3, .bool true, .int .i64 x5]) ∧ Below W.heap.size W w')
    (KY : ∀ W : World, Calls Tryz.prog 43 #[.agg #[.int .i64 k', .int .i64 m', .int .i64 s', .string t', .bool b', .int .i64 e'], .int .i64 k] W fun x w' => x = .returned (.agg #[.int .i64 3, .int .i64 y1, .int .i64 y2, .string y3, .bool true, .int .i64 y5]) ∧ Below W.heap.size W w') :
    Calls Tryz.prog 19 #[.agg #[.int .i64 k, .int .i64 m, .int .i64 s, .string t, .bool b, .int .i64 e], .agg #[.int .i64 k', .int .i64 m', .int .i64 s', .string t', .bool b', .int .i64 e']] w fun x w' => x = .returned (.int .i64 0) ∧ Below w.heap.size w w' := by
  have HX := Lib.hid KX
  have HY := Lib.hid KY
  clear KX KY
  have HB := Lib.hid ((sb1 w 29 #[.int .i64 k, .int .i64 m, .int .i64 s, .string t, .bool b, .int .i64 e]).push (by simp) 29 #[.int .i64 k', .int .i64 m', .int .i64 s', .string t', .bool b', .int .i64 e'])
  go_enter Tryz.func19, Tryz.ntmps19
  go_wp2_with fail
  refine (HX.out _).mono ?_
  rintro x w1 ⟨rfl, hb⟩
  have hB := (HB.out.call hb).alloc 29 #[.int .i64 3, .int .i64 x1, .int .i64 x2, .string x3, .bool true, .int .i64 x5]
  clear hb HB
  have HB := Lib.hid hB
  clear hB
  have kb := HB.out.box (i := 1) rfl
  have cb0 := kb.cell 0
  have cb1 := kb.cell 1
  have cb2 := kb.cell 2
  have cb3 := kb.cell 3
  have cb4 := kb.cell 4
  have cb5 := kb.cell 5
  clear kb
  have ka := HB.out.box (i := 2) rfl
  have ca0 := ka.cell 0
  have ca1 := ka.cell 1
  have ca2 := ka.cell 2
  have ca3 := ka.cell 3
  have ca4 := ka.cell 4
  have ca5 := ka.cell 5
  clear ka
  have kx := HB.out.box (i := 0) rfl
  have cx0 := kx.cell 0
  have cx1 := kx.cell 1
  have cx2 := kx.cell 2
  have cx3 := kx.cell 3
  have cx4 := kx.cell 4
  have cx5 := kx.cell 5
  clear kx
  go_wp2_with fail
  refine (HY.out _).mono ?_
  rintro x w2 ⟨rfl, hb⟩
  have hB := (HB.out.call hb).alloc 29 #[.int .i64 3, .int .i64 y1, .int .i64 y2, .string y3, .bool true, .int .i64 y5]
  clear hb HB ca0 ca1 ca2 ca3 ca4 ca5 cb0 cb1 cb2 cb3 cb4 cb5 cx0 cx1 cx2 cx3 cx4 cx5
  have HB := Lib.hid hB
  clear hB
  have kx := HB.out.box (i := 1) rfl
  have cx0 := kx.cell 0
  have cx1 := kx.cell 1
  have cx2 := kx.cell 2
  have cx3 := kx.cell 3
  have cx4 := kx.cell 4
  have cx5 := kx.cell 5
  clear kx
  have ky := HB.out.box (i := 0) rfl
  have cy0 := ky.cell 0
  have cy1 := ky.cell 1
  have cy2 := ky.cell 2
  have cy3 := ky.cell 3
  have cy4 := ky.cell 4
  have cy5 := ky.cell 5
  clear ky
  have hbel := HB.out.bel
  clear HB HX HY
  go_wp2
  go_ret
  exact ⟨rfl, hbel⟩

set_option maxRecDepth 20000 in
set_option maxHeartbeats 4000000 in
theorem bcmp_b_true_false {w : World} {k m s : Int} {t : ByteArray} {b : Bool} {e : Int} {k' m' s' : Int} {t' : ByteArray} {b' : Bool} {e' : Int} {x1 x2 : Int} {x3 : ByteArray} {x5 : Int} {y1 y2 : Int} {y3 : ByteArray} {y5 : Int}
    (KX : ∀ W : World, Calls Tryz.prog 43 #[.agg #[.int .i64 k, .int .i64 m, .int .i64 s, .string t, .bool b, .int .i64 e], .int .i64 k'] W fun x w' => x = .returned (.agg #[.int .i64 3, .int .i64 x1, .int .i64 x2, .string x3, .bool true, .int .i64 x5]) ∧ Below W.heap.size W w')
    (KY : ∀ W : World, Calls Tryz.prog 43 #[.agg #[.int .i64 k', .int .i64 m', .int .i64 s', .string t', .bool b', .int .i64 e'], .int .i64 k] W fun x w' => x = .returned (.agg #[.int .i64 3, .int .i64 y1, .int .i64 y2, .string y3, .bool false, .int .i64 y5]) ∧ Below W.heap.size W w') :
    Calls Tryz.prog 19 #[.agg #[.int .i64 k, .int .i64 m, .int .i64 s, .string t, .bool b, .int .i64 e], .agg #[.int .i64 k', .int .i64 m', .int .i64 s', .string t', .bool b', .int .i64 e']] w fun x w' => x = .returned (.int .i64 1) ∧ Below w.heap.size w w' := by
  have HX := Lib.hid KX
  have HY := Lib.hid KY
  clear KX KY
  have HB := Lib.hid ((sb1 w 29 #[.int .i64 k, .int .i64 m, .int .i64 s, .string t, .bool b, .int .i64 e]).push (by simp) 29 #[.int .i64 k', .int .i64 m', .int .i64 s', .string t', .bool b', .int .i64 e'])
  go_enter Tryz.func19, Tryz.ntmps19
  go_wp2_with fail
  refine (HX.out _).mono ?_
  rintro x w1 ⟨rfl, hb⟩
  have hB := (HB.out.call hb).alloc 29 #[.int .i64 3, .int .i64 x1, .int .i64 x2, .string x3, .bool true, .int .i64 x5]
  clear hb HB
  have HB := Lib.hid hB
  clear hB
  have kb := HB.out.box (i := 1) rfl
  have cb0 := kb.cell 0
  have cb1 := kb.cell 1
  have cb2 := kb.cell 2
  have cb3 := kb.cell 3
  have cb4 := kb.cell 4
  have cb5 := kb.cell 5
  clear kb
  have ka := HB.out.box (i := 2) rfl
  have ca0 := ka.cell 0
  have ca1 := ka.cell 1
  have ca2 := ka.cell 2
  have ca3 := ka.cell 3
  have ca4 := ka.cell 4
  have ca5 := ka.cell 5
  clear ka
  have kx := HB.out.box (i := 0) rfl
  have cx0 := kx.cell 0
  have cx1 := kx.cell 1
  have cx2 := kx.cell 2
  have cx3 := kx.cell 3
  have cx4 := kx.cell 4
  have cx5 := kx.cell 5
  clear kx
  go_wp2_with fail
  refine (HY.out _).mono ?_
  rintro x w2 ⟨rfl, hb⟩
  have hB := (HB.out.call hb).alloc 29 #[.int .i64 3, .int .i64 y1, .int .i64 y2, .string y3, .bool false, .int .i64 y5]
  clear hb HB ca0 ca1 ca2 ca3 ca4 ca5 cb0 cb1 cb2 cb3 cb4 cb5 cx0 cx1 cx2 cx3 cx4 cx5
  have HB := Lib.hid hB
  clear hB
  have kx := HB.out.box (i := 1) rfl
  have cx0 := kx.cell 0
  have cx1 := kx.cell 1
  have cx2 := kx.cell 2
  have cx3 := kx.cell 3
  have cx4 := kx.cell 4
  have cx5 := kx.cell 5
  clear kx
  have ky := HB.out.box (i := 0) rfl
  have cy0 := ky.cell 0
  have cy1 := ky.cell 1
  have cy2 := ky.cell 2
  have cy3 := ky.cell 3
  have cy4 := ky.cell 4
  have cy5 := ky.cell 5
  clear ky
  have hbel := HB.out.bel
  clear HB HX HY
  go_wp2
  go_ret
  exact ⟨rfl, hbel⟩

set_option maxRecDepth 20000 in
set_option maxHeartbeats 4000000 in
theorem bcmp_b_false_true {w : World} {k m s : Int} {t : ByteArray} {b : Bool} {e : Int} {k' m' s' : Int} {t' : ByteArray} {b' : Bool} {e' : Int} {x1 x2 : Int} {x3 : ByteArray} {x5 : Int} {y1 y2 : Int} {y3 : ByteArray} {y5 : Int}
    (KX : ∀ W : World, Calls Tryz.prog 43 #[.agg #[.int .i64 k, .int .i64 m, .int .i64 s, .string t, .bool b, .int .i64 e], .int .i64 k'] W fun x w' => x = .returned (.agg #[.int .i64 3, .int .i64 x1, .int .i64 x2, .string x3, .bool false, .int .i64 x5]) ∧ Below W.heap.size W w')
    (KY : ∀ W : World, Calls Tryz.prog 43 #[.agg #[.int .i64 k', .int .i64 m', .int .i64 s', .string t', .bool b', .int .i64 e'], .int .i64 k] W fun x w' => x = .returned (.agg #[.int .i64 3, .int .i64 y1, .int .i64 y2, .string y3, .bool true, .int .i64 y5]) ∧ Below W.heap.size W w') :
    Calls Tryz.prog 19 #[.agg #[.int .i64 k, .int .i64 m, .int .i64 s, .string t, .bool b, .int .i64 e], .agg #[.int .i64 k', .int .i64 m', .int .i64 s', .string t', .bool b', .int .i64 e']] w fun x w' => x = .returned (.int .i64 (-1)) ∧ Below w.heap.size w w' := by
  have HX := Lib.hid KX
  have HY := Lib.hid KY
  clear KX KY
  have HB := Lib.hid ((sb1 w 29 #[.int .i64 k, .int .i64 m, .int .i64 s, .string t, .bool b, .int .i64 e]).push (by simp) 29 #[.int .i64 k', .int .i64 m', .int .i64 s', .string t', .bool b', .int .i64 e'])
  go_enter Tryz.func19, Tryz.ntmps19
  go_wp2_with fail
  refine (HX.out _).mono ?_
  rintro x w1 ⟨rfl, hb⟩
  have hB := (HB.out.call hb).alloc 29 #[.int .i64 3, .int .i64 x1, .int .i64 x2, .string x3, .bool false, .int .i64 x5]
  clear hb HB
  have HB := Lib.hid hB
  clear hB
  have kb := HB.out.box (i := 1) rfl
  have cb0 := kb.cell 0
  have cb1 := kb.cell 1
  have cb2 := kb.cell 2
  have cb3 := kb.cell 3
  have cb4 := kb.cell 4
  have cb5 := kb.cell 5
  clear kb
  have ka := HB.out.box (i := 2) rfl
  have ca0 := ka.cell 0
  have ca1 := ka.cell 1
  have ca2 := ka.cell 2
  have ca3 := ka.cell 3
  have ca4 := ka.cell 4
  have ca5 := ka.cell 5
  clear ka
  have kx := HB.out.box (i := 0) rfl
  have cx0 := kx.cell 0
  have cx1 := kx.cell 1
  have cx2 := kx.cell 2
  have cx3 := kx.cell 3
  have cx4 := kx.cell 4
  have cx5 := kx.cell 5
  clear kx
  go_wp2_with fail
  refine (HY.out _).mono ?_
  rintro x w2 ⟨rfl, hb⟩
  have hB := (HB.out.call hb).alloc 29 #[.int .i64 3, .int .i64 y1, .int .i64 y2, .string y3, .bool true, .int .i64 y5]
  clear hb HB ca0 ca1 ca2 ca3 ca4 ca5 cb0 cb1 cb2 cb3 cb4 cb5 cx0 cx1 cx2 cx3 cx4 cx5
  have HB := Lib.hid hB
  clear hB
  have kx := HB.out.box (i := 1) rfl
  have cx0 := kx.cell 0
  have cx1 := kx.cell 1
  have cx2 := kx.cell 2
  have cx3 := kx.cell 3
  have cx4 := kx.cell 4
  have cx5 := kx.cell 5
  clear kx
  have ky := HB.out.box (i := 0) rfl
  have cy0 := ky.cell 0
  have cy1 := ky.cell 1
  have cy2 := ky.cell 2
  have cy3 := ky.cell 3
  have cy4 := ky.cell 4
  have cy5 := ky.cell 5
  clear ky
  have hbel := HB.out.bel
  clear HB HX HY
  go_wp2
  go_ret
  exact ⟨rfl, hbel⟩

set_option maxRecDepth 20000 in
set_option maxHeartbeats 4000000 in
theorem bcmp_b_false_false {w : World} {k m s : Int} {t : ByteArray} {b : Bool} {e : Int} {k' m' s' : Int} {t' : ByteArray} {b' : Bool} {e' : Int} {x1 x2 : Int} {x3 : ByteArray} {x5 : Int} {y1 y2 : Int} {y3 : ByteArray} {y5 : Int}
    (KX : ∀ W : World, Calls Tryz.prog 43 #[.agg #[.int .i64 k, .int .i64 m, .int .i64 s, .string t, .bool b, .int .i64 e], .int .i64 k'] W fun x w' => x = .returned (.agg #[.int .i64 3, .int .i64 x1, .int .i64 x2, .string x3, .bool false, .int .i64 x5]) ∧ Below W.heap.size W w')
    (KY : ∀ W : World, Calls Tryz.prog 43 #[.agg #[.int .i64 k', .int .i64 m', .int .i64 s', .string t', .bool b', .int .i64 e'], .int .i64 k] W fun x w' => x = .returned (.agg #[.int .i64 3, .int .i64 y1, .int .i64 y2, .string y3, .bool false, .int .i64 y5]) ∧ Below W.heap.size W w') :
    Calls Tryz.prog 19 #[.agg #[.int .i64 k, .int .i64 m, .int .i64 s, .string t, .bool b, .int .i64 e], .agg #[.int .i64 k', .int .i64 m', .int .i64 s', .string t', .bool b', .int .i64 e']] w fun x w' => x = .returned (.int .i64 0) ∧ Below w.heap.size w w' := by
  have HX := Lib.hid KX
  have HY := Lib.hid KY
  clear KX KY
  have HB := Lib.hid ((sb1 w 29 #[.int .i64 k, .int .i64 m, .int .i64 s, .string t, .bool b, .int .i64 e]).push (by simp) 29 #[.int .i64 k', .int .i64 m', .int .i64 s', .string t', .bool b', .int .i64 e'])
  go_enter Tryz.func19, Tryz.ntmps19
  go_wp2_with fail
  refine (HX.out _).mono ?_
  rintro x w1 ⟨rfl, hb⟩
  have hB := (HB.out.call hb).alloc 29 #[.int .i64 3, .int .i64 x1, .int .i64 x2, .string x3, .bool false, .int .i64 x5]
  clear hb HB
  have HB := Lib.hid hB
  clear hB
  have kb := HB.out.box (i := 1) rfl
  have cb0 := kb.cell 0
  have cb1 := kb.cell 1
  have cb2 := kb.cell 2
  have cb3 := kb.cell 3
  have cb4 := kb.cell 4
  have cb5 := kb.cell 5
  clear kb
  have ka := HB.out.box (i := 2) rfl
  have ca0 := ka.cell 0
  have ca1 := ka.cell 1
  have ca2 := ka.cell 2
  have ca3 := ka.cell 3
  have ca4 := ka.cell 4
  have ca5 := ka.cell 5
  clear ka
  have kx := HB.out.box (i := 0) rfl
  have cx0 := kx.cell 0
  have cx1 := kx.cell 1
  have cx2 := kx.cell 2
  have cx3 := kx.cell 3
  have cx4 := kx.cell 4
  have cx5 := kx.cell 5
  clear kx
  go_wp2_with fail
  refine (HY.out _).mono ?_
  rintro x w2 ⟨rfl, hb⟩
  have hB := (HB.out.call hb).alloc 29 #[.int .i64 3, .int .i64 y1, .int .i64 y2, .string y3, .bool false, .int .i64 y5]
  clear hb HB ca0 ca1 ca2 ca3 ca4 ca5 cb0 cb1 cb2 cb3 cb4 cb5 cx0 cx1 cx2 cx3 cx4 cx5
  have HB := Lib.hid hB
  clear hB
  have kx := HB.out.box (i := 1) rfl
  have cx0 := kx.cell 0
  have cx1 := kx.cell 1
  have cx2 := kx.cell 2
  have cx3 := kx.cell 3
  have cx4 := kx.cell 4
  have cx5 := kx.cell 5
  clear kx
  have ky := HB.out.box (i := 0) rfl
  have cy0 := ky.cell 0
  have cy1 := ky.cell 1
  have cy2 := ky.cell 2
  have cy3 := ky.cell 3
  have cy4 := ky.cell 4
  have cy5 := ky.cell 5
  clear ky
  have hbel := HB.out.bel
  clear HB HX HY
  go_wp2
  go_ret
  exact ⟨rfl, hbel⟩

set_option maxRecDepth 20000 in
set_option maxHeartbeats 4000000 in
theorem bcmp_ee {w : World} {k m s : Int} {t : ByteArray} {b : Bool} {e : Int} {k' m' s' : Int} {t' : ByteArray} {b' : Bool} {e' : Int} {x1 x2 : Int} {x3 : ByteArray} {x4 : Bool} {x5 : Int} {y1 y2 : Int} {y3 : ByteArray} {y4 : Bool}
    (KX : ∀ W : World, Calls Tryz.prog 43 #[.agg #[.int .i64 k, .int .i64 m, .int .i64 s, .string t, .bool b, .int .i64 e], .int .i64 k'] W fun x w' => x = .returned (.agg #[.int .i64 4, .int .i64 x1, .int .i64 x2, .string x3, .bool x4, .int .i64 x5]) ∧ Below W.heap.size W w')
    (KY : ∀ W : World, Calls Tryz.prog 43 #[.agg #[.int .i64 k', .int .i64 m', .int .i64 s', .string t', .bool b', .int .i64 e'], .int .i64 k] W fun x w' => x = .returned (.agg #[.int .i64 4, .int .i64 y1, .int .i64 y2, .string y3, .bool y4, .int .i64 x5]) ∧ Below W.heap.size W w') :
    Calls Tryz.prog 19 #[.agg #[.int .i64 k, .int .i64 m, .int .i64 s, .string t, .bool b, .int .i64 e], .agg #[.int .i64 k', .int .i64 m', .int .i64 s', .string t', .bool b', .int .i64 e']] w fun x w' => x = .returned (.int .i64 0) ∧ Below w.heap.size w w' := by
  have HX := Lib.hid KX
  have HY := Lib.hid KY
  clear KX KY
  have HB := Lib.hid ((sb1 w 29 #[.int .i64 k, .int .i64 m, .int .i64 s, .string t, .bool b, .int .i64 e]).push (by simp) 29 #[.int .i64 k', .int .i64 m', .int .i64 s', .string t', .bool b', .int .i64 e'])
  go_enter Tryz.func19, Tryz.ntmps19
  go_wp2_with fail
  refine (HX.out _).mono ?_
  rintro x w1 ⟨rfl, hb⟩
  have hB := (HB.out.call hb).alloc 29 #[.int .i64 4, .int .i64 x1, .int .i64 x2, .string x3, .bool x4, .int .i64 x5]
  clear hb HB
  have HB := Lib.hid hB
  clear hB
  have kb := HB.out.box (i := 1) rfl
  have cb0 := kb.cell 0
  have cb1 := kb.cell 1
  have cb2 := kb.cell 2
  have cb3 := kb.cell 3
  have cb4 := kb.cell 4
  have cb5 := kb.cell 5
  clear kb
  have ka := HB.out.box (i := 2) rfl
  have ca0 := ka.cell 0
  have ca1 := ka.cell 1
  have ca2 := ka.cell 2
  have ca3 := ka.cell 3
  have ca4 := ka.cell 4
  have ca5 := ka.cell 5
  clear ka
  have kx := HB.out.box (i := 0) rfl
  have cx0 := kx.cell 0
  have cx1 := kx.cell 1
  have cx2 := kx.cell 2
  have cx3 := kx.cell 3
  have cx4 := kx.cell 4
  have cx5 := kx.cell 5
  clear kx
  go_wp2_with fail
  refine (HY.out _).mono ?_
  rintro x w2 ⟨rfl, hb⟩
  have hB := (HB.out.call hb).alloc 29 #[.int .i64 4, .int .i64 y1, .int .i64 y2, .string y3, .bool y4, .int .i64 x5]
  clear hb HB ca0 ca1 ca2 ca3 ca4 ca5 cb0 cb1 cb2 cb3 cb4 cb5 cx0 cx1 cx2 cx3 cx4 cx5
  have HB := Lib.hid hB
  clear hB
  have kx := HB.out.box (i := 1) rfl
  have cx0 := kx.cell 0
  have cx1 := kx.cell 1
  have cx2 := kx.cell 2
  have cx3 := kx.cell 3
  have cx4 := kx.cell 4
  have cx5 := kx.cell 5
  clear kx
  have ky := HB.out.box (i := 0) rfl
  have cy0 := ky.cell 0
  have cy1 := ky.cell 1
  have cy2 := ky.cell 2
  have cy3 := ky.cell 3
  have cy4 := ky.cell 4
  have cy5 := ky.cell 5
  clear ky
  have hbel := HB.out.bel
  clear HB HX HY
  go_wp2
  go_ret
  exact ⟨rfl, hbel⟩

set_option maxRecDepth 20000 in
set_option maxHeartbeats 4000000 in
theorem bcmp_el {w : World} {k m s : Int} {t : ByteArray} {b : Bool} {e : Int} {k' m' s' : Int} {t' : ByteArray} {b' : Bool} {e' : Int} {x1 x2 : Int} {x3 : ByteArray} {x4 : Bool} {x5 : Int} {y1 y2 : Int} {y3 : ByteArray} {y4 : Bool} {y5 : Int}
    (KX : ∀ W : World, Calls Tryz.prog 43 #[.agg #[.int .i64 k, .int .i64 m, .int .i64 s, .string t, .bool b, .int .i64 e], .int .i64 k'] W fun x w' => x = .returned (.agg #[.int .i64 4, .int .i64 x1, .int .i64 x2, .string x3, .bool x4, .int .i64 x5]) ∧ Below W.heap.size W w')
    (KY : ∀ W : World, Calls Tryz.prog 43 #[.agg #[.int .i64 k', .int .i64 m', .int .i64 s', .string t', .bool b', .int .i64 e'], .int .i64 k] W fun x w' => x = .returned (.agg #[.int .i64 4, .int .i64 y1, .int .i64 y2, .string y3, .bool y4, .int .i64 y5]) ∧ Below W.heap.size W w') (h : x5 < y5) :
    Calls Tryz.prog 19 #[.agg #[.int .i64 k, .int .i64 m, .int .i64 s, .string t, .bool b, .int .i64 e], .agg #[.int .i64 k', .int .i64 m', .int .i64 s', .string t', .bool b', .int .i64 e']] w fun x w' => x = .returned (.int .i64 (-1)) ∧ Below w.heap.size w w' := by
  have HX := Lib.hid KX
  have HY := Lib.hid KY
  clear KX KY
  have h' : (x5 != y5) = true := bne_iff_ne.2 (by omega)
  have h0 : ¬ x5 = y5 := by omega
  have HB := Lib.hid ((sb1 w 29 #[.int .i64 k, .int .i64 m, .int .i64 s, .string t, .bool b, .int .i64 e]).push (by simp) 29 #[.int .i64 k', .int .i64 m', .int .i64 s', .string t', .bool b', .int .i64 e'])
  go_enter Tryz.func19, Tryz.ntmps19
  go_wp2_with fail
  refine (HX.out _).mono ?_
  rintro x w1 ⟨rfl, hb⟩
  have hB := (HB.out.call hb).alloc 29 #[.int .i64 4, .int .i64 x1, .int .i64 x2, .string x3, .bool x4, .int .i64 x5]
  clear hb HB
  have HB := Lib.hid hB
  clear hB
  have kb := HB.out.box (i := 1) rfl
  have cb0 := kb.cell 0
  have cb1 := kb.cell 1
  have cb2 := kb.cell 2
  have cb3 := kb.cell 3
  have cb4 := kb.cell 4
  have cb5 := kb.cell 5
  clear kb
  have ka := HB.out.box (i := 2) rfl
  have ca0 := ka.cell 0
  have ca1 := ka.cell 1
  have ca2 := ka.cell 2
  have ca3 := ka.cell 3
  have ca4 := ka.cell 4
  have ca5 := ka.cell 5
  clear ka
  have kx := HB.out.box (i := 0) rfl
  have cx0 := kx.cell 0
  have cx1 := kx.cell 1
  have cx2 := kx.cell 2
  have cx3 := kx.cell 3
  have cx4 := kx.cell 4
  have cx5 := kx.cell 5
  clear kx
  go_wp2_with fail
  refine (HY.out _).mono ?_
  rintro x w2 ⟨rfl, hb⟩
  have hB := (HB.out.call hb).alloc 29 #[.int .i64 4, .int .i64 y1, .int .i64 y2, .string y3, .bool y4, .int .i64 y5]
  clear hb HB ca0 ca1 ca2 ca3 ca4 ca5 cb0 cb1 cb2 cb3 cb4 cb5 cx0 cx1 cx2 cx3 cx4 cx5
  have HB := Lib.hid hB
  clear hB
  have kx := HB.out.box (i := 1) rfl
  have cx0 := kx.cell 0
  have cx1 := kx.cell 1
  have cx2 := kx.cell 2
  have cx3 := kx.cell 3
  have cx4 := kx.cell 4
  have cx5 := kx.cell 5
  clear kx
  have ky := HB.out.box (i := 0) rfl
  have cy0 := ky.cell 0
  have cy1 := ky.cell 1
  have cy2 := ky.cell 2
  have cy3 := ky.cell 3
  have cy4 := ky.cell 4
  have cy5 := ky.cell 5
  clear ky
  have hbel := HB.out.bel
  clear HB HX HY
  go_wp2
  go_ret
  exact ⟨rfl, hbel⟩

set_option maxRecDepth 20000 in
set_option maxHeartbeats 4000000 in
theorem bcmp_eg {w : World} {k m s : Int} {t : ByteArray} {b : Bool} {e : Int} {k' m' s' : Int} {t' : ByteArray} {b' : Bool} {e' : Int} {x1 x2 : Int} {x3 : ByteArray} {x4 : Bool} {x5 : Int} {y1 y2 : Int} {y3 : ByteArray} {y4 : Bool} {y5 : Int}
    (KX : ∀ W : World, Calls Tryz.prog 43 #[.agg #[.int .i64 k, .int .i64 m, .int .i64 s, .string t, .bool b, .int .i64 e], .int .i64 k'] W fun x w' => x = .returned (.agg #[.int .i64 4, .int .i64 x1, .int .i64 x2, .string x3, .bool x4, .int .i64 x5]) ∧ Below W.heap.size W w')
    (KY : ∀ W : World, Calls Tryz.prog 43 #[.agg #[.int .i64 k', .int .i64 m', .int .i64 s', .string t', .bool b', .int .i64 e'], .int .i64 k] W fun x w' => x = .returned (.agg #[.int .i64 4, .int .i64 y1, .int .i64 y2, .string y3, .bool y4, .int .i64 y5]) ∧ Below W.heap.size W w') (h : y5 < x5) :
    Calls Tryz.prog 19 #[.agg #[.int .i64 k, .int .i64 m, .int .i64 s, .string t, .bool b, .int .i64 e], .agg #[.int .i64 k', .int .i64 m', .int .i64 s', .string t', .bool b', .int .i64 e']] w fun x w' => x = .returned (.int .i64 1) ∧ Below w.heap.size w w' := by
  have HX := Lib.hid KX
  have HY := Lib.hid KY
  clear KX KY
  have h' : (x5 != y5) = true := bne_iff_ne.2 (by omega)
  have h0 : ¬ x5 = y5 := by omega
  have h1 : ¬ x5 < y5 := by omega
  clear h
  have HB := Lib.hid ((sb1 w 29 #[.int .i64 k, .int .i64 m, .int .i64 s, .string t, .bool b, .int .i64 e]).push (by simp) 29 #[.int .i64 k', .int .i64 m', .int .i64 s', .string t', .bool b', .int .i64 e'])
  go_enter Tryz.func19, Tryz.ntmps19
  go_wp2_with fail
  refine (HX.out _).mono ?_
  rintro x w1 ⟨rfl, hb⟩
  have hB := (HB.out.call hb).alloc 29 #[.int .i64 4, .int .i64 x1, .int .i64 x2, .string x3, .bool x4, .int .i64 x5]
  clear hb HB
  have HB := Lib.hid hB
  clear hB
  have kb := HB.out.box (i := 1) rfl
  have cb0 := kb.cell 0
  have cb1 := kb.cell 1
  have cb2 := kb.cell 2
  have cb3 := kb.cell 3
  have cb4 := kb.cell 4
  have cb5 := kb.cell 5
  clear kb
  have ka := HB.out.box (i := 2) rfl
  have ca0 := ka.cell 0
  have ca1 := ka.cell 1
  have ca2 := ka.cell 2
  have ca3 := ka.cell 3
  have ca4 := ka.cell 4
  have ca5 := ka.cell 5
  clear ka
  have kx := HB.out.box (i := 0) rfl
  have cx0 := kx.cell 0
  have cx1 := kx.cell 1
  have cx2 := kx.cell 2
  have cx3 := kx.cell 3
  have cx4 := kx.cell 4
  have cx5 := kx.cell 5
  clear kx
  go_wp2_with fail
  refine (HY.out _).mono ?_
  rintro x w2 ⟨rfl, hb⟩
  have hB := (HB.out.call hb).alloc 29 #[.int .i64 4, .int .i64 y1, .int .i64 y2, .string y3, .bool y4, .int .i64 y5]
  clear hb HB ca0 ca1 ca2 ca3 ca4 ca5 cb0 cb1 cb2 cb3 cb4 cb5 cx0 cx1 cx2 cx3 cx4 cx5
  have HB := Lib.hid hB
  clear hB
  have kx := HB.out.box (i := 1) rfl
  have cx0 := kx.cell 0
  have cx1 := kx.cell 1
  have cx2 := kx.cell 2
  have cx3 := kx.cell 3
  have cx4 := kx.cell 4
  have cx5 := kx.cell 5
  clear kx
  have ky := HB.out.box (i := 0) rfl
  have cy0 := ky.cell 0
  have cy1 := ky.cell 1
  have cy2 := ky.cell 2
  have cy3 := ky.cell 3
  have cy4 := ky.cell 4
  have cy5 := ky.cell 5
  clear ky
  have hbel := HB.out.bel
  clear HB HX HY
  go_wp2
  go_ret
  exact ⟨rfl, hbel⟩

end Go.Proofs.YtmbjmgmnicacpaaGreatDoor
namespace Go.Proofs.YtmbjmgmnicacpaaGreatDoor
open Go.RowKit

theorem bcmpx_any {w : World} {a b : VX} (ha : OkX a) (hb : OkX b) :
    Calls Tryz.prog 19 #[xval a, xval b] w fun x w' => x = .returned (.int .i64 (cmpX a b)) ∧ Below w.heap.size w w' := by
  cases a with
  | blank =>
    cases b with
    | blank =>
      exact bcmp_blank (fun W => as_zero) (fun W => as_zero)
    | num m2 s2 =>
      exact bcmp_num (fun W => as_fill 1 (by decide) (by decide)) (fun W => as_non 1 _ _ _ _ _ 0 (by decide)) (fun W => bCmp_any (w := W) (show Gd 0 0 from ⟨by decide, by decide, by decide, .inl rfl⟩) hb)
    | str t2 =>
      have hc : cmpX .blank (.str t2) = cmpR (bz ([] : List UInt8)) (bz t2) := cmp_text (rfl : Lib.validD [] = true) (uE_valid hb).1
      rw [hc]
      have hl := less_cmp ([] : List UInt8) t2
      rcases cmpR_three (bz ([] : List UInt8)) (bz t2) with h | ⟨h, e⟩ | h
      · rw [h] at hl ⊢
        exact bcmp_sl (fun W => as_fill 2 (by decide) (by decide)) (fun W => as_non 2 _ _ _ _ _ 0 (by decide)) (fun e => by rw [e, cmpR_self] at h; cases h) hl
      · rw [h]
        have e' : ([] : List UInt8) = t2 := bz_inj.1 e
        subst e'
        exact bcmp_se (fun W => as_fill 2 (by decide) (by decide)) (fun W => as_non 2 _ _ _ _ _ 0 (by decide))
      · rw [h] at hl ⊢
        exact bcmp_sg (fun W => as_fill 2 (by decide) (by decide)) (fun W => as_non 2 _ _ _ _ _ 0 (by decide)) (fun e => by rw [e, cmpR_self] at h; cases h) hl
    | bool b2 =>
      cases b2
      · exact bcmp_b_false_false (fun W => as_fill 3 (by decide) (by decide)) (fun W => as_non 3 _ _ _ _ _ 0 (by decide))
      · exact bcmp_b_false_true (fun W => as_fill 3 (by decide) (by decide)) (fun W => as_non 3 _ _ _ _ _ 0 (by decide))
    | err e2 =>
      exact bcmp_kl (fun W => as_four) (fun W => as_non 4 _ _ _ _ _ 0 (by decide)) (by decide)
  | num m1 s1 =>
    cases b with
    | blank =>
      exact bcmp_num (fun W => as_non 1 _ _ _ _ _ 0 (by decide)) (fun W => as_fill 1 (by decide) (by decide)) (fun W => bCmp_any (w := W) ha (show Gd 0 0 from ⟨by decide, by decide, by decide, .inl rfl⟩))
    | num m2 s2 =>
      exact bcmp_num (fun W => as_non 1 _ _ _ _ _ 1 (by decide)) (fun W => as_non 1 _ _ _ _ _ 1 (by decide)) (fun W => bCmp_any (w := W) ha hb)
    | str t2 =>
      exact bcmp_kl (fun W => as_non 1 _ _ _ _ _ 2 (by decide)) (fun W => as_non 2 _ _ _ _ _ 1 (by decide)) (by decide)
    | bool b2 =>
      exact bcmp_kl (fun W => as_non 1 _ _ _ _ _ 3 (by decide)) (fun W => as_non 3 _ _ _ _ _ 1 (by decide)) (by decide)
    | err e2 =>
      exact bcmp_kl (fun W => as_non 1 _ _ _ _ _ 4 (by decide)) (fun W => as_non 4 _ _ _ _ _ 1 (by decide)) (by decide)
  | str t1 =>
    cases b with
    | blank =>
      have hc : cmpX (.str t1) .blank = cmpR (bz t1) (bz ([] : List UInt8)) := cmp_text (uE_valid ha).1 (rfl : Lib.validD [] = true)
      rw [hc]
      have hl := less_cmp t1 ([] : List UInt8)
      rcases cmpR_three (bz t1) (bz ([] : List UInt8)) with h | ⟨h, e⟩ | h
      · rw [h] at hl ⊢
        exact bcmp_sl (fun W => as_non 2 _ _ _ _ _ 0 (by decide)) (fun W => as_fill 2 (by decide) (by decide)) (fun e => by rw [e, cmpR_self] at h; cases h) hl
      · rw [h]
        have e' : t1 = ([] : List UInt8) := bz_inj.1 e
        subst e'
        exact bcmp_se (fun W => as_non 2 _ _ _ _ _ 0 (by decide)) (fun W => as_fill 2 (by decide) (by decide))
      · rw [h] at hl ⊢
        exact bcmp_sg (fun W => as_non 2 _ _ _ _ _ 0 (by decide)) (fun W => as_fill 2 (by decide) (by decide)) (fun e => by rw [e, cmpR_self] at h; cases h) hl
    | num m2 s2 =>
      exact bcmp_kg (fun W => as_non 2 _ _ _ _ _ 1 (by decide)) (fun W => as_non 1 _ _ _ _ _ 2 (by decide)) (by decide)
    | str t2 =>
      have hc : cmpX (.str t1) (.str t2) = cmpR (bz t1) (bz t2) := cmp_text (uE_valid ha).1 (uE_valid hb).1
      rw [hc]
      have hl := less_cmp t1 t2
      rcases cmpR_three (bz t1) (bz t2) with h | ⟨h, e⟩ | h
      · rw [h] at hl ⊢
        exact bcmp_sl (fun W => as_non 2 _ _ _ _ _ 2 (by decide)) (fun W => as_non 2 _ _ _ _ _ 2 (by decide)) (fun e => by rw [e, cmpR_self] at h; cases h) hl
      · rw [h]
        have e' : t1 = t2 := bz_inj.1 e
        subst e'
        exact bcmp_se (fun W => as_non 2 _ _ _ _ _ 2 (by decide)) (fun W => as_non 2 _ _ _ _ _ 2 (by decide))
      · rw [h] at hl ⊢
        exact bcmp_sg (fun W => as_non 2 _ _ _ _ _ 2 (by decide)) (fun W => as_non 2 _ _ _ _ _ 2 (by decide)) (fun e => by rw [e, cmpR_self] at h; cases h) hl
    | bool b2 =>
      exact bcmp_kl (fun W => as_non 2 _ _ _ _ _ 3 (by decide)) (fun W => as_non 3 _ _ _ _ _ 2 (by decide)) (by decide)
    | err e2 =>
      exact bcmp_kl (fun W => as_non 2 _ _ _ _ _ 4 (by decide)) (fun W => as_non 4 _ _ _ _ _ 2 (by decide)) (by decide)
  | bool b1 =>
    cases b with
    | blank =>
      cases b1
      · exact bcmp_b_false_false (fun W => as_non 3 _ _ _ _ _ 0 (by decide)) (fun W => as_fill 3 (by decide) (by decide))
      · exact bcmp_b_true_false (fun W => as_non 3 _ _ _ _ _ 0 (by decide)) (fun W => as_fill 3 (by decide) (by decide))
    | num m2 s2 =>
      exact bcmp_kg (fun W => as_non 3 _ _ _ _ _ 1 (by decide)) (fun W => as_non 1 _ _ _ _ _ 3 (by decide)) (by decide)
    | str t2 =>
      exact bcmp_kg (fun W => as_non 3 _ _ _ _ _ 2 (by decide)) (fun W => as_non 2 _ _ _ _ _ 3 (by decide)) (by decide)
    | bool b2 =>
      cases b1 <;> cases b2
      · exact bcmp_b_false_false (fun W => as_non 3 _ _ _ _ _ 3 (by decide)) (fun W => as_non 3 _ _ _ _ _ 3 (by decide))
      · exact bcmp_b_false_true (fun W => as_non 3 _ _ _ _ _ 3 (by decide)) (fun W => as_non 3 _ _ _ _ _ 3 (by decide))
      · exact bcmp_b_true_false (fun W => as_non 3 _ _ _ _ _ 3 (by decide)) (fun W => as_non 3 _ _ _ _ _ 3 (by decide))
      · exact bcmp_b_true_true (fun W => as_non 3 _ _ _ _ _ 3 (by decide)) (fun W => as_non 3 _ _ _ _ _ 3 (by decide))
    | err e2 =>
      exact bcmp_kl (fun W => as_non 3 _ _ _ _ _ 4 (by decide)) (fun W => as_non 4 _ _ _ _ _ 3 (by decide)) (by decide)
  | err e1 =>
    cases b with
    | blank =>
      exact bcmp_kg (fun W => as_non 4 _ _ _ _ _ 0 (by decide)) (fun W => as_four) (by decide)
    | num m2 s2 =>
      exact bcmp_kg (fun W => as_non 4 _ _ _ _ _ 1 (by decide)) (fun W => as_non 1 _ _ _ _ _ 4 (by decide)) (by decide)
    | str t2 =>
      exact bcmp_kg (fun W => as_non 4 _ _ _ _ _ 2 (by decide)) (fun W => as_non 2 _ _ _ _ _ 4 (by decide)) (by decide)
    | bool b2 =>
      exact bcmp_kg (fun W => as_non 4 _ _ _ _ _ 3 (by decide)) (fun W => as_non 3 _ _ _ _ _ 4 (by decide)) (by decide)
    | err e2 =>
      have hc : cmpX (.err e1) (.err e2) = cmp e1 e2 := rfl
      rw [hc]
      rcases Int.lt_trichotomy e1 e2 with h | h | h
      · rw [cmp_less.2 h]
        exact bcmp_el (fun W => as_non 4 _ _ _ _ _ 4 (by decide)) (fun W => as_non 4 _ _ _ _ _ 4 (by decide)) h
      · subst h
        rw [(cmp_zero _ _).2 rfl]
        exact bcmp_ee (fun W => as_non 4 _ _ _ _ _ 4 (by decide)) (fun W => as_non 4 _ _ _ _ _ 4 (by decide))
      · rw [show cmp e1 e2 = 1 by unfold cmp; rw [if_neg (by omega), if_neg (by omega)]]
        exact bcmp_eg (fun W => as_non 4 _ _ _ _ _ 4 (by decide)) (fun W => as_non 4 _ _ _ _ _ 4 (by decide)) h
end Go.Proofs.YtmbjmgmnicacpaaGreatDoor
