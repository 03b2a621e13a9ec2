/- cashbooklaw8.RefAny by its contract: it returns true. Condition: strconv.Itoa keeps its contract. -/
import Derived.Test.YtgjijjdpkmdcgaaDoorKnown8
namespace Go.Proofs.YtgjijjdpkmdcgaaDoor
open Go.RowKit

set_option maxRecDepth 20000 in
set_option maxHeartbeats 2000000 in
theorem any_yes {w : World} (HV : Tens w) (r c b d e0 f0 : Int) (x y : Bool) (hg : gdB e0 f0 = true) :
    Calls Tryd.prog 3 #[.agg #[.int .i64 r, .int .i64 c, .bool x, .bool y], .agg #[.int .i64 b, .int .i64 d], .agg #[.int .i64 e0, .int .i64 f0]] w fun e w' => e = .returned (.bool true) ∧ Below w.heap.size w w' := by
  have HK : Hid (∀ W : World, Below w.heap.size w W → Calls Tryd.prog 9 #[] W fun e w' => e = .returned (.bool true) ∧ Below W.heap.size W w') := Lib.hid (fun W hb => known8_any (HV.below hb))
  have H1 : Hid (∀ W : World, Calls Tryd.prog 10 #[.agg #[.int .i64 r, .int .i64 c, .bool x, .bool y]] W fun e w' => e = .returned (.int .i64 (ckI r c)) ∧ Below W.heap.size W w') := Lib.hid (fun W => check_any r c x y)
  have H2 : Hid (∀ W : World, Calls Tryd.prog 11 #[.agg #[.int .i64 r, .int .i64 c, .bool x, .bool y]] W fun e w' => e = .returned (.int .i64 (ckI r c)) ∧ Below W.heap.size W w') := Lib.hid (fun W => bCheck_any r c x y)
  have H3 : Hid (∀ W : World, Calls Tryd.prog 12 #[.agg #[.int .i64 r, .int .i64 c, .bool x, .bool y]] W fun e w' => e = .returned (.agg #[.int .i64 r, .int .i64 c, .bool x, .bool y]) ∧ Below W.heap.size W w') := Lib.hid (fun W => of_any r c x y)
  have H4 : Hid (∀ W : World, Calls Tryd.prog 13 #[.agg #[.int .i64 b, .int .i64 d]] W fun e w' => e = .returned (.bool (gdB b d)) ∧ Below W.heap.size W w') := Lib.hid (fun W => good_any b d)
  have H5 : Hid (∀ W : World, Calls Tryd.prog 14 #[.agg #[.int .i64 b, .int .i64 d]] W fun e w' => e = .returned (.bool (gdB b d)) ∧ Below W.heap.size W w') := Lib.hid (fun W => bGood_any b d)
  have H6 : Hid (∀ W : World, Calls Tryd.prog 15 #[.agg #[.int .i64 b, .int .i64 d]] W fun e w' => e = .returned (.agg #[.int .i64 b, .int .i64 d]) ∧ Below W.heap.size W w') := Lib.hid (fun W => ofCell_any b d)
  have H7 : Hid (∀ W : World, Calls Tryd.prog 15 #[.agg #[.int .i64 e0, .int .i64 f0]] W fun e w' => e = .returned (.agg #[.int .i64 e0, .int .i64 f0]) ∧ Below W.heap.size W w') := Lib.hid (fun W => ofCell_any e0 f0)
  have H8 : Hid (∀ W : World, Calls Tryd.prog 16 #[.agg #[.int .i64 r, .int .i64 c, .bool x, .bool y], .agg #[.int .i64 b, .int .i64 d]] W fun e w' => e = .returned (.agg #[.int .i64 (fo r b x 65536), .int .i64 (fo c d y 256)]) ∧ Below W.heap.size W w') := Lib.hid (fun W => at_any r c b d x y)
  have H9 : Hid (∀ W : World, Calls Tryd.prog 17 #[.agg #[.int .i64 r, .int .i64 c, .bool x, .bool y], .agg #[.int .i64 b, .int .i64 d]] W fun e w' => e = .returned (.agg #[.int .i64 (fo r b x 65536), .int .i64 (fo c d y 256)]) ∧ Below W.heap.size W w') := Lib.hid (fun W => bAt_any r c b d x y)
  have H10 : Hid (∀ W : World, Calls Tryd.prog 18 #[.agg #[.int .i64 e0, .int .i64 f0], .agg #[.int .i64 b, .int .i64 d], .bool x, .bool y] W fun e w' => e = .returned (.agg #[.int .i64 (ba e0 b x 65536), .int .i64 (ba f0 d y 256), .bool x, .bool y]) ∧ Below W.heap.size W w') := Lib.hid (fun W => rel_any e0 f0 b d x y)
  have H11 : Hid (∀ W : World, Calls Tryd.prog 19 #[.agg #[.int .i64 e0, .int .i64 f0], .agg #[.int .i64 b, .int .i64 d], .bool x, .bool y] W fun e w' => e = .returned (.agg #[.int .i64 (ba e0 b x 65536), .int .i64 (ba f0 d y 256), .bool x, .bool y]) ∧ Below W.heap.size W w') := Lib.hid (fun W => bRel_any e0 f0 b d x y)
  have H12 : Hid (∀ W : World, Calls Tryd.prog 15 #[.agg #[.int .i64 (fo r b x 65536), .int .i64 (fo c d y 256)]] W fun e w' => e = .returned (.agg #[.int .i64 (fo r b x 65536), .int .i64 (fo c d y 256)]) ∧ Below W.heap.size W w') := Lib.hid (fun W => ofCell_any _ _)
  have H13 : Hid (∀ W : World, Calls Tryd.prog 12 #[.agg #[.int .i64 (ba e0 b x 65536), .int .i64 (ba f0 d y 256), .bool x, .bool y]] W fun e w' => e = .returned (.agg #[.int .i64 (ba e0 b x 65536), .int .i64 (ba f0 d y 256), .bool x, .bool y]) ∧ Below W.heap.size W w') := Lib.hid (fun W => of_any _ _ x y)
  have H14 : Hid (∀ W : World, Calls Tryd.prog 13 #[.agg #[.int .i64 e0, .int .i64 f0]] W fun e w' => e = .returned (.bool true) ∧ Below W.heap.size W w') := Lib.hid (fun W => by
    have := good_any (w := W) e0 f0
    rw [hg] at this
    exact this)
  obtain ⟨g0, g1, g2, g3⟩ := gdB_iff.1 hg
  have H15 : Hid (∀ W : World, Calls Tryd.prog 16 #[.agg #[.int .i64 (ba e0 b x 65536), .int .i64 (ba f0 d y 256), .bool x, .bool y], .agg #[.int .i64 b, .int .i64 d]] W fun e w' => e = .returned (.agg #[.int .i64 e0, .int .i64 f0]) ∧ Below W.heap.size W w') := Lib.hid (fun W => by
    have := at_any (w := W) (ba e0 b x 65536) (ba f0 d y 256) b d x y
    rw [fo_ba_r e0 b x g0 g1] at this
    rw [fo_ba_c f0 d y g2 g3] at this
    exact this)
  clear g0 g1 g2 g3
  clear hg
  generalize fo r b x 65536 = F1 at *
  generalize fo c d y 256 = F2 at *
  generalize ba e0 b x 65536 = B1 at *
  generalize ba f0 d y 256 = B2 at *
  generalize ckI r c = k at *
  generalize gdB b d = gb at *
  clear HV
  have HB : Hid (SB w 3 ([(w.heap.size + 1 + 1, 25, #[.int .i64 e0, .int .i64 f0]), (w.heap.size + 1, 25, #[.int .i64 b, .int .i64 d]), (w.heap.size, 23, #[.int .i64 r, .int .i64 c, .bool x, .bool y])] : List (Nat × TypeId × Array Value)) (((w.alloc (.cells #[.int .i64 r, .int .i64 c, .bool x, .bool y] 23)).alloc (.cells #[.int .i64 b, .int .i64 d] 25)).alloc (.cells #[.int .i64 e0, .int .i64 f0] 25))) := Lib.hid (((sb1 w 23 #[.int .i64 r, .int .i64 c, .bool x, .bool y]).push (by simp) 25 #[.int .i64 b, .int .i64 d]).push (by simp) 25 #[.int .i64 e0, .int .i64 f0])
  go_enter Tryd.func3, Tryd.ntmps3
  go_wp2_with fail
  refine (HK.out _ HB.out.bel).mono ?_
  rintro e w1 ⟨rfl, hb⟩
  have hB := HB.out.call hb
  clear hb HB
  have HB := Lib.hid hB
  clear hB
  clear HK
  go_wp2_with fail
  refine wp_region_phases (S := (fun vals W => SX w 3 ([] : List Stp) vals ([(w.heap.size + 1 + 1, 25, #[.int .i64 e0, .int .i64 f0]), (w.heap.size + 1, 25, #[.int .i64 b, .int .i64 d]), (w.heap.size, 23, #[.int .i64 r, .int .i64 c, .bool x, .bool y])] : List (Nat × TypeId × Array Value)) W)) (E := (fun _ _ => True)) [] [(3, Is (.pointer (some ⟨w.heap.size, 0, none⟩))), (4, Is (.pointer (some ⟨w.heap.size + 1, 0, none⟩))), (5, Is (.pointer (some ⟨w.heap.size + 1 + 1, 0, none⟩)))] [(9, Is (.agg #[.int .i64 r, .int .i64 c, .bool x, .bool y])), (10, Is (.int .i64 k)), (11, Is (.agg #[.int .i64 r, .int .i64 c, .bool x, .bool y])), (12, Is (.agg #[.int .i64 r, .int .i64 c, .bool x, .bool y])), (13, Is (.int .i64 k)), (14, Is (.bool false)), (15, Is (.bool false)), (16, Is (.agg #[.int .i64 b, .int .i64 d])), (17, Is (.bool gb)), (18, Is (.agg #[.int .i64 b, .int .i64 d])), (19, Is (.agg #[.int .i64 b, .int .i64 d])), (20, Is (.bool gb)), (21, Is (.bool false)), (22, Is (.bool false)), (23, Is (.bool false)), (24, Is (.agg #[.int .i64 r, .int .i64 c, .bool x, .bool y])), (25, Is (.agg #[.int .i64 b, .int .i64 d])), (26, Is (.agg #[.int .i64 F1, .int .i64 F2])), (27, Is (.agg #[.int .i64 F1, .int .i64 F2])), (28, Is (.agg #[.int .i64 r, .int .i64 c, .bool x, .bool y])), (29, Is (.agg #[.int .i64 r, .int .i64 c, .bool x, .bool y])), (30, Is (.agg #[.int .i64 b, .int .i64 d])), (31, Is (.agg #[.int .i64 b, .int .i64 d])), (32, Is (.agg #[.int .i64 F1, .int .i64 F2])), (33, Is (.bool false)), (34, Is (.bool false)), (35, Is (.bool false)), (36, Is (.agg #[.int .i64 e0, .int .i64 f0])), (37, Is (.agg #[.int .i64 b, .int .i64 d])), (38, Is (.pointer (some ⟨w.heap.size, 2, none⟩))), (39, Is (.bool x)), (40, Is (.pointer (some ⟨w.heap.size, 3, none⟩))), (41, Is (.bool y)), (42, Is (.agg #[.int .i64 B1, .int .i64 B2, .bool x, .bool y])), (43, Is (.agg #[.int .i64 B1, .int .i64 B2, .bool x, .bool y])), (44, Is (.agg #[.int .i64 e0, .int .i64 f0])), (45, Is (.agg #[.int .i64 e0, .int .i64 f0])), (46, Is (.agg #[.int .i64 b, .int .i64 d])), (47, Is (.agg #[.int .i64 b, .int .i64 d])), (48, Is (.pointer (some ⟨w.heap.size, 2, none⟩))), (49, Is (.bool x)), (50, Is (.pointer (some ⟨w.heap.size, 3, none⟩))), (51, Is (.bool y)), (52, Is (.agg #[.int .i64 B1, .int .i64 B2, .bool x, .bool y])), (53, Is (.bool false)), (54, Is (.bool false))]
    [.op [3] none, .op [9] none, .op [3] none, .op [11] none, .op [12] none, .op [10, 13] none, .op [14] none, .op [4, 15] (some (15, false)), .op [16, 15] (some (15, false)), .op [4, 15] (some (15, false)), .op [18, 15] (some (15, false)), .op [19, 15] (some (15, false)), .op [17, 20, 15] (some (15, false)), .op [15, 21] none, .op [22] none, .op [3, 23] (some (23, false)), .op [4, 23] (some (23, false)), .op [24, 25, 23] (some (23, false)), .op [26, 23] (some (23, false)), .op [3, 23] (some (23, false)), .op [28, 23] (some (23, false)), .op [4, 23] (some (23, false)), .op [30, 23] (some (23, false)), .op [29, 31, 23] (some (23, false)), .op [27, 32, 23] (some (23, false)), .op [23, 33] none, .op [34] none, .op [5, 35] (some (35, false)), .op [4, 35] (some (35, false)), .op [3, 35] (some (35, false)), .op [38, 35] (some (35, false)), .op [3, 35] (some (35, false)), .op [40, 35] (some (35, false)), .op [36, 37, 39, 41, 35] (some (35, false)), .op [42, 35] (some (35, false)), .op [5, 35] (some (35, false)), .op [44, 35] (some (35, false)), .op [4, 35] (some (35, false)), .op [46, 35] (some (35, false)), .op [3, 35] (some (35, false)), .op [48, 35] (some (35, false)), .op [3, 35] (some (35, false)), .op [50, 35] (some (35, false)), .op [45, 47, 49, 51, 35] (some (35, false)), .op [43, 52, 35] (some (35, false)), .op [35, 53] none] (by as_aux_lemma => kernel_rfl) ?_ ?_ ?_ ?_ ?_ ⟨stable_is _ _, stable_is _ _, stable_is _ _, stable_is _ _, stable_is _ _, stable_is _ _, stable_is _ _, stable_is _ _, stable_is _ _, stable_is _ _, stable_is _ _, stable_is _ _, stable_is _ _, stable_is _ _, stable_is _ _, stable_is _ _, stable_is _ _, stable_is _ _, stable_is _ _, stable_is _ _, stable_is _ _, stable_is _ _, stable_is _ _, stable_is _ _, stable_is _ _, stable_is _ _, stable_is _ _, stable_is _ _, stable_is _ _, stable_is _ _, stable_is _ _, stable_is _ _, stable_is _ _, stable_is _ _, stable_is _ _, stable_is _ _, stable_is _ _, stable_is _ _, stable_is _ _, stable_is _ _, stable_is _ _, stable_is _ _, stable_is _ _, stable_is _ _, stable_is _ _, stable_is _ _, stable_is _ _, stable_is _ _, stable_is _ _, trivial⟩ ?_ (HB.out.drew) ?_ ?_
  · as_aux_lemma => kernel_rfl
  · as_aux_lemma => kernel_rfl
  · as_aux_lemma => kernel_rfl
  · as_aux_lemma => kernel_rfl
  · as_aux_lemma => kernel_rfl
  · exact ⟨rfl, rfl, rfl, trivial⟩
  · refine ⟨?_, ?_, ?_, ?_, ?_, ?_, ?_, ?_, ?_, ?_, ?_, ?_, ?_, ?_, ?_, ?_, ?_, ?_, ?_, ?_, ?_, ?_, ?_, ?_, ?_, ?_, ?_, ?_, ?_, ?_, ?_, ?_, ?_, ?_, ?_, ?_, ?_, ?_, ?_, ?_, ?_, ?_, ?_, ?_, ?_, ?_, trivial⟩
    · as_aux_lemma =>
        intro vals a W hS hL
        have e3 : a.tmps.getD 3 undef = .pointer (some ⟨w.heap.size, 0, none⟩) := hL.1
        clear hL
        have kb : Bk W (w.heap.size) 23 #[.int .i64 r, .int .i64 c, .bool x, .bool y] := hS.bk 2 rfl rfl
        have f0 := kb.cell 0
        have f1 := kb.cell 1
        have f2 := kb.cell 2
        have f3 := kb.cell 3
        clear kb
        go_simp
        exact ⟨⟨fun d hd => by injection hd with hd; subst hd; rfl, fun h => by cases h⟩, hS, trivial⟩
    · as_aux_lemma =>
        intro vals a W hS hL
        have e9 : a.tmps.getD 9 undef = .agg #[.int .i64 r, .int .i64 c, .bool x, .bool y] := hL.1
        clear hL
        go_simp
        refine (H1.out W).mono ?_
        rintro e W' ⟨rfl, hb⟩
        exact ⟨_, rfl, ⟨fun d hd => by injection hd with hd; subst hd; rfl, fun h => by cases h⟩, hS.call hb, trivial⟩
    · as_aux_lemma =>
        intro vals a W hS hL
        have e3 : a.tmps.getD 3 undef = .pointer (some ⟨w.heap.size, 0, none⟩) := hL.1
        clear hL
        have kb : Bk W (w.heap.size) 23 #[.int .i64 r, .int .i64 c, .bool x, .bool y] := hS.bk 2 rfl rfl
        have f0 := kb.cell 0
        have f1 := kb.cell 1
        have f2 := kb.cell 2
        have f3 := kb.cell 3
        clear kb
        go_simp
        exact ⟨⟨fun d hd => by injection hd with hd; subst hd; rfl, fun h => by cases h⟩, hS, trivial⟩
    · as_aux_lemma =>
        intro vals a W hS hL
        have e11 : a.tmps.getD 11 undef = .agg #[.int .i64 r, .int .i64 c, .bool x, .bool y] := hL.1
        clear hL
        go_simp
        refine (H3.out W).mono ?_
        rintro e W' ⟨rfl, hb⟩
        exact ⟨_, rfl, ⟨fun d hd => by injection hd with hd; subst hd; rfl, fun h => by cases h⟩, hS.call hb, trivial⟩
    · as_aux_lemma =>
        intro vals a W hS hL
        have e12 : a.tmps.getD 12 undef = .agg #[.int .i64 r, .int .i64 c, .bool x, .bool y] := hL.1
        clear hL
        go_simp
        refine (H2.out W).mono ?_
        rintro e W' ⟨rfl, hb⟩
        exact ⟨_, rfl, ⟨fun d hd => by injection hd with hd; subst hd; rfl, fun h => by cases h⟩, hS.call hb, trivial⟩
    · as_aux_lemma =>
        intro vals a W hS hL
        have e10 : a.tmps.getD 10 undef = .int .i64 k := hL.1
        have e13 : a.tmps.getD 13 undef = .int .i64 k := hL.2.1
        clear hL
        go_simp
        exact ⟨⟨fun d hd => by injection hd with hd; subst hd; rfl, fun h => by cases h⟩, hS, trivial⟩
    · as_aux_lemma =>
        intro vals a W hS hL
        have e14 : a.tmps.getD 14 undef = .bool false := hL.1
        clear hL
        go_simp
        exact ⟨⟨fun d hd => by injection hd with hd; subst hd; rfl, fun h => by cases h⟩, hS, trivial⟩
    · as_aux_lemma =>
        intro vals a W hS hL
        have e4 : a.tmps.getD 4 undef = .pointer (some ⟨w.heap.size + 1, 0, none⟩) := hL.1
        have e15 : a.tmps.getD 15 undef = .bool false := hL.2.1
        clear hL
        refine ⟨false, e15, ?_⟩
        rw [if_pos rfl]
        have kb : Bk W (w.heap.size + 1) 25 #[.int .i64 b, .int .i64 d] := hS.bk 1 rfl rfl
        have f0 := kb.cell 0
        have f1 := kb.cell 1
        clear kb
        go_simp
        exact ⟨⟨fun d hd => by injection hd with hd; subst hd; rfl, fun h => by cases h⟩, hS, trivial⟩
    · as_aux_lemma =>
        intro vals a W hS hL
        have e16 : a.tmps.getD 16 undef = .agg #[.int .i64 b, .int .i64 d] := hL.1
        have e15 : a.tmps.getD 15 undef = .bool false := hL.2.1
        clear hL
        refine ⟨false, e15, ?_⟩
        rw [if_pos rfl]
        go_simp
        refine (H4.out W).mono ?_
        rintro e W' ⟨rfl, hb⟩
        exact ⟨_, rfl, ⟨fun d hd => by injection hd with hd; subst hd; rfl, fun h => by cases h⟩, hS.call hb, trivial⟩
    · as_aux_lemma =>
        intro vals a W hS hL
        have e4 : a.tmps.getD 4 undef = .pointer (some ⟨w.heap.size + 1, 0, none⟩) := hL.1
        have e15 : a.tmps.getD 15 undef = .bool false := hL.2.1
        clear hL
        refine ⟨false, e15, ?_⟩
        rw [if_pos rfl]
        have kb : Bk W (w.heap.size + 1) 25 #[.int .i64 b, .int .i64 d] := hS.bk 1 rfl rfl
        have f0 := kb.cell 0
        have f1 := kb.cell 1
        clear kb
        go_simp
        exact ⟨⟨fun d hd => by injection hd with hd; subst hd; rfl, fun h => by cases h⟩, hS, trivial⟩
    · as_aux_lemma =>
        intro vals a W hS hL
        have e18 : a.tmps.getD 18 undef = .agg #[.int .i64 b, .int .i64 d] := hL.1
        have e15 : a.tmps.getD 15 undef = .bool false := hL.2.1
        clear hL
        refine ⟨false, e15, ?_⟩
        rw [if_pos rfl]
        go_simp
        refine (H6.out W).mono ?_
        rintro e W' ⟨rfl, hb⟩
        exact ⟨_, rfl, ⟨fun d hd => by injection hd with hd; subst hd; rfl, fun h => by cases h⟩, hS.call hb, trivial⟩
    · as_aux_lemma =>
        intro vals a W hS hL
        have e19 : a.tmps.getD 19 undef = .agg #[.int .i64 b, .int .i64 d] := hL.1
        have e15 : a.tmps.getD 15 undef = .bool false := hL.2.1
        clear hL
        refine ⟨false, e15, ?_⟩
        rw [if_pos rfl]
        go_simp
        refine (H5.out W).mono ?_
        rintro e W' ⟨rfl, hb⟩
        exact ⟨_, rfl, ⟨fun d hd => by injection hd with hd; subst hd; rfl, fun h => by cases h⟩, hS.call hb, trivial⟩
    · as_aux_lemma =>
        intro vals a W hS hL
        have e17 : a.tmps.getD 17 undef = .bool gb := hL.1
        have e20 : a.tmps.getD 20 undef = .bool gb := hL.2.1
        have e15 : a.tmps.getD 15 undef = .bool false := hL.2.2.1
        clear hL
        refine ⟨false, e15, ?_⟩
        rw [if_pos rfl]
        go_simp
        exact ⟨⟨fun d hd => by injection hd with hd; subst hd; rfl, fun h => by cases h⟩, hS, trivial⟩
    · as_aux_lemma =>
        intro vals a W hS hL
        have e15 : a.tmps.getD 15 undef = .bool false := hL.1
        have e21 : a.tmps.getD 21 undef = .bool false := hL.2.1
        clear hL
        go_simp
        exact ⟨⟨fun d hd => by injection hd with hd; subst hd; rfl, fun h => by cases h⟩, hS, trivial⟩
    · as_aux_lemma =>
        intro vals a W hS hL
        have e22 : a.tmps.getD 22 undef = .bool false := hL.1
        clear hL
        go_simp
        exact ⟨⟨fun d hd => by injection hd with hd; subst hd; rfl, fun h => by cases h⟩, hS, trivial⟩
    · as_aux_lemma =>
        intro vals a W hS hL
        have e3 : a.tmps.getD 3 undef = .pointer (some ⟨w.heap.size, 0, none⟩) := hL.1
        have e23 : a.tmps.getD 23 undef = .bool false := hL.2.1
        clear hL
        refine ⟨false, e23, ?_⟩
        rw [if_pos rfl]
        have kb : Bk W (w.heap.size) 23 #[.int .i64 r, .int .i64 c, .bool x, .bool y] := hS.bk 2 rfl rfl
        have f0 := kb.cell 0
        have f1 := kb.cell 1
        have f2 := kb.cell 2
        have f3 := kb.cell 3
        clear kb
        go_simp
        exact ⟨⟨fun d hd => by injection hd with hd; subst hd; rfl, fun h => by cases h⟩, hS, trivial⟩
    · as_aux_lemma =>
        intro vals a W hS hL
        have e4 : a.tmps.getD 4 undef = .pointer (some ⟨w.heap.size + 1, 0, none⟩) := hL.1
        have e23 : a.tmps.getD 23 undef = .bool false := hL.2.1
        clear hL
        refine ⟨false, e23, ?_⟩
        rw [if_pos rfl]
        have kb : Bk W (w.heap.size + 1) 25 #[.int .i64 b, .int .i64 d] := hS.bk 1 rfl rfl
        have f0 := kb.cell 0
        have f1 := kb.cell 1
        clear kb
        go_simp
        exact ⟨⟨fun d hd => by injection hd with hd; subst hd; rfl, fun h => by cases h⟩, hS, trivial⟩
    · as_aux_lemma =>
        intro vals a W hS hL
        have e24 : a.tmps.getD 24 undef = .agg #[.int .i64 r, .int .i64 c, .bool x, .bool y] := hL.1
        have e25 : a.tmps.getD 25 undef = .agg #[.int .i64 b, .int .i64 d] := hL.2.1
        have e23 : a.tmps.getD 23 undef = .bool false := hL.2.2.1
        clear hL
        refine ⟨false, e23, ?_⟩
        rw [if_pos rfl]
        go_simp
        refine (H8.out W).mono ?_
        rintro e W' ⟨rfl, hb⟩
        exact ⟨_, rfl, ⟨fun d hd => by injection hd with hd; subst hd; rfl, fun h => by cases h⟩, hS.call hb, trivial⟩
    · as_aux_lemma =>
        intro vals a W hS hL
        have e26 : a.tmps.getD 26 undef = .agg #[.int .i64 F1, .int .i64 F2] := hL.1
        have e23 : a.tmps.getD 23 undef = .bool false := hL.2.1
        clear hL
        refine ⟨false, e23, ?_⟩
        rw [if_pos rfl]
        go_simp
        refine (H12.out W).mono ?_
        rintro e W' ⟨rfl, hb⟩
        exact ⟨_, rfl, ⟨fun d hd => by injection hd with hd; subst hd; rfl, fun h => by cases h⟩, hS.call hb, trivial⟩
    · as_aux_lemma =>
        intro vals a W hS hL
        have e3 : a.tmps.getD 3 undef = .pointer (some ⟨w.heap.size, 0, none⟩) := hL.1
        have e23 : a.tmps.getD 23 undef = .bool false := hL.2.1
        clear hL
        refine ⟨false, e23, ?_⟩
        rw [if_pos rfl]
        have kb : Bk W (w.heap.size) 23 #[.int .i64 r, .int .i64 c, .bool x, .bool y] := hS.bk 2 rfl rfl
        have f0 := kb.cell 0
        have f1 := kb.cell 1
        have f2 := kb.cell 2
        have f3 := kb.cell 3
        clear kb
        go_simp
        exact ⟨⟨fun d hd => by injection hd with hd; subst hd; rfl, fun h => by cases h⟩, hS, trivial⟩
    · as_aux_lemma =>
        intro vals a W hS hL
        have e28 : a.tmps.getD 28 undef = .agg #[.int .i64 r, .int .i64 c, .bool x, .bool y] := hL.1
        have e23 : a.tmps.getD 23 undef = .bool false := hL.2.1
        clear hL
        refine ⟨false, e23, ?_⟩
        rw [if_pos rfl]
        go_simp
        refine (H3.out W).mono ?_
        rintro e W' ⟨rfl, hb⟩
        exact ⟨_, rfl, ⟨fun d hd => by injection hd with hd; subst hd; rfl, fun h => by cases h⟩, hS.call hb, trivial⟩
    · as_aux_lemma =>
        intro vals a W hS hL
        have e4 : a.tmps.getD 4 undef = .pointer (some ⟨w.heap.size + 1, 0, none⟩) := hL.1
        have e23 : a.tmps.getD 23 undef = .bool false := hL.2.1
        clear hL
        refine ⟨false, e23, ?_⟩
        rw [if_pos rfl]
        have kb : Bk W (w.heap.size + 1) 25 #[.int .i64 b, .int .i64 d] := hS.bk 1 rfl rfl
        have f0 := kb.cell 0
        have f1 := kb.cell 1
        clear kb
        go_simp
        exact ⟨⟨fun d hd => by injection hd with hd; subst hd; rfl, fun h => by cases h⟩, hS, trivial⟩
    · as_aux_lemma =>
        intro vals a W hS hL
        have e30 : a.tmps.getD 30 undef = .agg #[.int .i64 b, .int .i64 d] := hL.1
        have e23 : a.tmps.getD 23 undef = .bool false := hL.2.1
        clear hL
        refine ⟨false, e23, ?_⟩
        rw [if_pos rfl]
        go_simp
        refine (H6.out W).mono ?_
        rintro e W' ⟨rfl, hb⟩
        exact ⟨_, rfl, ⟨fun d hd => by injection hd with hd; subst hd; rfl, fun h => by cases h⟩, hS.call hb, trivial⟩
    · as_aux_lemma =>
        intro vals a W hS hL
        have e29 : a.tmps.getD 29 undef = .agg #[.int .i64 r, .int .i64 c, .bool x, .bool y] := hL.1
        have e31 : a.tmps.getD 31 undef = .agg #[.int .i64 b, .int .i64 d] := hL.2.1
        have e23 : a.tmps.getD 23 undef = .bool false := hL.2.2.1
        clear hL
        refine ⟨false, e23, ?_⟩
        rw [if_pos rfl]
        go_simp
        refine (H9.out W).mono ?_
        rintro e W' ⟨rfl, hb⟩
        exact ⟨_, rfl, ⟨fun d hd => by injection hd with hd; subst hd; rfl, fun h => by cases h⟩, hS.call hb, trivial⟩
    · as_aux_lemma =>
        intro vals a W hS hL
        have e27 : a.tmps.getD 27 undef = .agg #[.int .i64 F1, .int .i64 F2] := hL.1
        have e32 : a.tmps.getD 32 undef = .agg #[.int .i64 F1, .int .i64 F2] := hL.2.1
        have e23 : a.tmps.getD 23 undef = .bool false := hL.2.2.1
        clear hL
        refine ⟨false, e23, ?_⟩
        rw [if_pos rfl]
        go_simp
        exact ⟨⟨fun d hd => by injection hd with hd; subst hd; rfl, fun h => by cases h⟩, hS, trivial⟩
    · as_aux_lemma =>
        intro vals a W hS hL
        have e23 : a.tmps.getD 23 undef = .bool false := hL.1
        have e33 : a.tmps.getD 33 undef = .bool false := hL.2.1
        clear hL
        go_simp
        exact ⟨⟨fun d hd => by injection hd with hd; subst hd; rfl, fun h => by cases h⟩, hS, trivial⟩
    · as_aux_lemma =>
        intro vals a W hS hL
        have e34 : a.tmps.getD 34 undef = .bool false := hL.1
        clear hL
        go_simp
        exact ⟨⟨fun d hd => by injection hd with hd; subst hd; rfl, fun h => by cases h⟩, hS, trivial⟩
    · as_aux_lemma =>
        intro vals a W hS hL
        have e5 : a.tmps.getD 5 undef = .pointer (some ⟨w.heap.size + 1 + 1, 0, none⟩) := hL.1
        have e35 : a.tmps.getD 35 undef = .bool false := hL.2.1
        clear hL
        refine ⟨false, e35, ?_⟩
        rw [if_pos rfl]
        have kb : Bk W (w.heap.size + 1 + 1) 25 #[.int .i64 e0, .int .i64 f0] := hS.bk 0 rfl rfl
        have f0 := kb.cell 0
        have f1 := kb.cell 1
        clear kb
        go_simp
        exact ⟨⟨fun d hd => by injection hd with hd; subst hd; rfl, fun h => by cases h⟩, hS, trivial⟩
    · as_aux_lemma =>
        intro vals a W hS hL
        have e4 : a.tmps.getD 4 undef = .pointer (some ⟨w.heap.size + 1, 0, none⟩) := hL.1
        have e35 : a.tmps.getD 35 undef = .bool false := hL.2.1
        clear hL
        refine ⟨false, e35, ?_⟩
        rw [if_pos rfl]
        have kb : Bk W (w.heap.size + 1) 25 #[.int .i64 b, .int .i64 d] := hS.bk 1 rfl rfl
        have f0 := kb.cell 0
        have f1 := kb.cell 1
        clear kb
        go_simp
        exact ⟨⟨fun d hd => by injection hd with hd; subst hd; rfl, fun h => by cases h⟩, hS, trivial⟩
    · as_aux_lemma =>
        intro vals a W hS hL
        have e3 : a.tmps.getD 3 undef = .pointer (some ⟨w.heap.size, 0, none⟩) := hL.1
        have e35 : a.tmps.getD 35 undef = .bool false := hL.2.1
        clear hL
        refine ⟨false, e35, ?_⟩
        rw [if_pos rfl]
        go_simp
        exact ⟨⟨fun d hd => by injection hd with hd; subst hd; rfl, fun h => by cases h⟩, hS, trivial⟩
    · as_aux_lemma =>
        intro vals a W hS hL
        have e38 : a.tmps.getD 38 undef = .pointer (some ⟨w.heap.size, 2, none⟩) := hL.1
        have e35 : a.tmps.getD 35 undef = .bool false := hL.2.1
        clear hL
        refine ⟨false, e35, ?_⟩
        rw [if_pos rfl]
        have kb : Bk W (w.heap.size) 23 #[.int .i64 r, .int .i64 c, .bool x, .bool y] := hS.bk 2 rfl rfl
        have f2 := kb.cell 2
        clear kb
        go_simp
        exact ⟨⟨fun d hd => by injection hd with hd; subst hd; rfl, fun h => by cases h⟩, hS, trivial⟩
    · as_aux_lemma =>
        intro vals a W hS hL
        have e3 : a.tmps.getD 3 undef = .pointer (some ⟨w.heap.size, 0, none⟩) := hL.1
        have e35 : a.tmps.getD 35 undef = .bool false := hL.2.1
        clear hL
        refine ⟨false, e35, ?_⟩
        rw [if_pos rfl]
        go_simp
        exact ⟨⟨fun d hd => by injection hd with hd; subst hd; rfl, fun h => by cases h⟩, hS, trivial⟩
    · as_aux_lemma =>
        intro vals a W hS hL
        have e40 : a.tmps.getD 40 undef = .pointer (some ⟨w.heap.size, 3, none⟩) := hL.1
        have e35 : a.tmps.getD 35 undef = .bool false := hL.2.1
        clear hL
        refine ⟨false, e35, ?_⟩
        rw [if_pos rfl]
        have kb : Bk W (w.heap.size) 23 #[.int .i64 r, .int .i64 c, .bool x, .bool y] := hS.bk 2 rfl rfl
        have f3 := kb.cell 3
        clear kb
        go_simp
        exact ⟨⟨fun d hd => by injection hd with hd; subst hd; rfl, fun h => by cases h⟩, hS, trivial⟩
    · as_aux_lemma =>
        intro vals a W hS hL
        have e36 : a.tmps.getD 36 undef = .agg #[.int .i64 e0, .int .i64 f0] := hL.1
        have e37 : a.tmps.getD 37 undef = .agg #[.int .i64 b, .int .i64 d] := hL.2.1
        have e39 : a.tmps.getD 39 undef = .bool x := hL.2.2.1
        have e41 : a.tmps.getD 41 undef = .bool y := hL.2.2.2.1
        have e35 : a.tmps.getD 35 undef = .bool false := hL.2.2.2.2.1
        clear hL
        refine ⟨false, e35, ?_⟩
        rw [if_pos rfl]
        go_simp
        refine (H10.out W).mono ?_
        rintro e W' ⟨rfl, hb⟩
        exact ⟨_, rfl, ⟨fun d hd => by injection hd with hd; subst hd; rfl, fun h => by cases h⟩, hS.call hb, trivial⟩
    · as_aux_lemma =>
        intro vals a W hS hL
        have e42 : a.tmps.getD 42 undef = .agg #[.int .i64 B1, .int .i64 B2, .bool x, .bool y] := hL.1
        have e35 : a.tmps.getD 35 undef = .bool false := hL.2.1
        clear hL
        refine ⟨false, e35, ?_⟩
        rw [if_pos rfl]
        go_simp
        refine (H13.out W).mono ?_
        rintro e W' ⟨rfl, hb⟩
        exact ⟨_, rfl, ⟨fun d hd => by injection hd with hd; subst hd; rfl, fun h => by cases h⟩, hS.call hb, trivial⟩
    · as_aux_lemma =>
        intro vals a W hS hL
        have e5 : a.tmps.getD 5 undef = .pointer (some ⟨w.heap.size + 1 + 1, 0, none⟩) := hL.1
        have e35 : a.tmps.getD 35 undef = .bool false := hL.2.1
        clear hL
        refine ⟨false, e35, ?_⟩
        rw [if_pos rfl]
        have kb : Bk W (w.heap.size + 1 + 1) 25 #[.int .i64 e0, .int .i64 f0] := hS.bk 0 rfl rfl
        have f0 := kb.cell 0
        have f1 := kb.cell 1
        clear kb
        go_simp
        exact ⟨⟨fun d hd => by injection hd with hd; subst hd; rfl, fun h => by cases h⟩, hS, trivial⟩
    · as_aux_lemma =>
        intro vals a W hS hL
        have e44 : a.tmps.getD 44 undef = .agg #[.int .i64 e0, .int .i64 f0] := hL.1
        have e35 : a.tmps.getD 35 undef = .bool false := hL.2.1
        clear hL
        refine ⟨false, e35, ?_⟩
        rw [if_pos rfl]
        go_simp
        refine (H7.out W).mono ?_
        rintro e W' ⟨rfl, hb⟩
        exact ⟨_, rfl, ⟨fun d hd => by injection hd with hd; subst hd; rfl, fun h => by cases h⟩, hS.call hb, trivial⟩
    · as_aux_lemma =>
        intro vals a W hS hL
        have e4 : a.tmps.getD 4 undef = .pointer (some ⟨w.heap.size + 1, 0, none⟩) := hL.1
        have e35 : a.tmps.getD 35 undef = .bool false := hL.2.1
        clear hL
        refine ⟨false, e35, ?_⟩
        rw [if_pos rfl]
        have kb : Bk W (w.heap.size + 1) 25 #[.int .i64 b, .int .i64 d] := hS.bk 1 rfl rfl
        have f0 := kb.cell 0
        have f1 := kb.cell 1
        clear kb
        go_simp
        exact ⟨⟨fun d hd => by injection hd with hd; subst hd; rfl, fun h => by cases h⟩, hS, trivial⟩
    · as_aux_lemma =>
        intro vals a W hS hL
        have e46 : a.tmps.getD 46 undef = .agg #[.int .i64 b, .int .i64 d] := hL.1
        have e35 : a.tmps.getD 35 undef = .bool false := hL.2.1
        clear hL
        refine ⟨false, e35, ?_⟩
        rw [if_pos rfl]
        go_simp
        refine (H6.out W).mono ?_
        rintro e W' ⟨rfl, hb⟩
        exact ⟨_, rfl, ⟨fun d hd => by injection hd with hd; subst hd; rfl, fun h => by cases h⟩, hS.call hb, trivial⟩
    · as_aux_lemma =>
        intro vals a W hS hL
        have e3 : a.tmps.getD 3 undef = .pointer (some ⟨w.heap.size, 0, none⟩) := hL.1
        have e35 : a.tmps.getD 35 undef = .bool false := hL.2.1
        clear hL
        refine ⟨false, e35, ?_⟩
        rw [if_pos rfl]
        go_simp
        exact ⟨⟨fun d hd => by injection hd with hd; subst hd; rfl, fun h => by cases h⟩, hS, trivial⟩
    · as_aux_lemma =>
        intro vals a W hS hL
        have e48 : a.tmps.getD 48 undef = .pointer (some ⟨w.heap.size, 2, none⟩) := hL.1
        have e35 : a.tmps.getD 35 undef = .bool false := hL.2.1
        clear hL
        refine ⟨false, e35, ?_⟩
        rw [if_pos rfl]
        have kb : Bk W (w.heap.size) 23 #[.int .i64 r, .int .i64 c, .bool x, .bool y] := hS.bk 2 rfl rfl
        have f2 := kb.cell 2
        clear kb
        go_simp
        exact ⟨⟨fun d hd => by injection hd with hd; subst hd; rfl, fun h => by cases h⟩, hS, trivial⟩
    · as_aux_lemma =>
        intro vals a W hS hL
        have e3 : a.tmps.getD 3 undef = .pointer (some ⟨w.heap.size, 0, none⟩) := hL.1
        have e35 : a.tmps.getD 35 undef = .bool false := hL.2.1
        clear hL
        refine ⟨false, e35, ?_⟩
        rw [if_pos rfl]
        go_simp
        exact ⟨⟨fun d hd => by injection hd with hd; subst hd; rfl, fun h => by cases h⟩, hS, trivial⟩
    · as_aux_lemma =>
        intro vals a W hS hL
        have e50 : a.tmps.getD 50 undef = .pointer (some ⟨w.heap.size, 3, none⟩) := hL.1
        have e35 : a.tmps.getD 35 undef = .bool false := hL.2.1
        clear hL
        refine ⟨false, e35, ?_⟩
        rw [if_pos rfl]
        have kb : Bk W (w.heap.size) 23 #[.int .i64 r, .int .i64 c, .bool x, .bool y] := hS.bk 2 rfl rfl
        have f3 := kb.cell 3
        clear kb
        go_simp
        exact ⟨⟨fun d hd => by injection hd with hd; subst hd; rfl, fun h => by cases h⟩, hS, trivial⟩
    · as_aux_lemma =>
        intro vals a W hS hL
        have e45 : a.tmps.getD 45 undef = .agg #[.int .i64 e0, .int .i64 f0] := hL.1
        have e47 : a.tmps.getD 47 undef = .agg #[.int .i64 b, .int .i64 d] := hL.2.1
        have e49 : a.tmps.getD 49 undef = .bool x := hL.2.2.1
        have e51 : a.tmps.getD 51 undef = .bool y := hL.2.2.2.1
        have e35 : a.tmps.getD 35 undef = .bool false := hL.2.2.2.2.1
        clear hL
        refine ⟨false, e35, ?_⟩
        rw [if_pos rfl]
        go_simp
        refine (H11.out W).mono ?_
        rintro e W' ⟨rfl, hb⟩
        exact ⟨_, rfl, ⟨fun d hd => by injection hd with hd; subst hd; rfl, fun h => by cases h⟩, hS.call hb, trivial⟩
    · as_aux_lemma =>
        intro vals a W hS hL
        have e43 : a.tmps.getD 43 undef = .agg #[.int .i64 B1, .int .i64 B2, .bool x, .bool y] := hL.1
        have e52 : a.tmps.getD 52 undef = .agg #[.int .i64 B1, .int .i64 B2, .bool x, .bool y] := hL.2.1
        have e35 : a.tmps.getD 35 undef = .bool false := hL.2.2.1
        clear hL
        refine ⟨false, e35, ?_⟩
        rw [if_pos rfl]
        go_simp
        exact ⟨⟨fun d hd => by injection hd with hd; subst hd; rfl, fun h => by cases h⟩, hS, trivial⟩
    · as_aux_lemma =>
        intro vals a W hS hL
        have e35 : a.tmps.getD 35 undef = .bool false := hL.1
        have e53 : a.tmps.getD 53 undef = .bool false := hL.2.1
        clear hL
        go_simp
        exact ⟨⟨fun d hd => by injection hd with hd; subst hd; rfl, fun h => by cases h⟩, hS, trivial⟩
  · intro a W' vals hd hsz hT hF hv hP hS
    obtain rfl : vals = [] := List.eq_nil_of_length_eq_zero hv
    have hS2 : SX w 3 ([] : List Stp) [] ([(w.heap.size + 1 + 1, 25, #[.int .i64 e0, .int .i64 f0]), (w.heap.size + 1, 25, #[.int .i64 b, .int .i64 d]), (w.heap.size, 23, #[.int .i64 r, .int .i64 c, .bool x, .bool y])] : List (Nat × TypeId × Array Value)) W' := hS
    clear hS
    have hB0 := hS2
    have hB : SB w 3 ([(w.heap.size + 1 + 1, 25, #[.int .i64 e0, .int .i64 f0]), (w.heap.size + 1, 25, #[.int .i64 b, .int .i64 d]), (w.heap.size, 23, #[.int .i64 r, .int .i64 c, .bool x, .bool y])] : List (Nat × TypeId × Array Value)) W' := hB0
    clear hB0
    have e3 : a.tmps.getD 3 undef = .pointer (some ⟨w.heap.size, 0, none⟩) := hT 3 (by simp)
    have e4 : a.tmps.getD 4 undef = .pointer (some ⟨w.heap.size + 1, 0, none⟩) := hT 4 (by simp)
    have e5 : a.tmps.getD 5 undef = .pointer (some ⟨w.heap.size + 1 + 1, 0, none⟩) := hT 5 (by simp)
    have e54 : a.tmps.getD 54 undef = .bool false := hT 54 (by simp)
    clear hT hF hP
    rw [act_lit 71 a hd hsz]
    simp only [List.range, List.range.loop, List.map, e3, e4, e5, e54]
    clear hd hsz e3 e4 e5 e54
    have HB3 := Lib.hid hB
    clear HB hB H1 H2 H3 H4 H5 H6 H7 H8 H9 H11 H12 H13
    go_wp2_with fail
    refine wp_region_phases (S := (fun vals W => SX w 3 ([] : List Stp) vals ([(w.heap.size + 1 + 1, 25, #[.int .i64 e0, .int .i64 f0]), (w.heap.size + 1, 25, #[.int .i64 b, .int .i64 d]), (w.heap.size, 23, #[.int .i64 r, .int .i64 c, .bool x, .bool y])] : List (Nat × TypeId × Array Value)) W)) (E := (fun _ _ => True)) [] [(3, Is (.pointer (some ⟨w.heap.size, 0, none⟩))), (4, Is (.pointer (some ⟨w.heap.size + 1, 0, none⟩))), (5, Is (.pointer (some ⟨w.heap.size + 1 + 1, 0, none⟩)))] [(55, Is (.agg #[.int .i64 e0, .int .i64 f0])), (56, Is (.bool true)), (57, Is (.bool false)), (58, Is (.bool false)), (59, Is (.agg #[.int .i64 e0, .int .i64 f0])), (60, Is (.agg #[.int .i64 b, .int .i64 d])), (61, Is (.pointer (some ⟨w.heap.size, 2, none⟩))), (62, Is (.bool x)), (63, Is (.pointer (some ⟨w.heap.size, 3, none⟩))), (64, Is (.bool y)), (65, Is (.agg #[.int .i64 B1, .int .i64 B2, .bool x, .bool y])), (66, Is (.agg #[.int .i64 b, .int .i64 d])), (67, Is (.agg #[.int .i64 e0, .int .i64 f0])), (68, Is (.agg #[.int .i64 e0, .int .i64 f0])), (69, Is (.bool true)), (70, Is (.bool true)), (6, Is (.bool true))]
      [.op [5] none, .op [55] none, .op [56] none, .op [57] none, .op [5, 58] (some (58, false)), .op [4, 58] (some (58, false)), .op [3, 58] (some (58, false)), .op [61, 58] (some (58, false)), .op [3, 58] (some (58, false)), .op [63, 58] (some (58, false)), .op [59, 60, 62, 64, 58] (some (58, false)), .op [4, 58] (some (58, false)), .op [65, 66, 58] (some (58, false)), .op [5, 58] (some (58, false)), .op [67, 68, 58] (some (58, false)), .op [58, 69] none, .op [70] none] (by as_aux_lemma => kernel_rfl) ?_ ?_ ?_ ?_ ?_ ⟨stable_is _ _, stable_is _ _, stable_is _ _, stable_is _ _, stable_is _ _, stable_is _ _, stable_is _ _, stable_is _ _, stable_is _ _, stable_is _ _, stable_is _ _, stable_is _ _, stable_is _ _, stable_is _ _, stable_is _ _, stable_is _ _, stable_is _ _, stable_is _ _, stable_is _ _, stable_is _ _, trivial⟩ ?_ (HB3.out.drew) ?_ ?_
    · as_aux_lemma => kernel_rfl
    · as_aux_lemma => kernel_rfl
    · as_aux_lemma => kernel_rfl
    · as_aux_lemma => kernel_rfl
    · as_aux_lemma => kernel_rfl
    · exact ⟨rfl, rfl, rfl, trivial⟩
    · refine ⟨?_, ?_, ?_, ?_, ?_, ?_, ?_, ?_, ?_, ?_, ?_, ?_, ?_, ?_, ?_, ?_, ?_, trivial⟩
      · as_aux_lemma =>
          intro vals a W hS hL
          have e5 : a.tmps.getD 5 undef = .pointer (some ⟨w.heap.size + 1 + 1, 0, none⟩) := hL.1
          clear hL
          have kb : Bk W (w.heap.size + 1 + 1) 25 #[.int .i64 e0, .int .i64 f0] := hS.bk 0 rfl rfl
          have f0 := kb.cell 0
          have f1 := kb.cell 1
          clear kb
          go_simp
          exact ⟨⟨fun d hd => by injection hd with hd; subst hd; rfl, fun h => by cases h⟩, hS, trivial⟩
      · as_aux_lemma =>
          intro vals a W hS hL
          have e55 : a.tmps.getD 55 undef = .agg #[.int .i64 e0, .int .i64 f0] := hL.1
          clear hL
          go_simp
          refine (H14.out W).mono ?_
          rintro e W' ⟨rfl, hb⟩
          exact ⟨_, rfl, ⟨fun d hd => by injection hd with hd; subst hd; rfl, fun h => by cases h⟩, hS.call hb, trivial⟩
      · as_aux_lemma =>
          intro vals a W hS hL
          have e56 : a.tmps.getD 56 undef = .bool true := hL.1
          clear hL
          go_simp
          exact ⟨⟨fun d hd => by injection hd with hd; subst hd; rfl, fun h => by cases h⟩, hS, trivial⟩
      · as_aux_lemma =>
          intro vals a W hS hL
          have e57 : a.tmps.getD 57 undef = .bool false := hL.1
          clear hL
          go_simp
          exact ⟨⟨fun d hd => by injection hd with hd; subst hd; rfl, fun h => by cases h⟩, hS, trivial⟩
      · as_aux_lemma =>
          intro vals a W hS hL
          have e5 : a.tmps.getD 5 undef = .pointer (some ⟨w.heap.size + 1 + 1, 0, none⟩) := hL.1
          have e58 : a.tmps.getD 58 undef = .bool false := hL.2.1
          clear hL
          refine ⟨false, e58, ?_⟩
          rw [if_pos rfl]
          have kb : Bk W (w.heap.size + 1 + 1) 25 #[.int .i64 e0, .int .i64 f0] := hS.bk 0 rfl rfl
          have f0 := kb.cell 0
          have f1 := kb.cell 1
          clear kb
          go_simp
          exact ⟨⟨fun d hd => by injection hd with hd; subst hd; rfl, fun h => by cases h⟩, hS, trivial⟩
      · as_aux_lemma =>
          intro vals a W hS hL
          have e4 : a.tmps.getD 4 undef = .pointer (some ⟨w.heap.size + 1, 0, none⟩) := hL.1
          have e58 : a.tmps.getD 58 undef = .bool false := hL.2.1
          clear hL
          refine ⟨false, e58, ?_⟩
          rw [if_pos rfl]
          have kb : Bk W (w.heap.size + 1) 25 #[.int .i64 b, .int .i64 d] := hS.bk 1 rfl rfl
          have f0 := kb.cell 0
          have f1 := kb.cell 1
          clear kb
          go_simp
          exact ⟨⟨fun d hd => by injection hd with hd; subst hd; rfl, fun h => by cases h⟩, hS, trivial⟩
      · as_aux_lemma =>
          intro vals a W hS hL
          have e3 : a.tmps.getD 3 undef = .pointer (some ⟨w.heap.size, 0, none⟩) := hL.1
          have e58 : a.tmps.getD 58 undef = .bool false := hL.2.1
          clear hL
          refine ⟨false, e58, ?_⟩
          rw [if_pos rfl]
          go_simp
          exact ⟨⟨fun d hd => by injection hd with hd; subst hd; rfl, fun h => by cases h⟩, hS, trivial⟩
      · as_aux_lemma =>
          intro vals a W hS hL
          have e61 : a.tmps.getD 61 undef = .pointer (some ⟨w.heap.size, 2, none⟩) := hL.1
          have e58 : a.tmps.getD 58 undef = .bool false := hL.2.1
          clear hL
          refine ⟨false, e58, ?_⟩
          rw [if_pos rfl]
          have kb : Bk W (w.heap.size) 23 #[.int .i64 r, .int .i64 c, .bool x, .bool y] := hS.bk 2 rfl rfl
          have f2 := kb.cell 2
          clear kb
          go_simp
          exact ⟨⟨fun d hd => by injection hd with hd; subst hd; rfl, fun h => by cases h⟩, hS, trivial⟩
      · as_aux_lemma =>
          intro vals a W hS hL
          have e3 : a.tmps.getD 3 undef = .pointer (some ⟨w.heap.size, 0, none⟩) := hL.1
          have e58 : a.tmps.getD 58 undef = .bool false := hL.2.1
          clear hL
          refine ⟨false, e58, ?_⟩
          rw [if_pos rfl]
          go_simp
          exact ⟨⟨fun d hd => by injection hd with hd; subst hd; rfl, fun h => by cases h⟩, hS, trivial⟩
      · as_aux_lemma =>
          intro vals a W hS hL
          have e63 : a.tmps.getD 63 undef = .pointer (some ⟨w.heap.size, 3, none⟩) := hL.1
          have e58 : a.tmps.getD 58 undef = .bool false := hL.2.1
          clear hL
          refine ⟨false, e58, ?_⟩
          rw [if_pos rfl]
          have kb : Bk W (w.heap.size) 23 #[.int .i64 r, .int .i64 c, .bool x, .bool y] := hS.bk 2 rfl rfl
          have f3 := kb.cell 3
          clear kb
          go_simp
          exact ⟨⟨fun d hd => by injection hd with hd; subst hd; rfl, fun h => by cases h⟩, hS, trivial⟩
      · as_aux_lemma =>
          intro vals a W hS hL
          have e59 : a.tmps.getD 59 undef = .agg #[.int .i64 e0, .int .i64 f0] := hL.1
          have e60 : a.tmps.getD 60 undef = .agg #[.int .i64 b, .int .i64 d] := hL.2.1
          have e62 : a.tmps.getD 62 undef = .bool x := hL.2.2.1
          have e64 : a.tmps.getD 64 undef = .bool y := hL.2.2.2.1
          have e58 : a.tmps.getD 58 undef = .bool false := hL.2.2.2.2.1
          clear hL
          refine ⟨false, e58, ?_⟩
          rw [if_pos rfl]
          go_simp
          refine (H10.out W).mono ?_
          rintro e W' ⟨rfl, hb⟩
          exact ⟨_, rfl, ⟨fun d hd => by injection hd with hd; subst hd; rfl, fun h => by cases h⟩, hS.call hb, trivial⟩
      · as_aux_lemma =>
          intro vals a W hS hL
          have e4 : a.tmps.getD 4 undef = .pointer (some ⟨w.heap.size + 1, 0, none⟩) := hL.1
          have e58 : a.tmps.getD 58 undef = .bool false := hL.2.1
          clear hL
          refine ⟨false, e58, ?_⟩
          rw [if_pos rfl]
          have kb : Bk W (w.heap.size + 1) 25 #[.int .i64 b, .int .i64 d] := hS.bk 1 rfl rfl
          have f0 := kb.cell 0
          have f1 := kb.cell 1
          clear kb
          go_simp
          exact ⟨⟨fun d hd => by injection hd with hd; subst hd; rfl, fun h => by cases h⟩, hS, trivial⟩
      · as_aux_lemma =>
          intro vals a W hS hL
          have e65 : a.tmps.getD 65 undef = .agg #[.int .i64 B1, .int .i64 B2, .bool x, .bool y] := hL.1
          have e66 : a.tmps.getD 66 undef = .agg #[.int .i64 b, .int .i64 d] := hL.2.1
          have e58 : a.tmps.getD 58 undef = .bool false := hL.2.2.1
          clear hL
          refine ⟨false, e58, ?_⟩
          rw [if_pos rfl]
          go_simp
          refine (H15.out W).mono ?_
          rintro e W' ⟨rfl, hb⟩
          exact ⟨_, rfl, ⟨fun d hd => by injection hd with hd; subst hd; rfl, fun h => by cases h⟩, hS.call hb, trivial⟩
      · as_aux_lemma =>
          intro vals a W hS hL
          have e5 : a.tmps.getD 5 undef = .pointer (some ⟨w.heap.size + 1 + 1, 0, none⟩) := hL.1
          have e58 : a.tmps.getD 58 undef = .bool false := hL.2.1
          clear hL
          refine ⟨false, e58, ?_⟩
          rw [if_pos rfl]
          have kb : Bk W (w.heap.size + 1 + 1) 25 #[.int .i64 e0, .int .i64 f0] := hS.bk 0 rfl rfl
          have f0 := kb.cell 0
          have f1 := kb.cell 1
          clear kb
          go_simp
          exact ⟨⟨fun d hd => by injection hd with hd; subst hd; rfl, fun h => by cases h⟩, hS, trivial⟩
      · as_aux_lemma =>
          intro vals a W hS hL
          have e67 : a.tmps.getD 67 undef = .agg #[.int .i64 e0, .int .i64 f0] := hL.1
          have e68 : a.tmps.getD 68 undef = .agg #[.int .i64 e0, .int .i64 f0] := hL.2.1
          have e58 : a.tmps.getD 58 undef = .bool false := hL.2.2.1
          clear hL
          refine ⟨false, e58, ?_⟩
          rw [if_pos rfl]
          go_simp
          exact ⟨⟨fun d hd => by injection hd with hd; subst hd; rfl, fun h => by cases h⟩, hS, trivial⟩
      · as_aux_lemma =>
          intro vals a W hS hL
          have e58 : a.tmps.getD 58 undef = .bool false := hL.1
          have e69 : a.tmps.getD 69 undef = .bool true := hL.2.1
          clear hL
          go_simp
          exact ⟨⟨fun d hd => by injection hd with hd; subst hd; rfl, fun h => by cases h⟩, hS, trivial⟩
      · as_aux_lemma =>
          intro vals a W hS hL
          have e70 : a.tmps.getD 70 undef = .bool true := hL.1
          clear hL
          go_simp
          exact ⟨⟨fun d hd => by injection hd with hd; subst hd; rfl, fun h => by cases h⟩, hS, trivial⟩
    · intro a W' vals hd hsz hT hF hv hP hS
      obtain rfl : vals = [] := List.eq_nil_of_length_eq_zero hv
      have hS2 : SX w 3 ([] : List Stp) [] ([(w.heap.size + 1 + 1, 25, #[.int .i64 e0, .int .i64 f0]), (w.heap.size + 1, 25, #[.int .i64 b, .int .i64 d]), (w.heap.size, 23, #[.int .i64 r, .int .i64 c, .bool x, .bool y])] : List (Nat × TypeId × Array Value)) W' := hS
      clear hS
      have hB0 := hS2
      have hB : SB w 3 ([(w.heap.size + 1 + 1, 25, #[.int .i64 e0, .int .i64 f0]), (w.heap.size + 1, 25, #[.int .i64 b, .int .i64 d]), (w.heap.size, 23, #[.int .i64 r, .int .i64 c, .bool x, .bool y])] : List (Nat × TypeId × Array Value)) W' := hB0
      clear hB0
      have e6 : a.tmps.getD 6 undef = .bool true := hT 6 (by simp)
      clear hT hF hP
      go_wp2
      refine bodyPost_ret (v := .bool true) ?_ hd ⟨rfl, hB.bel⟩
      rw [Array.getD_eq_getD_getElem?] at e6
      simp [results, Tryd.results3, go_sem, e6]

set_option maxRecDepth 20000 in
set_option maxHeartbeats 2000000 in
theorem any_no {w : World} (HV : Tens w) (r c b d e0 f0 : Int) (x y : Bool) (hg : gdB e0 f0 = false) :
    Calls Tryd.prog 3 #[.agg #[.int .i64 r, .int .i64 c, .bool x, .bool y], .agg #[.int .i64 b, .int .i64 d], .agg #[.int .i64 e0, .int .i64 f0]] w fun e w' => e = .returned (.bool true) ∧ Below w.heap.size w w' := by
  have HK : Hid (∀ W : World, Below w.heap.size w W → Calls Tryd.prog 9 #[] W fun e w' => e = .returned (.bool true) ∧ Below W.heap.size W w') := Lib.hid (fun W hb => known8_any (HV.below hb))
  have H1 : Hid (∀ W : World, Calls Tryd.prog 10 #[.agg #[.int .i64 r, .int .i64 c, .bool x, .bool y]] W fun e w' => e = .returned (.int .i64 (ckI r c)) ∧ Below W.heap.size W w') := Lib.hid (fun W => check_any r c x y)
  have H2 : Hid (∀ W : World, Calls Tryd.prog 11 #[.agg #[.int .i64 r, .int .i64 c, .bool x, .bool y]] W fun e w' => e = .returned (.int .i64 (ckI r c)) ∧ Below W.heap.size W w') := Lib.hid (fun W => bCheck_any r c x y)
  have H3 : Hid (∀ W : World, Calls Tryd.prog 12 #[.agg #[.int .i64 r, .int .i64 c, .bool x, .bool y]] W fun e w' => e = .returned (.agg #[.int .i64 r, .int .i64 c, .bool x, .bool y]) ∧ Below W.heap.size W w') := Lib.hid (fun W => of_any r c x y)
  have H4 : Hid (∀ W : World, Calls Tryd.prog 13 #[.agg #[.int .i64 b, .int .i64 d]] W fun e w' => e = .returned (.bool (gdB b d)) ∧ Below W.heap.size W w') := Lib.hid (fun W => good_any b d)
  have H5 : Hid (∀ W : World, Calls Tryd.prog 14 #[.agg #[.int .i64 b, .int .i64 d]] W fun e w' => e = .returned (.bool (gdB b d)) ∧ Below W.heap.size W w') := Lib.hid (fun W => bGood_any b d)
  have H6 : Hid (∀ W : World, Calls Tryd.prog 15 #[.agg #[.int .i64 b, .int .i64 d]] W fun e w' => e = .returned (.agg #[.int .i64 b, .int .i64 d]) ∧ Below W.heap.size W w') := Lib.hid (fun W => ofCell_any b d)
  have H7 : Hid (∀ W : World, Calls Tryd.prog 15 #[.agg #[.int .i64 e0, .int .i64 f0]] W fun e w' => e = .returned (.agg #[.int .i64 e0, .int .i64 f0]) ∧ Below W.heap.size W w') := Lib.hid (fun W => ofCell_any e0 f0)
  have H8 : Hid (∀ W : World, Calls Tryd.prog 16 #[.agg #[.int .i64 r, .int .i64 c, .bool x, .bool y], .agg #[.int .i64 b, .int .i64 d]] W fun e w' => e = .returned (.agg #[.int .i64 (fo r b x 65536), .int .i64 (fo c d y 256)]) ∧ Below W.heap.size W w') := Lib.hid (fun W => at_any r c b d x y)
  have H9 : Hid (∀ W : World, Calls Tryd.prog 17 #[.agg #[.int .i64 r, .int .i64 c, .bool x, .bool y], .agg #[.int .i64 b, .int .i64 d]] W fun e w' => e = .returned (.agg #[.int .i64 (fo r b x 65536), .int .i64 (fo c d y 256)]) ∧ Below W.heap.size W w') := Lib.hid (fun W => bAt_any r c b d x y)
  have H10 : Hid (∀ W : World, Calls Tryd.prog 18 #[.agg #[.int .i64 e0, .int .i64 f0], .agg #[.int .i64 b, .int .i64 d], .bool x, .bool y] W fun e w' => e = .returned (.agg #[.int .i64 (ba e0 b x 65536), .int .i64 (ba f0 d y 256), .bool x, .bool y]) ∧ Below W.heap.size W w') := Lib.hid (fun W => rel_any e0 f0 b d x y)
  have H11 : Hid (∀ W : World, Calls Tryd.prog 19 #[.agg #[.int .i64 e0, .int .i64 f0], .agg #[.int .i64 b, .int .i64 d], .bool x, .bool y] W fun e w' => e = .returned (.agg #[.int .i64 (ba e0 b x 65536), .int .i64 (ba f0 d y 256), .bool x, .bool y]) ∧ Below W.heap.size W w') := Lib.hid (fun W => bRel_any e0 f0 b d x y)
  have H12 : Hid (∀ W : World, Calls Tryd.prog 15 #[.agg #[.int .i64 (fo r b x 65536), .int .i64 (fo c d y 256)]] W fun e w' => e = .returned (.agg #[.int .i64 (fo r b x 65536), .int .i64 (fo c d y 256)]) ∧ Below W.heap.size W w') := Lib.hid (fun W => ofCell_any _ _)
  have H13 : Hid (∀ W : World, Calls Tryd.prog 12 #[.agg #[.int .i64 (ba e0 b x 65536), .int .i64 (ba f0 d y 256), .bool x, .bool y]] W fun e w' => e = .returned (.agg #[.int .i64 (ba e0 b x 65536), .int .i64 (ba f0 d y 256), .bool x, .bool y]) ∧ Below W.heap.size W w') := Lib.hid (fun W => of_any _ _ x y)
  have H14 : Hid (∀ W : World, Calls Tryd.prog 13 #[.agg #[.int .i64 e0, .int .i64 f0]] W fun e w' => e = .returned (.bool false) ∧ Below W.heap.size W w') := Lib.hid (fun W => by
    have := good_any (w := W) e0 f0
    rw [hg] at this
    exact this)
  clear hg
  generalize fo r b x 65536 = F1 at *
  generalize fo c d y 256 = F2 at *
  generalize ba e0 b x 65536 = B1 at *
  generalize ba f0 d y 256 = B2 at *
  generalize ckI r c = k at *
  generalize gdB b d = gb at *
  clear HV
  have HB : Hid (SB w 3 ([(w.heap.size + 1 + 1, 25, #[.int .i64 e0, .int .i64 f0]), (w.heap.size + 1, 25, #[.int .i64 b, .int .i64 d]), (w.heap.size, 23, #[.int .i64 r, .int .i64 c, .bool x, .bool y])] : List (Nat × TypeId × Array Value)) (((w.alloc (.cells #[.int .i64 r, .int .i64 c, .bool x, .bool y] 23)).alloc (.cells #[.int .i64 b, .int .i64 d] 25)).alloc (.cells #[.int .i64 e0, .int .i64 f0] 25))) := Lib.hid (((sb1 w 23 #[.int .i64 r, .int .i64 c, .bool x, .bool y]).push (by simp) 25 #[.int .i64 b, .int .i64 d]).push (by simp) 25 #[.int .i64 e0, .int .i64 f0])
  go_enter Tryd.func3, Tryd.ntmps3
  go_wp2_with fail
  refine (HK.out _ HB.out.bel).mono ?_
  rintro e w1 ⟨rfl, hb⟩
  have hB := HB.out.call hb
  clear hb HB
  have HB := Lib.hid hB
  clear hB
  clear HK
  go_wp2_with fail
  refine wp_region_phases (S := (fun vals W => SX w 3 ([] : List Stp) vals ([(w.heap.size + 1 + 1, 25, #[.int .i64 e0, .int .i64 f0]), (w.heap.size + 1, 25, #[.int .i64 b, .int .i64 d]), (w.heap.size, 23, #[.int .i64 r, .int .i64 c, .bool x, .bool y])] : List (Nat × TypeId × Array Value)) W)) (E := (fun _ _ => True)) [] [(3, Is (.pointer (some ⟨w.heap.size, 0, none⟩))), (4, Is (.pointer (some ⟨w.heap.size + 1, 0, none⟩))), (5, Is (.pointer (some ⟨w.heap.size + 1 + 1, 0, none⟩)))] [(9, Is (.agg #[.int .i64 r, .int .i64 c, .bool x, .bool y])), (10, Is (.int .i64 k)), (11, Is (.agg #[.int .i64 r, .int .i64 c, .bool x, .bool y])), (12, Is (.agg #[.int .i64 r, .int .i64 c, .bool x, .bool y])), (13, Is (.int .i64 k)), (14, Is (.bool false)), (15, Is (.bool false)), (16, Is (.agg #[.int .i64 b, .int .i64 d])), (17, Is (.bool gb)), (18, Is (.agg #[.int .i64 b, .int .i64 d])), (19, Is (.agg #[.int .i64 b, .int .i64 d])), (20, Is (.bool gb)), (21, Is (.bool false)), (22, Is (.bool false)), (23, Is (.bool false)), (24, Is (.agg #[.int .i64 r, .int .i64 c, .bool x, .bool y])), (25, Is (.agg #[.int .i64 b, .int .i64 d])), (26, Is (.agg #[.int .i64 F1, .int .i64 F2])), (27, Is (.agg #[.int .i64 F1, .int .i64 F2])), (28, Is (.agg #[.int .i64 r, .int .i64 c, .bool x, .bool y])), (29, Is (.agg #[.int .i64 r, .int .i64 c, .bool x, .bool y])), (30, Is (.agg #[.int .i64 b, .int .i64 d])), (31, Is (.agg #[.int .i64 b, .int .i64 d])), (32, Is (.agg #[.int .i64 F1, .int .i64 F2])), (33, Is (.bool false)), (34, Is (.bool false)), (35, Is (.bool false)), (36, Is (.agg #[.int .i64 e0, .int .i64 f0])), (37, Is (.agg #[.int .i64 b, .int .i64 d])), (38, Is (.pointer (some ⟨w.heap.size, 2, none⟩))), (39, Is (.bool x)), (40, Is (.pointer (some ⟨w.heap.size, 3, none⟩))), (41, Is (.bool y)), (42, Is (.agg #[.int .i64 B1, .int .i64 B2, .bool x, .bool y])), (43, Is (.agg #[.int .i64 B1, .int .i64 B2, .bool x, .bool y])), (44, Is (.agg #[.int .i64 e0, .int .i64 f0])), (45, Is (.agg #[.int .i64 e0, .int .i64 f0])), (46, Is (.agg #[.int .i64 b, .int .i64 d])), (47, Is (.agg #[.int .i64 b, .int .i64 d])), (48, Is (.pointer (some ⟨w.heap.size, 2, none⟩))), (49, Is (.bool x)), (50, Is (.pointer (some ⟨w.heap.size, 3, none⟩))), (51, Is (.bool y)), (52, Is (.agg #[.int .i64 B1, .int .i64 B2, .bool x, .bool y])), (53, Is (.bool false)), (54, Is (.bool false))]
    [.op [3] none, .op [9] none, .op [3] none, .op [11] none, .op [12] none, .op [10, 13] none, .op [14] none, .op [4, 15] (some (15, false)), .op [16, 15] (some (15, false)), .op [4, 15] (some (15, false)), .op [18, 15] (some (15, false)), .op [19, 15] (some (15, false)), .op [17, 20, 15] (some (15, false)), .op [15, 21] none, .op [22] none, .op [3, 23] (some (23, false)), .op [4, 23] (some (23, false)), .op [24, 25, 23] (some (23, false)), .op [26, 23] (some (23, false)), .op [3, 23] (some (23, false)), .op [28, 23] (some (23, false)), .op [4, 23] (some (23, false)), .op [30, 23] (some (23, false)), .op [29, 31, 23] (some (23, false)), .op [27, 32, 23] (some (23, false)), .op [23, 33] none, .op [34] none, .op [5, 35] (some (35, false)), .op [4, 35] (some (35, false)), .op [3, 35] (some (35, false)), .op [38, 35] (some (35, false)), .op [3, 35] (some (35, false)), .op [40, 35] (some (35, false)), .op [36, 37, 39, 41, 35] (some (35, false)), .op [42, 35] (some (35, false)), .op [5, 35] (some (35, false)), .op [44, 35] (some (35, false)), .op [4, 35] (some (35, false)), .op [46, 35] (some (35, false)), .op [3, 35] (some (35, false)), .op [48, 35] (some (35, false)), .op [3, 35] (some (35, false)), .op [50, 35] (some (35, false)), .op [45, 47, 49, 51, 35] (some (35, false)), .op [43, 52, 35] (some (35, false)), .op [35, 53] none] (by as_aux_lemma => kernel_rfl) ?_ ?_ ?_ ?_ ?_ ⟨stable_is _ _, stable_is _ _, stable_is _ _, stable_is _ _, stable_is _ _, stable_is _ _, stable_is _ _, stable_is _ _, stable_is _ _, stable_is _ _, stable_is _ _, stable_is _ _, stable_is _ _, stable_is _ _, stable_is _ _, stable_is _ _, stable_is _ _, stable_is _ _, stable_is _ _, stable_is _ _, stable_is _ _, stable_is _ _, stable_is _ _, stable_is _ _, stable_is _ _, stable_is _ _, stable_is _ _, stable_is _ _, stable_is _ _, stable_is _ _, stable_is _ _, stable_is _ _, stable_is _ _, stable_is _ _, stable_is _ _, stable_is _ _, stable_is _ _, stable_is _ _, stable_is _ _, stable_is _ _, stable_is _ _, stable_is _ _, stable_is _ _, stable_is _ _, stable_is _ _, stable_is _ _, stable_is _ _, stable_is _ _, stable_is _ _, trivial⟩ ?_ (HB.out.drew) ?_ ?_
  · as_aux_lemma => kernel_rfl
  · as_aux_lemma => kernel_rfl
  · as_aux_lemma => kernel_rfl
  · as_aux_lemma => kernel_rfl
  · as_aux_lemma => kernel_rfl
  · exact ⟨rfl, rfl, rfl, trivial⟩
  · refine ⟨?_, ?_, ?_, ?_, ?_, ?_, ?_, ?_, ?_, ?_, ?_, ?_, ?_, ?_, ?_, ?_, ?_, ?_, ?_, ?_, ?_, ?_, ?_, ?_, ?_, ?_, ?_, ?_, ?_, ?_, ?_, ?_, ?_, ?_, ?_, ?_, ?_, ?_, ?_, ?_, ?_, ?_, ?_, ?_, ?_, ?_, trivial⟩
    · as_aux_lemma =>
        intro vals a W hS hL
        have e3 : a.tmps.getD 3 undef = .pointer (some ⟨w.heap.size, 0, none⟩) := hL.1
        clear hL
        have kb : Bk W (w.heap.size) 23 #[.int .i64 r, .int .i64 c, .bool x, .bool y] := hS.bk 2 rfl rfl
        have f0 := kb.cell 0
        have f1 := kb.cell 1
        have f2 := kb.cell 2
        have f3 := kb.cell 3
        clear kb
        go_simp
        exact ⟨⟨fun d hd => by injection hd with hd; subst hd; rfl, fun h => by cases h⟩, hS, trivial⟩
    · as_aux_lemma =>
        intro vals a W hS hL
        have e9 : a.tmps.getD 9 undef = .agg #[.int .i64 r, .int .i64 c, .bool x, .bool y] := hL.1
        clear hL
        go_simp
        refine (H1.out W).mono ?_
        rintro e W' ⟨rfl, hb⟩
        exact ⟨_, rfl, ⟨fun d hd => by injection hd with hd; subst hd; rfl, fun h => by cases h⟩, hS.call hb, trivial⟩
    · as_aux_lemma =>
        intro vals a W hS hL
        have e3 : a.tmps.getD 3 undef = .pointer (some ⟨w.heap.size, 0, none⟩) := hL.1
        clear hL
        have kb : Bk W (w.heap.size) 23 #[.int .i64 r, .int .i64 c, .bool x, .bool y] := hS.bk 2 rfl rfl
        have f0 := kb.cell 0
        have f1 := kb.cell 1
        have f2 := kb.cell 2
        have f3 := kb.cell 3
        clear kb
        go_simp
        exact ⟨⟨fun d hd => by injection hd with hd; subst hd; rfl, fun h => by cases h⟩, hS, trivial⟩
    · as_aux_lemma =>
        intro vals a W hS hL
        have e11 : a.tmps.getD 11 undef = .agg #[.int .i64 r, .int .i64 c, .bool x, .bool y] := hL.1
        clear hL
        go_simp
        refine (H3.out W).mono ?_
        rintro e W' ⟨rfl, hb⟩
        exact ⟨_, rfl, ⟨fun d hd => by injection hd with hd; subst hd; rfl, fun h => by cases h⟩, hS.call hb, trivial⟩
    · as_aux_lemma =>
        intro vals a W hS hL
        have e12 : a.tmps.getD 12 undef = .agg #[.int .i64 r, .int .i64 c, .bool x, .bool y] := hL.1
        clear hL
        go_simp
        refine (H2.out W).mono ?_
        rintro e W' ⟨rfl, hb⟩
        exact ⟨_, rfl, ⟨fun d hd => by injection hd with hd; subst hd; rfl, fun h => by cases h⟩, hS.call hb, trivial⟩
    · as_aux_lemma =>
        intro vals a W hS hL
        have e10 : a.tmps.getD 10 undef = .int .i64 k := hL.1
        have e13 : a.tmps.getD 13 undef = .int .i64 k := hL.2.1
        clear hL
        go_simp
        exact ⟨⟨fun d hd => by injection hd with hd; subst hd; rfl, fun h => by cases h⟩, hS, trivial⟩
    · as_aux_lemma =>
        intro vals a W hS hL
        have e14 : a.tmps.getD 14 undef = .bool false := hL.1
        clear hL
        go_simp
        exact ⟨⟨fun d hd => by injection hd with hd; subst hd; rfl, fun h => by cases h⟩, hS, trivial⟩
    · as_aux_lemma =>
        intro vals a W hS hL
        have e4 : a.tmps.getD 4 undef = .pointer (some ⟨w.heap.size + 1, 0, none⟩) := hL.1
        have e15 : a.tmps.getD 15 undef = .bool false := hL.2.1
        clear hL
        refine ⟨false, e15, ?_⟩
        rw [if_pos rfl]
        have kb : Bk W (w.heap.size + 1) 25 #[.int .i64 b, .int .i64 d] := hS.bk 1 rfl rfl
        have f0 := kb.cell 0
        have f1 := kb.cell 1
        clear kb
        go_simp
        exact ⟨⟨fun d hd => by injection hd with hd; subst hd; rfl, fun h => by cases h⟩, hS, trivial⟩
    · as_aux_lemma =>
        intro vals a W hS hL
        have e16 : a.tmps.getD 16 undef = .agg #[.int .i64 b, .int .i64 d] := hL.1
        have e15 : a.tmps.getD 15 undef = .bool false := hL.2.1
        clear hL
        refine ⟨false, e15, ?_⟩
        rw [if_pos rfl]
        go_simp
        refine (H4.out W).mono ?_
        rintro e W' ⟨rfl, hb⟩
        exact ⟨_, rfl, ⟨fun d hd => by injection hd with hd; subst hd; rfl, fun h => by cases h⟩, hS.call hb, trivial⟩
    · as_aux_lemma =>
        intro vals a W hS hL
        have e4 : a.tmps.getD 4 undef = .pointer (some ⟨w.heap.size + 1, 0, none⟩) := hL.1
        have e15 : a.tmps.getD 15 undef = .bool false := hL.2.1
        clear hL
        refine ⟨false, e15, ?_⟩
        rw [if_pos rfl]
        have kb : Bk W (w.heap.size + 1) 25 #[.int .i64 b, .int .i64 d] := hS.bk 1 rfl rfl
        have f0 := kb.cell 0
        have f1 := kb.cell 1
        clear kb
        go_simp
        exact ⟨⟨fun d hd => by injection hd with hd; subst hd; rfl, fun h => by cases h⟩, hS, trivial⟩
    · as_aux_lemma =>
        intro vals a W hS hL
        have e18 : a.tmps.getD 18 undef = .agg #[.int .i64 b, .int .i64 d] := hL.1
        have e15 : a.tmps.getD 15 undef = .bool false := hL.2.1
        clear hL
        refine ⟨false, e15, ?_⟩
        rw [if_pos rfl]
        go_simp
        refine (H6.out W).mono ?_
        rintro e W' ⟨rfl, hb⟩
        exact ⟨_, rfl, ⟨fun d hd => by injection hd with hd; subst hd; rfl, fun h => by cases h⟩, hS.call hb, trivial⟩
    · as_aux_lemma =>
        intro vals a W hS hL
        have e19 : a.tmps.getD 19 undef = .agg #[.int .i64 b, .int .i64 d] := hL.1
        have e15 : a.tmps.getD 15 undef = .bool false := hL.2.1
        clear hL
        refine ⟨false, e15, ?_⟩
        rw [if_pos rfl]
        go_simp
        refine (H5.out W).mono ?_
        rintro e W' ⟨rfl, hb⟩
        exact ⟨_, rfl, ⟨fun d hd => by injection hd with hd; subst hd; rfl, fun h => by cases h⟩, hS.call hb, trivial⟩
    · as_aux_lemma =>
        intro vals a W hS hL
        have e17 : a.tmps.getD 17 undef = .bool gb := hL.1
        have e20 : a.tmps.getD 20 undef = .bool gb := hL.2.1
        have e15 : a.tmps.getD 15 undef = .bool false := hL.2.2.1
        clear hL
        refine ⟨false, e15, ?_⟩
        rw [if_pos rfl]
        go_simp
        exact ⟨⟨fun d hd => by injection hd with hd; subst hd; rfl, fun h => by cases h⟩, hS, trivial⟩
    · as_aux_lemma =>
        intro vals a W hS hL
        have e15 : a.tmps.getD 15 undef = .bool false := hL.1
        have e21 : a.tmps.getD 21 undef = .bool false := hL.2.1
        clear hL
        go_simp
        exact ⟨⟨fun d hd => by injection hd with hd; subst hd; rfl, fun h => by cases h⟩, hS, trivial⟩
    · as_aux_lemma =>
        intro vals a W hS hL
        have e22 : a.tmps.getD 22 undef = .bool false := hL.1
        clear hL
        go_simp
        exact ⟨⟨fun d hd => by injection hd with hd; subst hd; rfl, fun h => by cases h⟩, hS, trivial⟩
    · as_aux_lemma =>
        intro vals a W hS hL
        have e3 : a.tmps.getD 3 undef = .pointer (some ⟨w.heap.size, 0, none⟩) := hL.1
        have e23 : a.tmps.getD 23 undef = .bool false := hL.2.1
        clear hL
        refine ⟨false, e23, ?_⟩
        rw [if_pos rfl]
        have kb : Bk W (w.heap.size) 23 #[.int .i64 r, .int .i64 c, .bool x, .bool y] := hS.bk 2 rfl rfl
        have f0 := kb.cell 0
        have f1 := kb.cell 1
        have f2 := kb.cell 2
        have f3 := kb.cell 3
        clear kb
        go_simp
        exact ⟨⟨fun d hd => by injection hd with hd; subst hd; rfl, fun h => by cases h⟩, hS, trivial⟩
    · as_aux_lemma =>
        intro vals a W hS hL
        have e4 : a.tmps.getD 4 undef = .pointer (some ⟨w.heap.size + 1, 0, none⟩) := hL.1
        have e23 : a.tmps.getD 23 undef = .bool false := hL.2.1
        clear hL
        refine ⟨false, e23, ?_⟩
        rw [if_pos rfl]
        have kb : Bk W (w.heap.size + 1) 25 #[.int .i64 b, .int .i64 d] := hS.bk 1 rfl rfl
        have f0 := kb.cell 0
        have f1 := kb.cell 1
        clear kb
        go_simp
        exact ⟨⟨fun d hd => by injection hd with hd; subst hd; rfl, fun h => by cases h⟩, hS, trivial⟩
    · as_aux_lemma =>
        intro vals a W hS hL
        have e24 : a.tmps.getD 24 undef = .agg #[.int .i64 r, .int .i64 c, .bool x, .bool y] := hL.1
        have e25 : a.tmps.getD 25 undef = .agg #[.int .i64 b, .int .i64 d] := hL.2.1
        have e23 : a.tmps.getD 23 undef = .bool false := hL.2.2.1
        clear hL
        refine ⟨false, e23, ?_⟩
        rw [if_pos rfl]
        go_simp
        refine (H8.out W).mono ?_
        rintro e W' ⟨rfl, hb⟩
        exact ⟨_, rfl, ⟨fun d hd => by injection hd with hd; subst hd; rfl, fun h => by cases h⟩, hS.call hb, trivial⟩
    · as_aux_lemma =>
        intro vals a W hS hL
        have e26 : a.tmps.getD 26 undef = .agg #[.int .i64 F1, .int .i64 F2] := hL.1
        have e23 : a.tmps.getD 23 undef = .bool false := hL.2.1
        clear hL
        refine ⟨false, e23, ?_⟩
        rw [if_pos rfl]
        go_simp
        refine (H12.out W).mono ?_
        rintro e W' ⟨rfl, hb⟩
        exact ⟨_, rfl, ⟨fun d hd => by injection hd with hd; subst hd; rfl, fun h => by cases h⟩, hS.call hb, trivial⟩
    · as_aux_lemma =>
        intro vals a W hS hL
        have e3 : a.tmps.getD 3 undef = .pointer (some ⟨w.heap.size, 0, none⟩) := hL.1
        have e23 : a.tmps.getD 23 undef = .bool false := hL.2.1
        clear hL
        refine ⟨false, e23, ?_⟩
        rw [if_pos rfl]
        have kb : Bk W (w.heap.size) 23 #[.int .i64 r, .int .i64 c, .bool x, .bool y] := hS.bk 2 rfl rfl
        have f0 := kb.cell 0
        have f1 := kb.cell 1
        have f2 := kb.cell 2
        have f3 := kb.cell 3
        clear kb
        go_simp
        exact ⟨⟨fun d hd => by injection hd with hd; subst hd; rfl, fun h => by cases h⟩, hS, trivial⟩
    · as_aux_lemma =>
        intro vals a W hS hL
        have e28 : a.tmps.getD 28 undef = .agg #[.int .i64 r, .int .i64 c, .bool x, .bool y] := hL.1
        have e23 : a.tmps.getD 23 undef = .bool false := hL.2.1
        clear hL
        refine ⟨false, e23, ?_⟩
        rw [if_pos rfl]
        go_simp
        refine (H3.out W).mono ?_
        rintro e W' ⟨rfl, hb⟩
        exact ⟨_, rfl, ⟨fun d hd => by injection hd with hd; subst hd; rfl, fun h => by cases h⟩, hS.call hb, trivial⟩
    · as_aux_lemma =>
        intro vals a W hS hL
        have e4 : a.tmps.getD 4 undef = .pointer (some ⟨w.heap.size + 1, 0, none⟩) := hL.1
        have e23 : a.tmps.getD 23 undef = .bool false := hL.2.1
        clear hL
        refine ⟨false, e23, ?_⟩
        rw [if_pos rfl]
        have kb : Bk W (w.heap.size + 1) 25 #[.int .i64 b, .int .i64 d] := hS.bk 1 rfl rfl
        have f0 := kb.cell 0
        have f1 := kb.cell 1
        clear kb
        go_simp
        exact ⟨⟨fun d hd => by injection hd with hd; subst hd; rfl, fun h => by cases h⟩, hS, trivial⟩
    · as_aux_lemma =>
        intro vals a W hS hL
        have e30 : a.tmps.getD 30 undef = .agg #[.int .i64 b, .int .i64 d] := hL.1
        have e23 : a.tmps.getD 23 undef = .bool false := hL.2.1
        clear hL
        refine ⟨false, e23, ?_⟩
        rw [if_pos rfl]
        go_simp
        refine (H6.out W).mono ?_
        rintro e W' ⟨rfl, hb⟩
        exact ⟨_, rfl, ⟨fun d hd => by injection hd with hd; subst hd; rfl, fun h => by cases h⟩, hS.call hb, trivial⟩
    · as_aux_lemma =>
        intro vals a W hS hL
        have e29 : a.tmps.getD 29 undef = .agg #[.int .i64 r, .int .i64 c, .bool x, .bool y] := hL.1
        have e31 : a.tmps.getD 31 undef = .agg #[.int .i64 b, .int .i64 d] := hL.2.1
        have e23 : a.tmps.getD 23 undef = .bool false := hL.2.2.1
        clear hL
        refine ⟨false, e23, ?_⟩
        rw [if_pos rfl]
        go_simp
        refine (H9.out W).mono ?_
        rintro e W' ⟨rfl, hb⟩
        exact ⟨_, rfl, ⟨fun d hd => by injection hd with hd; subst hd; rfl, fun h => by cases h⟩, hS.call hb, trivial⟩
    · as_aux_lemma =>
        intro vals a W hS hL
        have e27 : a.tmps.getD 27 undef = .agg #[.int .i64 F1, .int .i64 F2] := hL.1
        have e32 : a.tmps.getD 32 undef = .agg #[.int .i64 F1, .int .i64 F2] := hL.2.1
        have e23 : a.tmps.getD 23 undef = .bool false := hL.2.2.1
        clear hL
        refine ⟨false, e23, ?_⟩
        rw [if_pos rfl]
        go_simp
        exact ⟨⟨fun d hd => by injection hd with hd; subst hd; rfl, fun h => by cases h⟩, hS, trivial⟩
    · as_aux_lemma =>
        intro vals a W hS hL
        have e23 : a.tmps.getD 23 undef = .bool false := hL.1
        have e33 : a.tmps.getD 33 undef = .bool false := hL.2.1
        clear hL
        go_simp
        exact ⟨⟨fun d hd => by injection hd with hd; subst hd; rfl, fun h => by cases h⟩, hS, trivial⟩
    · as_aux_lemma =>
        intro vals a W hS hL
        have e34 : a.tmps.getD 34 undef = .bool false := hL.1
        clear hL
        go_simp
        exact ⟨⟨fun d hd => by injection hd with hd; subst hd; rfl, fun h => by cases h⟩, hS, trivial⟩
    · as_aux_lemma =>
        intro vals a W hS hL
        have e5 : a.tmps.getD 5 undef = .pointer (some ⟨w.heap.size + 1 + 1, 0, none⟩) := hL.1
        have e35 : a.tmps.getD 35 undef = .bool false := hL.2.1
        clear hL
        refine ⟨false, e35, ?_⟩
        rw [if_pos rfl]
        have kb : Bk W (w.heap.size + 1 + 1) 25 #[.int .i64 e0, .int .i64 f0] := hS.bk 0 rfl rfl
        have f0 := kb.cell 0
        have f1 := kb.cell 1
        clear kb
        go_simp
        exact ⟨⟨fun d hd => by injection hd with hd; subst hd; rfl, fun h => by cases h⟩, hS, trivial⟩
    · as_aux_lemma =>
        intro vals a W hS hL
        have e4 : a.tmps.getD 4 undef = .pointer (some ⟨w.heap.size + 1, 0, none⟩) := hL.1
        have e35 : a.tmps.getD 35 undef = .bool false := hL.2.1
        clear hL
        refine ⟨false, e35, ?_⟩
        rw [if_pos rfl]
        have kb : Bk W (w.heap.size + 1) 25 #[.int .i64 b, .int .i64 d] := hS.bk 1 rfl rfl
        have f0 := kb.cell 0
        have f1 := kb.cell 1
        clear kb
        go_simp
        exact ⟨⟨fun d hd => by injection hd with hd; subst hd; rfl, fun h => by cases h⟩, hS, trivial⟩
    · as_aux_lemma =>
        intro vals a W hS hL
        have e3 : a.tmps.getD 3 undef = .pointer (some ⟨w.heap.size, 0, none⟩) := hL.1
        have e35 : a.tmps.getD 35 undef = .bool false := hL.2.1
        clear hL
        refine ⟨false, e35, ?_⟩
        rw [if_pos rfl]
        go_simp
        exact ⟨⟨fun d hd => by injection hd with hd; subst hd; rfl, fun h => by cases h⟩, hS, trivial⟩
    · as_aux_lemma =>
        intro vals a W hS hL
        have e38 : a.tmps.getD 38 undef = .pointer (some ⟨w.heap.size, 2, none⟩) := hL.1
        have e35 : a.tmps.getD 35 undef = .bool false := hL.2.1
        clear hL
        refine ⟨false, e35, ?_⟩
        rw [if_pos rfl]
        have kb : Bk W (w.heap.size) 23 #[.int .i64 r, .int .i64 c, .bool x, .bool y] := hS.bk 2 rfl rfl
        have f2 := kb.cell 2
        clear kb
        go_simp
        exact ⟨⟨fun d hd => by injection hd with hd; subst hd; rfl, fun h => by cases h⟩, hS, trivial⟩
    · as_aux_lemma =>
        intro vals a W hS hL
        have e3 : a.tmps.getD 3 undef = .pointer (some ⟨w.heap.size, 0, none⟩) := hL.1
        have e35 : a.tmps.getD 35 undef = .bool false := hL.2.1
        clear hL
        refine ⟨false, e35, ?_⟩
        rw [if_pos rfl]
        go_simp
        exact ⟨⟨fun d hd => by injection hd with hd; subst hd; rfl, fun h => by cases h⟩, hS, trivial⟩
    · as_aux_lemma =>
        intro vals a W hS hL
        have e40 : a.tmps.getD 40 undef = .pointer (some ⟨w.heap.size, 3, none⟩) := hL.1
        have e35 : a.tmps.getD 35 undef = .bool false := hL.2.1
        clear hL
        refine ⟨false, e35, ?_⟩
        rw [if_pos rfl]
        have kb : Bk W (w.heap.size) 23 #[.int .i64 r, .int .i64 c, .bool x, .bool y] := hS.bk 2 rfl rfl
        have f3 := kb.cell 3
        clear kb
        go_simp
        exact ⟨⟨fun d hd => by injection hd with hd; subst hd; rfl, fun h => by cases h⟩, hS, trivial⟩
    · as_aux_lemma =>
        intro vals a W hS hL
        have e36 : a.tmps.getD 36 undef = .agg #[.int .i64 e0, .int .i64 f0] := hL.1
        have e37 : a.tmps.getD 37 undef = .agg #[.int .i64 b, .int .i64 d] := hL.2.1
        have e39 : a.tmps.getD 39 undef = .bool x := hL.2.2.1
        have e41 : a.tmps.getD 41 undef = .bool y := hL.2.2.2.1
        have e35 : a.tmps.getD 35 undef = .bool false := hL.2.2.2.2.1
        clear hL
        refine ⟨false, e35, ?_⟩
        rw [if_pos rfl]
        go_simp
        refine (H10.out W).mono ?_
        rintro e W' ⟨rfl, hb⟩
        exact ⟨_, rfl, ⟨fun d hd => by injection hd with hd; subst hd; rfl, fun h => by cases h⟩, hS.call hb, trivial⟩
    · as_aux_lemma =>
        intro vals a W hS hL
        have e42 : a.tmps.getD 42 undef = .agg #[.int .i64 B1, .int .i64 B2, .bool x, .bool y] := hL.1
        have e35 : a.tmps.getD 35 undef = .bool false := hL.2.1
        clear hL
        refine ⟨false, e35, ?_⟩
        rw [if_pos rfl]
        go_simp
        refine (H13.out W).mono ?_
        rintro e W' ⟨rfl, hb⟩
        exact ⟨_, rfl, ⟨fun d hd => by injection hd with hd; subst hd; rfl, fun h => by cases h⟩, hS.call hb, trivial⟩
    · as_aux_lemma =>
        intro vals a W hS hL
        have e5 : a.tmps.getD 5 undef = .pointer (some ⟨w.heap.size + 1 + 1, 0, none⟩) := hL.1
        have e35 : a.tmps.getD 35 undef = .bool false := hL.2.1
        clear hL
        refine ⟨false, e35, ?_⟩
        rw [if_pos rfl]
        have kb : Bk W (w.heap.size + 1 + 1) 25 #[.int .i64 e0, .int .i64 f0] := hS.bk 0 rfl rfl
        have f0 := kb.cell 0
        have f1 := kb.cell 1
        clear kb
        go_simp
        exact ⟨⟨fun d hd => by injection hd with hd; subst hd; rfl, fun h => by cases h⟩, hS, trivial⟩
    · as_aux_lemma =>
        intro vals a W hS hL
        have e44 : a.tmps.getD 44 undef = .agg #[.int .i64 e0, .int .i64 f0] := hL.1
        have e35 : a.tmps.getD 35 undef = .bool false := hL.2.1
        clear hL
        refine ⟨false, e35, ?_⟩
        rw [if_pos rfl]
        go_simp
        refine (H7.out W).mono ?_
        rintro e W' ⟨rfl, hb⟩
        exact ⟨_, rfl, ⟨fun d hd => by injection hd with hd; subst hd; rfl, fun h => by cases h⟩, hS.call hb, trivial⟩
    · as_aux_lemma =>
        intro vals a W hS hL
        have e4 : a.tmps.getD 4 undef = .pointer (some ⟨w.heap.size + 1, 0, none⟩) := hL.1
        have e35 : a.tmps.getD 35 undef = .bool false := hL.2.1
        clear hL
        refine ⟨false, e35, ?_⟩
        rw [if_pos rfl]
        have kb : Bk W (w.heap.size + 1) 25 #[.int .i64 b, .int .i64 d] := hS.bk 1 rfl rfl
        have f0 := kb.cell 0
        have f1 := kb.cell 1
        clear kb
        go_simp
        exact ⟨⟨fun d hd => by injection hd with hd; subst hd; rfl, fun h => by cases h⟩, hS, trivial⟩
    · as_aux_lemma =>
        intro vals a W hS hL
        have e46 : a.tmps.getD 46 undef = .agg #[.int .i64 b, .int .i64 d] := hL.1
        have e35 : a.tmps.getD 35 undef = .bool false := hL.2.1
        clear hL
        refine ⟨false, e35, ?_⟩
        rw [if_pos rfl]
        go_simp
        refine (H6.out W).mono ?_
        rintro e W' ⟨rfl, hb⟩
        exact ⟨_, rfl, ⟨fun d hd => by injection hd with hd; subst hd; rfl, fun h => by cases h⟩, hS.call hb, trivial⟩
    · as_aux_lemma =>
        intro vals a W hS hL
        have e3 : a.tmps.getD 3 undef = .pointer (some ⟨w.heap.size, 0, none⟩) := hL.1
        have e35 : a.tmps.getD 35 undef = .bool false := hL.2.1
        clear hL
        refine ⟨false, e35, ?_⟩
        rw [if_pos rfl]
        go_simp
        exact ⟨⟨fun d hd => by injection hd with hd; subst hd; rfl, fun h => by cases h⟩, hS, trivial⟩
    · as_aux_lemma =>
        intro vals a W hS hL
        have e48 : a.tmps.getD 48 undef = .pointer (some ⟨w.heap.size, 2, none⟩) := hL.1
        have e35 : a.tmps.getD 35 undef = .bool false := hL.2.1
        clear hL
        refine ⟨false, e35, ?_⟩
        rw [if_pos rfl]
        have kb : Bk W (w.heap.size) 23 #[.int .i64 r, .int .i64 c, .bool x, .bool y] := hS.bk 2 rfl rfl
        have f2 := kb.cell 2
        clear kb
        go_simp
        exact ⟨⟨fun d hd => by injection hd with hd; subst hd; rfl, fun h => by cases h⟩, hS, trivial⟩
    · as_aux_lemma =>
        intro vals a W hS hL
        have e3 : a.tmps.getD 3 undef = .pointer (some ⟨w.heap.size, 0, none⟩) := hL.1
        have e35 : a.tmps.getD 35 undef = .bool false := hL.2.1
        clear hL
        refine ⟨false, e35, ?_⟩
        rw [if_pos rfl]
        go_simp
        exact ⟨⟨fun d hd => by injection hd with hd; subst hd; rfl, fun h => by cases h⟩, hS, trivial⟩
    · as_aux_lemma =>
        intro vals a W hS hL
        have e50 : a.tmps.getD 50 undef = .pointer (some ⟨w.heap.size, 3, none⟩) := hL.1
        have e35 : a.tmps.getD 35 undef = .bool false := hL.2.1
        clear hL
        refine ⟨false, e35, ?_⟩
        rw [if_pos rfl]
        have kb : Bk W (w.heap.size) 23 #[.int .i64 r, .int .i64 c, .bool x, .bool y] := hS.bk 2 rfl rfl
        have f3 := kb.cell 3
        clear kb
        go_simp
        exact ⟨⟨fun d hd => by injection hd with hd; subst hd; rfl, fun h => by cases h⟩, hS, trivial⟩
    · as_aux_lemma =>
        intro vals a W hS hL
        have e45 : a.tmps.getD 45 undef = .agg #[.int .i64 e0, .int .i64 f0] := hL.1
        have e47 : a.tmps.getD 47 undef = .agg #[.int .i64 b, .int .i64 d] := hL.2.1
        have e49 : a.tmps.getD 49 undef = .bool x := hL.2.2.1
        have e51 : a.tmps.getD 51 undef = .bool y := hL.2.2.2.1
        have e35 : a.tmps.getD 35 undef = .bool false := hL.2.2.2.2.1
        clear hL
        refine ⟨false, e35, ?_⟩
        rw [if_pos rfl]
        go_simp
        refine (H11.out W).mono ?_
        rintro e W' ⟨rfl, hb⟩
        exact ⟨_, rfl, ⟨fun d hd => by injection hd with hd; subst hd; rfl, fun h => by cases h⟩, hS.call hb, trivial⟩
    · as_aux_lemma =>
        intro vals a W hS hL
        have e43 : a.tmps.getD 43 undef = .agg #[.int .i64 B1, .int .i64 B2, .bool x, .bool y] := hL.1
        have e52 : a.tmps.getD 52 undef = .agg #[.int .i64 B1, .int .i64 B2, .bool x, .bool y] := hL.2.1
        have e35 : a.tmps.getD 35 undef = .bool false := hL.2.2.1
        clear hL
        refine ⟨false, e35, ?_⟩
        rw [if_pos rfl]
        go_simp
        exact ⟨⟨fun d hd => by injection hd with hd; subst hd; rfl, fun h => by cases h⟩, hS, trivial⟩
    · as_aux_lemma =>
        intro vals a W hS hL
        have e35 : a.tmps.getD 35 undef = .bool false := hL.1
        have e53 : a.tmps.getD 53 undef = .bool false := hL.2.1
        clear hL
        go_simp
        exact ⟨⟨fun d hd => by injection hd with hd; subst hd; rfl, fun h => by cases h⟩, hS, trivial⟩
  · intro a W' vals hd hsz hT hF hv hP hS
    obtain rfl : vals = [] := List.eq_nil_of_length_eq_zero hv
    have hS2 : SX w 3 ([] : List Stp) [] ([(w.heap.size + 1 + 1, 25, #[.int .i64 e0, .int .i64 f0]), (w.heap.size + 1, 25, #[.int .i64 b, .int .i64 d]), (w.heap.size, 23, #[.int .i64 r, .int .i64 c, .bool x, .bool y])] : List (Nat × TypeId × Array Value)) W' := hS
    clear hS
    have hB0 := hS2
    have hB : SB w 3 ([(w.heap.size + 1 + 1, 25, #[.int .i64 e0, .int .i64 f0]), (w.heap.size + 1, 25, #[.int .i64 b, .int .i64 d]), (w.heap.size, 23, #[.int .i64 r, .int .i64 c, .bool x, .bool y])] : List (Nat × TypeId × Array Value)) W' := hB0
    clear hB0
    have e3 : a.tmps.getD 3 undef = .pointer (some ⟨w.heap.size, 0, none⟩) := hT 3 (by simp)
    have e4 : a.tmps.getD 4 undef = .pointer (some ⟨w.heap.size + 1, 0, none⟩) := hT 4 (by simp)
    have e5 : a.tmps.getD 5 undef = .pointer (some ⟨w.heap.size + 1 + 1, 0, none⟩) := hT 5 (by simp)
    have e54 : a.tmps.getD 54 undef = .bool false := hT 54 (by simp)
    clear hT hF hP
    rw [act_lit 71 a hd hsz]
    simp only [List.range, List.range.loop, List.map, e3, e4, e5, e54]
    clear hd hsz e3 e4 e5 e54
    have HB3 := Lib.hid hB
    clear HB hB H1 H2 H3 H4 H5 H6 H7 H8 H9 H11 H12 H13
    go_wp2_with fail
    refine wp_region_phases (S := (fun vals W => SX w 3 ([] : List Stp) vals ([(w.heap.size + 1 + 1, 25, #[.int .i64 e0, .int .i64 f0]), (w.heap.size + 1, 25, #[.int .i64 b, .int .i64 d]), (w.heap.size, 23, #[.int .i64 r, .int .i64 c, .bool x, .bool y])] : List (Nat × TypeId × Array Value)) W)) (E := (fun _ _ => True)) [] [(3, Is (.pointer (some ⟨w.heap.size, 0, none⟩))), (4, Is (.pointer (some ⟨w.heap.size + 1, 0, none⟩))), (5, Is (.pointer (some ⟨w.heap.size + 1 + 1, 0, none⟩)))] [(55, Is (.agg #[.int .i64 e0, .int .i64 f0])), (56, Is (.bool false)), (57, Is (.bool true)), (58, Is (.bool true)), (59, Is (undef)), (60, Is (undef)), (61, Is (undef)), (62, Is (undef)), (63, Is (undef)), (64, Is (undef)), (65, Is (undef)), (66, Is (undef)), (67, Is (undef)), (68, Is (undef)), (69, Is (undef)), (70, Is (.bool true)), (6, Is (.bool true))]
      [.op [5] none, .op [55] none, .op [56] none, .op [57] none, .op [5, 58] (some (58, false)), .op [4, 58] (some (58, false)), .op [3, 58] (some (58, false)), .op [61, 58] (some (58, false)), .op [3, 58] (some (58, false)), .op [63, 58] (some (58, false)), .op [59, 60, 62, 64, 58] (some (58, false)), .op [4, 58] (some (58, false)), .op [65, 66, 58] (some (58, false)), .op [5, 58] (some (58, false)), .op [67, 68, 58] (some (58, false)), .op [58, 69] none, .op [70] none] (by as_aux_lemma => kernel_rfl) ?_ ?_ ?_ ?_ ?_ ⟨stable_is _ _, stable_is _ _, stable_is _ _, stable_is _ _, stable_is _ _, stable_is _ _, stable_is _ _, stable_is _ _, stable_is _ _, stable_is _ _, stable_is _ _, stable_is _ _, stable_is _ _, stable_is _ _, stable_is _ _, stable_is _ _, stable_is _ _, stable_is _ _, stable_is _ _, stable_is _ _, trivial⟩ ?_ (HB3.out.drew) ?_ ?_
    · as_aux_lemma => kernel_rfl
    · as_aux_lemma => kernel_rfl
    · as_aux_lemma => kernel_rfl
    · as_aux_lemma => kernel_rfl
    · as_aux_lemma => kernel_rfl
    · exact ⟨rfl, rfl, rfl, trivial⟩
    · refine ⟨?_, ?_, ?_, ?_, ?_, ?_, ?_, ?_, ?_, ?_, ?_, ?_, ?_, ?_, ?_, ?_, ?_, trivial⟩
      · as_aux_lemma =>
          intro vals a W hS hL
          have e5 : a.tmps.getD 5 undef = .pointer (some ⟨w.heap.size + 1 + 1, 0, none⟩) := hL.1
          clear hL
          have kb : Bk W (w.heap.size + 1 + 1) 25 #[.int .i64 e0, .int .i64 f0] := hS.bk 0 rfl rfl
          have f0 := kb.cell 0
          have f1 := kb.cell 1
          clear kb
          go_simp
          exact ⟨⟨fun d hd => by injection hd with hd; subst hd; rfl, fun h => by cases h⟩, hS, trivial⟩
      · as_aux_lemma =>
          intro vals a W hS hL
          have e55 : a.tmps.getD 55 undef = .agg #[.int .i64 e0, .int .i64 f0] := hL.1
          clear hL
          go_simp
          refine (H14.out W).mono ?_
          rintro e W' ⟨rfl, hb⟩
          exact ⟨_, rfl, ⟨fun d hd => by injection hd with hd; subst hd; rfl, fun h => by cases h⟩, hS.call hb, trivial⟩
      · as_aux_lemma =>
          intro vals a W hS hL
          have e56 : a.tmps.getD 56 undef = .bool false := hL.1
          clear hL
          go_simp
          exact ⟨⟨fun d hd => by injection hd with hd; subst hd; rfl, fun h => by cases h⟩, hS, trivial⟩
      · as_aux_lemma =>
          intro vals a W hS hL
          have e57 : a.tmps.getD 57 undef = .bool true := hL.1
          clear hL
          go_simp
          exact ⟨⟨fun d hd => by injection hd with hd; subst hd; rfl, fun h => by cases h⟩, hS, trivial⟩
      · as_aux_lemma =>
          intro vals a W hS hL
          have e5 : a.tmps.getD 5 undef = .pointer (some ⟨w.heap.size + 1 + 1, 0, none⟩) := hL.1
          have e58 : a.tmps.getD 58 undef = .bool true := hL.2.1
          clear hL
          refine ⟨true, e58, ?_⟩
          rw [if_neg (by decide)]
          exact ⟨⟨fun d hd => by injection hd with hd; subst hd; rfl, fun h => by cases h⟩, trivial⟩
      · as_aux_lemma =>
          intro vals a W hS hL
          have e4 : a.tmps.getD 4 undef = .pointer (some ⟨w.heap.size + 1, 0, none⟩) := hL.1
          have e58 : a.tmps.getD 58 undef = .bool true := hL.2.1
          clear hL
          refine ⟨true, e58, ?_⟩
          rw [if_neg (by decide)]
          exact ⟨⟨fun d hd => by injection hd with hd; subst hd; rfl, fun h => by cases h⟩, trivial⟩
      · as_aux_lemma =>
          intro vals a W hS hL
          have e3 : a.tmps.getD 3 undef = .pointer (some ⟨w.heap.size, 0, none⟩) := hL.1
          have e58 : a.tmps.getD 58 undef = .bool true := hL.2.1
          clear hL
          refine ⟨true, e58, ?_⟩
          rw [if_neg (by decide)]
          exact ⟨⟨fun d hd => by injection hd with hd; subst hd; rfl, fun h => by cases h⟩, trivial⟩
      · as_aux_lemma =>
          intro vals a W hS hL
          have e61 : a.tmps.getD 61 undef = undef := hL.1
          have e58 : a.tmps.getD 58 undef = .bool true := hL.2.1
          clear hL
          refine ⟨true, e58, ?_⟩
          rw [if_neg (by decide)]
          exact ⟨⟨fun d hd => by injection hd with hd; subst hd; rfl, fun h => by cases h⟩, trivial⟩
      · as_aux_lemma =>
          intro vals a W hS hL
          have e3 : a.tmps.getD 3 undef = .pointer (some ⟨w.heap.size, 0, none⟩) := hL.1
          have e58 : a.tmps.getD 58 undef = .bool true := hL.2.1
          clear hL
          refine ⟨true, e58, ?_⟩
          rw [if_neg (by decide)]
          exact ⟨⟨fun d hd => by injection hd with hd; subst hd; rfl, fun h => by cases h⟩, trivial⟩
      · as_aux_lemma =>
          intro vals a W hS hL
          have e63 : a.tmps.getD 63 undef = undef := hL.1
          have e58 : a.tmps.getD 58 undef = .bool true := hL.2.1
          clear hL
          refine ⟨true, e58, ?_⟩
          rw [if_neg (by decide)]
          exact ⟨⟨fun d hd => by injection hd with hd; subst hd; rfl, fun h => by cases h⟩, trivial⟩
      · as_aux_lemma =>
          intro vals a W hS hL
          have e59 : a.tmps.getD 59 undef = undef := hL.1
          have e60 : a.tmps.getD 60 undef = undef := hL.2.1
          have e62 : a.tmps.getD 62 undef = undef := hL.2.2.1
          have e64 : a.tmps.getD 64 undef = undef := hL.2.2.2.1
          have e58 : a.tmps.getD 58 undef = .bool true := hL.2.2.2.2.1
          clear hL
          refine ⟨true, e58, ?_⟩
          rw [if_neg (by decide)]
          exact ⟨⟨fun d hd => by injection hd with hd; subst hd; rfl, fun h => by cases h⟩, trivial⟩
      · as_aux_lemma =>
          intro vals a W hS hL
          have e4 : a.tmps.getD 4 undef = .pointer (some ⟨w.heap.size + 1, 0, none⟩) := hL.1
          have e58 : a.tmps.getD 58 undef = .bool true := hL.2.1
          clear hL
          refine ⟨true, e58, ?_⟩
          rw [if_neg (by decide)]
          exact ⟨⟨fun d hd => by injection hd with hd; subst hd; rfl, fun h => by cases h⟩, trivial⟩
      · as_aux_lemma =>
          intro vals a W hS hL
          have e65 : a.tmps.getD 65 undef = undef := hL.1
          have e66 : a.tmps.getD 66 undef = undef := hL.2.1
          have e58 : a.tmps.getD 58 undef = .bool true := hL.2.2.1
          clear hL
          refine ⟨true, e58, ?_⟩
          rw [if_neg (by decide)]
          exact ⟨⟨fun d hd => by injection hd with hd; subst hd; rfl, fun h => by cases h⟩, trivial⟩
      · as_aux_lemma =>
          intro vals a W hS hL
          have e5 : a.tmps.getD 5 undef = .pointer (some ⟨w.heap.size + 1 + 1, 0, none⟩) := hL.1
          have e58 : a.tmps.getD 58 undef = .bool true := hL.2.1
          clear hL
          refine ⟨true, e58, ?_⟩
          rw [if_neg (by decide)]
          exact ⟨⟨fun d hd => by injection hd with hd; subst hd; rfl, fun h => by cases h⟩, trivial⟩
      · as_aux_lemma =>
          intro vals a W hS hL
          have e67 : a.tmps.getD 67 undef = undef := hL.1
          have e68 : a.tmps.getD 68 undef = undef := hL.2.1
          have e58 : a.tmps.getD 58 undef = .bool true := hL.2.2.1
          clear hL
          refine ⟨true, e58, ?_⟩
          rw [if_neg (by decide)]
          exact ⟨⟨fun d hd => by injection hd with hd; subst hd; rfl, fun h => by cases h⟩, trivial⟩
      · as_aux_lemma =>
          intro vals a W hS hL
          have e58 : a.tmps.getD 58 undef = .bool true := hL.1
          have e69 : a.tmps.getD 69 undef = undef := hL.2.1
          clear hL
          go_simp
          exact ⟨⟨fun d hd => by injection hd with hd; subst hd; rfl, fun h => by cases h⟩, hS, trivial⟩
      · as_aux_lemma =>
          intro vals a W hS hL
          have e70 : a.tmps.getD 70 undef = .bool true := hL.1
          clear hL
          go_simp
          exact ⟨⟨fun d hd => by injection hd with hd; subst hd; rfl, fun h => by cases h⟩, hS, trivial⟩
    · intro a W' vals hd hsz hT hF hv hP hS
      obtain rfl : vals = [] := List.eq_nil_of_length_eq_zero hv
      have hS2 : SX w 3 ([] : List Stp) [] ([(w.heap.size + 1 + 1, 25, #[.int .i64 e0, .int .i64 f0]), (w.heap.size + 1, 25, #[.int .i64 b, .int .i64 d]), (w.heap.size, 23, #[.int .i64 r, .int .i64 c, .bool x, .bool y])] : List (Nat × TypeId × Array Value)) W' := hS
      clear hS
      have hB0 := hS2
      have hB : SB w 3 ([(w.heap.size + 1 + 1, 25, #[.int .i64 e0, .int .i64 f0]), (w.heap.size + 1, 25, #[.int .i64 b, .int .i64 d]), (w.heap.size, 23, #[.int .i64 r, .int .i64 c, .bool x, .bool y])] : List (Nat × TypeId × Array Value)) W' := hB0
      clear hB0
      have e6 : a.tmps.getD 6 undef = .bool true := hT 6 (by simp)
      clear hT hF hP
      go_wp2
      refine bodyPost_ret (v := .bool true) ?_ hd ⟨rfl, hB.bel⟩
      rw [Array.getD_eq_getD_getElem?] at e6
      simp [results, Tryd.results3, go_sem, e6]

theorem refAny_any {w : World} (HV : Tens w) (r c b d e0 f0 : Int) (x y : Bool) :
    Calls Tryd.prog 3 #[.agg #[.int .i64 r, .int .i64 c, .bool x, .bool y], .agg #[.int .i64 b, .int .i64 d], .agg #[.int .i64 e0, .int .i64 f0]] w fun e w' => e = .returned (.bool true) ∧ Below w.heap.size w w' := by
  cases h : gdB e0 f0
  · exact any_no HV r c b d e0 f0 x y h
  · exact any_yes HV r c b d e0 f0 x y h
end Go.Proofs.YtgjijjdpkmdcgaaDoor
