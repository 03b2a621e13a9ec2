/- ref.Bounds, CheckArea, and the reference's own, by their contracts. No condition. -/
import Derived.Test.YtgjijjdpkmdcgaaDoorBAt
import Derived.Test.YtgjijjdpkmdcgaaDoorBox22
namespace Go.Proofs.YtgjijjdpkmdcgaaDoor
open Go.RowKit

/-- The lesser, the greater of two. -/
def mnI (a b : Int) : Int := if b < a then b else a
def mxI (a b : Int) : Int := if a < b then b else a
/-- An area's corners, from a cell on. -/
def boV (r1 c1 r2 c2 b d : Int) (x1 y1 x2 y2 : Bool) : Value :=
  .tuple #[.agg #[.int .i64 (mnI (fo r1 b x1 65536) (fo r2 b x2 65536)), .int .i64 (mnI (fo c1 d y1 256) (fo c2 d y2 256))], .agg #[.int .i64 (mxI (fo r1 b x1 65536) (fo r2 b x2 65536)), .int .i64 (mxI (fo c1 d y1 256) (fo c2 d y2 256))]]

set_option maxRecDepth 20000 in
set_option maxHeartbeats 2000000 in
theorem bounds_any {w : World} (r1 c1 r2 c2 b d : Int) (x1 y1 x2 y2 : Bool) :
    Calls Tryd.prog 20 #[.agg #[.int .i64 r1, .int .i64 c1, .bool x1, .bool y1, .int .i64 r2, .int .i64 c2, .bool x2, .bool y2], .agg #[.int .i64 b, .int .i64 d]] w fun e w' => e = .returned (boV r1 c1 r2 c2 b d x1 y1 x2 y2) ∧ Below w.heap.size w w' := by
  have H1 := Lib.hid (fun W : World => at_any (w := W) r1 c1 b d x1 y1)
  have H2 := Lib.hid (fun W : World => at_any (w := W) r2 c2 b d x2 y2)
  unfold boV
  generalize fo r1 b x1 65536 = p at *
  generalize fo c1 d y1 256 = q at *
  generalize fo r2 b x2 65536 = p2 at *
  generalize fo c2 d y2 256 = q2 at *
  have HB : Hid (SB w 4 ([(w.heap.size + 1 + 1 + 1, 25, #[.int .i64 0, .int .i64 0]), (w.heap.size + 1 + 1, 25, #[.int .i64 0, .int .i64 0]), (w.heap.size + 1, 25, #[.int .i64 b, .int .i64 d]), (w.heap.size, 42, #[.int .i64 r1, .int .i64 c1, .bool x1, .bool y1, .int .i64 r2, .int .i64 c2, .bool x2, .bool y2])] : List (Nat × TypeId × Array Value)) ((((w.alloc (.cells #[.int .i64 r1, .int .i64 c1, .bool x1, .bool y1, .int .i64 r2, .int .i64 c2, .bool x2, .bool y2] 42)).alloc (.cells #[.int .i64 b, .int .i64 d] 25)).alloc (.cells #[.int .i64 0, .int .i64 0] 25)).alloc (.cells #[.int .i64 0, .int .i64 0] 25))) := Lib.hid ((((sb1 w 42 #[.int .i64 r1, .int .i64 c1, .bool x1, .bool y1, .int .i64 r2, .int .i64 c2, .bool x2, .bool y2]).push (by simp) 25 #[.int .i64 b, .int .i64 d]).push (by simp) 25 #[.int .i64 0, .int .i64 0]).push (by simp) 25 #[.int .i64 0, .int .i64 0])
  go_enter Tryd.func20, Tryd.ntmps20
  go_wp2_with fail
  refine wp_region_parts (S := S22 w 4 ([(w.heap.size + 1 + 1 + 1, 25, #[.int .i64 0, .int .i64 0]), (w.heap.size + 1 + 1, 25, #[.int .i64 0, .int .i64 0]), (w.heap.size + 1, 25, #[.int .i64 b, .int .i64 d]), (w.heap.size, 42, #[.int .i64 r1, .int .i64 c1, .bool x1, .bool y1, .int .i64 r2, .int .i64 c2, .bool x2, .bool y2])] : List (Nat × TypeId × Array Value)) 25 #[.int .i64 0, .int .i64 0] #[.int .i64 p, .int .i64 q] 25 #[.int .i64 0, .int .i64 0] #[.int .i64 p2, .int .i64 q2]) (E := fun _ _ => True) [8, 9, 10, 11] [(2, Is (.pointer (some ⟨w.heap.size, 0, none⟩))), (3, Is (.pointer (some ⟨w.heap.size + 1, 0, none⟩))), (4, Is (.pointer (some ⟨w.heap.size + 1 + 1, 0, none⟩))), (5, Is (.pointer (some ⟨w.heap.size + 1 + 1 + 1, 0, none⟩)))] [(8, Is (.pointer (some ⟨w.heap.size, 0, none⟩))), (9, Is (.agg #[.int .i64 r1, .int .i64 c1, .bool x1, .bool y1])), (10, Is (.agg #[.int .i64 b, .int .i64 d])), (11, Is (.agg #[.int .i64 p, .int .i64 q])), (12, Is (.pointer (some ⟨w.heap.size, 4, none⟩))), (13, Is (.agg #[.int .i64 r2, .int .i64 c2, .bool x2, .bool y2])), (14, Is (.agg #[.int .i64 b, .int .i64 d])), (15, Is (.agg #[.int .i64 p2, .int .i64 q2]))]
    [.op [2] none, .op [8] none, .op [3] none, .op [9, 10] none, .op [2] none, .op [12] none, .op [3] none, .op [13, 14] none, .phase 0 [] [] [], .phase 1 [] [] [], .phase 2 [11] [(0, 6)] [1], .phase 3 [15] [(1, 7)] [2, 0]] (by as_aux_lemma => kernel_rfl) ?_ ?_ ?_ ?_ ?_ ⟨stable_is _ _, stable_is _ _, stable_is _ _, stable_is _ _, stable_is _ _, stable_is _ _, stable_is _ _, stable_is _ _, stable_is _ _, stable_is _ _, stable_is _ _, stable_is _ _, trivial⟩ ?_ (HB.out.drew) ?_ ?_
  · as_aux_lemma => kernel_rfl
  · as_aux_lemma => kernel_rfl
  · as_aux_lemma => kernel_rfl
  · as_aux_lemma => kernel_rfl
  · as_aux_lemma => kernel_rfl
  · exact ⟨rfl, rfl, rfl, rfl, trivial⟩
  · refine ⟨?_, ?_, ?_, ?_, ?_, ?_, ?_, ?_, ?_, ?_, ?_, ?_, trivial⟩
    · as_aux_lemma =>
        intro vals a W hS hL
        have e2 : a.tmps.getD 2 undef = .pointer (some ⟨w.heap.size, 0, none⟩) := hL.1
        clear hL
        go_simp
        exact ⟨⟨fun d hd => by injection hd with hd; subst hd; rfl, fun h => by cases h⟩, hS, trivial⟩
    · as_aux_lemma =>
        intro vals a W hS hL
        have e8 : a.tmps.getD 8 undef = .pointer (some ⟨w.heap.size, 0, none⟩) := hL.1
        clear hL
        have kb : Bk W (w.heap.size) 42 #[.int .i64 r1, .int .i64 c1, .bool x1, .bool y1, .int .i64 r2, .int .i64 c2, .bool x2, .bool y2] := hS.bk 3 rfl
        have f0 := kb.cell 0
        have f1 := kb.cell 1
        have f2 := kb.cell 2
        have f3 := kb.cell 3
        clear kb
        go_simp
        exact ⟨⟨fun d hd => by injection hd with hd; subst hd; rfl, fun h => by cases h⟩, hS, trivial⟩
    · as_aux_lemma =>
        intro vals a W hS hL
        have e3 : a.tmps.getD 3 undef = .pointer (some ⟨w.heap.size + 1, 0, none⟩) := hL.1
        clear hL
        have kb : Bk W (w.heap.size + 1) 25 #[.int .i64 b, .int .i64 d] := hS.bk 2 rfl
        have f0 := kb.cell 0
        have f1 := kb.cell 1
        clear kb
        go_simp
        exact ⟨⟨fun d hd => by injection hd with hd; subst hd; rfl, fun h => by cases h⟩, hS, trivial⟩
    · as_aux_lemma =>
        intro vals a W hS hL
        have e9 : a.tmps.getD 9 undef = .agg #[.int .i64 r1, .int .i64 c1, .bool x1, .bool y1] := hL.1
        have e10 : a.tmps.getD 10 undef = .agg #[.int .i64 b, .int .i64 d] := hL.2.1
        clear hL
        go_simp
        refine (H1.out _).mono ?_
        rintro e W' ⟨rfl, hb⟩
        exact ⟨_, rfl, ⟨fun d hd => by injection hd with hd; subst hd; rfl, fun h => by cases h⟩, hS.call hb, trivial⟩
    · as_aux_lemma =>
        intro vals a W hS hL
        have e2 : a.tmps.getD 2 undef = .pointer (some ⟨w.heap.size, 0, none⟩) := hL.1
        clear hL
        go_simp
        exact ⟨⟨fun d hd => by injection hd with hd; subst hd; rfl, fun h => by cases h⟩, hS, trivial⟩
    · as_aux_lemma =>
        intro vals a W hS hL
        have e12 : a.tmps.getD 12 undef = .pointer (some ⟨w.heap.size, 4, none⟩) := hL.1
        clear hL
        have kb : Bk W (w.heap.size) 42 #[.int .i64 r1, .int .i64 c1, .bool x1, .bool y1, .int .i64 r2, .int .i64 c2, .bool x2, .bool y2] := hS.bk 3 rfl
        have f4 := kb.cell 4
        have f5 := kb.cell 5
        have f6 := kb.cell 6
        have f7 := kb.cell 7
        clear kb
        go_simp
        exact ⟨⟨fun d hd => by injection hd with hd; subst hd; rfl, fun h => by cases h⟩, hS, trivial⟩
    · as_aux_lemma =>
        intro vals a W hS hL
        have e3 : a.tmps.getD 3 undef = .pointer (some ⟨w.heap.size + 1, 0, none⟩) := hL.1
        clear hL
        have kb : Bk W (w.heap.size + 1) 25 #[.int .i64 b, .int .i64 d] := hS.bk 2 rfl
        have f0 := kb.cell 0
        have f1 := kb.cell 1
        clear kb
        go_simp
        exact ⟨⟨fun d hd => by injection hd with hd; subst hd; rfl, fun h => by cases h⟩, hS, trivial⟩
    · as_aux_lemma =>
        intro vals a W hS hL
        have e13 : a.tmps.getD 13 undef = .agg #[.int .i64 r2, .int .i64 c2, .bool x2, .bool y2] := hL.1
        have e14 : a.tmps.getD 14 undef = .agg #[.int .i64 b, .int .i64 d] := hL.2.1
        clear hL
        go_simp
        refine (H2.out _).mono ?_
        rintro e W' ⟨rfl, hb⟩
        exact ⟨_, rfl, ⟨fun d hd => by injection hd with hd; subst hd; rfl, fun h => by cases h⟩, hS.call hb, trivial⟩
    · as_aux_lemma =>
        intro a W vals hv hn hS hL hp hd
        clear hL
        go_simp
        exact ⟨hS.new0 hv hn, trivial, trivial⟩
    · as_aux_lemma =>
        intro a W vals hv hn hS hL hp hd
        clear hL
        go_simp
        exact ⟨hS.new1 hv hn, trivial, trivial⟩
    · as_aux_lemma =>
        intro a W vals hv hn hS hL hp hd
        have e11 : a.tmps.getD 11 undef = .agg #[.int .i64 p, .int .i64 q] := hL.1
        clear hL
        obtain ⟨g, hg, kz, hnx⟩ := hS.at2 hv hn hp.1 hd.1
        rw [Array.getD_eq_getD_getElem?] at hg e11
        have z0 := kz.frozen 0
        have z1 := kz.frozen 1
        have q0 := kz.cell 0
        have q1 := kz.cell 1
        clear kz hS
        go_simp
        exact ⟨hnx _, trivial, trivial⟩
    · as_aux_lemma =>
        intro a W vals hv hn hS hL hp hd
        have e15 : a.tmps.getD 15 undef = .agg #[.int .i64 p2, .int .i64 q2] := hL.1
        clear hL
        obtain ⟨g, hg, kz, hnx⟩ := hS.at3 hv hn hp.1 hd.1 hd.2.1
        rw [Array.getD_eq_getD_getElem?] at hg e15
        have z0 := kz.frozen 0
        have z1 := kz.frozen 1
        have q0 := kz.cell 0
        have q1 := kz.cell 1
        clear kz hS
        go_simp
        exact ⟨hnx _, trivial, trivial⟩
  · intro a W' vals hd hsz hT hF hv hall hP hS
    obtain ⟨g0, g1, hv0, hv1, hg0, hg1, hg01, hn0, hn1, hB⟩ := hS.fin hv hall
    simp only [List.mem_cons, List.not_mem_nil, or_false, forall_eq_or_imp, forall_eq] at hn0
    have e6 : a.tmps.getD 6 undef = .pointer (some ⟨g0, 0, none⟩) := (hP 0 8 _ 6 _ rfl rfl rfl hv0).symm
    simp only [List.mem_cons, List.not_mem_nil, or_false, forall_eq_or_imp, forall_eq] at hn1
    have e7 : a.tmps.getD 7 undef = .pointer (some ⟨g1, 0, none⟩) := (hP 1 9 _ 7 _ rfl rfl rfl hv1).symm
    have e2 : a.tmps.getD 2 undef = .pointer (some ⟨w.heap.size, 0, none⟩) := hT 2 (by simp)
    have e3 : a.tmps.getD 3 undef = .pointer (some ⟨w.heap.size + 1, 0, none⟩) := hT 3 (by simp)
    have e4 : a.tmps.getD 4 undef = .pointer (some ⟨w.heap.size + 1 + 1, 0, none⟩) := hT 4 (by simp)
    have e5 : a.tmps.getD 5 undef = .pointer (some ⟨w.heap.size + 1 + 1 + 1, 0, none⟩) := hT 5 (by simp)
    clear hT hF hP hS hall hv0 hv1
    rw [act_lit 38 a hd hsz]
    simp only [List.range, List.range.loop, List.map, e2, e3, e4, e5, e6, e7]
    clear hd hsz e2 e3 e4 e5 e6 e7
    have HB3 := Lib.hid hB
    clear HB hB H1 H2
    go_wp2_with fail
    refine wp_region_phases (S := (fun vals W => SX w 4 ([.put 3 #[.int .i64 (mnI p p2), .int .i64 (mnI q q2)], .put 2 #[.int .i64 (mxI p p2), .int .i64 (mxI q q2)]] : List Stp) vals ([(g1, 25, #[.int .i64 p2, .int .i64 q2]), (g0, 25, #[.int .i64 p, .int .i64 q]), (w.heap.size + 1 + 1 + 1, 25, #[.int .i64 0, .int .i64 0]), (w.heap.size + 1 + 1, 25, #[.int .i64 0, .int .i64 0]), (w.heap.size + 1, 25, #[.int .i64 b, .int .i64 d]), (w.heap.size, 42, #[.int .i64 r1, .int .i64 c1, .bool x1, .bool y1, .int .i64 r2, .int .i64 c2, .bool x2, .bool y2])] : List (Nat × TypeId × Array Value)) W)) (E := (fun _ _ => True)) [22, 23] [(2, Is (.pointer (some ⟨w.heap.size, 0, none⟩))), (3, Is (.pointer (some ⟨w.heap.size + 1, 0, none⟩))), (4, Is (.pointer (some ⟨w.heap.size + 1 + 1, 0, none⟩))), (5, Is (.pointer (some ⟨w.heap.size + 1 + 1 + 1, 0, none⟩))), (6, Is (.pointer (some ⟨g0, 0, none⟩))), (7, Is (.pointer (some ⟨g1, 0, none⟩)))] [(16, Is (.pointer (some ⟨g0, 0, none⟩))), (17, Is (.int .i64 p)), (18, Is (.pointer (some ⟨g1, 0, none⟩))), (19, Is (.int .i64 p2)), (20, Is (.int .i64 (mnI p p2))), (21, Is (.pointer (some ⟨g0, 1, none⟩))), (22, Is (.int .i64 q)), (23, Is (.pointer (some ⟨g1, 1, none⟩))), (24, Is (.int .i64 q2)), (25, Is (.int .i64 (mnI q q2))), (26, Is (.agg #[.int .i64 (mnI p p2), .int .i64 (mnI q q2)])), (27, Is (.pointer (some ⟨g0, 0, none⟩))), (28, Is (.int .i64 p)), (29, Is (.pointer (some ⟨g1, 0, none⟩))), (30, Is (.int .i64 p2)), (31, Is (.int .i64 (mxI p p2))), (32, Is (.pointer (some ⟨g0, 1, none⟩))), (33, Is (.int .i64 q)), (34, Is (.pointer (some ⟨g1, 1, none⟩))), (35, Is (.int .i64 q2)), (36, Is (.int .i64 (mxI q q2))), (37, Is (.agg #[.int .i64 (mxI p p2), .int .i64 (mxI q q2)]))]
      [.op [6] none, .op [16] none, .op [7] none, .op [18] none, .op [17, 19] none, .op [6] none, .op [21] none, .op [7] none, .op [23] none, .op [22, 24] none, .op [20, 25] none, .op [6] none, .op [27] none, .op [7] none, .op [29] none, .op [28, 30] none, .op [6] none, .op [32] none, .op [7] none, .op [34] none, .op [33, 35] none, .op [31, 36] none, .phase 0 [4, 26] [], .phase 1 [5, 37] []] (by as_aux_lemma => kernel_rfl) ?_ ?_ ?_ ?_ ?_ ⟨stable_is _ _, stable_is _ _, stable_is _ _, stable_is _ _, stable_is _ _, stable_is _ _, stable_is _ _, stable_is _ _, stable_is _ _, stable_is _ _, stable_is _ _, stable_is _ _, stable_is _ _, stable_is _ _, stable_is _ _, stable_is _ _, stable_is _ _, stable_is _ _, stable_is _ _, stable_is _ _, stable_is _ _, stable_is _ _, stable_is _ _, stable_is _ _, stable_is _ _, stable_is _ _, stable_is _ _, stable_is _ _, trivial⟩ ?_ (HB3.out.drew) ?_ ?_
    · as_aux_lemma => kernel_rfl
    · as_aux_lemma => kernel_rfl
    · as_aux_lemma => kernel_rfl
    · as_aux_lemma => kernel_rfl
    · as_aux_lemma => kernel_rfl
    · exact ⟨rfl, rfl, rfl, rfl, rfl, rfl, trivial⟩
    · refine ⟨?_, ?_, ?_, ?_, ?_, ?_, ?_, ?_, ?_, ?_, ?_, ?_, ?_, ?_, ?_, ?_, ?_, ?_, ?_, ?_, ?_, ?_, ?_, ?_, trivial⟩
      · as_aux_lemma =>
          intro vals a W hS hL
          have e6 : a.tmps.getD 6 undef = .pointer (some ⟨g0, 0, none⟩) := hL.1
          clear hL
          go_simp
          exact ⟨⟨fun d hd => by injection hd with hd; subst hd; rfl, fun h => by cases h⟩, hS, trivial⟩
      · as_aux_lemma =>
          intro vals a W hS hL
          have e16 : a.tmps.getD 16 undef = .pointer (some ⟨g0, 0, none⟩) := hL.1
          clear hL
          have kb : Bk W (g0) 25 #[.int .i64 p, .int .i64 q] := hS.bk 1 rfl rfl
          have f0 := kb.cell 0
          clear kb
          go_simp
          exact ⟨⟨fun d hd => by injection hd with hd; subst hd; rfl, fun h => by cases h⟩, hS, trivial⟩
      · as_aux_lemma =>
          intro vals a W hS hL
          have e7 : a.tmps.getD 7 undef = .pointer (some ⟨g1, 0, none⟩) := hL.1
          clear hL
          go_simp
          exact ⟨⟨fun d hd => by injection hd with hd; subst hd; rfl, fun h => by cases h⟩, hS, trivial⟩
      · as_aux_lemma =>
          intro vals a W hS hL
          have e18 : a.tmps.getD 18 undef = .pointer (some ⟨g1, 0, none⟩) := hL.1
          clear hL
          have kb : Bk W (g1) 25 #[.int .i64 p2, .int .i64 q2] := hS.bk 0 rfl rfl
          have f0 := kb.cell 0
          clear kb
          go_simp
          exact ⟨⟨fun d hd => by injection hd with hd; subst hd; rfl, fun h => by cases h⟩, hS, trivial⟩
      · as_aux_lemma =>
          intro vals a W hS hL
          have e17 : a.tmps.getD 17 undef = .int .i64 p := hL.1
          have e19 : a.tmps.getD 19 undef = .int .i64 p2 := hL.2.1
          clear hL
          go_simp
          exact ⟨⟨fun d hd => by injection hd with hd; subst hd; rfl, fun h => by cases h⟩, hS, trivial⟩
      · as_aux_lemma =>
          intro vals a W hS hL
          have e6 : a.tmps.getD 6 undef = .pointer (some ⟨g0, 0, none⟩) := hL.1
          clear hL
          go_simp
          exact ⟨⟨fun d hd => by injection hd with hd; subst hd; rfl, fun h => by cases h⟩, hS, trivial⟩
      · as_aux_lemma =>
          intro vals a W hS hL
          have e21 : a.tmps.getD 21 undef = .pointer (some ⟨g0, 1, none⟩) := hL.1
          clear hL
          have kb : Bk W (g0) 25 #[.int .i64 p, .int .i64 q] := hS.bk 1 rfl rfl
          have f1 := kb.cell 1
          clear kb
          go_simp
          exact ⟨⟨fun d hd => by injection hd with hd; subst hd; rfl, fun h => by cases h⟩, hS, trivial⟩
      · as_aux_lemma =>
          intro vals a W hS hL
          have e7 : a.tmps.getD 7 undef = .pointer (some ⟨g1, 0, none⟩) := hL.1
          clear hL
          go_simp
          exact ⟨⟨fun d hd => by injection hd with hd; subst hd; rfl, fun h => by cases h⟩, hS, trivial⟩
      · as_aux_lemma =>
          intro vals a W hS hL
          have e23 : a.tmps.getD 23 undef = .pointer (some ⟨g1, 1, none⟩) := hL.1
          clear hL
          have kb : Bk W (g1) 25 #[.int .i64 p2, .int .i64 q2] := hS.bk 0 rfl rfl
          have f1 := kb.cell 1
          clear kb
          go_simp
          exact ⟨⟨fun d hd => by injection hd with hd; subst hd; rfl, fun h => by cases h⟩, hS, trivial⟩
      · as_aux_lemma =>
          intro vals a W hS hL
          have e22 : a.tmps.getD 22 undef = .int .i64 q := hL.1
          have e24 : a.tmps.getD 24 undef = .int .i64 q2 := hL.2.1
          clear hL
          go_simp
          exact ⟨⟨fun d hd => by injection hd with hd; subst hd; rfl, fun h => by cases h⟩, hS, trivial⟩
      · as_aux_lemma =>
          intro vals a W hS hL
          have e20 : a.tmps.getD 20 undef = .int .i64 (mnI p p2) := hL.1
          have e25 : a.tmps.getD 25 undef = .int .i64 (mnI q q2) := hL.2.1
          clear hL
          rw [Array.getD_eq_getD_getElem?] at e20 e25
          go_simp
          exact ⟨⟨fun d hd => by injection hd with hd; subst hd; rfl, fun h => by cases h⟩, hS, trivial⟩
      · as_aux_lemma =>
          intro vals a W hS hL
          have e6 : a.tmps.getD 6 undef = .pointer (some ⟨g0, 0, none⟩) := hL.1
          clear hL
          go_simp
          exact ⟨⟨fun d hd => by injection hd with hd; subst hd; rfl, fun h => by cases h⟩, hS, trivial⟩
      · as_aux_lemma =>
          intro vals a W hS hL
          have e27 : a.tmps.getD 27 undef = .pointer (some ⟨g0, 0, none⟩) := hL.1
          clear hL
          have kb : Bk W (g0) 25 #[.int .i64 p, .int .i64 q] := hS.bk 1 rfl rfl
          have f0 := kb.cell 0
          clear kb
          go_simp
          exact ⟨⟨fun d hd => by injection hd with hd; subst hd; rfl, fun h => by cases h⟩, hS, trivial⟩
      · as_aux_lemma =>
          intro vals a W hS hL
          have e7 : a.tmps.getD 7 undef = .pointer (some ⟨g1, 0, none⟩) := hL.1
          clear hL
          go_simp
          exact ⟨⟨fun d hd => by injection hd with hd; subst hd; rfl, fun h => by cases h⟩, hS, trivial⟩
      · as_aux_lemma =>
          intro vals a W hS hL
          have e29 : a.tmps.getD 29 undef = .pointer (some ⟨g1, 0, none⟩) := hL.1
          clear hL
          have kb : Bk W (g1) 25 #[.int .i64 p2, .int .i64 q2] := hS.bk 0 rfl rfl
          have f0 := kb.cell 0
          clear kb
          go_simp
          exact ⟨⟨fun d hd => by injection hd with hd; subst hd; rfl, fun h => by cases h⟩, hS, trivial⟩
      · as_aux_lemma =>
          intro vals a W hS hL
          have e28 : a.tmps.getD 28 undef = .int .i64 p := hL.1
          have e30 : a.tmps.getD 30 undef = .int .i64 p2 := hL.2.1
          clear hL
          go_simp
          exact ⟨⟨fun d hd => by injection hd with hd; subst hd; rfl, fun h => by cases h⟩, hS, trivial⟩
      · as_aux_lemma =>
          intro vals a W hS hL
          have e6 : a.tmps.getD 6 undef = .pointer (some ⟨g0, 0, none⟩) := hL.1
          clear hL
          go_simp
          exact ⟨⟨fun d hd => by injection hd with hd; subst hd; rfl, fun h => by cases h⟩, hS, trivial⟩
      · as_aux_lemma =>
          intro vals a W hS hL
          have e32 : a.tmps.getD 32 undef = .pointer (some ⟨g0, 1, none⟩) := hL.1
          clear hL
          have kb : Bk W (g0) 25 #[.int .i64 p, .int .i64 q] := hS.bk 1 rfl rfl
          have f1 := kb.cell 1
          clear kb
          go_simp
          exact ⟨⟨fun d hd => by injection hd with hd; subst hd; rfl, fun h => by cases h⟩, hS, trivial⟩
      · as_aux_lemma =>
          intro vals a W hS hL
          have e7 : a.tmps.getD 7 undef = .pointer (some ⟨g1, 0, none⟩) := hL.1
          clear hL
          go_simp
          exact ⟨⟨fun d hd => by injection hd with hd; subst hd; rfl, fun h => by cases h⟩, hS, trivial⟩
      · as_aux_lemma =>
          intro vals a W hS hL
          have e34 : a.tmps.getD 34 undef = .pointer (some ⟨g1, 1, none⟩) := hL.1
          clear hL
          have kb : Bk W (g1) 25 #[.int .i64 p2, .int .i64 q2] := hS.bk 0 rfl rfl
          have f1 := kb.cell 1
          clear kb
          go_simp
          exact ⟨⟨fun d hd => by injection hd with hd; subst hd; rfl, fun h => by cases h⟩, hS, trivial⟩
      · as_aux_lemma =>
          intro vals a W hS hL
          have e33 : a.tmps.getD 33 undef = .int .i64 q := hL.1
          have e35 : a.tmps.getD 35 undef = .int .i64 q2 := hL.2.1
          clear hL
          go_simp
          exact ⟨⟨fun d hd => by injection hd with hd; subst hd; rfl, fun h => by cases h⟩, hS, trivial⟩
      · as_aux_lemma =>
          intro vals a W hS hL
          have e31 : a.tmps.getD 31 undef = .int .i64 (mxI p p2) := hL.1
          have e36 : a.tmps.getD 36 undef = .int .i64 (mxI q q2) := hL.2.1
          clear hL
          rw [Array.getD_eq_getD_getElem?] at e31 e36
          go_simp
          exact ⟨⟨fun d hd => by injection hd with hd; subst hd; rfl, fun h => by cases h⟩, hS, trivial⟩
      · as_aux_lemma =>
          intro a W vals hv hS hL hp
          have e4 : a.tmps.getD 4 undef = .pointer (some ⟨w.heap.size + 1 + 1, 0, none⟩) := hL.1
          have e26 : a.tmps.getD 26 undef = .agg #[.int .i64 (mnI p p2), .int .i64 (mnI q q2)] := hL.2.1
          clear hL
          match vals, hv, hS with
          | [], _, hS =>
            have hS2 : SX w 4 ([.put 3 #[.int .i64 (mnI p p2), .int .i64 (mnI q q2)], .put 2 #[.int .i64 (mxI p p2), .int .i64 (mxI q q2)]] : List Stp) [] ([(g1, 25, #[.int .i64 p2, .int .i64 q2]), (g0, 25, #[.int .i64 p, .int .i64 q]), (w.heap.size + 1 + 1 + 1, 25, #[.int .i64 0, .int .i64 0]), (w.heap.size + 1 + 1, 25, #[.int .i64 0, .int .i64 0]), (w.heap.size + 1, 25, #[.int .i64 b, .int .i64 d]), (w.heap.size, 42, #[.int .i64 r1, .int .i64 c1, .bool x1, .bool y1, .int .i64 r2, .int .i64 c2, .bool x2, .bool y2])] : List (Nat × TypeId × Array Value)) W := hS
            clear hS
            have hB0 := hS2
            have hB : SB w 4 ([(g1, 25, #[.int .i64 p2, .int .i64 q2]), (g0, 25, #[.int .i64 p, .int .i64 q]), (w.heap.size + 1 + 1 + 1, 25, #[.int .i64 0, .int .i64 0]), (w.heap.size + 1 + 1, 25, #[.int .i64 0, .int .i64 0]), (w.heap.size + 1, 25, #[.int .i64 b, .int .i64 d]), (w.heap.size, 42, #[.int .i64 r1, .int .i64 c1, .bool x1, .bool y1, .int .i64 r2, .int .i64 c2, .bool x2, .bool y2])] : List (Nat × TypeId × Array Value)) W := hB0
            clear hB0
            rw [Array.getD_eq_getD_getElem?] at e26
            have kz := hB.box (i := 3) rfl
            have z0 := kz.frozen 0
            have q0 := kz.cell 0
            have z1 := kz.frozen 1
            have q1 := kz.cell 1
            have hge : w.heap.size ≤ (w.heap.size + 1 + 1) := by omega
            have hne : ∀ qx ∈ butBox ([(g1, 25, #[.int .i64 p2, .int .i64 q2]), (g0, 25, #[.int .i64 p, .int .i64 q]), (w.heap.size + 1 + 1 + 1, 25, #[.int .i64 0, .int .i64 0]), (w.heap.size + 1 + 1, 25, #[.int .i64 0, .int .i64 0]), (w.heap.size + 1, 25, #[.int .i64 b, .int .i64 d]), (w.heap.size, 42, #[.int .i64 r1, .int .i64 c1, .bool x1, .bool y1, .int .i64 r2, .int .i64 c2, .bool x2, .bool y2])] : List (Nat × TypeId × Array Value)) 3, qx.1 ≠ (w.heap.size + 1 + 1) := by simp [butBox] <;> omega
            have hF := hB.put2 (i := 3) rfl hge hne (.int .i64 (mnI p p2) : Value) (.int .i64 (mnI q q2) : Value)
            clear kz hB hne hge
            go_simp
            exact ⟨hF, trivial, trivial⟩
      · as_aux_lemma =>
          intro a W vals hv hS hL hp
          have e5 : a.tmps.getD 5 undef = .pointer (some ⟨w.heap.size + 1 + 1 + 1, 0, none⟩) := hL.1
          have e37 : a.tmps.getD 37 undef = .agg #[.int .i64 (mxI p p2), .int .i64 (mxI q q2)] := hL.2.1
          clear hL
          match vals, hv, hS with
          | [v0], _, hS =>
            have hS2 : SX w 4 ([.put 3 #[.int .i64 (mnI p p2), .int .i64 (mnI q q2)], .put 2 #[.int .i64 (mxI p p2), .int .i64 (mxI q q2)]] : List Stp) [v0] ([(g1, 25, #[.int .i64 p2, .int .i64 q2]), (g0, 25, #[.int .i64 p, .int .i64 q]), (w.heap.size + 1 + 1 + 1, 25, #[.int .i64 0, .int .i64 0]), (w.heap.size + 1 + 1, 25, #[.int .i64 0, .int .i64 0]), (w.heap.size + 1, 25, #[.int .i64 b, .int .i64 d]), (w.heap.size, 42, #[.int .i64 r1, .int .i64 c1, .bool x1, .bool y1, .int .i64 r2, .int .i64 c2, .bool x2, .bool y2])] : List (Nat × TypeId × Array Value)) W := hS
            clear hS
            have hB0 := hS2
            have hB : SB w 4 ([(g1, 25, #[.int .i64 p2, .int .i64 q2]), (g0, 25, #[.int .i64 p, .int .i64 q]), (w.heap.size + 1 + 1 + 1, 25, #[.int .i64 0, .int .i64 0]), (w.heap.size + 1 + 1, 25, #[.int .i64 (mnI p p2), .int .i64 (mnI q q2)]), (w.heap.size + 1, 25, #[.int .i64 b, .int .i64 d]), (w.heap.size, 42, #[.int .i64 r1, .int .i64 c1, .bool x1, .bool y1, .int .i64 r2, .int .i64 c2, .bool x2, .bool y2])] : List (Nat × TypeId × Array Value)) W := hB0
            clear hB0
            rw [Array.getD_eq_getD_getElem?] at e37
            have kz := hB.box (i := 2) rfl
            have z0 := kz.frozen 0
            have q0 := kz.cell 0
            have z1 := kz.frozen 1
            have q1 := kz.cell 1
            have hge : w.heap.size ≤ (w.heap.size + 1 + 1 + 1) := by omega
            have hne : ∀ qx ∈ butBox ([(g1, 25, #[.int .i64 p2, .int .i64 q2]), (g0, 25, #[.int .i64 p, .int .i64 q]), (w.heap.size + 1 + 1 + 1, 25, #[.int .i64 0, .int .i64 0]), (w.heap.size + 1 + 1, 25, #[.int .i64 (mnI p p2), .int .i64 (mnI q q2)]), (w.heap.size + 1, 25, #[.int .i64 b, .int .i64 d]), (w.heap.size, 42, #[.int .i64 r1, .int .i64 c1, .bool x1, .bool y1, .int .i64 r2, .int .i64 c2, .bool x2, .bool y2])] : List (Nat × TypeId × Array Value)) 2, qx.1 ≠ (w.heap.size + 1 + 1 + 1) := by simp [butBox] <;> omega
            have hF := hB.put2 (i := 2) rfl hge hne (.int .i64 (mxI p p2) : Value) (.int .i64 (mxI q q2) : Value)
            clear kz hB hne hge
            go_simp
            exact ⟨hF, trivial, trivial⟩
    · intro a W' vals hd hsz hT hF hv hP hS
      obtain ⟨v0, v1, rfl⟩ : ∃ v0 v1, vals = [v0, v1] := by
        match vals, hv with
        | [v0, v1], _ => exact ⟨v0, v1, rfl⟩
      have hS2 : SX w 4 ([.put 3 #[.int .i64 (mnI p p2), .int .i64 (mnI q q2)], .put 2 #[.int .i64 (mxI p p2), .int .i64 (mxI q q2)]] : List Stp) [v0, v1] ([(g1, 25, #[.int .i64 p2, .int .i64 q2]), (g0, 25, #[.int .i64 p, .int .i64 q]), (w.heap.size + 1 + 1 + 1, 25, #[.int .i64 0, .int .i64 0]), (w.heap.size + 1 + 1, 25, #[.int .i64 0, .int .i64 0]), (w.heap.size + 1, 25, #[.int .i64 b, .int .i64 d]), (w.heap.size, 42, #[.int .i64 r1, .int .i64 c1, .bool x1, .bool y1, .int .i64 r2, .int .i64 c2, .bool x2, .bool y2])] : List (Nat × TypeId × Array Value)) W' := hS
      clear hS
      have hB0 := hS2
      have hB : SB w 4 ([(g1, 25, #[.int .i64 p2, .int .i64 q2]), (g0, 25, #[.int .i64 p, .int .i64 q]), (w.heap.size + 1 + 1 + 1, 25, #[.int .i64 (mxI p p2), .int .i64 (mxI q q2)]), (w.heap.size + 1 + 1, 25, #[.int .i64 (mnI p p2), .int .i64 (mnI q q2)]), (w.heap.size + 1, 25, #[.int .i64 b, .int .i64 d]), (w.heap.size, 42, #[.int .i64 r1, .int .i64 c1, .bool x1, .bool y1, .int .i64 r2, .int .i64 c2, .bool x2, .bool y2])] : List (Nat × TypeId × Array Value)) W' := hB0
      clear hB0
      have kz2 := hB.box (i := 2) rfl
      have r2_0 := kz2.cell 0
      have r2_1 := kz2.cell 1
      clear kz2
      have kz3 := hB.box (i := 3) rfl
      have r3_0 := kz3.cell 0
      have r3_1 := kz3.cell 1
      clear kz3
      have e4 : a.tmps.getD 4 undef = .pointer (some ⟨w.heap.size + 1 + 1, 0, none⟩) := hT 4 (by simp)
      have e5 : a.tmps.getD 5 undef = .pointer (some ⟨w.heap.size + 1 + 1 + 1, 0, none⟩) := hT 5 (by simp)
      clear hT hF hP
      go_wp2
      refine bodyPost_ret (v := .tuple #[.agg #[.int .i64 (mnI p p2), .int .i64 (mnI q q2)], .agg #[.int .i64 (mxI p p2), .int .i64 (mxI q q2)]]) ?_ hd ⟨rfl, hB.bel⟩
      rw [Array.getD_eq_getD_getElem?] at e4 e5
      simp [results, Tryd.results20, go_sem, e4, e5, r2_0, r2_1, r3_0, r3_1]

end Go.Proofs.YtgjijjdpkmdcgaaDoor
