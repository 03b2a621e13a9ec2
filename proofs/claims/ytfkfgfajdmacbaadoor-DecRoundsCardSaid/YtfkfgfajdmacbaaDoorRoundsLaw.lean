/- cashbooklaw4.DecRounds by its contract: it returns true. Condition: numbers within 64 bits. -/
import Derived.Test.YtfkfgfajdmacbaaDoorOrderA
import Derived.Test.YtfkfgfajdmacbaaDoorRow12
namespace Go.Proofs.YtfkfgfajdmacbaaDoor
open Go.RowKit

set_option maxRecDepth 100000 in
set_option maxHeartbeats 2000000 in
theorem rounds_lo {w : World} {m s p : Int} (hs : s < 0) :
    Calls Tryd.prog 3 #[.agg #[.int .i64 m, .int .i64 s], .int .i64 p] w fun e w' => e = .returned (.bool true) ∧ Below w.heap.size w w' := by
  have HK := Lib.hid (fun W : World => known4_any W)
  have HG : Hid (∀ W : World, Calls Tryd.prog 12 #[.agg #[.int .i64 m, .int .i64 s], .agg #[.int .i64 m, .int .i64 s]] W fun e w' => e = .returned (.bool false) ∧ Below W.heap.size W w') := Lib.hid (fun W => goodF1 (w := W) (show ckE m s = 1 by unfold ckE; rw [if_pos (by omega)]))
  have HX := Lib.hid (show decide ((0 : Int) ≤ s) = false from decide_eq_false (by omega))
  clear hs
  have HB := Lib.hid (sb1 w 23 #[.int .i64 m, .int .i64 s])
  go_enter Tryd.func3, Tryd.ntmps3
  go_wp2_with fail
  refine (HK.out _).mono ?_
  rintro e w1 ⟨rfl, hb⟩
  have HB1 := Lib.hid (HB.out.call hb)
  clear hb HB
  have HB := HB1
  clear HB1
  go_wp2_with fail
  refine wp_region_phases (S := (S1 w 1 ([(w.heap.size, 23, #[.int .i64 m, .int .i64 s])] : List (Nat × TypeId × Array Value)) ([(w.heap.size, 23, #[.int .i64 m, .int .i64 s])] : List (Nat × TypeId × Array Value)))) (E := (fun _ _ => True)) [] [(1, Is (.int .i64 p)), (2, Is (.pointer (some ⟨w.heap.size, 0, none⟩))), (4, Is (.bool false))] [(15, Is (.pointer (some ⟨w.heap.size, 1, none⟩))), (16, Is (.int .i64 s)), (17, Is (.bool false)), (18, Is (.bool false)), (19, Is (undef)), (20, Is (undef)), (21, Is (undef)), (22, Is (.bool false)), (23, Is (.bool false)), (24, Is (undef)), (25, Is (undef)), (26, Is (undef)), (27, Is (undef)), (28, Is (undef)), (29, Is (undef)), (30, Is (undef)), (31, Is (.bool false))]
    [.op [2] none, .op [15] none, .op [16] none, .op [17] none, .op [2, 18] (some (18, true)), .op [19, 18] (some (18, true)), .op [20, 18] (some (18, true)), .op [18, 21] none, .op [22] none, .op [2, 23] (some (23, true)), .op [24, 23] (some (23, true)), .op [25, 23] (some (23, true)), .op [2, 23] (some (23, true)), .op [27, 23] (some (23, true)), .op [28, 23] (some (23, true)), .op [26, 29, 23] (some (23, true)), .op [23, 30] none] (by as_aux_lemma => kernel_rfl) ?_ ?_ ?_ ?_ ?_ ⟨stable_is _ _, stable_is _ _, stable_is _ _, stable_is _ _, stable_is _ _, stable_is _ _, stable_is _ _, stable_is _ _, stable_is _ _, stable_is _ _, stable_is _ _, stable_is _ _, stable_is _ _, stable_is _ _, stable_is _ _, stable_is _ _, stable_is _ _, stable_is _ _, stable_is _ _, stable_is _ _, trivial⟩ ?_ (HB.out.drew) ?_ ?_
  · as_aux_lemma => kernel_rfl
  · as_aux_lemma => kernel_rfl
  · as_aux_lemma => kernel_rfl
  · as_aux_lemma => kernel_rfl
  · as_aux_lemma => kernel_rfl
  · exact ⟨rfl, rfl, rfl, trivial⟩
  · refine ⟨?_, ?_, ?_, ?_, ?_, ?_, ?_, ?_, ?_, ?_, ?_, ?_, ?_, ?_, ?_, ?_, ?_, trivial⟩
    · as_aux_lemma =>
        intro vals a W hS hL
        have e2 : a.tmps.getD 2 undef = .pointer (some ⟨w.heap.size, 0, none⟩) := hL.1
        clear hL
        go_simp
        exact ⟨⟨fun d hd => by injection hd with hd; subst hd; rfl, fun h => by cases h⟩, hS, trivial⟩
    · as_aux_lemma =>
        intro vals a W hS hL
        have e15 : a.tmps.getD 15 undef = .pointer (some ⟨w.heap.size, 1, none⟩) := hL.1
        clear hL
        have kb : Bk W w.heap.size 23 #[.int .i64 m, .int .i64 s] := hS.bk (.head _) (.head _)
        have f1 := kb.cell 1
        clear kb
        go_simp
        exact ⟨⟨fun d hd => by injection hd with hd; subst hd; rfl, fun h => by cases h⟩, hS, trivial⟩
    · as_aux_lemma =>
        intro vals a W hS hL
        have e16 : a.tmps.getD 16 undef = .int .i64 s := hL.1
        clear hL
        have hx := HX.out
        go_simp
        exact ⟨⟨fun d hd => by injection hd with hd; subst hd; rfl, fun h => by cases h⟩, hS, trivial⟩
    · as_aux_lemma =>
        intro vals a W hS hL
        have e17 : a.tmps.getD 17 undef = .bool false := hL.1
        clear hL
        go_simp
        exact ⟨⟨fun d hd => by injection hd with hd; subst hd; rfl, fun h => by cases h⟩, hS, trivial⟩
    · as_aux_lemma =>
        intro vals a W hS hL
        have e2 : a.tmps.getD 2 undef = .pointer (some ⟨w.heap.size, 0, none⟩) := hL.1
        have e18 : a.tmps.getD 18 undef = .bool false := hL.2.1
        clear hL
        refine ⟨false, e18, ?_⟩
        rw [if_neg (by decide)]
        exact ⟨⟨fun d hd => by injection hd with hd; subst hd; rfl, fun h => by cases h⟩, trivial⟩
    · as_aux_lemma =>
        intro vals a W hS hL
        have e19 : a.tmps.getD 19 undef = undef := hL.1
        have e18 : a.tmps.getD 18 undef = .bool false := hL.2.1
        clear hL
        refine ⟨false, e18, ?_⟩
        rw [if_neg (by decide)]
        exact ⟨⟨fun d hd => by injection hd with hd; subst hd; rfl, fun h => by cases h⟩, trivial⟩
    · as_aux_lemma =>
        intro vals a W hS hL
        have e20 : a.tmps.getD 20 undef = undef := hL.1
        have e18 : a.tmps.getD 18 undef = .bool false := hL.2.1
        clear hL
        refine ⟨false, e18, ?_⟩
        rw [if_neg (by decide)]
        exact ⟨⟨fun d hd => by injection hd with hd; subst hd; rfl, fun h => by cases h⟩, trivial⟩
    · as_aux_lemma =>
        intro vals a W hS hL
        have e18 : a.tmps.getD 18 undef = .bool false := hL.1
        have e21 : a.tmps.getD 21 undef = undef := hL.2.1
        clear hL
        go_simp
        exact ⟨⟨fun d hd => by injection hd with hd; subst hd; rfl, fun h => by cases h⟩, hS, trivial⟩
    · as_aux_lemma =>
        intro vals a W hS hL
        have e22 : a.tmps.getD 22 undef = .bool false := hL.1
        clear hL
        go_simp
        exact ⟨⟨fun d hd => by injection hd with hd; subst hd; rfl, fun h => by cases h⟩, hS, trivial⟩
    · as_aux_lemma =>
        intro vals a W hS hL
        have e2 : a.tmps.getD 2 undef = .pointer (some ⟨w.heap.size, 0, none⟩) := hL.1
        have e23 : a.tmps.getD 23 undef = .bool false := hL.2.1
        clear hL
        refine ⟨false, e23, ?_⟩
        rw [if_neg (by decide)]
        exact ⟨⟨fun d hd => by injection hd with hd; subst hd; rfl, fun h => by cases h⟩, trivial⟩
    · as_aux_lemma =>
        intro vals a W hS hL
        have e24 : a.tmps.getD 24 undef = undef := hL.1
        have e23 : a.tmps.getD 23 undef = .bool false := hL.2.1
        clear hL
        refine ⟨false, e23, ?_⟩
        rw [if_neg (by decide)]
        exact ⟨⟨fun d hd => by injection hd with hd; subst hd; rfl, fun h => by cases h⟩, trivial⟩
    · as_aux_lemma =>
        intro vals a W hS hL
        have e25 : a.tmps.getD 25 undef = undef := hL.1
        have e23 : a.tmps.getD 23 undef = .bool false := hL.2.1
        clear hL
        refine ⟨false, e23, ?_⟩
        rw [if_neg (by decide)]
        exact ⟨⟨fun d hd => by injection hd with hd; subst hd; rfl, fun h => by cases h⟩, trivial⟩
    · as_aux_lemma =>
        intro vals a W hS hL
        have e2 : a.tmps.getD 2 undef = .pointer (some ⟨w.heap.size, 0, none⟩) := hL.1
        have e23 : a.tmps.getD 23 undef = .bool false := hL.2.1
        clear hL
        refine ⟨false, e23, ?_⟩
        rw [if_neg (by decide)]
        exact ⟨⟨fun d hd => by injection hd with hd; subst hd; rfl, fun h => by cases h⟩, trivial⟩
    · as_aux_lemma =>
        intro vals a W hS hL
        have e27 : a.tmps.getD 27 undef = undef := hL.1
        have e23 : a.tmps.getD 23 undef = .bool false := hL.2.1
        clear hL
        refine ⟨false, e23, ?_⟩
        rw [if_neg (by decide)]
        exact ⟨⟨fun d hd => by injection hd with hd; subst hd; rfl, fun h => by cases h⟩, trivial⟩
    · as_aux_lemma =>
        intro vals a W hS hL
        have e28 : a.tmps.getD 28 undef = undef := hL.1
        have e23 : a.tmps.getD 23 undef = .bool false := hL.2.1
        clear hL
        refine ⟨false, e23, ?_⟩
        rw [if_neg (by decide)]
        exact ⟨⟨fun d hd => by injection hd with hd; subst hd; rfl, fun h => by cases h⟩, trivial⟩
    · as_aux_lemma =>
        intro vals a W hS hL
        have e26 : a.tmps.getD 26 undef = undef := hL.1
        have e29 : a.tmps.getD 29 undef = undef := hL.2.1
        have e23 : a.tmps.getD 23 undef = .bool false := hL.2.2.1
        clear hL
        refine ⟨false, e23, ?_⟩
        rw [if_neg (by decide)]
        exact ⟨⟨fun d hd => by injection hd with hd; subst hd; rfl, fun h => by cases h⟩, trivial⟩
    · as_aux_lemma =>
        intro vals a W hS hL
        have e23 : a.tmps.getD 23 undef = .bool false := hL.1
        have e30 : a.tmps.getD 30 undef = undef := hL.2.1
        clear hL
        go_simp
        exact ⟨⟨fun d hd => by injection hd with hd; subst hd; rfl, fun h => by cases h⟩, hS, trivial⟩
  · intro a W' vals hd hsz hT hF hv hP hS
    obtain rfl : vals = [] := List.eq_nil_of_length_eq_zero hv
    have hB : SB w 1 ([(w.heap.size, 23, #[.int .i64 m, .int .i64 s])] : List (Nat × TypeId × Array Value)) W' := hS
    clear hS
    have e1 : a.tmps.getD 1 undef = .int .i64 p := hT 1 (by simp)
    have e2 : a.tmps.getD 2 undef = .pointer (some ⟨w.heap.size, 0, none⟩) := hT 2 (by simp)
    have e31 : a.tmps.getD 31 undef = .bool false := hT 31 (by simp)
    clear hT hF hP
    rw [act_lit 80 a hd hsz]
    simp only [List.range, List.range.loop, List.map, e1, e2, e31]
    clear e1 e2 e31
    have HB2 := Lib.hid hB
    clear hB HB
    have HB := HB2
    clear HB2
    have q0 := HB.out.bk _ (List.mem_cons_self ..)
    have c00 := q0.cell 0
    have c01 := q0.cell 1
    clear q0
    go_wp2_with fail
    refine (HG.out _).mono ?_
    rintro e w5 ⟨rfl, hb⟩
    clear c00 c01
    have HB5 := Lib.hid (HB.out.call hb)
    clear hb HB
    have HB := HB5
    clear HB5
    have hbel := HB.out.bel
    go_wp2
    go_ret
    exact ⟨rfl, hbel⟩

set_option maxRecDepth 100000 in
set_option maxHeartbeats 2000000 in
theorem rounds_hi {w : World} {m s p : Int} (hs : 9 < s) :
    Calls Tryd.prog 3 #[.agg #[.int .i64 m, .int .i64 s], .int .i64 p] w fun e w' => e = .returned (.bool true) ∧ Below w.heap.size w w' := by
  have HK := Lib.hid (fun W : World => known4_any W)
  have HG : Hid (∀ W : World, Calls Tryd.prog 12 #[.agg #[.int .i64 m, .int .i64 s], .agg #[.int .i64 m, .int .i64 s]] W fun e w' => e = .returned (.bool false) ∧ Below W.heap.size W w') := Lib.hid (fun W => goodF1 (w := W) (show ckE m s = 1 by unfold ckE; rw [if_pos (by omega)]))
  have HX := Lib.hid (show decide ((0 : Int) ≤ s) = true from decide_eq_true (by omega))
  have HY := Lib.hid (show decide (s ≤ (9 : Int)) = false from decide_eq_false (by omega))
  clear hs
  have HB := Lib.hid (sb1 w 23 #[.int .i64 m, .int .i64 s])
  go_enter Tryd.func3, Tryd.ntmps3
  go_wp2_with fail
  refine (HK.out _).mono ?_
  rintro e w1 ⟨rfl, hb⟩
  have HB1 := Lib.hid (HB.out.call hb)
  clear hb HB
  have HB := HB1
  clear HB1
  go_wp2_with fail
  refine wp_region_phases (S := (S1 w 1 ([(w.heap.size, 23, #[.int .i64 m, .int .i64 s])] : List (Nat × TypeId × Array Value)) ([(w.heap.size, 23, #[.int .i64 m, .int .i64 s])] : List (Nat × TypeId × Array Value)))) (E := (fun _ _ => True)) [] [(1, Is (.int .i64 p)), (2, Is (.pointer (some ⟨w.heap.size, 0, none⟩))), (4, Is (.bool false))] [(15, Is (.pointer (some ⟨w.heap.size, 1, none⟩))), (16, Is (.int .i64 s)), (17, Is (.bool true)), (18, Is (.bool true)), (19, Is (.pointer (some ⟨w.heap.size, 1, none⟩))), (20, Is (.int .i64 s)), (21, Is (.bool false)), (22, Is (.bool false)), (23, Is (.bool false)), (24, Is (undef)), (25, Is (undef)), (26, Is (undef)), (27, Is (undef)), (28, Is (undef)), (29, Is (undef)), (30, Is (undef)), (31, Is (.bool false))]
    [.op [2] none, .op [15] none, .op [16] none, .op [17] none, .op [2, 18] (some (18, true)), .op [19, 18] (some (18, true)), .op [20, 18] (some (18, true)), .op [18, 21] none, .op [22] none, .op [2, 23] (some (23, true)), .op [24, 23] (some (23, true)), .op [25, 23] (some (23, true)), .op [2, 23] (some (23, true)), .op [27, 23] (some (23, true)), .op [28, 23] (some (23, true)), .op [26, 29, 23] (some (23, true)), .op [23, 30] none] (by as_aux_lemma => kernel_rfl) ?_ ?_ ?_ ?_ ?_ ⟨stable_is _ _, stable_is _ _, stable_is _ _, stable_is _ _, stable_is _ _, stable_is _ _, stable_is _ _, stable_is _ _, stable_is _ _, stable_is _ _, stable_is _ _, stable_is _ _, stable_is _ _, stable_is _ _, stable_is _ _, stable_is _ _, stable_is _ _, stable_is _ _, stable_is _ _, stable_is _ _, trivial⟩ ?_ (HB.out.drew) ?_ ?_
  · as_aux_lemma => kernel_rfl
  · as_aux_lemma => kernel_rfl
  · as_aux_lemma => kernel_rfl
  · as_aux_lemma => kernel_rfl
  · as_aux_lemma => kernel_rfl
  · exact ⟨rfl, rfl, rfl, trivial⟩
  · refine ⟨?_, ?_, ?_, ?_, ?_, ?_, ?_, ?_, ?_, ?_, ?_, ?_, ?_, ?_, ?_, ?_, ?_, trivial⟩
    · as_aux_lemma =>
        intro vals a W hS hL
        have e2 : a.tmps.getD 2 undef = .pointer (some ⟨w.heap.size, 0, none⟩) := hL.1
        clear hL
        go_simp
        exact ⟨⟨fun d hd => by injection hd with hd; subst hd; rfl, fun h => by cases h⟩, hS, trivial⟩
    · as_aux_lemma =>
        intro vals a W hS hL
        have e15 : a.tmps.getD 15 undef = .pointer (some ⟨w.heap.size, 1, none⟩) := hL.1
        clear hL
        have kb : Bk W w.heap.size 23 #[.int .i64 m, .int .i64 s] := hS.bk (.head _) (.head _)
        have f1 := kb.cell 1
        clear kb
        go_simp
        exact ⟨⟨fun d hd => by injection hd with hd; subst hd; rfl, fun h => by cases h⟩, hS, trivial⟩
    · as_aux_lemma =>
        intro vals a W hS hL
        have e16 : a.tmps.getD 16 undef = .int .i64 s := hL.1
        clear hL
        have hx := HX.out
        go_simp
        exact ⟨⟨fun d hd => by injection hd with hd; subst hd; rfl, fun h => by cases h⟩, hS, trivial⟩
    · as_aux_lemma =>
        intro vals a W hS hL
        have e17 : a.tmps.getD 17 undef = .bool true := hL.1
        clear hL
        go_simp
        exact ⟨⟨fun d hd => by injection hd with hd; subst hd; rfl, fun h => by cases h⟩, hS, trivial⟩
    · as_aux_lemma =>
        intro vals a W hS hL
        have e2 : a.tmps.getD 2 undef = .pointer (some ⟨w.heap.size, 0, none⟩) := hL.1
        have e18 : a.tmps.getD 18 undef = .bool true := hL.2.1
        clear hL
        refine ⟨true, e18, ?_⟩
        rw [if_pos rfl]
        go_simp
        exact ⟨⟨fun d hd => by injection hd with hd; subst hd; rfl, fun h => by cases h⟩, hS, trivial⟩
    · as_aux_lemma =>
        intro vals a W hS hL
        have e19 : a.tmps.getD 19 undef = .pointer (some ⟨w.heap.size, 1, none⟩) := hL.1
        have e18 : a.tmps.getD 18 undef = .bool true := hL.2.1
        clear hL
        refine ⟨true, e18, ?_⟩
        rw [if_pos rfl]
        have kb : Bk W w.heap.size 23 #[.int .i64 m, .int .i64 s] := hS.bk (.head _) (.head _)
        have f1 := kb.cell 1
        clear kb
        go_simp
        exact ⟨⟨fun d hd => by injection hd with hd; subst hd; rfl, fun h => by cases h⟩, hS, trivial⟩
    · as_aux_lemma =>
        intro vals a W hS hL
        have e20 : a.tmps.getD 20 undef = .int .i64 s := hL.1
        have e18 : a.tmps.getD 18 undef = .bool true := hL.2.1
        clear hL
        refine ⟨true, e18, ?_⟩
        rw [if_pos rfl]
        have hx := HY.out
        go_simp
        exact ⟨⟨fun d hd => by injection hd with hd; subst hd; rfl, fun h => by cases h⟩, hS, trivial⟩
    · as_aux_lemma =>
        intro vals a W hS hL
        have e18 : a.tmps.getD 18 undef = .bool true := hL.1
        have e21 : a.tmps.getD 21 undef = .bool false := hL.2.1
        clear hL
        go_simp
        exact ⟨⟨fun d hd => by injection hd with hd; subst hd; rfl, fun h => by cases h⟩, hS, trivial⟩
    · as_aux_lemma =>
        intro vals a W hS hL
        have e22 : a.tmps.getD 22 undef = .bool false := hL.1
        clear hL
        go_simp
        exact ⟨⟨fun d hd => by injection hd with hd; subst hd; rfl, fun h => by cases h⟩, hS, trivial⟩
    · as_aux_lemma =>
        intro vals a W hS hL
        have e2 : a.tmps.getD 2 undef = .pointer (some ⟨w.heap.size, 0, none⟩) := hL.1
        have e23 : a.tmps.getD 23 undef = .bool false := hL.2.1
        clear hL
        refine ⟨false, e23, ?_⟩
        rw [if_neg (by decide)]
        exact ⟨⟨fun d hd => by injection hd with hd; subst hd; rfl, fun h => by cases h⟩, trivial⟩
    · as_aux_lemma =>
        intro vals a W hS hL
        have e24 : a.tmps.getD 24 undef = undef := hL.1
        have e23 : a.tmps.getD 23 undef = .bool false := hL.2.1
        clear hL
        refine ⟨false, e23, ?_⟩
        rw [if_neg (by decide)]
        exact ⟨⟨fun d hd => by injection hd with hd; subst hd; rfl, fun h => by cases h⟩, trivial⟩
    · as_aux_lemma =>
        intro vals a W hS hL
        have e25 : a.tmps.getD 25 undef = undef := hL.1
        have e23 : a.tmps.getD 23 undef = .bool false := hL.2.1
        clear hL
        refine ⟨false, e23, ?_⟩
        rw [if_neg (by decide)]
        exact ⟨⟨fun d hd => by injection hd with hd; subst hd; rfl, fun h => by cases h⟩, trivial⟩
    · as_aux_lemma =>
        intro vals a W hS hL
        have e2 : a.tmps.getD 2 undef = .pointer (some ⟨w.heap.size, 0, none⟩) := hL.1
        have e23 : a.tmps.getD 23 undef = .bool false := hL.2.1
        clear hL
        refine ⟨false, e23, ?_⟩
        rw [if_neg (by decide)]
        exact ⟨⟨fun d hd => by injection hd with hd; subst hd; rfl, fun h => by cases h⟩, trivial⟩
    · as_aux_lemma =>
        intro vals a W hS hL
        have e27 : a.tmps.getD 27 undef = undef := hL.1
        have e23 : a.tmps.getD 23 undef = .bool false := hL.2.1
        clear hL
        refine ⟨false, e23, ?_⟩
        rw [if_neg (by decide)]
        exact ⟨⟨fun d hd => by injection hd with hd; subst hd; rfl, fun h => by cases h⟩, trivial⟩
    · as_aux_lemma =>
        intro vals a W hS hL
        have e28 : a.tmps.getD 28 undef = undef := hL.1
        have e23 : a.tmps.getD 23 undef = .bool false := hL.2.1
        clear hL
        refine ⟨false, e23, ?_⟩
        rw [if_neg (by decide)]
        exact ⟨⟨fun d hd => by injection hd with hd; subst hd; rfl, fun h => by cases h⟩, trivial⟩
    · as_aux_lemma =>
        intro vals a W hS hL
        have e26 : a.tmps.getD 26 undef = undef := hL.1
        have e29 : a.tmps.getD 29 undef = undef := hL.2.1
        have e23 : a.tmps.getD 23 undef = .bool false := hL.2.2.1
        clear hL
        refine ⟨false, e23, ?_⟩
        rw [if_neg (by decide)]
        exact ⟨⟨fun d hd => by injection hd with hd; subst hd; rfl, fun h => by cases h⟩, trivial⟩
    · as_aux_lemma =>
        intro vals a W hS hL
        have e23 : a.tmps.getD 23 undef = .bool false := hL.1
        have e30 : a.tmps.getD 30 undef = undef := hL.2.1
        clear hL
        go_simp
        exact ⟨⟨fun d hd => by injection hd with hd; subst hd; rfl, fun h => by cases h⟩, hS, trivial⟩
  · intro a W' vals hd hsz hT hF hv hP hS
    obtain rfl : vals = [] := List.eq_nil_of_length_eq_zero hv
    have hB : SB w 1 ([(w.heap.size, 23, #[.int .i64 m, .int .i64 s])] : List (Nat × TypeId × Array Value)) W' := hS
    clear hS
    have e1 : a.tmps.getD 1 undef = .int .i64 p := hT 1 (by simp)
    have e2 : a.tmps.getD 2 undef = .pointer (some ⟨w.heap.size, 0, none⟩) := hT 2 (by simp)
    have e31 : a.tmps.getD 31 undef = .bool false := hT 31 (by simp)
    clear hT hF hP
    rw [act_lit 80 a hd hsz]
    simp only [List.range, List.range.loop, List.map, e1, e2, e31]
    clear e1 e2 e31
    have HB2 := Lib.hid hB
    clear hB HB
    have HB := HB2
    clear HB2
    have q0 := HB.out.bk _ (List.mem_cons_self ..)
    have c00 := q0.cell 0
    have c01 := q0.cell 1
    clear q0
    go_wp2_with fail
    refine (HG.out _).mono ?_
    rintro e w5 ⟨rfl, hb⟩
    clear c00 c01
    have HB5 := Lib.hid (HB.out.call hb)
    clear hb HB
    have HB := HB5
    clear HB5
    have hbel := HB.out.bel
    go_wp2
    go_ret
    exact ⟨rfl, hbel⟩

set_option maxRecDepth 100000 in
set_option maxHeartbeats 4000000 in
theorem rounds_bad {w : World} {m p : Int} {s : Nat} (h0 : -9223372036854775808 ≤ m) (h1 : m ≤ 9223372036854775807) (hs : s ≤ 9) (hc : ckE m s = 1) :
    Calls Tryd.prog 3 #[.agg #[.int .i64 m, .int .i64 (s : Nat)], .int .i64 p] w fun e w' => e = .returned (.bool true) ∧ Below w.heap.size w w' := by
  have HK := Lib.hid (fun W : World => known4_any W)
  have HX := Lib.hid (show decide ((0 : Int) ≤ (s : Int)) = true from decide_eq_true (by omega))
  have HY := Lib.hid (show decide ((s : Int) ≤ (9 : Int)) = true from decide_eq_true (by omega))
  have HN : Hid (∀ W : World, Calls Tryd.prog 10 #[.agg #[.int .i64 m, .int .i64 (s : Nat)]] W fun e w' => e = .returned (.agg #[.int .i64 (tl m s).m, .int .i64 ((tl m s).s : Nat)]) ∧ Below W.heap.size W w') := Lib.hid (fun W => norm_any h0 h1 hs)
  have HM : Hid (∀ W : World, Calls Tryd.prog 11 #[.agg #[.int .i64 m, .int .i64 (s : Nat)]] W fun e w' => e = .returned (.agg #[.int .i64 (tl m s).m, .int .i64 ((tl m s).s : Nat)]) ∧ Below W.heap.size W w') := Lib.hid (fun W => bNorm_any h0 h1 hs)
  have HO1 : Hid (∀ W : World, Calls Tryd.prog 9 #[.agg #[.int .i64 (tl m s).m, .int .i64 ((tl m s).s : Nat)]] W fun e w' => e = .returned (.agg #[.int .i64 (tl m s).m, .int .i64 ((tl m s).s : Nat)]) ∧ Below W.heap.size W w') := Lib.hid (fun W => of_any)
  have HO : Hid (∀ W : World, Calls Tryd.prog 9 #[.agg #[.int .i64 m, .int .i64 (s : Nat)]] W fun e w' => e = .returned (.agg #[.int .i64 m, .int .i64 (s : Nat)]) ∧ Below W.heap.size W w') := Lib.hid (fun W => of_any)
  have HG : Hid (∀ W : World, Calls Tryd.prog 12 #[.agg #[.int .i64 m, .int .i64 (s : Nat)], .agg #[.int .i64 m, .int .i64 (s : Nat)]] W fun e w' => e = .returned (.bool false) ∧ Below W.heap.size W w') := Lib.hid (fun W => goodF1 (w := W) hc)
  clear hc
  clear h0 h1 hs
  generalize (tl m s).m = nm at *
  generalize (tl m s).s = ns at *
  have HB := Lib.hid (sb1 w 23 #[.int .i64 m, .int .i64 (s : Nat)])
  go_enter Tryd.func3, Tryd.ntmps3
  go_wp2_with fail
  refine (HK.out _).mono ?_
  rintro e w1 ⟨rfl, hb⟩
  have HB1 := Lib.hid (HB.out.call hb)
  clear hb HB
  have HB := HB1
  clear HB1
  go_wp2_with fail
  refine wp_region_phases (S := (S1 w 1 ([(w.heap.size, 23, #[.int .i64 m, .int .i64 (s : Nat)])] : List (Nat × TypeId × Array Value)) ([(w.heap.size, 23, #[.int .i64 m, .int .i64 (s : Nat)])] : List (Nat × TypeId × Array Value)))) (E := (fun _ _ => True)) [] [(1, Is (.int .i64 p)), (2, Is (.pointer (some ⟨w.heap.size, 0, none⟩))), (4, Is (.bool false))] [(15, Is (.pointer (some ⟨w.heap.size, 1, none⟩))), (16, Is (.int .i64 (s : Nat))), (17, Is (.bool true)), (18, Is (.bool true)), (19, Is (.pointer (some ⟨w.heap.size, 1, none⟩))), (20, Is (.int .i64 (s : Nat))), (21, Is (.bool true)), (22, Is (.bool true)), (23, Is (.bool true)), (24, Is (.agg #[.int .i64 m, .int .i64 (s : Nat)])), (25, Is (.agg #[.int .i64 nm, .int .i64 (ns : Nat)])), (26, Is (.agg #[.int .i64 nm, .int .i64 (ns : Nat)])), (27, Is (.agg #[.int .i64 m, .int .i64 (s : Nat)])), (28, Is (.agg #[.int .i64 m, .int .i64 (s : Nat)])), (29, Is (.agg #[.int .i64 nm, .int .i64 (ns : Nat)])), (30, Is (.bool false)), (31, Is (.bool false))]
    [.op [2] none, .op [15] none, .op [16] none, .op [17] none, .op [2, 18] (some (18, true)), .op [19, 18] (some (18, true)), .op [20, 18] (some (18, true)), .op [18, 21] none, .op [22] none, .op [2, 23] (some (23, true)), .op [24, 23] (some (23, true)), .op [25, 23] (some (23, true)), .op [2, 23] (some (23, true)), .op [27, 23] (some (23, true)), .op [28, 23] (some (23, true)), .op [26, 29, 23] (some (23, true)), .op [23, 30] none] (by as_aux_lemma => kernel_rfl) ?_ ?_ ?_ ?_ ?_ ⟨stable_is _ _, stable_is _ _, stable_is _ _, stable_is _ _, stable_is _ _, stable_is _ _, stable_is _ _, stable_is _ _, stable_is _ _, stable_is _ _, stable_is _ _, stable_is _ _, stable_is _ _, stable_is _ _, stable_is _ _, stable_is _ _, stable_is _ _, stable_is _ _, stable_is _ _, stable_is _ _, trivial⟩ ?_ (HB.out.drew) ?_ ?_
  · as_aux_lemma => kernel_rfl
  · as_aux_lemma => kernel_rfl
  · as_aux_lemma => kernel_rfl
  · as_aux_lemma => kernel_rfl
  · as_aux_lemma => kernel_rfl
  · exact ⟨rfl, rfl, rfl, trivial⟩
  · refine ⟨?_, ?_, ?_, ?_, ?_, ?_, ?_, ?_, ?_, ?_, ?_, ?_, ?_, ?_, ?_, ?_, ?_, trivial⟩
    · as_aux_lemma =>
        intro vals a W hS hL
        have e2 : a.tmps.getD 2 undef = .pointer (some ⟨w.heap.size, 0, none⟩) := hL.1
        clear hL
        go_simp
        exact ⟨⟨fun d hd => by injection hd with hd; subst hd; rfl, fun h => by cases h⟩, hS, trivial⟩
    · as_aux_lemma =>
        intro vals a W hS hL
        have e15 : a.tmps.getD 15 undef = .pointer (some ⟨w.heap.size, 1, none⟩) := hL.1
        clear hL
        have kb : Bk W w.heap.size 23 #[.int .i64 m, .int .i64 (s : Nat)] := hS.bk (.head _) (.head _)
        have f1 := kb.cell 1
        clear kb
        go_simp
        exact ⟨⟨fun d hd => by injection hd with hd; subst hd; rfl, fun h => by cases h⟩, hS, trivial⟩
    · as_aux_lemma =>
        intro vals a W hS hL
        have e16 : a.tmps.getD 16 undef = .int .i64 (s : Nat) := hL.1
        clear hL
        have hx := HX.out
        go_simp
        exact ⟨⟨fun d hd => by injection hd with hd; subst hd; rfl, fun h => by cases h⟩, hS, trivial⟩
    · as_aux_lemma =>
        intro vals a W hS hL
        have e17 : a.tmps.getD 17 undef = .bool true := hL.1
        clear hL
        go_simp
        exact ⟨⟨fun d hd => by injection hd with hd; subst hd; rfl, fun h => by cases h⟩, hS, trivial⟩
    · as_aux_lemma =>
        intro vals a W hS hL
        have e2 : a.tmps.getD 2 undef = .pointer (some ⟨w.heap.size, 0, none⟩) := hL.1
        have e18 : a.tmps.getD 18 undef = .bool true := hL.2.1
        clear hL
        refine ⟨true, e18, ?_⟩
        rw [if_pos rfl]
        go_simp
        exact ⟨⟨fun d hd => by injection hd with hd; subst hd; rfl, fun h => by cases h⟩, hS, trivial⟩
    · as_aux_lemma =>
        intro vals a W hS hL
        have e19 : a.tmps.getD 19 undef = .pointer (some ⟨w.heap.size, 1, none⟩) := hL.1
        have e18 : a.tmps.getD 18 undef = .bool true := hL.2.1
        clear hL
        refine ⟨true, e18, ?_⟩
        rw [if_pos rfl]
        have kb : Bk W w.heap.size 23 #[.int .i64 m, .int .i64 (s : Nat)] := hS.bk (.head _) (.head _)
        have f1 := kb.cell 1
        clear kb
        go_simp
        exact ⟨⟨fun d hd => by injection hd with hd; subst hd; rfl, fun h => by cases h⟩, hS, trivial⟩
    · as_aux_lemma =>
        intro vals a W hS hL
        have e20 : a.tmps.getD 20 undef = .int .i64 (s : Nat) := hL.1
        have e18 : a.tmps.getD 18 undef = .bool true := hL.2.1
        clear hL
        refine ⟨true, e18, ?_⟩
        rw [if_pos rfl]
        have hx := HY.out
        go_simp
        exact ⟨⟨fun d hd => by injection hd with hd; subst hd; rfl, fun h => by cases h⟩, hS, trivial⟩
    · as_aux_lemma =>
        intro vals a W hS hL
        have e18 : a.tmps.getD 18 undef = .bool true := hL.1
        have e21 : a.tmps.getD 21 undef = .bool true := hL.2.1
        clear hL
        go_simp
        exact ⟨⟨fun d hd => by injection hd with hd; subst hd; rfl, fun h => by cases h⟩, hS, trivial⟩
    · as_aux_lemma =>
        intro vals a W hS hL
        have e22 : a.tmps.getD 22 undef = .bool true := hL.1
        clear hL
        go_simp
        exact ⟨⟨fun d hd => by injection hd with hd; subst hd; rfl, fun h => by cases h⟩, hS, trivial⟩
    · as_aux_lemma =>
        intro vals a W hS hL
        have e2 : a.tmps.getD 2 undef = .pointer (some ⟨w.heap.size, 0, none⟩) := hL.1
        have e23 : a.tmps.getD 23 undef = .bool true := hL.2.1
        clear hL
        refine ⟨true, e23, ?_⟩
        rw [if_pos rfl]
        have kb : Bk W w.heap.size 23 #[.int .i64 m, .int .i64 (s : Nat)] := hS.bk (.head _) (.head _)
        have f0 := kb.cell 0
        have f1 := kb.cell 1
        clear kb
        go_simp
        exact ⟨⟨fun d hd => by injection hd with hd; subst hd; rfl, fun h => by cases h⟩, hS, trivial⟩
    · as_aux_lemma =>
        intro vals a W hS hL
        have e24 : a.tmps.getD 24 undef = .agg #[.int .i64 m, .int .i64 (s : Nat)] := hL.1
        have e23 : a.tmps.getD 23 undef = .bool true := hL.2.1
        clear hL
        refine ⟨true, e23, ?_⟩
        rw [if_pos rfl]
        go_simp
        refine (HN.out W).mono ?_
        rintro e W' ⟨rfl, hb⟩
        exact ⟨_, rfl, ⟨fun d hd => by injection hd with hd; subst hd; rfl, fun h => by cases h⟩, hS.call hb, trivial⟩
    · as_aux_lemma =>
        intro vals a W hS hL
        have e25 : a.tmps.getD 25 undef = .agg #[.int .i64 nm, .int .i64 (ns : Nat)] := hL.1
        have e23 : a.tmps.getD 23 undef = .bool true := hL.2.1
        clear hL
        refine ⟨true, e23, ?_⟩
        rw [if_pos rfl]
        go_simp
        refine (HO1.out W).mono ?_
        rintro e W' ⟨rfl, hb⟩
        exact ⟨_, rfl, ⟨fun d hd => by injection hd with hd; subst hd; rfl, fun h => by cases h⟩, hS.call hb, trivial⟩
    · as_aux_lemma =>
        intro vals a W hS hL
        have e2 : a.tmps.getD 2 undef = .pointer (some ⟨w.heap.size, 0, none⟩) := hL.1
        have e23 : a.tmps.getD 23 undef = .bool true := hL.2.1
        clear hL
        refine ⟨true, e23, ?_⟩
        rw [if_pos rfl]
        have kb : Bk W w.heap.size 23 #[.int .i64 m, .int .i64 (s : Nat)] := hS.bk (.head _) (.head _)
        have f0 := kb.cell 0
        have f1 := kb.cell 1
        clear kb
        go_simp
        exact ⟨⟨fun d hd => by injection hd with hd; subst hd; rfl, fun h => by cases h⟩, hS, trivial⟩
    · as_aux_lemma =>
        intro vals a W hS hL
        have e27 : a.tmps.getD 27 undef = .agg #[.int .i64 m, .int .i64 (s : Nat)] := hL.1
        have e23 : a.tmps.getD 23 undef = .bool true := hL.2.1
        clear hL
        refine ⟨true, e23, ?_⟩
        rw [if_pos rfl]
        go_simp
        refine (HO.out W).mono ?_
        rintro e W' ⟨rfl, hb⟩
        exact ⟨_, rfl, ⟨fun d hd => by injection hd with hd; subst hd; rfl, fun h => by cases h⟩, hS.call hb, trivial⟩
    · as_aux_lemma =>
        intro vals a W hS hL
        have e28 : a.tmps.getD 28 undef = .agg #[.int .i64 m, .int .i64 (s : Nat)] := hL.1
        have e23 : a.tmps.getD 23 undef = .bool true := hL.2.1
        clear hL
        refine ⟨true, e23, ?_⟩
        rw [if_pos rfl]
        go_simp
        refine (HM.out W).mono ?_
        rintro e W' ⟨rfl, hb⟩
        exact ⟨_, rfl, ⟨fun d hd => by injection hd with hd; subst hd; rfl, fun h => by cases h⟩, hS.call hb, trivial⟩
    · as_aux_lemma =>
        intro vals a W hS hL
        have e26 : a.tmps.getD 26 undef = .agg #[.int .i64 nm, .int .i64 (ns : Nat)] := hL.1
        have e29 : a.tmps.getD 29 undef = .agg #[.int .i64 nm, .int .i64 (ns : Nat)] := hL.2.1
        have e23 : a.tmps.getD 23 undef = .bool true := hL.2.2.1
        clear hL
        refine ⟨true, e23, ?_⟩
        rw [if_pos rfl]
        go_simp
        exact ⟨⟨fun d hd => by injection hd with hd; subst hd; rfl, fun h => by cases h⟩, hS, trivial⟩
    · as_aux_lemma =>
        intro vals a W hS hL
        have e23 : a.tmps.getD 23 undef = .bool true := hL.1
        have e30 : a.tmps.getD 30 undef = .bool false := hL.2.1
        clear hL
        go_simp
        exact ⟨⟨fun d hd => by injection hd with hd; subst hd; rfl, fun h => by cases h⟩, hS, trivial⟩
  · intro a W' vals hd hsz hT hF hv hP hS
    obtain rfl : vals = [] := List.eq_nil_of_length_eq_zero hv
    have hB : SB w 1 ([(w.heap.size, 23, #[.int .i64 m, .int .i64 (s : Nat)])] : List (Nat × TypeId × Array Value)) W' := hS
    clear hS
    have e1 : a.tmps.getD 1 undef = .int .i64 p := hT 1 (by simp)
    have e2 : a.tmps.getD 2 undef = .pointer (some ⟨w.heap.size, 0, none⟩) := hT 2 (by simp)
    have e31 : a.tmps.getD 31 undef = .bool false := hT 31 (by simp)
    clear hT hF hP
    rw [act_lit 80 a hd hsz]
    simp only [List.range, List.range.loop, List.map, e1, e2, e31]
    clear e1 e2 e31
    have HB2 := Lib.hid hB
    clear hB HB
    have HB := HB2
    clear HB2
    have q0 := HB.out.bk _ (List.mem_cons_self ..)
    have c00 := q0.cell 0
    have c01 := q0.cell 1
    clear q0
    go_wp2_with fail
    refine (HG.out _).mono ?_
    rintro e w5 ⟨rfl, hb⟩
    clear c00 c01
    have HB5 := Lib.hid (HB.out.call hb)
    clear hb HB
    have HB := HB5
    clear HB5
    have hbel := HB.out.bel
    go_wp2
    go_ret
    exact ⟨rfl, hbel⟩

set_option maxRecDepth 100000 in
set_option maxHeartbeats 4000000 in
theorem rounds_good {w : World} {m p : Int} {s : Nat} (h0 : -9223372036854775808 ≤ m) (h1 : m ≤ 9223372036854775807) (hs : s ≤ 9) (hg : Gd m s) :
    Calls Tryd.prog 3 #[.agg #[.int .i64 m, .int .i64 (s : Nat)], .int .i64 p] w fun e w' => e = .returned (.bool true) ∧ Below w.heap.size w w' := by
  have HK := Lib.hid (fun W : World => known4_any W)
  have HX := Lib.hid (show decide ((0 : Int) ≤ (s : Int)) = true from decide_eq_true (by omega))
  have HY := Lib.hid (show decide ((s : Int) ≤ (9 : Int)) = true from decide_eq_true (by omega))
  have HN : Hid (∀ W : World, Calls Tryd.prog 10 #[.agg #[.int .i64 m, .int .i64 (s : Nat)]] W fun e w' => e = .returned (.agg #[.int .i64 (tl m s).m, .int .i64 ((tl m s).s : Nat)]) ∧ Below W.heap.size W w') := Lib.hid (fun W => norm_any h0 h1 hs)
  have HM : Hid (∀ W : World, Calls Tryd.prog 11 #[.agg #[.int .i64 m, .int .i64 (s : Nat)]] W fun e w' => e = .returned (.agg #[.int .i64 (tl m s).m, .int .i64 ((tl m s).s : Nat)]) ∧ Below W.heap.size W w') := Lib.hid (fun W => bNorm_any h0 h1 hs)
  have HO1 : Hid (∀ W : World, Calls Tryd.prog 9 #[.agg #[.int .i64 (tl m s).m, .int .i64 ((tl m s).s : Nat)]] W fun e w' => e = .returned (.agg #[.int .i64 (tl m s).m, .int .i64 ((tl m s).s : Nat)]) ∧ Below W.heap.size W w') := Lib.hid (fun W => of_any)
  have HO : Hid (∀ W : World, Calls Tryd.prog 9 #[.agg #[.int .i64 m, .int .i64 (s : Nat)]] W fun e w' => e = .returned (.agg #[.int .i64 m, .int .i64 (s : Nat)]) ∧ Below W.heap.size W w') := Lib.hid (fun W => of_any)
  have HG : Hid (∀ W : World, Calls Tryd.prog 12 #[.agg #[.int .i64 m, .int .i64 (s : Nat)], .agg #[.int .i64 m, .int .i64 (s : Nat)]] W fun e w' => e = .returned (.bool true) ∧ Below W.heap.size W w') := Lib.hid (fun W => goodT (w := W) hg.ck hg.ck)
  have HR : Hid (∀ W : World, Calls Tryd.prog 13 #[.agg #[.int .i64 m, .int .i64 (s : Nat)], .int .i64 p] W fun e w' => e = .returned (.tuple #[.agg #[.int .i64 (roundD m s p).m, .int .i64 ((roundD m s p).s : Nat)], .int .i64 ((roundD m s p).e : Nat)]) ∧ Below W.heap.size W w') := Lib.hid (fun W => round_any (w := W) (p := p) hg)
  have HRR : Hid (∀ W : World, Calls Tryd.prog 14 #[.agg #[.int .i64 m, .int .i64 (s : Nat)], .int .i64 p] W fun e w' => e = .returned (.tuple #[.agg #[.int .i64 (roundD m s p).m, .int .i64 ((roundD m s p).s : Nat)], .int .i64 ((roundD m s p).e : Nat)]) ∧ Below W.heap.size W w') := Lib.hid (fun W => roundDec_any h0 h1 hs)
  have HF : Hid (∀ W : World, Calls Tryd.prog 15 #[.agg #[.int .i64 m, .int .i64 (s : Nat)]] W fun e w' => e = .returned (.tuple #[.agg #[.int .i64 (m / 10 ^ s), .int .i64 0], .int .i64 0]) ∧ Below W.heap.size W w') := Lib.hid (fun W => floor_any (w := W) hg)
  have HFF : Hid (∀ W : World, Calls Tryd.prog 16 #[.agg #[.int .i64 m, .int .i64 (s : Nat)]] W fun e w' => e = .returned (.tuple #[.agg #[.int .i64 (m / 10 ^ s), .int .i64 0], .int .i64 0]) ∧ Below W.heap.size W w') := Lib.hid (fun W => floorDec_any h0 h1 hs ⟨(gd_floor hg).lo, (gd_floor hg).hi⟩)
  have HO2 : Hid (∀ W : World, Calls Tryd.prog 9 #[.agg #[.int .i64 (roundD m s p).m, .int .i64 ((roundD m s p).s : Nat)]] W fun e w' => e = .returned (.agg #[.int .i64 (roundD m s p).m, .int .i64 ((roundD m s p).s : Nat)]) ∧ Below W.heap.size W w') := Lib.hid (fun W => of_any)
  have HO3 : Hid (∀ W : World, Calls Tryd.prog 9 #[.agg #[.int .i64 (m / 10 ^ s), .int .i64 0]] W fun e w' => e = .returned (.agg #[.int .i64 (m / 10 ^ s), .int .i64 0]) ∧ Below W.heap.size W w') := Lib.hid (fun W => of_any)
  clear hg
  generalize (roundD m s p).m = rm at *
  generalize (roundD m s p).s = rs at *
  generalize (roundD m s p).e = re at *
  generalize m / 10 ^ s = F at *
  clear h0 h1 hs
  generalize (tl m s).m = nm at *
  generalize (tl m s).s = ns at *
  have HB := Lib.hid (sb1 w 23 #[.int .i64 m, .int .i64 (s : Nat)])
  go_enter Tryd.func3, Tryd.ntmps3
  go_wp2_with fail
  refine (HK.out _).mono ?_
  rintro e w1 ⟨rfl, hb⟩
  have HB1 := Lib.hid (HB.out.call hb)
  clear hb HB
  have HB := HB1
  clear HB1
  go_wp2_with fail
  refine wp_region_phases (S := (S1 w 1 ([(w.heap.size, 23, #[.int .i64 m, .int .i64 (s : Nat)])] : List (Nat × TypeId × Array Value)) ([(w.heap.size, 23, #[.int .i64 m, .int .i64 (s : Nat)])] : List (Nat × TypeId × Array Value)))) (E := (fun _ _ => True)) [] [(1, Is (.int .i64 p)), (2, Is (.pointer (some ⟨w.heap.size, 0, none⟩))), (4, Is (.bool false))] [(15, Is (.pointer (some ⟨w.heap.size, 1, none⟩))), (16, Is (.int .i64 (s : Nat))), (17, Is (.bool true)), (18, Is (.bool true)), (19, Is (.pointer (some ⟨w.heap.size, 1, none⟩))), (20, Is (.int .i64 (s : Nat))), (21, Is (.bool true)), (22, Is (.bool true)), (23, Is (.bool true)), (24, Is (.agg #[.int .i64 m, .int .i64 (s : Nat)])), (25, Is (.agg #[.int .i64 nm, .int .i64 (ns : Nat)])), (26, Is (.agg #[.int .i64 nm, .int .i64 (ns : Nat)])), (27, Is (.agg #[.int .i64 m, .int .i64 (s : Nat)])), (28, Is (.agg #[.int .i64 m, .int .i64 (s : Nat)])), (29, Is (.agg #[.int .i64 nm, .int .i64 (ns : Nat)])), (30, Is (.bool false)), (31, Is (.bool false))]
    [.op [2] none, .op [15] none, .op [16] none, .op [17] none, .op [2, 18] (some (18, true)), .op [19, 18] (some (18, true)), .op [20, 18] (some (18, true)), .op [18, 21] none, .op [22] none, .op [2, 23] (some (23, true)), .op [24, 23] (some (23, true)), .op [25, 23] (some (23, true)), .op [2, 23] (some (23, true)), .op [27, 23] (some (23, true)), .op [28, 23] (some (23, true)), .op [26, 29, 23] (some (23, true)), .op [23, 30] none] (by as_aux_lemma => kernel_rfl) ?_ ?_ ?_ ?_ ?_ ⟨stable_is _ _, stable_is _ _, stable_is _ _, stable_is _ _, stable_is _ _, stable_is _ _, stable_is _ _, stable_is _ _, stable_is _ _, stable_is _ _, stable_is _ _, stable_is _ _, stable_is _ _, stable_is _ _, stable_is _ _, stable_is _ _, stable_is _ _, stable_is _ _, stable_is _ _, stable_is _ _, trivial⟩ ?_ (HB.out.drew) ?_ ?_
  · as_aux_lemma => kernel_rfl
  · as_aux_lemma => kernel_rfl
  · as_aux_lemma => kernel_rfl
  · as_aux_lemma => kernel_rfl
  · as_aux_lemma => kernel_rfl
  · exact ⟨rfl, rfl, rfl, trivial⟩
  · refine ⟨?_, ?_, ?_, ?_, ?_, ?_, ?_, ?_, ?_, ?_, ?_, ?_, ?_, ?_, ?_, ?_, ?_, trivial⟩
    · as_aux_lemma =>
        intro vals a W hS hL
        have e2 : a.tmps.getD 2 undef = .pointer (some ⟨w.heap.size, 0, none⟩) := hL.1
        clear hL
        go_simp
        exact ⟨⟨fun d hd => by injection hd with hd; subst hd; rfl, fun h => by cases h⟩, hS, trivial⟩
    · as_aux_lemma =>
        intro vals a W hS hL
        have e15 : a.tmps.getD 15 undef = .pointer (some ⟨w.heap.size, 1, none⟩) := hL.1
        clear hL
        have kb : Bk W w.heap.size 23 #[.int .i64 m, .int .i64 (s : Nat)] := hS.bk (.head _) (.head _)
        have f1 := kb.cell 1
        clear kb
        go_simp
        exact ⟨⟨fun d hd => by injection hd with hd; subst hd; rfl, fun h => by cases h⟩, hS, trivial⟩
    · as_aux_lemma =>
        intro vals a W hS hL
        have e16 : a.tmps.getD 16 undef = .int .i64 (s : Nat) := hL.1
        clear hL
        have hx := HX.out
        go_simp
        exact ⟨⟨fun d hd => by injection hd with hd; subst hd; rfl, fun h => by cases h⟩, hS, trivial⟩
    · as_aux_lemma =>
        intro vals a W hS hL
        have e17 : a.tmps.getD 17 undef = .bool true := hL.1
        clear hL
        go_simp
        exact ⟨⟨fun d hd => by injection hd with hd; subst hd; rfl, fun h => by cases h⟩, hS, trivial⟩
    · as_aux_lemma =>
        intro vals a W hS hL
        have e2 : a.tmps.getD 2 undef = .pointer (some ⟨w.heap.size, 0, none⟩) := hL.1
        have e18 : a.tmps.getD 18 undef = .bool true := hL.2.1
        clear hL
        refine ⟨true, e18, ?_⟩
        rw [if_pos rfl]
        go_simp
        exact ⟨⟨fun d hd => by injection hd with hd; subst hd; rfl, fun h => by cases h⟩, hS, trivial⟩
    · as_aux_lemma =>
        intro vals a W hS hL
        have e19 : a.tmps.getD 19 undef = .pointer (some ⟨w.heap.size, 1, none⟩) := hL.1
        have e18 : a.tmps.getD 18 undef = .bool true := hL.2.1
        clear hL
        refine ⟨true, e18, ?_⟩
        rw [if_pos rfl]
        have kb : Bk W w.heap.size 23 #[.int .i64 m, .int .i64 (s : Nat)] := hS.bk (.head _) (.head _)
        have f1 := kb.cell 1
        clear kb
        go_simp
        exact ⟨⟨fun d hd => by injection hd with hd; subst hd; rfl, fun h => by cases h⟩, hS, trivial⟩
    · as_aux_lemma =>
        intro vals a W hS hL
        have e20 : a.tmps.getD 20 undef = .int .i64 (s : Nat) := hL.1
        have e18 : a.tmps.getD 18 undef = .bool true := hL.2.1
        clear hL
        refine ⟨true, e18, ?_⟩
        rw [if_pos rfl]
        have hx := HY.out
        go_simp
        exact ⟨⟨fun d hd => by injection hd with hd; subst hd; rfl, fun h => by cases h⟩, hS, trivial⟩
    · as_aux_lemma =>
        intro vals a W hS hL
        have e18 : a.tmps.getD 18 undef = .bool true := hL.1
        have e21 : a.tmps.getD 21 undef = .bool true := hL.2.1
        clear hL
        go_simp
        exact ⟨⟨fun d hd => by injection hd with hd; subst hd; rfl, fun h => by cases h⟩, hS, trivial⟩
    · as_aux_lemma =>
        intro vals a W hS hL
        have e22 : a.tmps.getD 22 undef = .bool true := hL.1
        clear hL
        go_simp
        exact ⟨⟨fun d hd => by injection hd with hd; subst hd; rfl, fun h => by cases h⟩, hS, trivial⟩
    · as_aux_lemma =>
        intro vals a W hS hL
        have e2 : a.tmps.getD 2 undef = .pointer (some ⟨w.heap.size, 0, none⟩) := hL.1
        have e23 : a.tmps.getD 23 undef = .bool true := hL.2.1
        clear hL
        refine ⟨true, e23, ?_⟩
        rw [if_pos rfl]
        have kb : Bk W w.heap.size 23 #[.int .i64 m, .int .i64 (s : Nat)] := hS.bk (.head _) (.head _)
        have f0 := kb.cell 0
        have f1 := kb.cell 1
        clear kb
        go_simp
        exact ⟨⟨fun d hd => by injection hd with hd; subst hd; rfl, fun h => by cases h⟩, hS, trivial⟩
    · as_aux_lemma =>
        intro vals a W hS hL
        have e24 : a.tmps.getD 24 undef = .agg #[.int .i64 m, .int .i64 (s : Nat)] := hL.1
        have e23 : a.tmps.getD 23 undef = .bool true := hL.2.1
        clear hL
        refine ⟨true, e23, ?_⟩
        rw [if_pos rfl]
        go_simp
        refine (HN.out W).mono ?_
        rintro e W' ⟨rfl, hb⟩
        exact ⟨_, rfl, ⟨fun d hd => by injection hd with hd; subst hd; rfl, fun h => by cases h⟩, hS.call hb, trivial⟩
    · as_aux_lemma =>
        intro vals a W hS hL
        have e25 : a.tmps.getD 25 undef = .agg #[.int .i64 nm, .int .i64 (ns : Nat)] := hL.1
        have e23 : a.tmps.getD 23 undef = .bool true := hL.2.1
        clear hL
        refine ⟨true, e23, ?_⟩
        rw [if_pos rfl]
        go_simp
        refine (HO1.out W).mono ?_
        rintro e W' ⟨rfl, hb⟩
        exact ⟨_, rfl, ⟨fun d hd => by injection hd with hd; subst hd; rfl, fun h => by cases h⟩, hS.call hb, trivial⟩
    · as_aux_lemma =>
        intro vals a W hS hL
        have e2 : a.tmps.getD 2 undef = .pointer (some ⟨w.heap.size, 0, none⟩) := hL.1
        have e23 : a.tmps.getD 23 undef = .bool true := hL.2.1
        clear hL
        refine ⟨true, e23, ?_⟩
        rw [if_pos rfl]
        have kb : Bk W w.heap.size 23 #[.int .i64 m, .int .i64 (s : Nat)] := hS.bk (.head _) (.head _)
        have f0 := kb.cell 0
        have f1 := kb.cell 1
        clear kb
        go_simp
        exact ⟨⟨fun d hd => by injection hd with hd; subst hd; rfl, fun h => by cases h⟩, hS, trivial⟩
    · as_aux_lemma =>
        intro vals a W hS hL
        have e27 : a.tmps.getD 27 undef = .agg #[.int .i64 m, .int .i64 (s : Nat)] := hL.1
        have e23 : a.tmps.getD 23 undef = .bool true := hL.2.1
        clear hL
        refine ⟨true, e23, ?_⟩
        rw [if_pos rfl]
        go_simp
        refine (HO.out W).mono ?_
        rintro e W' ⟨rfl, hb⟩
        exact ⟨_, rfl, ⟨fun d hd => by injection hd with hd; subst hd; rfl, fun h => by cases h⟩, hS.call hb, trivial⟩
    · as_aux_lemma =>
        intro vals a W hS hL
        have e28 : a.tmps.getD 28 undef = .agg #[.int .i64 m, .int .i64 (s : Nat)] := hL.1
        have e23 : a.tmps.getD 23 undef = .bool true := hL.2.1
        clear hL
        refine ⟨true, e23, ?_⟩
        rw [if_pos rfl]
        go_simp
        refine (HM.out W).mono ?_
        rintro e W' ⟨rfl, hb⟩
        exact ⟨_, rfl, ⟨fun d hd => by injection hd with hd; subst hd; rfl, fun h => by cases h⟩, hS.call hb, trivial⟩
    · as_aux_lemma =>
        intro vals a W hS hL
        have e26 : a.tmps.getD 26 undef = .agg #[.int .i64 nm, .int .i64 (ns : Nat)] := hL.1
        have e29 : a.tmps.getD 29 undef = .agg #[.int .i64 nm, .int .i64 (ns : Nat)] := hL.2.1
        have e23 : a.tmps.getD 23 undef = .bool true := hL.2.2.1
        clear hL
        refine ⟨true, e23, ?_⟩
        rw [if_pos rfl]
        go_simp
        exact ⟨⟨fun d hd => by injection hd with hd; subst hd; rfl, fun h => by cases h⟩, hS, trivial⟩
    · as_aux_lemma =>
        intro vals a W hS hL
        have e23 : a.tmps.getD 23 undef = .bool true := hL.1
        have e30 : a.tmps.getD 30 undef = .bool false := hL.2.1
        clear hL
        go_simp
        exact ⟨⟨fun d hd => by injection hd with hd; subst hd; rfl, fun h => by cases h⟩, hS, trivial⟩
  · intro a W' vals hd hsz hT hF hv hP hS
    obtain rfl : vals = [] := List.eq_nil_of_length_eq_zero hv
    have hB : SB w 1 ([(w.heap.size, 23, #[.int .i64 m, .int .i64 (s : Nat)])] : List (Nat × TypeId × Array Value)) W' := hS
    clear hS
    have e1 : a.tmps.getD 1 undef = .int .i64 p := hT 1 (by simp)
    have e2 : a.tmps.getD 2 undef = .pointer (some ⟨w.heap.size, 0, none⟩) := hT 2 (by simp)
    have e31 : a.tmps.getD 31 undef = .bool false := hT 31 (by simp)
    clear hT hF hP
    rw [act_lit 80 a hd hsz]
    simp only [List.range, List.range.loop, List.map, e1, e2, e31]
    clear e1 e2 e31
    have HB2 := Lib.hid hB
    clear hB HB
    have HB := HB2
    clear HB2
    have q0 := HB.out.bk _ (List.mem_cons_self ..)
    have c00 := q0.cell 0
    have c01 := q0.cell 1
    clear q0
    go_wp2_with fail
    refine (HG.out _).mono ?_
    rintro e w5 ⟨rfl, hb⟩
    clear c00 c01
    have HB5 := Lib.hid (HB.out.call hb)
    clear hb HB
    have HB := HB5
    clear HB5
    have q0 := HB.out.bk _ (List.mem_cons_self ..)
    have c00 := q0.cell 0
    have c01 := q0.cell 1
    clear q0
    go_wp2_with fail
    refine (HR.out _).mono ?_
    rintro e w6 ⟨rfl, hb⟩
    clear c00 c01
    have HB6 := Lib.hid ((HB.out.call hb).alloc 23 #[.int .i64 rm, .int .i64 (rs : Nat)])
    clear hb HB
    have HB := HB6
    clear HB6
    have q1 := HB.out.bk _ (.tail _ (.head _))
    have c10 := q1.cell 0
    have c11 := q1.cell 1
    clear q1
    go_wp2_with fail
    refine (HO.out _).mono ?_
    rintro e w7 ⟨rfl, hb⟩
    clear c10 c11
    have HB7 := Lib.hid (HB.out.call hb)
    clear hb HB
    have HB := HB7
    clear HB7
    have q1 := HB.out.bk _ (.tail _ (.head _))
    have c10 := q1.cell 0
    have c11 := q1.cell 1
    clear q1
    go_wp2_with fail
    refine (HRR.out _).mono ?_
    rintro e w8 ⟨rfl, hb⟩
    clear c10 c11
    have HB8 := Lib.hid ((HB.out.call hb).alloc 25 #[.int .i64 rm, .int .i64 (rs : Nat)])
    clear hb HB
    have HB := HB8
    clear HB8
    have q2 := HB.out.bk _ (.tail _ (.tail _ (.head _)))
    have c20 := q2.cell 0
    have c21 := q2.cell 1
    clear q2
    go_wp2_with fail
    refine (HF.out _).mono ?_
    rintro e w9 ⟨rfl, hb⟩
    clear c20 c21
    have HB9 := Lib.hid ((HB.out.call hb).alloc 23 #[.int .i64 F, .int .i64 0])
    clear hb HB
    have HB := HB9
    clear HB9
    have q3 := HB.out.bk _ (.tail _ (.tail _ (.tail _ (.head _))))
    have c30 := q3.cell 0
    have c31 := q3.cell 1
    clear q3
    go_wp2_with fail
    refine (HO.out _).mono ?_
    rintro e w10 ⟨rfl, hb⟩
    clear c30 c31
    have HB10 := Lib.hid (HB.out.call hb)
    clear hb HB
    have HB := HB10
    clear HB10
    have q3 := HB.out.bk _ (.tail _ (.tail _ (.tail _ (.head _))))
    have c30 := q3.cell 0
    have c31 := q3.cell 1
    clear q3
    go_wp2_with fail
    refine (HFF.out _).mono ?_
    rintro e w11 ⟨rfl, hb⟩
    clear c30 c31
    have HB11 := Lib.hid ((HB.out.call hb).alloc 25 #[.int .i64 F, .int .i64 0])
    clear hb HB
    have HB := HB11
    clear HB11
    go_wp2_with fail
    refine wp_region_phases (S := (S1 w 1 ([(w11.heap.size, 25, #[.int .i64 F, .int .i64 0]), (w9.heap.size, 23, #[.int .i64 F, .int .i64 0]), (w8.heap.size, 25, #[.int .i64 rm, .int .i64 (rs : Nat)]), (w6.heap.size, 23, #[.int .i64 rm, .int .i64 (rs : Nat)]), (w.heap.size, 23, #[.int .i64 m, .int .i64 (s : Nat)])] : List (Nat × TypeId × Array Value)) ([(w11.heap.size, 25, #[.int .i64 F, .int .i64 0]), (w9.heap.size, 23, #[.int .i64 F, .int .i64 0]), (w8.heap.size, 25, #[.int .i64 rm, .int .i64 (rs : Nat)]), (w6.heap.size, 23, #[.int .i64 rm, .int .i64 (rs : Nat)]), (w.heap.size, 23, #[.int .i64 m, .int .i64 (s : Nat)])] : List (Nat × TypeId × Array Value)))) (E := (fun _ _ => True)) [] [(5, Is (.pointer (some ⟨w6.heap.size, 0, none⟩))), (6, Is (.int .i64 (re : Nat))), (7, Is (.pointer (some ⟨w8.heap.size, 0, none⟩))), (8, Is (.int .i64 (re : Nat))), (9, Is (.pointer (some ⟨w9.heap.size, 0, none⟩))), (10, Is (.int .i64 0)), (11, Is (.pointer (some ⟨w11.heap.size, 0, none⟩))), (12, Is (.int .i64 0))] [(60, Is (.int .i64 (re : Nat))), (61, Is (.int .i64 (re : Nat))), (62, Is (.bool true)), (63, Is (.bool true)), (64, Is (.agg #[.int .i64 rm, .int .i64 (rs : Nat)])), (65, Is (.agg #[.int .i64 rm, .int .i64 (rs : Nat)])), (66, Is (.agg #[.int .i64 rm, .int .i64 (rs : Nat)])), (67, Is (.bool true)), (68, Is (.bool true)), (69, Is (.bool true)), (70, Is (.int .i64 0)), (71, Is (.int .i64 0)), (72, Is (.bool true)), (73, Is (.bool true)), (74, Is (.bool true)), (75, Is (.agg #[.int .i64 F, .int .i64 0])), (76, Is (.agg #[.int .i64 F, .int .i64 0])), (77, Is (.agg #[.int .i64 F, .int .i64 0])), (78, Is (.bool true)), (79, Is (.bool true)), (4, Is (.bool true))]
      [.op [6] none, .op [8] none, .op [60, 61] none, .op [62] none, .op [5, 63] (some (63, true)), .op [64, 63] (some (63, true)), .op [7, 63] (some (63, true)), .op [65, 66, 63] (some (63, true)), .op [63, 67] none, .op [68] none, .op [10, 69] (some (69, true)), .op [12, 69] (some (69, true)), .op [70, 71, 69] (some (69, true)), .op [69, 72] none, .op [73] none, .op [9, 74] (some (74, true)), .op [75, 74] (some (74, true)), .op [11, 74] (some (74, true)), .op [76, 77, 74] (some (74, true)), .op [74, 78] none, .op [79] none] (by as_aux_lemma => kernel_rfl) ?_ ?_ ?_ ?_ ?_ ⟨stable_is _ _, stable_is _ _, stable_is _ _, stable_is _ _, stable_is _ _, stable_is _ _, stable_is _ _, stable_is _ _, stable_is _ _, stable_is _ _, stable_is _ _, stable_is _ _, stable_is _ _, stable_is _ _, stable_is _ _, stable_is _ _, stable_is _ _, stable_is _ _, stable_is _ _, stable_is _ _, stable_is _ _, stable_is _ _, stable_is _ _, stable_is _ _, stable_is _ _, stable_is _ _, stable_is _ _, stable_is _ _, stable_is _ _, trivial⟩ ?_ (HB.out.drew) ?_ ?_
    · as_aux_lemma => kernel_rfl
    · as_aux_lemma => kernel_rfl
    · as_aux_lemma => kernel_rfl
    · as_aux_lemma => kernel_rfl
    · as_aux_lemma => kernel_rfl
    · exact ⟨rfl, rfl, rfl, rfl, rfl, rfl, rfl, rfl, trivial⟩
    · refine ⟨?_, ?_, ?_, ?_, ?_, ?_, ?_, ?_, ?_, ?_, ?_, ?_, ?_, ?_, ?_, ?_, ?_, ?_, ?_, ?_, ?_, trivial⟩
      · as_aux_lemma =>
          intro vals a W hS hL
          have e6 : a.tmps.getD 6 undef = .int .i64 (re : Nat) := hL.1
          clear hL
          go_simp
          exact ⟨⟨fun d hd => by injection hd with hd; subst hd; rfl, fun h => by cases h⟩, hS, trivial⟩
      · as_aux_lemma =>
          intro vals a W hS hL
          have e8 : a.tmps.getD 8 undef = .int .i64 (re : Nat) := hL.1
          clear hL
          go_simp
          exact ⟨⟨fun d hd => by injection hd with hd; subst hd; rfl, fun h => by cases h⟩, hS, trivial⟩
      · as_aux_lemma =>
          intro vals a W hS hL
          have e60 : a.tmps.getD 60 undef = .int .i64 (re : Nat) := hL.1
          have e61 : a.tmps.getD 61 undef = .int .i64 (re : Nat) := hL.2.1
          clear hL
          go_simp
          exact ⟨⟨fun d hd => by injection hd with hd; subst hd; rfl, fun h => by cases h⟩, hS, trivial⟩
      · as_aux_lemma =>
          intro vals a W hS hL
          have e62 : a.tmps.getD 62 undef = .bool true := hL.1
          clear hL
          go_simp
          exact ⟨⟨fun d hd => by injection hd with hd; subst hd; rfl, fun h => by cases h⟩, hS, trivial⟩
      · as_aux_lemma =>
          intro vals a W hS hL
          have e5 : a.tmps.getD 5 undef = .pointer (some ⟨w6.heap.size, 0, none⟩) := hL.1
          have e63 : a.tmps.getD 63 undef = .bool true := hL.2.1
          clear hL
          refine ⟨true, e63, ?_⟩
          rw [if_pos rfl]
          have kb : Bk W w6.heap.size 23 #[.int .i64 rm, .int .i64 (rs : Nat)] := hS.bk (.tail _ (.tail _ (.tail _ (.head _)))) (.tail _ (.tail _ (.tail _ (.head _))))
          have f0 := kb.cell 0
          have f1 := kb.cell 1
          clear kb
          go_simp
          exact ⟨⟨fun d hd => by injection hd with hd; subst hd; rfl, fun h => by cases h⟩, hS, trivial⟩
      · as_aux_lemma =>
          intro vals a W hS hL
          have e64 : a.tmps.getD 64 undef = .agg #[.int .i64 rm, .int .i64 (rs : Nat)] := hL.1
          have e63 : a.tmps.getD 63 undef = .bool true := hL.2.1
          clear hL
          refine ⟨true, e63, ?_⟩
          rw [if_pos rfl]
          go_simp
          refine (HO2.out W).mono ?_
          rintro e W' ⟨rfl, hb⟩
          exact ⟨_, rfl, ⟨fun d hd => by injection hd with hd; subst hd; rfl, fun h => by cases h⟩, hS.call hb, trivial⟩
      · as_aux_lemma =>
          intro vals a W hS hL
          have e7 : a.tmps.getD 7 undef = .pointer (some ⟨w8.heap.size, 0, none⟩) := hL.1
          have e63 : a.tmps.getD 63 undef = .bool true := hL.2.1
          clear hL
          refine ⟨true, e63, ?_⟩
          rw [if_pos rfl]
          have kb : Bk W w8.heap.size 25 #[.int .i64 rm, .int .i64 (rs : Nat)] := hS.bk (.tail _ (.tail _ (.head _))) (.tail _ (.tail _ (.head _)))
          have f0 := kb.cell 0
          have f1 := kb.cell 1
          clear kb
          go_simp
          exact ⟨⟨fun d hd => by injection hd with hd; subst hd; rfl, fun h => by cases h⟩, hS, trivial⟩
      · as_aux_lemma =>
          intro vals a W hS hL
          have e65 : a.tmps.getD 65 undef = .agg #[.int .i64 rm, .int .i64 (rs : Nat)] := hL.1
          have e66 : a.tmps.getD 66 undef = .agg #[.int .i64 rm, .int .i64 (rs : Nat)] := hL.2.1
          have e63 : a.tmps.getD 63 undef = .bool true := hL.2.2.1
          clear hL
          refine ⟨true, e63, ?_⟩
          rw [if_pos rfl]
          go_simp
          exact ⟨⟨fun d hd => by injection hd with hd; subst hd; rfl, fun h => by cases h⟩, hS, trivial⟩
      · as_aux_lemma =>
          intro vals a W hS hL
          have e63 : a.tmps.getD 63 undef = .bool true := hL.1
          have e67 : a.tmps.getD 67 undef = .bool true := hL.2.1
          clear hL
          go_simp
          exact ⟨⟨fun d hd => by injection hd with hd; subst hd; rfl, fun h => by cases h⟩, hS, trivial⟩
      · as_aux_lemma =>
          intro vals a W hS hL
          have e68 : a.tmps.getD 68 undef = .bool true := hL.1
          clear hL
          go_simp
          exact ⟨⟨fun d hd => by injection hd with hd; subst hd; rfl, fun h => by cases h⟩, hS, trivial⟩
      · as_aux_lemma =>
          intro vals a W hS hL
          have e10 : a.tmps.getD 10 undef = .int .i64 0 := hL.1
          have e69 : a.tmps.getD 69 undef = .bool true := hL.2.1
          clear hL
          refine ⟨true, e69, ?_⟩
          rw [if_pos rfl]
          go_simp
          exact ⟨⟨fun d hd => by injection hd with hd; subst hd; rfl, fun h => by cases h⟩, hS, trivial⟩
      · as_aux_lemma =>
          intro vals a W hS hL
          have e12 : a.tmps.getD 12 undef = .int .i64 0 := hL.1
          have e69 : a.tmps.getD 69 undef = .bool true := hL.2.1
          clear hL
          refine ⟨true, e69, ?_⟩
          rw [if_pos rfl]
          go_simp
          exact ⟨⟨fun d hd => by injection hd with hd; subst hd; rfl, fun h => by cases h⟩, hS, trivial⟩
      · as_aux_lemma =>
          intro vals a W hS hL
          have e70 : a.tmps.getD 70 undef = .int .i64 0 := hL.1
          have e71 : a.tmps.getD 71 undef = .int .i64 0 := hL.2.1
          have e69 : a.tmps.getD 69 undef = .bool true := hL.2.2.1
          clear hL
          refine ⟨true, e69, ?_⟩
          rw [if_pos rfl]
          go_simp
          exact ⟨⟨fun d hd => by injection hd with hd; subst hd; rfl, fun h => by cases h⟩, hS, trivial⟩
      · as_aux_lemma =>
          intro vals a W hS hL
          have e69 : a.tmps.getD 69 undef = .bool true := hL.1
          have e72 : a.tmps.getD 72 undef = .bool true := hL.2.1
          clear hL
          go_simp
          exact ⟨⟨fun d hd => by injection hd with hd; subst hd; rfl, fun h => by cases h⟩, hS, trivial⟩
      · as_aux_lemma =>
          intro vals a W hS hL
          have e73 : a.tmps.getD 73 undef = .bool true := hL.1
          clear hL
          go_simp
          exact ⟨⟨fun d hd => by injection hd with hd; subst hd; rfl, fun h => by cases h⟩, hS, trivial⟩
      · as_aux_lemma =>
          intro vals a W hS hL
          have e9 : a.tmps.getD 9 undef = .pointer (some ⟨w9.heap.size, 0, none⟩) := hL.1
          have e74 : a.tmps.getD 74 undef = .bool true := hL.2.1
          clear hL
          refine ⟨true, e74, ?_⟩
          rw [if_pos rfl]
          have kb : Bk W w9.heap.size 23 #[.int .i64 F, .int .i64 0] := hS.bk (.tail _ (.head _)) (.tail _ (.head _))
          have f0 := kb.cell 0
          have f1 := kb.cell 1
          clear kb
          go_simp
          exact ⟨⟨fun d hd => by injection hd with hd; subst hd; rfl, fun h => by cases h⟩, hS, trivial⟩
      · as_aux_lemma =>
          intro vals a W hS hL
          have e75 : a.tmps.getD 75 undef = .agg #[.int .i64 F, .int .i64 0] := hL.1
          have e74 : a.tmps.getD 74 undef = .bool true := hL.2.1
          clear hL
          refine ⟨true, e74, ?_⟩
          rw [if_pos rfl]
          go_simp
          refine (HO3.out W).mono ?_
          rintro e W' ⟨rfl, hb⟩
          exact ⟨_, rfl, ⟨fun d hd => by injection hd with hd; subst hd; rfl, fun h => by cases h⟩, hS.call hb, trivial⟩
      · as_aux_lemma =>
          intro vals a W hS hL
          have e11 : a.tmps.getD 11 undef = .pointer (some ⟨w11.heap.size, 0, none⟩) := hL.1
          have e74 : a.tmps.getD 74 undef = .bool true := hL.2.1
          clear hL
          refine ⟨true, e74, ?_⟩
          rw [if_pos rfl]
          have kb : Bk W w11.heap.size 25 #[.int .i64 F, .int .i64 0] := hS.bk (.head _) (.head _)
          have f0 := kb.cell 0
          have f1 := kb.cell 1
          clear kb
          go_simp
          exact ⟨⟨fun d hd => by injection hd with hd; subst hd; rfl, fun h => by cases h⟩, hS, trivial⟩
      · as_aux_lemma =>
          intro vals a W hS hL
          have e76 : a.tmps.getD 76 undef = .agg #[.int .i64 F, .int .i64 0] := hL.1
          have e77 : a.tmps.getD 77 undef = .agg #[.int .i64 F, .int .i64 0] := hL.2.1
          have e74 : a.tmps.getD 74 undef = .bool true := hL.2.2.1
          clear hL
          refine ⟨true, e74, ?_⟩
          rw [if_pos rfl]
          go_simp
          exact ⟨⟨fun d hd => by injection hd with hd; subst hd; rfl, fun h => by cases h⟩, hS, trivial⟩
      · as_aux_lemma =>
          intro vals a W hS hL
          have e74 : a.tmps.getD 74 undef = .bool true := hL.1
          have e78 : a.tmps.getD 78 undef = .bool true := hL.2.1
          clear hL
          go_simp
          exact ⟨⟨fun d hd => by injection hd with hd; subst hd; rfl, fun h => by cases h⟩, hS, trivial⟩
      · as_aux_lemma =>
          intro vals a W hS hL
          have e79 : a.tmps.getD 79 undef = .bool true := hL.1
          clear hL
          go_simp
          exact ⟨⟨fun d hd => by injection hd with hd; subst hd; rfl, fun h => by cases h⟩, hS, trivial⟩
    · intro a W' vals hd hsz hT hF hv _ hS
      obtain rfl : vals = [] := List.eq_nil_of_length_eq_zero hv
      have hB : SB w 1 ([(w11.heap.size, 25, #[.int .i64 F, .int .i64 0]), (w9.heap.size, 23, #[.int .i64 F, .int .i64 0]), (w8.heap.size, 25, #[.int .i64 rm, .int .i64 (rs : Nat)]), (w6.heap.size, 23, #[.int .i64 rm, .int .i64 (rs : Nat)]), (w.heap.size, 23, #[.int .i64 m, .int .i64 (s : Nat)])] : List (Nat × TypeId × Array Value)) W' := hS
      clear hS
      have e4 : a.tmps.getD 4 undef = .bool true := hT 4 (by simp)
      clear hT hF
      go_wp2
      refine bodyPost_ret (v := .bool true) ?_ hd ⟨rfl, hB.bel⟩
      rw [Array.getD_eq_getD_getElem?] at e4
      simp [results, Tryd.results3, go_sem, e4]

theorem rounds_any {w : World} {m s p : Int} (h0 : -9223372036854775808 ≤ m) (h1 : m ≤ 9223372036854775807) :
    Calls Tryd.prog 3 #[.agg #[.int .i64 m, .int .i64 s], .int .i64 p] w fun e w' => e = .returned (.bool true) ∧ Below w.heap.size w w' := by
  by_cases hl : s < 0
  · exact rounds_lo hl
  · by_cases hh : 9 < s
    · exact rounds_hi hh
    · obtain ⟨t, rfl⟩ := Int.eq_ofNat_of_zero_le (show 0 ≤ s by omega)
      rcases ckE_cases m (t : Int) with hc | hc
      · obtain ⟨t', ht, hg⟩ := gd_of hc h0 h1
        obtain rfl : t = t' := by omega
        exact rounds_good h0 h1 (by omega) hg
      · exact rounds_bad h0 h1 (by omega) hc
end Go.Proofs.YtfkfgfajdmacbaaDoor
