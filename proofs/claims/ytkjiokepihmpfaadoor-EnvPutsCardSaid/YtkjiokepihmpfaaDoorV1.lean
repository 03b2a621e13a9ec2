/- val.Check by its contract. Condition: utf8.ValidString keeps its contract (its tables are laid). -/
import Derived.Test.YtkjiokepihmpfaaDoorV0
import Derived.Test.YtkjiokepihmpfaaDoorUnits
import Derived.Test.YtkjiokepihmpfaaDoorBox8
set_option linter.unusedVariables false
set_option linter.unusedSimpArgs false
namespace Go.Proofs.YtkjiokepihmpfaaDoor
open Go.RowKit

set_option maxRecDepth 20000 in
theorem check_bad_num {w : World} (m s : Int) (t : ByteArray) (b : Bool) (e : Int) (h : ¬ (t.toList = [] ∧ b = false ∧ e = 0)) :
    Calls Tryd.prog 14 #[.agg #[.int .i64 1, .int .i64 m, .int .i64 s, .string t, .bool b, .int .i64 e]] w fun x w' => x = .returned (.int .i64 1) ∧ Below w.heap.size w w' := by
  have HO := Lib.hid (fun W : World => own_num (w := W) m s t b e)
  have HB := Lib.hid (sb1 w 32 #[.int .i64 1, .int .i64 m, .int .i64 s, .string t, .bool b, .int .i64 e])
  go_enter Tryd.func14, Tryd.ntmps14
  go_wp2_with fail
  refine wp_region_phases (S := (fun vals W => SX w 1 ([] : List Stp) vals ([(w.heap.size, 32, #[.int .i64 1, .int .i64 m, .int .i64 s, .string t, .bool b, .int .i64 e])] : List (Nat × TypeId × Array Value)) W)) (E := (fun _ _ => True)) [] [(1, Is (.pointer (some ⟨w.heap.size, 0, none⟩)))] [(5, Is (.agg #[.int .i64 1, .int .i64 m, .int .i64 s, .string t, .bool b, .int .i64 e])), (6, Is (.agg #[.int .i64 1, .int .i64 m, .int .i64 s, .string t, .bool b, .int .i64 e])), (7, Is (.agg #[.int .i64 1, .int .i64 m, .int .i64 s, .string ⟨#[]⟩, .bool false, .int .i64 0])), (8, Is (.bool true))]
    [.op [1] none, .op [1] none, .op [6] none, .op [5, 7] none] (by as_aux_lemma => kernel_rfl) ?_ ?_ ?_ ?_ ?_ ⟨stable_is _ _, stable_is _ _, stable_is _ _, stable_is _ _, stable_is _ _, trivial⟩ ?_ (HB.out.drew) ?_ ?_
  · as_aux_lemma => kernel_rfl
  · as_aux_lemma => kernel_rfl
  · as_aux_lemma => kernel_rfl
  · as_aux_lemma => kernel_rfl
  · as_aux_lemma => kernel_rfl
  · exact ⟨rfl, trivial⟩
  · refine ⟨?_, ?_, ?_, ?_, trivial⟩
    · as_aux_lemma =>
        intro vals a W hS hL
        have e1 : a.tmps.getD 1 undef = .pointer (some ⟨w.heap.size, 0, none⟩) := hL.1
        clear hL
        have kb : Bk W (w.heap.size) 32 #[.int .i64 1, .int .i64 m, .int .i64 s, .string t, .bool b, .int .i64 e] := hS.bk 0 rfl rfl
        have f0 := kb.cell 0
        have f1 := kb.cell 1
        have f2 := kb.cell 2
        have f3 := kb.cell 3
        have f4 := kb.cell 4
        have f5 := kb.cell 5
        clear kb
        go_simp
        exact ⟨⟨fun d hd => by injection hd with hd; subst hd; rfl, fun h => by cases h⟩, hS, trivial⟩
    · as_aux_lemma =>
        intro vals a W hS hL
        have e1 : a.tmps.getD 1 undef = .pointer (some ⟨w.heap.size, 0, none⟩) := hL.1
        clear hL
        have kb : Bk W (w.heap.size) 32 #[.int .i64 1, .int .i64 m, .int .i64 s, .string t, .bool b, .int .i64 e] := hS.bk 0 rfl rfl
        have f0 := kb.cell 0
        have f1 := kb.cell 1
        have f2 := kb.cell 2
        have f3 := kb.cell 3
        have f4 := kb.cell 4
        have f5 := kb.cell 5
        clear kb
        go_simp
        exact ⟨⟨fun d hd => by injection hd with hd; subst hd; rfl, fun h => by cases h⟩, hS, trivial⟩
    · as_aux_lemma =>
        intro vals a W hS hL
        have e6 : a.tmps.getD 6 undef = .agg #[.int .i64 1, .int .i64 m, .int .i64 s, .string t, .bool b, .int .i64 e] := hL.1
        clear hL
        go_simp
        refine (HO.out W).mono ?_
        rintro e W' ⟨rfl, hb⟩
        exact ⟨_, rfl, ⟨fun d hd => by injection hd with hd; subst hd; rfl, fun h => by cases h⟩, hS.call hb, trivial⟩
    · as_aux_lemma =>
        intro vals a W hS hL
        have e5 : a.tmps.getD 5 undef = .agg #[.int .i64 1, .int .i64 m, .int .i64 s, .string t, .bool b, .int .i64 e] := hL.1
        have e7 : a.tmps.getD 7 undef = .agg #[.int .i64 1, .int .i64 m, .int .i64 s, .string ⟨#[]⟩, .bool false, .int .i64 0] := hL.2.1
        clear hL
        rw [Array.getD_eq_getD_getElem?] at e5 e7
        go_simp
        repeat' split
        all_goals first | exact ⟨⟨fun d hd => by injection hd with hd; subst hd; rfl, fun h => by cases h⟩, hS, trivial⟩ | (exfalso; simp_all)
  · intro a W' vals hd hsz hT hF hv hP hS
    obtain rfl : vals = [] := List.eq_nil_of_length_eq_zero hv
    have hS2 : SX w 1 ([] : List Stp) [] ([(w.heap.size, 32, #[.int .i64 1, .int .i64 m, .int .i64 s, .string t, .bool b, .int .i64 e])] : List (Nat × TypeId × Array Value)) W' := hS
    clear hS
    have hB0 := hS2
    have hB : SB w 1 ([(w.heap.size, 32, #[.int .i64 1, .int .i64 m, .int .i64 s, .string t, .bool b, .int .i64 e])] : List (Nat × TypeId × Array Value)) W' := hB0
    clear hB0
    have e1 : a.tmps.getD 1 undef = .pointer (some ⟨w.heap.size, 0, none⟩) := hT 1 (by simp)
    have e8 : a.tmps.getD 8 undef = .bool true := hT 8 (by simp)
    clear hT hF hP
    rw [act_lit 34 a hd hsz]
    simp only [List.range, List.range.loop, List.map, e1, e8]
    clear hd hsz e1 e8
    go_wp2
    go_ret
    exact ⟨rfl, hB.bel⟩
set_option maxRecDepth 20000 in
theorem check_bad_str {w : World} (m s : Int) (t : ByteArray) (b : Bool) (e : Int) (h : ¬ (m = 0 ∧ s = 0 ∧ b = false ∧ e = 0)) :
    Calls Tryd.prog 14 #[.agg #[.int .i64 2, .int .i64 m, .int .i64 s, .string t, .bool b, .int .i64 e]] w fun x w' => x = .returned (.int .i64 1) ∧ Below w.heap.size w w' := by
  have HO := Lib.hid (fun W : World => own_str (w := W) m s t b e)
  have HB := Lib.hid (sb1 w 32 #[.int .i64 2, .int .i64 m, .int .i64 s, .string t, .bool b, .int .i64 e])
  go_enter Tryd.func14, Tryd.ntmps14
  go_wp2_with fail
  refine wp_region_phases (S := (fun vals W => SX w 1 ([] : List Stp) vals ([(w.heap.size, 32, #[.int .i64 2, .int .i64 m, .int .i64 s, .string t, .bool b, .int .i64 e])] : List (Nat × TypeId × Array Value)) W)) (E := (fun _ _ => True)) [] [(1, Is (.pointer (some ⟨w.heap.size, 0, none⟩)))] [(5, Is (.agg #[.int .i64 2, .int .i64 m, .int .i64 s, .string t, .bool b, .int .i64 e])), (6, Is (.agg #[.int .i64 2, .int .i64 m, .int .i64 s, .string t, .bool b, .int .i64 e])), (7, Is (.agg #[.int .i64 2, .int .i64 0, .int .i64 0, .string t, .bool false, .int .i64 0])), (8, Is (.bool true))]
    [.op [1] none, .op [1] none, .op [6] none, .op [5, 7] none] (by as_aux_lemma => kernel_rfl) ?_ ?_ ?_ ?_ ?_ ⟨stable_is _ _, stable_is _ _, stable_is _ _, stable_is _ _, stable_is _ _, trivial⟩ ?_ (HB.out.drew) ?_ ?_
  · as_aux_lemma => kernel_rfl
  · as_aux_lemma => kernel_rfl
  · as_aux_lemma => kernel_rfl
  · as_aux_lemma => kernel_rfl
  · as_aux_lemma => kernel_rfl
  · exact ⟨rfl, trivial⟩
  · refine ⟨?_, ?_, ?_, ?_, trivial⟩
    · as_aux_lemma =>
        intro vals a W hS hL
        have e1 : a.tmps.getD 1 undef = .pointer (some ⟨w.heap.size, 0, none⟩) := hL.1
        clear hL
        have kb : Bk W (w.heap.size) 32 #[.int .i64 2, .int .i64 m, .int .i64 s, .string t, .bool b, .int .i64 e] := hS.bk 0 rfl rfl
        have f0 := kb.cell 0
        have f1 := kb.cell 1
        have f2 := kb.cell 2
        have f3 := kb.cell 3
        have f4 := kb.cell 4
        have f5 := kb.cell 5
        clear kb
        go_simp
        exact ⟨⟨fun d hd => by injection hd with hd; subst hd; rfl, fun h => by cases h⟩, hS, trivial⟩
    · as_aux_lemma =>
        intro vals a W hS hL
        have e1 : a.tmps.getD 1 undef = .pointer (some ⟨w.heap.size, 0, none⟩) := hL.1
        clear hL
        have kb : Bk W (w.heap.size) 32 #[.int .i64 2, .int .i64 m, .int .i64 s, .string t, .bool b, .int .i64 e] := hS.bk 0 rfl rfl
        have f0 := kb.cell 0
        have f1 := kb.cell 1
        have f2 := kb.cell 2
        have f3 := kb.cell 3
        have f4 := kb.cell 4
        have f5 := kb.cell 5
        clear kb
        go_simp
        exact ⟨⟨fun d hd => by injection hd with hd; subst hd; rfl, fun h => by cases h⟩, hS, trivial⟩
    · as_aux_lemma =>
        intro vals a W hS hL
        have e6 : a.tmps.getD 6 undef = .agg #[.int .i64 2, .int .i64 m, .int .i64 s, .string t, .bool b, .int .i64 e] := hL.1
        clear hL
        go_simp
        refine (HO.out W).mono ?_
        rintro e W' ⟨rfl, hb⟩
        exact ⟨_, rfl, ⟨fun d hd => by injection hd with hd; subst hd; rfl, fun h => by cases h⟩, hS.call hb, trivial⟩
    · as_aux_lemma =>
        intro vals a W hS hL
        have e5 : a.tmps.getD 5 undef = .agg #[.int .i64 2, .int .i64 m, .int .i64 s, .string t, .bool b, .int .i64 e] := hL.1
        have e7 : a.tmps.getD 7 undef = .agg #[.int .i64 2, .int .i64 0, .int .i64 0, .string t, .bool false, .int .i64 0] := hL.2.1
        clear hL
        rw [Array.getD_eq_getD_getElem?] at e5 e7
        go_simp
        repeat' split
        all_goals first | exact ⟨⟨fun d hd => by injection hd with hd; subst hd; rfl, fun h => by cases h⟩, hS, trivial⟩ | (exfalso; simp_all)
  · intro a W' vals hd hsz hT hF hv hP hS
    obtain rfl : vals = [] := List.eq_nil_of_length_eq_zero hv
    have hS2 : SX w 1 ([] : List Stp) [] ([(w.heap.size, 32, #[.int .i64 2, .int .i64 m, .int .i64 s, .string t, .bool b, .int .i64 e])] : List (Nat × TypeId × Array Value)) W' := hS
    clear hS
    have hB0 := hS2
    have hB : SB w 1 ([(w.heap.size, 32, #[.int .i64 2, .int .i64 m, .int .i64 s, .string t, .bool b, .int .i64 e])] : List (Nat × TypeId × Array Value)) W' := hB0
    clear hB0
    have e1 : a.tmps.getD 1 undef = .pointer (some ⟨w.heap.size, 0, none⟩) := hT 1 (by simp)
    have e8 : a.tmps.getD 8 undef = .bool true := hT 8 (by simp)
    clear hT hF hP
    rw [act_lit 34 a hd hsz]
    simp only [List.range, List.range.loop, List.map, e1, e8]
    clear hd hsz e1 e8
    go_wp2
    go_ret
    exact ⟨rfl, hB.bel⟩
set_option maxRecDepth 20000 in
theorem check_bad_bool {w : World} (m s : Int) (t : ByteArray) (b : Bool) (e : Int) (h : ¬ (m = 0 ∧ s = 0 ∧ t.toList = [] ∧ e = 0)) :
    Calls Tryd.prog 14 #[.agg #[.int .i64 3, .int .i64 m, .int .i64 s, .string t, .bool b, .int .i64 e]] w fun x w' => x = .returned (.int .i64 1) ∧ Below w.heap.size w w' := by
  have HO := Lib.hid (fun W : World => own_bool (w := W) m s t b e)
  have HB := Lib.hid (sb1 w 32 #[.int .i64 3, .int .i64 m, .int .i64 s, .string t, .bool b, .int .i64 e])
  go_enter Tryd.func14, Tryd.ntmps14
  go_wp2_with fail
  refine wp_region_phases (S := (fun vals W => SX w 1 ([] : List Stp) vals ([(w.heap.size, 32, #[.int .i64 3, .int .i64 m, .int .i64 s, .string t, .bool b, .int .i64 e])] : List (Nat × TypeId × Array Value)) W)) (E := (fun _ _ => True)) [] [(1, Is (.pointer (some ⟨w.heap.size, 0, none⟩)))] [(5, Is (.agg #[.int .i64 3, .int .i64 m, .int .i64 s, .string t, .bool b, .int .i64 e])), (6, Is (.agg #[.int .i64 3, .int .i64 m, .int .i64 s, .string t, .bool b, .int .i64 e])), (7, Is (.agg #[.int .i64 3, .int .i64 0, .int .i64 0, .string ⟨#[]⟩, .bool b, .int .i64 0])), (8, Is (.bool true))]
    [.op [1] none, .op [1] none, .op [6] none, .op [5, 7] none] (by as_aux_lemma => kernel_rfl) ?_ ?_ ?_ ?_ ?_ ⟨stable_is _ _, stable_is _ _, stable_is _ _, stable_is _ _, stable_is _ _, trivial⟩ ?_ (HB.out.drew) ?_ ?_
  · as_aux_lemma => kernel_rfl
  · as_aux_lemma => kernel_rfl
  · as_aux_lemma => kernel_rfl
  · as_aux_lemma => kernel_rfl
  · as_aux_lemma => kernel_rfl
  · exact ⟨rfl, trivial⟩
  · refine ⟨?_, ?_, ?_, ?_, trivial⟩
    · as_aux_lemma =>
        intro vals a W hS hL
        have e1 : a.tmps.getD 1 undef = .pointer (some ⟨w.heap.size, 0, none⟩) := hL.1
        clear hL
        have kb : Bk W (w.heap.size) 32 #[.int .i64 3, .int .i64 m, .int .i64 s, .string t, .bool b, .int .i64 e] := hS.bk 0 rfl rfl
        have f0 := kb.cell 0
        have f1 := kb.cell 1
        have f2 := kb.cell 2
        have f3 := kb.cell 3
        have f4 := kb.cell 4
        have f5 := kb.cell 5
        clear kb
        go_simp
        exact ⟨⟨fun d hd => by injection hd with hd; subst hd; rfl, fun h => by cases h⟩, hS, trivial⟩
    · as_aux_lemma =>
        intro vals a W hS hL
        have e1 : a.tmps.getD 1 undef = .pointer (some ⟨w.heap.size, 0, none⟩) := hL.1
        clear hL
        have kb : Bk W (w.heap.size) 32 #[.int .i64 3, .int .i64 m, .int .i64 s, .string t, .bool b, .int .i64 e] := hS.bk 0 rfl rfl
        have f0 := kb.cell 0
        have f1 := kb.cell 1
        have f2 := kb.cell 2
        have f3 := kb.cell 3
        have f4 := kb.cell 4
        have f5 := kb.cell 5
        clear kb
        go_simp
        exact ⟨⟨fun d hd => by injection hd with hd; subst hd; rfl, fun h => by cases h⟩, hS, trivial⟩
    · as_aux_lemma =>
        intro vals a W hS hL
        have e6 : a.tmps.getD 6 undef = .agg #[.int .i64 3, .int .i64 m, .int .i64 s, .string t, .bool b, .int .i64 e] := hL.1
        clear hL
        go_simp
        refine (HO.out W).mono ?_
        rintro e W' ⟨rfl, hb⟩
        exact ⟨_, rfl, ⟨fun d hd => by injection hd with hd; subst hd; rfl, fun h => by cases h⟩, hS.call hb, trivial⟩
    · as_aux_lemma =>
        intro vals a W hS hL
        have e5 : a.tmps.getD 5 undef = .agg #[.int .i64 3, .int .i64 m, .int .i64 s, .string t, .bool b, .int .i64 e] := hL.1
        have e7 : a.tmps.getD 7 undef = .agg #[.int .i64 3, .int .i64 0, .int .i64 0, .string ⟨#[]⟩, .bool b, .int .i64 0] := hL.2.1
        clear hL
        rw [Array.getD_eq_getD_getElem?] at e5 e7
        go_simp
        repeat' split
        all_goals first | exact ⟨⟨fun d hd => by injection hd with hd; subst hd; rfl, fun h => by cases h⟩, hS, trivial⟩ | (exfalso; simp_all)
  · intro a W' vals hd hsz hT hF hv hP hS
    obtain rfl : vals = [] := List.eq_nil_of_length_eq_zero hv
    have hS2 : SX w 1 ([] : List Stp) [] ([(w.heap.size, 32, #[.int .i64 3, .int .i64 m, .int .i64 s, .string t, .bool b, .int .i64 e])] : List (Nat × TypeId × Array Value)) W' := hS
    clear hS
    have hB0 := hS2
    have hB : SB w 1 ([(w.heap.size, 32, #[.int .i64 3, .int .i64 m, .int .i64 s, .string t, .bool b, .int .i64 e])] : List (Nat × TypeId × Array Value)) W' := hB0
    clear hB0
    have e1 : a.tmps.getD 1 undef = .pointer (some ⟨w.heap.size, 0, none⟩) := hT 1 (by simp)
    have e8 : a.tmps.getD 8 undef = .bool true := hT 8 (by simp)
    clear hT hF hP
    rw [act_lit 34 a hd hsz]
    simp only [List.range, List.range.loop, List.map, e1, e8]
    clear hd hsz e1 e8
    go_wp2
    go_ret
    exact ⟨rfl, hB.bel⟩
set_option maxRecDepth 20000 in
theorem check_bad_err {w : World} (m s : Int) (t : ByteArray) (b : Bool) (e : Int) (h : ¬ (m = 0 ∧ s = 0 ∧ t.toList = [] ∧ b = false)) :
    Calls Tryd.prog 14 #[.agg #[.int .i64 4, .int .i64 m, .int .i64 s, .string t, .bool b, .int .i64 e]] w fun x w' => x = .returned (.int .i64 1) ∧ Below w.heap.size w w' := by
  have HO := Lib.hid (fun W : World => own_err (w := W) m s t b e)
  have HB := Lib.hid (sb1 w 32 #[.int .i64 4, .int .i64 m, .int .i64 s, .string t, .bool b, .int .i64 e])
  go_enter Tryd.func14, Tryd.ntmps14
  go_wp2_with fail
  refine wp_region_phases (S := (fun vals W => SX w 1 ([] : List Stp) vals ([(w.heap.size, 32, #[.int .i64 4, .int .i64 m, .int .i64 s, .string t, .bool b, .int .i64 e])] : List (Nat × TypeId × Array Value)) W)) (E := (fun _ _ => True)) [] [(1, Is (.pointer (some ⟨w.heap.size, 0, none⟩)))] [(5, Is (.agg #[.int .i64 4, .int .i64 m, .int .i64 s, .string t, .bool b, .int .i64 e])), (6, Is (.agg #[.int .i64 4, .int .i64 m, .int .i64 s, .string t, .bool b, .int .i64 e])), (7, Is (.agg #[.int .i64 4, .int .i64 0, .int .i64 0, .string ⟨#[]⟩, .bool false, .int .i64 e])), (8, Is (.bool true))]
    [.op [1] none, .op [1] none, .op [6] none, .op [5, 7] none] (by as_aux_lemma => kernel_rfl) ?_ ?_ ?_ ?_ ?_ ⟨stable_is _ _, stable_is _ _, stable_is _ _, stable_is _ _, stable_is _ _, trivial⟩ ?_ (HB.out.drew) ?_ ?_
  · as_aux_lemma => kernel_rfl
  · as_aux_lemma => kernel_rfl
  · as_aux_lemma => kernel_rfl
  · as_aux_lemma => kernel_rfl
  · as_aux_lemma => kernel_rfl
  · exact ⟨rfl, trivial⟩
  · refine ⟨?_, ?_, ?_, ?_, trivial⟩
    · as_aux_lemma =>
        intro vals a W hS hL
        have e1 : a.tmps.getD 1 undef = .pointer (some ⟨w.heap.size, 0, none⟩) := hL.1
        clear hL
        have kb : Bk W (w.heap.size) 32 #[.int .i64 4, .int .i64 m, .int .i64 s, .string t, .bool b, .int .i64 e] := hS.bk 0 rfl rfl
        have f0 := kb.cell 0
        have f1 := kb.cell 1
        have f2 := kb.cell 2
        have f3 := kb.cell 3
        have f4 := kb.cell 4
        have f5 := kb.cell 5
        clear kb
        go_simp
        exact ⟨⟨fun d hd => by injection hd with hd; subst hd; rfl, fun h => by cases h⟩, hS, trivial⟩
    · as_aux_lemma =>
        intro vals a W hS hL
        have e1 : a.tmps.getD 1 undef = .pointer (some ⟨w.heap.size, 0, none⟩) := hL.1
        clear hL
        have kb : Bk W (w.heap.size) 32 #[.int .i64 4, .int .i64 m, .int .i64 s, .string t, .bool b, .int .i64 e] := hS.bk 0 rfl rfl
        have f0 := kb.cell 0
        have f1 := kb.cell 1
        have f2 := kb.cell 2
        have f3 := kb.cell 3
        have f4 := kb.cell 4
        have f5 := kb.cell 5
        clear kb
        go_simp
        exact ⟨⟨fun d hd => by injection hd with hd; subst hd; rfl, fun h => by cases h⟩, hS, trivial⟩
    · as_aux_lemma =>
        intro vals a W hS hL
        have e6 : a.tmps.getD 6 undef = .agg #[.int .i64 4, .int .i64 m, .int .i64 s, .string t, .bool b, .int .i64 e] := hL.1
        clear hL
        go_simp
        refine (HO.out W).mono ?_
        rintro e W' ⟨rfl, hb⟩
        exact ⟨_, rfl, ⟨fun d hd => by injection hd with hd; subst hd; rfl, fun h => by cases h⟩, hS.call hb, trivial⟩
    · as_aux_lemma =>
        intro vals a W hS hL
        have e5 : a.tmps.getD 5 undef = .agg #[.int .i64 4, .int .i64 m, .int .i64 s, .string t, .bool b, .int .i64 e] := hL.1
        have e7 : a.tmps.getD 7 undef = .agg #[.int .i64 4, .int .i64 0, .int .i64 0, .string ⟨#[]⟩, .bool false, .int .i64 e] := hL.2.1
        clear hL
        rw [Array.getD_eq_getD_getElem?] at e5 e7
        go_simp
        repeat' split
        all_goals first | exact ⟨⟨fun d hd => by injection hd with hd; subst hd; rfl, fun h => by cases h⟩, hS, trivial⟩ | (exfalso; simp_all)
  · intro a W' vals hd hsz hT hF hv hP hS
    obtain rfl : vals = [] := List.eq_nil_of_length_eq_zero hv
    have hS2 : SX w 1 ([] : List Stp) [] ([(w.heap.size, 32, #[.int .i64 4, .int .i64 m, .int .i64 s, .string t, .bool b, .int .i64 e])] : List (Nat × TypeId × Array Value)) W' := hS
    clear hS
    have hB0 := hS2
    have hB : SB w 1 ([(w.heap.size, 32, #[.int .i64 4, .int .i64 m, .int .i64 s, .string t, .bool b, .int .i64 e])] : List (Nat × TypeId × Array Value)) W' := hB0
    clear hB0
    have e1 : a.tmps.getD 1 undef = .pointer (some ⟨w.heap.size, 0, none⟩) := hT 1 (by simp)
    have e8 : a.tmps.getD 8 undef = .bool true := hT 8 (by simp)
    clear hT hF hP
    rw [act_lit 34 a hd hsz]
    simp only [List.range, List.range.loop, List.map, e1, e8]
    clear hd hsz e1 e8
    go_wp2
    go_ret
    exact ⟨rfl, hB.bel⟩
set_option maxRecDepth 20000 in
theorem check_bad_blank {w : World} (m s : Int) (t : ByteArray) (b : Bool) (e : Int) (h : ¬ (m = 0 ∧ s = 0 ∧ t.toList = [] ∧ b = false ∧ e = 0)) :
    Calls Tryd.prog 14 #[.agg #[.int .i64 0, .int .i64 m, .int .i64 s, .string t, .bool b, .int .i64 e]] w fun x w' => x = .returned (.int .i64 1) ∧ Below w.heap.size w w' := by
  have HO := Lib.hid (fun W : World => own_blank (w := W) m s t b e)
  have HB := Lib.hid (sb1 w 32 #[.int .i64 0, .int .i64 m, .int .i64 s, .string t, .bool b, .int .i64 e])
  go_enter Tryd.func14, Tryd.ntmps14
  go_wp2_with fail
  refine wp_region_phases (S := (fun vals W => SX w 1 ([] : List Stp) vals ([(w.heap.size, 32, #[.int .i64 0, .int .i64 m, .int .i64 s, .string t, .bool b, .int .i64 e])] : List (Nat × TypeId × Array Value)) W)) (E := (fun _ _ => True)) [] [(1, Is (.pointer (some ⟨w.heap.size, 0, none⟩)))] [(5, Is (.agg #[.int .i64 0, .int .i64 m, .int .i64 s, .string t, .bool b, .int .i64 e])), (6, Is (.agg #[.int .i64 0, .int .i64 m, .int .i64 s, .string t, .bool b, .int .i64 e])), (7, Is (.agg #[.int .i64 0, .int .i64 0, .int .i64 0, .string ⟨#[]⟩, .bool false, .int .i64 0])), (8, Is (.bool true))]
    [.op [1] none, .op [1] none, .op [6] none, .op [5, 7] none] (by as_aux_lemma => kernel_rfl) ?_ ?_ ?_ ?_ ?_ ⟨stable_is _ _, stable_is _ _, stable_is _ _, stable_is _ _, stable_is _ _, trivial⟩ ?_ (HB.out.drew) ?_ ?_
  · as_aux_lemma => kernel_rfl
  · as_aux_lemma => kernel_rfl
  · as_aux_lemma => kernel_rfl
  · as_aux_lemma => kernel_rfl
  · as_aux_lemma => kernel_rfl
  · exact ⟨rfl, trivial⟩
  · refine ⟨?_, ?_, ?_, ?_, trivial⟩
    · as_aux_lemma =>
        intro vals a W hS hL
        have e1 : a.tmps.getD 1 undef = .pointer (some ⟨w.heap.size, 0, none⟩) := hL.1
        clear hL
        have kb : Bk W (w.heap.size) 32 #[.int .i64 0, .int .i64 m, .int .i64 s, .string t, .bool b, .int .i64 e] := hS.bk 0 rfl rfl
        have f0 := kb.cell 0
        have f1 := kb.cell 1
        have f2 := kb.cell 2
        have f3 := kb.cell 3
        have f4 := kb.cell 4
        have f5 := kb.cell 5
        clear kb
        go_simp
        exact ⟨⟨fun d hd => by injection hd with hd; subst hd; rfl, fun h => by cases h⟩, hS, trivial⟩
    · as_aux_lemma =>
        intro vals a W hS hL
        have e1 : a.tmps.getD 1 undef = .pointer (some ⟨w.heap.size, 0, none⟩) := hL.1
        clear hL
        have kb : Bk W (w.heap.size) 32 #[.int .i64 0, .int .i64 m, .int .i64 s, .string t, .bool b, .int .i64 e] := hS.bk 0 rfl rfl
        have f0 := kb.cell 0
        have f1 := kb.cell 1
        have f2 := kb.cell 2
        have f3 := kb.cell 3
        have f4 := kb.cell 4
        have f5 := kb.cell 5
        clear kb
        go_simp
        exact ⟨⟨fun d hd => by injection hd with hd; subst hd; rfl, fun h => by cases h⟩, hS, trivial⟩
    · as_aux_lemma =>
        intro vals a W hS hL
        have e6 : a.tmps.getD 6 undef = .agg #[.int .i64 0, .int .i64 m, .int .i64 s, .string t, .bool b, .int .i64 e] := hL.1
        clear hL
        go_simp
        refine (HO.out W).mono ?_
        rintro e W' ⟨rfl, hb⟩
        exact ⟨_, rfl, ⟨fun d hd => by injection hd with hd; subst hd; rfl, fun h => by cases h⟩, hS.call hb, trivial⟩
    · as_aux_lemma =>
        intro vals a W hS hL
        have e5 : a.tmps.getD 5 undef = .agg #[.int .i64 0, .int .i64 m, .int .i64 s, .string t, .bool b, .int .i64 e] := hL.1
        have e7 : a.tmps.getD 7 undef = .agg #[.int .i64 0, .int .i64 0, .int .i64 0, .string ⟨#[]⟩, .bool false, .int .i64 0] := hL.2.1
        clear hL
        rw [Array.getD_eq_getD_getElem?] at e5 e7
        go_simp
        repeat' split
        all_goals first | exact ⟨⟨fun d hd => by injection hd with hd; subst hd; rfl, fun h => by cases h⟩, hS, trivial⟩ | (exfalso; simp_all)
  · intro a W' vals hd hsz hT hF hv hP hS
    obtain rfl : vals = [] := List.eq_nil_of_length_eq_zero hv
    have hS2 : SX w 1 ([] : List Stp) [] ([(w.heap.size, 32, #[.int .i64 0, .int .i64 m, .int .i64 s, .string t, .bool b, .int .i64 e])] : List (Nat × TypeId × Array Value)) W' := hS
    clear hS
    have hB0 := hS2
    have hB : SB w 1 ([(w.heap.size, 32, #[.int .i64 0, .int .i64 m, .int .i64 s, .string t, .bool b, .int .i64 e])] : List (Nat × TypeId × Array Value)) W' := hB0
    clear hB0
    have e1 : a.tmps.getD 1 undef = .pointer (some ⟨w.heap.size, 0, none⟩) := hT 1 (by simp)
    have e8 : a.tmps.getD 8 undef = .bool true := hT 8 (by simp)
    clear hT hF hP
    rw [act_lit 34 a hd hsz]
    simp only [List.range, List.range.loop, List.map, e1, e8]
    clear hd hsz e1 e8
    go_wp2
    go_ret
    exact ⟨rfl, hB.bel⟩
set_option maxRecDepth 20000 in
theorem check_bad_none {w : World} (k : Int) (m s : Int) (t : ByteArray) (b : Bool) (e : Int) (h1 : ¬ k = 1) (h2 : ¬ k = 2) (h3 : ¬ k = 3) (h4 : ¬ k = 4) (h : ¬ (m = 0 ∧ s = 0 ∧ t.toList = [] ∧ b = false ∧ e = 0)) :
    Calls Tryd.prog 14 #[.agg #[.int .i64 k, .int .i64 m, .int .i64 s, .string t, .bool b, .int .i64 e]] w fun x w' => x = .returned (.int .i64 1) ∧ Below w.heap.size w w' := by
  have HO := Lib.hid (fun W : World => own_none (w := W) k m s t b e h1 h2 h3 h4)
  have HB := Lib.hid (sb1 w 32 #[.int .i64 k, .int .i64 m, .int .i64 s, .string t, .bool b, .int .i64 e])
  go_enter Tryd.func14, Tryd.ntmps14
  go_wp2_with fail
  refine wp_region_phases (S := (fun vals W => SX w 1 ([] : List Stp) vals ([(w.heap.size, 32, #[.int .i64 k, .int .i64 m, .int .i64 s, .string t, .bool b, .int .i64 e])] : List (Nat × TypeId × Array Value)) W)) (E := (fun _ _ => True)) [] [(1, Is (.pointer (some ⟨w.heap.size, 0, none⟩)))] [(5, Is (.agg #[.int .i64 k, .int .i64 m, .int .i64 s, .string t, .bool b, .int .i64 e])), (6, Is (.agg #[.int .i64 k, .int .i64 m, .int .i64 s, .string t, .bool b, .int .i64 e])), (7, Is (.agg #[.int .i64 k, .int .i64 0, .int .i64 0, .string ⟨#[]⟩, .bool false, .int .i64 0])), (8, Is (.bool true))]
    [.op [1] none, .op [1] none, .op [6] none, .op [5, 7] none] (by as_aux_lemma => kernel_rfl) ?_ ?_ ?_ ?_ ?_ ⟨stable_is _ _, stable_is _ _, stable_is _ _, stable_is _ _, stable_is _ _, trivial⟩ ?_ (HB.out.drew) ?_ ?_
  · as_aux_lemma => kernel_rfl
  · as_aux_lemma => kernel_rfl
  · as_aux_lemma => kernel_rfl
  · as_aux_lemma => kernel_rfl
  · as_aux_lemma => kernel_rfl
  · exact ⟨rfl, trivial⟩
  · refine ⟨?_, ?_, ?_, ?_, trivial⟩
    · as_aux_lemma =>
        intro vals a W hS hL
        have e1 : a.tmps.getD 1 undef = .pointer (some ⟨w.heap.size, 0, none⟩) := hL.1
        clear hL
        have kb : Bk W (w.heap.size) 32 #[.int .i64 k, .int .i64 m, .int .i64 s, .string t, .bool b, .int .i64 e] := hS.bk 0 rfl rfl
        have f0 := kb.cell 0
        have f1 := kb.cell 1
        have f2 := kb.cell 2
        have f3 := kb.cell 3
        have f4 := kb.cell 4
        have f5 := kb.cell 5
        clear kb
        go_simp
        exact ⟨⟨fun d hd => by injection hd with hd; subst hd; rfl, fun h => by cases h⟩, hS, trivial⟩
    · as_aux_lemma =>
        intro vals a W hS hL
        have e1 : a.tmps.getD 1 undef = .pointer (some ⟨w.heap.size, 0, none⟩) := hL.1
        clear hL
        have kb : Bk W (w.heap.size) 32 #[.int .i64 k, .int .i64 m, .int .i64 s, .string t, .bool b, .int .i64 e] := hS.bk 0 rfl rfl
        have f0 := kb.cell 0
        have f1 := kb.cell 1
        have f2 := kb.cell 2
        have f3 := kb.cell 3
        have f4 := kb.cell 4
        have f5 := kb.cell 5
        clear kb
        go_simp
        exact ⟨⟨fun d hd => by injection hd with hd; subst hd; rfl, fun h => by cases h⟩, hS, trivial⟩
    · as_aux_lemma =>
        intro vals a W hS hL
        have e6 : a.tmps.getD 6 undef = .agg #[.int .i64 k, .int .i64 m, .int .i64 s, .string t, .bool b, .int .i64 e] := hL.1
        clear hL
        go_simp
        refine (HO.out W).mono ?_
        rintro e W' ⟨rfl, hb⟩
        exact ⟨_, rfl, ⟨fun d hd => by injection hd with hd; subst hd; rfl, fun h => by cases h⟩, hS.call hb, trivial⟩
    · as_aux_lemma =>
        intro vals a W hS hL
        have e5 : a.tmps.getD 5 undef = .agg #[.int .i64 k, .int .i64 m, .int .i64 s, .string t, .bool b, .int .i64 e] := hL.1
        have e7 : a.tmps.getD 7 undef = .agg #[.int .i64 k, .int .i64 0, .int .i64 0, .string ⟨#[]⟩, .bool false, .int .i64 0] := hL.2.1
        clear hL
        rw [Array.getD_eq_getD_getElem?] at e5 e7
        go_simp
        repeat' split
        all_goals first | exact ⟨⟨fun d hd => by injection hd with hd; subst hd; rfl, fun h => by cases h⟩, hS, trivial⟩ | (exfalso; simp_all)
  · intro a W' vals hd hsz hT hF hv hP hS
    obtain rfl : vals = [] := List.eq_nil_of_length_eq_zero hv
    have hS2 : SX w 1 ([] : List Stp) [] ([(w.heap.size, 32, #[.int .i64 k, .int .i64 m, .int .i64 s, .string t, .bool b, .int .i64 e])] : List (Nat × TypeId × Array Value)) W' := hS
    clear hS
    have hB0 := hS2
    have hB : SB w 1 ([(w.heap.size, 32, #[.int .i64 k, .int .i64 m, .int .i64 s, .string t, .bool b, .int .i64 e])] : List (Nat × TypeId × Array Value)) W' := hB0
    clear hB0
    have e1 : a.tmps.getD 1 undef = .pointer (some ⟨w.heap.size, 0, none⟩) := hT 1 (by simp)
    have e8 : a.tmps.getD 8 undef = .bool true := hT 8 (by simp)
    clear hT hF hP
    rw [act_lit 34 a hd hsz]
    simp only [List.range, List.range.loop, List.map, e1, e8]
    clear hd hsz e1 e8
    go_wp2
    go_ret
    exact ⟨rfl, hB.bel⟩
set_option maxRecDepth 20000 in
theorem check_blank {w : World}  :
    Calls Tryd.prog 14 #[.agg #[.int .i64 0, .int .i64 0, .int .i64 0, .string ⟨#[]⟩, .bool false, .int .i64 0]] w fun x w' => x = .returned (.int .i64 0) ∧ Below w.heap.size w w' := by
  have HO := Lib.hid (fun W : World => own_blank (w := W) 0 0 ⟨#[]⟩ false 0)
  have HB := Lib.hid (sb1 w 32 #[.int .i64 0, .int .i64 0, .int .i64 0, .string ⟨#[]⟩, .bool false, .int .i64 0])
  go_enter Tryd.func14, Tryd.ntmps14
  go_wp2_with fail
  refine wp_region_phases (S := (fun vals W => SX w 1 ([] : List Stp) vals ([(w.heap.size, 32, #[.int .i64 0, .int .i64 0, .int .i64 0, .string ⟨#[]⟩, .bool false, .int .i64 0])] : List (Nat × TypeId × Array Value)) W)) (E := (fun _ _ => True)) [] [(1, Is (.pointer (some ⟨w.heap.size, 0, none⟩)))] [(5, Is (.agg #[.int .i64 0, .int .i64 0, .int .i64 0, .string ⟨#[]⟩, .bool false, .int .i64 0])), (6, Is (.agg #[.int .i64 0, .int .i64 0, .int .i64 0, .string ⟨#[]⟩, .bool false, .int .i64 0])), (7, Is (.agg #[.int .i64 0, .int .i64 0, .int .i64 0, .string ⟨#[]⟩, .bool false, .int .i64 0])), (8, Is (.bool false))]
    [.op [1] none, .op [1] none, .op [6] none, .op [5, 7] none] (by as_aux_lemma => kernel_rfl) ?_ ?_ ?_ ?_ ?_ ⟨stable_is _ _, stable_is _ _, stable_is _ _, stable_is _ _, stable_is _ _, trivial⟩ ?_ (HB.out.drew) ?_ ?_
  · as_aux_lemma => kernel_rfl
  · as_aux_lemma => kernel_rfl
  · as_aux_lemma => kernel_rfl
  · as_aux_lemma => kernel_rfl
  · as_aux_lemma => kernel_rfl
  · exact ⟨rfl, trivial⟩
  · refine ⟨?_, ?_, ?_, ?_, trivial⟩
    · as_aux_lemma =>
        intro vals a W hS hL
        have e1 : a.tmps.getD 1 undef = .pointer (some ⟨w.heap.size, 0, none⟩) := hL.1
        clear hL
        have kb : Bk W (w.heap.size) 32 #[.int .i64 0, .int .i64 0, .int .i64 0, .string ⟨#[]⟩, .bool false, .int .i64 0] := hS.bk 0 rfl rfl
        have f0 := kb.cell 0
        have f1 := kb.cell 1
        have f2 := kb.cell 2
        have f3 := kb.cell 3
        have f4 := kb.cell 4
        have f5 := kb.cell 5
        clear kb
        go_simp
        exact ⟨⟨fun d hd => by injection hd with hd; subst hd; rfl, fun h => by cases h⟩, hS, trivial⟩
    · as_aux_lemma =>
        intro vals a W hS hL
        have e1 : a.tmps.getD 1 undef = .pointer (some ⟨w.heap.size, 0, none⟩) := hL.1
        clear hL
        have kb : Bk W (w.heap.size) 32 #[.int .i64 0, .int .i64 0, .int .i64 0, .string ⟨#[]⟩, .bool false, .int .i64 0] := hS.bk 0 rfl rfl
        have f0 := kb.cell 0
        have f1 := kb.cell 1
        have f2 := kb.cell 2
        have f3 := kb.cell 3
        have f4 := kb.cell 4
        have f5 := kb.cell 5
        clear kb
        go_simp
        exact ⟨⟨fun d hd => by injection hd with hd; subst hd; rfl, fun h => by cases h⟩, hS, trivial⟩
    · as_aux_lemma =>
        intro vals a W hS hL
        have e6 : a.tmps.getD 6 undef = .agg #[.int .i64 0, .int .i64 0, .int .i64 0, .string ⟨#[]⟩, .bool false, .int .i64 0] := hL.1
        clear hL
        go_simp
        refine (HO.out W).mono ?_
        rintro e W' ⟨rfl, hb⟩
        exact ⟨_, rfl, ⟨fun d hd => by injection hd with hd; subst hd; rfl, fun h => by cases h⟩, hS.call hb, trivial⟩
    · as_aux_lemma =>
        intro vals a W hS hL
        have e5 : a.tmps.getD 5 undef = .agg #[.int .i64 0, .int .i64 0, .int .i64 0, .string ⟨#[]⟩, .bool false, .int .i64 0] := hL.1
        have e7 : a.tmps.getD 7 undef = .agg #[.int .i64 0, .int .i64 0, .int .i64 0, .string ⟨#[]⟩, .bool false, .int .i64 0] := hL.2.1
        clear hL
        go_simp
        exact ⟨⟨fun d hd => by injection hd with hd; subst hd; rfl, fun h => by cases h⟩, hS, trivial⟩
  · intro a W' vals hd hsz hT hF hv hP hS
    obtain rfl : vals = [] := List.eq_nil_of_length_eq_zero hv
    have hS2 : SX w 1 ([] : List Stp) [] ([(w.heap.size, 32, #[.int .i64 0, .int .i64 0, .int .i64 0, .string ⟨#[]⟩, .bool false, .int .i64 0])] : List (Nat × TypeId × Array Value)) W' := hS
    clear hS
    have hB0 := hS2
    have hB : SB w 1 ([(w.heap.size, 32, #[.int .i64 0, .int .i64 0, .int .i64 0, .string ⟨#[]⟩, .bool false, .int .i64 0])] : List (Nat × TypeId × Array Value)) W' := hB0
    clear hB0
    have e1 : a.tmps.getD 1 undef = .pointer (some ⟨w.heap.size, 0, none⟩) := hT 1 (by simp)
    have e8 : a.tmps.getD 8 undef = .bool false := hT 8 (by simp)
    clear hT hF hP
    rw [act_lit 34 a hd hsz]
    simp only [List.range, List.range.loop, List.map, e1, e8]
    clear hd hsz e1 e8
    have kb := hB.box (i := 0) rfl
    have cb0 := kb.cell 0
    have cb1 := kb.cell 1
    have cb2 := kb.cell 2
    have cb3 := kb.cell 3
    have cb4 := kb.cell 4
    have cb5 := kb.cell 5
    clear kb
    have hbel := hB.bel
    clear hB HB HO
    go_wp2
    go_ret
    exact ⟨rfl, hbel⟩
set_option maxRecDepth 20000 in
theorem check_bool {w : World} (b : Bool) :
    Calls Tryd.prog 14 #[.agg #[.int .i64 3, .int .i64 0, .int .i64 0, .string ⟨#[]⟩, .bool b, .int .i64 0]] w fun x w' => x = .returned (.int .i64 0) ∧ Below w.heap.size w w' := by
  have HO := Lib.hid (fun W : World => own_bool (w := W) 0 0 ⟨#[]⟩ b 0)
  have HB := Lib.hid (sb1 w 32 #[.int .i64 3, .int .i64 0, .int .i64 0, .string ⟨#[]⟩, .bool b, .int .i64 0])
  go_enter Tryd.func14, Tryd.ntmps14
  go_wp2_with fail
  refine wp_region_phases (S := (fun vals W => SX w 1 ([] : List Stp) vals ([(w.heap.size, 32, #[.int .i64 3, .int .i64 0, .int .i64 0, .string ⟨#[]⟩, .bool b, .int .i64 0])] : List (Nat × TypeId × Array Value)) W)) (E := (fun _ _ => True)) [] [(1, Is (.pointer (some ⟨w.heap.size, 0, none⟩)))] [(5, Is (.agg #[.int .i64 3, .int .i64 0, .int .i64 0, .string ⟨#[]⟩, .bool b, .int .i64 0])), (6, Is (.agg #[.int .i64 3, .int .i64 0, .int .i64 0, .string ⟨#[]⟩, .bool b, .int .i64 0])), (7, Is (.agg #[.int .i64 3, .int .i64 0, .int .i64 0, .string ⟨#[]⟩, .bool b, .int .i64 0])), (8, Is (.bool false))]
    [.op [1] none, .op [1] none, .op [6] none, .op [5, 7] none] (by as_aux_lemma => kernel_rfl) ?_ ?_ ?_ ?_ ?_ ⟨stable_is _ _, stable_is _ _, stable_is _ _, stable_is _ _, stable_is _ _, trivial⟩ ?_ (HB.out.drew) ?_ ?_
  · as_aux_lemma => kernel_rfl
  · as_aux_lemma => kernel_rfl
  · as_aux_lemma => kernel_rfl
  · as_aux_lemma => kernel_rfl
  · as_aux_lemma => kernel_rfl
  · exact ⟨rfl, trivial⟩
  · refine ⟨?_, ?_, ?_, ?_, trivial⟩
    · as_aux_lemma =>
        intro vals a W hS hL
        have e1 : a.tmps.getD 1 undef = .pointer (some ⟨w.heap.size, 0, none⟩) := hL.1
        clear hL
        have kb : Bk W (w.heap.size) 32 #[.int .i64 3, .int .i64 0, .int .i64 0, .string ⟨#[]⟩, .bool b, .int .i64 0] := hS.bk 0 rfl rfl
        have f0 := kb.cell 0
        have f1 := kb.cell 1
        have f2 := kb.cell 2
        have f3 := kb.cell 3
        have f4 := kb.cell 4
        have f5 := kb.cell 5
        clear kb
        go_simp
        exact ⟨⟨fun d hd => by injection hd with hd; subst hd; rfl, fun h => by cases h⟩, hS, trivial⟩
    · as_aux_lemma =>
        intro vals a W hS hL
        have e1 : a.tmps.getD 1 undef = .pointer (some ⟨w.heap.size, 0, none⟩) := hL.1
        clear hL
        have kb : Bk W (w.heap.size) 32 #[.int .i64 3, .int .i64 0, .int .i64 0, .string ⟨#[]⟩, .bool b, .int .i64 0] := hS.bk 0 rfl rfl
        have f0 := kb.cell 0
        have f1 := kb.cell 1
        have f2 := kb.cell 2
        have f3 := kb.cell 3
        have f4 := kb.cell 4
        have f5 := kb.cell 5
        clear kb
        go_simp
        exact ⟨⟨fun d hd => by injection hd with hd; subst hd; rfl, fun h => by cases h⟩, hS, trivial⟩
    · as_aux_lemma =>
        intro vals a W hS hL
        have e6 : a.tmps.getD 6 undef = .agg #[.int .i64 3, .int .i64 0, .int .i64 0, .string ⟨#[]⟩, .bool b, .int .i64 0] := hL.1
        clear hL
        go_simp
        refine (HO.out W).mono ?_
        rintro e W' ⟨rfl, hb⟩
        exact ⟨_, rfl, ⟨fun d hd => by injection hd with hd; subst hd; rfl, fun h => by cases h⟩, hS.call hb, trivial⟩
    · as_aux_lemma =>
        intro vals a W hS hL
        have e5 : a.tmps.getD 5 undef = .agg #[.int .i64 3, .int .i64 0, .int .i64 0, .string ⟨#[]⟩, .bool b, .int .i64 0] := hL.1
        have e7 : a.tmps.getD 7 undef = .agg #[.int .i64 3, .int .i64 0, .int .i64 0, .string ⟨#[]⟩, .bool b, .int .i64 0] := hL.2.1
        clear hL
        go_simp
        exact ⟨⟨fun d hd => by injection hd with hd; subst hd; rfl, fun h => by cases h⟩, hS, trivial⟩
  · intro a W' vals hd hsz hT hF hv hP hS
    obtain rfl : vals = [] := List.eq_nil_of_length_eq_zero hv
    have hS2 : SX w 1 ([] : List Stp) [] ([(w.heap.size, 32, #[.int .i64 3, .int .i64 0, .int .i64 0, .string ⟨#[]⟩, .bool b, .int .i64 0])] : List (Nat × TypeId × Array Value)) W' := hS
    clear hS
    have hB0 := hS2
    have hB : SB w 1 ([(w.heap.size, 32, #[.int .i64 3, .int .i64 0, .int .i64 0, .string ⟨#[]⟩, .bool b, .int .i64 0])] : List (Nat × TypeId × Array Value)) W' := hB0
    clear hB0
    have e1 : a.tmps.getD 1 undef = .pointer (some ⟨w.heap.size, 0, none⟩) := hT 1 (by simp)
    have e8 : a.tmps.getD 8 undef = .bool false := hT 8 (by simp)
    clear hT hF hP
    rw [act_lit 34 a hd hsz]
    simp only [List.range, List.range.loop, List.map, e1, e8]
    clear hd hsz e1 e8
    have kb := hB.box (i := 0) rfl
    have cb0 := kb.cell 0
    have cb1 := kb.cell 1
    have cb2 := kb.cell 2
    have cb3 := kb.cell 3
    have cb4 := kb.cell 4
    have cb5 := kb.cell 5
    clear kb
    have hbel := hB.bel
    clear hB HB HO
    go_wp2
    go_ret
    exact ⟨rfl, hbel⟩
set_option maxRecDepth 20000 in
theorem check_none {w : World} (k : Int) (h0 : ¬ k = 0) (h1 : ¬ k = 1) (h2 : ¬ k = 2) (h3 : ¬ k = 3) (h4 : ¬ k = 4) :
    Calls Tryd.prog 14 #[.agg #[.int .i64 k, .int .i64 0, .int .i64 0, .string ⟨#[]⟩, .bool false, .int .i64 0]] w fun x w' => x = .returned (.int .i64 1) ∧ Below w.heap.size w w' := by
  have HO := Lib.hid (fun W : World => own_none (w := W) k 0 0 ⟨#[]⟩ false 0 h1 h2 h3 h4)
  have HB := Lib.hid (sb1 w 32 #[.int .i64 k, .int .i64 0, .int .i64 0, .string ⟨#[]⟩, .bool false, .int .i64 0])
  go_enter Tryd.func14, Tryd.ntmps14
  go_wp2_with fail
  refine wp_region_phases (S := (fun vals W => SX w 1 ([] : List Stp) vals ([(w.heap.size, 32, #[.int .i64 k, .int .i64 0, .int .i64 0, .string ⟨#[]⟩, .bool false, .int .i64 0])] : List (Nat × TypeId × Array Value)) W)) (E := (fun _ _ => True)) [] [(1, Is (.pointer (some ⟨w.heap.size, 0, none⟩)))] [(5, Is (.agg #[.int .i64 k, .int .i64 0, .int .i64 0, .string ⟨#[]⟩, .bool false, .int .i64 0])), (6, Is (.agg #[.int .i64 k, .int .i64 0, .int .i64 0, .string ⟨#[]⟩, .bool false, .int .i64 0])), (7, Is (.agg #[.int .i64 k, .int .i64 0, .int .i64 0, .string ⟨#[]⟩, .bool false, .int .i64 0])), (8, Is (.bool false))]
    [.op [1] none, .op [1] none, .op [6] none, .op [5, 7] none] (by as_aux_lemma => kernel_rfl) ?_ ?_ ?_ ?_ ?_ ⟨stable_is _ _, stable_is _ _, stable_is _ _, stable_is _ _, stable_is _ _, trivial⟩ ?_ (HB.out.drew) ?_ ?_
  · as_aux_lemma => kernel_rfl
  · as_aux_lemma => kernel_rfl
  · as_aux_lemma => kernel_rfl
  · as_aux_lemma => kernel_rfl
  · as_aux_lemma => kernel_rfl
  · exact ⟨rfl, trivial⟩
  · refine ⟨?_, ?_, ?_, ?_, trivial⟩
    · as_aux_lemma =>
        intro vals a W hS hL
        have e1 : a.tmps.getD 1 undef = .pointer (some ⟨w.heap.size, 0, none⟩) := hL.1
        clear hL
        have kb : Bk W (w.heap.size) 32 #[.int .i64 k, .int .i64 0, .int .i64 0, .string ⟨#[]⟩, .bool false, .int .i64 0] := hS.bk 0 rfl rfl
        have f0 := kb.cell 0
        have f1 := kb.cell 1
        have f2 := kb.cell 2
        have f3 := kb.cell 3
        have f4 := kb.cell 4
        have f5 := kb.cell 5
        clear kb
        go_simp
        exact ⟨⟨fun d hd => by injection hd with hd; subst hd; rfl, fun h => by cases h⟩, hS, trivial⟩
    · as_aux_lemma =>
        intro vals a W hS hL
        have e1 : a.tmps.getD 1 undef = .pointer (some ⟨w.heap.size, 0, none⟩) := hL.1
        clear hL
        have kb : Bk W (w.heap.size) 32 #[.int .i64 k, .int .i64 0, .int .i64 0, .string ⟨#[]⟩, .bool false, .int .i64 0] := hS.bk 0 rfl rfl
        have f0 := kb.cell 0
        have f1 := kb.cell 1
        have f2 := kb.cell 2
        have f3 := kb.cell 3
        have f4 := kb.cell 4
        have f5 := kb.cell 5
        clear kb
        go_simp
        exact ⟨⟨fun d hd => by injection hd with hd; subst hd; rfl, fun h => by cases h⟩, hS, trivial⟩
    · as_aux_lemma =>
        intro vals a W hS hL
        have e6 : a.tmps.getD 6 undef = .agg #[.int .i64 k, .int .i64 0, .int .i64 0, .string ⟨#[]⟩, .bool false, .int .i64 0] := hL.1
        clear hL
        go_simp
        refine (HO.out W).mono ?_
        rintro e W' ⟨rfl, hb⟩
        exact ⟨_, rfl, ⟨fun d hd => by injection hd with hd; subst hd; rfl, fun h => by cases h⟩, hS.call hb, trivial⟩
    · as_aux_lemma =>
        intro vals a W hS hL
        have e5 : a.tmps.getD 5 undef = .agg #[.int .i64 k, .int .i64 0, .int .i64 0, .string ⟨#[]⟩, .bool false, .int .i64 0] := hL.1
        have e7 : a.tmps.getD 7 undef = .agg #[.int .i64 k, .int .i64 0, .int .i64 0, .string ⟨#[]⟩, .bool false, .int .i64 0] := hL.2.1
        clear hL
        go_simp
        exact ⟨⟨fun d hd => by injection hd with hd; subst hd; rfl, fun h => by cases h⟩, hS, trivial⟩
  · intro a W' vals hd hsz hT hF hv hP hS
    obtain rfl : vals = [] := List.eq_nil_of_length_eq_zero hv
    have hS2 : SX w 1 ([] : List Stp) [] ([(w.heap.size, 32, #[.int .i64 k, .int .i64 0, .int .i64 0, .string ⟨#[]⟩, .bool false, .int .i64 0])] : List (Nat × TypeId × Array Value)) W' := hS
    clear hS
    have hB0 := hS2
    have hB : SB w 1 ([(w.heap.size, 32, #[.int .i64 k, .int .i64 0, .int .i64 0, .string ⟨#[]⟩, .bool false, .int .i64 0])] : List (Nat × TypeId × Array Value)) W' := hB0
    clear hB0
    have e1 : a.tmps.getD 1 undef = .pointer (some ⟨w.heap.size, 0, none⟩) := hT 1 (by simp)
    have e8 : a.tmps.getD 8 undef = .bool false := hT 8 (by simp)
    clear hT hF hP
    rw [act_lit 34 a hd hsz]
    simp only [List.range, List.range.loop, List.map, e1, e8]
    clear hd hsz e1 e8
    have kb := hB.box (i := 0) rfl
    have cb0 := kb.cell 0
    have cb1 := kb.cell 1
    have cb2 := kb.cell 2
    have cb3 := kb.cell 3
    have cb4 := kb.cell 4
    have cb5 := kb.cell 5
    clear kb
    have hbel := hB.bel
    clear hB HB HO
    go_wp2
    go_ret
    exact ⟨rfl, hbel⟩
set_option maxRecDepth 20000 in
theorem check_num {w : World} (m s : Int) :
    Calls Tryd.prog 14 #[.agg #[.int .i64 1, .int .i64 m, .int .i64 s, .string ⟨#[]⟩, .bool false, .int .i64 0]] w fun x w' => x = .returned (.int .i64 (ckE m s)) ∧ Below w.heap.size w w' := by
  have HO := Lib.hid (fun W : World => own_num (w := W) m s ⟨#[]⟩ false 0)
  have HC := Lib.hid (fun W : World => check_any (w := W) (m := m) (s := s))
  generalize ckE m s = c at *
  have HB := Lib.hid (sb1 w 32 #[.int .i64 1, .int .i64 m, .int .i64 s, .string ⟨#[]⟩, .bool false, .int .i64 0])
  go_enter Tryd.func14, Tryd.ntmps14
  go_wp2_with fail
  refine wp_region_phases (S := (fun vals W => SX w 1 ([] : List Stp) vals ([(w.heap.size, 32, #[.int .i64 1, .int .i64 m, .int .i64 s, .string ⟨#[]⟩, .bool false, .int .i64 0])] : List (Nat × TypeId × Array Value)) W)) (E := (fun _ _ => True)) [] [(1, Is (.pointer (some ⟨w.heap.size, 0, none⟩)))] [(5, Is (.agg #[.int .i64 1, .int .i64 m, .int .i64 s, .string ⟨#[]⟩, .bool false, .int .i64 0])), (6, Is (.agg #[.int .i64 1, .int .i64 m, .int .i64 s, .string ⟨#[]⟩, .bool false, .int .i64 0])), (7, Is (.agg #[.int .i64 1, .int .i64 m, .int .i64 s, .string ⟨#[]⟩, .bool false, .int .i64 0])), (8, Is (.bool false))]
    [.op [1] none, .op [1] none, .op [6] none, .op [5, 7] none] (by as_aux_lemma => kernel_rfl) ?_ ?_ ?_ ?_ ?_ ⟨stable_is _ _, stable_is _ _, stable_is _ _, stable_is _ _, stable_is _ _, trivial⟩ ?_ (HB.out.drew) ?_ ?_
  · as_aux_lemma => kernel_rfl
  · as_aux_lemma => kernel_rfl
  · as_aux_lemma => kernel_rfl
  · as_aux_lemma => kernel_rfl
  · as_aux_lemma => kernel_rfl
  · exact ⟨rfl, trivial⟩
  · refine ⟨?_, ?_, ?_, ?_, trivial⟩
    · as_aux_lemma =>
        intro vals a W hS hL
        have e1 : a.tmps.getD 1 undef = .pointer (some ⟨w.heap.size, 0, none⟩) := hL.1
        clear hL
        have kb : Bk W (w.heap.size) 32 #[.int .i64 1, .int .i64 m, .int .i64 s, .string ⟨#[]⟩, .bool false, .int .i64 0] := hS.bk 0 rfl rfl
        have f0 := kb.cell 0
        have f1 := kb.cell 1
        have f2 := kb.cell 2
        have f3 := kb.cell 3
        have f4 := kb.cell 4
        have f5 := kb.cell 5
        clear kb
        go_simp
        exact ⟨⟨fun d hd => by injection hd with hd; subst hd; rfl, fun h => by cases h⟩, hS, trivial⟩
    · as_aux_lemma =>
        intro vals a W hS hL
        have e1 : a.tmps.getD 1 undef = .pointer (some ⟨w.heap.size, 0, none⟩) := hL.1
        clear hL
        have kb : Bk W (w.heap.size) 32 #[.int .i64 1, .int .i64 m, .int .i64 s, .string ⟨#[]⟩, .bool false, .int .i64 0] := hS.bk 0 rfl rfl
        have f0 := kb.cell 0
        have f1 := kb.cell 1
        have f2 := kb.cell 2
        have f3 := kb.cell 3
        have f4 := kb.cell 4
        have f5 := kb.cell 5
        clear kb
        go_simp
        exact ⟨⟨fun d hd => by injection hd with hd; subst hd; rfl, fun h => by cases h⟩, hS, trivial⟩
    · as_aux_lemma =>
        intro vals a W hS hL
        have e6 : a.tmps.getD 6 undef = .agg #[.int .i64 1, .int .i64 m, .int .i64 s, .string ⟨#[]⟩, .bool false, .int .i64 0] := hL.1
        clear hL
        go_simp
        refine (HO.out W).mono ?_
        rintro e W' ⟨rfl, hb⟩
        exact ⟨_, rfl, ⟨fun d hd => by injection hd with hd; subst hd; rfl, fun h => by cases h⟩, hS.call hb, trivial⟩
    · as_aux_lemma =>
        intro vals a W hS hL
        have e5 : a.tmps.getD 5 undef = .agg #[.int .i64 1, .int .i64 m, .int .i64 s, .string ⟨#[]⟩, .bool false, .int .i64 0] := hL.1
        have e7 : a.tmps.getD 7 undef = .agg #[.int .i64 1, .int .i64 m, .int .i64 s, .string ⟨#[]⟩, .bool false, .int .i64 0] := hL.2.1
        clear hL
        go_simp
        exact ⟨⟨fun d hd => by injection hd with hd; subst hd; rfl, fun h => by cases h⟩, hS, trivial⟩
  · intro a W' vals hd hsz hT hF hv hP hS
    obtain rfl : vals = [] := List.eq_nil_of_length_eq_zero hv
    have hS2 : SX w 1 ([] : List Stp) [] ([(w.heap.size, 32, #[.int .i64 1, .int .i64 m, .int .i64 s, .string ⟨#[]⟩, .bool false, .int .i64 0])] : List (Nat × TypeId × Array Value)) W' := hS
    clear hS
    have hB0 := hS2
    have hB : SB w 1 ([(w.heap.size, 32, #[.int .i64 1, .int .i64 m, .int .i64 s, .string ⟨#[]⟩, .bool false, .int .i64 0])] : List (Nat × TypeId × Array Value)) W' := hB0
    clear hB0
    have e1 : a.tmps.getD 1 undef = .pointer (some ⟨w.heap.size, 0, none⟩) := hT 1 (by simp)
    have e8 : a.tmps.getD 8 undef = .bool false := hT 8 (by simp)
    clear hT hF hP
    rw [act_lit 34 a hd hsz]
    simp only [List.range, List.range.loop, List.map, e1, e8]
    clear hd hsz e1 e8
    have kb := hB.box (i := 0) rfl
    have cb0 := kb.cell 0
    have cb1 := kb.cell 1
    have cb2 := kb.cell 2
    have cb3 := kb.cell 3
    have cb4 := kb.cell 4
    have cb5 := kb.cell 5
    clear kb
    go_wp2_with fail
    refine (HC.out _).mono ?_
    rintro e w2 ⟨rfl, hb⟩
    have hbel := (hB.call hb).bel
    clear hb hB HB HO HC
    go_wp2
    go_ret
    exact ⟨rfl, hbel⟩
set_option maxRecDepth 20000 in
theorem check_str {w : World} (HV : Val w) (t : ByteArray) (ht : t.size ≤ 140737488355328) :
    Calls Tryd.prog 14 #[.agg #[.int .i64 2, .int .i64 0, .int .i64 0, .string t, .bool false, .int .i64 0]] w fun x w' => x = .returned (.int .i64 (uE t.data.toList)) ∧ Below w.heap.size w w' := by
  have HO := Lib.hid (fun W : World => own_str (w := W) 0 0 t false 0)
  have HC : Hid (∀ W : World, Below w.heap.size w W → Calls Tryd.prog 37 #[.string t] W fun e w' => e = .returned (.tuple #[.int .i64 (uV t.data.toList), .int .i64 (uE t.data.toList)]) ∧ Below W.heap.size W w') := Lib.hid (fun W hb => units_any (HV.below hb) t ht)
  clear HV
  generalize uE t.data.toList = c at *
  generalize uV t.data.toList = v at *
  have HB := Lib.hid (sb1 w 32 #[.int .i64 2, .int .i64 0, .int .i64 0, .string t, .bool false, .int .i64 0])
  go_enter Tryd.func14, Tryd.ntmps14
  go_wp2_with fail
  refine wp_region_phases (S := (fun vals W => SX w 1 ([] : List Stp) vals ([(w.heap.size, 32, #[.int .i64 2, .int .i64 0, .int .i64 0, .string t, .bool false, .int .i64 0])] : List (Nat × TypeId × Array Value)) W)) (E := (fun _ _ => True)) [] [(1, Is (.pointer (some ⟨w.heap.size, 0, none⟩)))] [(5, Is (.agg #[.int .i64 2, .int .i64 0, .int .i64 0, .string t, .bool false, .int .i64 0])), (6, Is (.agg #[.int .i64 2, .int .i64 0, .int .i64 0, .string t, .bool false, .int .i64 0])), (7, Is (.agg #[.int .i64 2, .int .i64 0, .int .i64 0, .string t, .bool false, .int .i64 0])), (8, Is (.bool false))]
    [.op [1] none, .op [1] none, .op [6] none, .op [5, 7] none] (by as_aux_lemma => kernel_rfl) ?_ ?_ ?_ ?_ ?_ ⟨stable_is _ _, stable_is _ _, stable_is _ _, stable_is _ _, stable_is _ _, trivial⟩ ?_ (HB.out.drew) ?_ ?_
  · as_aux_lemma => kernel_rfl
  · as_aux_lemma => kernel_rfl
  · as_aux_lemma => kernel_rfl
  · as_aux_lemma => kernel_rfl
  · as_aux_lemma => kernel_rfl
  · exact ⟨rfl, trivial⟩
  · refine ⟨?_, ?_, ?_, ?_, trivial⟩
    · as_aux_lemma =>
        intro vals a W hS hL
        have e1 : a.tmps.getD 1 undef = .pointer (some ⟨w.heap.size, 0, none⟩) := hL.1
        clear hL
        have kb : Bk W (w.heap.size) 32 #[.int .i64 2, .int .i64 0, .int .i64 0, .string t, .bool false, .int .i64 0] := hS.bk 0 rfl rfl
        have f0 := kb.cell 0
        have f1 := kb.cell 1
        have f2 := kb.cell 2
        have f3 := kb.cell 3
        have f4 := kb.cell 4
        have f5 := kb.cell 5
        clear kb
        go_simp
        exact ⟨⟨fun d hd => by injection hd with hd; subst hd; rfl, fun h => by cases h⟩, hS, trivial⟩
    · as_aux_lemma =>
        intro vals a W hS hL
        have e1 : a.tmps.getD 1 undef = .pointer (some ⟨w.heap.size, 0, none⟩) := hL.1
        clear hL
        have kb : Bk W (w.heap.size) 32 #[.int .i64 2, .int .i64 0, .int .i64 0, .string t, .bool false, .int .i64 0] := hS.bk 0 rfl rfl
        have f0 := kb.cell 0
        have f1 := kb.cell 1
        have f2 := kb.cell 2
        have f3 := kb.cell 3
        have f4 := kb.cell 4
        have f5 := kb.cell 5
        clear kb
        go_simp
        exact ⟨⟨fun d hd => by injection hd with hd; subst hd; rfl, fun h => by cases h⟩, hS, trivial⟩
    · as_aux_lemma =>
        intro vals a W hS hL
        have e6 : a.tmps.getD 6 undef = .agg #[.int .i64 2, .int .i64 0, .int .i64 0, .string t, .bool false, .int .i64 0] := hL.1
        clear hL
        go_simp
        refine (HO.out W).mono ?_
        rintro e W' ⟨rfl, hb⟩
        exact ⟨_, rfl, ⟨fun d hd => by injection hd with hd; subst hd; rfl, fun h => by cases h⟩, hS.call hb, trivial⟩
    · as_aux_lemma =>
        intro vals a W hS hL
        have e5 : a.tmps.getD 5 undef = .agg #[.int .i64 2, .int .i64 0, .int .i64 0, .string t, .bool false, .int .i64 0] := hL.1
        have e7 : a.tmps.getD 7 undef = .agg #[.int .i64 2, .int .i64 0, .int .i64 0, .string t, .bool false, .int .i64 0] := hL.2.1
        clear hL
        go_simp
        exact ⟨⟨fun d hd => by injection hd with hd; subst hd; rfl, fun h => by cases h⟩, hS, trivial⟩
  · intro a W' vals hd hsz hT hF hv hP hS
    obtain rfl : vals = [] := List.eq_nil_of_length_eq_zero hv
    have hS2 : SX w 1 ([] : List Stp) [] ([(w.heap.size, 32, #[.int .i64 2, .int .i64 0, .int .i64 0, .string t, .bool false, .int .i64 0])] : List (Nat × TypeId × Array Value)) W' := hS
    clear hS
    have hB0 := hS2
    have hB : SB w 1 ([(w.heap.size, 32, #[.int .i64 2, .int .i64 0, .int .i64 0, .string t, .bool false, .int .i64 0])] : List (Nat × TypeId × Array Value)) W' := hB0
    clear hB0
    have e1 : a.tmps.getD 1 undef = .pointer (some ⟨w.heap.size, 0, none⟩) := hT 1 (by simp)
    have e8 : a.tmps.getD 8 undef = .bool false := hT 8 (by simp)
    clear hT hF hP
    rw [act_lit 34 a hd hsz]
    simp only [List.range, List.range.loop, List.map, e1, e8]
    clear hd hsz e1 e8
    have kb := hB.box (i := 0) rfl
    have cb0 := kb.cell 0
    have cb1 := kb.cell 1
    have cb2 := kb.cell 2
    have cb3 := kb.cell 3
    have cb4 := kb.cell 4
    have cb5 := kb.cell 5
    clear kb
    go_wp2_with fail
    refine (HC.out _ hB.bel).mono ?_
    rintro e w2 ⟨rfl, hb⟩
    have hbel := (hB.call hb).bel
    clear hb hB HB HO HC
    go_wp2
    go_ret
    exact ⟨rfl, hbel⟩
def feE (e : Int) : Int := if e = 0 ∨ e = 7 ∨ e = 15 ∨ e = 23 ∨ e = 29 ∨ e = 36 ∨ e = 42 then 0 else 1
set_option maxRecDepth 20000 in
theorem check_err_yes {w : World} (e : Int) (L : List UInt8) (hL : erL e = L) (h0 : ¬ L = []) :
    Calls Tryd.prog 14 #[.agg #[.int .i64 4, .int .i64 0, .int .i64 0, .string ⟨#[]⟩, .bool false, .int .i64 e]] w fun x w' => x = .returned (.int .i64 0) ∧ Below w.heap.size w w' := by
  have HO := Lib.hid (fun W : World => own_err (w := W) 0 0 ⟨#[]⟩ false e)
  have HC : Hid (∀ W : World, Calls Tryd.prog 38 #[.int .i64 e] W fun x w' => x = .returned (sL L) ∧ w' = W) := Lib.hid (fun W => by
    have := faultText_any (w := W) e
    rw [hL] at this
    exact this)
  unfold sL at HC
  have hne : (!L.isEmpty) = true := by rcases L with _ | ⟨c, l⟩ <;> first | exact absurd rfl h0 | rfl
  clear h0
  clear hL
  have HB := Lib.hid (sb1 w 32 #[.int .i64 4, .int .i64 0, .int .i64 0, .string ⟨#[]⟩, .bool false, .int .i64 e])
  go_enter Tryd.func14, Tryd.ntmps14
  go_wp2_with fail
  refine wp_region_phases (S := (fun vals W => SX w 1 ([] : List Stp) vals ([(w.heap.size, 32, #[.int .i64 4, .int .i64 0, .int .i64 0, .string ⟨#[]⟩, .bool false, .int .i64 e])] : List (Nat × TypeId × Array Value)) W)) (E := (fun _ _ => True)) [] [(1, Is (.pointer (some ⟨w.heap.size, 0, none⟩)))] [(5, Is (.agg #[.int .i64 4, .int .i64 0, .int .i64 0, .string ⟨#[]⟩, .bool false, .int .i64 e])), (6, Is (.agg #[.int .i64 4, .int .i64 0, .int .i64 0, .string ⟨#[]⟩, .bool false, .int .i64 e])), (7, Is (.agg #[.int .i64 4, .int .i64 0, .int .i64 0, .string ⟨#[]⟩, .bool false, .int .i64 e])), (8, Is (.bool false))]
    [.op [1] none, .op [1] none, .op [6] none, .op [5, 7] none] (by as_aux_lemma => kernel_rfl) ?_ ?_ ?_ ?_ ?_ ⟨stable_is _ _, stable_is _ _, stable_is _ _, stable_is _ _, stable_is _ _, trivial⟩ ?_ (HB.out.drew) ?_ ?_
  · as_aux_lemma => kernel_rfl
  · as_aux_lemma => kernel_rfl
  · as_aux_lemma => kernel_rfl
  · as_aux_lemma => kernel_rfl
  · as_aux_lemma => kernel_rfl
  · exact ⟨rfl, trivial⟩
  · refine ⟨?_, ?_, ?_, ?_, trivial⟩
    · as_aux_lemma =>
        intro vals a W hS hL
        have e1 : a.tmps.getD 1 undef = .pointer (some ⟨w.heap.size, 0, none⟩) := hL.1
        clear hL
        have kb : Bk W (w.heap.size) 32 #[.int .i64 4, .int .i64 0, .int .i64 0, .string ⟨#[]⟩, .bool false, .int .i64 e] := hS.bk 0 rfl rfl
        have f0 := kb.cell 0
        have f1 := kb.cell 1
        have f2 := kb.cell 2
        have f3 := kb.cell 3
        have f4 := kb.cell 4
        have f5 := kb.cell 5
        clear kb
        go_simp
        exact ⟨⟨fun d hd => by injection hd with hd; subst hd; rfl, fun h => by cases h⟩, hS, trivial⟩
    · as_aux_lemma =>
        intro vals a W hS hL
        have e1 : a.tmps.getD 1 undef = .pointer (some ⟨w.heap.size, 0, none⟩) := hL.1
        clear hL
        have kb : Bk W (w.heap.size) 32 #[.int .i64 4, .int .i64 0, .int .i64 0, .string ⟨#[]⟩, .bool false, .int .i64 e] := hS.bk 0 rfl rfl
        have f0 := kb.cell 0
        have f1 := kb.cell 1
        have f2 := kb.cell 2
        have f3 := kb.cell 3
        have f4 := kb.cell 4
        have f5 := kb.cell 5
        clear kb
        go_simp
        exact ⟨⟨fun d hd => by injection hd with hd; subst hd; rfl, fun h => by cases h⟩, hS, trivial⟩
    · as_aux_lemma =>
        intro vals a W hS hL
        have e6 : a.tmps.getD 6 undef = .agg #[.int .i64 4, .int .i64 0, .int .i64 0, .string ⟨#[]⟩, .bool false, .int .i64 e] := hL.1
        clear hL
        go_simp
        refine (HO.out W).mono ?_
        rintro e W' ⟨rfl, hb⟩
        exact ⟨_, rfl, ⟨fun d hd => by injection hd with hd; subst hd; rfl, fun h => by cases h⟩, hS.call hb, trivial⟩
    · as_aux_lemma =>
        intro vals a W hS hL
        have e5 : a.tmps.getD 5 undef = .agg #[.int .i64 4, .int .i64 0, .int .i64 0, .string ⟨#[]⟩, .bool false, .int .i64 e] := hL.1
        have e7 : a.tmps.getD 7 undef = .agg #[.int .i64 4, .int .i64 0, .int .i64 0, .string ⟨#[]⟩, .bool false, .int .i64 e] := hL.2.1
        clear hL
        go_simp
        exact ⟨⟨fun d hd => by injection hd with hd; subst hd; rfl, fun h => by cases h⟩, hS, trivial⟩
  · intro a W' vals hd hsz hT hF hv hP hS
    obtain rfl : vals = [] := List.eq_nil_of_length_eq_zero hv
    have hS2 : SX w 1 ([] : List Stp) [] ([(w.heap.size, 32, #[.int .i64 4, .int .i64 0, .int .i64 0, .string ⟨#[]⟩, .bool false, .int .i64 e])] : List (Nat × TypeId × Array Value)) W' := hS
    clear hS
    have hB0 := hS2
    have hB : SB w 1 ([(w.heap.size, 32, #[.int .i64 4, .int .i64 0, .int .i64 0, .string ⟨#[]⟩, .bool false, .int .i64 e])] : List (Nat × TypeId × Array Value)) W' := hB0
    clear hB0
    have e1 : a.tmps.getD 1 undef = .pointer (some ⟨w.heap.size, 0, none⟩) := hT 1 (by simp)
    have e8 : a.tmps.getD 8 undef = .bool false := hT 8 (by simp)
    clear hT hF hP
    rw [act_lit 34 a hd hsz]
    simp only [List.range, List.range.loop, List.map, e1, e8]
    clear hd hsz e1 e8
    have kb := hB.box (i := 0) rfl
    have cb0 := kb.cell 0
    have cb1 := kb.cell 1
    have cb2 := kb.cell 2
    have cb3 := kb.cell 3
    have cb4 := kb.cell 4
    have cb5 := kb.cell 5
    clear kb
    go_wp2_with fail
    refine (HC.out _).mono ?_
    rintro x w2 ⟨rfl, rfl⟩
    have hbel := hB.bel
    clear hB HB HO HC
    go_wp2
    go_ret
    exact ⟨rfl, hbel⟩
set_option maxRecDepth 20000 in
theorem check_err_no {w : World} (e : Int) (L : List UInt8) (hL : erL e = L) (h0 : L = []) :
    Calls Tryd.prog 14 #[.agg #[.int .i64 4, .int .i64 0, .int .i64 0, .string ⟨#[]⟩, .bool false, .int .i64 e]] w fun x w' => x = .returned (.int .i64 1) ∧ Below w.heap.size w w' := by
  have HO := Lib.hid (fun W : World => own_err (w := W) 0 0 ⟨#[]⟩ false e)
  have HC : Hid (∀ W : World, Calls Tryd.prog 38 #[.int .i64 e] W fun x w' => x = .returned (sL L) ∧ w' = W) := Lib.hid (fun W => by
    have := faultText_any (w := W) e
    rw [hL] at this
    exact this)
  unfold sL at HC
  subst h0
  clear hL
  have HB := Lib.hid (sb1 w 32 #[.int .i64 4, .int .i64 0, .int .i64 0, .string ⟨#[]⟩, .bool false, .int .i64 e])
  go_enter Tryd.func14, Tryd.ntmps14
  go_wp2_with fail
  refine wp_region_phases (S := (fun vals W => SX w 1 ([] : List Stp) vals ([(w.heap.size, 32, #[.int .i64 4, .int .i64 0, .int .i64 0, .string ⟨#[]⟩, .bool false, .int .i64 e])] : List (Nat × TypeId × Array Value)) W)) (E := (fun _ _ => True)) [] [(1, Is (.pointer (some ⟨w.heap.size, 0, none⟩)))] [(5, Is (.agg #[.int .i64 4, .int .i64 0, .int .i64 0, .string ⟨#[]⟩, .bool false, .int .i64 e])), (6, Is (.agg #[.int .i64 4, .int .i64 0, .int .i64 0, .string ⟨#[]⟩, .bool false, .int .i64 e])), (7, Is (.agg #[.int .i64 4, .int .i64 0, .int .i64 0, .string ⟨#[]⟩, .bool false, .int .i64 e])), (8, Is (.bool false))]
    [.op [1] none, .op [1] none, .op [6] none, .op [5, 7] none] (by as_aux_lemma => kernel_rfl) ?_ ?_ ?_ ?_ ?_ ⟨stable_is _ _, stable_is _ _, stable_is _ _, stable_is _ _, stable_is _ _, trivial⟩ ?_ (HB.out.drew) ?_ ?_
  · as_aux_lemma => kernel_rfl
  · as_aux_lemma => kernel_rfl
  · as_aux_lemma => kernel_rfl
  · as_aux_lemma => kernel_rfl
  · as_aux_lemma => kernel_rfl
  · exact ⟨rfl, trivial⟩
  · refine ⟨?_, ?_, ?_, ?_, trivial⟩
    · as_aux_lemma =>
        intro vals a W hS hL
        have e1 : a.tmps.getD 1 undef = .pointer (some ⟨w.heap.size, 0, none⟩) := hL.1
        clear hL
        have kb : Bk W (w.heap.size) 32 #[.int .i64 4, .int .i64 0, .int .i64 0, .string ⟨#[]⟩, .bool false, .int .i64 e] := hS.bk 0 rfl rfl
        have f0 := kb.cell 0
        have f1 := kb.cell 1
        have f2 := kb.cell 2
        have f3 := kb.cell 3
        have f4 := kb.cell 4
        have f5 := kb.cell 5
        clear kb
        go_simp
        exact ⟨⟨fun d hd => by injection hd with hd; subst hd; rfl, fun h => by cases h⟩, hS, trivial⟩
    · as_aux_lemma =>
        intro vals a W hS hL
        have e1 : a.tmps.getD 1 undef = .pointer (some ⟨w.heap.size, 0, none⟩) := hL.1
        clear hL
        have kb : Bk W (w.heap.size) 32 #[.int .i64 4, .int .i64 0, .int .i64 0, .string ⟨#[]⟩, .bool false, .int .i64 e] := hS.bk 0 rfl rfl
        have f0 := kb.cell 0
        have f1 := kb.cell 1
        have f2 := kb.cell 2
        have f3 := kb.cell 3
        have f4 := kb.cell 4
        have f5 := kb.cell 5
        clear kb
        go_simp
        exact ⟨⟨fun d hd => by injection hd with hd; subst hd; rfl, fun h => by cases h⟩, hS, trivial⟩
    · as_aux_lemma =>
        intro vals a W hS hL
        have e6 : a.tmps.getD 6 undef = .agg #[.int .i64 4, .int .i64 0, .int .i64 0, .string ⟨#[]⟩, .bool false, .int .i64 e] := hL.1
        clear hL
        go_simp
        refine (HO.out W).mono ?_
        rintro e W' ⟨rfl, hb⟩
        exact ⟨_, rfl, ⟨fun d hd => by injection hd with hd; subst hd; rfl, fun h => by cases h⟩, hS.call hb, trivial⟩
    · as_aux_lemma =>
        intro vals a W hS hL
        have e5 : a.tmps.getD 5 undef = .agg #[.int .i64 4, .int .i64 0, .int .i64 0, .string ⟨#[]⟩, .bool false, .int .i64 e] := hL.1
        have e7 : a.tmps.getD 7 undef = .agg #[.int .i64 4, .int .i64 0, .int .i64 0, .string ⟨#[]⟩, .bool false, .int .i64 e] := hL.2.1
        clear hL
        go_simp
        exact ⟨⟨fun d hd => by injection hd with hd; subst hd; rfl, fun h => by cases h⟩, hS, trivial⟩
  · intro a W' vals hd hsz hT hF hv hP hS
    obtain rfl : vals = [] := List.eq_nil_of_length_eq_zero hv
    have hS2 : SX w 1 ([] : List Stp) [] ([(w.heap.size, 32, #[.int .i64 4, .int .i64 0, .int .i64 0, .string ⟨#[]⟩, .bool false, .int .i64 e])] : List (Nat × TypeId × Array Value)) W' := hS
    clear hS
    have hB0 := hS2
    have hB : SB w 1 ([(w.heap.size, 32, #[.int .i64 4, .int .i64 0, .int .i64 0, .string ⟨#[]⟩, .bool false, .int .i64 e])] : List (Nat × TypeId × Array Value)) W' := hB0
    clear hB0
    have e1 : a.tmps.getD 1 undef = .pointer (some ⟨w.heap.size, 0, none⟩) := hT 1 (by simp)
    have e8 : a.tmps.getD 8 undef = .bool false := hT 8 (by simp)
    clear hT hF hP
    rw [act_lit 34 a hd hsz]
    simp only [List.range, List.range.loop, List.map, e1, e8]
    clear hd hsz e1 e8
    have kb := hB.box (i := 0) rfl
    have cb0 := kb.cell 0
    have cb1 := kb.cell 1
    have cb2 := kb.cell 2
    have cb3 := kb.cell 3
    have cb4 := kb.cell 4
    have cb5 := kb.cell 5
    clear kb
    go_wp2_with fail
    refine (HC.out _).mono ?_
    rintro x w2 ⟨rfl, rfl⟩
    have hbel := hB.bel
    clear hB HB HO HC
    go_wp2
    go_ret
    exact ⟨rfl, hbel⟩
theorem check_err {w : World} (e : Int) :
    Calls Tryd.prog 14 #[.agg #[.int .i64 4, .int .i64 0, .int .i64 0, .string ⟨#[]⟩, .bool false, .int .i64 e]] w fun x w' => x = .returned (.int .i64 (feE e)) ∧ Below w.heap.size w w' := by
  by_cases h : e = 0 ∨ e = 7 ∨ e = 15 ∨ e = 23 ∨ e = 29 ∨ e = 36 ∨ e = 42
  · unfold feE
    rw [if_pos h]
    exact check_err_yes e _ rfl fun h' => (erL_none e).1 h' h
  · unfold feE
    rw [if_neg h]
    exact check_err_no e _ rfl ((erL_none e).2 h)
end Go.Proofs.YtkjiokepihmpfaaDoor
