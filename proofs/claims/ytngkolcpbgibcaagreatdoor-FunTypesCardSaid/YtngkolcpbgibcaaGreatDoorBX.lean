/- val.Check by its contract. Condition: utf8.ValidString keeps its contract (its tables are laid). -/
/- val's Text, Words, Truth, Number by their contracts, at each form of a value. Condition: strconv.FormatUint keeps its contract. -/
/- val.Compare by its contract. Condition: the texts are not too long. -/
/- val.Compare of any two values that may be, and val.Same, by their contracts. Condition: the texts are not too long. -/
/- What functions are told of values, plainly: as numbers, as words, as truths; what a reckoning tells. No condition. -/
/- Boxes of a call's own, told as a list: made, read, written as wholes, without being looked into. No condition. -/
import Derived.Test.YtngkolcpbgibcaaGreatDoorCt
import Derived.Test.YtngkolcpbgibcaaGreatDoorTx9
import Derived.Test.YtngkolcpbgibcaaGreatDoorJoin
import Derived.Test.YtngkolcpbgibcaaGreatDoorD5
import Derived.Deep.MidRow
set_option linter.unusedVariables false
set_option linter.unusedSimpArgs false
namespace Go.Proofs.YtngkolcpbgibcaaGreatDoor
open Go.RowKit
set_option maxRecDepth 20000 in
theorem check_bad_num {w : World} (m s : Int) (t : ByteArray) (b : Bool) (e : Int) (h : ¬ (t.toList = [] ∧ b = false ∧ e = 0)) :
    Calls Tryz.prog 17 #[.agg #[.int .i64 1, .int .i64 m, .int .i64 s, .string t, .bool b, .int .i64 e]] w fun x w' => x = .returned (.int .i64 1) ∧ Below w.heap.size w w' := by
  have HO := Lib.hid (fun W : World => own_num (w := W) m s t b e); have HB := Lib.hid (sb1 w 32 #[.int .i64 1, .int .i64 m, .int .i64 s, .string t, .bool b, .int .i64 e]); go_enter Tryz.func17, Tryz.ntmps17
  go_wp2_with fail
  refine wp_region_phases (S := (fun vals W => SX w 1 ([] : List Stp) vals ([(w.heap.size, 32, #[.int .i64 1, .int .i64 m, .int .i64 s, .string t, .bool b, .int .i64 e])] : List (Nat × TypeId × Array Value)) W)) (E := (fun _ _ => True)) [] [(1, Is (.pointer (some ⟨w.heap.size, 0, none⟩)))] [(5, Is (.agg #[.int .i64 1, .int .i64 m, .int .i64 s, .string t, .bool b, .int .i64 e])), (6, Is (.agg #[.int .i64 1, .int .i64 m, .int .i64 s, .string t, .bool b, .int .i64 e])), (7, Is (.agg #[.int .i64 1, .int .i64 m, .int .i64 s, .string ⟨#[]⟩, .bool false, .int .i64 0])), (8, Is (.bool true))]
    [.op [1] none, .op [1] none, .op [6] none, .op [5, 7] none] (by as_aux_lemma => kernel_rfl) ?_ ?_ ?_ ?_ ?_ ⟨stable_is _ _, stable_is _ _, stable_is _ _, stable_is _ _, stable_is _ _, trivial⟩ ?_ (HB.out.drew) ?_ ?_
  · as_aux_lemma => kernel_rfl
  · as_aux_lemma => kernel_rfl
  · as_aux_lemma => kernel_rfl
  · as_aux_lemma => kernel_rfl
  · as_aux_lemma => kernel_rfl
  · exact ⟨rfl, trivial⟩
  · refine ⟨?_, ?_, ?_, ?_, trivial⟩
    · as_aux_lemma =>
        intro vals a W hS hL; have e1 : a.tmps.getD 1 undef = .pointer (some ⟨w.heap.size, 0, none⟩) := hL.1; clear hL; have kb : Bk W (w.heap.size) 32 #[.int .i64 1, .int .i64 m, .int .i64 s, .string t, .bool b, .int .i64 e] := hS.bk 0 rfl rfl; have f0 := kb.cell 0; have f1 := kb.cell 1; have f2 := kb.cell 2; have f3 := kb.cell 3; have f4 := kb.cell 4; have f5 := kb.cell 5; clear kb; go_simp; exact ⟨⟨fun d hd => by injection hd with hd; subst hd; rfl, fun h => by cases h⟩, hS, trivial⟩
    · as_aux_lemma =>
        intro vals a W hS hL; have e1 : a.tmps.getD 1 undef = .pointer (some ⟨w.heap.size, 0, none⟩) := hL.1; clear hL; have kb : Bk W (w.heap.size) 32 #[.int .i64 1, .int .i64 m, .int .i64 s, .string t, .bool b, .int .i64 e] := hS.bk 0 rfl rfl; have f0 := kb.cell 0; have f1 := kb.cell 1; have f2 := kb.cell 2; have f3 := kb.cell 3; have f4 := kb.cell 4; have f5 := kb.cell 5; clear kb; go_simp; exact ⟨⟨fun d hd => by injection hd with hd; subst hd; rfl, fun h => by cases h⟩, hS, trivial⟩
    · as_aux_lemma =>
        intro vals a W hS hL; have e6 : a.tmps.getD 6 undef = .agg #[.int .i64 1, .int .i64 m, .int .i64 s, .string t, .bool b, .int .i64 e] := hL.1; clear hL; go_simp; refine (HO.out W).mono ?_; rintro e W' ⟨rfl, hb⟩; exact ⟨_, rfl, ⟨fun d hd => by injection hd with hd; subst hd; rfl, fun h => by cases h⟩, hS.call hb, trivial⟩
    · as_aux_lemma =>
        intro vals a W hS hL; have e5 : a.tmps.getD 5 undef = .agg #[.int .i64 1, .int .i64 m, .int .i64 s, .string t, .bool b, .int .i64 e] := hL.1; have e7 : a.tmps.getD 7 undef = .agg #[.int .i64 1, .int .i64 m, .int .i64 s, .string ⟨#[]⟩, .bool false, .int .i64 0] := hL.2.1; clear hL; rw [Array.getD_eq_getD_getElem?] at e5 e7; go_simp
        repeat' split
        all_goals first | exact ⟨⟨fun d hd => by injection hd with hd; subst hd; rfl, fun h => by cases h⟩, hS, trivial⟩ | (exfalso; simp_all)
  · intro a W' vals hd hsz hT hF hv hP hS; obtain rfl : vals = [] := List.eq_nil_of_length_eq_zero hv; have hS2 : SX w 1 ([] : List Stp) [] ([(w.heap.size, 32, #[.int .i64 1, .int .i64 m, .int .i64 s, .string t, .bool b, .int .i64 e])] : List (Nat × TypeId × Array Value)) W' := hS; clear hS; have hB0 := hS2; have hB : SB w 1 ([(w.heap.size, 32, #[.int .i64 1, .int .i64 m, .int .i64 s, .string t, .bool b, .int .i64 e])] : List (Nat × TypeId × Array Value)) W' := hB0; clear hB0; have e1 : a.tmps.getD 1 undef = .pointer (some ⟨w.heap.size, 0, none⟩) := hT 1 (by simp); have e8 : a.tmps.getD 8 undef = .bool true := hT 8 (by simp); clear hT hF hP; rw [act_lit 34 a hd hsz]; simp only [List.range, List.range.loop, List.map, e1, e8]; clear hd hsz e1 e8; go_wp2; go_ret; exact ⟨rfl, hB.bel⟩
set_option maxRecDepth 20000 in
theorem check_bad_str {w : World} (m s : Int) (t : ByteArray) (b : Bool) (e : Int) (h : ¬ (m = 0 ∧ s = 0 ∧ b = false ∧ e = 0)) :
    Calls Tryz.prog 17 #[.agg #[.int .i64 2, .int .i64 m, .int .i64 s, .string t, .bool b, .int .i64 e]] w fun x w' => x = .returned (.int .i64 1) ∧ Below w.heap.size w w' := by
  have HO := Lib.hid (fun W : World => own_str (w := W) m s t b e); have HB := Lib.hid (sb1 w 32 #[.int .i64 2, .int .i64 m, .int .i64 s, .string t, .bool b, .int .i64 e]); go_enter Tryz.func17, Tryz.ntmps17
  go_wp2_with fail
  refine wp_region_phases (S := (fun vals W => SX w 1 ([] : List Stp) vals ([(w.heap.size, 32, #[.int .i64 2, .int .i64 m, .int .i64 s, .string t, .bool b, .int .i64 e])] : List (Nat × TypeId × Array Value)) W)) (E := (fun _ _ => True)) [] [(1, Is (.pointer (some ⟨w.heap.size, 0, none⟩)))] [(5, Is (.agg #[.int .i64 2, .int .i64 m, .int .i64 s, .string t, .bool b, .int .i64 e])), (6, Is (.agg #[.int .i64 2, .int .i64 m, .int .i64 s, .string t, .bool b, .int .i64 e])), (7, Is (.agg #[.int .i64 2, .int .i64 0, .int .i64 0, .string t, .bool false, .int .i64 0])), (8, Is (.bool true))]
    [.op [1] none, .op [1] none, .op [6] none, .op [5, 7] none] (by as_aux_lemma => kernel_rfl) ?_ ?_ ?_ ?_ ?_ ⟨stable_is _ _, stable_is _ _, stable_is _ _, stable_is _ _, stable_is _ _, trivial⟩ ?_ (HB.out.drew) ?_ ?_
  · as_aux_lemma => kernel_rfl
  · as_aux_lemma => kernel_rfl
  · as_aux_lemma => kernel_rfl
  · as_aux_lemma => kernel_rfl
  · as_aux_lemma => kernel_rfl
  · exact ⟨rfl, trivial⟩
  · refine ⟨?_, ?_, ?_, ?_, trivial⟩
    · as_aux_lemma =>
        intro vals a W hS hL; have e1 : a.tmps.getD 1 undef = .pointer (some ⟨w.heap.size, 0, none⟩) := hL.1; clear hL; have kb : Bk W (w.heap.size) 32 #[.int .i64 2, .int .i64 m, .int .i64 s, .string t, .bool b, .int .i64 e] := hS.bk 0 rfl rfl; have f0 := kb.cell 0; have f1 := kb.cell 1; have f2 := kb.cell 2; have f3 := kb.cell 3; have f4 := kb.cell 4; have f5 := kb.cell 5; clear kb; go_simp; exact ⟨⟨fun d hd => by injection hd with hd; subst hd; rfl, fun h => by cases h⟩, hS, trivial⟩
    · as_aux_lemma =>
        intro vals a W hS hL; have e1 : a.tmps.getD 1 undef = .pointer (some ⟨w.heap.size, 0, none⟩) := hL.1; clear hL; have kb : Bk W (w.heap.size) 32 #[.int .i64 2, .int .i64 m, .int .i64 s, .string t, .bool b, .int .i64 e] := hS.bk 0 rfl rfl; have f0 := kb.cell 0; have f1 := kb.cell 1; have f2 := kb.cell 2; have f3 := kb.cell 3; have f4 := kb.cell 4; have f5 := kb.cell 5; clear kb; go_simp; exact ⟨⟨fun d hd => by injection hd with hd; subst hd; rfl, fun h => by cases h⟩, hS, trivial⟩
    · as_aux_lemma =>
        intro vals a W hS hL; have e6 : a.tmps.getD 6 undef = .agg #[.int .i64 2, .int .i64 m, .int .i64 s, .string t, .bool b, .int .i64 e] := hL.1; clear hL; go_simp; refine (HO.out W).mono ?_; rintro e W' ⟨rfl, hb⟩; exact ⟨_, rfl, ⟨fun d hd => by injection hd with hd; subst hd; rfl, fun h => by cases h⟩, hS.call hb, trivial⟩
    · as_aux_lemma =>
        intro vals a W hS hL; have e5 : a.tmps.getD 5 undef = .agg #[.int .i64 2, .int .i64 m, .int .i64 s, .string t, .bool b, .int .i64 e] := hL.1; have e7 : a.tmps.getD 7 undef = .agg #[.int .i64 2, .int .i64 0, .int .i64 0, .string t, .bool false, .int .i64 0] := hL.2.1; clear hL; rw [Array.getD_eq_getD_getElem?] at e5 e7; go_simp
        repeat' split
        all_goals first | exact ⟨⟨fun d hd => by injection hd with hd; subst hd; rfl, fun h => by cases h⟩, hS, trivial⟩ | (exfalso; simp_all)
  · intro a W' vals hd hsz hT hF hv hP hS; obtain rfl : vals = [] := List.eq_nil_of_length_eq_zero hv; have hS2 : SX w 1 ([] : List Stp) [] ([(w.heap.size, 32, #[.int .i64 2, .int .i64 m, .int .i64 s, .string t, .bool b, .int .i64 e])] : List (Nat × TypeId × Array Value)) W' := hS; clear hS; have hB0 := hS2; have hB : SB w 1 ([(w.heap.size, 32, #[.int .i64 2, .int .i64 m, .int .i64 s, .string t, .bool b, .int .i64 e])] : List (Nat × TypeId × Array Value)) W' := hB0; clear hB0; have e1 : a.tmps.getD 1 undef = .pointer (some ⟨w.heap.size, 0, none⟩) := hT 1 (by simp); have e8 : a.tmps.getD 8 undef = .bool true := hT 8 (by simp); clear hT hF hP; rw [act_lit 34 a hd hsz]; simp only [List.range, List.range.loop, List.map, e1, e8]; clear hd hsz e1 e8; go_wp2; go_ret; exact ⟨rfl, hB.bel⟩
set_option maxRecDepth 20000 in
theorem check_bad_bool {w : World} (m s : Int) (t : ByteArray) (b : Bool) (e : Int) (h : ¬ (m = 0 ∧ s = 0 ∧ t.toList = [] ∧ e = 0)) :
    Calls Tryz.prog 17 #[.agg #[.int .i64 3, .int .i64 m, .int .i64 s, .string t, .bool b, .int .i64 e]] w fun x w' => x = .returned (.int .i64 1) ∧ Below w.heap.size w w' := by
  have HO := Lib.hid (fun W : World => own_bool (w := W) m s t b e); have HB := Lib.hid (sb1 w 32 #[.int .i64 3, .int .i64 m, .int .i64 s, .string t, .bool b, .int .i64 e]); go_enter Tryz.func17, Tryz.ntmps17
  go_wp2_with fail
  refine wp_region_phases (S := (fun vals W => SX w 1 ([] : List Stp) vals ([(w.heap.size, 32, #[.int .i64 3, .int .i64 m, .int .i64 s, .string t, .bool b, .int .i64 e])] : List (Nat × TypeId × Array Value)) W)) (E := (fun _ _ => True)) [] [(1, Is (.pointer (some ⟨w.heap.size, 0, none⟩)))] [(5, Is (.agg #[.int .i64 3, .int .i64 m, .int .i64 s, .string t, .bool b, .int .i64 e])), (6, Is (.agg #[.int .i64 3, .int .i64 m, .int .i64 s, .string t, .bool b, .int .i64 e])), (7, Is (.agg #[.int .i64 3, .int .i64 0, .int .i64 0, .string ⟨#[]⟩, .bool b, .int .i64 0])), (8, Is (.bool true))]
    [.op [1] none, .op [1] none, .op [6] none, .op [5, 7] none] (by as_aux_lemma => kernel_rfl) ?_ ?_ ?_ ?_ ?_ ⟨stable_is _ _, stable_is _ _, stable_is _ _, stable_is _ _, stable_is _ _, trivial⟩ ?_ (HB.out.drew) ?_ ?_
  · as_aux_lemma => kernel_rfl
  · as_aux_lemma => kernel_rfl
  · as_aux_lemma => kernel_rfl
  · as_aux_lemma => kernel_rfl
  · as_aux_lemma => kernel_rfl
  · exact ⟨rfl, trivial⟩
  · refine ⟨?_, ?_, ?_, ?_, trivial⟩
    · as_aux_lemma =>
        intro vals a W hS hL; have e1 : a.tmps.getD 1 undef = .pointer (some ⟨w.heap.size, 0, none⟩) := hL.1; clear hL; have kb : Bk W (w.heap.size) 32 #[.int .i64 3, .int .i64 m, .int .i64 s, .string t, .bool b, .int .i64 e] := hS.bk 0 rfl rfl; have f0 := kb.cell 0; have f1 := kb.cell 1; have f2 := kb.cell 2; have f3 := kb.cell 3; have f4 := kb.cell 4; have f5 := kb.cell 5; clear kb; go_simp; exact ⟨⟨fun d hd => by injection hd with hd; subst hd; rfl, fun h => by cases h⟩, hS, trivial⟩
    · as_aux_lemma =>
        intro vals a W hS hL; have e1 : a.tmps.getD 1 undef = .pointer (some ⟨w.heap.size, 0, none⟩) := hL.1; clear hL; have kb : Bk W (w.heap.size) 32 #[.int .i64 3, .int .i64 m, .int .i64 s, .string t, .bool b, .int .i64 e] := hS.bk 0 rfl rfl; have f0 := kb.cell 0; have f1 := kb.cell 1; have f2 := kb.cell 2; have f3 := kb.cell 3; have f4 := kb.cell 4; have f5 := kb.cell 5; clear kb; go_simp; exact ⟨⟨fun d hd => by injection hd with hd; subst hd; rfl, fun h => by cases h⟩, hS, trivial⟩
    · as_aux_lemma =>
        intro vals a W hS hL; have e6 : a.tmps.getD 6 undef = .agg #[.int .i64 3, .int .i64 m, .int .i64 s, .string t, .bool b, .int .i64 e] := hL.1; clear hL; go_simp; refine (HO.out W).mono ?_; rintro e W' ⟨rfl, hb⟩; exact ⟨_, rfl, ⟨fun d hd => by injection hd with hd; subst hd; rfl, fun h => by cases h⟩, hS.call hb, trivial⟩
    · as_aux_lemma =>
        intro vals a W hS hL; have e5 : a.tmps.getD 5 undef = .agg #[.int .i64 3, .int .i64 m, .int .i64 s, .string t, .bool b, .int .i64 e] := hL.1; have e7 : a.tmps.getD 7 undef = .agg #[.int .i64 3, .int .i64 0, .int .i64 0, .string ⟨#[]⟩, .bool b, .int .i64 0] := hL.2.1; clear hL; rw [Array.getD_eq_getD_getElem?] at e5 e7; go_simp
        repeat' split
        all_goals first | exact ⟨⟨fun d hd => by injection hd with hd; subst hd; rfl, fun h => by cases h⟩, hS, trivial⟩ | (exfalso; simp_all)
  · intro a W' vals hd hsz hT hF hv hP hS; obtain rfl : vals = [] := List.eq_nil_of_length_eq_zero hv; have hS2 : SX w 1 ([] : List Stp) [] ([(w.heap.size, 32, #[.int .i64 3, .int .i64 m, .int .i64 s, .string t, .bool b, .int .i64 e])] : List (Nat × TypeId × Array Value)) W' := hS; clear hS; have hB0 := hS2; have hB : SB w 1 ([(w.heap.size, 32, #[.int .i64 3, .int .i64 m, .int .i64 s, .string t, .bool b, .int .i64 e])] : List (Nat × TypeId × Array Value)) W' := hB0; clear hB0; have e1 : a.tmps.getD 1 undef = .pointer (some ⟨w.heap.size, 0, none⟩) := hT 1 (by simp); have e8 : a.tmps.getD 8 undef = .bool true := hT 8 (by simp); clear hT hF hP; rw [act_lit 34 a hd hsz]; simp only [List.range, List.range.loop, List.map, e1, e8]; clear hd hsz e1 e8; go_wp2; go_ret; exact ⟨rfl, hB.bel⟩
set_option maxRecDepth 20000 in
theorem check_bad_err {w : World} (m s : Int) (t : ByteArray) (b : Bool) (e : Int) (h : ¬ (m = 0 ∧ s = 0 ∧ t.toList = [] ∧ b = false)) :
    Calls Tryz.prog 17 #[.agg #[.int .i64 4, .int .i64 m, .int .i64 s, .string t, .bool b, .int .i64 e]] w fun x w' => x = .returned (.int .i64 1) ∧ Below w.heap.size w w' := by
  have HO := Lib.hid (fun W : World => own_err (w := W) m s t b e); have HB := Lib.hid (sb1 w 32 #[.int .i64 4, .int .i64 m, .int .i64 s, .string t, .bool b, .int .i64 e]); go_enter Tryz.func17, Tryz.ntmps17
  go_wp2_with fail
  refine wp_region_phases (S := (fun vals W => SX w 1 ([] : List Stp) vals ([(w.heap.size, 32, #[.int .i64 4, .int .i64 m, .int .i64 s, .string t, .bool b, .int .i64 e])] : List (Nat × TypeId × Array Value)) W)) (E := (fun _ _ => True)) [] [(1, Is (.pointer (some ⟨w.heap.size, 0, none⟩)))] [(5, Is (.agg #[.int .i64 4, .int .i64 m, .int .i64 s, .string t, .bool b, .int .i64 e])), (6, Is (.agg #[.int .i64 4, .int .i64 m, .int .i64 s, .string t, .bool b, .int .i64 e])), (7, Is (.agg #[.int .i64 4, .int .i64 0, .int .i64 0, .string ⟨#[]⟩, .bool false, .int .i64 e])), (8, Is (.bool true))]
    [.op [1] none, .op [1] none, .op [6] none, .op [5, 7] none] (by as_aux_lemma => kernel_rfl) ?_ ?_ ?_ ?_ ?_ ⟨stable_is _ _, stable_is _ _, stable_is _ _, stable_is _ _, stable_is _ _, trivial⟩ ?_ (HB.out.drew) ?_ ?_
  · as_aux_lemma => kernel_rfl
  · as_aux_lemma => kernel_rfl
  · as_aux_lemma => kernel_rfl
  · as_aux_lemma => kernel_rfl
  · as_aux_lemma => kernel_rfl
  · exact ⟨rfl, trivial⟩
  · refine ⟨?_, ?_, ?_, ?_, trivial⟩
    · as_aux_lemma =>
        intro vals a W hS hL; have e1 : a.tmps.getD 1 undef = .pointer (some ⟨w.heap.size, 0, none⟩) := hL.1; clear hL; have kb : Bk W (w.heap.size) 32 #[.int .i64 4, .int .i64 m, .int .i64 s, .string t, .bool b, .int .i64 e] := hS.bk 0 rfl rfl; have f0 := kb.cell 0; have f1 := kb.cell 1; have f2 := kb.cell 2; have f3 := kb.cell 3; have f4 := kb.cell 4; have f5 := kb.cell 5; clear kb; go_simp; exact ⟨⟨fun d hd => by injection hd with hd; subst hd; rfl, fun h => by cases h⟩, hS, trivial⟩
    · as_aux_lemma =>
        intro vals a W hS hL; have e1 : a.tmps.getD 1 undef = .pointer (some ⟨w.heap.size, 0, none⟩) := hL.1; clear hL; have kb : Bk W (w.heap.size) 32 #[.int .i64 4, .int .i64 m, .int .i64 s, .string t, .bool b, .int .i64 e] := hS.bk 0 rfl rfl; have f0 := kb.cell 0; have f1 := kb.cell 1; have f2 := kb.cell 2; have f3 := kb.cell 3; have f4 := kb.cell 4; have f5 := kb.cell 5; clear kb; go_simp; exact ⟨⟨fun d hd => by injection hd with hd; subst hd; rfl, fun h => by cases h⟩, hS, trivial⟩
    · as_aux_lemma =>
        intro vals a W hS hL; have e6 : a.tmps.getD 6 undef = .agg #[.int .i64 4, .int .i64 m, .int .i64 s, .string t, .bool b, .int .i64 e] := hL.1; clear hL; go_simp; refine (HO.out W).mono ?_; rintro e W' ⟨rfl, hb⟩; exact ⟨_, rfl, ⟨fun d hd => by injection hd with hd; subst hd; rfl, fun h => by cases h⟩, hS.call hb, trivial⟩
    · as_aux_lemma =>
        intro vals a W hS hL; have e5 : a.tmps.getD 5 undef = .agg #[.int .i64 4, .int .i64 m, .int .i64 s, .string t, .bool b, .int .i64 e] := hL.1; have e7 : a.tmps.getD 7 undef = .agg #[.int .i64 4, .int .i64 0, .int .i64 0, .string ⟨#[]⟩, .bool false, .int .i64 e] := hL.2.1; clear hL; rw [Array.getD_eq_getD_getElem?] at e5 e7; go_simp
        repeat' split
        all_goals first | exact ⟨⟨fun d hd => by injection hd with hd; subst hd; rfl, fun h => by cases h⟩, hS, trivial⟩ | (exfalso; simp_all)
  · intro a W' vals hd hsz hT hF hv hP hS; obtain rfl : vals = [] := List.eq_nil_of_length_eq_zero hv; have hS2 : SX w 1 ([] : List Stp) [] ([(w.heap.size, 32, #[.int .i64 4, .int .i64 m, .int .i64 s, .string t, .bool b, .int .i64 e])] : List (Nat × TypeId × Array Value)) W' := hS; clear hS; have hB0 := hS2; have hB : SB w 1 ([(w.heap.size, 32, #[.int .i64 4, .int .i64 m, .int .i64 s, .string t, .bool b, .int .i64 e])] : List (Nat × TypeId × Array Value)) W' := hB0; clear hB0; have e1 : a.tmps.getD 1 undef = .pointer (some ⟨w.heap.size, 0, none⟩) := hT 1 (by simp); have e8 : a.tmps.getD 8 undef = .bool true := hT 8 (by simp); clear hT hF hP; rw [act_lit 34 a hd hsz]; simp only [List.range, List.range.loop, List.map, e1, e8]; clear hd hsz e1 e8; go_wp2; go_ret; exact ⟨rfl, hB.bel⟩
set_option maxRecDepth 20000 in
theorem check_bad_blank {w : World} (m s : Int) (t : ByteArray) (b : Bool) (e : Int) (h : ¬ (m = 0 ∧ s = 0 ∧ t.toList = [] ∧ b = false ∧ e = 0)) :
    Calls Tryz.prog 17 #[.agg #[.int .i64 0, .int .i64 m, .int .i64 s, .string t, .bool b, .int .i64 e]] w fun x w' => x = .returned (.int .i64 1) ∧ Below w.heap.size w w' := by
  have HO := Lib.hid (fun W : World => own_blank (w := W) m s t b e); have HB := Lib.hid (sb1 w 32 #[.int .i64 0, .int .i64 m, .int .i64 s, .string t, .bool b, .int .i64 e]); go_enter Tryz.func17, Tryz.ntmps17
  go_wp2_with fail
  refine wp_region_phases (S := (fun vals W => SX w 1 ([] : List Stp) vals ([(w.heap.size, 32, #[.int .i64 0, .int .i64 m, .int .i64 s, .string t, .bool b, .int .i64 e])] : List (Nat × TypeId × Array Value)) W)) (E := (fun _ _ => True)) [] [(1, Is (.pointer (some ⟨w.heap.size, 0, none⟩)))] [(5, Is (.agg #[.int .i64 0, .int .i64 m, .int .i64 s, .string t, .bool b, .int .i64 e])), (6, Is (.agg #[.int .i64 0, .int .i64 m, .int .i64 s, .string t, .bool b, .int .i64 e])), (7, Is (.agg #[.int .i64 0, .int .i64 0, .int .i64 0, .string ⟨#[]⟩, .bool false, .int .i64 0])), (8, Is (.bool true))]
    [.op [1] none, .op [1] none, .op [6] none, .op [5, 7] none] (by as_aux_lemma => kernel_rfl) ?_ ?_ ?_ ?_ ?_ ⟨stable_is _ _, stable_is _ _, stable_is _ _, stable_is _ _, stable_is _ _, trivial⟩ ?_ (HB.out.drew) ?_ ?_
  · as_aux_lemma => kernel_rfl
  · as_aux_lemma => kernel_rfl
  · as_aux_lemma => kernel_rfl
  · as_aux_lemma => kernel_rfl
  · as_aux_lemma => kernel_rfl
  · exact ⟨rfl, trivial⟩
  · refine ⟨?_, ?_, ?_, ?_, trivial⟩
    · as_aux_lemma =>
        intro vals a W hS hL; have e1 : a.tmps.getD 1 undef = .pointer (some ⟨w.heap.size, 0, none⟩) := hL.1; clear hL; have kb : Bk W (w.heap.size) 32 #[.int .i64 0, .int .i64 m, .int .i64 s, .string t, .bool b, .int .i64 e] := hS.bk 0 rfl rfl; have f0 := kb.cell 0; have f1 := kb.cell 1; have f2 := kb.cell 2; have f3 := kb.cell 3; have f4 := kb.cell 4; have f5 := kb.cell 5; clear kb; go_simp; exact ⟨⟨fun d hd => by injection hd with hd; subst hd; rfl, fun h => by cases h⟩, hS, trivial⟩
    · as_aux_lemma =>
        intro vals a W hS hL; have e1 : a.tmps.getD 1 undef = .pointer (some ⟨w.heap.size, 0, none⟩) := hL.1; clear hL; have kb : Bk W (w.heap.size) 32 #[.int .i64 0, .int .i64 m, .int .i64 s, .string t, .bool b, .int .i64 e] := hS.bk 0 rfl rfl; have f0 := kb.cell 0; have f1 := kb.cell 1; have f2 := kb.cell 2; have f3 := kb.cell 3; have f4 := kb.cell 4; have f5 := kb.cell 5; clear kb; go_simp; exact ⟨⟨fun d hd => by injection hd with hd; subst hd; rfl, fun h => by cases h⟩, hS, trivial⟩
    · as_aux_lemma =>
        intro vals a W hS hL; have e6 : a.tmps.getD 6 undef = .agg #[.int .i64 0, .int .i64 m, .int .i64 s, .string t, .bool b, .int .i64 e] := hL.1; clear hL; go_simp; refine (HO.out W).mono ?_; rintro e W' ⟨rfl, hb⟩; exact ⟨_, rfl, ⟨fun d hd => by injection hd with hd; subst hd; rfl, fun h => by cases h⟩, hS.call hb, trivial⟩
    · as_aux_lemma =>
        intro vals a W hS hL; have e5 : a.tmps.getD 5 undef = .agg #[.int .i64 0, .int .i64 m, .int .i64 s, .string t, .bool b, .int .i64 e] := hL.1; have e7 : a.tmps.getD 7 undef = .agg #[.int .i64 0, .int .i64 0, .int .i64 0, .string ⟨#[]⟩, .bool false, .int .i64 0] := hL.2.1; clear hL; rw [Array.getD_eq_getD_getElem?] at e5 e7; go_simp
        repeat' split
        all_goals first | exact ⟨⟨fun d hd => by injection hd with hd; subst hd; rfl, fun h => by cases h⟩, hS, trivial⟩ | (exfalso; simp_all)
  · intro a W' vals hd hsz hT hF hv hP hS; obtain rfl : vals = [] := List.eq_nil_of_length_eq_zero hv; have hS2 : SX w 1 ([] : List Stp) [] ([(w.heap.size, 32, #[.int .i64 0, .int .i64 m, .int .i64 s, .string t, .bool b, .int .i64 e])] : List (Nat × TypeId × Array Value)) W' := hS; clear hS; have hB0 := hS2; have hB : SB w 1 ([(w.heap.size, 32, #[.int .i64 0, .int .i64 m, .int .i64 s, .string t, .bool b, .int .i64 e])] : List (Nat × TypeId × Array Value)) W' := hB0; clear hB0; have e1 : a.tmps.getD 1 undef = .pointer (some ⟨w.heap.size, 0, none⟩) := hT 1 (by simp); have e8 : a.tmps.getD 8 undef = .bool true := hT 8 (by simp); clear hT hF hP; rw [act_lit 34 a hd hsz]; simp only [List.range, List.range.loop, List.map, e1, e8]; clear hd hsz e1 e8; go_wp2; go_ret; exact ⟨rfl, hB.bel⟩
set_option maxRecDepth 20000 in
theorem check_bad_none {w : World} (k : Int) (m s : Int) (t : ByteArray) (b : Bool) (e : Int) (h1 : ¬ k = 1) (h2 : ¬ k = 2) (h3 : ¬ k = 3) (h4 : ¬ k = 4) (h : ¬ (m = 0 ∧ s = 0 ∧ t.toList = [] ∧ b = false ∧ e = 0)) :
    Calls Tryz.prog 17 #[.agg #[.int .i64 k, .int .i64 m, .int .i64 s, .string t, .bool b, .int .i64 e]] w fun x w' => x = .returned (.int .i64 1) ∧ Below w.heap.size w w' := by
  have HO := Lib.hid (fun W : World => own_none (w := W) k m s t b e h1 h2 h3 h4); have HB := Lib.hid (sb1 w 32 #[.int .i64 k, .int .i64 m, .int .i64 s, .string t, .bool b, .int .i64 e]); go_enter Tryz.func17, Tryz.ntmps17
  go_wp2_with fail
  refine wp_region_phases (S := (fun vals W => SX w 1 ([] : List Stp) vals ([(w.heap.size, 32, #[.int .i64 k, .int .i64 m, .int .i64 s, .string t, .bool b, .int .i64 e])] : List (Nat × TypeId × Array Value)) W)) (E := (fun _ _ => True)) [] [(1, Is (.pointer (some ⟨w.heap.size, 0, none⟩)))] [(5, Is (.agg #[.int .i64 k, .int .i64 m, .int .i64 s, .string t, .bool b, .int .i64 e])), (6, Is (.agg #[.int .i64 k, .int .i64 m, .int .i64 s, .string t, .bool b, .int .i64 e])), (7, Is (.agg #[.int .i64 k, .int .i64 0, .int .i64 0, .string ⟨#[]⟩, .bool false, .int .i64 0])), (8, Is (.bool true))]
    [.op [1] none, .op [1] none, .op [6] none, .op [5, 7] none] (by as_aux_lemma => kernel_rfl) ?_ ?_ ?_ ?_ ?_ ⟨stable_is _ _, stable_is _ _, stable_is _ _, stable_is _ _, stable_is _ _, trivial⟩ ?_ (HB.out.drew) ?_ ?_
  · as_aux_lemma => kernel_rfl
  · as_aux_lemma => kernel_rfl
  · as_aux_lemma => kernel_rfl
  · as_aux_lemma => kernel_rfl
  · as_aux_lemma => kernel_rfl
  · exact ⟨rfl, trivial⟩
  · refine ⟨?_, ?_, ?_, ?_, trivial⟩
    · as_aux_lemma =>
        intro vals a W hS hL; have e1 : a.tmps.getD 1 undef = .pointer (some ⟨w.heap.size, 0, none⟩) := hL.1; clear hL; have kb : Bk W (w.heap.size) 32 #[.int .i64 k, .int .i64 m, .int .i64 s, .string t, .bool b, .int .i64 e] := hS.bk 0 rfl rfl; have f0 := kb.cell 0; have f1 := kb.cell 1; have f2 := kb.cell 2; have f3 := kb.cell 3; have f4 := kb.cell 4; have f5 := kb.cell 5; clear kb; go_simp; exact ⟨⟨fun d hd => by injection hd with hd; subst hd; rfl, fun h => by cases h⟩, hS, trivial⟩
    · as_aux_lemma =>
        intro vals a W hS hL; have e1 : a.tmps.getD 1 undef = .pointer (some ⟨w.heap.size, 0, none⟩) := hL.1; clear hL; have kb : Bk W (w.heap.size) 32 #[.int .i64 k, .int .i64 m, .int .i64 s, .string t, .bool b, .int .i64 e] := hS.bk 0 rfl rfl; have f0 := kb.cell 0; have f1 := kb.cell 1; have f2 := kb.cell 2; have f3 := kb.cell 3; have f4 := kb.cell 4; have f5 := kb.cell 5; clear kb; go_simp; exact ⟨⟨fun d hd => by injection hd with hd; subst hd; rfl, fun h => by cases h⟩, hS, trivial⟩
    · as_aux_lemma =>
        intro vals a W hS hL; have e6 : a.tmps.getD 6 undef = .agg #[.int .i64 k, .int .i64 m, .int .i64 s, .string t, .bool b, .int .i64 e] := hL.1; clear hL; go_simp; refine (HO.out W).mono ?_; rintro e W' ⟨rfl, hb⟩; exact ⟨_, rfl, ⟨fun d hd => by injection hd with hd; subst hd; rfl, fun h => by cases h⟩, hS.call hb, trivial⟩
    · as_aux_lemma =>
        intro vals a W hS hL; have e5 : a.tmps.getD 5 undef = .agg #[.int .i64 k, .int .i64 m, .int .i64 s, .string t, .bool b, .int .i64 e] := hL.1; have e7 : a.tmps.getD 7 undef = .agg #[.int .i64 k, .int .i64 0, .int .i64 0, .string ⟨#[]⟩, .bool false, .int .i64 0] := hL.2.1; clear hL; rw [Array.getD_eq_getD_getElem?] at e5 e7; go_simp
        repeat' split
        all_goals first | exact ⟨⟨fun d hd => by injection hd with hd; subst hd; rfl, fun h => by cases h⟩, hS, trivial⟩ | (exfalso; simp_all)
  · intro a W' vals hd hsz hT hF hv hP hS; obtain rfl : vals = [] := List.eq_nil_of_length_eq_zero hv; have hS2 : SX w 1 ([] : List Stp) [] ([(w.heap.size, 32, #[.int .i64 k, .int .i64 m, .int .i64 s, .string t, .bool b, .int .i64 e])] : List (Nat × TypeId × Array Value)) W' := hS; clear hS; have hB0 := hS2; have hB : SB w 1 ([(w.heap.size, 32, #[.int .i64 k, .int .i64 m, .int .i64 s, .string t, .bool b, .int .i64 e])] : List (Nat × TypeId × Array Value)) W' := hB0; clear hB0; have e1 : a.tmps.getD 1 undef = .pointer (some ⟨w.heap.size, 0, none⟩) := hT 1 (by simp); have e8 : a.tmps.getD 8 undef = .bool true := hT 8 (by simp); clear hT hF hP; rw [act_lit 34 a hd hsz]; simp only [List.range, List.range.loop, List.map, e1, e8]; clear hd hsz e1 e8; go_wp2; go_ret; exact ⟨rfl, hB.bel⟩
set_option maxRecDepth 20000 in
theorem check_blank {w : World}  :
    Calls Tryz.prog 17 #[.agg #[.int .i64 0, .int .i64 0, .int .i64 0, .string ⟨#[]⟩, .bool false, .int .i64 0]] w fun x w' => x = .returned (.int .i64 0) ∧ Below w.heap.size w w' := by
  have HO := Lib.hid (fun W : World => own_blank (w := W) 0 0 ⟨#[]⟩ false 0); have HB := Lib.hid (sb1 w 32 #[.int .i64 0, .int .i64 0, .int .i64 0, .string ⟨#[]⟩, .bool false, .int .i64 0]); go_enter Tryz.func17, Tryz.ntmps17
  go_wp2_with fail
  refine wp_region_phases (S := (fun vals W => SX w 1 ([] : List Stp) vals ([(w.heap.size, 32, #[.int .i64 0, .int .i64 0, .int .i64 0, .string ⟨#[]⟩, .bool false, .int .i64 0])] : List (Nat × TypeId × Array Value)) W)) (E := (fun _ _ => True)) [] [(1, Is (.pointer (some ⟨w.heap.size, 0, none⟩)))] [(5, Is (.agg #[.int .i64 0, .int .i64 0, .int .i64 0, .string ⟨#[]⟩, .bool false, .int .i64 0])), (6, Is (.agg #[.int .i64 0, .int .i64 0, .int .i64 0, .string ⟨#[]⟩, .bool false, .int .i64 0])), (7, Is (.agg #[.int .i64 0, .int .i64 0, .int .i64 0, .string ⟨#[]⟩, .bool false, .int .i64 0])), (8, Is (.bool false))]
    [.op [1] none, .op [1] none, .op [6] none, .op [5, 7] none] (by as_aux_lemma => kernel_rfl) ?_ ?_ ?_ ?_ ?_ ⟨stable_is _ _, stable_is _ _, stable_is _ _, stable_is _ _, stable_is _ _, trivial⟩ ?_ (HB.out.drew) ?_ ?_
  · as_aux_lemma => kernel_rfl
  · as_aux_lemma => kernel_rfl
  · as_aux_lemma => kernel_rfl
  · as_aux_lemma => kernel_rfl
  · as_aux_lemma => kernel_rfl
  · exact ⟨rfl, trivial⟩
  · refine ⟨?_, ?_, ?_, ?_, trivial⟩
    · as_aux_lemma =>
        intro vals a W hS hL; have e1 : a.tmps.getD 1 undef = .pointer (some ⟨w.heap.size, 0, none⟩) := hL.1; clear hL; have kb : Bk W (w.heap.size) 32 #[.int .i64 0, .int .i64 0, .int .i64 0, .string ⟨#[]⟩, .bool false, .int .i64 0] := hS.bk 0 rfl rfl; have f0 := kb.cell 0; have f1 := kb.cell 1; have f2 := kb.cell 2; have f3 := kb.cell 3; have f4 := kb.cell 4; have f5 := kb.cell 5; clear kb; go_simp; exact ⟨⟨fun d hd => by injection hd with hd; subst hd; rfl, fun h => by cases h⟩, hS, trivial⟩
    · as_aux_lemma =>
        intro vals a W hS hL; have e1 : a.tmps.getD 1 undef = .pointer (some ⟨w.heap.size, 0, none⟩) := hL.1; clear hL; have kb : Bk W (w.heap.size) 32 #[.int .i64 0, .int .i64 0, .int .i64 0, .string ⟨#[]⟩, .bool false, .int .i64 0] := hS.bk 0 rfl rfl; have f0 := kb.cell 0; have f1 := kb.cell 1; have f2 := kb.cell 2; have f3 := kb.cell 3; have f4 := kb.cell 4; have f5 := kb.cell 5; clear kb; go_simp; exact ⟨⟨fun d hd => by injection hd with hd; subst hd; rfl, fun h => by cases h⟩, hS, trivial⟩
    · as_aux_lemma =>
        intro vals a W hS hL; have e6 : a.tmps.getD 6 undef = .agg #[.int .i64 0, .int .i64 0, .int .i64 0, .string ⟨#[]⟩, .bool false, .int .i64 0] := hL.1; clear hL; go_simp; refine (HO.out W).mono ?_; rintro e W' ⟨rfl, hb⟩; exact ⟨_, rfl, ⟨fun d hd => by injection hd with hd; subst hd; rfl, fun h => by cases h⟩, hS.call hb, trivial⟩
    · as_aux_lemma =>
        intro vals a W hS hL; have e5 : a.tmps.getD 5 undef = .agg #[.int .i64 0, .int .i64 0, .int .i64 0, .string ⟨#[]⟩, .bool false, .int .i64 0] := hL.1; have e7 : a.tmps.getD 7 undef = .agg #[.int .i64 0, .int .i64 0, .int .i64 0, .string ⟨#[]⟩, .bool false, .int .i64 0] := hL.2.1; clear hL; go_simp; exact ⟨⟨fun d hd => by injection hd with hd; subst hd; rfl, fun h => by cases h⟩, hS, trivial⟩
  · intro a W' vals hd hsz hT hF hv hP hS; obtain rfl : vals = [] := List.eq_nil_of_length_eq_zero hv; have hS2 : SX w 1 ([] : List Stp) [] ([(w.heap.size, 32, #[.int .i64 0, .int .i64 0, .int .i64 0, .string ⟨#[]⟩, .bool false, .int .i64 0])] : List (Nat × TypeId × Array Value)) W' := hS; clear hS; have hB0 := hS2; have hB : SB w 1 ([(w.heap.size, 32, #[.int .i64 0, .int .i64 0, .int .i64 0, .string ⟨#[]⟩, .bool false, .int .i64 0])] : List (Nat × TypeId × Array Value)) W' := hB0; clear hB0; have e1 : a.tmps.getD 1 undef = .pointer (some ⟨w.heap.size, 0, none⟩) := hT 1 (by simp); have e8 : a.tmps.getD 8 undef = .bool false := hT 8 (by simp); clear hT hF hP; rw [act_lit 34 a hd hsz]; simp only [List.range, List.range.loop, List.map, e1, e8]; clear hd hsz e1 e8; have kb := hB.box (i := 0) rfl; have cb0 := kb.cell 0; have cb1 := kb.cell 1; have cb2 := kb.cell 2; have cb3 := kb.cell 3; have cb4 := kb.cell 4; have cb5 := kb.cell 5; clear kb; have hbel := hB.bel; clear hB HB HO; go_wp2; go_ret; exact ⟨rfl, hbel⟩
set_option maxRecDepth 20000 in
theorem check_bool {w : World} (b : Bool) :
    Calls Tryz.prog 17 #[.agg #[.int .i64 3, .int .i64 0, .int .i64 0, .string ⟨#[]⟩, .bool b, .int .i64 0]] w fun x w' => x = .returned (.int .i64 0) ∧ Below w.heap.size w w' := by
  have HO := Lib.hid (fun W : World => own_bool (w := W) 0 0 ⟨#[]⟩ b 0); have HB := Lib.hid (sb1 w 32 #[.int .i64 3, .int .i64 0, .int .i64 0, .string ⟨#[]⟩, .bool b, .int .i64 0]); go_enter Tryz.func17, Tryz.ntmps17
  go_wp2_with fail
  refine wp_region_phases (S := (fun vals W => SX w 1 ([] : List Stp) vals ([(w.heap.size, 32, #[.int .i64 3, .int .i64 0, .int .i64 0, .string ⟨#[]⟩, .bool b, .int .i64 0])] : List (Nat × TypeId × Array Value)) W)) (E := (fun _ _ => True)) [] [(1, Is (.pointer (some ⟨w.heap.size, 0, none⟩)))] [(5, Is (.agg #[.int .i64 3, .int .i64 0, .int .i64 0, .string ⟨#[]⟩, .bool b, .int .i64 0])), (6, Is (.agg #[.int .i64 3, .int .i64 0, .int .i64 0, .string ⟨#[]⟩, .bool b, .int .i64 0])), (7, Is (.agg #[.int .i64 3, .int .i64 0, .int .i64 0, .string ⟨#[]⟩, .bool b, .int .i64 0])), (8, Is (.bool false))]
    [.op [1] none, .op [1] none, .op [6] none, .op [5, 7] none] (by as_aux_lemma => kernel_rfl) ?_ ?_ ?_ ?_ ?_ ⟨stable_is _ _, stable_is _ _, stable_is _ _, stable_is _ _, stable_is _ _, trivial⟩ ?_ (HB.out.drew) ?_ ?_
  · as_aux_lemma => kernel_rfl
  · as_aux_lemma => kernel_rfl
  · as_aux_lemma => kernel_rfl
  · as_aux_lemma => kernel_rfl
  · as_aux_lemma => kernel_rfl
  · exact ⟨rfl, trivial⟩
  · refine ⟨?_, ?_, ?_, ?_, trivial⟩
    · as_aux_lemma =>
        intro vals a W hS hL; have e1 : a.tmps.getD 1 undef = .pointer (some ⟨w.heap.size, 0, none⟩) := hL.1; clear hL; have kb : Bk W (w.heap.size) 32 #[.int .i64 3, .int .i64 0, .int .i64 0, .string ⟨#[]⟩, .bool b, .int .i64 0] := hS.bk 0 rfl rfl; have f0 := kb.cell 0; have f1 := kb.cell 1; have f2 := kb.cell 2; have f3 := kb.cell 3; have f4 := kb.cell 4; have f5 := kb.cell 5; clear kb; go_simp; exact ⟨⟨fun d hd => by injection hd with hd; subst hd; rfl, fun h => by cases h⟩, hS, trivial⟩
    · as_aux_lemma =>
        intro vals a W hS hL; have e1 : a.tmps.getD 1 undef = .pointer (some ⟨w.heap.size, 0, none⟩) := hL.1; clear hL; have kb : Bk W (w.heap.size) 32 #[.int .i64 3, .int .i64 0, .int .i64 0, .string ⟨#[]⟩, .bool b, .int .i64 0] := hS.bk 0 rfl rfl; have f0 := kb.cell 0; have f1 := kb.cell 1; have f2 := kb.cell 2; have f3 := kb.cell 3; have f4 := kb.cell 4; have f5 := kb.cell 5; clear kb; go_simp; exact ⟨⟨fun d hd => by injection hd with hd; subst hd; rfl, fun h => by cases h⟩, hS, trivial⟩
    · as_aux_lemma =>
        intro vals a W hS hL; have e6 : a.tmps.getD 6 undef = .agg #[.int .i64 3, .int .i64 0, .int .i64 0, .string ⟨#[]⟩, .bool b, .int .i64 0] := hL.1; clear hL; go_simp; refine (HO.out W).mono ?_; rintro e W' ⟨rfl, hb⟩; exact ⟨_, rfl, ⟨fun d hd => by injection hd with hd; subst hd; rfl, fun h => by cases h⟩, hS.call hb, trivial⟩
    · as_aux_lemma =>
        intro vals a W hS hL; have e5 : a.tmps.getD 5 undef = .agg #[.int .i64 3, .int .i64 0, .int .i64 0, .string ⟨#[]⟩, .bool b, .int .i64 0] := hL.1; have e7 : a.tmps.getD 7 undef = .agg #[.int .i64 3, .int .i64 0, .int .i64 0, .string ⟨#[]⟩, .bool b, .int .i64 0] := hL.2.1; clear hL; go_simp; exact ⟨⟨fun d hd => by injection hd with hd; subst hd; rfl, fun h => by cases h⟩, hS, trivial⟩
  · intro a W' vals hd hsz hT hF hv hP hS; obtain rfl : vals = [] := List.eq_nil_of_length_eq_zero hv; have hS2 : SX w 1 ([] : List Stp) [] ([(w.heap.size, 32, #[.int .i64 3, .int .i64 0, .int .i64 0, .string ⟨#[]⟩, .bool b, .int .i64 0])] : List (Nat × TypeId × Array Value)) W' := hS; clear hS; have hB0 := hS2; have hB : SB w 1 ([(w.heap.size, 32, #[.int .i64 3, .int .i64 0, .int .i64 0, .string ⟨#[]⟩, .bool b, .int .i64 0])] : List (Nat × TypeId × Array Value)) W' := hB0; clear hB0; have e1 : a.tmps.getD 1 undef = .pointer (some ⟨w.heap.size, 0, none⟩) := hT 1 (by simp); have e8 : a.tmps.getD 8 undef = .bool false := hT 8 (by simp); clear hT hF hP; rw [act_lit 34 a hd hsz]; simp only [List.range, List.range.loop, List.map, e1, e8]; clear hd hsz e1 e8; have kb := hB.box (i := 0) rfl; have cb0 := kb.cell 0; have cb1 := kb.cell 1; have cb2 := kb.cell 2; have cb3 := kb.cell 3; have cb4 := kb.cell 4; have cb5 := kb.cell 5; clear kb; have hbel := hB.bel; clear hB HB HO; go_wp2; go_ret; exact ⟨rfl, hbel⟩
set_option maxRecDepth 20000 in
theorem check_none {w : World} (k : Int) (h0 : ¬ k = 0) (h1 : ¬ k = 1) (h2 : ¬ k = 2) (h3 : ¬ k = 3) (h4 : ¬ k = 4) :
    Calls Tryz.prog 17 #[.agg #[.int .i64 k, .int .i64 0, .int .i64 0, .string ⟨#[]⟩, .bool false, .int .i64 0]] w fun x w' => x = .returned (.int .i64 1) ∧ Below w.heap.size w w' := by
  have HO := Lib.hid (fun W : World => own_none (w := W) k 0 0 ⟨#[]⟩ false 0 h1 h2 h3 h4); have HB := Lib.hid (sb1 w 32 #[.int .i64 k, .int .i64 0, .int .i64 0, .string ⟨#[]⟩, .bool false, .int .i64 0]); go_enter Tryz.func17, Tryz.ntmps17
  go_wp2_with fail
  refine wp_region_phases (S := (fun vals W => SX w 1 ([] : List Stp) vals ([(w.heap.size, 32, #[.int .i64 k, .int .i64 0, .int .i64 0, .string ⟨#[]⟩, .bool false, .int .i64 0])] : List (Nat × TypeId × Array Value)) W)) (E := (fun _ _ => True)) [] [(1, Is (.pointer (some ⟨w.heap.size, 0, none⟩)))] [(5, Is (.agg #[.int .i64 k, .int .i64 0, .int .i64 0, .string ⟨#[]⟩, .bool false, .int .i64 0])), (6, Is (.agg #[.int .i64 k, .int .i64 0, .int .i64 0, .string ⟨#[]⟩, .bool false, .int .i64 0])), (7, Is (.agg #[.int .i64 k, .int .i64 0, .int .i64 0, .string ⟨#[]⟩, .bool false, .int .i64 0])), (8, Is (.bool false))]
    [.op [1] none, .op [1] none, .op [6] none, .op [5, 7] none] (by as_aux_lemma => kernel_rfl) ?_ ?_ ?_ ?_ ?_ ⟨stable_is _ _, stable_is _ _, stable_is _ _, stable_is _ _, stable_is _ _, trivial⟩ ?_ (HB.out.drew) ?_ ?_
  · as_aux_lemma => kernel_rfl
  · as_aux_lemma => kernel_rfl
  · as_aux_lemma => kernel_rfl
  · as_aux_lemma => kernel_rfl
  · as_aux_lemma => kernel_rfl
  · exact ⟨rfl, trivial⟩
  · refine ⟨?_, ?_, ?_, ?_, trivial⟩
    · as_aux_lemma =>
        intro vals a W hS hL; have e1 : a.tmps.getD 1 undef = .pointer (some ⟨w.heap.size, 0, none⟩) := hL.1; clear hL; have kb : Bk W (w.heap.size) 32 #[.int .i64 k, .int .i64 0, .int .i64 0, .string ⟨#[]⟩, .bool false, .int .i64 0] := hS.bk 0 rfl rfl; have f0 := kb.cell 0; have f1 := kb.cell 1; have f2 := kb.cell 2; have f3 := kb.cell 3; have f4 := kb.cell 4; have f5 := kb.cell 5; clear kb; go_simp; exact ⟨⟨fun d hd => by injection hd with hd; subst hd; rfl, fun h => by cases h⟩, hS, trivial⟩
    · as_aux_lemma =>
        intro vals a W hS hL; have e1 : a.tmps.getD 1 undef = .pointer (some ⟨w.heap.size, 0, none⟩) := hL.1; clear hL; have kb : Bk W (w.heap.size) 32 #[.int .i64 k, .int .i64 0, .int .i64 0, .string ⟨#[]⟩, .bool false, .int .i64 0] := hS.bk 0 rfl rfl; have f0 := kb.cell 0; have f1 := kb.cell 1; have f2 := kb.cell 2; have f3 := kb.cell 3; have f4 := kb.cell 4; have f5 := kb.cell 5; clear kb; go_simp; exact ⟨⟨fun d hd => by injection hd with hd; subst hd; rfl, fun h => by cases h⟩, hS, trivial⟩
    · as_aux_lemma =>
        intro vals a W hS hL; have e6 : a.tmps.getD 6 undef = .agg #[.int .i64 k, .int .i64 0, .int .i64 0, .string ⟨#[]⟩, .bool false, .int .i64 0] := hL.1; clear hL; go_simp; refine (HO.out W).mono ?_; rintro e W' ⟨rfl, hb⟩; exact ⟨_, rfl, ⟨fun d hd => by injection hd with hd; subst hd; rfl, fun h => by cases h⟩, hS.call hb, trivial⟩
    · as_aux_lemma =>
        intro vals a W hS hL; have e5 : a.tmps.getD 5 undef = .agg #[.int .i64 k, .int .i64 0, .int .i64 0, .string ⟨#[]⟩, .bool false, .int .i64 0] := hL.1; have e7 : a.tmps.getD 7 undef = .agg #[.int .i64 k, .int .i64 0, .int .i64 0, .string ⟨#[]⟩, .bool false, .int .i64 0] := hL.2.1; clear hL; go_simp; exact ⟨⟨fun d hd => by injection hd with hd; subst hd; rfl, fun h => by cases h⟩, hS, trivial⟩
  · intro a W' vals hd hsz hT hF hv hP hS; obtain rfl : vals = [] := List.eq_nil_of_length_eq_zero hv; have hS2 : SX w 1 ([] : List Stp) [] ([(w.heap.size, 32, #[.int .i64 k, .int .i64 0, .int .i64 0, .string ⟨#[]⟩, .bool false, .int .i64 0])] : List (Nat × TypeId × Array Value)) W' := hS; clear hS; have hB0 := hS2; have hB : SB w 1 ([(w.heap.size, 32, #[.int .i64 k, .int .i64 0, .int .i64 0, .string ⟨#[]⟩, .bool false, .int .i64 0])] : List (Nat × TypeId × Array Value)) W' := hB0; clear hB0; have e1 : a.tmps.getD 1 undef = .pointer (some ⟨w.heap.size, 0, none⟩) := hT 1 (by simp); have e8 : a.tmps.getD 8 undef = .bool false := hT 8 (by simp); clear hT hF hP; rw [act_lit 34 a hd hsz]; simp only [List.range, List.range.loop, List.map, e1, e8]; clear hd hsz e1 e8; have kb := hB.box (i := 0) rfl; have cb0 := kb.cell 0; have cb1 := kb.cell 1; have cb2 := kb.cell 2; have cb3 := kb.cell 3; have cb4 := kb.cell 4; have cb5 := kb.cell 5; clear kb; have hbel := hB.bel; clear hB HB HO; go_wp2; go_ret; exact ⟨rfl, hbel⟩
set_option maxRecDepth 20000 in
theorem check_num {w : World} (m s : Int) :
    Calls Tryz.prog 17 #[.agg #[.int .i64 1, .int .i64 m, .int .i64 s, .string ⟨#[]⟩, .bool false, .int .i64 0]] w fun x w' => x = .returned (.int .i64 (ckE m s)) ∧ Below w.heap.size w w' := by
  have HO := Lib.hid (fun W : World => own_num (w := W) m s ⟨#[]⟩ false 0); have HC := Lib.hid (fun W : World => check_any (w := W) (m := m) (s := s)); generalize ckE m s = c at *; have HB := Lib.hid (sb1 w 32 #[.int .i64 1, .int .i64 m, .int .i64 s, .string ⟨#[]⟩, .bool false, .int .i64 0]); go_enter Tryz.func17, Tryz.ntmps17
  go_wp2_with fail
  refine wp_region_phases (S := (fun vals W => SX w 1 ([] : List Stp) vals ([(w.heap.size, 32, #[.int .i64 1, .int .i64 m, .int .i64 s, .string ⟨#[]⟩, .bool false, .int .i64 0])] : List (Nat × TypeId × Array Value)) W)) (E := (fun _ _ => True)) [] [(1, Is (.pointer (some ⟨w.heap.size, 0, none⟩)))] [(5, Is (.agg #[.int .i64 1, .int .i64 m, .int .i64 s, .string ⟨#[]⟩, .bool false, .int .i64 0])), (6, Is (.agg #[.int .i64 1, .int .i64 m, .int .i64 s, .string ⟨#[]⟩, .bool false, .int .i64 0])), (7, Is (.agg #[.int .i64 1, .int .i64 m, .int .i64 s, .string ⟨#[]⟩, .bool false, .int .i64 0])), (8, Is (.bool false))]
    [.op [1] none, .op [1] none, .op [6] none, .op [5, 7] none] (by as_aux_lemma => kernel_rfl) ?_ ?_ ?_ ?_ ?_ ⟨stable_is _ _, stable_is _ _, stable_is _ _, stable_is _ _, stable_is _ _, trivial⟩ ?_ (HB.out.drew) ?_ ?_
  · as_aux_lemma => kernel_rfl
  · as_aux_lemma => kernel_rfl
  · as_aux_lemma => kernel_rfl
  · as_aux_lemma => kernel_rfl
  · as_aux_lemma => kernel_rfl
  · exact ⟨rfl, trivial⟩
  · refine ⟨?_, ?_, ?_, ?_, trivial⟩
    · as_aux_lemma =>
        intro vals a W hS hL; have e1 : a.tmps.getD 1 undef = .pointer (some ⟨w.heap.size, 0, none⟩) := hL.1; clear hL; have kb : Bk W (w.heap.size) 32 #[.int .i64 1, .int .i64 m, .int .i64 s, .string ⟨#[]⟩, .bool false, .int .i64 0] := hS.bk 0 rfl rfl; have f0 := kb.cell 0; have f1 := kb.cell 1; have f2 := kb.cell 2; have f3 := kb.cell 3; have f4 := kb.cell 4; have f5 := kb.cell 5; clear kb; go_simp; exact ⟨⟨fun d hd => by injection hd with hd; subst hd; rfl, fun h => by cases h⟩, hS, trivial⟩
    · as_aux_lemma =>
        intro vals a W hS hL; have e1 : a.tmps.getD 1 undef = .pointer (some ⟨w.heap.size, 0, none⟩) := hL.1; clear hL; have kb : Bk W (w.heap.size) 32 #[.int .i64 1, .int .i64 m, .int .i64 s, .string ⟨#[]⟩, .bool false, .int .i64 0] := hS.bk 0 rfl rfl; have f0 := kb.cell 0; have f1 := kb.cell 1; have f2 := kb.cell 2; have f3 := kb.cell 3; have f4 := kb.cell 4; have f5 := kb.cell 5; clear kb; go_simp; exact ⟨⟨fun d hd => by injection hd with hd; subst hd; rfl, fun h => by cases h⟩, hS, trivial⟩
    · as_aux_lemma =>
        intro vals a W hS hL; have e6 : a.tmps.getD 6 undef = .agg #[.int .i64 1, .int .i64 m, .int .i64 s, .string ⟨#[]⟩, .bool false, .int .i64 0] := hL.1; clear hL; go_simp; refine (HO.out W).mono ?_; rintro e W' ⟨rfl, hb⟩; exact ⟨_, rfl, ⟨fun d hd => by injection hd with hd; subst hd; rfl, fun h => by cases h⟩, hS.call hb, trivial⟩
    · as_aux_lemma =>
        intro vals a W hS hL; have e5 : a.tmps.getD 5 undef = .agg #[.int .i64 1, .int .i64 m, .int .i64 s, .string ⟨#[]⟩, .bool false, .int .i64 0] := hL.1; have e7 : a.tmps.getD 7 undef = .agg #[.int .i64 1, .int .i64 m, .int .i64 s, .string ⟨#[]⟩, .bool false, .int .i64 0] := hL.2.1; clear hL; go_simp; exact ⟨⟨fun d hd => by injection hd with hd; subst hd; rfl, fun h => by cases h⟩, hS, trivial⟩
  · intro a W' vals hd hsz hT hF hv hP hS; obtain rfl : vals = [] := List.eq_nil_of_length_eq_zero hv; have hS2 : SX w 1 ([] : List Stp) [] ([(w.heap.size, 32, #[.int .i64 1, .int .i64 m, .int .i64 s, .string ⟨#[]⟩, .bool false, .int .i64 0])] : List (Nat × TypeId × Array Value)) W' := hS; clear hS; have hB0 := hS2; have hB : SB w 1 ([(w.heap.size, 32, #[.int .i64 1, .int .i64 m, .int .i64 s, .string ⟨#[]⟩, .bool false, .int .i64 0])] : List (Nat × TypeId × Array Value)) W' := hB0; clear hB0; have e1 : a.tmps.getD 1 undef = .pointer (some ⟨w.heap.size, 0, none⟩) := hT 1 (by simp); have e8 : a.tmps.getD 8 undef = .bool false := hT 8 (by simp); clear hT hF hP; rw [act_lit 34 a hd hsz]; simp only [List.range, List.range.loop, List.map, e1, e8]; clear hd hsz e1 e8; have kb := hB.box (i := 0) rfl; have cb0 := kb.cell 0; have cb1 := kb.cell 1; have cb2 := kb.cell 2; have cb3 := kb.cell 3; have cb4 := kb.cell 4; have cb5 := kb.cell 5; clear kb
    go_wp2_with fail
    refine (HC.out _).mono ?_; rintro e w2 ⟨rfl, hb⟩; have hbel := (hB.call hb).bel; clear hb hB HB HO HC; go_wp2; go_ret; exact ⟨rfl, hbel⟩
set_option maxRecDepth 20000 in
theorem check_str {w : World} (HV : Val w) (t : ByteArray) (ht : t.size ≤ 140737488355328) :
    Calls Tryz.prog 17 #[.agg #[.int .i64 2, .int .i64 0, .int .i64 0, .string t, .bool false, .int .i64 0]] w fun x w' => x = .returned (.int .i64 (uE t.data.toList)) ∧ Below w.heap.size w w' := by
  have HO := Lib.hid (fun W : World => own_str (w := W) 0 0 t false 0); have HC : Hid (∀ W : World, Below w.heap.size w W → Calls Tryz.prog 64 #[.string t] W fun e w' => e = .returned (.tuple #[.int .i64 (uV t.data.toList), .int .i64 (uE t.data.toList)]) ∧ Below W.heap.size W w') := Lib.hid (fun W hb => units_any (HV.below hb) t ht); clear HV; generalize uE t.data.toList = c at *; generalize uV t.data.toList = v at *; have HB := Lib.hid (sb1 w 32 #[.int .i64 2, .int .i64 0, .int .i64 0, .string t, .bool false, .int .i64 0]); go_enter Tryz.func17, Tryz.ntmps17
  go_wp2_with fail
  refine wp_region_phases (S := (fun vals W => SX w 1 ([] : List Stp) vals ([(w.heap.size, 32, #[.int .i64 2, .int .i64 0, .int .i64 0, .string t, .bool false, .int .i64 0])] : List (Nat × TypeId × Array Value)) W)) (E := (fun _ _ => True)) [] [(1, Is (.pointer (some ⟨w.heap.size, 0, none⟩)))] [(5, Is (.agg #[.int .i64 2, .int .i64 0, .int .i64 0, .string t, .bool false, .int .i64 0])), (6, Is (.agg #[.int .i64 2, .int .i64 0, .int .i64 0, .string t, .bool false, .int .i64 0])), (7, Is (.agg #[.int .i64 2, .int .i64 0, .int .i64 0, .string t, .bool false, .int .i64 0])), (8, Is (.bool false))]
    [.op [1] none, .op [1] none, .op [6] none, .op [5, 7] none] (by as_aux_lemma => kernel_rfl) ?_ ?_ ?_ ?_ ?_ ⟨stable_is _ _, stable_is _ _, stable_is _ _, stable_is _ _, stable_is _ _, trivial⟩ ?_ (HB.out.drew) ?_ ?_
  · as_aux_lemma => kernel_rfl
  · as_aux_lemma => kernel_rfl
  · as_aux_lemma => kernel_rfl
  · as_aux_lemma => kernel_rfl
  · as_aux_lemma => kernel_rfl
  · exact ⟨rfl, trivial⟩
  · refine ⟨?_, ?_, ?_, ?_, trivial⟩
    · as_aux_lemma =>
        intro vals a W hS hL; have e1 : a.tmps.getD 1 undef = .pointer (some ⟨w.heap.size, 0, none⟩) := hL.1; clear hL; have kb : Bk W (w.heap.size) 32 #[.int .i64 2, .int .i64 0, .int .i64 0, .string t, .bool false, .int .i64 0] := hS.bk 0 rfl rfl; have f0 := kb.cell 0; have f1 := kb.cell 1; have f2 := kb.cell 2; have f3 := kb.cell 3; have f4 := kb.cell 4; have f5 := kb.cell 5; clear kb; go_simp; exact ⟨⟨fun d hd => by injection hd with hd; subst hd; rfl, fun h => by cases h⟩, hS, trivial⟩
    · as_aux_lemma =>
        intro vals a W hS hL; have e1 : a.tmps.getD 1 undef = .pointer (some ⟨w.heap.size, 0, none⟩) := hL.1; clear hL; have kb : Bk W (w.heap.size) 32 #[.int .i64 2, .int .i64 0, .int .i64 0, .string t, .bool false, .int .i64 0] := hS.bk 0 rfl rfl; have f0 := kb.cell 0; have f1 := kb.cell 1; have f2 := kb.cell 2; have f3 := kb.cell 3; have f4 := kb.cell 4; have f5 := kb.cell 5; clear kb; go_simp; exact ⟨⟨fun d hd => by injection hd with hd; subst hd; rfl, fun h => by cases h⟩, hS, trivial⟩
    · as_aux_lemma =>
        intro vals a W hS hL; have e6 : a.tmps.getD 6 undef = .agg #[.int .i64 2, .int .i64 0, .int .i64 0, .string t, .bool false, .int .i64 0] := hL.1; clear hL; go_simp; refine (HO.out W).mono ?_; rintro e W' ⟨rfl, hb⟩; exact ⟨_, rfl, ⟨fun d hd => by injection hd with hd; subst hd; rfl, fun h => by cases h⟩, hS.call hb, trivial⟩
    · as_aux_lemma =>
        intro vals a W hS hL; have e5 : a.tmps.getD 5 undef = .agg #[.int .i64 2, .int .i64 0, .int .i64 0, .string t, .bool false, .int .i64 0] := hL.1; have e7 : a.tmps.getD 7 undef = .agg #[.int .i64 2, .int .i64 0, .int .i64 0, .string t, .bool false, .int .i64 0] := hL.2.1; clear hL; go_simp; exact ⟨⟨fun d hd => by injection hd with hd; subst hd; rfl, fun h => by cases h⟩, hS, trivial⟩
  · intro a W' vals hd hsz hT hF hv hP hS; obtain rfl : vals = [] := List.eq_nil_of_length_eq_zero hv; have hS2 : SX w 1 ([] : List Stp) [] ([(w.heap.size, 32, #[.int .i64 2, .int .i64 0, .int .i64 0, .string t, .bool false, .int .i64 0])] : List (Nat × TypeId × Array Value)) W' := hS; clear hS; have hB0 := hS2; have hB : SB w 1 ([(w.heap.size, 32, #[.int .i64 2, .int .i64 0, .int .i64 0, .string t, .bool false, .int .i64 0])] : List (Nat × TypeId × Array Value)) W' := hB0; clear hB0; have e1 : a.tmps.getD 1 undef = .pointer (some ⟨w.heap.size, 0, none⟩) := hT 1 (by simp); have e8 : a.tmps.getD 8 undef = .bool false := hT 8 (by simp); clear hT hF hP; rw [act_lit 34 a hd hsz]; simp only [List.range, List.range.loop, List.map, e1, e8]; clear hd hsz e1 e8; have kb := hB.box (i := 0) rfl; have cb0 := kb.cell 0; have cb1 := kb.cell 1; have cb2 := kb.cell 2; have cb3 := kb.cell 3; have cb4 := kb.cell 4; have cb5 := kb.cell 5; clear kb
    go_wp2_with fail
    refine (HC.out _ hB.bel).mono ?_; rintro e w2 ⟨rfl, hb⟩; have hbel := (hB.call hb).bel; clear hb hB HB HO HC; go_wp2; go_ret; exact ⟨rfl, hbel⟩
def feE (e : Int) : Int := if e = 0 ∨ e = 7 ∨ e = 15 ∨ e = 23 ∨ e = 29 ∨ e = 36 ∨ e = 42 then 0 else 1
set_option maxRecDepth 20000 in
theorem check_err_yes {w : World} (e : Int) (L : List UInt8) (hL : erL e = L) (h0 : ¬ L = []) :
    Calls Tryz.prog 17 #[.agg #[.int .i64 4, .int .i64 0, .int .i64 0, .string ⟨#[]⟩, .bool false, .int .i64 e]] w fun x w' => x = .returned (.int .i64 0) ∧ Below w.heap.size w w' := by
  have HO := Lib.hid (fun W : World => own_err (w := W) 0 0 ⟨#[]⟩ false e)
  have HC : Hid (∀ W : World, Calls Tryz.prog 65 #[.int .i64 e] W fun x w' => x = .returned (sL L) ∧ w' = W) := Lib.hid (fun W => by
    have := faultText_any (w := W) e; rw [hL] at this
    exact this)
  unfold sL at HC; have hne : (!L.isEmpty) = true := by rcases L with _ | ⟨c, l⟩ <;> first | exact absurd rfl h0 | rfl
  clear h0; clear hL; have HB := Lib.hid (sb1 w 32 #[.int .i64 4, .int .i64 0, .int .i64 0, .string ⟨#[]⟩, .bool false, .int .i64 e]); go_enter Tryz.func17, Tryz.ntmps17
  go_wp2_with fail
  refine wp_region_phases (S := (fun vals W => SX w 1 ([] : List Stp) vals ([(w.heap.size, 32, #[.int .i64 4, .int .i64 0, .int .i64 0, .string ⟨#[]⟩, .bool false, .int .i64 e])] : List (Nat × TypeId × Array Value)) W)) (E := (fun _ _ => True)) [] [(1, Is (.pointer (some ⟨w.heap.size, 0, none⟩)))] [(5, Is (.agg #[.int .i64 4, .int .i64 0, .int .i64 0, .string ⟨#[]⟩, .bool false, .int .i64 e])), (6, Is (.agg #[.int .i64 4, .int .i64 0, .int .i64 0, .string ⟨#[]⟩, .bool false, .int .i64 e])), (7, Is (.agg #[.int .i64 4, .int .i64 0, .int .i64 0, .string ⟨#[]⟩, .bool false, .int .i64 e])), (8, Is (.bool false))]
    [.op [1] none, .op [1] none, .op [6] none, .op [5, 7] none] (by as_aux_lemma => kernel_rfl) ?_ ?_ ?_ ?_ ?_ ⟨stable_is _ _, stable_is _ _, stable_is _ _, stable_is _ _, stable_is _ _, trivial⟩ ?_ (HB.out.drew) ?_ ?_
  · as_aux_lemma => kernel_rfl
  · as_aux_lemma => kernel_rfl
  · as_aux_lemma => kernel_rfl
  · as_aux_lemma => kernel_rfl
  · as_aux_lemma => kernel_rfl
  · exact ⟨rfl, trivial⟩
  · refine ⟨?_, ?_, ?_, ?_, trivial⟩
    · as_aux_lemma =>
        intro vals a W hS hL; have e1 : a.tmps.getD 1 undef = .pointer (some ⟨w.heap.size, 0, none⟩) := hL.1; clear hL; have kb : Bk W (w.heap.size) 32 #[.int .i64 4, .int .i64 0, .int .i64 0, .string ⟨#[]⟩, .bool false, .int .i64 e] := hS.bk 0 rfl rfl; have f0 := kb.cell 0; have f1 := kb.cell 1; have f2 := kb.cell 2; have f3 := kb.cell 3; have f4 := kb.cell 4; have f5 := kb.cell 5; clear kb; go_simp; exact ⟨⟨fun d hd => by injection hd with hd; subst hd; rfl, fun h => by cases h⟩, hS, trivial⟩
    · as_aux_lemma =>
        intro vals a W hS hL; have e1 : a.tmps.getD 1 undef = .pointer (some ⟨w.heap.size, 0, none⟩) := hL.1; clear hL; have kb : Bk W (w.heap.size) 32 #[.int .i64 4, .int .i64 0, .int .i64 0, .string ⟨#[]⟩, .bool false, .int .i64 e] := hS.bk 0 rfl rfl; have f0 := kb.cell 0; have f1 := kb.cell 1; have f2 := kb.cell 2; have f3 := kb.cell 3; have f4 := kb.cell 4; have f5 := kb.cell 5; clear kb; go_simp; exact ⟨⟨fun d hd => by injection hd with hd; subst hd; rfl, fun h => by cases h⟩, hS, trivial⟩
    · as_aux_lemma =>
        intro vals a W hS hL; have e6 : a.tmps.getD 6 undef = .agg #[.int .i64 4, .int .i64 0, .int .i64 0, .string ⟨#[]⟩, .bool false, .int .i64 e] := hL.1; clear hL; go_simp; refine (HO.out W).mono ?_; rintro e W' ⟨rfl, hb⟩; exact ⟨_, rfl, ⟨fun d hd => by injection hd with hd; subst hd; rfl, fun h => by cases h⟩, hS.call hb, trivial⟩
    · as_aux_lemma =>
        intro vals a W hS hL; have e5 : a.tmps.getD 5 undef = .agg #[.int .i64 4, .int .i64 0, .int .i64 0, .string ⟨#[]⟩, .bool false, .int .i64 e] := hL.1; have e7 : a.tmps.getD 7 undef = .agg #[.int .i64 4, .int .i64 0, .int .i64 0, .string ⟨#[]⟩, .bool false, .int .i64 e] := hL.2.1; clear hL; go_simp; exact ⟨⟨fun d hd => by injection hd with hd; subst hd; rfl, fun h => by cases h⟩, hS, trivial⟩
  · intro a W' vals hd hsz hT hF hv hP hS; obtain rfl : vals = [] := List.eq_nil_of_length_eq_zero hv; have hS2 : SX w 1 ([] : List Stp) [] ([(w.heap.size, 32, #[.int .i64 4, .int .i64 0, .int .i64 0, .string ⟨#[]⟩, .bool false, .int .i64 e])] : List (Nat × TypeId × Array Value)) W' := hS; clear hS; have hB0 := hS2; have hB : SB w 1 ([(w.heap.size, 32, #[.int .i64 4, .int .i64 0, .int .i64 0, .string ⟨#[]⟩, .bool false, .int .i64 e])] : List (Nat × TypeId × Array Value)) W' := hB0; clear hB0; have e1 : a.tmps.getD 1 undef = .pointer (some ⟨w.heap.size, 0, none⟩) := hT 1 (by simp); have e8 : a.tmps.getD 8 undef = .bool false := hT 8 (by simp); clear hT hF hP; rw [act_lit 34 a hd hsz]; simp only [List.range, List.range.loop, List.map, e1, e8]; clear hd hsz e1 e8; have kb := hB.box (i := 0) rfl; have cb0 := kb.cell 0; have cb1 := kb.cell 1; have cb2 := kb.cell 2; have cb3 := kb.cell 3; have cb4 := kb.cell 4; have cb5 := kb.cell 5; clear kb
    go_wp2_with fail
    refine (HC.out _).mono ?_; rintro x w2 ⟨rfl, rfl⟩; have hbel := hB.bel; clear hB HB HO HC; go_wp2; go_ret; exact ⟨rfl, hbel⟩
set_option maxRecDepth 20000 in
theorem check_err_no {w : World} (e : Int) (L : List UInt8) (hL : erL e = L) (h0 : L = []) :
    Calls Tryz.prog 17 #[.agg #[.int .i64 4, .int .i64 0, .int .i64 0, .string ⟨#[]⟩, .bool false, .int .i64 e]] w fun x w' => x = .returned (.int .i64 1) ∧ Below w.heap.size w w' := by
  have HO := Lib.hid (fun W : World => own_err (w := W) 0 0 ⟨#[]⟩ false e)
  have HC : Hid (∀ W : World, Calls Tryz.prog 65 #[.int .i64 e] W fun x w' => x = .returned (sL L) ∧ w' = W) := Lib.hid (fun W => by
    have := faultText_any (w := W) e; rw [hL] at this
    exact this)
  unfold sL at HC; subst h0; clear hL; have HB := Lib.hid (sb1 w 32 #[.int .i64 4, .int .i64 0, .int .i64 0, .string ⟨#[]⟩, .bool false, .int .i64 e]); go_enter Tryz.func17, Tryz.ntmps17
  go_wp2_with fail
  refine wp_region_phases (S := (fun vals W => SX w 1 ([] : List Stp) vals ([(w.heap.size, 32, #[.int .i64 4, .int .i64 0, .int .i64 0, .string ⟨#[]⟩, .bool false, .int .i64 e])] : List (Nat × TypeId × Array Value)) W)) (E := (fun _ _ => True)) [] [(1, Is (.pointer (some ⟨w.heap.size, 0, none⟩)))] [(5, Is (.agg #[.int .i64 4, .int .i64 0, .int .i64 0, .string ⟨#[]⟩, .bool false, .int .i64 e])), (6, Is (.agg #[.int .i64 4, .int .i64 0, .int .i64 0, .string ⟨#[]⟩, .bool false, .int .i64 e])), (7, Is (.agg #[.int .i64 4, .int .i64 0, .int .i64 0, .string ⟨#[]⟩, .bool false, .int .i64 e])), (8, Is (.bool false))]
    [.op [1] none, .op [1] none, .op [6] none, .op [5, 7] none] (by as_aux_lemma => kernel_rfl) ?_ ?_ ?_ ?_ ?_ ⟨stable_is _ _, stable_is _ _, stable_is _ _, stable_is _ _, stable_is _ _, trivial⟩ ?_ (HB.out.drew) ?_ ?_
  · as_aux_lemma => kernel_rfl
  · as_aux_lemma => kernel_rfl
  · as_aux_lemma => kernel_rfl
  · as_aux_lemma => kernel_rfl
  · as_aux_lemma => kernel_rfl
  · exact ⟨rfl, trivial⟩
  · refine ⟨?_, ?_, ?_, ?_, trivial⟩
    · as_aux_lemma =>
        intro vals a W hS hL; have e1 : a.tmps.getD 1 undef = .pointer (some ⟨w.heap.size, 0, none⟩) := hL.1; clear hL; have kb : Bk W (w.heap.size) 32 #[.int .i64 4, .int .i64 0, .int .i64 0, .string ⟨#[]⟩, .bool false, .int .i64 e] := hS.bk 0 rfl rfl; have f0 := kb.cell 0; have f1 := kb.cell 1; have f2 := kb.cell 2; have f3 := kb.cell 3; have f4 := kb.cell 4; have f5 := kb.cell 5; clear kb; go_simp; exact ⟨⟨fun d hd => by injection hd with hd; subst hd; rfl, fun h => by cases h⟩, hS, trivial⟩
    · as_aux_lemma =>
        intro vals a W hS hL; have e1 : a.tmps.getD 1 undef = .pointer (some ⟨w.heap.size, 0, none⟩) := hL.1; clear hL; have kb : Bk W (w.heap.size) 32 #[.int .i64 4, .int .i64 0, .int .i64 0, .string ⟨#[]⟩, .bool false, .int .i64 e] := hS.bk 0 rfl rfl; have f0 := kb.cell 0; have f1 := kb.cell 1; have f2 := kb.cell 2; have f3 := kb.cell 3; have f4 := kb.cell 4; have f5 := kb.cell 5; clear kb; go_simp; exact ⟨⟨fun d hd => by injection hd with hd; subst hd; rfl, fun h => by cases h⟩, hS, trivial⟩
    · as_aux_lemma =>
        intro vals a W hS hL; have e6 : a.tmps.getD 6 undef = .agg #[.int .i64 4, .int .i64 0, .int .i64 0, .string ⟨#[]⟩, .bool false, .int .i64 e] := hL.1; clear hL; go_simp; refine (HO.out W).mono ?_; rintro e W' ⟨rfl, hb⟩; exact ⟨_, rfl, ⟨fun d hd => by injection hd with hd; subst hd; rfl, fun h => by cases h⟩, hS.call hb, trivial⟩
    · as_aux_lemma =>
        intro vals a W hS hL; have e5 : a.tmps.getD 5 undef = .agg #[.int .i64 4, .int .i64 0, .int .i64 0, .string ⟨#[]⟩, .bool false, .int .i64 e] := hL.1; have e7 : a.tmps.getD 7 undef = .agg #[.int .i64 4, .int .i64 0, .int .i64 0, .string ⟨#[]⟩, .bool false, .int .i64 e] := hL.2.1; clear hL; go_simp; exact ⟨⟨fun d hd => by injection hd with hd; subst hd; rfl, fun h => by cases h⟩, hS, trivial⟩
  · intro a W' vals hd hsz hT hF hv hP hS; obtain rfl : vals = [] := List.eq_nil_of_length_eq_zero hv; have hS2 : SX w 1 ([] : List Stp) [] ([(w.heap.size, 32, #[.int .i64 4, .int .i64 0, .int .i64 0, .string ⟨#[]⟩, .bool false, .int .i64 e])] : List (Nat × TypeId × Array Value)) W' := hS; clear hS; have hB0 := hS2; have hB : SB w 1 ([(w.heap.size, 32, #[.int .i64 4, .int .i64 0, .int .i64 0, .string ⟨#[]⟩, .bool false, .int .i64 e])] : List (Nat × TypeId × Array Value)) W' := hB0; clear hB0; have e1 : a.tmps.getD 1 undef = .pointer (some ⟨w.heap.size, 0, none⟩) := hT 1 (by simp); have e8 : a.tmps.getD 8 undef = .bool false := hT 8 (by simp); clear hT hF hP; rw [act_lit 34 a hd hsz]; simp only [List.range, List.range.loop, List.map, e1, e8]; clear hd hsz e1 e8; have kb := hB.box (i := 0) rfl; have cb0 := kb.cell 0; have cb1 := kb.cell 1; have cb2 := kb.cell 2; have cb3 := kb.cell 3; have cb4 := kb.cell 4; have cb5 := kb.cell 5; clear kb
    go_wp2_with fail
    refine (HC.out _).mono ?_; rintro x w2 ⟨rfl, rfl⟩; have hbel := hB.bel; clear hB HB HO HC; go_wp2; go_ret; exact ⟨rfl, hbel⟩
theorem check_err {w : World} (e : Int) :
    Calls Tryz.prog 17 #[.agg #[.int .i64 4, .int .i64 0, .int .i64 0, .string ⟨#[]⟩, .bool false, .int .i64 e]] w fun x w' => x = .returned (.int .i64 (feE e)) ∧ Below w.heap.size w w' := by
  by_cases h : e = 0 ∨ e = 7 ∨ e = 15 ∨ e = 23 ∨ e = 29 ∨ e = 36 ∨ e = 42
  · unfold feE; rw [if_pos h]; exact check_err_yes e _ rfl fun h' => (erL_none e).1 h' h
  · unfold feE; rw [if_neg h]; exact check_err_no e _ rfl ((erL_none e).2 h)
end Go.Proofs.YtngkolcpbgibcaaGreatDoor
namespace Go.Proofs.YtngkolcpbgibcaaGreatDoor
open Go.RowKit
set_option maxRecDepth 20000 in
theorem text_blank {w : World} :
    Calls Tryz.prog 173 #[.agg #[.int .i64 0, .int .i64 0, .int .i64 0, .string ⟨#[]⟩, .bool false, .int .i64 0]] w fun x w' => x = .returned (sL []) ∧ Below w.heap.size w w' := by
  go_enter Tryz.func173, Tryz.ntmps173; go_wp2; go_ret; exact ⟨rfl, bel0 _ _⟩
set_option maxRecDepth 20000 in
theorem text_str {w : World} (t : ByteArray) :
    Calls Tryz.prog 173 #[.agg #[.int .i64 2, .int .i64 0, .int .i64 0, .string t, .bool false, .int .i64 0]] w fun x w' => x = .returned (.string t) ∧ Below w.heap.size w w' := by
  go_enter Tryz.func173, Tryz.ntmps173; go_wp2; go_ret; exact ⟨rfl, bel0 _ _⟩
set_option maxRecDepth 20000 in
theorem text_bool {w : World} (b : Bool) :
    Calls Tryz.prog 173 #[.agg #[.int .i64 3, .int .i64 0, .int .i64 0, .string ⟨#[]⟩, .bool b, .int .i64 0]] w fun x w' => x = .returned (sL (trL b)) ∧ Below w.heap.size w w' := by
  have HC : Hid (∀ W : World, Calls Tryz.prog 200 #[.bool b] W fun x w' => x = .returned (sL (trL b)) ∧ w' = W) := Lib.hid (fun W => truthText_any b); generalize sL (trL b) = V at *; have HB := Lib.hid (sb1 w 32 #[.int .i64 3, .int .i64 0, .int .i64 0, .string ⟨#[]⟩, .bool b, .int .i64 0]); go_enter Tryz.func173, Tryz.ntmps173
  go_wp2_with fail
  refine (HC.out _).mono ?_; rintro e w1 ⟨rfl, rfl⟩; have hbel := HB.out.bel; clear HB HC; go_wp2; go_ret; exact ⟨rfl, hbel⟩
set_option maxRecDepth 20000 in
theorem text_num {w : World} {m : Int} {s : Nat} (HT : Tens w) (h : Gd m s) :
    Calls Tryz.prog 173 #[.agg #[.int .i64 1, .int .i64 m, .int .i64 (s : Nat), .string ⟨#[]⟩, .bool false, .int .i64 0]] w fun x w' => x = .returned (sL (decTx m s)) ∧ Below w.heap.size w w' := by
  have HC : Hid (∀ W : World, Below w.heap.size w W → Calls Tryz.prog 199 #[.agg #[.int .i64 m, .int .i64 (s : Nat)]] W fun x w' => x = .returned (sL (decTx m s)) ∧ Below W.heap.size W w') := Lib.hid (fun W hb => text_any (HT.below hb) h); clear HT; generalize sL (decTx m s) = V at *; have HB := Lib.hid (sb1 w 32 #[.int .i64 1, .int .i64 m, .int .i64 (s : Nat), .string ⟨#[]⟩, .bool false, .int .i64 0]); go_enter Tryz.func173, Tryz.ntmps173
  go_wp2_with fail
  refine (HC.out _ HB.out.bel).mono ?_; rintro e w1 ⟨rfl, hb⟩; have hbel := (HB.out.call hb).bel; clear hb HB HC; go_wp2; go_ret; exact ⟨rfl, hbel⟩
set_option maxRecDepth 20000 in
theorem words_blank {w : World} :
    Calls Tryz.prog 111 #[.agg #[.int .i64 0, .int .i64 0, .int .i64 0, .string ⟨#[]⟩, .bool false, .int .i64 0]] w fun x w' => x = .returned (.tuple #[sL [], .agg #[.int .i64 0, .int .i64 0, .int .i64 0, .string ⟨#[]⟩, .bool false, .int .i64 0], .bool true]) ∧ Below w.heap.size w w' := by
  have HC : Hid (∀ W : World, Calls Tryz.prog 173 #[.agg #[.int .i64 0, .int .i64 0, .int .i64 0, .string ⟨#[]⟩, .bool false, .int .i64 0]] W fun x w' => x = .returned (sL []) ∧ Below W.heap.size W w') := Lib.hid (fun W => text_blank); obtain ⟨V, hV⟩ : ∃ V, sL [] = V := ⟨_, rfl⟩
  rw [hV] at HC ⊢; clear hV; have HB := Lib.hid ((sb1 w 32 #[.int .i64 0, .int .i64 0, .int .i64 0, .string ⟨#[]⟩, .bool false, .int .i64 0]).push (by simp) 32 #[.int .i64 0, .int .i64 0, .int .i64 0, .string ⟨#[]⟩, .bool false, .int .i64 0]); go_enter Tryz.func111, Tryz.ntmps111
  go_wp2_with fail
  refine (HC.out _).mono ?_; rintro e w1 ⟨rfl, hb⟩; have hB := HB.out.call hb; have hF := hB.put6 (i := 0) rfl (by omega) (by simp [butBox] <;> omega) (.int .i64 0 : Value) (.int .i64 0 : Value) (.int .i64 0 : Value) (.string ⟨#[]⟩ : Value) (.bool false : Value) (.int .i64 0 : Value); have hbel := hF.bel; have kr := hB.box (i := 0) rfl; have cr0 := kr.cell 0; have zr0 := kr.frozen 0; have cr1 := kr.cell 1; have zr1 := kr.frozen 1; have cr2 := kr.cell 2; have zr2 := kr.frozen 2; have cr3 := kr.cell 3; have zr3 := kr.frozen 3; have cr4 := kr.cell 4; have zr4 := kr.frozen 4; have cr5 := kr.cell 5; have zr5 := kr.frozen 5; clear kr; clear hb HB HC hB hF; go_wp2; refine bodyPost_ret (v := .tuple #[V, .agg #[.int .i64 0, .int .i64 0, .int .i64 0, .string ⟨#[]⟩, .bool false, .int .i64 0], .bool true]) ?_ rfl ⟨rfl, hbel⟩; simp [results, Tryz.results111, go_sem, cr0, cr1, cr2, cr3, cr4, cr5]
set_option maxRecDepth 20000 in
theorem words_str {w : World} (t : ByteArray) :
    Calls Tryz.prog 111 #[.agg #[.int .i64 2, .int .i64 0, .int .i64 0, .string t, .bool false, .int .i64 0]] w fun x w' => x = .returned (.tuple #[.string t, .agg #[.int .i64 0, .int .i64 0, .int .i64 0, .string ⟨#[]⟩, .bool false, .int .i64 0], .bool true]) ∧ Below w.heap.size w w' := by
  have HC : Hid (∀ W : World, Calls Tryz.prog 173 #[.agg #[.int .i64 2, .int .i64 0, .int .i64 0, .string t, .bool false, .int .i64 0]] W fun x w' => x = .returned (.string t) ∧ Below W.heap.size W w') := Lib.hid (fun W => text_str t); have HB := Lib.hid ((sb1 w 32 #[.int .i64 2, .int .i64 0, .int .i64 0, .string t, .bool false, .int .i64 0]).push (by simp) 32 #[.int .i64 0, .int .i64 0, .int .i64 0, .string ⟨#[]⟩, .bool false, .int .i64 0]); go_enter Tryz.func111, Tryz.ntmps111
  go_wp2_with fail
  refine (HC.out _).mono ?_; rintro e w1 ⟨rfl, hb⟩; have hB := HB.out.call hb; have hF := hB.put6 (i := 0) rfl (by omega) (by simp [butBox] <;> omega) (.int .i64 0 : Value) (.int .i64 0 : Value) (.int .i64 0 : Value) (.string ⟨#[]⟩ : Value) (.bool false : Value) (.int .i64 0 : Value); have hbel := hF.bel; have kr := hB.box (i := 0) rfl; have cr0 := kr.cell 0; have zr0 := kr.frozen 0; have cr1 := kr.cell 1; have zr1 := kr.frozen 1; have cr2 := kr.cell 2; have zr2 := kr.frozen 2; have cr3 := kr.cell 3; have zr3 := kr.frozen 3; have cr4 := kr.cell 4; have zr4 := kr.frozen 4; have cr5 := kr.cell 5; have zr5 := kr.frozen 5; clear kr; clear hb HB HC hB hF; go_wp2; refine bodyPost_ret (v := .tuple #[.string t, .agg #[.int .i64 0, .int .i64 0, .int .i64 0, .string ⟨#[]⟩, .bool false, .int .i64 0], .bool true]) ?_ rfl ⟨rfl, hbel⟩; simp [results, Tryz.results111, go_sem, cr0, cr1, cr2, cr3, cr4, cr5]
set_option maxRecDepth 20000 in
theorem words_bool {w : World} (b : Bool) :
    Calls Tryz.prog 111 #[.agg #[.int .i64 3, .int .i64 0, .int .i64 0, .string ⟨#[]⟩, .bool b, .int .i64 0]] w fun x w' => x = .returned (.tuple #[sL (trL b), .agg #[.int .i64 0, .int .i64 0, .int .i64 0, .string ⟨#[]⟩, .bool false, .int .i64 0], .bool true]) ∧ Below w.heap.size w w' := by
  have HC : Hid (∀ W : World, Calls Tryz.prog 173 #[.agg #[.int .i64 3, .int .i64 0, .int .i64 0, .string ⟨#[]⟩, .bool b, .int .i64 0]] W fun x w' => x = .returned (sL (trL b)) ∧ Below W.heap.size W w') := Lib.hid (fun W => text_bool b); obtain ⟨V, hV⟩ : ∃ V, sL (trL b) = V := ⟨_, rfl⟩
  rw [hV] at HC ⊢; clear hV; have HB := Lib.hid ((sb1 w 32 #[.int .i64 3, .int .i64 0, .int .i64 0, .string ⟨#[]⟩, .bool b, .int .i64 0]).push (by simp) 32 #[.int .i64 0, .int .i64 0, .int .i64 0, .string ⟨#[]⟩, .bool false, .int .i64 0]); go_enter Tryz.func111, Tryz.ntmps111
  go_wp2_with fail
  refine (HC.out _).mono ?_; rintro e w1 ⟨rfl, hb⟩; have hB := HB.out.call hb; have hF := hB.put6 (i := 0) rfl (by omega) (by simp [butBox] <;> omega) (.int .i64 0 : Value) (.int .i64 0 : Value) (.int .i64 0 : Value) (.string ⟨#[]⟩ : Value) (.bool false : Value) (.int .i64 0 : Value); have hbel := hF.bel; have kr := hB.box (i := 0) rfl; have cr0 := kr.cell 0; have zr0 := kr.frozen 0; have cr1 := kr.cell 1; have zr1 := kr.frozen 1; have cr2 := kr.cell 2; have zr2 := kr.frozen 2; have cr3 := kr.cell 3; have zr3 := kr.frozen 3; have cr4 := kr.cell 4; have zr4 := kr.frozen 4; have cr5 := kr.cell 5; have zr5 := kr.frozen 5; clear kr; clear hb HB HC hB hF; go_wp2; refine bodyPost_ret (v := .tuple #[V, .agg #[.int .i64 0, .int .i64 0, .int .i64 0, .string ⟨#[]⟩, .bool false, .int .i64 0], .bool true]) ?_ rfl ⟨rfl, hbel⟩; simp [results, Tryz.results111, go_sem, cr0, cr1, cr2, cr3, cr4, cr5]
set_option maxRecDepth 20000 in
theorem words_num {w : World} {m : Int} {s : Nat} (HT : Tens w) (h : Gd m s) :
    Calls Tryz.prog 111 #[.agg #[.int .i64 1, .int .i64 m, .int .i64 (s : Nat), .string ⟨#[]⟩, .bool false, .int .i64 0]] w fun x w' => x = .returned (.tuple #[sL (decTx m s), .agg #[.int .i64 0, .int .i64 0, .int .i64 0, .string ⟨#[]⟩, .bool false, .int .i64 0], .bool true]) ∧ Below w.heap.size w w' := by
  have HC : Hid (∀ W : World, Below w.heap.size w W → Calls Tryz.prog 173 #[.agg #[.int .i64 1, .int .i64 m, .int .i64 (s : Nat), .string ⟨#[]⟩, .bool false, .int .i64 0]] W fun x w' => x = .returned (sL (decTx m s)) ∧ Below W.heap.size W w') := Lib.hid (fun W hb => text_num (HT.below hb) h); clear HT; obtain ⟨V, hV⟩ : ∃ V, sL (decTx m s) = V := ⟨_, rfl⟩
  rw [hV] at HC ⊢; clear hV; have HB := Lib.hid ((sb1 w 32 #[.int .i64 1, .int .i64 m, .int .i64 (s : Nat), .string ⟨#[]⟩, .bool false, .int .i64 0]).push (by simp) 32 #[.int .i64 0, .int .i64 0, .int .i64 0, .string ⟨#[]⟩, .bool false, .int .i64 0]); go_enter Tryz.func111, Tryz.ntmps111
  go_wp2_with fail
  refine (HC.out _ HB.out.bel).mono ?_; rintro e w1 ⟨rfl, hb⟩; have hB := HB.out.call hb; have hF := hB.put6 (i := 0) rfl (by omega) (by simp [butBox] <;> omega) (.int .i64 0 : Value) (.int .i64 0 : Value) (.int .i64 0 : Value) (.string ⟨#[]⟩ : Value) (.bool false : Value) (.int .i64 0 : Value); have hbel := hF.bel; have kr := hB.box (i := 0) rfl; have cr0 := kr.cell 0; have zr0 := kr.frozen 0; have cr1 := kr.cell 1; have zr1 := kr.frozen 1; have cr2 := kr.cell 2; have zr2 := kr.frozen 2; have cr3 := kr.cell 3; have zr3 := kr.frozen 3; have cr4 := kr.cell 4; have zr4 := kr.frozen 4; have cr5 := kr.cell 5; have zr5 := kr.frozen 5; clear kr; clear hb HB HC hB hF; go_wp2; refine bodyPost_ret (v := .tuple #[V, .agg #[.int .i64 0, .int .i64 0, .int .i64 0, .string ⟨#[]⟩, .bool false, .int .i64 0], .bool true]) ?_ rfl ⟨rfl, hbel⟩; simp [results, Tryz.results111, go_sem, cr0, cr1, cr2, cr3, cr4, cr5]
set_option maxRecDepth 20000 in
theorem words_err {w : World} (e : Int) :
    Calls Tryz.prog 111 #[.agg #[.int .i64 4, .int .i64 0, .int .i64 0, .string ⟨#[]⟩, .bool false, .int .i64 e]] w fun x w' => x = .returned (.tuple #[.string ⟨#[]⟩, .agg #[.int .i64 4, .int .i64 0, .int .i64 0, .string ⟨#[]⟩, .bool false, .int .i64 e], .bool false]) ∧ Below w.heap.size w w' := by
  have HB := Lib.hid ((sb1 w 32 #[.int .i64 4, .int .i64 0, .int .i64 0, .string ⟨#[]⟩, .bool false, .int .i64 e]).push (by simp) 32 #[.int .i64 0, .int .i64 0, .int .i64 0, .string ⟨#[]⟩, .bool false, .int .i64 0]); go_enter Tryz.func111, Tryz.ntmps111
  go_wp2_with fail
  refine wp_region_phases (S := (fun vals W => SX w 2 ([.put 0 #[.int .i64 4, .int .i64 0, .int .i64 0, .string ⟨#[]⟩, .bool false, .int .i64 e]] : List Stp) vals ([(w.heap.size + 1, 32, #[.int .i64 0, .int .i64 0, .int .i64 0, .string ⟨#[]⟩, .bool false, .int .i64 0]), (w.heap.size, 32, #[.int .i64 4, .int .i64 0, .int .i64 0, .string ⟨#[]⟩, .bool false, .int .i64 e])] : List (Nat × TypeId × Array Value)) W)) (E := (fun _ _ => True)) [2] [(1, Is (.pointer (some ⟨w.heap.size, 0, none⟩))), (3, Is (.pointer (some ⟨w.heap.size + 1, 0, none⟩)))] [(8, Is (.agg #[.int .i64 4, .int .i64 0, .int .i64 0, .string ⟨#[]⟩, .bool false, .int .i64 e])), (2, Is (.string ⟨#[]⟩)), (4, Is (.bool false))]
    [.op [1] none, .op [] none, .phase 0 [3, 8] [], .op [] none] (by as_aux_lemma => kernel_rfl) ?_ ?_ ?_ ?_ ?_ ⟨stable_is _ _, stable_is _ _, stable_is _ _, stable_is _ _, stable_is _ _, trivial⟩ ?_ (HB.out.drew) ?_ ?_
  · as_aux_lemma => kernel_rfl
  · as_aux_lemma => kernel_rfl
  · as_aux_lemma => kernel_rfl
  · as_aux_lemma => kernel_rfl
  · as_aux_lemma => kernel_rfl
  · exact ⟨rfl, rfl, trivial⟩
  · refine ⟨?_, ?_, ?_, ?_, trivial⟩
    · as_aux_lemma =>
        intro vals a W hS hL; have e1 : a.tmps.getD 1 undef = .pointer (some ⟨w.heap.size, 0, none⟩) := hL.1; clear hL; have kb : Bk W (w.heap.size) 32 #[.int .i64 4, .int .i64 0, .int .i64 0, .string ⟨#[]⟩, .bool false, .int .i64 e] := hS.bk 1 rfl rfl; have f0 := kb.cell 0; have f1 := kb.cell 1; have f2 := kb.cell 2; have f3 := kb.cell 3; have f4 := kb.cell 4; have f5 := kb.cell 5; clear kb; go_simp; exact ⟨⟨fun d hd => by injection hd with hd; subst hd; rfl, fun h => by cases h⟩, hS, trivial⟩
    · as_aux_lemma =>
        intro vals a W hS hL; clear hL; go_simp; exact ⟨⟨fun d hd => by injection hd with hd; subst hd; rfl, fun h => by cases h⟩, hS, trivial⟩
    · skip
      intro a W vals hv hS hL hp; have e3 : a.tmps.getD 3 undef = .pointer (some ⟨w.heap.size + 1, 0, none⟩) := hL.1; have e8 : a.tmps.getD 8 undef = .agg #[.int .i64 4, .int .i64 0, .int .i64 0, .string ⟨#[]⟩, .bool false, .int .i64 e] := hL.2.1; clear hL
      match vals, hv, hS with
      | [], _, hS =>
        have hS2 : SX w 2 ([.put 0 #[.int .i64 4, .int .i64 0, .int .i64 0, .string ⟨#[]⟩, .bool false, .int .i64 e]] : List Stp) [] ([(w.heap.size + 1, 32, #[.int .i64 0, .int .i64 0, .int .i64 0, .string ⟨#[]⟩, .bool false, .int .i64 0]), (w.heap.size, 32, #[.int .i64 4, .int .i64 0, .int .i64 0, .string ⟨#[]⟩, .bool false, .int .i64 e])] : List (Nat × TypeId × Array Value)) W := hS; clear hS; have hB0 := hS2; have hB : SB w 2 ([(w.heap.size + 1, 32, #[.int .i64 0, .int .i64 0, .int .i64 0, .string ⟨#[]⟩, .bool false, .int .i64 0]), (w.heap.size, 32, #[.int .i64 4, .int .i64 0, .int .i64 0, .string ⟨#[]⟩, .bool false, .int .i64 e])] : List (Nat × TypeId × Array Value)) W := hB0; clear hB0; rw [Array.getD_eq_getD_getElem?] at e8; have kz := hB.box (i := 0) rfl; have z0 := kz.frozen 0; have q0 := kz.cell 0; have z1 := kz.frozen 1; have q1 := kz.cell 1; have z2 := kz.frozen 2; have q2 := kz.cell 2; have z3 := kz.frozen 3; have q3 := kz.cell 3; have z4 := kz.frozen 4; have q4 := kz.cell 4; have z5 := kz.frozen 5; have q5 := kz.cell 5; have hge : w.heap.size ≤ (w.heap.size + 1) := by omega
        have hne : ∀ qx ∈ butBox ([(w.heap.size + 1, 32, #[.int .i64 0, .int .i64 0, .int .i64 0, .string ⟨#[]⟩, .bool false, .int .i64 0]), (w.heap.size, 32, #[.int .i64 4, .int .i64 0, .int .i64 0, .string ⟨#[]⟩, .bool false, .int .i64 e])] : List (Nat × TypeId × Array Value)) 0, qx.1 ≠ (w.heap.size + 1) := by simp [butBox] <;> omega
        have hF := hB.put6 (i := 0) rfl hge hne (.int .i64 4 : Value) (.int .i64 0 : Value) (.int .i64 0 : Value) (.string ⟨#[]⟩ : Value) (.bool false : Value) (.int .i64 e : Value); clear kz hB hne hge; go_simp; exact ⟨hF, trivial, trivial⟩
    · as_aux_lemma =>
        intro vals a W hS hL; clear hL; go_simp; exact ⟨⟨fun d hd => by injection hd with hd; subst hd; rfl, fun h => by cases h⟩, hS, trivial⟩
  · intro a W' vals hd hsz hT hF hv hP hS
    obtain ⟨v0, rfl⟩ : ∃ v0, vals = [v0] := by
      match vals, hv with
      | [v0], _ => exact ⟨v0, rfl⟩
    have hS2 : SX w 2 ([.put 0 #[.int .i64 4, .int .i64 0, .int .i64 0, .string ⟨#[]⟩, .bool false, .int .i64 e]] : List Stp) [v0] ([(w.heap.size + 1, 32, #[.int .i64 0, .int .i64 0, .int .i64 0, .string ⟨#[]⟩, .bool false, .int .i64 0]), (w.heap.size, 32, #[.int .i64 4, .int .i64 0, .int .i64 0, .string ⟨#[]⟩, .bool false, .int .i64 e])] : List (Nat × TypeId × Array Value)) W' := hS; clear hS; have hB0 := hS2; have hB : SB w 2 ([(w.heap.size + 1, 32, #[.int .i64 4, .int .i64 0, .int .i64 0, .string ⟨#[]⟩, .bool false, .int .i64 e]), (w.heap.size, 32, #[.int .i64 4, .int .i64 0, .int .i64 0, .string ⟨#[]⟩, .bool false, .int .i64 e])] : List (Nat × TypeId × Array Value)) W' := hB0; clear hB0; have kz0 := hB.box (i := 0) rfl; have r0_0 := kz0.cell 0; have r0_1 := kz0.cell 1; have r0_2 := kz0.cell 2; have r0_3 := kz0.cell 3; have r0_4 := kz0.cell 4; have r0_5 := kz0.cell 5; clear kz0; have e2 : a.tmps.getD 2 undef = .string ⟨#[]⟩ := hT 2 (by simp); have e3 : a.tmps.getD 3 undef = .pointer (some ⟨w.heap.size + 1, 0, none⟩) := hT 3 (by simp); have e4 : a.tmps.getD 4 undef = .bool false := hT 4 (by simp); clear hT hF hP; go_wp2; refine bodyPost_ret (v := .tuple #[.string ⟨#[]⟩, .agg #[.int .i64 4, .int .i64 0, .int .i64 0, .string ⟨#[]⟩, .bool false, .int .i64 e], .bool false]) ?_ hd ⟨rfl, hB.bel⟩; rw [Array.getD_eq_getD_getElem?] at e2 e3 e4; simp [results, Tryz.results111, go_sem, e2, e3, e4, r0_0, r0_1, r0_2, r0_3, r0_4, r0_5]
set_option maxRecDepth 20000 in
theorem truth_blank {w : World} :
    Calls Tryz.prog 110 #[.agg #[.int .i64 0, .int .i64 0, .int .i64 0, .string ⟨#[]⟩, .bool false, .int .i64 0]] w fun x w' => x = .returned (.tuple #[.bool false, .agg #[.int .i64 0, .int .i64 0, .int .i64 0, .string ⟨#[]⟩, .bool false, .int .i64 0], .bool true]) ∧ Below w.heap.size w w' := by
  go_enter Tryz.func110, Tryz.ntmps110; go_wp2; exact bodyPost_ret (v := .tuple #[.bool false, .agg #[.int .i64 0, .int .i64 0, .int .i64 0, .string ⟨#[]⟩, .bool false, .int .i64 0], .bool true]) (by simp [results, Tryz.results110, go_sem]) rfl ⟨rfl, bel1 _ _ _⟩
set_option maxRecDepth 20000 in
theorem truth_num0 {w : World} (s : Int) :
    Calls Tryz.prog 110 #[.agg #[.int .i64 1, .int .i64 0, .int .i64 s, .string ⟨#[]⟩, .bool false, .int .i64 0]] w fun x w' => x = .returned (.tuple #[.bool false, .agg #[.int .i64 0, .int .i64 0, .int .i64 0, .string ⟨#[]⟩, .bool false, .int .i64 0], .bool true]) ∧ Below w.heap.size w w' := by
  go_enter Tryz.func110, Tryz.ntmps110; go_wp2; exact bodyPost_ret (v := .tuple #[.bool false, .agg #[.int .i64 0, .int .i64 0, .int .i64 0, .string ⟨#[]⟩, .bool false, .int .i64 0], .bool true]) (by simp [results, Tryz.results110, go_sem]) rfl ⟨rfl, bel1 _ _ _⟩
set_option maxRecDepth 20000 in
theorem truth_numn {w : World} (m s : Int) (h : ¬ m = 0) :
    Calls Tryz.prog 110 #[.agg #[.int .i64 1, .int .i64 m, .int .i64 s, .string ⟨#[]⟩, .bool false, .int .i64 0]] w fun x w' => x = .returned (.tuple #[.bool true, .agg #[.int .i64 0, .int .i64 0, .int .i64 0, .string ⟨#[]⟩, .bool false, .int .i64 0], .bool true]) ∧ Below w.heap.size w w' := by
  go_enter Tryz.func110, Tryz.ntmps110; go_wp2; exact bodyPost_ret (v := .tuple #[.bool true, .agg #[.int .i64 0, .int .i64 0, .int .i64 0, .string ⟨#[]⟩, .bool false, .int .i64 0], .bool true]) (by simp [results, Tryz.results110, go_sem]; exact h) rfl ⟨rfl, bel1 _ _ _⟩
set_option maxRecDepth 20000 in
theorem truth_yes {w : World} :
    Calls Tryz.prog 110 #[.agg #[.int .i64 2, .int .i64 0, .int .i64 0, .string ⟨#[84, 82, 85, 69]⟩, .bool false, .int .i64 0]] w fun x w' => x = .returned (.tuple #[.bool true, .agg #[.int .i64 0, .int .i64 0, .int .i64 0, .string ⟨#[]⟩, .bool false, .int .i64 0], .bool true]) ∧ Below w.heap.size w w' := by
  go_enter Tryz.func110, Tryz.ntmps110; go_wp2; exact bodyPost_ret (v := .tuple #[.bool true, .agg #[.int .i64 0, .int .i64 0, .int .i64 0, .string ⟨#[]⟩, .bool false, .int .i64 0], .bool true]) (by simp [results, Tryz.results110, go_sem]) rfl ⟨rfl, bel1 _ _ _⟩
set_option maxRecDepth 20000 in
theorem truth_no {w : World} :
    Calls Tryz.prog 110 #[.agg #[.int .i64 2, .int .i64 0, .int .i64 0, .string ⟨#[70, 65, 76, 83, 69]⟩, .bool false, .int .i64 0]] w fun x w' => x = .returned (.tuple #[.bool false, .agg #[.int .i64 0, .int .i64 0, .int .i64 0, .string ⟨#[]⟩, .bool false, .int .i64 0], .bool true]) ∧ Below w.heap.size w w' := by
  go_enter Tryz.func110, Tryz.ntmps110; go_wp2; exact bodyPost_ret (v := .tuple #[.bool false, .agg #[.int .i64 0, .int .i64 0, .int .i64 0, .string ⟨#[]⟩, .bool false, .int .i64 0], .bool true]) (by simp [results, Tryz.results110, go_sem]) rfl ⟨rfl, bel1 _ _ _⟩
set_option maxRecDepth 20000 in
theorem truth_bool {w : World} (b : Bool) :
    Calls Tryz.prog 110 #[.agg #[.int .i64 3, .int .i64 0, .int .i64 0, .string ⟨#[]⟩, .bool b, .int .i64 0]] w fun x w' => x = .returned (.tuple #[.bool b, .agg #[.int .i64 0, .int .i64 0, .int .i64 0, .string ⟨#[]⟩, .bool false, .int .i64 0], .bool true]) ∧ Below w.heap.size w w' := by
  go_enter Tryz.func110, Tryz.ntmps110; go_wp2; exact bodyPost_ret (v := .tuple #[.bool b, .agg #[.int .i64 0, .int .i64 0, .int .i64 0, .string ⟨#[]⟩, .bool false, .int .i64 0], .bool true]) (by simp [results, Tryz.results110, go_sem]) rfl ⟨rfl, bel1 _ _ _⟩
set_option maxRecDepth 20000 in
theorem truth_err {w : World} (e : Int) :
    Calls Tryz.prog 110 #[.agg #[.int .i64 4, .int .i64 0, .int .i64 0, .string ⟨#[]⟩, .bool false, .int .i64 e]] w fun x w' => x = .returned (.tuple #[.bool false, .agg #[.int .i64 4, .int .i64 0, .int .i64 0, .string ⟨#[]⟩, .bool false, .int .i64 e], .bool false]) ∧ Below w.heap.size w w' := by
  have HB := Lib.hid ((sb1 w 32 #[.int .i64 4, .int .i64 0, .int .i64 0, .string ⟨#[]⟩, .bool false, .int .i64 e]).push (by simp) 32 #[.int .i64 0, .int .i64 0, .int .i64 0, .string ⟨#[]⟩, .bool false, .int .i64 0]); go_enter Tryz.func110, Tryz.ntmps110
  go_wp2_with fail
  refine wp_region_phases (S := (fun vals W => SX w 2 ([.put 0 #[.int .i64 4, .int .i64 0, .int .i64 0, .string ⟨#[]⟩, .bool false, .int .i64 e]] : List Stp) vals ([(w.heap.size + 1, 32, #[.int .i64 0, .int .i64 0, .int .i64 0, .string ⟨#[]⟩, .bool false, .int .i64 0]), (w.heap.size, 32, #[.int .i64 4, .int .i64 0, .int .i64 0, .string ⟨#[]⟩, .bool false, .int .i64 e])] : List (Nat × TypeId × Array Value)) W)) (E := (fun _ _ => True)) [2] [(1, Is (.pointer (some ⟨w.heap.size, 0, none⟩))), (3, Is (.pointer (some ⟨w.heap.size + 1, 0, none⟩)))] [(38, Is (.agg #[.int .i64 4, .int .i64 0, .int .i64 0, .string ⟨#[]⟩, .bool false, .int .i64 e])), (2, Is (.bool false)), (4, Is (.bool false))]
    [.op [1] none, .op [] none, .phase 0 [3, 38] [], .op [] none] (by as_aux_lemma => kernel_rfl) ?_ ?_ ?_ ?_ ?_ ⟨stable_is _ _, stable_is _ _, stable_is _ _, stable_is _ _, stable_is _ _, trivial⟩ ?_ (HB.out.drew) ?_ ?_
  · as_aux_lemma => kernel_rfl
  · as_aux_lemma => kernel_rfl
  · as_aux_lemma => kernel_rfl
  · as_aux_lemma => kernel_rfl
  · as_aux_lemma => kernel_rfl
  · exact ⟨rfl, rfl, trivial⟩
  · refine ⟨?_, ?_, ?_, ?_, trivial⟩
    · as_aux_lemma =>
        intro vals a W hS hL; have e1 : a.tmps.getD 1 undef = .pointer (some ⟨w.heap.size, 0, none⟩) := hL.1; clear hL; have kb : Bk W (w.heap.size) 32 #[.int .i64 4, .int .i64 0, .int .i64 0, .string ⟨#[]⟩, .bool false, .int .i64 e] := hS.bk 1 rfl rfl; have f0 := kb.cell 0; have f1 := kb.cell 1; have f2 := kb.cell 2; have f3 := kb.cell 3; have f4 := kb.cell 4; have f5 := kb.cell 5; clear kb; go_simp; exact ⟨⟨fun d hd => by injection hd with hd; subst hd; rfl, fun h => by cases h⟩, hS, trivial⟩
    · as_aux_lemma =>
        intro vals a W hS hL; clear hL; go_simp; exact ⟨⟨fun d hd => by injection hd with hd; subst hd; rfl, fun h => by cases h⟩, hS, trivial⟩
    · skip
      intro a W vals hv hS hL hp; have e3 : a.tmps.getD 3 undef = .pointer (some ⟨w.heap.size + 1, 0, none⟩) := hL.1; have e38 : a.tmps.getD 38 undef = .agg #[.int .i64 4, .int .i64 0, .int .i64 0, .string ⟨#[]⟩, .bool false, .int .i64 e] := hL.2.1; clear hL
      match vals, hv, hS with
      | [], _, hS =>
        have hS2 : SX w 2 ([.put 0 #[.int .i64 4, .int .i64 0, .int .i64 0, .string ⟨#[]⟩, .bool false, .int .i64 e]] : List Stp) [] ([(w.heap.size + 1, 32, #[.int .i64 0, .int .i64 0, .int .i64 0, .string ⟨#[]⟩, .bool false, .int .i64 0]), (w.heap.size, 32, #[.int .i64 4, .int .i64 0, .int .i64 0, .string ⟨#[]⟩, .bool false, .int .i64 e])] : List (Nat × TypeId × Array Value)) W := hS; clear hS; have hB0 := hS2; have hB : SB w 2 ([(w.heap.size + 1, 32, #[.int .i64 0, .int .i64 0, .int .i64 0, .string ⟨#[]⟩, .bool false, .int .i64 0]), (w.heap.size, 32, #[.int .i64 4, .int .i64 0, .int .i64 0, .string ⟨#[]⟩, .bool false, .int .i64 e])] : List (Nat × TypeId × Array Value)) W := hB0; clear hB0; rw [Array.getD_eq_getD_getElem?] at e38; have kz := hB.box (i := 0) rfl; have z0 := kz.frozen 0; have q0 := kz.cell 0; have z1 := kz.frozen 1; have q1 := kz.cell 1; have z2 := kz.frozen 2; have q2 := kz.cell 2; have z3 := kz.frozen 3; have q3 := kz.cell 3; have z4 := kz.frozen 4; have q4 := kz.cell 4; have z5 := kz.frozen 5; have q5 := kz.cell 5; have hge : w.heap.size ≤ (w.heap.size + 1) := by omega
        have hne : ∀ qx ∈ butBox ([(w.heap.size + 1, 32, #[.int .i64 0, .int .i64 0, .int .i64 0, .string ⟨#[]⟩, .bool false, .int .i64 0]), (w.heap.size, 32, #[.int .i64 4, .int .i64 0, .int .i64 0, .string ⟨#[]⟩, .bool false, .int .i64 e])] : List (Nat × TypeId × Array Value)) 0, qx.1 ≠ (w.heap.size + 1) := by simp [butBox] <;> omega
        have hF := hB.put6 (i := 0) rfl hge hne (.int .i64 4 : Value) (.int .i64 0 : Value) (.int .i64 0 : Value) (.string ⟨#[]⟩ : Value) (.bool false : Value) (.int .i64 e : Value); clear kz hB hne hge; go_simp; exact ⟨hF, trivial, trivial⟩
    · as_aux_lemma =>
        intro vals a W hS hL; clear hL; go_simp; exact ⟨⟨fun d hd => by injection hd with hd; subst hd; rfl, fun h => by cases h⟩, hS, trivial⟩
  · intro a W' vals hd hsz hT hF hv hP hS
    obtain ⟨v0, rfl⟩ : ∃ v0, vals = [v0] := by
      match vals, hv with
      | [v0], _ => exact ⟨v0, rfl⟩
    have hS2 : SX w 2 ([.put 0 #[.int .i64 4, .int .i64 0, .int .i64 0, .string ⟨#[]⟩, .bool false, .int .i64 e]] : List Stp) [v0] ([(w.heap.size + 1, 32, #[.int .i64 0, .int .i64 0, .int .i64 0, .string ⟨#[]⟩, .bool false, .int .i64 0]), (w.heap.size, 32, #[.int .i64 4, .int .i64 0, .int .i64 0, .string ⟨#[]⟩, .bool false, .int .i64 e])] : List (Nat × TypeId × Array Value)) W' := hS; clear hS; have hB0 := hS2; have hB : SB w 2 ([(w.heap.size + 1, 32, #[.int .i64 4, .int .i64 0, .int .i64 0, .string ⟨#[]⟩, .bool false, .int .i64 e]), (w.heap.size, 32, #[.int .i64 4, .int .i64 0, .int .i64 0, .string ⟨#[]⟩, .bool false, .int .i64 e])] : List (Nat × TypeId × Array Value)) W' := hB0; clear hB0; have kz0 := hB.box (i := 0) rfl; have r0_0 := kz0.cell 0; have r0_1 := kz0.cell 1; have r0_2 := kz0.cell 2; have r0_3 := kz0.cell 3; have r0_4 := kz0.cell 4; have r0_5 := kz0.cell 5; clear kz0; have e2 : a.tmps.getD 2 undef = .bool false := hT 2 (by simp); have e3 : a.tmps.getD 3 undef = .pointer (some ⟨w.heap.size + 1, 0, none⟩) := hT 3 (by simp); have e4 : a.tmps.getD 4 undef = .bool false := hT 4 (by simp); clear hT hF hP; go_wp2; refine bodyPost_ret (v := .tuple #[.bool false, .agg #[.int .i64 4, .int .i64 0, .int .i64 0, .string ⟨#[]⟩, .bool false, .int .i64 e], .bool false]) ?_ hd ⟨rfl, hB.bel⟩; rw [Array.getD_eq_getD_getElem?] at e2 e3 e4; simp [results, Tryz.results110, go_sem, e2, e3, e4, r0_0, r0_1, r0_2, r0_3, r0_4, r0_5]
set_option maxRecDepth 20000 in
theorem truth_none {w : World} (t : ByteArray) (h1 : (t.toList == [84, 82, 85, 69]) = false) (h2 : (t.toList == [70, 65, 76, 83, 69]) = false) :
    Calls Tryz.prog 110 #[.agg #[.int .i64 2, .int .i64 0, .int .i64 0, .string t, .bool false, .int .i64 0]] w fun x w' => x = .returned (.tuple #[.bool false, .agg #[.int .i64 4, .int .i64 0, .int .i64 0, .string ⟨#[]⟩, .bool false, .int .i64 15], .bool false]) ∧ Below w.heap.size w w' := by
  have HX := Lib.hid (fun W : World => fault_any (w := W) 15); have HB := Lib.hid ((sb1 w 32 #[.int .i64 2, .int .i64 0, .int .i64 0, .string t, .bool false, .int .i64 0]).push (by simp) 32 #[.int .i64 0, .int .i64 0, .int .i64 0, .string ⟨#[]⟩, .bool false, .int .i64 0]); go_enter Tryz.func110, Tryz.ntmps110
  go_wp2_with fail
  refine (HX.out _).mono ?_; rintro e w9 ⟨rfl, hb⟩; have hB := HB.out.call hb; have hF := hB.put6 (i := 0) rfl (by omega) (by simp [butBox] <;> omega) (.int .i64 4 : Value) (.int .i64 0 : Value) (.int .i64 0 : Value) (.string ⟨#[]⟩ : Value) (.bool false : Value) (.int .i64 15 : Value); have hbel := hF.bel; have kr := hB.box (i := 0) rfl; have cr0 := kr.cell 0; have zr0 := kr.frozen 0; have cr1 := kr.cell 1; have zr1 := kr.frozen 1; have cr2 := kr.cell 2; have zr2 := kr.frozen 2; have cr3 := kr.cell 3; have zr3 := kr.frozen 3; have cr4 := kr.cell 4; have zr4 := kr.frozen 4; have cr5 := kr.cell 5; have zr5 := kr.frozen 5; clear kr; clear hb HB HX hB hF; go_wp2; refine bodyPost_ret (v := .tuple #[.bool false, .agg #[.int .i64 4, .int .i64 0, .int .i64 0, .string ⟨#[]⟩, .bool false, .int .i64 15], .bool false]) ?_ rfl ⟨rfl, hbel⟩; simp [results, Tryz.results110, go_sem, cr0, cr1, cr2, cr3, cr4, cr5]
set_option maxRecDepth 20000 in
theorem number_blank {w : World} :
    Calls Tryz.prog 109 #[.agg #[.int .i64 0, .int .i64 0, .int .i64 0, .string ⟨#[]⟩, .bool false, .int .i64 0]] w fun x w' => x = .returned (.tuple #[.agg #[.int .i64 0, .int .i64 0], .agg #[.int .i64 0, .int .i64 0, .int .i64 0, .string ⟨#[]⟩, .bool false, .int .i64 0], .bool true]) ∧ Below w.heap.size w w' := by
  go_enter Tryz.func109, Tryz.ntmps109; go_wp2; exact bodyPost_ret (v := .tuple #[.agg #[.int .i64 0, .int .i64 0], .agg #[.int .i64 0, .int .i64 0, .int .i64 0, .string ⟨#[]⟩, .bool false, .int .i64 0], .bool true]) (by simp [results, Tryz.results109, go_sem]) rfl ⟨rfl, bel2 _ _ _ _⟩
set_option maxRecDepth 20000 in
theorem number_num {w : World} (m s : Int) :
    Calls Tryz.prog 109 #[.agg #[.int .i64 1, .int .i64 m, .int .i64 s, .string ⟨#[]⟩, .bool false, .int .i64 0]] w fun x w' => x = .returned (.tuple #[.agg #[.int .i64 m, .int .i64 s], .agg #[.int .i64 0, .int .i64 0, .int .i64 0, .string ⟨#[]⟩, .bool false, .int .i64 0], .bool true]) ∧ Below w.heap.size w w' := by
  go_enter Tryz.func109, Tryz.ntmps109; go_wp2; exact bodyPost_ret (v := .tuple #[.agg #[.int .i64 m, .int .i64 s], .agg #[.int .i64 0, .int .i64 0, .int .i64 0, .string ⟨#[]⟩, .bool false, .int .i64 0], .bool true]) (by simp [results, Tryz.results109, go_sem]) rfl ⟨rfl, bel2 _ _ _ _⟩
set_option maxRecDepth 20000 in
theorem number_err {w : World} (e : Int) :
    Calls Tryz.prog 109 #[.agg #[.int .i64 4, .int .i64 0, .int .i64 0, .string ⟨#[]⟩, .bool false, .int .i64 e]] w fun x w' => x = .returned (.tuple #[.agg #[.int .i64 0, .int .i64 0], .agg #[.int .i64 4, .int .i64 0, .int .i64 0, .string ⟨#[]⟩, .bool false, .int .i64 e], .bool false]) ∧ Below w.heap.size w w' := by
  have HB := Lib.hid (((sb1 w 32 #[.int .i64 4, .int .i64 0, .int .i64 0, .string ⟨#[]⟩, .bool false, .int .i64 e]).push (by simp) 30 #[.int .i64 0, .int .i64 0]).push (by simp) 32 #[.int .i64 0, .int .i64 0, .int .i64 0, .string ⟨#[]⟩, .bool false, .int .i64 0]); go_enter Tryz.func109, Tryz.ntmps109
  go_wp2_with fail
  refine wp_region_phases (S := (fun vals W => SX w 3 ([.put 1 #[.int .i64 0, .int .i64 0], .put 0 #[.int .i64 4, .int .i64 0, .int .i64 0, .string ⟨#[]⟩, .bool false, .int .i64 e]] : List Stp) vals ([(w.heap.size + 2, 32, #[.int .i64 0, .int .i64 0, .int .i64 0, .string ⟨#[]⟩, .bool false, .int .i64 0]), (w.heap.size + 1, 30, #[.int .i64 0, .int .i64 0]), (w.heap.size, 32, #[.int .i64 4, .int .i64 0, .int .i64 0, .string ⟨#[]⟩, .bool false, .int .i64 e])] : List (Nat × TypeId × Array Value)) W)) (E := (fun _ _ => True)) [2, 3] [(1, Is (.pointer (some ⟨w.heap.size, 0, none⟩))), (3, Is (.pointer (some ⟨w.heap.size + 2, 0, none⟩))), (2, Is (.pointer (some ⟨w.heap.size + 1, 0, none⟩)))] [(39, Is (.agg #[.int .i64 0, .int .i64 0])), (40, Is (.agg #[.int .i64 4, .int .i64 0, .int .i64 0, .string ⟨#[]⟩, .bool false, .int .i64 e])), (4, Is (.bool false))]
    [.op [] none, .op [1] none, .phase 0 [2, 39] [], .phase 1 [3, 40] [], .op [] none] (by as_aux_lemma => kernel_rfl) ?_ ?_ ?_ ?_ ?_ ⟨stable_is _ _, stable_is _ _, stable_is _ _, stable_is _ _, stable_is _ _, stable_is _ _, trivial⟩ ?_ (HB.out.drew) ?_ ?_
  · as_aux_lemma => kernel_rfl
  · as_aux_lemma => kernel_rfl
  · as_aux_lemma => kernel_rfl
  · as_aux_lemma => kernel_rfl
  · as_aux_lemma => kernel_rfl
  · exact ⟨rfl, rfl, rfl, trivial⟩
  · refine ⟨?_, ?_, ?_, ?_, ?_, trivial⟩
    · as_aux_lemma =>
        intro vals a W hS hL; clear hL; go_simp; exact ⟨⟨fun d hd => by injection hd with hd; subst hd; rfl, fun h => by cases h⟩, hS, trivial⟩
    · as_aux_lemma =>
        intro vals a W hS hL; have e1 : a.tmps.getD 1 undef = .pointer (some ⟨w.heap.size, 0, none⟩) := hL.1; clear hL; have kb : Bk W (w.heap.size) 32 #[.int .i64 4, .int .i64 0, .int .i64 0, .string ⟨#[]⟩, .bool false, .int .i64 e] := hS.bk 2 rfl rfl; have f0 := kb.cell 0; have f1 := kb.cell 1; have f2 := kb.cell 2; have f3 := kb.cell 3; have f4 := kb.cell 4; have f5 := kb.cell 5; clear kb; go_simp; exact ⟨⟨fun d hd => by injection hd with hd; subst hd; rfl, fun h => by cases h⟩, hS, trivial⟩
    · as_aux_lemma =>
        intro a W vals hv hS hL hp; have e2 : a.tmps.getD 2 undef = .pointer (some ⟨w.heap.size + 1, 0, none⟩) := hL.1; have e39 : a.tmps.getD 39 undef = .agg #[.int .i64 0, .int .i64 0] := hL.2.1; clear hL
        match vals, hv, hS with
        | [], _, hS =>
          have hS2 : SX w 3 ([.put 1 #[.int .i64 0, .int .i64 0], .put 0 #[.int .i64 4, .int .i64 0, .int .i64 0, .string ⟨#[]⟩, .bool false, .int .i64 e]] : List Stp) [] ([(w.heap.size + 2, 32, #[.int .i64 0, .int .i64 0, .int .i64 0, .string ⟨#[]⟩, .bool false, .int .i64 0]), (w.heap.size + 1, 30, #[.int .i64 0, .int .i64 0]), (w.heap.size, 32, #[.int .i64 4, .int .i64 0, .int .i64 0, .string ⟨#[]⟩, .bool false, .int .i64 e])] : List (Nat × TypeId × Array Value)) W := hS; clear hS; have hB0 := hS2; have hB : SB w 3 ([(w.heap.size + 2, 32, #[.int .i64 0, .int .i64 0, .int .i64 0, .string ⟨#[]⟩, .bool false, .int .i64 0]), (w.heap.size + 1, 30, #[.int .i64 0, .int .i64 0]), (w.heap.size, 32, #[.int .i64 4, .int .i64 0, .int .i64 0, .string ⟨#[]⟩, .bool false, .int .i64 e])] : List (Nat × TypeId × Array Value)) W := hB0; clear hB0; rw [Array.getD_eq_getD_getElem?] at e39; have kz := hB.box (i := 1) rfl; have z0 := kz.frozen 0; have q0 := kz.cell 0; have z1 := kz.frozen 1; have q1 := kz.cell 1; have hge : w.heap.size ≤ (w.heap.size + 1) := by omega
          have hne : ∀ qx ∈ butBox ([(w.heap.size + 2, 32, #[.int .i64 0, .int .i64 0, .int .i64 0, .string ⟨#[]⟩, .bool false, .int .i64 0]), (w.heap.size + 1, 30, #[.int .i64 0, .int .i64 0]), (w.heap.size, 32, #[.int .i64 4, .int .i64 0, .int .i64 0, .string ⟨#[]⟩, .bool false, .int .i64 e])] : List (Nat × TypeId × Array Value)) 1, qx.1 ≠ (w.heap.size + 1) := by simp [butBox] <;> omega
          have hF := hB.put2 (i := 1) rfl hge hne (.int .i64 0 : Value) (.int .i64 0 : Value); clear kz hB hne hge; go_simp; exact ⟨hF, trivial, trivial⟩
    · skip
      intro a W vals hv hS hL hp; have e3 : a.tmps.getD 3 undef = .pointer (some ⟨w.heap.size + 2, 0, none⟩) := hL.1; have e40 : a.tmps.getD 40 undef = .agg #[.int .i64 4, .int .i64 0, .int .i64 0, .string ⟨#[]⟩, .bool false, .int .i64 e] := hL.2.1; clear hL
      match vals, hv, hS with
      | [v0], _, hS =>
        have hS2 : SX w 3 ([.put 1 #[.int .i64 0, .int .i64 0], .put 0 #[.int .i64 4, .int .i64 0, .int .i64 0, .string ⟨#[]⟩, .bool false, .int .i64 e]] : List Stp) [v0] ([(w.heap.size + 2, 32, #[.int .i64 0, .int .i64 0, .int .i64 0, .string ⟨#[]⟩, .bool false, .int .i64 0]), (w.heap.size + 1, 30, #[.int .i64 0, .int .i64 0]), (w.heap.size, 32, #[.int .i64 4, .int .i64 0, .int .i64 0, .string ⟨#[]⟩, .bool false, .int .i64 e])] : List (Nat × TypeId × Array Value)) W := hS; clear hS; have hB0 := hS2; have hB : SB w 3 ([(w.heap.size + 2, 32, #[.int .i64 0, .int .i64 0, .int .i64 0, .string ⟨#[]⟩, .bool false, .int .i64 0]), (w.heap.size + 1, 30, #[.int .i64 0, .int .i64 0]), (w.heap.size, 32, #[.int .i64 4, .int .i64 0, .int .i64 0, .string ⟨#[]⟩, .bool false, .int .i64 e])] : List (Nat × TypeId × Array Value)) W := hB0; clear hB0; rw [Array.getD_eq_getD_getElem?] at e40; have kz := hB.box (i := 0) rfl; have z0 := kz.frozen 0; have q0 := kz.cell 0; have z1 := kz.frozen 1; have q1 := kz.cell 1; have z2 := kz.frozen 2; have q2 := kz.cell 2; have z3 := kz.frozen 3; have q3 := kz.cell 3; have z4 := kz.frozen 4; have q4 := kz.cell 4; have z5 := kz.frozen 5; have q5 := kz.cell 5; have hge : w.heap.size ≤ (w.heap.size + 2) := by omega
        have hne : ∀ qx ∈ butBox ([(w.heap.size + 2, 32, #[.int .i64 0, .int .i64 0, .int .i64 0, .string ⟨#[]⟩, .bool false, .int .i64 0]), (w.heap.size + 1, 30, #[.int .i64 0, .int .i64 0]), (w.heap.size, 32, #[.int .i64 4, .int .i64 0, .int .i64 0, .string ⟨#[]⟩, .bool false, .int .i64 e])] : List (Nat × TypeId × Array Value)) 0, qx.1 ≠ (w.heap.size + 2) := by simp [butBox] <;> omega
        have hF := hB.put6 (i := 0) rfl hge hne (.int .i64 4 : Value) (.int .i64 0 : Value) (.int .i64 0 : Value) (.string ⟨#[]⟩ : Value) (.bool false : Value) (.int .i64 e : Value); clear kz hB hne hge; go_simp; exact ⟨hF, trivial, trivial⟩
    · as_aux_lemma =>
        intro vals a W hS hL; clear hL; go_simp; exact ⟨⟨fun d hd => by injection hd with hd; subst hd; rfl, fun h => by cases h⟩, hS, trivial⟩
  · intro a W' vals hd hsz hT hF hv hP hS
    obtain ⟨v0, v1, rfl⟩ : ∃ v0 v1, vals = [v0, v1] := by
      match vals, hv with
      | [v0, v1], _ => exact ⟨v0, v1, rfl⟩
    have hS2 : SX w 3 ([.put 1 #[.int .i64 0, .int .i64 0], .put 0 #[.int .i64 4, .int .i64 0, .int .i64 0, .string ⟨#[]⟩, .bool false, .int .i64 e]] : List Stp) [v0, v1] ([(w.heap.size + 2, 32, #[.int .i64 0, .int .i64 0, .int .i64 0, .string ⟨#[]⟩, .bool false, .int .i64 0]), (w.heap.size + 1, 30, #[.int .i64 0, .int .i64 0]), (w.heap.size, 32, #[.int .i64 4, .int .i64 0, .int .i64 0, .string ⟨#[]⟩, .bool false, .int .i64 e])] : List (Nat × TypeId × Array Value)) W' := hS; clear hS; have hB0 := hS2; have hB : SB w 3 ([(w.heap.size + 2, 32, #[.int .i64 4, .int .i64 0, .int .i64 0, .string ⟨#[]⟩, .bool false, .int .i64 e]), (w.heap.size + 1, 30, #[.int .i64 0, .int .i64 0]), (w.heap.size, 32, #[.int .i64 4, .int .i64 0, .int .i64 0, .string ⟨#[]⟩, .bool false, .int .i64 e])] : List (Nat × TypeId × Array Value)) W' := hB0; clear hB0; have kz0 := hB.box (i := 0) rfl; have r0_0 := kz0.cell 0; have r0_1 := kz0.cell 1; have r0_2 := kz0.cell 2; have r0_3 := kz0.cell 3; have r0_4 := kz0.cell 4; have r0_5 := kz0.cell 5; clear kz0; have kz1 := hB.box (i := 1) rfl; have r1_0 := kz1.cell 0; have r1_1 := kz1.cell 1; clear kz1; have e2 : a.tmps.getD 2 undef = .pointer (some ⟨w.heap.size + 1, 0, none⟩) := hT 2 (by simp); have e3 : a.tmps.getD 3 undef = .pointer (some ⟨w.heap.size + 2, 0, none⟩) := hT 3 (by simp); have e4 : a.tmps.getD 4 undef = .bool false := hT 4 (by simp); clear hT hF hP; go_wp2; refine bodyPost_ret (v := .tuple #[.agg #[.int .i64 0, .int .i64 0], .agg #[.int .i64 4, .int .i64 0, .int .i64 0, .string ⟨#[]⟩, .bool false, .int .i64 e], .bool false]) ?_ hd ⟨rfl, hB.bel⟩; rw [Array.getD_eq_getD_getElem?] at e2 e3 e4; simp [results, Tryz.results109, go_sem, e2, e3, e4, r0_0, r0_1, r0_2, r0_3, r0_4, r0_5, r1_0, r1_1]
set_option maxRecDepth 20000 in
theorem number_bool {w : World} (b : Bool) :
    Calls Tryz.prog 109 #[.agg #[.int .i64 3, .int .i64 0, .int .i64 0, .string ⟨#[]⟩, .bool b, .int .i64 0]] w fun x w' => x = .returned (.tuple #[.agg #[.int .i64 (rk b), .int .i64 0], .agg #[.int .i64 0, .int .i64 0, .int .i64 0, .string ⟨#[]⟩, .bool false, .int .i64 0], .bool true]) ∧ Below w.heap.size w w' := by
  have H1 := Lib.hid (fun W : World => rank_any (w := W) b); have H2 := Lib.hid (fun W : World => int_any (w := W) (n := rk b)); generalize rk b = r at *; have HB := Lib.hid (((sb1 w 32 #[.int .i64 3, .int .i64 0, .int .i64 0, .string ⟨#[]⟩, .bool b, .int .i64 0]).push (by simp) 30 #[.int .i64 0, .int .i64 0]).push (by simp) 32 #[.int .i64 0, .int .i64 0, .int .i64 0, .string ⟨#[]⟩, .bool false, .int .i64 0]); go_enter Tryz.func109, Tryz.ntmps109
  go_wp2_with fail
  refine (H1.out _).mono ?_; rintro e w1 ⟨rfl, rfl⟩
  go_wp2_with fail
  refine (H2.out _).mono ?_; rintro e w2 ⟨rfl, hb⟩; have hB := HB.out.call hb; have hF1 := hB.put2 (i := 1) rfl (by omega) (by simp [butBox] <;> omega) (.int .i64 r : Value) (.int .i64 0 : Value); have hF := hF1.put6 (i := 0) rfl (by omega) (by simp [butBox, setBox] <;> omega) (.int .i64 0 : Value) (.int .i64 0 : Value) (.int .i64 0 : Value) (.string ⟨#[]⟩ : Value) (.bool false : Value) (.int .i64 0 : Value); have hbel := hF.bel; have kr := hB.box (i := 0) rfl; have cr0 := kr.cell 0; have zr0 := kr.frozen 0; have cr1 := kr.cell 1; have zr1 := kr.frozen 1; have cr2 := kr.cell 2; have zr2 := kr.frozen 2; have cr3 := kr.cell 3; have zr3 := kr.frozen 3; have cr4 := kr.cell 4; have zr4 := kr.frozen 4; have cr5 := kr.cell 5; have zr5 := kr.frozen 5; clear kr; have kd := hB.box (i := 1) rfl; have cd0 := kd.cell 0; have zd0 := kd.frozen 0; have cd1 := kd.cell 1; have zd1 := kd.frozen 1; clear kd; clear hb HB H1 H2 hB hF hF1; go_wp2; refine bodyPost_ret (v := .tuple #[.agg #[.int .i64 r, .int .i64 0], .agg #[.int .i64 0, .int .i64 0, .int .i64 0, .string ⟨#[]⟩, .bool false, .int .i64 0], .bool true]) ?_ rfl ⟨rfl, hbel⟩; simp [results, Tryz.results109, go_sem, cr0, cr1, cr2, cr3, cr4, cr5, cd0, cd1]
set_option maxRecDepth 20000 in
theorem number_str {w : World} {t : ByteArray} {m s : Int} (HP : ∀ W : World, Calls Tryz.prog 172 #[.string t] W fun x w' => x = .returned (.tuple #[.agg #[.int .i64 m, .int .i64 s], .int .i64 0]) ∧ Below W.heap.size W w') :
    Calls Tryz.prog 109 #[.agg #[.int .i64 2, .int .i64 0, .int .i64 0, .string t, .bool false, .int .i64 0]] w fun x w' => x = .returned (.tuple #[.agg #[.int .i64 m, .int .i64 s], .agg #[.int .i64 0, .int .i64 0, .int .i64 0, .string ⟨#[]⟩, .bool false, .int .i64 0], .bool true]) ∧ Below w.heap.size w w' := by
  have H1 := Lib.hid HP; clear HP; have HB := Lib.hid (((sb1 w 32 #[.int .i64 2, .int .i64 0, .int .i64 0, .string t, .bool false, .int .i64 0]).push (by simp) 30 #[.int .i64 0, .int .i64 0]).push (by simp) 32 #[.int .i64 0, .int .i64 0, .int .i64 0, .string ⟨#[]⟩, .bool false, .int .i64 0]); go_enter Tryz.func109, Tryz.ntmps109
  go_wp2_with fail
  refine (H1.out _).mono ?_; rintro x w1 ⟨rfl, hb⟩; have hz := (HB.out.call hb).size; have hB := (HB.out.call hb).alloc 30 #[.int .i64 m, .int .i64 s]; have hF1 := hB.put2 (i := 2) rfl (by omega) (by simp [butBox] <;> omega) (.int .i64 m : Value) (.int .i64 s : Value); have hF := hF1.put6 (i := 1) rfl (by omega) (by simp [butBox, setBox] <;> omega) (.int .i64 0 : Value) (.int .i64 0 : Value) (.int .i64 0 : Value) (.string ⟨#[]⟩ : Value) (.bool false : Value) (.int .i64 0 : Value); have hbel := hF.bel; have kr := hB.box (i := 1) rfl; have cr0 := kr.cell 0; have zr0 := kr.frozen 0; have cr1 := kr.cell 1; have zr1 := kr.frozen 1; have cr2 := kr.cell 2; have zr2 := kr.frozen 2; have cr3 := kr.cell 3; have zr3 := kr.frozen 3; have cr4 := kr.cell 4; have zr4 := kr.frozen 4; have cr5 := kr.cell 5; have zr5 := kr.frozen 5; clear kr; have kd := hB.box (i := 2) rfl; have cd0 := kd.cell 0; have zd0 := kd.frozen 0; have cd1 := kd.cell 1; have zd1 := kd.frozen 1; clear kd; have kn := hB.box (i := 0) rfl; have cn0 := kn.cell 0; have zn0 := kn.frozen 0; have cn1 := kn.cell 1; have zn1 := kn.frozen 1; clear kn; clear hb HB H1 hB hF hF1; go_wp2; refine bodyPost_ret (v := .tuple #[.agg #[.int .i64 m, .int .i64 s], .agg #[.int .i64 0, .int .i64 0, .int .i64 0, .string ⟨#[]⟩, .bool false, .int .i64 0], .bool true]) ?_ rfl ⟨rfl, hbel⟩; simp [results, Tryz.results109, go_sem, cr0, cr1, cr2, cr3, cr4, cr5, cd0, cd1]
set_option maxRecDepth 20000 in
theorem number_none {w : World} {t : ByteArray} {m s e : Int} (he : ¬ e = 0) (HP : ∀ W : World, Calls Tryz.prog 172 #[.string t] W fun x w' => x = .returned (.tuple #[.agg #[.int .i64 m, .int .i64 s], .int .i64 e]) ∧ Below W.heap.size W w') :
    Calls Tryz.prog 109 #[.agg #[.int .i64 2, .int .i64 0, .int .i64 0, .string t, .bool false, .int .i64 0]] w fun x w' => x = .returned (.tuple #[.agg #[.int .i64 0, .int .i64 0], .agg #[.int .i64 4, .int .i64 0, .int .i64 0, .string ⟨#[]⟩, .bool false, .int .i64 15], .bool false]) ∧ Below w.heap.size w w' := by
  have H1 := Lib.hid HP; clear HP; have HX := Lib.hid (fun W : World => fault_any (w := W) 15); have HB := Lib.hid (((sb1 w 32 #[.int .i64 2, .int .i64 0, .int .i64 0, .string t, .bool false, .int .i64 0]).push (by simp) 30 #[.int .i64 0, .int .i64 0]).push (by simp) 32 #[.int .i64 0, .int .i64 0, .int .i64 0, .string ⟨#[]⟩, .bool false, .int .i64 0]); go_enter Tryz.func109, Tryz.ntmps109
  go_wp2_with fail
  refine (H1.out _).mono ?_; rintro x w1 ⟨rfl, hb⟩; have hz := (HB.out.call hb).size; have HB2 := Lib.hid ((HB.out.call hb).alloc 30 #[.int .i64 m, .int .i64 s]); clear hb HB H1; have HB := HB2; clear HB2
  go_wp2_with fail
  refine (HX.out _).mono ?_; rintro e w9 ⟨rfl, hb⟩; have hB := HB.out.call hb; have hF1 := hB.put2 (i := 2) rfl (by omega) (by simp [butBox] <;> omega) (.int .i64 0 : Value) (.int .i64 0 : Value); have hF := hF1.put6 (i := 1) rfl (by omega) (by simp [butBox, setBox] <;> omega) (.int .i64 4 : Value) (.int .i64 0 : Value) (.int .i64 0 : Value) (.string ⟨#[]⟩ : Value) (.bool false : Value) (.int .i64 15 : Value); have hbel := hF.bel; have kr := hB.box (i := 1) rfl; have cr0 := kr.cell 0; have zr0 := kr.frozen 0; have cr1 := kr.cell 1; have zr1 := kr.frozen 1; have cr2 := kr.cell 2; have zr2 := kr.frozen 2; have cr3 := kr.cell 3; have zr3 := kr.frozen 3; have cr4 := kr.cell 4; have zr4 := kr.frozen 4; have cr5 := kr.cell 5; have zr5 := kr.frozen 5; clear kr; have kd := hB.box (i := 2) rfl; have cd0 := kd.cell 0; have zd0 := kd.frozen 0; have cd1 := kd.cell 1; have zd1 := kd.frozen 1; clear kd; clear hb HB HX hB hF hF1; go_wp2; refine bodyPost_ret (v := .tuple #[.agg #[.int .i64 0, .int .i64 0], .agg #[.int .i64 4, .int .i64 0, .int .i64 0, .string ⟨#[]⟩, .bool false, .int .i64 15], .bool false]) ?_ rfl ⟨rfl, hbel⟩; simp [results, Tryz.results109, go_sem, cr0, cr1, cr2, cr3, cr4, cr5, cd0, cd1]
end Go.Proofs.YtngkolcpbgibcaaGreatDoor
namespace Go.Proofs.YtngkolcpbgibcaaGreatDoor
open Go.RowKit
set_option maxRecDepth 20000 in
set_option maxHeartbeats 4000000 in
theorem compare_kinds {w : World} {k m s : Int} {t : ByteArray} {b : Bool} {e : Int} {k' m' s' : Int} {t' : ByteArray} {b' : Bool} {e' : Int} {x0 x1 x2 : Int} {x3 : ByteArray} {x4 : Bool} {x5 : Int} {y0 y1 y2 : Int} {y3 : ByteArray} {y4 : Bool} {y5 : Int}
    (KX : ∀ W : World, Calls Tryz.prog 82 #[.agg #[.int .i64 k, .int .i64 m, .int .i64 s, .string t, .bool b, .int .i64 e], .agg #[.int .i64 k', .int .i64 m', .int .i64 s', .string t', .bool b', .int .i64 e']] W fun x w' => x = .returned (.agg #[.int .i64 x0, .int .i64 x1, .int .i64 x2, .string x3, .bool x4, .int .i64 x5]) ∧ Below W.heap.size W w')
    (KY : ∀ W : World, Calls Tryz.prog 82 #[.agg #[.int .i64 k', .int .i64 m', .int .i64 s', .string t', .bool b', .int .i64 e'], .agg #[.int .i64 k, .int .i64 m, .int .i64 s, .string t, .bool b, .int .i64 e]] W fun x w' => x = .returned (.agg #[.int .i64 y0, .int .i64 y1, .int .i64 y2, .string y3, .bool y4, .int .i64 y5]) ∧ Below W.heap.size W w') (hne : ¬ x0 = y0) :
    Calls Tryz.prog 27 #[.agg #[.int .i64 k, .int .i64 m, .int .i64 s, .string t, .bool b, .int .i64 e], .agg #[.int .i64 k', .int .i64 m', .int .i64 s', .string t', .bool b', .int .i64 e']] w fun x w' => x = .returned (.int .i64 (cmp x0 y0)) ∧ Below w.heap.size w w' := by
  have HX := Lib.hid KX; have HY := Lib.hid KY; clear KX KY; have HC := Lib.hid (fun W : World => cmp_int (w := W) x0 y0); generalize cmp x0 y0 = C at *; have HB := Lib.hid ((sb1 w 32 #[.int .i64 k, .int .i64 m, .int .i64 s, .string t, .bool b, .int .i64 e]).push (by simp) 32 #[.int .i64 k', .int .i64 m', .int .i64 s', .string t', .bool b', .int .i64 e']); go_enter Tryz.func27, Tryz.ntmps27
  go_wp2_with fail
  refine wp_region_early (S := (fun vals W => SX w 2 ([.put 1 #[.int .i64 x0, .int .i64 x1, .int .i64 x2, .string x3, .bool x4, .int .i64 x5], .put 0 #[.int .i64 y0, .int .i64 y1, .int .i64 y2, .string y3, .bool y4, .int .i64 y5]] : List Stp) vals ([(w.heap.size + 1, 32, #[.int .i64 k', .int .i64 m', .int .i64 s', .string t', .bool b', .int .i64 e']), (w.heap.size, 32, #[.int .i64 k, .int .i64 m, .int .i64 s, .string t, .bool b, .int .i64 e])] : List (Nat × TypeId × Array Value)) W)) (E := (fun _ _ => True)) [6, 7] [(2, Is (.pointer (some ⟨w.heap.size, 0, none⟩))), (3, Is (.pointer (some ⟨w.heap.size + 1, 0, none⟩)))] [(5, Is (.agg #[.int .i64 k, .int .i64 m, .int .i64 s, .string t, .bool b, .int .i64 e])), (6, Is (.agg #[.int .i64 k', .int .i64 m', .int .i64 s', .string t', .bool b', .int .i64 e'])), (7, Is (.agg #[.int .i64 x0, .int .i64 x1, .int .i64 x2, .string x3, .bool x4, .int .i64 x5])), (8, Is (.agg #[.int .i64 k', .int .i64 m', .int .i64 s', .string t', .bool b', .int .i64 e'])), (9, Is (.agg #[.int .i64 k, .int .i64 m, .int .i64 s, .string t, .bool b, .int .i64 e])), (10, Is (.agg #[.int .i64 y0, .int .i64 y1, .int .i64 y2, .string y3, .bool y4, .int .i64 y5]))]
    [.op [2] none, .op [3] none, .op [5, 6] none, .op [3] none, .op [2] none, .op [8, 9] none, .phase 0 [2, 7] [], .phase 1 [3, 10] []] (by as_aux_lemma => kernel_rfl) ?_ ?_ ?_ ?_ ?_ ⟨stable_is _ _, stable_is _ _, stable_is _ _, stable_is _ _, stable_is _ _, stable_is _ _, stable_is _ _, stable_is _ _, trivial⟩ ?_ (HB.out.drew) ?_ ?_
  · as_aux_lemma => kernel_rfl
  · as_aux_lemma => kernel_rfl
  · as_aux_lemma => kernel_rfl
  · as_aux_lemma => kernel_rfl
  · as_aux_lemma => kernel_rfl
  · exact ⟨rfl, rfl, trivial⟩
  · refine ⟨?_, ?_, ?_, ?_, ?_, ?_, ?_, ?_, trivial⟩
    · as_aux_lemma =>
        intro vals hE a W hS hL; obtain rfl : vals = [] := List.eq_nil_of_length_eq_zero (Nat.le_zero.1 (hE 0 (by kernel_rfl))); have e2 : a.tmps.getD 2 undef = .pointer (some ⟨w.heap.size, 0, none⟩) := hL.1; clear hL; have kb : Bk W (w.heap.size) 32 #[.int .i64 k, .int .i64 m, .int .i64 s, .string t, .bool b, .int .i64 e] := SB.box (i := 1) hS rfl; have f0 := kb.cell 0; have f1 := kb.cell 1; have f2 := kb.cell 2; have f3 := kb.cell 3; have f4 := kb.cell 4; have f5 := kb.cell 5; clear kb; go_simp; exact ⟨⟨fun d hd => by injection hd with hd; subst hd; rfl, fun h => by cases h⟩, hS, trivial⟩
    · as_aux_lemma =>
        intro vals hE a W hS hL; obtain rfl : vals = [] := List.eq_nil_of_length_eq_zero (Nat.le_zero.1 (hE 0 (by kernel_rfl))); have e3 : a.tmps.getD 3 undef = .pointer (some ⟨w.heap.size + 1, 0, none⟩) := hL.1; clear hL; have kb : Bk W (w.heap.size + 1) 32 #[.int .i64 k', .int .i64 m', .int .i64 s', .string t', .bool b', .int .i64 e'] := SB.box (i := 0) hS rfl; have f0 := kb.cell 0; have f1 := kb.cell 1; have f2 := kb.cell 2; have f3 := kb.cell 3; have f4 := kb.cell 4; have f5 := kb.cell 5; clear kb; go_simp; exact ⟨⟨fun d hd => by injection hd with hd; subst hd; rfl, fun h => by cases h⟩, hS, trivial⟩
    · as_aux_lemma =>
        intro vals hE a W hS hL; obtain rfl : vals = [] := List.eq_nil_of_length_eq_zero (Nat.le_zero.1 (hE 0 (by kernel_rfl))); have e5 : a.tmps.getD 5 undef = .agg #[.int .i64 k, .int .i64 m, .int .i64 s, .string t, .bool b, .int .i64 e] := hL.1; have e6 : a.tmps.getD 6 undef = .agg #[.int .i64 k', .int .i64 m', .int .i64 s', .string t', .bool b', .int .i64 e'] := hL.2.1; clear hL; go_simp; refine (HX.out W).mono ?_; rintro e W' ⟨rfl, hb⟩; exact ⟨_, rfl, ⟨fun d hd => by injection hd with hd; subst hd; rfl, fun h => by cases h⟩, hS.call hb, trivial⟩
    · as_aux_lemma =>
        intro vals hE a W hS hL; have hE1 := hE 1 (by kernel_rfl); have e3 : a.tmps.getD 3 undef = .pointer (some ⟨w.heap.size + 1, 0, none⟩) := hL.1; clear hL
        have kb : Bk W (w.heap.size + 1) 32 #[.int .i64 k', .int .i64 m', .int .i64 s', .string t', .bool b', .int .i64 e'] := by
          match vals, hE1, hS with
          | [], _, hS => exact SB.box (i := 0) hS rfl
          | [_], _, hS => exact SB.box (i := 0) hS rfl
        have f0 := kb.cell 0; have f1 := kb.cell 1; have f2 := kb.cell 2; have f3 := kb.cell 3; have f4 := kb.cell 4; have f5 := kb.cell 5; clear kb; go_simp; exact ⟨⟨fun d hd => by injection hd with hd; subst hd; rfl, fun h => by cases h⟩, hS, trivial⟩
    · as_aux_lemma =>
        intro vals hE a W hS hL; obtain rfl : vals = [] := List.eq_nil_of_length_eq_zero (Nat.le_zero.1 (hE 0 (by kernel_rfl))); have e2 : a.tmps.getD 2 undef = .pointer (some ⟨w.heap.size, 0, none⟩) := hL.1; clear hL; have kb : Bk W (w.heap.size) 32 #[.int .i64 k, .int .i64 m, .int .i64 s, .string t, .bool b, .int .i64 e] := SB.box (i := 1) hS rfl; have f0 := kb.cell 0; have f1 := kb.cell 1; have f2 := kb.cell 2; have f3 := kb.cell 3; have f4 := kb.cell 4; have f5 := kb.cell 5; clear kb; go_simp; exact ⟨⟨fun d hd => by injection hd with hd; subst hd; rfl, fun h => by cases h⟩, hS, trivial⟩
    · as_aux_lemma =>
        intro vals hE a W hS hL; have hE1 := hE 1 (by kernel_rfl); have e8 : a.tmps.getD 8 undef = .agg #[.int .i64 k', .int .i64 m', .int .i64 s', .string t', .bool b', .int .i64 e'] := hL.1; have e9 : a.tmps.getD 9 undef = .agg #[.int .i64 k, .int .i64 m, .int .i64 s, .string t, .bool b, .int .i64 e] := hL.2.1; clear hL; go_simp; refine (HY.out W).mono ?_; rintro e W' ⟨rfl, hb⟩; exact ⟨_, rfl, ⟨fun d hd => by injection hd with hd; subst hd; rfl, fun h => by cases h⟩, hS.call hb, trivial⟩
    · skip
      intro a W vals hv hS hL hp; have e2 : a.tmps.getD 2 undef = .pointer (some ⟨w.heap.size, 0, none⟩) := hL.1; have e7 : a.tmps.getD 7 undef = .agg #[.int .i64 x0, .int .i64 x1, .int .i64 x2, .string x3, .bool x4, .int .i64 x5] := hL.2.1; clear hL
      match vals, hv, hS with
      | [], _, hS =>
        have hS2 : SX w 2 ([.put 1 #[.int .i64 x0, .int .i64 x1, .int .i64 x2, .string x3, .bool x4, .int .i64 x5], .put 0 #[.int .i64 y0, .int .i64 y1, .int .i64 y2, .string y3, .bool y4, .int .i64 y5]] : List Stp) [] ([(w.heap.size + 1, 32, #[.int .i64 k', .int .i64 m', .int .i64 s', .string t', .bool b', .int .i64 e']), (w.heap.size, 32, #[.int .i64 k, .int .i64 m, .int .i64 s, .string t, .bool b, .int .i64 e])] : List (Nat × TypeId × Array Value)) W := hS; clear hS; have hB0 := hS2; have hB : SB w 2 ([(w.heap.size + 1, 32, #[.int .i64 k', .int .i64 m', .int .i64 s', .string t', .bool b', .int .i64 e']), (w.heap.size, 32, #[.int .i64 k, .int .i64 m, .int .i64 s, .string t, .bool b, .int .i64 e])] : List (Nat × TypeId × Array Value)) W := hB0; clear hB0; rw [Array.getD_eq_getD_getElem?] at e7; have kz := hB.box (i := 1) rfl; have z0 := kz.frozen 0; have q0 := kz.cell 0; have z1 := kz.frozen 1; have q1 := kz.cell 1; have z2 := kz.frozen 2; have q2 := kz.cell 2; have z3 := kz.frozen 3; have q3 := kz.cell 3; have z4 := kz.frozen 4; have q4 := kz.cell 4; have z5 := kz.frozen 5; have q5 := kz.cell 5; have hge : w.heap.size ≤ (w.heap.size) := by omega
        have hne : ∀ qx ∈ butBox ([(w.heap.size + 1, 32, #[.int .i64 k', .int .i64 m', .int .i64 s', .string t', .bool b', .int .i64 e']), (w.heap.size, 32, #[.int .i64 k, .int .i64 m, .int .i64 s, .string t, .bool b, .int .i64 e])] : List (Nat × TypeId × Array Value)) 1, qx.1 ≠ (w.heap.size) := by simp [butBox] <;> omega
        have hF := hB.put6 (i := 1) rfl hge hne (.int .i64 x0 : Value) (.int .i64 x1 : Value) (.int .i64 x2 : Value) (.string x3 : Value) (.bool x4 : Value) (.int .i64 x5 : Value); clear kz hB hne hge; go_simp; exact ⟨hF, trivial, trivial⟩
    · skip
      intro a W vals hv hS hL hp; have e3 : a.tmps.getD 3 undef = .pointer (some ⟨w.heap.size + 1, 0, none⟩) := hL.1; have e10 : a.tmps.getD 10 undef = .agg #[.int .i64 y0, .int .i64 y1, .int .i64 y2, .string y3, .bool y4, .int .i64 y5] := hL.2.1; clear hL
      match vals, hv, hS with
      | [v0], _, hS =>
        have hS2 : SX w 2 ([.put 1 #[.int .i64 x0, .int .i64 x1, .int .i64 x2, .string x3, .bool x4, .int .i64 x5], .put 0 #[.int .i64 y0, .int .i64 y1, .int .i64 y2, .string y3, .bool y4, .int .i64 y5]] : List Stp) [v0] ([(w.heap.size + 1, 32, #[.int .i64 k', .int .i64 m', .int .i64 s', .string t', .bool b', .int .i64 e']), (w.heap.size, 32, #[.int .i64 k, .int .i64 m, .int .i64 s, .string t, .bool b, .int .i64 e])] : List (Nat × TypeId × Array Value)) W := hS; clear hS; have hB0 := hS2; have hB : SB w 2 ([(w.heap.size + 1, 32, #[.int .i64 k', .int .i64 m', .int .i64 s', .string t', .bool b', .int .i64 e']), (w.heap.size, 32, #[.int .i64 x0, .int .i64 x1, .int .i64 x2, .string x3, .bool x4, .int .i64 x5])] : List (Nat × TypeId × Array Value)) W := hB0; clear hB0; rw [Array.getD_eq_getD_getElem?] at e10; have kz := hB.box (i := 0) rfl; have z0 := kz.frozen 0; have q0 := kz.cell 0; have z1 := kz.frozen 1; have q1 := kz.cell 1; have z2 := kz.frozen 2; have q2 := kz.cell 2; have z3 := kz.frozen 3; have q3 := kz.cell 3; have z4 := kz.frozen 4; have q4 := kz.cell 4; have z5 := kz.frozen 5; have q5 := kz.cell 5; have hge : w.heap.size ≤ (w.heap.size + 1) := by omega
        have hne : ∀ qx ∈ butBox ([(w.heap.size + 1, 32, #[.int .i64 k', .int .i64 m', .int .i64 s', .string t', .bool b', .int .i64 e']), (w.heap.size, 32, #[.int .i64 x0, .int .i64 x1, .int .i64 x2, .string x3, .bool x4, .int .i64 x5])] : List (Nat × TypeId × Array Value)) 0, qx.1 ≠ (w.heap.size + 1) := by simp [butBox] <;> omega
        have hF := hB.put6 (i := 0) rfl hge hne (.int .i64 y0 : Value) (.int .i64 y1 : Value) (.int .i64 y2 : Value) (.string y3 : Value) (.bool y4 : Value) (.int .i64 y5 : Value); clear kz hB hne hge; go_simp; exact ⟨hF, trivial, trivial⟩
  · intro a W' vals hd hsz hT hF hv hP hS
    obtain ⟨v0, v1, rfl⟩ : ∃ v0 v1, vals = [v0, v1] := by
      match vals, hv with
      | [v0, v1], _ => exact ⟨v0, v1, rfl⟩
    have hS2 : SX w 2 ([.put 1 #[.int .i64 x0, .int .i64 x1, .int .i64 x2, .string x3, .bool x4, .int .i64 x5], .put 0 #[.int .i64 y0, .int .i64 y1, .int .i64 y2, .string y3, .bool y4, .int .i64 y5]] : List Stp) [v0, v1] ([(w.heap.size + 1, 32, #[.int .i64 k', .int .i64 m', .int .i64 s', .string t', .bool b', .int .i64 e']), (w.heap.size, 32, #[.int .i64 k, .int .i64 m, .int .i64 s, .string t, .bool b, .int .i64 e])] : List (Nat × TypeId × Array Value)) W' := hS; clear hS; have hB0 := hS2; have hB : SB w 2 ([(w.heap.size + 1, 32, #[.int .i64 y0, .int .i64 y1, .int .i64 y2, .string y3, .bool y4, .int .i64 y5]), (w.heap.size, 32, #[.int .i64 x0, .int .i64 x1, .int .i64 x2, .string x3, .bool x4, .int .i64 x5])] : List (Nat × TypeId × Array Value)) W' := hB0; clear hB0; have e2 : a.tmps.getD 2 undef = .pointer (some ⟨w.heap.size, 0, none⟩) := hT 2 (by simp); have e3 : a.tmps.getD 3 undef = .pointer (some ⟨w.heap.size + 1, 0, none⟩) := hT 3 (by simp); clear hT hF hP; rw [act_lit 53 a hd hsz]; simp only [List.range, List.range.loop, List.map, e2, e3]; clear hd hsz e2 e3; have ky := hB.box (i := 0) rfl; have cy0 := ky.cell 0; have cy1 := ky.cell 1; have cy2 := ky.cell 2; have cy3 := ky.cell 3; have cy4 := ky.cell 4; have cy5 := ky.cell 5; clear ky; have kx := hB.box (i := 1) rfl; have cx0 := kx.cell 0; have cx1 := kx.cell 1; have cx2 := kx.cell 2; have cx3 := kx.cell 3; have cx4 := kx.cell 4; have cx5 := kx.cell 5; clear kx
    go_wp2_with fail
    refine (HC.out _).mono ?_; rintro x w9 ⟨rfl, rfl⟩; have hbel := hB.bel; clear hB HB HX HY HC; go_wp2; go_ret; exact ⟨rfl, hbel⟩
set_option maxRecDepth 20000 in
set_option maxHeartbeats 4000000 in
theorem compare_num {w : World} {k m s : Int} {t : ByteArray} {b : Bool} {e : Int} {k' m' s' : Int} {t' : ByteArray} {b' : Bool} {e' : Int} {x1 x2 : Int} {x3 : ByteArray} {x4 : Bool} {x5 : Int} {y1 y2 : Int} {y3 : ByteArray} {y4 : Bool} {y5 : Int} {C : Int}
    (KX : ∀ W : World, Calls Tryz.prog 82 #[.agg #[.int .i64 k, .int .i64 m, .int .i64 s, .string t, .bool b, .int .i64 e], .agg #[.int .i64 k', .int .i64 m', .int .i64 s', .string t', .bool b', .int .i64 e']] W fun x w' => x = .returned (.agg #[.int .i64 1, .int .i64 x1, .int .i64 x2, .string x3, .bool x4, .int .i64 x5]) ∧ Below W.heap.size W w')
    (KY : ∀ W : World, Calls Tryz.prog 82 #[.agg #[.int .i64 k', .int .i64 m', .int .i64 s', .string t', .bool b', .int .i64 e'], .agg #[.int .i64 k, .int .i64 m, .int .i64 s, .string t, .bool b, .int .i64 e]] W fun x w' => x = .returned (.agg #[.int .i64 1, .int .i64 y1, .int .i64 y2, .string y3, .bool y4, .int .i64 y5]) ∧ Below W.heap.size W w') (KC : ∀ W : World, Calls Tryz.prog 33 #[.agg #[.int .i64 x1, .int .i64 x2], .agg #[.int .i64 y1, .int .i64 y2]] W fun x w' => x = .returned (.int .i64 C) ∧ Below W.heap.size W w') :
    Calls Tryz.prog 27 #[.agg #[.int .i64 k, .int .i64 m, .int .i64 s, .string t, .bool b, .int .i64 e], .agg #[.int .i64 k', .int .i64 m', .int .i64 s', .string t', .bool b', .int .i64 e']] w fun x w' => x = .returned (.int .i64 C) ∧ Below w.heap.size w w' := by
  have HX := Lib.hid KX; have HY := Lib.hid KY; clear KX KY; have HC := Lib.hid KC; clear KC; have HB := Lib.hid ((sb1 w 32 #[.int .i64 k, .int .i64 m, .int .i64 s, .string t, .bool b, .int .i64 e]).push (by simp) 32 #[.int .i64 k', .int .i64 m', .int .i64 s', .string t', .bool b', .int .i64 e']); go_enter Tryz.func27, Tryz.ntmps27
  go_wp2_with fail
  refine wp_region_early (S := (fun vals W => SX w 2 ([.put 1 #[.int .i64 1, .int .i64 x1, .int .i64 x2, .string x3, .bool x4, .int .i64 x5], .put 0 #[.int .i64 1, .int .i64 y1, .int .i64 y2, .string y3, .bool y4, .int .i64 y5]] : List Stp) vals ([(w.heap.size + 1, 32, #[.int .i64 k', .int .i64 m', .int .i64 s', .string t', .bool b', .int .i64 e']), (w.heap.size, 32, #[.int .i64 k, .int .i64 m, .int .i64 s, .string t, .bool b, .int .i64 e])] : List (Nat × TypeId × Array Value)) W)) (E := (fun _ _ => True)) [6, 7] [(2, Is (.pointer (some ⟨w.heap.size, 0, none⟩))), (3, Is (.pointer (some ⟨w.heap.size + 1, 0, none⟩)))] [(5, Is (.agg #[.int .i64 k, .int .i64 m, .int .i64 s, .string t, .bool b, .int .i64 e])), (6, Is (.agg #[.int .i64 k', .int .i64 m', .int .i64 s', .string t', .bool b', .int .i64 e'])), (7, Is (.agg #[.int .i64 1, .int .i64 x1, .int .i64 x2, .string x3, .bool x4, .int .i64 x5])), (8, Is (.agg #[.int .i64 k', .int .i64 m', .int .i64 s', .string t', .bool b', .int .i64 e'])), (9, Is (.agg #[.int .i64 k, .int .i64 m, .int .i64 s, .string t, .bool b, .int .i64 e])), (10, Is (.agg #[.int .i64 1, .int .i64 y1, .int .i64 y2, .string y3, .bool y4, .int .i64 y5]))]
    [.op [2] none, .op [3] none, .op [5, 6] none, .op [3] none, .op [2] none, .op [8, 9] none, .phase 0 [2, 7] [], .phase 1 [3, 10] []] (by as_aux_lemma => kernel_rfl) ?_ ?_ ?_ ?_ ?_ ⟨stable_is _ _, stable_is _ _, stable_is _ _, stable_is _ _, stable_is _ _, stable_is _ _, stable_is _ _, stable_is _ _, trivial⟩ ?_ (HB.out.drew) ?_ ?_
  · as_aux_lemma => kernel_rfl
  · as_aux_lemma => kernel_rfl
  · as_aux_lemma => kernel_rfl
  · as_aux_lemma => kernel_rfl
  · as_aux_lemma => kernel_rfl
  · exact ⟨rfl, rfl, trivial⟩
  · refine ⟨?_, ?_, ?_, ?_, ?_, ?_, ?_, ?_, trivial⟩
    · as_aux_lemma =>
        intro vals hE a W hS hL; obtain rfl : vals = [] := List.eq_nil_of_length_eq_zero (Nat.le_zero.1 (hE 0 (by kernel_rfl))); have e2 : a.tmps.getD 2 undef = .pointer (some ⟨w.heap.size, 0, none⟩) := hL.1; clear hL; have kb : Bk W (w.heap.size) 32 #[.int .i64 k, .int .i64 m, .int .i64 s, .string t, .bool b, .int .i64 e] := SB.box (i := 1) hS rfl; have f0 := kb.cell 0; have f1 := kb.cell 1; have f2 := kb.cell 2; have f3 := kb.cell 3; have f4 := kb.cell 4; have f5 := kb.cell 5; clear kb; go_simp; exact ⟨⟨fun d hd => by injection hd with hd; subst hd; rfl, fun h => by cases h⟩, hS, trivial⟩
    · as_aux_lemma =>
        intro vals hE a W hS hL; obtain rfl : vals = [] := List.eq_nil_of_length_eq_zero (Nat.le_zero.1 (hE 0 (by kernel_rfl))); have e3 : a.tmps.getD 3 undef = .pointer (some ⟨w.heap.size + 1, 0, none⟩) := hL.1; clear hL; have kb : Bk W (w.heap.size + 1) 32 #[.int .i64 k', .int .i64 m', .int .i64 s', .string t', .bool b', .int .i64 e'] := SB.box (i := 0) hS rfl; have f0 := kb.cell 0; have f1 := kb.cell 1; have f2 := kb.cell 2; have f3 := kb.cell 3; have f4 := kb.cell 4; have f5 := kb.cell 5; clear kb; go_simp; exact ⟨⟨fun d hd => by injection hd with hd; subst hd; rfl, fun h => by cases h⟩, hS, trivial⟩
    · as_aux_lemma =>
        intro vals hE a W hS hL; obtain rfl : vals = [] := List.eq_nil_of_length_eq_zero (Nat.le_zero.1 (hE 0 (by kernel_rfl))); have e5 : a.tmps.getD 5 undef = .agg #[.int .i64 k, .int .i64 m, .int .i64 s, .string t, .bool b, .int .i64 e] := hL.1; have e6 : a.tmps.getD 6 undef = .agg #[.int .i64 k', .int .i64 m', .int .i64 s', .string t', .bool b', .int .i64 e'] := hL.2.1; clear hL; go_simp; refine (HX.out W).mono ?_; rintro e W' ⟨rfl, hb⟩; exact ⟨_, rfl, ⟨fun d hd => by injection hd with hd; subst hd; rfl, fun h => by cases h⟩, hS.call hb, trivial⟩
    · as_aux_lemma =>
        intro vals hE a W hS hL; have hE1 := hE 1 (by kernel_rfl); have e3 : a.tmps.getD 3 undef = .pointer (some ⟨w.heap.size + 1, 0, none⟩) := hL.1; clear hL
        have kb : Bk W (w.heap.size + 1) 32 #[.int .i64 k', .int .i64 m', .int .i64 s', .string t', .bool b', .int .i64 e'] := by
          match vals, hE1, hS with
          | [], _, hS => exact SB.box (i := 0) hS rfl
          | [_], _, hS => exact SB.box (i := 0) hS rfl
        have f0 := kb.cell 0; have f1 := kb.cell 1; have f2 := kb.cell 2; have f3 := kb.cell 3; have f4 := kb.cell 4; have f5 := kb.cell 5; clear kb; go_simp; exact ⟨⟨fun d hd => by injection hd with hd; subst hd; rfl, fun h => by cases h⟩, hS, trivial⟩
    · as_aux_lemma =>
        intro vals hE a W hS hL; obtain rfl : vals = [] := List.eq_nil_of_length_eq_zero (Nat.le_zero.1 (hE 0 (by kernel_rfl))); have e2 : a.tmps.getD 2 undef = .pointer (some ⟨w.heap.size, 0, none⟩) := hL.1; clear hL; have kb : Bk W (w.heap.size) 32 #[.int .i64 k, .int .i64 m, .int .i64 s, .string t, .bool b, .int .i64 e] := SB.box (i := 1) hS rfl; have f0 := kb.cell 0; have f1 := kb.cell 1; have f2 := kb.cell 2; have f3 := kb.cell 3; have f4 := kb.cell 4; have f5 := kb.cell 5; clear kb; go_simp; exact ⟨⟨fun d hd => by injection hd with hd; subst hd; rfl, fun h => by cases h⟩, hS, trivial⟩
    · as_aux_lemma =>
        intro vals hE a W hS hL; have hE1 := hE 1 (by kernel_rfl); have e8 : a.tmps.getD 8 undef = .agg #[.int .i64 k', .int .i64 m', .int .i64 s', .string t', .bool b', .int .i64 e'] := hL.1; have e9 : a.tmps.getD 9 undef = .agg #[.int .i64 k, .int .i64 m, .int .i64 s, .string t, .bool b, .int .i64 e] := hL.2.1; clear hL; go_simp; refine (HY.out W).mono ?_; rintro e W' ⟨rfl, hb⟩; exact ⟨_, rfl, ⟨fun d hd => by injection hd with hd; subst hd; rfl, fun h => by cases h⟩, hS.call hb, trivial⟩
    · skip
      intro a W vals hv hS hL hp; have e2 : a.tmps.getD 2 undef = .pointer (some ⟨w.heap.size, 0, none⟩) := hL.1; have e7 : a.tmps.getD 7 undef = .agg #[.int .i64 1, .int .i64 x1, .int .i64 x2, .string x3, .bool x4, .int .i64 x5] := hL.2.1; clear hL
      match vals, hv, hS with
      | [], _, hS =>
        have hS2 : SX w 2 ([.put 1 #[.int .i64 1, .int .i64 x1, .int .i64 x2, .string x3, .bool x4, .int .i64 x5], .put 0 #[.int .i64 1, .int .i64 y1, .int .i64 y2, .string y3, .bool y4, .int .i64 y5]] : List Stp) [] ([(w.heap.size + 1, 32, #[.int .i64 k', .int .i64 m', .int .i64 s', .string t', .bool b', .int .i64 e']), (w.heap.size, 32, #[.int .i64 k, .int .i64 m, .int .i64 s, .string t, .bool b, .int .i64 e])] : List (Nat × TypeId × Array Value)) W := hS; clear hS; have hB0 := hS2; have hB : SB w 2 ([(w.heap.size + 1, 32, #[.int .i64 k', .int .i64 m', .int .i64 s', .string t', .bool b', .int .i64 e']), (w.heap.size, 32, #[.int .i64 k, .int .i64 m, .int .i64 s, .string t, .bool b, .int .i64 e])] : List (Nat × TypeId × Array Value)) W := hB0; clear hB0; rw [Array.getD_eq_getD_getElem?] at e7; have kz := hB.box (i := 1) rfl; have z0 := kz.frozen 0; have q0 := kz.cell 0; have z1 := kz.frozen 1; have q1 := kz.cell 1; have z2 := kz.frozen 2; have q2 := kz.cell 2; have z3 := kz.frozen 3; have q3 := kz.cell 3; have z4 := kz.frozen 4; have q4 := kz.cell 4; have z5 := kz.frozen 5; have q5 := kz.cell 5; have hge : w.heap.size ≤ (w.heap.size) := by omega
        have hne : ∀ qx ∈ butBox ([(w.heap.size + 1, 32, #[.int .i64 k', .int .i64 m', .int .i64 s', .string t', .bool b', .int .i64 e']), (w.heap.size, 32, #[.int .i64 k, .int .i64 m, .int .i64 s, .string t, .bool b, .int .i64 e])] : List (Nat × TypeId × Array Value)) 1, qx.1 ≠ (w.heap.size) := by simp [butBox] <;> omega
        have hF := hB.put6 (i := 1) rfl hge hne (.int .i64 1 : Value) (.int .i64 x1 : Value) (.int .i64 x2 : Value) (.string x3 : Value) (.bool x4 : Value) (.int .i64 x5 : Value); clear kz hB hne hge; go_simp; exact ⟨hF, trivial, trivial⟩
    · skip
      intro a W vals hv hS hL hp; have e3 : a.tmps.getD 3 undef = .pointer (some ⟨w.heap.size + 1, 0, none⟩) := hL.1; have e10 : a.tmps.getD 10 undef = .agg #[.int .i64 1, .int .i64 y1, .int .i64 y2, .string y3, .bool y4, .int .i64 y5] := hL.2.1; clear hL
      match vals, hv, hS with
      | [v0], _, hS =>
        have hS2 : SX w 2 ([.put 1 #[.int .i64 1, .int .i64 x1, .int .i64 x2, .string x3, .bool x4, .int .i64 x5], .put 0 #[.int .i64 1, .int .i64 y1, .int .i64 y2, .string y3, .bool y4, .int .i64 y5]] : List Stp) [v0] ([(w.heap.size + 1, 32, #[.int .i64 k', .int .i64 m', .int .i64 s', .string t', .bool b', .int .i64 e']), (w.heap.size, 32, #[.int .i64 k, .int .i64 m, .int .i64 s, .string t, .bool b, .int .i64 e])] : List (Nat × TypeId × Array Value)) W := hS; clear hS; have hB0 := hS2; have hB : SB w 2 ([(w.heap.size + 1, 32, #[.int .i64 k', .int .i64 m', .int .i64 s', .string t', .bool b', .int .i64 e']), (w.heap.size, 32, #[.int .i64 1, .int .i64 x1, .int .i64 x2, .string x3, .bool x4, .int .i64 x5])] : List (Nat × TypeId × Array Value)) W := hB0; clear hB0; rw [Array.getD_eq_getD_getElem?] at e10; have kz := hB.box (i := 0) rfl; have z0 := kz.frozen 0; have q0 := kz.cell 0; have z1 := kz.frozen 1; have q1 := kz.cell 1; have z2 := kz.frozen 2; have q2 := kz.cell 2; have z3 := kz.frozen 3; have q3 := kz.cell 3; have z4 := kz.frozen 4; have q4 := kz.cell 4; have z5 := kz.frozen 5; have q5 := kz.cell 5; have hge : w.heap.size ≤ (w.heap.size + 1) := by omega
        have hne : ∀ qx ∈ butBox ([(w.heap.size + 1, 32, #[.int .i64 k', .int .i64 m', .int .i64 s', .string t', .bool b', .int .i64 e']), (w.heap.size, 32, #[.int .i64 1, .int .i64 x1, .int .i64 x2, .string x3, .bool x4, .int .i64 x5])] : List (Nat × TypeId × Array Value)) 0, qx.1 ≠ (w.heap.size + 1) := by simp [butBox] <;> omega
        have hF := hB.put6 (i := 0) rfl hge hne (.int .i64 1 : Value) (.int .i64 y1 : Value) (.int .i64 y2 : Value) (.string y3 : Value) (.bool y4 : Value) (.int .i64 y5 : Value); clear kz hB hne hge; go_simp; exact ⟨hF, trivial, trivial⟩
  · intro a W' vals hd hsz hT hF hv hP hS
    obtain ⟨v0, v1, rfl⟩ : ∃ v0 v1, vals = [v0, v1] := by
      match vals, hv with
      | [v0, v1], _ => exact ⟨v0, v1, rfl⟩
    have hS2 : SX w 2 ([.put 1 #[.int .i64 1, .int .i64 x1, .int .i64 x2, .string x3, .bool x4, .int .i64 x5], .put 0 #[.int .i64 1, .int .i64 y1, .int .i64 y2, .string y3, .bool y4, .int .i64 y5]] : List Stp) [v0, v1] ([(w.heap.size + 1, 32, #[.int .i64 k', .int .i64 m', .int .i64 s', .string t', .bool b', .int .i64 e']), (w.heap.size, 32, #[.int .i64 k, .int .i64 m, .int .i64 s, .string t, .bool b, .int .i64 e])] : List (Nat × TypeId × Array Value)) W' := hS; clear hS; have hB0 := hS2; have hB : SB w 2 ([(w.heap.size + 1, 32, #[.int .i64 1, .int .i64 y1, .int .i64 y2, .string y3, .bool y4, .int .i64 y5]), (w.heap.size, 32, #[.int .i64 1, .int .i64 x1, .int .i64 x2, .string x3, .bool x4, .int .i64 x5])] : List (Nat × TypeId × Array Value)) W' := hB0; clear hB0; have e2 : a.tmps.getD 2 undef = .pointer (some ⟨w.heap.size, 0, none⟩) := hT 2 (by simp); have e3 : a.tmps.getD 3 undef = .pointer (some ⟨w.heap.size + 1, 0, none⟩) := hT 3 (by simp); clear hT hF hP; rw [act_lit 53 a hd hsz]; simp only [List.range, List.range.loop, List.map, e2, e3]; clear hd hsz e2 e3; have ky := hB.box (i := 0) rfl; have cy0 := ky.cell 0; have cy1 := ky.cell 1; have cy2 := ky.cell 2; have cy3 := ky.cell 3; have cy4 := ky.cell 4; have cy5 := ky.cell 5; clear ky; have kx := hB.box (i := 1) rfl; have cx0 := kx.cell 0; have cx1 := kx.cell 1; have cx2 := kx.cell 2; have cx3 := kx.cell 3; have cx4 := kx.cell 4; have cx5 := kx.cell 5; clear kx
    go_wp2_with fail
    refine (HC.out _).mono ?_; rintro x w9 ⟨rfl, hb⟩; have hbel := (hB.call hb).bel; clear hb hB HB HX HY HC; go_wp2; go_ret; exact ⟨rfl, hbel⟩
set_option maxRecDepth 20000 in
set_option maxHeartbeats 4000000 in
theorem compare_str {w : World} {k m s : Int} {t : ByteArray} {b : Bool} {e : Int} {k' m' s' : Int} {t' : ByteArray} {b' : Bool} {e' : Int} {x1 x2 : Int} {x3 : ByteArray} {x4 : Bool} {x5 : Int} {y1 y2 : Int} {y3 : ByteArray} {y4 : Bool} {y5 : Int} {C : Int}
    (KX : ∀ W : World, Calls Tryz.prog 82 #[.agg #[.int .i64 k, .int .i64 m, .int .i64 s, .string t, .bool b, .int .i64 e], .agg #[.int .i64 k', .int .i64 m', .int .i64 s', .string t', .bool b', .int .i64 e']] W fun x w' => x = .returned (.agg #[.int .i64 2, .int .i64 x1, .int .i64 x2, .string x3, .bool x4, .int .i64 x5]) ∧ Below W.heap.size W w')
    (KY : ∀ W : World, Calls Tryz.prog 82 #[.agg #[.int .i64 k', .int .i64 m', .int .i64 s', .string t', .bool b', .int .i64 e'], .agg #[.int .i64 k, .int .i64 m, .int .i64 s, .string t, .bool b, .int .i64 e]] W fun x w' => x = .returned (.agg #[.int .i64 2, .int .i64 y1, .int .i64 y2, .string y3, .bool y4, .int .i64 y5]) ∧ Below W.heap.size W w') (KC : ∀ W : World, Calls Tryz.prog 84 #[.string x3, .string y3] W fun x w' => x = .returned (.int .i64 C) ∧ Below W.heap.size W w') :
    Calls Tryz.prog 27 #[.agg #[.int .i64 k, .int .i64 m, .int .i64 s, .string t, .bool b, .int .i64 e], .agg #[.int .i64 k', .int .i64 m', .int .i64 s', .string t', .bool b', .int .i64 e']] w fun x w' => x = .returned (.int .i64 C) ∧ Below w.heap.size w w' := by
  have HX := Lib.hid KX; have HY := Lib.hid KY; clear KX KY; have HC := Lib.hid KC; clear KC; have HB := Lib.hid ((sb1 w 32 #[.int .i64 k, .int .i64 m, .int .i64 s, .string t, .bool b, .int .i64 e]).push (by simp) 32 #[.int .i64 k', .int .i64 m', .int .i64 s', .string t', .bool b', .int .i64 e']); go_enter Tryz.func27, Tryz.ntmps27
  go_wp2_with fail
  refine wp_region_early (S := (fun vals W => SX w 2 ([.put 1 #[.int .i64 2, .int .i64 x1, .int .i64 x2, .string x3, .bool x4, .int .i64 x5], .put 0 #[.int .i64 2, .int .i64 y1, .int .i64 y2, .string y3, .bool y4, .int .i64 y5]] : List Stp) vals ([(w.heap.size + 1, 32, #[.int .i64 k', .int .i64 m', .int .i64 s', .string t', .bool b', .int .i64 e']), (w.heap.size, 32, #[.int .i64 k, .int .i64 m, .int .i64 s, .string t, .bool b, .int .i64 e])] : List (Nat × TypeId × Array Value)) W)) (E := (fun _ _ => True)) [6, 7] [(2, Is (.pointer (some ⟨w.heap.size, 0, none⟩))), (3, Is (.pointer (some ⟨w.heap.size + 1, 0, none⟩)))] [(5, Is (.agg #[.int .i64 k, .int .i64 m, .int .i64 s, .string t, .bool b, .int .i64 e])), (6, Is (.agg #[.int .i64 k', .int .i64 m', .int .i64 s', .string t', .bool b', .int .i64 e'])), (7, Is (.agg #[.int .i64 2, .int .i64 x1, .int .i64 x2, .string x3, .bool x4, .int .i64 x5])), (8, Is (.agg #[.int .i64 k', .int .i64 m', .int .i64 s', .string t', .bool b', .int .i64 e'])), (9, Is (.agg #[.int .i64 k, .int .i64 m, .int .i64 s, .string t, .bool b, .int .i64 e])), (10, Is (.agg #[.int .i64 2, .int .i64 y1, .int .i64 y2, .string y3, .bool y4, .int .i64 y5]))]
    [.op [2] none, .op [3] none, .op [5, 6] none, .op [3] none, .op [2] none, .op [8, 9] none, .phase 0 [2, 7] [], .phase 1 [3, 10] []] (by as_aux_lemma => kernel_rfl) ?_ ?_ ?_ ?_ ?_ ⟨stable_is _ _, stable_is _ _, stable_is _ _, stable_is _ _, stable_is _ _, stable_is _ _, stable_is _ _, stable_is _ _, trivial⟩ ?_ (HB.out.drew) ?_ ?_
  · as_aux_lemma => kernel_rfl
  · as_aux_lemma => kernel_rfl
  · as_aux_lemma => kernel_rfl
  · as_aux_lemma => kernel_rfl
  · as_aux_lemma => kernel_rfl
  · exact ⟨rfl, rfl, trivial⟩
  · refine ⟨?_, ?_, ?_, ?_, ?_, ?_, ?_, ?_, trivial⟩
    · as_aux_lemma =>
        intro vals hE a W hS hL; obtain rfl : vals = [] := List.eq_nil_of_length_eq_zero (Nat.le_zero.1 (hE 0 (by kernel_rfl))); have e2 : a.tmps.getD 2 undef = .pointer (some ⟨w.heap.size, 0, none⟩) := hL.1; clear hL; have kb : Bk W (w.heap.size) 32 #[.int .i64 k, .int .i64 m, .int .i64 s, .string t, .bool b, .int .i64 e] := SB.box (i := 1) hS rfl; have f0 := kb.cell 0; have f1 := kb.cell 1; have f2 := kb.cell 2; have f3 := kb.cell 3; have f4 := kb.cell 4; have f5 := kb.cell 5; clear kb; go_simp; exact ⟨⟨fun d hd => by injection hd with hd; subst hd; rfl, fun h => by cases h⟩, hS, trivial⟩
    · as_aux_lemma =>
        intro vals hE a W hS hL; obtain rfl : vals = [] := List.eq_nil_of_length_eq_zero (Nat.le_zero.1 (hE 0 (by kernel_rfl))); have e3 : a.tmps.getD 3 undef = .pointer (some ⟨w.heap.size + 1, 0, none⟩) := hL.1; clear hL; have kb : Bk W (w.heap.size + 1) 32 #[.int .i64 k', .int .i64 m', .int .i64 s', .string t', .bool b', .int .i64 e'] := SB.box (i := 0) hS rfl; have f0 := kb.cell 0; have f1 := kb.cell 1; have f2 := kb.cell 2; have f3 := kb.cell 3; have f4 := kb.cell 4; have f5 := kb.cell 5; clear kb; go_simp; exact ⟨⟨fun d hd => by injection hd with hd; subst hd; rfl, fun h => by cases h⟩, hS, trivial⟩
    · as_aux_lemma =>
        intro vals hE a W hS hL; obtain rfl : vals = [] := List.eq_nil_of_length_eq_zero (Nat.le_zero.1 (hE 0 (by kernel_rfl))); have e5 : a.tmps.getD 5 undef = .agg #[.int .i64 k, .int .i64 m, .int .i64 s, .string t, .bool b, .int .i64 e] := hL.1; have e6 : a.tmps.getD 6 undef = .agg #[.int .i64 k', .int .i64 m', .int .i64 s', .string t', .bool b', .int .i64 e'] := hL.2.1; clear hL; go_simp; refine (HX.out W).mono ?_; rintro e W' ⟨rfl, hb⟩; exact ⟨_, rfl, ⟨fun d hd => by injection hd with hd; subst hd; rfl, fun h => by cases h⟩, hS.call hb, trivial⟩
    · as_aux_lemma =>
        intro vals hE a W hS hL; have hE1 := hE 1 (by kernel_rfl); have e3 : a.tmps.getD 3 undef = .pointer (some ⟨w.heap.size + 1, 0, none⟩) := hL.1; clear hL
        have kb : Bk W (w.heap.size + 1) 32 #[.int .i64 k', .int .i64 m', .int .i64 s', .string t', .bool b', .int .i64 e'] := by
          match vals, hE1, hS with
          | [], _, hS => exact SB.box (i := 0) hS rfl
          | [_], _, hS => exact SB.box (i := 0) hS rfl
        have f0 := kb.cell 0; have f1 := kb.cell 1; have f2 := kb.cell 2; have f3 := kb.cell 3; have f4 := kb.cell 4; have f5 := kb.cell 5; clear kb; go_simp; exact ⟨⟨fun d hd => by injection hd with hd; subst hd; rfl, fun h => by cases h⟩, hS, trivial⟩
    · as_aux_lemma =>
        intro vals hE a W hS hL; obtain rfl : vals = [] := List.eq_nil_of_length_eq_zero (Nat.le_zero.1 (hE 0 (by kernel_rfl))); have e2 : a.tmps.getD 2 undef = .pointer (some ⟨w.heap.size, 0, none⟩) := hL.1; clear hL; have kb : Bk W (w.heap.size) 32 #[.int .i64 k, .int .i64 m, .int .i64 s, .string t, .bool b, .int .i64 e] := SB.box (i := 1) hS rfl; have f0 := kb.cell 0; have f1 := kb.cell 1; have f2 := kb.cell 2; have f3 := kb.cell 3; have f4 := kb.cell 4; have f5 := kb.cell 5; clear kb; go_simp; exact ⟨⟨fun d hd => by injection hd with hd; subst hd; rfl, fun h => by cases h⟩, hS, trivial⟩
    · as_aux_lemma =>
        intro vals hE a W hS hL; have hE1 := hE 1 (by kernel_rfl); have e8 : a.tmps.getD 8 undef = .agg #[.int .i64 k', .int .i64 m', .int .i64 s', .string t', .bool b', .int .i64 e'] := hL.1; have e9 : a.tmps.getD 9 undef = .agg #[.int .i64 k, .int .i64 m, .int .i64 s, .string t, .bool b, .int .i64 e] := hL.2.1; clear hL; go_simp; refine (HY.out W).mono ?_; rintro e W' ⟨rfl, hb⟩; exact ⟨_, rfl, ⟨fun d hd => by injection hd with hd; subst hd; rfl, fun h => by cases h⟩, hS.call hb, trivial⟩
    · skip
      intro a W vals hv hS hL hp; have e2 : a.tmps.getD 2 undef = .pointer (some ⟨w.heap.size, 0, none⟩) := hL.1; have e7 : a.tmps.getD 7 undef = .agg #[.int .i64 2, .int .i64 x1, .int .i64 x2, .string x3, .bool x4, .int .i64 x5] := hL.2.1; clear hL
      match vals, hv, hS with
      | [], _, hS =>
        have hS2 : SX w 2 ([.put 1 #[.int .i64 2, .int .i64 x1, .int .i64 x2, .string x3, .bool x4, .int .i64 x5], .put 0 #[.int .i64 2, .int .i64 y1, .int .i64 y2, .string y3, .bool y4, .int .i64 y5]] : List Stp) [] ([(w.heap.size + 1, 32, #[.int .i64 k', .int .i64 m', .int .i64 s', .string t', .bool b', .int .i64 e']), (w.heap.size, 32, #[.int .i64 k, .int .i64 m, .int .i64 s, .string t, .bool b, .int .i64 e])] : List (Nat × TypeId × Array Value)) W := hS; clear hS; have hB0 := hS2; have hB : SB w 2 ([(w.heap.size + 1, 32, #[.int .i64 k', .int .i64 m', .int .i64 s', .string t', .bool b', .int .i64 e']), (w.heap.size, 32, #[.int .i64 k, .int .i64 m, .int .i64 s, .string t, .bool b, .int .i64 e])] : List (Nat × TypeId × Array Value)) W := hB0; clear hB0; rw [Array.getD_eq_getD_getElem?] at e7; have kz := hB.box (i := 1) rfl; have z0 := kz.frozen 0; have q0 := kz.cell 0; have z1 := kz.frozen 1; have q1 := kz.cell 1; have z2 := kz.frozen 2; have q2 := kz.cell 2; have z3 := kz.frozen 3; have q3 := kz.cell 3; have z4 := kz.frozen 4; have q4 := kz.cell 4; have z5 := kz.frozen 5; have q5 := kz.cell 5; have hge : w.heap.size ≤ (w.heap.size) := by omega
        have hne : ∀ qx ∈ butBox ([(w.heap.size + 1, 32, #[.int .i64 k', .int .i64 m', .int .i64 s', .string t', .bool b', .int .i64 e']), (w.heap.size, 32, #[.int .i64 k, .int .i64 m, .int .i64 s, .string t, .bool b, .int .i64 e])] : List (Nat × TypeId × Array Value)) 1, qx.1 ≠ (w.heap.size) := by simp [butBox] <;> omega
        have hF := hB.put6 (i := 1) rfl hge hne (.int .i64 2 : Value) (.int .i64 x1 : Value) (.int .i64 x2 : Value) (.string x3 : Value) (.bool x4 : Value) (.int .i64 x5 : Value); clear kz hB hne hge; go_simp; exact ⟨hF, trivial, trivial⟩
    · skip
      intro a W vals hv hS hL hp; have e3 : a.tmps.getD 3 undef = .pointer (some ⟨w.heap.size + 1, 0, none⟩) := hL.1; have e10 : a.tmps.getD 10 undef = .agg #[.int .i64 2, .int .i64 y1, .int .i64 y2, .string y3, .bool y4, .int .i64 y5] := hL.2.1; clear hL
      match vals, hv, hS with
      | [v0], _, hS =>
        have hS2 : SX w 2 ([.put 1 #[.int .i64 2, .int .i64 x1, .int .i64 x2, .string x3, .bool x4, .int .i64 x5], .put 0 #[.int .i64 2, .int .i64 y1, .int .i64 y2, .string y3, .bool y4, .int .i64 y5]] : List Stp) [v0] ([(w.heap.size + 1, 32, #[.int .i64 k', .int .i64 m', .int .i64 s', .string t', .bool b', .int .i64 e']), (w.heap.size, 32, #[.int .i64 k, .int .i64 m, .int .i64 s, .string t, .bool b, .int .i64 e])] : List (Nat × TypeId × Array Value)) W := hS; clear hS; have hB0 := hS2; have hB : SB w 2 ([(w.heap.size + 1, 32, #[.int .i64 k', .int .i64 m', .int .i64 s', .string t', .bool b', .int .i64 e']), (w.heap.size, 32, #[.int .i64 2, .int .i64 x1, .int .i64 x2, .string x3, .bool x4, .int .i64 x5])] : List (Nat × TypeId × Array Value)) W := hB0; clear hB0; rw [Array.getD_eq_getD_getElem?] at e10; have kz := hB.box (i := 0) rfl; have z0 := kz.frozen 0; have q0 := kz.cell 0; have z1 := kz.frozen 1; have q1 := kz.cell 1; have z2 := kz.frozen 2; have q2 := kz.cell 2; have z3 := kz.frozen 3; have q3 := kz.cell 3; have z4 := kz.frozen 4; have q4 := kz.cell 4; have z5 := kz.frozen 5; have q5 := kz.cell 5; have hge : w.heap.size ≤ (w.heap.size + 1) := by omega
        have hne : ∀ qx ∈ butBox ([(w.heap.size + 1, 32, #[.int .i64 k', .int .i64 m', .int .i64 s', .string t', .bool b', .int .i64 e']), (w.heap.size, 32, #[.int .i64 2, .int .i64 x1, .int .i64 x2, .string x3, .bool x4, .int .i64 x5])] : List (Nat × TypeId × Array Value)) 0, qx.1 ≠ (w.heap.size + 1) := by simp [butBox] <;> omega
        have hF := hB.put6 (i := 0) rfl hge hne (.int .i64 2 : Value) (.int .i64 y1 : Value) (.int .i64 y2 : Value) (.string y3 : Value) (.bool y4 : Value) (.int .i64 y5 : Value); clear kz hB hne hge; go_simp; exact ⟨hF, trivial, trivial⟩
  · intro a W' vals hd hsz hT hF hv hP hS
    obtain ⟨v0, v1, rfl⟩ : ∃ v0 v1, vals = [v0, v1] := by
      match vals, hv with
      | [v0, v1], _ => exact ⟨v0, v1, rfl⟩
    have hS2 : SX w 2 ([.put 1 #[.int .i64 2, .int .i64 x1, .int .i64 x2, .string x3, .bool x4, .int .i64 x5], .put 0 #[.int .i64 2, .int .i64 y1, .int .i64 y2, .string y3, .bool y4, .int .i64 y5]] : List Stp) [v0, v1] ([(w.heap.size + 1, 32, #[.int .i64 k', .int .i64 m', .int .i64 s', .string t', .bool b', .int .i64 e']), (w.heap.size, 32, #[.int .i64 k, .int .i64 m, .int .i64 s, .string t, .bool b, .int .i64 e])] : List (Nat × TypeId × Array Value)) W' := hS; clear hS; have hB0 := hS2; have hB : SB w 2 ([(w.heap.size + 1, 32, #[.int .i64 2, .int .i64 y1, .int .i64 y2, .string y3, .bool y4, .int .i64 y5]), (w.heap.size, 32, #[.int .i64 2, .int .i64 x1, .int .i64 x2, .string x3, .bool x4, .int .i64 x5])] : List (Nat × TypeId × Array Value)) W' := hB0; clear hB0; have e2 : a.tmps.getD 2 undef = .pointer (some ⟨w.heap.size, 0, none⟩) := hT 2 (by simp); have e3 : a.tmps.getD 3 undef = .pointer (some ⟨w.heap.size + 1, 0, none⟩) := hT 3 (by simp); clear hT hF hP; rw [act_lit 53 a hd hsz]; simp only [List.range, List.range.loop, List.map, e2, e3]; clear hd hsz e2 e3; have ky := hB.box (i := 0) rfl; have cy0 := ky.cell 0; have cy1 := ky.cell 1; have cy2 := ky.cell 2; have cy3 := ky.cell 3; have cy4 := ky.cell 4; have cy5 := ky.cell 5; clear ky; have kx := hB.box (i := 1) rfl; have cx0 := kx.cell 0; have cx1 := kx.cell 1; have cx2 := kx.cell 2; have cx3 := kx.cell 3; have cx4 := kx.cell 4; have cx5 := kx.cell 5; clear kx
    go_wp2_with fail
    refine (HC.out _).mono ?_; rintro x w9 ⟨rfl, hb⟩; have hbel := (hB.call hb).bel; clear hb hB HB HX HY HC; go_wp2; go_ret; exact ⟨rfl, hbel⟩
set_option maxRecDepth 20000 in
set_option maxHeartbeats 4000000 in
theorem compare_err {w : World} {k m s : Int} {t : ByteArray} {b : Bool} {e : Int} {k' m' s' : Int} {t' : ByteArray} {b' : Bool} {e' : Int} {x1 x2 : Int} {x3 : ByteArray} {x4 : Bool} {x5 : Int} {y1 y2 : Int} {y3 : ByteArray} {y4 : Bool} {y5 : Int}
    (KX : ∀ W : World, Calls Tryz.prog 82 #[.agg #[.int .i64 k, .int .i64 m, .int .i64 s, .string t, .bool b, .int .i64 e], .agg #[.int .i64 k', .int .i64 m', .int .i64 s', .string t', .bool b', .int .i64 e']] W fun x w' => x = .returned (.agg #[.int .i64 4, .int .i64 x1, .int .i64 x2, .string x3, .bool x4, .int .i64 x5]) ∧ Below W.heap.size W w')
    (KY : ∀ W : World, Calls Tryz.prog 82 #[.agg #[.int .i64 k', .int .i64 m', .int .i64 s', .string t', .bool b', .int .i64 e'], .agg #[.int .i64 k, .int .i64 m, .int .i64 s, .string t, .bool b, .int .i64 e]] W fun x w' => x = .returned (.agg #[.int .i64 4, .int .i64 y1, .int .i64 y2, .string y3, .bool y4, .int .i64 y5]) ∧ Below W.heap.size W w') :
    Calls Tryz.prog 27 #[.agg #[.int .i64 k, .int .i64 m, .int .i64 s, .string t, .bool b, .int .i64 e], .agg #[.int .i64 k', .int .i64 m', .int .i64 s', .string t', .bool b', .int .i64 e']] w fun x w' => x = .returned (.int .i64 (cmp x5 y5)) ∧ Below w.heap.size w w' := by
  have HX := Lib.hid KX; have HY := Lib.hid KY; clear KX KY; have HC := Lib.hid (fun W : World => cmp_int (w := W) x5 y5); generalize cmp x5 y5 = C at *; have HB := Lib.hid ((sb1 w 32 #[.int .i64 k, .int .i64 m, .int .i64 s, .string t, .bool b, .int .i64 e]).push (by simp) 32 #[.int .i64 k', .int .i64 m', .int .i64 s', .string t', .bool b', .int .i64 e']); go_enter Tryz.func27, Tryz.ntmps27
  go_wp2_with fail
  refine wp_region_early (S := (fun vals W => SX w 2 ([.put 1 #[.int .i64 4, .int .i64 x1, .int .i64 x2, .string x3, .bool x4, .int .i64 x5], .put 0 #[.int .i64 4, .int .i64 y1, .int .i64 y2, .string y3, .bool y4, .int .i64 y5]] : List Stp) vals ([(w.heap.size + 1, 32, #[.int .i64 k', .int .i64 m', .int .i64 s', .string t', .bool b', .int .i64 e']), (w.heap.size, 32, #[.int .i64 k, .int .i64 m, .int .i64 s, .string t, .bool b, .int .i64 e])] : List (Nat × TypeId × Array Value)) W)) (E := (fun _ _ => True)) [6, 7] [(2, Is (.pointer (some ⟨w.heap.size, 0, none⟩))), (3, Is (.pointer (some ⟨w.heap.size + 1, 0, none⟩)))] [(5, Is (.agg #[.int .i64 k, .int .i64 m, .int .i64 s, .string t, .bool b, .int .i64 e])), (6, Is (.agg #[.int .i64 k', .int .i64 m', .int .i64 s', .string t', .bool b', .int .i64 e'])), (7, Is (.agg #[.int .i64 4, .int .i64 x1, .int .i64 x2, .string x3, .bool x4, .int .i64 x5])), (8, Is (.agg #[.int .i64 k', .int .i64 m', .int .i64 s', .string t', .bool b', .int .i64 e'])), (9, Is (.agg #[.int .i64 k, .int .i64 m, .int .i64 s, .string t, .bool b, .int .i64 e])), (10, Is (.agg #[.int .i64 4, .int .i64 y1, .int .i64 y2, .string y3, .bool y4, .int .i64 y5]))]
    [.op [2] none, .op [3] none, .op [5, 6] none, .op [3] none, .op [2] none, .op [8, 9] none, .phase 0 [2, 7] [], .phase 1 [3, 10] []] (by as_aux_lemma => kernel_rfl) ?_ ?_ ?_ ?_ ?_ ⟨stable_is _ _, stable_is _ _, stable_is _ _, stable_is _ _, stable_is _ _, stable_is _ _, stable_is _ _, stable_is _ _, trivial⟩ ?_ (HB.out.drew) ?_ ?_
  · as_aux_lemma => kernel_rfl
  · as_aux_lemma => kernel_rfl
  · as_aux_lemma => kernel_rfl
  · as_aux_lemma => kernel_rfl
  · as_aux_lemma => kernel_rfl
  · exact ⟨rfl, rfl, trivial⟩
  · refine ⟨?_, ?_, ?_, ?_, ?_, ?_, ?_, ?_, trivial⟩
    · as_aux_lemma =>
        intro vals hE a W hS hL; obtain rfl : vals = [] := List.eq_nil_of_length_eq_zero (Nat.le_zero.1 (hE 0 (by kernel_rfl))); have e2 : a.tmps.getD 2 undef = .pointer (some ⟨w.heap.size, 0, none⟩) := hL.1; clear hL; have kb : Bk W (w.heap.size) 32 #[.int .i64 k, .int .i64 m, .int .i64 s, .string t, .bool b, .int .i64 e] := SB.box (i := 1) hS rfl; have f0 := kb.cell 0; have f1 := kb.cell 1; have f2 := kb.cell 2; have f3 := kb.cell 3; have f4 := kb.cell 4; have f5 := kb.cell 5; clear kb; go_simp; exact ⟨⟨fun d hd => by injection hd with hd; subst hd; rfl, fun h => by cases h⟩, hS, trivial⟩
    · as_aux_lemma =>
        intro vals hE a W hS hL; obtain rfl : vals = [] := List.eq_nil_of_length_eq_zero (Nat.le_zero.1 (hE 0 (by kernel_rfl))); have e3 : a.tmps.getD 3 undef = .pointer (some ⟨w.heap.size + 1, 0, none⟩) := hL.1; clear hL; have kb : Bk W (w.heap.size + 1) 32 #[.int .i64 k', .int .i64 m', .int .i64 s', .string t', .bool b', .int .i64 e'] := SB.box (i := 0) hS rfl; have f0 := kb.cell 0; have f1 := kb.cell 1; have f2 := kb.cell 2; have f3 := kb.cell 3; have f4 := kb.cell 4; have f5 := kb.cell 5; clear kb; go_simp; exact ⟨⟨fun d hd => by injection hd with hd; subst hd; rfl, fun h => by cases h⟩, hS, trivial⟩
    · as_aux_lemma =>
        intro vals hE a W hS hL; obtain rfl : vals = [] := List.eq_nil_of_length_eq_zero (Nat.le_zero.1 (hE 0 (by kernel_rfl))); have e5 : a.tmps.getD 5 undef = .agg #[.int .i64 k, .int .i64 m, .int .i64 s, .string t, .bool b, .int .i64 e] := hL.1; have e6 : a.tmps.getD 6 undef = .agg #[.int .i64 k', .int .i64 m', .int .i64 s', .string t', .bool b', .int .i64 e'] := hL.2.1; clear hL; go_simp; refine (HX.out W).mono ?_; rintro e W' ⟨rfl, hb⟩; exact ⟨_, rfl, ⟨fun d hd => by injection hd with hd; subst hd; rfl, fun h => by cases h⟩, hS.call hb, trivial⟩
    · as_aux_lemma =>
        intro vals hE a W hS hL; have hE1 := hE 1 (by kernel_rfl); have e3 : a.tmps.getD 3 undef = .pointer (some ⟨w.heap.size + 1, 0, none⟩) := hL.1; clear hL
        have kb : Bk W (w.heap.size + 1) 32 #[.int .i64 k', .int .i64 m', .int .i64 s', .string t', .bool b', .int .i64 e'] := by
          match vals, hE1, hS with
          | [], _, hS => exact SB.box (i := 0) hS rfl
          | [_], _, hS => exact SB.box (i := 0) hS rfl
        have f0 := kb.cell 0; have f1 := kb.cell 1; have f2 := kb.cell 2; have f3 := kb.cell 3; have f4 := kb.cell 4; have f5 := kb.cell 5; clear kb; go_simp; exact ⟨⟨fun d hd => by injection hd with hd; subst hd; rfl, fun h => by cases h⟩, hS, trivial⟩
    · as_aux_lemma =>
        intro vals hE a W hS hL; obtain rfl : vals = [] := List.eq_nil_of_length_eq_zero (Nat.le_zero.1 (hE 0 (by kernel_rfl))); have e2 : a.tmps.getD 2 undef = .pointer (some ⟨w.heap.size, 0, none⟩) := hL.1; clear hL; have kb : Bk W (w.heap.size) 32 #[.int .i64 k, .int .i64 m, .int .i64 s, .string t, .bool b, .int .i64 e] := SB.box (i := 1) hS rfl; have f0 := kb.cell 0; have f1 := kb.cell 1; have f2 := kb.cell 2; have f3 := kb.cell 3; have f4 := kb.cell 4; have f5 := kb.cell 5; clear kb; go_simp; exact ⟨⟨fun d hd => by injection hd with hd; subst hd; rfl, fun h => by cases h⟩, hS, trivial⟩
    · as_aux_lemma =>
        intro vals hE a W hS hL; have hE1 := hE 1 (by kernel_rfl); have e8 : a.tmps.getD 8 undef = .agg #[.int .i64 k', .int .i64 m', .int .i64 s', .string t', .bool b', .int .i64 e'] := hL.1; have e9 : a.tmps.getD 9 undef = .agg #[.int .i64 k, .int .i64 m, .int .i64 s, .string t, .bool b, .int .i64 e] := hL.2.1; clear hL; go_simp; refine (HY.out W).mono ?_; rintro e W' ⟨rfl, hb⟩; exact ⟨_, rfl, ⟨fun d hd => by injection hd with hd; subst hd; rfl, fun h => by cases h⟩, hS.call hb, trivial⟩
    · skip
      intro a W vals hv hS hL hp; have e2 : a.tmps.getD 2 undef = .pointer (some ⟨w.heap.size, 0, none⟩) := hL.1; have e7 : a.tmps.getD 7 undef = .agg #[.int .i64 4, .int .i64 x1, .int .i64 x2, .string x3, .bool x4, .int .i64 x5] := hL.2.1; clear hL
      match vals, hv, hS with
      | [], _, hS =>
        have hS2 : SX w 2 ([.put 1 #[.int .i64 4, .int .i64 x1, .int .i64 x2, .string x3, .bool x4, .int .i64 x5], .put 0 #[.int .i64 4, .int .i64 y1, .int .i64 y2, .string y3, .bool y4, .int .i64 y5]] : List Stp) [] ([(w.heap.size + 1, 32, #[.int .i64 k', .int .i64 m', .int .i64 s', .string t', .bool b', .int .i64 e']), (w.heap.size, 32, #[.int .i64 k, .int .i64 m, .int .i64 s, .string t, .bool b, .int .i64 e])] : List (Nat × TypeId × Array Value)) W := hS; clear hS; have hB0 := hS2; have hB : SB w 2 ([(w.heap.size + 1, 32, #[.int .i64 k', .int .i64 m', .int .i64 s', .string t', .bool b', .int .i64 e']), (w.heap.size, 32, #[.int .i64 k, .int .i64 m, .int .i64 s, .string t, .bool b, .int .i64 e])] : List (Nat × TypeId × Array Value)) W := hB0; clear hB0; rw [Array.getD_eq_getD_getElem?] at e7; have kz := hB.box (i := 1) rfl; have z0 := kz.frozen 0; have q0 := kz.cell 0; have z1 := kz.frozen 1; have q1 := kz.cell 1; have z2 := kz.frozen 2; have q2 := kz.cell 2; have z3 := kz.frozen 3; have q3 := kz.cell 3; have z4 := kz.frozen 4; have q4 := kz.cell 4; have z5 := kz.frozen 5; have q5 := kz.cell 5; have hge : w.heap.size ≤ (w.heap.size) := by omega
        have hne : ∀ qx ∈ butBox ([(w.heap.size + 1, 32, #[.int .i64 k', .int .i64 m', .int .i64 s', .string t', .bool b', .int .i64 e']), (w.heap.size, 32, #[.int .i64 k, .int .i64 m, .int .i64 s, .string t, .bool b, .int .i64 e])] : List (Nat × TypeId × Array Value)) 1, qx.1 ≠ (w.heap.size) := by simp [butBox] <;> omega
        have hF := hB.put6 (i := 1) rfl hge hne (.int .i64 4 : Value) (.int .i64 x1 : Value) (.int .i64 x2 : Value) (.string x3 : Value) (.bool x4 : Value) (.int .i64 x5 : Value); clear kz hB hne hge; go_simp; exact ⟨hF, trivial, trivial⟩
    · skip
      intro a W vals hv hS hL hp; have e3 : a.tmps.getD 3 undef = .pointer (some ⟨w.heap.size + 1, 0, none⟩) := hL.1; have e10 : a.tmps.getD 10 undef = .agg #[.int .i64 4, .int .i64 y1, .int .i64 y2, .string y3, .bool y4, .int .i64 y5] := hL.2.1; clear hL
      match vals, hv, hS with
      | [v0], _, hS =>
        have hS2 : SX w 2 ([.put 1 #[.int .i64 4, .int .i64 x1, .int .i64 x2, .string x3, .bool x4, .int .i64 x5], .put 0 #[.int .i64 4, .int .i64 y1, .int .i64 y2, .string y3, .bool y4, .int .i64 y5]] : List Stp) [v0] ([(w.heap.size + 1, 32, #[.int .i64 k', .int .i64 m', .int .i64 s', .string t', .bool b', .int .i64 e']), (w.heap.size, 32, #[.int .i64 k, .int .i64 m, .int .i64 s, .string t, .bool b, .int .i64 e])] : List (Nat × TypeId × Array Value)) W := hS; clear hS; have hB0 := hS2; have hB : SB w 2 ([(w.heap.size + 1, 32, #[.int .i64 k', .int .i64 m', .int .i64 s', .string t', .bool b', .int .i64 e']), (w.heap.size, 32, #[.int .i64 4, .int .i64 x1, .int .i64 x2, .string x3, .bool x4, .int .i64 x5])] : List (Nat × TypeId × Array Value)) W := hB0; clear hB0; rw [Array.getD_eq_getD_getElem?] at e10; have kz := hB.box (i := 0) rfl; have z0 := kz.frozen 0; have q0 := kz.cell 0; have z1 := kz.frozen 1; have q1 := kz.cell 1; have z2 := kz.frozen 2; have q2 := kz.cell 2; have z3 := kz.frozen 3; have q3 := kz.cell 3; have z4 := kz.frozen 4; have q4 := kz.cell 4; have z5 := kz.frozen 5; have q5 := kz.cell 5; have hge : w.heap.size ≤ (w.heap.size + 1) := by omega
        have hne : ∀ qx ∈ butBox ([(w.heap.size + 1, 32, #[.int .i64 k', .int .i64 m', .int .i64 s', .string t', .bool b', .int .i64 e']), (w.heap.size, 32, #[.int .i64 4, .int .i64 x1, .int .i64 x2, .string x3, .bool x4, .int .i64 x5])] : List (Nat × TypeId × Array Value)) 0, qx.1 ≠ (w.heap.size + 1) := by simp [butBox] <;> omega
        have hF := hB.put6 (i := 0) rfl hge hne (.int .i64 4 : Value) (.int .i64 y1 : Value) (.int .i64 y2 : Value) (.string y3 : Value) (.bool y4 : Value) (.int .i64 y5 : Value); clear kz hB hne hge; go_simp; exact ⟨hF, trivial, trivial⟩
  · intro a W' vals hd hsz hT hF hv hP hS
    obtain ⟨v0, v1, rfl⟩ : ∃ v0 v1, vals = [v0, v1] := by
      match vals, hv with
      | [v0, v1], _ => exact ⟨v0, v1, rfl⟩
    have hS2 : SX w 2 ([.put 1 #[.int .i64 4, .int .i64 x1, .int .i64 x2, .string x3, .bool x4, .int .i64 x5], .put 0 #[.int .i64 4, .int .i64 y1, .int .i64 y2, .string y3, .bool y4, .int .i64 y5]] : List Stp) [v0, v1] ([(w.heap.size + 1, 32, #[.int .i64 k', .int .i64 m', .int .i64 s', .string t', .bool b', .int .i64 e']), (w.heap.size, 32, #[.int .i64 k, .int .i64 m, .int .i64 s, .string t, .bool b, .int .i64 e])] : List (Nat × TypeId × Array Value)) W' := hS; clear hS; have hB0 := hS2; have hB : SB w 2 ([(w.heap.size + 1, 32, #[.int .i64 4, .int .i64 y1, .int .i64 y2, .string y3, .bool y4, .int .i64 y5]), (w.heap.size, 32, #[.int .i64 4, .int .i64 x1, .int .i64 x2, .string x3, .bool x4, .int .i64 x5])] : List (Nat × TypeId × Array Value)) W' := hB0; clear hB0; have e2 : a.tmps.getD 2 undef = .pointer (some ⟨w.heap.size, 0, none⟩) := hT 2 (by simp); have e3 : a.tmps.getD 3 undef = .pointer (some ⟨w.heap.size + 1, 0, none⟩) := hT 3 (by simp); clear hT hF hP; rw [act_lit 53 a hd hsz]; simp only [List.range, List.range.loop, List.map, e2, e3]; clear hd hsz e2 e3; have ky := hB.box (i := 0) rfl; have cy0 := ky.cell 0; have cy1 := ky.cell 1; have cy2 := ky.cell 2; have cy3 := ky.cell 3; have cy4 := ky.cell 4; have cy5 := ky.cell 5; clear ky; have kx := hB.box (i := 1) rfl; have cx0 := kx.cell 0; have cx1 := kx.cell 1; have cx2 := kx.cell 2; have cx3 := kx.cell 3; have cx4 := kx.cell 4; have cx5 := kx.cell 5; clear kx
    go_wp2_with fail
    refine (HC.out _).mono ?_; rintro x w9 ⟨rfl, rfl⟩; have hbel := hB.bel; clear hB HB HX HY HC; go_wp2; go_ret; exact ⟨rfl, hbel⟩
set_option maxRecDepth 20000 in
set_option maxHeartbeats 4000000 in
theorem compare_blank {w : World} {k m s : Int} {t : ByteArray} {b : Bool} {e : Int} {k' m' s' : Int} {t' : ByteArray} {b' : Bool} {e' : Int} {x1 x2 : Int} {x3 : ByteArray} {x4 : Bool} {x5 : Int} {y1 y2 : Int} {y3 : ByteArray} {y4 : Bool} {y5 : Int}
    (KX : ∀ W : World, Calls Tryz.prog 82 #[.agg #[.int .i64 k, .int .i64 m, .int .i64 s, .string t, .bool b, .int .i64 e], .agg #[.int .i64 k', .int .i64 m', .int .i64 s', .string t', .bool b', .int .i64 e']] W fun x w' => x = .returned (.agg #[.int .i64 0, .int .i64 x1, .int .i64 x2, .string x3, .bool x4, .int .i64 x5]) ∧ Below W.heap.size W w')
    (KY : ∀ W : World, Calls Tryz.prog 82 #[.agg #[.int .i64 k', .int .i64 m', .int .i64 s', .string t', .bool b', .int .i64 e'], .agg #[.int .i64 k, .int .i64 m, .int .i64 s, .string t, .bool b, .int .i64 e]] W fun x w' => x = .returned (.agg #[.int .i64 0, .int .i64 y1, .int .i64 y2, .string y3, .bool y4, .int .i64 y5]) ∧ Below W.heap.size W w') :
    Calls Tryz.prog 27 #[.agg #[.int .i64 k, .int .i64 m, .int .i64 s, .string t, .bool b, .int .i64 e], .agg #[.int .i64 k', .int .i64 m', .int .i64 s', .string t', .bool b', .int .i64 e']] w fun x w' => x = .returned (.int .i64 0) ∧ Below w.heap.size w w' := by
  have HX := Lib.hid KX; have HY := Lib.hid KY; clear KX KY; have HB := Lib.hid ((sb1 w 32 #[.int .i64 k, .int .i64 m, .int .i64 s, .string t, .bool b, .int .i64 e]).push (by simp) 32 #[.int .i64 k', .int .i64 m', .int .i64 s', .string t', .bool b', .int .i64 e']); go_enter Tryz.func27, Tryz.ntmps27
  go_wp2_with fail
  refine wp_region_early (S := (fun vals W => SX w 2 ([.put 1 #[.int .i64 0, .int .i64 x1, .int .i64 x2, .string x3, .bool x4, .int .i64 x5], .put 0 #[.int .i64 0, .int .i64 y1, .int .i64 y2, .string y3, .bool y4, .int .i64 y5]] : List Stp) vals ([(w.heap.size + 1, 32, #[.int .i64 k', .int .i64 m', .int .i64 s', .string t', .bool b', .int .i64 e']), (w.heap.size, 32, #[.int .i64 k, .int .i64 m, .int .i64 s, .string t, .bool b, .int .i64 e])] : List (Nat × TypeId × Array Value)) W)) (E := (fun _ _ => True)) [6, 7] [(2, Is (.pointer (some ⟨w.heap.size, 0, none⟩))), (3, Is (.pointer (some ⟨w.heap.size + 1, 0, none⟩)))] [(5, Is (.agg #[.int .i64 k, .int .i64 m, .int .i64 s, .string t, .bool b, .int .i64 e])), (6, Is (.agg #[.int .i64 k', .int .i64 m', .int .i64 s', .string t', .bool b', .int .i64 e'])), (7, Is (.agg #[.int .i64 0, .int .i64 x1, .int .i64 x2, .string x3, .bool x4, .int .i64 x5])), (8, Is (.agg #[.int .i64 k', .int .i64 m', .int .i64 s', .string t', .bool b', .int .i64 e'])), (9, Is (.agg #[.int .i64 k, .int .i64 m, .int .i64 s, .string t, .bool b, .int .i64 e])), (10, Is (.agg #[.int .i64 0, .int .i64 y1, .int .i64 y2, .string y3, .bool y4, .int .i64 y5]))]
    [.op [2] none, .op [3] none, .op [5, 6] none, .op [3] none, .op [2] none, .op [8, 9] none, .phase 0 [2, 7] [], .phase 1 [3, 10] []] (by as_aux_lemma => kernel_rfl) ?_ ?_ ?_ ?_ ?_ ⟨stable_is _ _, stable_is _ _, stable_is _ _, stable_is _ _, stable_is _ _, stable_is _ _, stable_is _ _, stable_is _ _, trivial⟩ ?_ (HB.out.drew) ?_ ?_
  · as_aux_lemma => kernel_rfl
  · as_aux_lemma => kernel_rfl
  · as_aux_lemma => kernel_rfl
  · as_aux_lemma => kernel_rfl
  · as_aux_lemma => kernel_rfl
  · exact ⟨rfl, rfl, trivial⟩
  · refine ⟨?_, ?_, ?_, ?_, ?_, ?_, ?_, ?_, trivial⟩
    · as_aux_lemma =>
        intro vals hE a W hS hL; obtain rfl : vals = [] := List.eq_nil_of_length_eq_zero (Nat.le_zero.1 (hE 0 (by kernel_rfl))); have e2 : a.tmps.getD 2 undef = .pointer (some ⟨w.heap.size, 0, none⟩) := hL.1; clear hL; have kb : Bk W (w.heap.size) 32 #[.int .i64 k, .int .i64 m, .int .i64 s, .string t, .bool b, .int .i64 e] := SB.box (i := 1) hS rfl; have f0 := kb.cell 0; have f1 := kb.cell 1; have f2 := kb.cell 2; have f3 := kb.cell 3; have f4 := kb.cell 4; have f5 := kb.cell 5; clear kb; go_simp; exact ⟨⟨fun d hd => by injection hd with hd; subst hd; rfl, fun h => by cases h⟩, hS, trivial⟩
    · as_aux_lemma =>
        intro vals hE a W hS hL; obtain rfl : vals = [] := List.eq_nil_of_length_eq_zero (Nat.le_zero.1 (hE 0 (by kernel_rfl))); have e3 : a.tmps.getD 3 undef = .pointer (some ⟨w.heap.size + 1, 0, none⟩) := hL.1; clear hL; have kb : Bk W (w.heap.size + 1) 32 #[.int .i64 k', .int .i64 m', .int .i64 s', .string t', .bool b', .int .i64 e'] := SB.box (i := 0) hS rfl; have f0 := kb.cell 0; have f1 := kb.cell 1; have f2 := kb.cell 2; have f3 := kb.cell 3; have f4 := kb.cell 4; have f5 := kb.cell 5; clear kb; go_simp; exact ⟨⟨fun d hd => by injection hd with hd; subst hd; rfl, fun h => by cases h⟩, hS, trivial⟩
    · as_aux_lemma =>
        intro vals hE a W hS hL; obtain rfl : vals = [] := List.eq_nil_of_length_eq_zero (Nat.le_zero.1 (hE 0 (by kernel_rfl))); have e5 : a.tmps.getD 5 undef = .agg #[.int .i64 k, .int .i64 m, .int .i64 s, .string t, .bool b, .int .i64 e] := hL.1; have e6 : a.tmps.getD 6 undef = .agg #[.int .i64 k', .int .i64 m', .int .i64 s', .string t', .bool b', .int .i64 e'] := hL.2.1; clear hL; go_simp; refine (HX.out W).mono ?_; rintro e W' ⟨rfl, hb⟩; exact ⟨_, rfl, ⟨fun d hd => by injection hd with hd; subst hd; rfl, fun h => by cases h⟩, hS.call hb, trivial⟩
    · as_aux_lemma =>
        intro vals hE a W hS hL; have hE1 := hE 1 (by kernel_rfl); have e3 : a.tmps.getD 3 undef = .pointer (some ⟨w.heap.size + 1, 0, none⟩) := hL.1; clear hL
        have kb : Bk W (w.heap.size + 1) 32 #[.int .i64 k', .int .i64 m', .int .i64 s', .string t', .bool b', .int .i64 e'] := by
          match vals, hE1, hS with
          | [], _, hS => exact SB.box (i := 0) hS rfl
          | [_], _, hS => exact SB.box (i := 0) hS rfl
        have f0 := kb.cell 0; have f1 := kb.cell 1; have f2 := kb.cell 2; have f3 := kb.cell 3; have f4 := kb.cell 4; have f5 := kb.cell 5; clear kb; go_simp; exact ⟨⟨fun d hd => by injection hd with hd; subst hd; rfl, fun h => by cases h⟩, hS, trivial⟩
    · as_aux_lemma =>
        intro vals hE a W hS hL; obtain rfl : vals = [] := List.eq_nil_of_length_eq_zero (Nat.le_zero.1 (hE 0 (by kernel_rfl))); have e2 : a.tmps.getD 2 undef = .pointer (some ⟨w.heap.size, 0, none⟩) := hL.1; clear hL; have kb : Bk W (w.heap.size) 32 #[.int .i64 k, .int .i64 m, .int .i64 s, .string t, .bool b, .int .i64 e] := SB.box (i := 1) hS rfl; have f0 := kb.cell 0; have f1 := kb.cell 1; have f2 := kb.cell 2; have f3 := kb.cell 3; have f4 := kb.cell 4; have f5 := kb.cell 5; clear kb; go_simp; exact ⟨⟨fun d hd => by injection hd with hd; subst hd; rfl, fun h => by cases h⟩, hS, trivial⟩
    · as_aux_lemma =>
        intro vals hE a W hS hL; have hE1 := hE 1 (by kernel_rfl); have e8 : a.tmps.getD 8 undef = .agg #[.int .i64 k', .int .i64 m', .int .i64 s', .string t', .bool b', .int .i64 e'] := hL.1; have e9 : a.tmps.getD 9 undef = .agg #[.int .i64 k, .int .i64 m, .int .i64 s, .string t, .bool b, .int .i64 e] := hL.2.1; clear hL; go_simp; refine (HY.out W).mono ?_; rintro e W' ⟨rfl, hb⟩; exact ⟨_, rfl, ⟨fun d hd => by injection hd with hd; subst hd; rfl, fun h => by cases h⟩, hS.call hb, trivial⟩
    · skip
      intro a W vals hv hS hL hp; have e2 : a.tmps.getD 2 undef = .pointer (some ⟨w.heap.size, 0, none⟩) := hL.1; have e7 : a.tmps.getD 7 undef = .agg #[.int .i64 0, .int .i64 x1, .int .i64 x2, .string x3, .bool x4, .int .i64 x5] := hL.2.1; clear hL
      match vals, hv, hS with
      | [], _, hS =>
        have hS2 : SX w 2 ([.put 1 #[.int .i64 0, .int .i64 x1, .int .i64 x2, .string x3, .bool x4, .int .i64 x5], .put 0 #[.int .i64 0, .int .i64 y1, .int .i64 y2, .string y3, .bool y4, .int .i64 y5]] : List Stp) [] ([(w.heap.size + 1, 32, #[.int .i64 k', .int .i64 m', .int .i64 s', .string t', .bool b', .int .i64 e']), (w.heap.size, 32, #[.int .i64 k, .int .i64 m, .int .i64 s, .string t, .bool b, .int .i64 e])] : List (Nat × TypeId × Array Value)) W := hS; clear hS; have hB0 := hS2; have hB : SB w 2 ([(w.heap.size + 1, 32, #[.int .i64 k', .int .i64 m', .int .i64 s', .string t', .bool b', .int .i64 e']), (w.heap.size, 32, #[.int .i64 k, .int .i64 m, .int .i64 s, .string t, .bool b, .int .i64 e])] : List (Nat × TypeId × Array Value)) W := hB0; clear hB0; rw [Array.getD_eq_getD_getElem?] at e7; have kz := hB.box (i := 1) rfl; have z0 := kz.frozen 0; have q0 := kz.cell 0; have z1 := kz.frozen 1; have q1 := kz.cell 1; have z2 := kz.frozen 2; have q2 := kz.cell 2; have z3 := kz.frozen 3; have q3 := kz.cell 3; have z4 := kz.frozen 4; have q4 := kz.cell 4; have z5 := kz.frozen 5; have q5 := kz.cell 5; have hge : w.heap.size ≤ (w.heap.size) := by omega
        have hne : ∀ qx ∈ butBox ([(w.heap.size + 1, 32, #[.int .i64 k', .int .i64 m', .int .i64 s', .string t', .bool b', .int .i64 e']), (w.heap.size, 32, #[.int .i64 k, .int .i64 m, .int .i64 s, .string t, .bool b, .int .i64 e])] : List (Nat × TypeId × Array Value)) 1, qx.1 ≠ (w.heap.size) := by simp [butBox] <;> omega
        have hF := hB.put6 (i := 1) rfl hge hne (.int .i64 0 : Value) (.int .i64 x1 : Value) (.int .i64 x2 : Value) (.string x3 : Value) (.bool x4 : Value) (.int .i64 x5 : Value); clear kz hB hne hge; go_simp; exact ⟨hF, trivial, trivial⟩
    · skip
      intro a W vals hv hS hL hp; have e3 : a.tmps.getD 3 undef = .pointer (some ⟨w.heap.size + 1, 0, none⟩) := hL.1; have e10 : a.tmps.getD 10 undef = .agg #[.int .i64 0, .int .i64 y1, .int .i64 y2, .string y3, .bool y4, .int .i64 y5] := hL.2.1; clear hL
      match vals, hv, hS with
      | [v0], _, hS =>
        have hS2 : SX w 2 ([.put 1 #[.int .i64 0, .int .i64 x1, .int .i64 x2, .string x3, .bool x4, .int .i64 x5], .put 0 #[.int .i64 0, .int .i64 y1, .int .i64 y2, .string y3, .bool y4, .int .i64 y5]] : List Stp) [v0] ([(w.heap.size + 1, 32, #[.int .i64 k', .int .i64 m', .int .i64 s', .string t', .bool b', .int .i64 e']), (w.heap.size, 32, #[.int .i64 k, .int .i64 m, .int .i64 s, .string t, .bool b, .int .i64 e])] : List (Nat × TypeId × Array Value)) W := hS; clear hS; have hB0 := hS2; have hB : SB w 2 ([(w.heap.size + 1, 32, #[.int .i64 k', .int .i64 m', .int .i64 s', .string t', .bool b', .int .i64 e']), (w.heap.size, 32, #[.int .i64 0, .int .i64 x1, .int .i64 x2, .string x3, .bool x4, .int .i64 x5])] : List (Nat × TypeId × Array Value)) W := hB0; clear hB0; rw [Array.getD_eq_getD_getElem?] at e10; have kz := hB.box (i := 0) rfl; have z0 := kz.frozen 0; have q0 := kz.cell 0; have z1 := kz.frozen 1; have q1 := kz.cell 1; have z2 := kz.frozen 2; have q2 := kz.cell 2; have z3 := kz.frozen 3; have q3 := kz.cell 3; have z4 := kz.frozen 4; have q4 := kz.cell 4; have z5 := kz.frozen 5; have q5 := kz.cell 5; have hge : w.heap.size ≤ (w.heap.size + 1) := by omega
        have hne : ∀ qx ∈ butBox ([(w.heap.size + 1, 32, #[.int .i64 k', .int .i64 m', .int .i64 s', .string t', .bool b', .int .i64 e']), (w.heap.size, 32, #[.int .i64 0, .int .i64 x1, .int .i64 x2, .string x3, .bool x4, .int .i64 x5])] : List (Nat × TypeId × Array Value)) 0, qx.1 ≠ (w.heap.size + 1) := by simp [butBox] <;> omega
        have hF := hB.put6 (i := 0) rfl hge hne (.int .i64 0 : Value) (.int .i64 y1 : Value) (.int .i64 y2 : Value) (.string y3 : Value) (.bool y4 : Value) (.int .i64 y5 : Value); clear kz hB hne hge; go_simp; exact ⟨hF, trivial, trivial⟩
  · intro a W' vals hd hsz hT hF hv hP hS
    obtain ⟨v0, v1, rfl⟩ : ∃ v0 v1, vals = [v0, v1] := by
      match vals, hv with
      | [v0, v1], _ => exact ⟨v0, v1, rfl⟩
    have hS2 : SX w 2 ([.put 1 #[.int .i64 0, .int .i64 x1, .int .i64 x2, .string x3, .bool x4, .int .i64 x5], .put 0 #[.int .i64 0, .int .i64 y1, .int .i64 y2, .string y3, .bool y4, .int .i64 y5]] : List Stp) [v0, v1] ([(w.heap.size + 1, 32, #[.int .i64 k', .int .i64 m', .int .i64 s', .string t', .bool b', .int .i64 e']), (w.heap.size, 32, #[.int .i64 k, .int .i64 m, .int .i64 s, .string t, .bool b, .int .i64 e])] : List (Nat × TypeId × Array Value)) W' := hS; clear hS; have hB0 := hS2; have hB : SB w 2 ([(w.heap.size + 1, 32, #[.int .i64 0, .int .i64 y1, .int .i64 y2, .string y3, .bool y4, .int .i64 y5]), (w.heap.size, 32, #[.int .i64 0, .int .i64 x1, .int .i64 x2, .string x3, .bool x4, .int .i64 x5])] : List (Nat × TypeId × Array Value)) W' := hB0; clear hB0; have e2 : a.tmps.getD 2 undef = .pointer (some ⟨w.heap.size, 0, none⟩) := hT 2 (by simp); have e3 : a.tmps.getD 3 undef = .pointer (some ⟨w.heap.size + 1, 0, none⟩) := hT 3 (by simp); clear hT hF hP; rw [act_lit 53 a hd hsz]; simp only [List.range, List.range.loop, List.map, e2, e3]; clear hd hsz e2 e3; have ky := hB.box (i := 0) rfl; have cy0 := ky.cell 0; have cy1 := ky.cell 1; have cy2 := ky.cell 2; have cy3 := ky.cell 3; have cy4 := ky.cell 4; have cy5 := ky.cell 5; clear ky; have kx := hB.box (i := 1) rfl; have cx0 := kx.cell 0; have cx1 := kx.cell 1; have cx2 := kx.cell 2; have cx3 := kx.cell 3; have cx4 := kx.cell 4; have cx5 := kx.cell 5; clear kx; have hbel := hB.bel; clear hB HB HX HY; go_wp2; go_ret; exact ⟨rfl, hbel⟩
set_option maxRecDepth 20000 in
set_option maxHeartbeats 4000000 in
theorem compare_bool {w : World} {k m s : Int} {t : ByteArray} {b : Bool} {e : Int} {k' m' s' : Int} {t' : ByteArray} {b' : Bool} {e' : Int} {x1 x2 : Int} {x3 : ByteArray} {x4 : Bool} {x5 : Int} {y1 y2 : Int} {y3 : ByteArray} {y4 : Bool} {y5 : Int}
    (KX : ∀ W : World, Calls Tryz.prog 82 #[.agg #[.int .i64 k, .int .i64 m, .int .i64 s, .string t, .bool b, .int .i64 e], .agg #[.int .i64 k', .int .i64 m', .int .i64 s', .string t', .bool b', .int .i64 e']] W fun x w' => x = .returned (.agg #[.int .i64 3, .int .i64 x1, .int .i64 x2, .string x3, .bool x4, .int .i64 x5]) ∧ Below W.heap.size W w')
    (KY : ∀ W : World, Calls Tryz.prog 82 #[.agg #[.int .i64 k', .int .i64 m', .int .i64 s', .string t', .bool b', .int .i64 e'], .agg #[.int .i64 k, .int .i64 m, .int .i64 s, .string t, .bool b, .int .i64 e]] W fun x w' => x = .returned (.agg #[.int .i64 3, .int .i64 y1, .int .i64 y2, .string y3, .bool y4, .int .i64 y5]) ∧ Below W.heap.size W w') :
    Calls Tryz.prog 27 #[.agg #[.int .i64 k, .int .i64 m, .int .i64 s, .string t, .bool b, .int .i64 e], .agg #[.int .i64 k', .int .i64 m', .int .i64 s', .string t', .bool b', .int .i64 e']] w fun x w' => x = .returned (.int .i64 (cmp (rk x4) (rk y4))) ∧ Below w.heap.size w w' := by
  have HX := Lib.hid KX; have HY := Lib.hid KY; clear KX KY; have H1 := Lib.hid (fun W : World => rank_any (w := W) x4); have H2 := Lib.hid (fun W : World => rank_any (w := W) y4); have HC := Lib.hid (fun W : World => cmp_i64 (w := W) (rk x4) (rk y4)); generalize cmp (rk x4) (rk y4) = C at *; generalize rk x4 = r1 at *; generalize rk y4 = r2 at *; have HB := Lib.hid ((sb1 w 32 #[.int .i64 k, .int .i64 m, .int .i64 s, .string t, .bool b, .int .i64 e]).push (by simp) 32 #[.int .i64 k', .int .i64 m', .int .i64 s', .string t', .bool b', .int .i64 e']); go_enter Tryz.func27, Tryz.ntmps27
  go_wp2_with fail
  refine wp_region_early (S := (fun vals W => SX w 2 ([.put 1 #[.int .i64 3, .int .i64 x1, .int .i64 x2, .string x3, .bool x4, .int .i64 x5], .put 0 #[.int .i64 3, .int .i64 y1, .int .i64 y2, .string y3, .bool y4, .int .i64 y5]] : List Stp) vals ([(w.heap.size + 1, 32, #[.int .i64 k', .int .i64 m', .int .i64 s', .string t', .bool b', .int .i64 e']), (w.heap.size, 32, #[.int .i64 k, .int .i64 m, .int .i64 s, .string t, .bool b, .int .i64 e])] : List (Nat × TypeId × Array Value)) W)) (E := (fun _ _ => True)) [6, 7] [(2, Is (.pointer (some ⟨w.heap.size, 0, none⟩))), (3, Is (.pointer (some ⟨w.heap.size + 1, 0, none⟩)))] [(5, Is (.agg #[.int .i64 k, .int .i64 m, .int .i64 s, .string t, .bool b, .int .i64 e])), (6, Is (.agg #[.int .i64 k', .int .i64 m', .int .i64 s', .string t', .bool b', .int .i64 e'])), (7, Is (.agg #[.int .i64 3, .int .i64 x1, .int .i64 x2, .string x3, .bool x4, .int .i64 x5])), (8, Is (.agg #[.int .i64 k', .int .i64 m', .int .i64 s', .string t', .bool b', .int .i64 e'])), (9, Is (.agg #[.int .i64 k, .int .i64 m, .int .i64 s, .string t, .bool b, .int .i64 e])), (10, Is (.agg #[.int .i64 3, .int .i64 y1, .int .i64 y2, .string y3, .bool y4, .int .i64 y5]))]
    [.op [2] none, .op [3] none, .op [5, 6] none, .op [3] none, .op [2] none, .op [8, 9] none, .phase 0 [2, 7] [], .phase 1 [3, 10] []] (by as_aux_lemma => kernel_rfl) ?_ ?_ ?_ ?_ ?_ ⟨stable_is _ _, stable_is _ _, stable_is _ _, stable_is _ _, stable_is _ _, stable_is _ _, stable_is _ _, stable_is _ _, trivial⟩ ?_ (HB.out.drew) ?_ ?_
  · as_aux_lemma => kernel_rfl
  · as_aux_lemma => kernel_rfl
  · as_aux_lemma => kernel_rfl
  · as_aux_lemma => kernel_rfl
  · as_aux_lemma => kernel_rfl
  · exact ⟨rfl, rfl, trivial⟩
  · refine ⟨?_, ?_, ?_, ?_, ?_, ?_, ?_, ?_, trivial⟩
    · as_aux_lemma =>
        intro vals hE a W hS hL; obtain rfl : vals = [] := List.eq_nil_of_length_eq_zero (Nat.le_zero.1 (hE 0 (by kernel_rfl))); have e2 : a.tmps.getD 2 undef = .pointer (some ⟨w.heap.size, 0, none⟩) := hL.1; clear hL; have kb : Bk W (w.heap.size) 32 #[.int .i64 k, .int .i64 m, .int .i64 s, .string t, .bool b, .int .i64 e] := SB.box (i := 1) hS rfl; have f0 := kb.cell 0; have f1 := kb.cell 1; have f2 := kb.cell 2; have f3 := kb.cell 3; have f4 := kb.cell 4; have f5 := kb.cell 5; clear kb; go_simp; exact ⟨⟨fun d hd => by injection hd with hd; subst hd; rfl, fun h => by cases h⟩, hS, trivial⟩
    · as_aux_lemma =>
        intro vals hE a W hS hL; obtain rfl : vals = [] := List.eq_nil_of_length_eq_zero (Nat.le_zero.1 (hE 0 (by kernel_rfl))); have e3 : a.tmps.getD 3 undef = .pointer (some ⟨w.heap.size + 1, 0, none⟩) := hL.1; clear hL; have kb : Bk W (w.heap.size + 1) 32 #[.int .i64 k', .int .i64 m', .int .i64 s', .string t', .bool b', .int .i64 e'] := SB.box (i := 0) hS rfl; have f0 := kb.cell 0; have f1 := kb.cell 1; have f2 := kb.cell 2; have f3 := kb.cell 3; have f4 := kb.cell 4; have f5 := kb.cell 5; clear kb; go_simp; exact ⟨⟨fun d hd => by injection hd with hd; subst hd; rfl, fun h => by cases h⟩, hS, trivial⟩
    · as_aux_lemma =>
        intro vals hE a W hS hL; obtain rfl : vals = [] := List.eq_nil_of_length_eq_zero (Nat.le_zero.1 (hE 0 (by kernel_rfl))); have e5 : a.tmps.getD 5 undef = .agg #[.int .i64 k, .int .i64 m, .int .i64 s, .string t, .bool b, .int .i64 e] := hL.1; have e6 : a.tmps.getD 6 undef = .agg #[.int .i64 k', .int .i64 m', .int .i64 s', .string t', .bool b', .int .i64 e'] := hL.2.1; clear hL; go_simp; refine (HX.out W).mono ?_; rintro e W' ⟨rfl, hb⟩; exact ⟨_, rfl, ⟨fun d hd => by injection hd with hd; subst hd; rfl, fun h => by cases h⟩, hS.call hb, trivial⟩
    · as_aux_lemma =>
        intro vals hE a W hS hL; have hE1 := hE 1 (by kernel_rfl); have e3 : a.tmps.getD 3 undef = .pointer (some ⟨w.heap.size + 1, 0, none⟩) := hL.1; clear hL
        have kb : Bk W (w.heap.size + 1) 32 #[.int .i64 k', .int .i64 m', .int .i64 s', .string t', .bool b', .int .i64 e'] := by
          match vals, hE1, hS with
          | [], _, hS => exact SB.box (i := 0) hS rfl
          | [_], _, hS => exact SB.box (i := 0) hS rfl
        have f0 := kb.cell 0; have f1 := kb.cell 1; have f2 := kb.cell 2; have f3 := kb.cell 3; have f4 := kb.cell 4; have f5 := kb.cell 5; clear kb; go_simp; exact ⟨⟨fun d hd => by injection hd with hd; subst hd; rfl, fun h => by cases h⟩, hS, trivial⟩
    · as_aux_lemma =>
        intro vals hE a W hS hL; obtain rfl : vals = [] := List.eq_nil_of_length_eq_zero (Nat.le_zero.1 (hE 0 (by kernel_rfl))); have e2 : a.tmps.getD 2 undef = .pointer (some ⟨w.heap.size, 0, none⟩) := hL.1; clear hL; have kb : Bk W (w.heap.size) 32 #[.int .i64 k, .int .i64 m, .int .i64 s, .string t, .bool b, .int .i64 e] := SB.box (i := 1) hS rfl; have f0 := kb.cell 0; have f1 := kb.cell 1; have f2 := kb.cell 2; have f3 := kb.cell 3; have f4 := kb.cell 4; have f5 := kb.cell 5; clear kb; go_simp; exact ⟨⟨fun d hd => by injection hd with hd; subst hd; rfl, fun h => by cases h⟩, hS, trivial⟩
    · as_aux_lemma =>
        intro vals hE a W hS hL; have hE1 := hE 1 (by kernel_rfl); have e8 : a.tmps.getD 8 undef = .agg #[.int .i64 k', .int .i64 m', .int .i64 s', .string t', .bool b', .int .i64 e'] := hL.1; have e9 : a.tmps.getD 9 undef = .agg #[.int .i64 k, .int .i64 m, .int .i64 s, .string t, .bool b, .int .i64 e] := hL.2.1; clear hL; go_simp; refine (HY.out W).mono ?_; rintro e W' ⟨rfl, hb⟩; exact ⟨_, rfl, ⟨fun d hd => by injection hd with hd; subst hd; rfl, fun h => by cases h⟩, hS.call hb, trivial⟩
    · skip
      intro a W vals hv hS hL hp; have e2 : a.tmps.getD 2 undef = .pointer (some ⟨w.heap.size, 0, none⟩) := hL.1; have e7 : a.tmps.getD 7 undef = .agg #[.int .i64 3, .int .i64 x1, .int .i64 x2, .string x3, .bool x4, .int .i64 x5] := hL.2.1; clear hL
      match vals, hv, hS with
      | [], _, hS =>
        have hS2 : SX w 2 ([.put 1 #[.int .i64 3, .int .i64 x1, .int .i64 x2, .string x3, .bool x4, .int .i64 x5], .put 0 #[.int .i64 3, .int .i64 y1, .int .i64 y2, .string y3, .bool y4, .int .i64 y5]] : List Stp) [] ([(w.heap.size + 1, 32, #[.int .i64 k', .int .i64 m', .int .i64 s', .string t', .bool b', .int .i64 e']), (w.heap.size, 32, #[.int .i64 k, .int .i64 m, .int .i64 s, .string t, .bool b, .int .i64 e])] : List (Nat × TypeId × Array Value)) W := hS; clear hS; have hB0 := hS2; have hB : SB w 2 ([(w.heap.size + 1, 32, #[.int .i64 k', .int .i64 m', .int .i64 s', .string t', .bool b', .int .i64 e']), (w.heap.size, 32, #[.int .i64 k, .int .i64 m, .int .i64 s, .string t, .bool b, .int .i64 e])] : List (Nat × TypeId × Array Value)) W := hB0; clear hB0; rw [Array.getD_eq_getD_getElem?] at e7; have kz := hB.box (i := 1) rfl; have z0 := kz.frozen 0; have q0 := kz.cell 0; have z1 := kz.frozen 1; have q1 := kz.cell 1; have z2 := kz.frozen 2; have q2 := kz.cell 2; have z3 := kz.frozen 3; have q3 := kz.cell 3; have z4 := kz.frozen 4; have q4 := kz.cell 4; have z5 := kz.frozen 5; have q5 := kz.cell 5; have hge : w.heap.size ≤ (w.heap.size) := by omega
        have hne : ∀ qx ∈ butBox ([(w.heap.size + 1, 32, #[.int .i64 k', .int .i64 m', .int .i64 s', .string t', .bool b', .int .i64 e']), (w.heap.size, 32, #[.int .i64 k, .int .i64 m, .int .i64 s, .string t, .bool b, .int .i64 e])] : List (Nat × TypeId × Array Value)) 1, qx.1 ≠ (w.heap.size) := by simp [butBox] <;> omega
        have hF := hB.put6 (i := 1) rfl hge hne (.int .i64 3 : Value) (.int .i64 x1 : Value) (.int .i64 x2 : Value) (.string x3 : Value) (.bool x4 : Value) (.int .i64 x5 : Value); clear kz hB hne hge; go_simp; exact ⟨hF, trivial, trivial⟩
    · skip
      intro a W vals hv hS hL hp; have e3 : a.tmps.getD 3 undef = .pointer (some ⟨w.heap.size + 1, 0, none⟩) := hL.1; have e10 : a.tmps.getD 10 undef = .agg #[.int .i64 3, .int .i64 y1, .int .i64 y2, .string y3, .bool y4, .int .i64 y5] := hL.2.1; clear hL
      match vals, hv, hS with
      | [v0], _, hS =>
        have hS2 : SX w 2 ([.put 1 #[.int .i64 3, .int .i64 x1, .int .i64 x2, .string x3, .bool x4, .int .i64 x5], .put 0 #[.int .i64 3, .int .i64 y1, .int .i64 y2, .string y3, .bool y4, .int .i64 y5]] : List Stp) [v0] ([(w.heap.size + 1, 32, #[.int .i64 k', .int .i64 m', .int .i64 s', .string t', .bool b', .int .i64 e']), (w.heap.size, 32, #[.int .i64 k, .int .i64 m, .int .i64 s, .string t, .bool b, .int .i64 e])] : List (Nat × TypeId × Array Value)) W := hS; clear hS; have hB0 := hS2; have hB : SB w 2 ([(w.heap.size + 1, 32, #[.int .i64 k', .int .i64 m', .int .i64 s', .string t', .bool b', .int .i64 e']), (w.heap.size, 32, #[.int .i64 3, .int .i64 x1, .int .i64 x2, .string x3, .bool x4, .int .i64 x5])] : List (Nat × TypeId × Array Value)) W := hB0; clear hB0; rw [Array.getD_eq_getD_getElem?] at e10; have kz := hB.box (i := 0) rfl; have z0 := kz.frozen 0; have q0 := kz.cell 0; have z1 := kz.frozen 1; have q1 := kz.cell 1; have z2 := kz.frozen 2; have q2 := kz.cell 2; have z3 := kz.frozen 3; have q3 := kz.cell 3; have z4 := kz.frozen 4; have q4 := kz.cell 4; have z5 := kz.frozen 5; have q5 := kz.cell 5; have hge : w.heap.size ≤ (w.heap.size + 1) := by omega
        have hne : ∀ qx ∈ butBox ([(w.heap.size + 1, 32, #[.int .i64 k', .int .i64 m', .int .i64 s', .string t', .bool b', .int .i64 e']), (w.heap.size, 32, #[.int .i64 3, .int .i64 x1, .int .i64 x2, .string x3, .bool x4, .int .i64 x5])] : List (Nat × TypeId × Array Value)) 0, qx.1 ≠ (w.heap.size + 1) := by simp [butBox] <;> omega
        have hF := hB.put6 (i := 0) rfl hge hne (.int .i64 3 : Value) (.int .i64 y1 : Value) (.int .i64 y2 : Value) (.string y3 : Value) (.bool y4 : Value) (.int .i64 y5 : Value); clear kz hB hne hge; go_simp; exact ⟨hF, trivial, trivial⟩
  · intro a W' vals hd hsz hT hF hv hP hS
    obtain ⟨v0, v1, rfl⟩ : ∃ v0 v1, vals = [v0, v1] := by
      match vals, hv with
      | [v0, v1], _ => exact ⟨v0, v1, rfl⟩
    have hS2 : SX w 2 ([.put 1 #[.int .i64 3, .int .i64 x1, .int .i64 x2, .string x3, .bool x4, .int .i64 x5], .put 0 #[.int .i64 3, .int .i64 y1, .int .i64 y2, .string y3, .bool y4, .int .i64 y5]] : List Stp) [v0, v1] ([(w.heap.size + 1, 32, #[.int .i64 k', .int .i64 m', .int .i64 s', .string t', .bool b', .int .i64 e']), (w.heap.size, 32, #[.int .i64 k, .int .i64 m, .int .i64 s, .string t, .bool b, .int .i64 e])] : List (Nat × TypeId × Array Value)) W' := hS; clear hS; have hB0 := hS2; have hB : SB w 2 ([(w.heap.size + 1, 32, #[.int .i64 3, .int .i64 y1, .int .i64 y2, .string y3, .bool y4, .int .i64 y5]), (w.heap.size, 32, #[.int .i64 3, .int .i64 x1, .int .i64 x2, .string x3, .bool x4, .int .i64 x5])] : List (Nat × TypeId × Array Value)) W' := hB0; clear hB0; have e2 : a.tmps.getD 2 undef = .pointer (some ⟨w.heap.size, 0, none⟩) := hT 2 (by simp); have e3 : a.tmps.getD 3 undef = .pointer (some ⟨w.heap.size + 1, 0, none⟩) := hT 3 (by simp); clear hT hF hP; rw [act_lit 53 a hd hsz]; simp only [List.range, List.range.loop, List.map, e2, e3]; clear hd hsz e2 e3; have ky := hB.box (i := 0) rfl; have cy0 := ky.cell 0; have cy1 := ky.cell 1; have cy2 := ky.cell 2; have cy3 := ky.cell 3; have cy4 := ky.cell 4; have cy5 := ky.cell 5; clear ky; have kx := hB.box (i := 1) rfl; have cx0 := kx.cell 0; have cx1 := kx.cell 1; have cx2 := kx.cell 2; have cx3 := kx.cell 3; have cx4 := kx.cell 4; have cx5 := kx.cell 5; clear kx; have HB2 := Lib.hid hB; clear hB HB HX HY
    go_wp2_with fail
    clear cx0 cx1 cx2 cx3 cx4 cx5 cy0 cy1 cy2 cy3 cy4 cy5
    refine wp_region_phases (S := (fun vals W => SX w 2 ([] : List Stp) vals ([(w.heap.size + 1, 32, #[.int .i64 3, .int .i64 y1, .int .i64 y2, .string y3, .bool y4, .int .i64 y5]), (w.heap.size, 32, #[.int .i64 3, .int .i64 x1, .int .i64 x2, .string x3, .bool x4, .int .i64 x5])] : List (Nat × TypeId × Array Value)) W)) (E := (fun _ _ => True)) [] [(2, Is (.pointer (some ⟨w.heap.size, 0, none⟩))), (3, Is (.pointer (some ⟨w.heap.size + 1, 0, none⟩)))] [(39, Is (.pointer (some ⟨w.heap.size, 4, none⟩))), (40, Is (.bool x4)), (41, Is (.int .i64 r1)), (42, Is (.pointer (some ⟨w.heap.size + 1, 4, none⟩))), (43, Is (.bool y4)), (44, Is (.int .i64 r2)), (45, Is (.int .i64 C)), (4, Is (.int .i64 C))]
      [.op [2] none, .op [39] none, .op [40] none, .op [3] none, .op [42] none, .op [43] none, .op [41, 44] none, .op [45] none] (by as_aux_lemma => kernel_rfl) ?_ ?_ ?_ ?_ ?_ ⟨stable_is _ _, stable_is _ _, stable_is _ _, stable_is _ _, stable_is _ _, stable_is _ _, stable_is _ _, stable_is _ _, stable_is _ _, stable_is _ _, trivial⟩ ?_ (HB2.out.drew) ?_ ?_
    · as_aux_lemma => kernel_rfl
    · as_aux_lemma => kernel_rfl
    · as_aux_lemma => kernel_rfl
    · as_aux_lemma => kernel_rfl
    · as_aux_lemma => kernel_rfl
    · exact ⟨rfl, rfl, trivial⟩
    · refine ⟨?_, ?_, ?_, ?_, ?_, ?_, ?_, ?_, trivial⟩
      · as_aux_lemma =>
          intro vals a W hS hL; have e2 : a.tmps.getD 2 undef = .pointer (some ⟨w.heap.size, 0, none⟩) := hL.1; clear hL; go_simp; exact ⟨⟨fun d hd => by injection hd with hd; subst hd; rfl, fun h => by cases h⟩, hS, trivial⟩
      · as_aux_lemma =>
          intro vals a W hS hL; have e39 : a.tmps.getD 39 undef = .pointer (some ⟨w.heap.size, 4, none⟩) := hL.1; clear hL; have kb : Bk W (w.heap.size) 32 #[.int .i64 3, .int .i64 x1, .int .i64 x2, .string x3, .bool x4, .int .i64 x5] := hS.bk 1 rfl rfl; have f4 := kb.cell 4; clear kb; go_simp; exact ⟨⟨fun d hd => by injection hd with hd; subst hd; rfl, fun h => by cases h⟩, hS, trivial⟩
      · as_aux_lemma =>
          intro vals a W hS hL; have e40 : a.tmps.getD 40 undef = .bool x4 := hL.1; clear hL; go_simp; refine (H1.out W).mono ?_; rintro e W' ⟨rfl, rfl⟩; exact ⟨_, rfl, ⟨fun d hd => by injection hd with hd; subst hd; rfl, fun h => by cases h⟩, hS, trivial⟩
      · as_aux_lemma =>
          intro vals a W hS hL; have e3 : a.tmps.getD 3 undef = .pointer (some ⟨w.heap.size + 1, 0, none⟩) := hL.1; clear hL; go_simp; exact ⟨⟨fun d hd => by injection hd with hd; subst hd; rfl, fun h => by cases h⟩, hS, trivial⟩
      · as_aux_lemma =>
          intro vals a W hS hL; have e42 : a.tmps.getD 42 undef = .pointer (some ⟨w.heap.size + 1, 4, none⟩) := hL.1; clear hL; have kb : Bk W (w.heap.size + 1) 32 #[.int .i64 3, .int .i64 y1, .int .i64 y2, .string y3, .bool y4, .int .i64 y5] := hS.bk 0 rfl rfl; have f4 := kb.cell 4; clear kb; go_simp; exact ⟨⟨fun d hd => by injection hd with hd; subst hd; rfl, fun h => by cases h⟩, hS, trivial⟩
      · as_aux_lemma =>
          intro vals a W hS hL; have e43 : a.tmps.getD 43 undef = .bool y4 := hL.1; clear hL; go_simp; refine (H2.out W).mono ?_; rintro e W' ⟨rfl, rfl⟩; exact ⟨_, rfl, ⟨fun d hd => by injection hd with hd; subst hd; rfl, fun h => by cases h⟩, hS, trivial⟩
      · as_aux_lemma =>
          intro vals a W hS hL; have e41 : a.tmps.getD 41 undef = .int .i64 r1 := hL.1; have e44 : a.tmps.getD 44 undef = .int .i64 r2 := hL.2.1; clear hL; go_simp; refine (HC.out W).mono ?_; rintro e W' ⟨rfl, rfl⟩; exact ⟨_, rfl, ⟨fun d hd => by injection hd with hd; subst hd; rfl, fun h => by cases h⟩, hS, trivial⟩
      · as_aux_lemma =>
          intro vals a W hS hL; have e45 : a.tmps.getD 45 undef = .int .i64 C := hL.1; clear hL; go_simp; exact ⟨⟨fun d hd => by injection hd with hd; subst hd; rfl, fun h => by cases h⟩, hS, trivial⟩
    · intro a W' vals hd hsz hT hF hv hP hS; obtain rfl : vals = [] := List.eq_nil_of_length_eq_zero hv; have hS2 : SX w 2 ([] : List Stp) [] ([(w.heap.size + 1, 32, #[.int .i64 3, .int .i64 y1, .int .i64 y2, .string y3, .bool y4, .int .i64 y5]), (w.heap.size, 32, #[.int .i64 3, .int .i64 x1, .int .i64 x2, .string x3, .bool x4, .int .i64 x5])] : List (Nat × TypeId × Array Value)) W' := hS; clear hS; have hB0 := hS2; have hB : SB w 2 ([(w.heap.size + 1, 32, #[.int .i64 3, .int .i64 y1, .int .i64 y2, .string y3, .bool y4, .int .i64 y5]), (w.heap.size, 32, #[.int .i64 3, .int .i64 x1, .int .i64 x2, .string x3, .bool x4, .int .i64 x5])] : List (Nat × TypeId × Array Value)) W' := hB0; clear hB0; have e4 : a.tmps.getD 4 undef = .int .i64 C := hT 4 (by simp); clear hT hF hP; go_wp2; refine bodyPost_ret (v := .int .i64 C) ?_ hd ⟨rfl, hB.bel⟩; rw [Array.getD_eq_getD_getElem?] at e4; simp [results, Tryz.results27, go_sem, e4]
end Go.Proofs.YtngkolcpbgibcaaGreatDoor
namespace Go.Proofs.YtngkolcpbgibcaaGreatDoor
open Go.RowKit
def xval : VX → Value
  | .blank => .agg #[.int .i64 0, .int .i64 0, .int .i64 0, .string ⟨#[]⟩, .bool false, .int .i64 0]
  | .num m s => .agg #[.int .i64 1, .int .i64 m, .int .i64 (s : Nat), .string ⟨#[]⟩, .bool false, .int .i64 0]
  | .str t => .agg #[.int .i64 2, .int .i64 0, .int .i64 0, .string ⟨t.toArray⟩, .bool false, .int .i64 0]
  | .bool b => .agg #[.int .i64 3, .int .i64 0, .int .i64 0, .string ⟨#[]⟩, .bool b, .int .i64 0]
  | .err e => .agg #[.int .i64 4, .int .i64 0, .int .i64 0, .string ⟨#[]⟩, .bool false, .int .i64 e]
def shortX (n : Nat) : VX → Prop
  | .str t => t.length ≤ n
  | _ => True
theorem cmpx_any {w : World} {a b : VX} (ha : OkX a) (hb : OkX b) (sa : shortX 10000000 a) (sb : shortX 10000000 b) :
    Calls Tryz.prog 27 #[xval a, xval b] w fun x w' => x = .returned (.int .i64 (cmpX a b)) ∧ Below w.heap.size w w' := by
  have bs : ∀ l : List UInt8, (⟨l.toArray⟩ : ByteArray).size = l.length := fun l => by simp [ByteArray.size]
  cases a with
  | blank =>
    cases b with
    | blank =>
      exact compare_blank (fun W => filled_blank 0 _ _ _ _ _ (by decide)) (fun W => filled_blank 0 _ _ _ _ _ (by decide))
    | num m2 s2 =>
      exact compare_num (fun W => filled_blank 1 _ _ _ _ _ (by decide)) (fun W => filled_non 1 _ _ _ _ _ _ _ _ _ _ _ (by decide)) (fun W => compare_any (w := W) (show Gd 0 0 from ⟨by decide, by decide, by decide, .inl rfl⟩) hb)
    | str t2 =>
      exact compare_str (fun W => filled_blank 2 _ _ _ _ _ (by decide)) (fun W => filled_non 2 _ _ _ _ _ _ _ _ _ _ _ (by decide)) (fun W => compareTexts_any (w := W) ⟨(([] : List UInt8)).toArray⟩ ⟨(t2).toArray⟩ (by decide) (by rw [bs]; have : t2.length ≤ 10000000 := sb; omega))
    | bool b2 =>
      exact compare_bool (fun W => filled_blank 3 _ _ _ _ _ (by decide)) (fun W => filled_non 3 _ _ _ _ _ _ _ _ _ _ _ (by decide))
    | err e2 =>
      exact compare_kinds (fun W => filled_err _ _ _ _ _) (fun W => filled_non 4 _ _ _ _ _ _ _ _ _ _ _ (by decide)) (by decide)
  | num m1 s1 =>
    cases b with
    | blank =>
      exact compare_num (fun W => filled_non 1 _ _ _ _ _ _ _ _ _ _ _ (by decide)) (fun W => filled_blank 1 _ _ _ _ _ (by decide)) (fun W => compare_any (w := W) ha (show Gd 0 0 from ⟨by decide, by decide, by decide, .inl rfl⟩))
    | num m2 s2 =>
      exact compare_num (fun W => filled_non 1 _ _ _ _ _ _ _ _ _ _ _ (by decide)) (fun W => filled_non 1 _ _ _ _ _ _ _ _ _ _ _ (by decide)) (fun W => compare_any (w := W) ha hb)
    | str t2 =>
      exact compare_kinds (fun W => filled_non 1 _ _ _ _ _ _ _ _ _ _ _ (by decide)) (fun W => filled_non 2 _ _ _ _ _ _ _ _ _ _ _ (by decide)) (by decide)
    | bool b2 =>
      exact compare_kinds (fun W => filled_non 1 _ _ _ _ _ _ _ _ _ _ _ (by decide)) (fun W => filled_non 3 _ _ _ _ _ _ _ _ _ _ _ (by decide)) (by decide)
    | err e2 =>
      exact compare_kinds (fun W => filled_non 1 _ _ _ _ _ _ _ _ _ _ _ (by decide)) (fun W => filled_non 4 _ _ _ _ _ _ _ _ _ _ _ (by decide)) (by decide)
  | str t1 =>
    cases b with
    | blank =>
      exact compare_str (fun W => filled_non 2 _ _ _ _ _ _ _ _ _ _ _ (by decide)) (fun W => filled_blank 2 _ _ _ _ _ (by decide)) (fun W => compareTexts_any (w := W) ⟨(t1).toArray⟩ ⟨(([] : List UInt8)).toArray⟩ (by rw [bs]; have : t1.length ≤ 10000000 := sa; omega) (by decide))
    | num m2 s2 =>
      exact compare_kinds (fun W => filled_non 2 _ _ _ _ _ _ _ _ _ _ _ (by decide)) (fun W => filled_non 1 _ _ _ _ _ _ _ _ _ _ _ (by decide)) (by decide)
    | str t2 =>
      exact compare_str (fun W => filled_non 2 _ _ _ _ _ _ _ _ _ _ _ (by decide)) (fun W => filled_non 2 _ _ _ _ _ _ _ _ _ _ _ (by decide)) (fun W => compareTexts_any (w := W) ⟨(t1).toArray⟩ ⟨(t2).toArray⟩ (by rw [bs]; have : t1.length ≤ 10000000 := sa; omega) (by rw [bs]; have : t2.length ≤ 10000000 := sb; omega))
    | bool b2 =>
      exact compare_kinds (fun W => filled_non 2 _ _ _ _ _ _ _ _ _ _ _ (by decide)) (fun W => filled_non 3 _ _ _ _ _ _ _ _ _ _ _ (by decide)) (by decide)
    | err e2 =>
      exact compare_kinds (fun W => filled_non 2 _ _ _ _ _ _ _ _ _ _ _ (by decide)) (fun W => filled_non 4 _ _ _ _ _ _ _ _ _ _ _ (by decide)) (by decide)
  | bool b1 =>
    cases b with
    | blank =>
      exact compare_bool (fun W => filled_non 3 _ _ _ _ _ _ _ _ _ _ _ (by decide)) (fun W => filled_blank 3 _ _ _ _ _ (by decide))
    | num m2 s2 =>
      exact compare_kinds (fun W => filled_non 3 _ _ _ _ _ _ _ _ _ _ _ (by decide)) (fun W => filled_non 1 _ _ _ _ _ _ _ _ _ _ _ (by decide)) (by decide)
    | str t2 =>
      exact compare_kinds (fun W => filled_non 3 _ _ _ _ _ _ _ _ _ _ _ (by decide)) (fun W => filled_non 2 _ _ _ _ _ _ _ _ _ _ _ (by decide)) (by decide)
    | bool b2 =>
      exact compare_bool (fun W => filled_non 3 _ _ _ _ _ _ _ _ _ _ _ (by decide)) (fun W => filled_non 3 _ _ _ _ _ _ _ _ _ _ _ (by decide))
    | err e2 =>
      exact compare_kinds (fun W => filled_non 3 _ _ _ _ _ _ _ _ _ _ _ (by decide)) (fun W => filled_non 4 _ _ _ _ _ _ _ _ _ _ _ (by decide)) (by decide)
  | err e1 =>
    cases b with
    | blank =>
      exact compare_kinds (fun W => filled_non 4 _ _ _ _ _ _ _ _ _ _ _ (by decide)) (fun W => filled_err _ _ _ _ _) (by decide)
    | num m2 s2 =>
      exact compare_kinds (fun W => filled_non 4 _ _ _ _ _ _ _ _ _ _ _ (by decide)) (fun W => filled_non 1 _ _ _ _ _ _ _ _ _ _ _ (by decide)) (by decide)
    | str t2 =>
      exact compare_kinds (fun W => filled_non 4 _ _ _ _ _ _ _ _ _ _ _ (by decide)) (fun W => filled_non 2 _ _ _ _ _ _ _ _ _ _ _ (by decide)) (by decide)
    | bool b2 =>
      exact compare_kinds (fun W => filled_non 4 _ _ _ _ _ _ _ _ _ _ _ (by decide)) (fun W => filled_non 3 _ _ _ _ _ _ _ _ _ _ _ (by decide)) (by decide)
    | err e2 =>
      exact compare_err (fun W => filled_non 4 _ _ _ _ _ _ _ _ _ _ _ (by decide)) (fun W => filled_non 4 _ _ _ _ _ _ _ _ _ _ _ (by decide))
theorem toList_inj {s t : ByteArray} (h : s.toList = t.toList) : s = t := by
  rw [ByteArray.toList_eq, ByteArray.toList_eq] at h; exact ByteArray.ext (Array.toList_inj.1 h)
end Go.Proofs.YtngkolcpbgibcaaGreatDoor
namespace Go.Proofs.YtngkolcpbgibcaaGreatDoor
open Go.RowKit
def vc : VX → List Value
  | .blank => [.int .i64 0, .int .i64 0, .int .i64 0, .string ⟨#[]⟩, .bool false, .int .i64 0]
  | .num m s => [.int .i64 1, .int .i64 m, .int .i64 (s : Nat), .string ⟨#[]⟩, .bool false, .int .i64 0]
  | .str t => [.int .i64 2, .int .i64 0, .int .i64 0, .string ⟨t.toArray⟩, .bool false, .int .i64 0]
  | .bool b => [.int .i64 3, .int .i64 0, .int .i64 0, .string ⟨#[]⟩, .bool b, .int .i64 0]
  | .err e => [.int .i64 4, .int .i64 0, .int .i64 0, .string ⟨#[]⟩, .bool false, .int .i64 e]
theorem xval_vc (x : VX) : xval x = .agg (vc x).toArray := by cases x <;> rfl
theorem vc_len (x : VX) : (vc x).length = 6 := by cases x <;> rfl
theorem vc_kind (x : VX) : (vc x)[0]? = some (.int .i64 x.kind) := by cases x <;> rfl
theorem vc_one (x : VX) : ∀ u ∈ vc x, u.oneCell' = true := by
  cases x <;> intro u hu <;> simp only [vc, List.mem_cons, List.not_mem_nil, or_false] at hu <;> rcases hu with rfl | rfl | rfl | rfl | rfl | rfl <;> rfl
inductive NR where
  | ok (m : Int) (s : Nat)
  | no (x : VX)
def numX : VX → NR
  | .blank => .ok 0 0
  | .num m s => .ok m s
  | .str t => if (pD t).e = 0 then .ok (pD t).m (pD t).s else .no (.err 15)
  | .bool b => .ok (rk b) 0
  | .err e => .no (.err e)
def numV : NR → Value
  | .ok m s => .tuple #[.agg #[.int .i64 m, .int .i64 (s : Nat)], (.agg (vc .blank).toArray), .bool true]
  | .no x => .tuple #[.agg #[.int .i64 0, .int .i64 0], (.agg (vc x).toArray), .bool false]
inductive WR where
  | ok (l : List UInt8)
  | no (x : VX)
def wrdX : VX → WR
  | .blank => .ok []
  | .num m s => .ok (decTx m s)
  | .str t => .ok t
  | .bool b => .ok (trL b)
  | .err e => .no (.err e)
def wrdV : WR → Value
  | .ok l => .tuple #[sL l, (.agg (vc .blank).toArray), .bool true]
  | .no x => .tuple #[.string ⟨#[]⟩, (.agg (vc x).toArray), .bool false]
inductive TR where
  | ok (b : Bool)
  | no (x : VX)
def truX : VX → TR
  | .blank => .ok false
  | .num m _ => .ok (decide (m ≠ 0))
  | .str t => if t = yesL then .ok true else if t = noL then .ok false else .no (.err 15)
  | .bool b => .ok b
  | .err e => .no (.err e)
def truV : TR → Value
  | .ok b => .tuple #[.bool b, (.agg (vc .blank).toArray), .bool true]
  | .no x => .tuple #[.bool false, (.agg (vc x).toArray), .bool false]
def reckX (r : DR) : VX := if r.e = 0 then .num r.m r.s else if r.e = 9 then .err 7 else .err 36
def textX (l : List UInt8) : VX := if uE l = 0 then .str l else .err 15
theorem number_x {w : World} {x : VX} (hs : shortX 100000000 x) :
    Calls Tryz.prog 109 #[.agg (vc x).toArray] w fun e W => e = .returned (numV (numX x)) ∧ Below w.heap.size w W := by
  cases x with
  | blank => exact number_blank
  | num m s => exact number_num m s
  | str t =>
    have hl : t.length ≤ 100000000 := hs; have HP : ∀ W : World, ParseTo ⟨t.toArray⟩ W (pD t) := fun W => parse_l t hl
    by_cases h : (pD t).e = 0
    · rw [show numX (.str t) = .ok (pD t).m (pD t).s from if_pos h]; refine number_str (m := (pD t).m) (s := (pD t).s) fun W => ?_; have := HP W; unfold ParseTo at this; rw [dv_parts, h] at this; exact this
    · rw [show numX (.str t) = .no (.err 15) from if_neg h]; refine number_none (m := (pD t).m) (s := (pD t).s) (e := (pD t).e) (by omega) fun W => ?_; have := HP W; unfold ParseTo at this; rw [dv_parts] at this; exact this
  | bool b => exact number_bool b
  | err e => exact number_err e
theorem words_x {w : World} (HT : Tens w) {x : VX} (ho : OkX x) :
    Calls Tryz.prog 111 #[.agg (vc x).toArray] w fun e W => e = .returned (wrdV (wrdX x)) ∧ Below w.heap.size w W := by
  cases x with
  | blank => exact words_blank
  | num m s => exact words_num HT ho
  | str t => exact words_str _
  | bool b => exact words_bool b
  | err e => exact words_err e
theorem truth_x {w : World} {x : VX} :
    Calls Tryz.prog 110 #[.agg (vc x).toArray] w fun e W => e = .returned (truV (truX x)) ∧ Below w.heap.size w W := by
  cases x with
  | blank => exact truth_blank
  | num m s =>
    by_cases h : m = 0
    · subst h; exact truth_num0 _
    · have : truX (.num m s) = .ok true := by simp [truX, h]
      rw [this]; exact truth_numn m _ h
  | str t =>
    have hb : (⟨t.toArray⟩ : ByteArray).toList = t := by rw [ByteArray.toList_eq]
    by_cases h1 : t = yesL
    · rw [show truX (.str t) = .ok true from if_pos h1]; subst h1; exact truth_yes
    · by_cases h2 : t = noL
      · rw [show truX (.str t) = .ok false from (if_neg h1).trans (if_pos h2)]; subst h2; exact truth_no
      · rw [show truX (.str t) = .no (.err 15) from (if_neg h1).trans (if_neg h2)]; exact truth_none _ (by rw [hb, beq_eq_false_iff_ne]; exact h1) (by rw [hb, beq_eq_false_iff_ne]; exact h2)
  | bool b => exact truth_bool b
  | err e => exact truth_err e
end Go.Proofs.YtngkolcpbgibcaaGreatDoor
namespace Go.Proofs.YtngkolcpbgibcaaGreatDoor
open Go.RowKit
abbrev Bxs := List (Nat × TypeId × List Value)
structure BX (w : World) (bs : Bxs) (W : World) : Prop where
  bel : Below w.heap.size w W
  lo : ∀ b ∈ bs, w.heap.size ≤ b.1
  bk : ∀ b ∈ bs, Bk W b.1 b.2.1 b.2.2.toArray
  nd : (bs.map (·.1)).Nodup
section
variable {w W W' : World} {bs : Bxs} {g i : Nat} {ty : TypeId} {cs vs : List Value}
theorem BX.start (w : World) : BX w [] w := ⟨Below.refl _ _, by simp, by simp, by simp⟩
theorem BX.call (h : BX w bs W) (hb : Below W.heap.size W W') : BX w bs W' := ⟨h.bel.trans (hb.mono h.bel.size), h.lo, fun b hm => (h.bk b hm).below hb (h.bk b hm).lt, h.nd⟩
theorem BX.drew (h : BX w bs W) : BX w bs W.drew := ⟨h.bel.drew, h.lo, h.bk, h.nd⟩
theorem BX.made (h : BX w bs W) (ty : TypeId) (cs : List Value) : BX w ((W.heap.size, ty, cs) :: bs) (W.alloc (.cells cs.toArray ty)) := by
  refine ⟨h.bel.alloc h.bel.size _, fun b hb => ?_, fun b hb => ?_, ?_⟩
  · rcases List.mem_cons.1 hb with rfl | hb
    · exact h.bel.size
    · exact h.lo b hb
  · rcases List.mem_cons.1 hb with rfl | hb
    · exact Bk.new W ty cs.toArray
    · exact (h.bk b hb).alloc _
  · rw [List.map_cons, List.nodup_cons]; refine ⟨fun hm => ?_, h.nd⟩; obtain ⟨b, hb, e⟩ := List.mem_map.1 hm; have := (h.bk b hb).lt; omega
theorem BX.other (h : BX w bs W) (o : Obj) : BX w bs (W.alloc o) := h.call (bel0 W o)
theorem BX.get (h : BX w bs W) (hi : bs[i]? = some (g, ty, cs)) : Bk W g ty cs.toArray := h.bk _ (List.mem_of_getElem? hi)
theorem BX.cell (h : BX w bs W) (hi : bs[i]? = some (g, ty, cs)) (k : Nat) : W.cell? ⟨g, k, none⟩ = cs[k]? := by rw [(h.get hi).cell]; simp
theorem BX.frozen (h : BX w bs W) (hi : bs[i]? = some (g, ty, cs)) (k : Nat) : W.frozen? ⟨g, k, none⟩ = false := (h.get hi).frozen k
theorem BX.turn (h : BX w bs W) (hi : bs[i]? = some (g, ty, cs)) (hk : Bk W' g ty vs.toArray) (hK : Keep (fun j => j = g) W W') : BX w (bs.set i (g, ty, vs)) W' := by
  have hg := h.lo _ (List.mem_of_getElem? hi)
  have hmap : (bs.set i (g, ty, vs)).map (·.1) = bs.map (·.1) := by
    rw [List.map_set]; apply List.ext_getElem?; intro j; rw [List.getElem?_set, List.getElem?_map]
    split
    · subst_vars; rw [List.length_map, if_pos (List.getElem?_eq_some_iff.1 hi).1, hi]; rfl
    · rfl
  refine ⟨h.bel.trans (hK.below (B := w.heap.size) h.bel.size fun j hj e => by have : w.heap.size ≤ g := hg; omega), fun b hb => ?_, fun b hb => ?_, by rw [hmap]; exact h.nd⟩
  · rcases List.mem_or_eq_of_mem_set hb with hb | rfl
    · exact h.lo b hb
    · exact hg
  · obtain ⟨j, hj⟩ := List.getElem?_of_mem hb; rw [List.getElem?_set] at hj
    split at hj
    · split at hj
      · injection hj with hj; subst hj; exact hk
      · cases hj
    · rename_i hne
      refine hK.bk (h.bk b (List.mem_of_getElem? hj)) fun e => ?_; have h1 : (bs.map (·.1))[i]? = some g := by rw [List.getElem?_map, hi]; rfl
      have h2 : (bs.map (·.1))[j]? = some g := by rw [List.getElem?_map, hj, ← e]; rfl
      obtain ⟨l1, e1⟩ := List.getElem?_eq_some_iff.1 h1; obtain ⟨l2, e2⟩ := List.getElem?_eq_some_iff.1 h2; exact hne ((List.getElem_inj h.nd).1 (e1.trans e2.symm))
theorem BX.some_ {bs' : Bxs} (h : BX w bs W) (hs : bs'.Sublist bs) : BX w bs' W := ⟨h.bel, fun b hb => h.lo b (hs.subset hb), fun b hb => h.bk b (hs.subset hb), h.nd.sublist (hs.map _)⟩
end
theorem set_list {l m : List Value} {o : Nat} {v : Value} (h : o < l.length) : (l.set o v).take (o + 1) ++ m = l.take o ++ v :: m := by
  rw [List.take_set, List.take_succ_eq_append_getElem h, List.set_append_right _ _ (by rw [List.length_take]; omega)]; simp [Nat.min_eq_left (Nat.le_of_lt h)]
theorem setCells_size {g : Nat} : ∀ (l : List Value) (o : Nat) (W : World), (W.setCells g o l).heap.size = W.heap.size
  | [], _, _ => rfl
  | v :: l, o, W => by
    rw [World.setCells, setCells_size l (o + 1)]; simp [World.setCell]
theorem load_any {P : Program} (w : World) (q : Addr) (ty : TypeId) (cs : List Value) (d : TypeDesc) (hc : ∀ (j : Nat) (u : Value), cs[j]? = some u → w.cell? (q.add j) = some u)
    (hu : P.underlying ty = some d) (hd : d.isRow = true) (hi : (P.info? ty).map (·.size) = some cs.length) : (loadVar ty q).run P w = .ok (.agg cs.toArray) w := by
  have hl : (loadCells q cs.length).run P w = .ok cs.toArray w := run_loadCells_list (P := P) w q cs hc
  cases hq : P.info? ty with
  | none => simp [hq] at hi
  | some i =>
    have hs : i.size = cs.length := by simpa [hq] using hi
    have hagg : (isAgg ty).run P w = .ok true w := by
      unfold isAgg; rw [Sem.run_bind, run_underlying hu w]
      cases d <;> simp_all
    simp [loadVar, Sem.run_bind, hagg, sizeOf, typeInfo, hq, hs, hl]
theorem setCells_bk {g : Nat} {t : TypeId} : ∀ (l : List Value) (o : Nat) (cs : List Value) (W : World), Bk W g t cs.toArray → o + l.length ≤ cs.length → Bk (W.setCells g o l) g t (cs.take o ++ l ++ cs.drop (o + l.length)).toArray
  | [], o, cs, W, h, _ => by simpa [World.setCells] using h
  | v :: l, o, cs, W, h, hl => by
    simp only [List.length_cons] at hl; have h1 := h.set_ o v; rw [List.setIfInBounds_toArray] at h1; have h2 := setCells_bk l (o + 1) (cs.set o v) _ h1 (by rw [List.length_set]; omega); rw [World.setCells]
    have e : (cs.set o v).take (o + 1) ++ l ++ (cs.set o v).drop (o + 1 + l.length) = cs.take o ++ v :: l ++ cs.drop (o + (v :: l).length) := by
      rw [set_list (by omega), List.drop_set_of_lt (by omega), List.length_cons, show o + 1 + l.length = o + (l.length + 1) by omega]
    rw [e] at h2; exact h2
theorem setCells_keep {g : Nat} : ∀ (l : List Value) (o : Nat) (W : World), Keep (fun i => i = g) W (W.setCells g o l)
  | [], _, W => Keep.refl _ _
  | v :: l, o, W => by
    rw [World.setCells]; exact ((Keep.refl (fun i => i = g) W).setCell (p := ⟨g, o, none⟩) (fun _ => rfl) v).trans (setCells_keep l (o + 1) _) fun _ _ h => h
structure RowT (ty : TypeId) (n : Nat) : Prop where
  und : ∃ d, Tryz.prog.underlying ty = some d ∧ d.isRow = true
  size : (Tryz.prog.info? ty).map (·.size) = some n
theorem rtVal : RowT 32 6 := ⟨⟨_, Tryz.underlying32, rfl⟩, by kernel_rfl⟩
theorem rtDec : RowT 30 2 := ⟨⟨_, Tryz.underlying30, rfl⟩, by kernel_rfl⟩
theorem rtArg : RowT 55 2 := ⟨⟨_, Tryz.underlying55, rfl⟩, by kernel_rfl⟩
section
variable {o : Oper} {a : Act} {w W : World} {K : Act → World → Prop} {Q : Exit → Act → World → Prop} {bs : Bxs} {g i : Nat} {ty : TypeId} {cs vs : List Value}
theorem ldm_g (T : RowT ty cs.length) (x : Operand) {q : Addr} (ho : o.op = .load ty x) (hx : a.eval x = .pointer (some q)) (hb : ∀ (j : Nat) (u : Value), cs[j]? = some u → W.cell? (q.add j) = some u) (h : K (a.put o.dst (.agg cs.toArray)) W) : o.wp Tryz.prog a W K Q := by
  obtain ⟨d, hu, hd⟩ := T.und; unfold Oper.wp execOp; simp only [ho, hx, Instr.loadAt, Instr.sureAddr, Sem.run_bind, Sem.run_pure, Result.andThen_ok, load_any W q _ cs _ hb hu hd T.size]; exact h
theorem ld_g (T : RowT ty cs.length) (H : Hid (BX w bs W)) (hi : bs[i]? = some (g, ty, cs)) (x : Operand) (ho : o.op = .load ty x) (hx : a.eval x = .pointer (some ⟨g, 0, none⟩)) (h : K (a.put o.dst (.agg cs.toArray)) W) : o.wp Tryz.prog a W K Q :=
  ldm_g T x ho hx (fun j u hu => by
    have e : (⟨g, 0, none⟩ : Addr).add j = ⟨g, j, none⟩ := by unfold Addr.add; split <;> simp_all
    rw [e, H.out.cell hi]; exact hu) h
theorem st_g (T : RowT ty vs.length) (h1 : ∀ u ∈ vs, u.oneCell' = true) (H : Hid (BX w bs W)) (hi : bs[i]? = some (g, ty, cs)) (hl : cs.length = vs.length) (x y : Operand) (ho : o.op = .store ty x y) (hx : a.eval x = .pointer (some ⟨g, 0, none⟩)) (hy : a.eval y = .agg vs.toArray)
    (h : ∀ W', Hid (BX w (bs.set i (g, ty, vs)) W') → K (a.put o.dst undef) W') : o.wp Tryz.prog a W K Q := by
  have hb := H.out.get hi; refine wp_store_mid _ x y ho g 0 vs.toArray hx hy (fun j hj => ?_) (by rw [List.size_toArray]; exact T.size) (all_oneCell_toArray h1) ?_
  · rw [List.size_toArray] at hj; rw [Nat.zero_add, hb.cell, hb.frozen]; exact ⟨by simp; omega, rfl⟩
  · have h2 := setCells_bk vs 0 cs W hb (by omega); have e : cs.take 0 ++ vs ++ cs.drop (0 + vs.length) = vs := by simp [List.drop_eq_nil_of_le (Nat.le_of_eq hl)]
    rw [e] at h2; exact h _ (Lib.hid (H.out.turn hi h2 (setCells_keep _ _ _)))
theorem stop_st (x y : Operand) (ho : o.op = .store ty x y) (h : Hid (o.wp Tryz.prog a W K Q)) : o.wp Tryz.prog a W K Q := h.out
theorem stop_ld (x : Operand) (ho : o.op = .load ty x) (h : Hid (o.wp Tryz.prog a W K Q)) : o.wp Tryz.prog a W K Q := h.out
theorem stop_al (ho : o.op = .alloc ty) (h : Hid (o.wp Tryz.prog a W K Q)) : o.wp Tryz.prog a W K Q := h.out
theorem is_ld (ty : TypeId) (x : Operand) (ho : o.op = .load ty x) (h : o.wp Tryz.prog a W K Q) : o.wp Tryz.prog a W K Q := h
theorem is_st (ty : TypeId) (x y : Operand) (ho : o.op = .store ty x y) (h : o.wp Tryz.prog a W K Q) : o.wp Tryz.prog a W K Q := h
theorem is_al (ty : TypeId) (ho : o.op = .alloc ty) (h : o.wp Tryz.prog a W K Q) : o.wp Tryz.prog a W K Q := h
theorem is_bx (ty : TypeId) (x : Operand) (ho : o.op = .box ty x) (h : o.wp Tryz.prog a W K Q) : o.wp Tryz.prog a W K Q := h
theorem stop_bd {ps : Array (Nat × Operand)} (ho : o.op = .build ty ps) (h : Hid (o.wp Tryz.prog a W K Q)) : o.wp Tryz.prog a W K Q := h.out
theorem stop_bs {n : Nat} {ps : Array (Nat × Operand)} (ho : o.op = .buildSlice ty n ps) (h : Hid (o.wp Tryz.prog a W K Q)) : o.wp Tryz.prog a W K Q := h.out
theorem wp_b {v : Value} (hr : (execOp a.eval o).run Tryz.prog W = .ok (.value v) W) (h : K (a.put o.dst v) W) : o.wp Tryz.prog a W K Q := by
  unfold Oper.wp; rw [hr]; exact h
end
def dc (m : Int) (s : Int) : List Value := [.int .i64 m, .int .i64 s]
theorem dc_one (m s : Int) : ∀ u ∈ dc m s, u.oneCell' = true := by
  intro u hu; simp only [dc, List.mem_cons, List.not_mem_nil, or_false] at hu
  rcases hu with rfl | rfl <;> rfl
section
variable {o : Oper} {a : Act} {w W : World} {K : Act → World → Prop} {Q : Exit → Act → World → Prop} {bs : Bxs} {g i : Nat} {cs : List Value} {v : VX} {m s : Int}
theorem ld_v (i : Nat) (H : Hid (BX w bs W)) (hi : bs[i]? = some (g, 32, vc v)) (x : Operand) (ho : o.op = .load 32 x) (hx : a.eval x = .pointer (some ⟨g, 0, none⟩)) (h : K (a.put o.dst (.agg (vc v).toArray)) W) : o.wp Tryz.prog a W K Q :=
  ld_g (by rw [vc_len]; exact rtVal) H hi x ho hx h
theorem ld_d (i : Nat) (H : Hid (BX w bs W)) (hi : bs[i]? = some (g, 30, dc m s)) (x : Operand) (ho : o.op = .load 30 x) (hx : a.eval x = .pointer (some ⟨g, 0, none⟩)) (h : K (a.put o.dst (.agg (dc m s).toArray)) W) : o.wp Tryz.prog a W K Q :=
  ld_g rtDec H hi x ho hx h
theorem st_v (i : Nat) (H : Hid (BX w bs W)) {v0 : VX} (hi : bs[i]? = some (g, 32, vc v0)) (x y : Operand) (ho : o.op = .store 32 x y) (hx : a.eval x = .pointer (some ⟨g, 0, none⟩)) (hy : a.eval y = .agg (vc v).toArray)
    (h : ∀ W', Hid (BX w (bs.set i (g, 32, vc v)) W') → K (a.put o.dst undef) W') : o.wp Tryz.prog a W K Q :=
  st_g (by rw [vc_len]; exact rtVal) (vc_one v) H hi (by rw [vc_len, vc_len]) x y ho hx hy h
theorem st_d (i : Nat) (H : Hid (BX w bs W)) {m0 s0 : Int} (hi : bs[i]? = some (g, 30, dc m0 s0)) (x y : Operand) (ho : o.op = .store 30 x y) (hx : a.eval x = .pointer (some ⟨g, 0, none⟩)) (hy : a.eval y = .agg (dc m s).toArray)
    (h : ∀ W', Hid (BX w (bs.set i (g, 30, dc m s)) W') → K (a.put o.dst undef) W') : o.wp Tryz.prog a W K Q :=
  st_g rtDec (dc_one m s) H hi rfl x y ho hx hy h
theorem al_v (H : Hid (BX w bs W)) (ho : o.op = .alloc 32) (h : ∀ g W', Hid (BX w ((g, 32, vc .blank) :: bs) W') → K (a.put o.dst (.pointer (some ⟨g, 0, none⟩))) W') : o.wp Tryz.prog a W K Q := by
  have hm := H.out.made 32 (vc .blank); unfold Oper.wp execOp; rw [ho]; simp only [vc] at hm h; go_simp; exact h _ _ (Lib.hid hm)
theorem al_d (H : Hid (BX w bs W)) (ho : o.op = .alloc 30) (h : ∀ g W', Hid (BX w ((g, 30, dc 0 0) :: bs) W') → K (a.put o.dst (.pointer (some ⟨g, 0, none⟩))) W') : o.wp Tryz.prog a W K Q := by
  have hm := H.out.made 30 (dc 0 0); unfold Oper.wp execOp; rw [ho]; simp only [dc] at hm h; go_simp; exact h _ _ (Lib.hid hm)
theorem bx_v (H : Hid (BX w bs W)) (x : Operand) (ho : o.op = .box 32 x) (hx : a.eval x = .agg (vc v).toArray) (h : ∀ g W', Hid (BX w ((g, 32, vc v) :: bs) W') → K (a.put o.dst (.pointer (some ⟨g, 0, none⟩))) W') : o.wp Tryz.prog a W K Q := by
  have hm := H.out.made 32 (vc v); unfold Oper.wp execOp; rw [ho]; simp only [hx]; clear ho hx
  cases v <;> (simp only [vc] at hm h ⊢; go_simp; exact h _ _ (Lib.hid hm))
theorem bx_d (H : Hid (BX w bs W)) (x : Operand) (ho : o.op = .box 30 x) (hx : a.eval x = .agg (dc m s).toArray) (h : ∀ g W', Hid (BX w ((g, 30, dc m s) :: bs) W') → K (a.put o.dst (.pointer (some ⟨g, 0, none⟩))) W') : o.wp Tryz.prog a W K Q := by
  have hm := H.out.made 30 (dc m s); unfold Oper.wp execOp; rw [ho]; simp only [hx]; clear ho hx; simp only [dc] at hm h ⊢; go_simp; exact h _ _ (Lib.hid hm)
theorem res_v {fn : Func} {q : Tmp} (h : fn.results = #[.cell q 32]) {tmps : Array Value} {w : World} {bs : Bxs} {W : World} (H : Hid (BX w bs W)) (hi : bs[i]? = some (g, 32, vc v)) (hp : tmps.getD q undef = .pointer (some ⟨g, 0, none⟩)) :
    (results fn tmps).run Tryz.prog W = .ok (.agg (vc v).toArray) W :=
  results_cell_row h tmps W g 32 (vc v).toArray (0, 0) _ hp (H.out.get hi) Tryz.underlying32 rfl (by rw [List.size_toArray, vc_len]; kernel_rfl)
end
def ac (b : Bool) (A : Option Addr) (n c : Nat) : List Value := [.bool b, .slice A n c]
theorem ac_one (b : Bool) (A : Option Addr) (n c : Nat) : ∀ u ∈ ac b A n c, u.oneCell' = true := by
  intro u hu; simp only [ac, List.mem_cons, List.not_mem_nil, or_false] at hu
  rcases hu with rfl | rfl <;> rfl
section
variable {o : Oper} {a : Act} {w W : World} {K : Act → World → Prop} {Q : Exit → Act → World → Prop} {bs : Bxs} {g i k : Nat} {T : TypeId} {cs : List Value} {u : Value} {v : VX} {b : Bool} {A : Option Addr} {n c : Nat}
theorem ld_a (i : Nat) (H : Hid (BX w bs W)) (hi : bs[i]? = some (g, 55, ac b A n c)) (x : Operand) (ho : o.op = .load 55 x) (hx : a.eval x = .pointer (some ⟨g, 0, none⟩)) (h : K (a.put o.dst (.agg (ac b A n c).toArray)) W) : o.wp Tryz.prog a W K Q :=
  ld_g rtArg H hi x ho hx h
theorem st_a (i : Nat) (H : Hid (BX w bs W)) {b0 : Bool} {A0 : Option Addr} {n0 c0 : Nat} (hi : bs[i]? = some (g, 55, ac b0 A0 n0 c0)) (x y : Operand) (ho : o.op = .store 55 x y) (hx : a.eval x = .pointer (some ⟨g, 0, none⟩)) (hy : a.eval y = .agg (ac b A n c).toArray)
    (h : ∀ W', Hid (BX w (bs.set i (g, 55, ac b A n c)) W') → K (a.put o.dst undef) W') : o.wp Tryz.prog a W K Q :=
  st_g rtArg (ac_one b A n c) H hi rfl x y ho hx hy h
theorem al_a (H : Hid (BX w bs W)) (ho : o.op = .alloc 55) (h : ∀ g W', Hid (BX w ((g, 55, ac false none 0 0) :: bs) W') → K (a.put o.dst (.pointer (some ⟨g, 0, none⟩))) W') : o.wp Tryz.prog a W K Q := by
  have hm := H.out.made 55 (ac false none 0 0); unfold Oper.wp execOp; rw [ho]; simp only [ac] at hm h; go_simp; exact h _ _ (Lib.hid hm)
theorem bx_a (H : Hid (BX w bs W)) (x : Operand) (ho : o.op = .box 55 x) (hx : a.eval x = .agg (ac b A n c).toArray) (h : ∀ g W', Hid (BX w ((g, 55, ac b A n c) :: bs) W') → K (a.put o.dst (.pointer (some ⟨g, 0, none⟩))) W') : o.wp Tryz.prog a W K Q := by
  have hm := H.out.made 55 (ac b A n c); unfold Oper.wp execOp; rw [ho]; simp only [hx]; clear ho hx; simp only [ac] at hm h ⊢; go_simp; exact h _ _ (Lib.hid hm)
theorem res_a {fn : Func} {q : Tmp} (h : fn.results = #[.cell q 55]) {tmps : Array Value} (H : Hid (BX w bs W)) (hi : bs[i]? = some (g, 55, ac b A n c)) (hp : tmps.getD q undef = .pointer (some ⟨g, 0, none⟩)) :
    (results fn tmps).run Tryz.prog W = .ok (.agg (ac b A n c).toArray) W :=
  results_cell_row h tmps W g 55 (ac b A n c).toArray (0, 0) _ hp (H.out.get hi) Tryz.underlying55 rfl (by kernel_rfl)
theorem lf_int (i : Nat) (H : Hid (BX w bs W)) (hi : bs[i]? = some (g, T, cs)) (x : Operand) (ho : o.op = .load 3 x) (hx : a.eval x = .pointer (some ⟨g, k, none⟩)) (hc : cs[k]? = some u) (h : K (a.put o.dst u) W) : o.wp Tryz.prog a W K Q := by
  have c := H.out.cell hi k; rw [hc] at c; unfold Oper.wp execOp; rw [ho]; simp only [hx]; clear ho hx hc hi H; go_simp; exact h
theorem lf_i64 (i : Nat) (H : Hid (BX w bs W)) (hi : bs[i]? = some (g, T, cs)) (x : Operand) (ho : o.op = .load 2 x) (hx : a.eval x = .pointer (some ⟨g, k, none⟩)) (hc : cs[k]? = some u) (h : K (a.put o.dst u) W) : o.wp Tryz.prog a W K Q := by
  have c := H.out.cell hi k; rw [hc] at c; unfold Oper.wp execOp; rw [ho]; simp only [hx]; clear ho hx hc hi H; go_simp; exact h
theorem lf_bool (i : Nat) (H : Hid (BX w bs W)) (hi : bs[i]? = some (g, T, cs)) (x : Operand) (ho : o.op = .load 4 x) (hx : a.eval x = .pointer (some ⟨g, k, none⟩)) (hc : cs[k]? = some u) (h : K (a.put o.dst u) W) : o.wp Tryz.prog a W K Q := by
  have c := H.out.cell hi k; rw [hc] at c; unfold Oper.wp execOp; rw [ho]; simp only [hx]; clear ho hx hc hi H; go_simp; exact h
theorem lf_vals (i : Nat) (H : Hid (BX w bs W)) (hi : bs[i]? = some (g, T, cs)) (x : Operand) (ho : o.op = .load 53 x) (hx : a.eval x = .pointer (some ⟨g, k, none⟩)) (hc : cs[k]? = some u) (h : K (a.put o.dst u) W) : o.wp Tryz.prog a W K Q := by
  have c := H.out.cell hi k; rw [hc] at c; unfold Oper.wp execOp; rw [ho]; simp only [hx]; clear ho hx hc hi H; go_simp; exact h
theorem ld_k (i : Nat) (H : Hid (BX w bs W)) (hi : bs[i]? = some (g, 32, vc v)) (x : Operand) (ho : o.op = .load 3 x) (hx : a.eval x = .pointer (some ⟨g, 0, none⟩)) (h : K (a.put o.dst (.int .i64 v.kind)) W) : o.wp Tryz.prog a W K Q :=
  lf_int i H hi x ho hx (vc_kind v) h
end
end Go.Proofs.YtngkolcpbgibcaaGreatDoor
