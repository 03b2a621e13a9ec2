/- cashbooklaw5.RkPacks by its contract: it returns true. No condition. -/
import Derived.Test.YtafdbdkggogigaaRkNum
namespace Go.Proofs.Ytafdbdkggogigaa
open Go.RowKit

set_option maxRecDepth 100000 in
set_option maxHeartbeats 2000000 in
theorem packs_0 {w : World} {m s : Int} (h : rkE m s = 0) :
    Calls Try.prog 3 #[.agg #[.int .i64 m, .int .i64 s]] w fun e w' => e = .returned (.bool true) ∧ Below w.heap.size w w' := by
  have HK := Lib.hid (fun W : World => known5_any W)
  have hd : decide (rkE m s = 0) = true := decide_eq_true h
  obtain ⟨b1, b2, b3, b4⟩ := rk_back h
  have HU : Hid (∀ W : World, Calls Try.prog 13 #[.int .i64 (rkV m s)] W fun e w' => e = .returned (.tuple #[.agg #[.int .i64 m, .int .i64 s], .int .i64 0]) ∧ Below W.heap.size W w') := Lib.hid (fun W => by
    have := unpack_any (w := W) (n := rkV m s)
    rw [b1] at this
    rw [b2] at this
    exact this)
  have HP : Hid (∀ W : World, Calls Try.prog 8 #[.agg #[.int .i64 m, .int .i64 s]] W fun e w' => e = .returned (.tuple #[.int .i64 (rkV m s), .int .i64 0]) ∧ Below W.heap.size W w') := Lib.hid (fun W => by
    have := pack_any (w := W) (m := m) (s := s)
    rw [h] at this
    exact this)
  have HQ : Hid (∀ W : World, Calls Try.prog 9 #[.agg #[.int .i64 m, .int .i64 s]] W fun e w' => e = .returned (.tuple #[.int .i64 (rkV m s), .int .i64 0]) ∧ Below W.heap.size W w') := Lib.hid (fun W => by
    have := bPack_any (w := W) (m := m) (s := s)
    rw [h] at this
    exact this)
  have HF : Hid (∀ W : World, Calls Try.prog 11 #[.agg #[.int .i64 m, .int .i64 s]] W fun e w' => e = .returned (.bool true) ∧ Below W.heap.size W w') := Lib.hid (fun W => by
    have := fits_any (w := W) (m := m) (s := s)
    rw [hd] at this
    exact this)
  have HG : Hid (∀ W : World, Calls Try.prog 12 #[.agg #[.int .i64 m, .int .i64 s]] W fun e w' => e = .returned (.bool true) ∧ Below W.heap.size W w') := Lib.hid (fun W => by
    have := bFits_any (w := W) (m := m) (s := s)
    rw [hd] at this
    exact this)
  have HO : Hid (∀ W : World, Calls Try.prog 10 #[.agg #[.int .i64 m, .int .i64 s]] W fun e w' => e = .returned (.agg #[.int .i64 m, .int .i64 s]) ∧ Below W.heap.size W w') := Lib.hid (fun W => of_any (m := m) (s := s))
  clear b1 b2 hd h
  generalize rkV m s = V at *
  have HB := Lib.hid (sb1 w 23 #[.int .i64 m, .int .i64 s])
  go_enter Try.func3, Try.ntmps3
  go_wp2_with fail
  refine (HK.out _).mono ?_
  rintro e w1 ⟨rfl, hb⟩
  have HB1 := Lib.hid (HB.out.call hb)
  clear hb HB
  have HB := HB1
  clear HB1
  have q0 := HB.out.bk _ (.head _)
  have c00 := q0.cell 0
  have c01 := q0.cell 1
  clear q0
  go_wp2_with fail
  refine (HP.out _).mono ?_
  rintro e w2 ⟨rfl, hb⟩
  clear c00 c01
  have HB2 := Lib.hid (HB.out.call hb)
  clear hb HB
  have HB := HB2
  clear HB2
  have q0 := HB.out.bk _ (.head _)
  have c00 := q0.cell 0
  have c01 := q0.cell 1
  clear q0
  go_wp2_with fail
  refine (HO.out _).mono ?_
  rintro e w3 ⟨rfl, hb⟩
  clear c00 c01
  have HB3 := Lib.hid (HB.out.call hb)
  clear hb HB
  have HB := HB3
  clear HB3
  go_wp2_with fail
  refine (HQ.out _).mono ?_
  rintro e w4 ⟨rfl, hb⟩
  have HB4 := Lib.hid (HB.out.call hb)
  clear hb HB
  have HB := HB4
  clear HB4
  go_wp2_with fail
  refine wp_region_phases (S := (S1 w 1 ([(w.heap.size, 23, #[.int .i64 m, .int .i64 s])] : List (Nat × TypeId × Array Value)) ([(w.heap.size, 23, #[.int .i64 m, .int .i64 s])] : List (Nat × TypeId × Array Value)))) (E := (fun _ _ => True)) [] [(1, Is (.pointer (some ⟨w.heap.size, 0, none⟩))), (2, Is (.bool false)), (3, Is (.int .i64 V)), (4, Is (.int .i64 0)), (5, Is (.int .i64 V)), (6, Is (.int .i64 0))] [(22, Is (.int .i64 0)), (23, Is (.int .i64 0)), (24, Is (.bool false)), (25, Is (.bool false)), (26, Is (.int .i64 V)), (27, Is (.int .i64 V)), (28, Is (.bool false)), (29, Is (.bool false)), (30, Is (.bool false)), (31, Is (.agg #[.int .i64 m, .int .i64 s])), (32, Is (.bool true)), (33, Is (.agg #[.int .i64 m, .int .i64 s])), (34, Is (.agg #[.int .i64 m, .int .i64 s])), (35, Is (.bool true)), (36, Is (.bool false)), (37, Is (.bool false)), (38, Is (.bool false)), (39, Is (.agg #[.int .i64 m, .int .i64 s])), (40, Is (.bool true)), (41, Is (.int .i64 0)), (42, Is (.bool true)), (43, Is (.bool false)), (44, Is (.bool false))]
    [.op [4] none, .op [6] none, .op [22, 23] none, .op [24] none, .op [3, 25] (some (25, false)), .op [5, 25] (some (25, false)), .op [26, 27, 25] (some (25, false)), .op [25, 28] none, .op [29] none, .op [1, 30] (some (30, false)), .op [31, 30] (some (30, false)), .op [1, 30] (some (30, false)), .op [33, 30] (some (30, false)), .op [34, 30] (some (30, false)), .op [32, 35, 30] (some (30, false)), .op [30, 36] none, .op [37] none, .op [1, 38] (some (38, false)), .op [39, 38] (some (38, false)), .op [6, 38] (some (38, false)), .op [41, 38] (some (38, false)), .op [40, 42, 38] (some (38, false)), .op [38, 43] none] (by as_aux_lemma => kernel_rfl) ?_ ?_ ?_ ?_ ?_ ⟨stable_is _ _, stable_is _ _, stable_is _ _, stable_is _ _, stable_is _ _, stable_is _ _, stable_is _ _, stable_is _ _, stable_is _ _, stable_is _ _, stable_is _ _, stable_is _ _, stable_is _ _, stable_is _ _, stable_is _ _, stable_is _ _, stable_is _ _, stable_is _ _, stable_is _ _, stable_is _ _, stable_is _ _, stable_is _ _, stable_is _ _, stable_is _ _, stable_is _ _, stable_is _ _, stable_is _ _, stable_is _ _, stable_is _ _, trivial⟩ ?_ (HB.out.drew) ?_ ?_
  · as_aux_lemma => kernel_rfl
  · as_aux_lemma => kernel_rfl
  · as_aux_lemma => kernel_rfl
  · as_aux_lemma => kernel_rfl
  · as_aux_lemma => kernel_rfl
  · exact ⟨rfl, rfl, rfl, rfl, rfl, rfl, trivial⟩
  · refine ⟨?_, ?_, ?_, ?_, ?_, ?_, ?_, ?_, ?_, ?_, ?_, ?_, ?_, ?_, ?_, ?_, ?_, ?_, ?_, ?_, ?_, ?_, ?_, trivial⟩
    · as_aux_lemma =>
        intro vals a W hS hL
        have e4 : a.tmps.getD 4 undef = .int .i64 0 := hL.1
        clear hL
        go_simp
        exact ⟨⟨fun d hd => by injection hd with hd; subst hd; rfl, fun h => by cases h⟩, hS, trivial⟩
    · as_aux_lemma =>
        intro vals a W hS hL
        have e6 : a.tmps.getD 6 undef = .int .i64 0 := hL.1
        clear hL
        go_simp
        exact ⟨⟨fun d hd => by injection hd with hd; subst hd; rfl, fun h => by cases h⟩, hS, trivial⟩
    · as_aux_lemma =>
        intro vals a W hS hL
        have e22 : a.tmps.getD 22 undef = .int .i64 0 := hL.1
        have e23 : a.tmps.getD 23 undef = .int .i64 0 := hL.2.1
        clear hL
        go_simp
        exact ⟨⟨fun d hd => by injection hd with hd; subst hd; rfl, fun h => by cases h⟩, hS, trivial⟩
    · as_aux_lemma =>
        intro vals a W hS hL
        have e24 : a.tmps.getD 24 undef = .bool false := hL.1
        clear hL
        go_simp
        exact ⟨⟨fun d hd => by injection hd with hd; subst hd; rfl, fun h => by cases h⟩, hS, trivial⟩
    · as_aux_lemma =>
        intro vals a W hS hL
        have e3 : a.tmps.getD 3 undef = .int .i64 V := hL.1
        have e25 : a.tmps.getD 25 undef = .bool false := hL.2.1
        clear hL
        refine ⟨false, e25, ?_⟩
        rw [if_pos rfl]
        go_simp
        exact ⟨⟨fun d hd => by injection hd with hd; subst hd; rfl, fun h => by cases h⟩, hS, trivial⟩
    · as_aux_lemma =>
        intro vals a W hS hL
        have e5 : a.tmps.getD 5 undef = .int .i64 V := hL.1
        have e25 : a.tmps.getD 25 undef = .bool false := hL.2.1
        clear hL
        refine ⟨false, e25, ?_⟩
        rw [if_pos rfl]
        go_simp
        exact ⟨⟨fun d hd => by injection hd with hd; subst hd; rfl, fun h => by cases h⟩, hS, trivial⟩
    · as_aux_lemma =>
        intro vals a W hS hL
        have e26 : a.tmps.getD 26 undef = .int .i64 V := hL.1
        have e27 : a.tmps.getD 27 undef = .int .i64 V := hL.2.1
        have e25 : a.tmps.getD 25 undef = .bool false := hL.2.2.1
        clear hL
        refine ⟨false, e25, ?_⟩
        rw [if_pos rfl]
        go_simp
        exact ⟨⟨fun d hd => by injection hd with hd; subst hd; rfl, fun h => by cases h⟩, hS, trivial⟩
    · as_aux_lemma =>
        intro vals a W hS hL
        have e25 : a.tmps.getD 25 undef = .bool false := hL.1
        have e28 : a.tmps.getD 28 undef = .bool false := hL.2.1
        clear hL
        go_simp
        exact ⟨⟨fun d hd => by injection hd with hd; subst hd; rfl, fun h => by cases h⟩, hS, trivial⟩
    · as_aux_lemma =>
        intro vals a W hS hL
        have e29 : a.tmps.getD 29 undef = .bool false := hL.1
        clear hL
        go_simp
        exact ⟨⟨fun d hd => by injection hd with hd; subst hd; rfl, fun h => by cases h⟩, hS, trivial⟩
    · as_aux_lemma =>
        intro vals a W hS hL
        have e1 : a.tmps.getD 1 undef = .pointer (some ⟨w.heap.size, 0, none⟩) := hL.1
        have e30 : a.tmps.getD 30 undef = .bool false := hL.2.1
        clear hL
        refine ⟨false, e30, ?_⟩
        rw [if_pos rfl]
        have kb : Bk W w.heap.size 23 #[.int .i64 m, .int .i64 s] := hS.bk (.head _) (.head _)
        have f0 := kb.cell 0
        have f1 := kb.cell 1
        clear kb
        go_simp
        exact ⟨⟨fun d hd => by injection hd with hd; subst hd; rfl, fun h => by cases h⟩, hS, trivial⟩
    · as_aux_lemma =>
        intro vals a W hS hL
        have e31 : a.tmps.getD 31 undef = .agg #[.int .i64 m, .int .i64 s] := hL.1
        have e30 : a.tmps.getD 30 undef = .bool false := hL.2.1
        clear hL
        refine ⟨false, e30, ?_⟩
        rw [if_pos rfl]
        go_simp
        refine (HF.out W).mono ?_
        rintro e W' ⟨rfl, hb⟩
        exact ⟨_, rfl, ⟨fun d hd => by injection hd with hd; subst hd; rfl, fun h => by cases h⟩, hS.call hb, trivial⟩
    · as_aux_lemma =>
        intro vals a W hS hL
        have e1 : a.tmps.getD 1 undef = .pointer (some ⟨w.heap.size, 0, none⟩) := hL.1
        have e30 : a.tmps.getD 30 undef = .bool false := hL.2.1
        clear hL
        refine ⟨false, e30, ?_⟩
        rw [if_pos rfl]
        have kb : Bk W w.heap.size 23 #[.int .i64 m, .int .i64 s] := hS.bk (.head _) (.head _)
        have f0 := kb.cell 0
        have f1 := kb.cell 1
        clear kb
        go_simp
        exact ⟨⟨fun d hd => by injection hd with hd; subst hd; rfl, fun h => by cases h⟩, hS, trivial⟩
    · as_aux_lemma =>
        intro vals a W hS hL
        have e33 : a.tmps.getD 33 undef = .agg #[.int .i64 m, .int .i64 s] := hL.1
        have e30 : a.tmps.getD 30 undef = .bool false := hL.2.1
        clear hL
        refine ⟨false, e30, ?_⟩
        rw [if_pos rfl]
        go_simp
        refine (HO.out W).mono ?_
        rintro e W' ⟨rfl, hb⟩
        exact ⟨_, rfl, ⟨fun d hd => by injection hd with hd; subst hd; rfl, fun h => by cases h⟩, hS.call hb, trivial⟩
    · as_aux_lemma =>
        intro vals a W hS hL
        have e34 : a.tmps.getD 34 undef = .agg #[.int .i64 m, .int .i64 s] := hL.1
        have e30 : a.tmps.getD 30 undef = .bool false := hL.2.1
        clear hL
        refine ⟨false, e30, ?_⟩
        rw [if_pos rfl]
        go_simp
        refine (HG.out W).mono ?_
        rintro e W' ⟨rfl, hb⟩
        exact ⟨_, rfl, ⟨fun d hd => by injection hd with hd; subst hd; rfl, fun h => by cases h⟩, hS.call hb, trivial⟩
    · as_aux_lemma =>
        intro vals a W hS hL
        have e32 : a.tmps.getD 32 undef = .bool true := hL.1
        have e35 : a.tmps.getD 35 undef = .bool true := hL.2.1
        have e30 : a.tmps.getD 30 undef = .bool false := hL.2.2.1
        clear hL
        refine ⟨false, e30, ?_⟩
        rw [if_pos rfl]
        go_simp
        exact ⟨⟨fun d hd => by injection hd with hd; subst hd; rfl, fun h => by cases h⟩, hS, trivial⟩
    · as_aux_lemma =>
        intro vals a W hS hL
        have e30 : a.tmps.getD 30 undef = .bool false := hL.1
        have e36 : a.tmps.getD 36 undef = .bool false := hL.2.1
        clear hL
        go_simp
        exact ⟨⟨fun d hd => by injection hd with hd; subst hd; rfl, fun h => by cases h⟩, hS, trivial⟩
    · as_aux_lemma =>
        intro vals a W hS hL
        have e37 : a.tmps.getD 37 undef = .bool false := hL.1
        clear hL
        go_simp
        exact ⟨⟨fun d hd => by injection hd with hd; subst hd; rfl, fun h => by cases h⟩, hS, trivial⟩
    · as_aux_lemma =>
        intro vals a W hS hL
        have e1 : a.tmps.getD 1 undef = .pointer (some ⟨w.heap.size, 0, none⟩) := hL.1
        have e38 : a.tmps.getD 38 undef = .bool false := hL.2.1
        clear hL
        refine ⟨false, e38, ?_⟩
        rw [if_pos rfl]
        have kb : Bk W w.heap.size 23 #[.int .i64 m, .int .i64 s] := hS.bk (.head _) (.head _)
        have f0 := kb.cell 0
        have f1 := kb.cell 1
        clear kb
        go_simp
        exact ⟨⟨fun d hd => by injection hd with hd; subst hd; rfl, fun h => by cases h⟩, hS, trivial⟩
    · as_aux_lemma =>
        intro vals a W hS hL
        have e39 : a.tmps.getD 39 undef = .agg #[.int .i64 m, .int .i64 s] := hL.1
        have e38 : a.tmps.getD 38 undef = .bool false := hL.2.1
        clear hL
        refine ⟨false, e38, ?_⟩
        rw [if_pos rfl]
        go_simp
        refine (HF.out W).mono ?_
        rintro e W' ⟨rfl, hb⟩
        exact ⟨_, rfl, ⟨fun d hd => by injection hd with hd; subst hd; rfl, fun h => by cases h⟩, hS.call hb, trivial⟩
    · as_aux_lemma =>
        intro vals a W hS hL
        have e6 : a.tmps.getD 6 undef = .int .i64 0 := hL.1
        have e38 : a.tmps.getD 38 undef = .bool false := hL.2.1
        clear hL
        refine ⟨false, e38, ?_⟩
        rw [if_pos rfl]
        go_simp
        exact ⟨⟨fun d hd => by injection hd with hd; subst hd; rfl, fun h => by cases h⟩, hS, trivial⟩
    · as_aux_lemma =>
        intro vals a W hS hL
        have e41 : a.tmps.getD 41 undef = .int .i64 0 := hL.1
        have e38 : a.tmps.getD 38 undef = .bool false := hL.2.1
        clear hL
        refine ⟨false, e38, ?_⟩
        rw [if_pos rfl]
        go_simp
        exact ⟨⟨fun d hd => by injection hd with hd; subst hd; rfl, fun h => by cases h⟩, hS, trivial⟩
    · as_aux_lemma =>
        intro vals a W hS hL
        have e40 : a.tmps.getD 40 undef = .bool true := hL.1
        have e42 : a.tmps.getD 42 undef = .bool true := hL.2.1
        have e38 : a.tmps.getD 38 undef = .bool false := hL.2.2.1
        clear hL
        refine ⟨false, e38, ?_⟩
        rw [if_pos rfl]
        go_simp
        exact ⟨⟨fun d hd => by injection hd with hd; subst hd; rfl, fun h => by cases h⟩, hS, trivial⟩
    · as_aux_lemma =>
        intro vals a W hS hL
        have e38 : a.tmps.getD 38 undef = .bool false := hL.1
        have e43 : a.tmps.getD 43 undef = .bool false := hL.2.1
        clear hL
        go_simp
        exact ⟨⟨fun d hd => by injection hd with hd; subst hd; rfl, fun h => by cases h⟩, hS, trivial⟩
  · intro a W' vals hd hsz hT hF hv hP hS
    obtain rfl : vals = [] := List.eq_nil_of_length_eq_zero hv
    have hB : SB w 1 ([(w.heap.size, 23, #[.int .i64 m, .int .i64 s])] : List (Nat × TypeId × Array Value)) W' := hS
    clear hS
    have e1 : a.tmps.getD 1 undef = .pointer (some ⟨w.heap.size, 0, none⟩) := hT 1 (by simp)
    have e3 : a.tmps.getD 3 undef = .int .i64 V := hT 3 (by simp)
    have e6 : a.tmps.getD 6 undef = .int .i64 0 := hT 6 (by simp)
    have e44 : a.tmps.getD 44 undef = .bool false := hT 44 (by simp)
    clear hT hF hP
    rw [act_lit 67 a hd hsz]
    simp only [List.range, List.range.loop, List.map, e1, e3, e6, e44]
    clear e1 e3 e6 e44
    have HB2 := Lib.hid hB
    clear hB HF HG HO HP HQ HK HB
    go_wp2_with fail
    refine (HU.out _).mono ?_
    rintro e w5 ⟨rfl, hb⟩
    have hB := (HB2.out.call hb).alloc 23 #[.int .i64 m, .int .i64 s]
    clear hb HB2 HU
    have k7 := hB.bk _ (List.mem_cons_self ..)
    have c70 := k7.cell 0
    have c71 := k7.cell 1
    clear k7
    have k3 := hB.bk _ (.tail _ (.head _))
    have c30 := k3.cell 0
    have c31 := k3.cell 1
    clear k3
    have hbel := hB.bel
    clear hB
    have b5 : decide (V < 4294967296) = true := decide_eq_true b4
    go_wp2
    go_ret
    exact ⟨rfl, hbel⟩

set_option maxRecDepth 100000 in
set_option maxHeartbeats 2000000 in
theorem packs_1 {w : World} {m s : Int} (h : rkE m s = 1) :
    Calls Try.prog 3 #[.agg #[.int .i64 m, .int .i64 s]] w fun e w' => e = .returned (.bool true) ∧ Below w.heap.size w w' := by
  have HK := Lib.hid (fun W : World => known5_any W)
  have hd : decide (rkE m s = 0) = false := decide_eq_false (by rw [h]; decide)
  have b0 := rk_no (m := m) (s := s) (by rw [h]; decide)
  have HP : Hid (∀ W : World, Calls Try.prog 8 #[.agg #[.int .i64 m, .int .i64 s]] W fun e w' => e = .returned (.tuple #[.int .i64 0, .int .i64 1]) ∧ Below W.heap.size W w') := Lib.hid (fun W => by
    have := pack_any (w := W) (m := m) (s := s)
    rw [h] at this
    rw [b0] at this
    exact this)
  have HQ : Hid (∀ W : World, Calls Try.prog 9 #[.agg #[.int .i64 m, .int .i64 s]] W fun e w' => e = .returned (.tuple #[.int .i64 0, .int .i64 1]) ∧ Below W.heap.size W w') := Lib.hid (fun W => by
    have := bPack_any (w := W) (m := m) (s := s)
    rw [h] at this
    rw [b0] at this
    exact this)
  have HF : Hid (∀ W : World, Calls Try.prog 11 #[.agg #[.int .i64 m, .int .i64 s]] W fun e w' => e = .returned (.bool false) ∧ Below W.heap.size W w') := Lib.hid (fun W => by
    have := fits_any (w := W) (m := m) (s := s)
    rw [hd] at this
    exact this)
  have HG : Hid (∀ W : World, Calls Try.prog 12 #[.agg #[.int .i64 m, .int .i64 s]] W fun e w' => e = .returned (.bool false) ∧ Below W.heap.size W w') := Lib.hid (fun W => by
    have := bFits_any (w := W) (m := m) (s := s)
    rw [hd] at this
    exact this)
  have HO : Hid (∀ W : World, Calls Try.prog 10 #[.agg #[.int .i64 m, .int .i64 s]] W fun e w' => e = .returned (.agg #[.int .i64 m, .int .i64 s]) ∧ Below W.heap.size W w') := Lib.hid (fun W => of_any (m := m) (s := s))
  clear b0 hd h
  have HB := Lib.hid (sb1 w 23 #[.int .i64 m, .int .i64 s])
  go_enter Try.func3, Try.ntmps3
  go_wp2_with fail
  refine (HK.out _).mono ?_
  rintro e w1 ⟨rfl, hb⟩
  have HB1 := Lib.hid (HB.out.call hb)
  clear hb HB
  have HB := HB1
  clear HB1
  have q0 := HB.out.bk _ (.head _)
  have c00 := q0.cell 0
  have c01 := q0.cell 1
  clear q0
  go_wp2_with fail
  refine (HP.out _).mono ?_
  rintro e w2 ⟨rfl, hb⟩
  clear c00 c01
  have HB2 := Lib.hid (HB.out.call hb)
  clear hb HB
  have HB := HB2
  clear HB2
  have q0 := HB.out.bk _ (.head _)
  have c00 := q0.cell 0
  have c01 := q0.cell 1
  clear q0
  go_wp2_with fail
  refine (HO.out _).mono ?_
  rintro e w3 ⟨rfl, hb⟩
  clear c00 c01
  have HB3 := Lib.hid (HB.out.call hb)
  clear hb HB
  have HB := HB3
  clear HB3
  go_wp2_with fail
  refine (HQ.out _).mono ?_
  rintro e w4 ⟨rfl, hb⟩
  have HB4 := Lib.hid (HB.out.call hb)
  clear hb HB
  have HB := HB4
  clear HB4
  go_wp2_with fail
  refine wp_region_phases (S := (S1 w 1 ([(w.heap.size, 23, #[.int .i64 m, .int .i64 s])] : List (Nat × TypeId × Array Value)) ([(w.heap.size, 23, #[.int .i64 m, .int .i64 s])] : List (Nat × TypeId × Array Value)))) (E := (fun _ _ => True)) [] [(1, Is (.pointer (some ⟨w.heap.size, 0, none⟩))), (2, Is (.bool false)), (3, Is (.int .i64 0)), (4, Is (.int .i64 1)), (5, Is (.int .i64 0)), (6, Is (.int .i64 1))] [(22, Is (.int .i64 1)), (23, Is (.int .i64 1)), (24, Is (.bool false)), (25, Is (.bool false)), (26, Is (.int .i64 0)), (27, Is (.int .i64 0)), (28, Is (.bool false)), (29, Is (.bool false)), (30, Is (.bool false)), (31, Is (.agg #[.int .i64 m, .int .i64 s])), (32, Is (.bool false)), (33, Is (.agg #[.int .i64 m, .int .i64 s])), (34, Is (.agg #[.int .i64 m, .int .i64 s])), (35, Is (.bool false)), (36, Is (.bool false)), (37, Is (.bool false)), (38, Is (.bool false)), (39, Is (.agg #[.int .i64 m, .int .i64 s])), (40, Is (.bool false)), (41, Is (.int .i64 1)), (42, Is (.bool false)), (43, Is (.bool false)), (44, Is (.bool false))]
    [.op [4] none, .op [6] none, .op [22, 23] none, .op [24] none, .op [3, 25] (some (25, false)), .op [5, 25] (some (25, false)), .op [26, 27, 25] (some (25, false)), .op [25, 28] none, .op [29] none, .op [1, 30] (some (30, false)), .op [31, 30] (some (30, false)), .op [1, 30] (some (30, false)), .op [33, 30] (some (30, false)), .op [34, 30] (some (30, false)), .op [32, 35, 30] (some (30, false)), .op [30, 36] none, .op [37] none, .op [1, 38] (some (38, false)), .op [39, 38] (some (38, false)), .op [6, 38] (some (38, false)), .op [41, 38] (some (38, false)), .op [40, 42, 38] (some (38, false)), .op [38, 43] none] (by as_aux_lemma => kernel_rfl) ?_ ?_ ?_ ?_ ?_ ⟨stable_is _ _, stable_is _ _, stable_is _ _, stable_is _ _, stable_is _ _, stable_is _ _, stable_is _ _, stable_is _ _, stable_is _ _, stable_is _ _, stable_is _ _, stable_is _ _, stable_is _ _, stable_is _ _, stable_is _ _, stable_is _ _, stable_is _ _, stable_is _ _, stable_is _ _, stable_is _ _, stable_is _ _, stable_is _ _, stable_is _ _, stable_is _ _, stable_is _ _, stable_is _ _, stable_is _ _, stable_is _ _, stable_is _ _, trivial⟩ ?_ (HB.out.drew) ?_ ?_
  · as_aux_lemma => kernel_rfl
  · as_aux_lemma => kernel_rfl
  · as_aux_lemma => kernel_rfl
  · as_aux_lemma => kernel_rfl
  · as_aux_lemma => kernel_rfl
  · exact ⟨rfl, rfl, rfl, rfl, rfl, rfl, trivial⟩
  · refine ⟨?_, ?_, ?_, ?_, ?_, ?_, ?_, ?_, ?_, ?_, ?_, ?_, ?_, ?_, ?_, ?_, ?_, ?_, ?_, ?_, ?_, ?_, ?_, trivial⟩
    · as_aux_lemma =>
        intro vals a W hS hL
        have e4 : a.tmps.getD 4 undef = .int .i64 1 := hL.1
        clear hL
        go_simp
        exact ⟨⟨fun d hd => by injection hd with hd; subst hd; rfl, fun h => by cases h⟩, hS, trivial⟩
    · as_aux_lemma =>
        intro vals a W hS hL
        have e6 : a.tmps.getD 6 undef = .int .i64 1 := hL.1
        clear hL
        go_simp
        exact ⟨⟨fun d hd => by injection hd with hd; subst hd; rfl, fun h => by cases h⟩, hS, trivial⟩
    · as_aux_lemma =>
        intro vals a W hS hL
        have e22 : a.tmps.getD 22 undef = .int .i64 1 := hL.1
        have e23 : a.tmps.getD 23 undef = .int .i64 1 := hL.2.1
        clear hL
        go_simp
        exact ⟨⟨fun d hd => by injection hd with hd; subst hd; rfl, fun h => by cases h⟩, hS, trivial⟩
    · as_aux_lemma =>
        intro vals a W hS hL
        have e24 : a.tmps.getD 24 undef = .bool false := hL.1
        clear hL
        go_simp
        exact ⟨⟨fun d hd => by injection hd with hd; subst hd; rfl, fun h => by cases h⟩, hS, trivial⟩
    · as_aux_lemma =>
        intro vals a W hS hL
        have e3 : a.tmps.getD 3 undef = .int .i64 0 := hL.1
        have e25 : a.tmps.getD 25 undef = .bool false := hL.2.1
        clear hL
        refine ⟨false, e25, ?_⟩
        rw [if_pos rfl]
        go_simp
        exact ⟨⟨fun d hd => by injection hd with hd; subst hd; rfl, fun h => by cases h⟩, hS, trivial⟩
    · as_aux_lemma =>
        intro vals a W hS hL
        have e5 : a.tmps.getD 5 undef = .int .i64 0 := hL.1
        have e25 : a.tmps.getD 25 undef = .bool false := hL.2.1
        clear hL
        refine ⟨false, e25, ?_⟩
        rw [if_pos rfl]
        go_simp
        exact ⟨⟨fun d hd => by injection hd with hd; subst hd; rfl, fun h => by cases h⟩, hS, trivial⟩
    · as_aux_lemma =>
        intro vals a W hS hL
        have e26 : a.tmps.getD 26 undef = .int .i64 0 := hL.1
        have e27 : a.tmps.getD 27 undef = .int .i64 0 := hL.2.1
        have e25 : a.tmps.getD 25 undef = .bool false := hL.2.2.1
        clear hL
        refine ⟨false, e25, ?_⟩
        rw [if_pos rfl]
        go_simp
        exact ⟨⟨fun d hd => by injection hd with hd; subst hd; rfl, fun h => by cases h⟩, hS, trivial⟩
    · as_aux_lemma =>
        intro vals a W hS hL
        have e25 : a.tmps.getD 25 undef = .bool false := hL.1
        have e28 : a.tmps.getD 28 undef = .bool false := hL.2.1
        clear hL
        go_simp
        exact ⟨⟨fun d hd => by injection hd with hd; subst hd; rfl, fun h => by cases h⟩, hS, trivial⟩
    · as_aux_lemma =>
        intro vals a W hS hL
        have e29 : a.tmps.getD 29 undef = .bool false := hL.1
        clear hL
        go_simp
        exact ⟨⟨fun d hd => by injection hd with hd; subst hd; rfl, fun h => by cases h⟩, hS, trivial⟩
    · as_aux_lemma =>
        intro vals a W hS hL
        have e1 : a.tmps.getD 1 undef = .pointer (some ⟨w.heap.size, 0, none⟩) := hL.1
        have e30 : a.tmps.getD 30 undef = .bool false := hL.2.1
        clear hL
        refine ⟨false, e30, ?_⟩
        rw [if_pos rfl]
        have kb : Bk W w.heap.size 23 #[.int .i64 m, .int .i64 s] := hS.bk (.head _) (.head _)
        have f0 := kb.cell 0
        have f1 := kb.cell 1
        clear kb
        go_simp
        exact ⟨⟨fun d hd => by injection hd with hd; subst hd; rfl, fun h => by cases h⟩, hS, trivial⟩
    · as_aux_lemma =>
        intro vals a W hS hL
        have e31 : a.tmps.getD 31 undef = .agg #[.int .i64 m, .int .i64 s] := hL.1
        have e30 : a.tmps.getD 30 undef = .bool false := hL.2.1
        clear hL
        refine ⟨false, e30, ?_⟩
        rw [if_pos rfl]
        go_simp
        refine (HF.out W).mono ?_
        rintro e W' ⟨rfl, hb⟩
        exact ⟨_, rfl, ⟨fun d hd => by injection hd with hd; subst hd; rfl, fun h => by cases h⟩, hS.call hb, trivial⟩
    · as_aux_lemma =>
        intro vals a W hS hL
        have e1 : a.tmps.getD 1 undef = .pointer (some ⟨w.heap.size, 0, none⟩) := hL.1
        have e30 : a.tmps.getD 30 undef = .bool false := hL.2.1
        clear hL
        refine ⟨false, e30, ?_⟩
        rw [if_pos rfl]
        have kb : Bk W w.heap.size 23 #[.int .i64 m, .int .i64 s] := hS.bk (.head _) (.head _)
        have f0 := kb.cell 0
        have f1 := kb.cell 1
        clear kb
        go_simp
        exact ⟨⟨fun d hd => by injection hd with hd; subst hd; rfl, fun h => by cases h⟩, hS, trivial⟩
    · as_aux_lemma =>
        intro vals a W hS hL
        have e33 : a.tmps.getD 33 undef = .agg #[.int .i64 m, .int .i64 s] := hL.1
        have e30 : a.tmps.getD 30 undef = .bool false := hL.2.1
        clear hL
        refine ⟨false, e30, ?_⟩
        rw [if_pos rfl]
        go_simp
        refine (HO.out W).mono ?_
        rintro e W' ⟨rfl, hb⟩
        exact ⟨_, rfl, ⟨fun d hd => by injection hd with hd; subst hd; rfl, fun h => by cases h⟩, hS.call hb, trivial⟩
    · as_aux_lemma =>
        intro vals a W hS hL
        have e34 : a.tmps.getD 34 undef = .agg #[.int .i64 m, .int .i64 s] := hL.1
        have e30 : a.tmps.getD 30 undef = .bool false := hL.2.1
        clear hL
        refine ⟨false, e30, ?_⟩
        rw [if_pos rfl]
        go_simp
        refine (HG.out W).mono ?_
        rintro e W' ⟨rfl, hb⟩
        exact ⟨_, rfl, ⟨fun d hd => by injection hd with hd; subst hd; rfl, fun h => by cases h⟩, hS.call hb, trivial⟩
    · as_aux_lemma =>
        intro vals a W hS hL
        have e32 : a.tmps.getD 32 undef = .bool false := hL.1
        have e35 : a.tmps.getD 35 undef = .bool false := hL.2.1
        have e30 : a.tmps.getD 30 undef = .bool false := hL.2.2.1
        clear hL
        refine ⟨false, e30, ?_⟩
        rw [if_pos rfl]
        go_simp
        exact ⟨⟨fun d hd => by injection hd with hd; subst hd; rfl, fun h => by cases h⟩, hS, trivial⟩
    · as_aux_lemma =>
        intro vals a W hS hL
        have e30 : a.tmps.getD 30 undef = .bool false := hL.1
        have e36 : a.tmps.getD 36 undef = .bool false := hL.2.1
        clear hL
        go_simp
        exact ⟨⟨fun d hd => by injection hd with hd; subst hd; rfl, fun h => by cases h⟩, hS, trivial⟩
    · as_aux_lemma =>
        intro vals a W hS hL
        have e37 : a.tmps.getD 37 undef = .bool false := hL.1
        clear hL
        go_simp
        exact ⟨⟨fun d hd => by injection hd with hd; subst hd; rfl, fun h => by cases h⟩, hS, trivial⟩
    · as_aux_lemma =>
        intro vals a W hS hL
        have e1 : a.tmps.getD 1 undef = .pointer (some ⟨w.heap.size, 0, none⟩) := hL.1
        have e38 : a.tmps.getD 38 undef = .bool false := hL.2.1
        clear hL
        refine ⟨false, e38, ?_⟩
        rw [if_pos rfl]
        have kb : Bk W w.heap.size 23 #[.int .i64 m, .int .i64 s] := hS.bk (.head _) (.head _)
        have f0 := kb.cell 0
        have f1 := kb.cell 1
        clear kb
        go_simp
        exact ⟨⟨fun d hd => by injection hd with hd; subst hd; rfl, fun h => by cases h⟩, hS, trivial⟩
    · as_aux_lemma =>
        intro vals a W hS hL
        have e39 : a.tmps.getD 39 undef = .agg #[.int .i64 m, .int .i64 s] := hL.1
        have e38 : a.tmps.getD 38 undef = .bool false := hL.2.1
        clear hL
        refine ⟨false, e38, ?_⟩
        rw [if_pos rfl]
        go_simp
        refine (HF.out W).mono ?_
        rintro e W' ⟨rfl, hb⟩
        exact ⟨_, rfl, ⟨fun d hd => by injection hd with hd; subst hd; rfl, fun h => by cases h⟩, hS.call hb, trivial⟩
    · as_aux_lemma =>
        intro vals a W hS hL
        have e6 : a.tmps.getD 6 undef = .int .i64 1 := hL.1
        have e38 : a.tmps.getD 38 undef = .bool false := hL.2.1
        clear hL
        refine ⟨false, e38, ?_⟩
        rw [if_pos rfl]
        go_simp
        exact ⟨⟨fun d hd => by injection hd with hd; subst hd; rfl, fun h => by cases h⟩, hS, trivial⟩
    · as_aux_lemma =>
        intro vals a W hS hL
        have e41 : a.tmps.getD 41 undef = .int .i64 1 := hL.1
        have e38 : a.tmps.getD 38 undef = .bool false := hL.2.1
        clear hL
        refine ⟨false, e38, ?_⟩
        rw [if_pos rfl]
        go_simp
        exact ⟨⟨fun d hd => by injection hd with hd; subst hd; rfl, fun h => by cases h⟩, hS, trivial⟩
    · as_aux_lemma =>
        intro vals a W hS hL
        have e40 : a.tmps.getD 40 undef = .bool false := hL.1
        have e42 : a.tmps.getD 42 undef = .bool false := hL.2.1
        have e38 : a.tmps.getD 38 undef = .bool false := hL.2.2.1
        clear hL
        refine ⟨false, e38, ?_⟩
        rw [if_pos rfl]
        go_simp
        exact ⟨⟨fun d hd => by injection hd with hd; subst hd; rfl, fun h => by cases h⟩, hS, trivial⟩
    · as_aux_lemma =>
        intro vals a W hS hL
        have e38 : a.tmps.getD 38 undef = .bool false := hL.1
        have e43 : a.tmps.getD 43 undef = .bool false := hL.2.1
        clear hL
        go_simp
        exact ⟨⟨fun d hd => by injection hd with hd; subst hd; rfl, fun h => by cases h⟩, hS, trivial⟩
  · intro a W' vals hd hsz hT hF hv hP hS
    obtain rfl : vals = [] := List.eq_nil_of_length_eq_zero hv
    have hB : SB w 1 ([(w.heap.size, 23, #[.int .i64 m, .int .i64 s])] : List (Nat × TypeId × Array Value)) W' := hS
    clear hS
    have e1 : a.tmps.getD 1 undef = .pointer (some ⟨w.heap.size, 0, none⟩) := hT 1 (by simp)
    have e3 : a.tmps.getD 3 undef = .int .i64 0 := hT 3 (by simp)
    have e6 : a.tmps.getD 6 undef = .int .i64 1 := hT 6 (by simp)
    have e44 : a.tmps.getD 44 undef = .bool false := hT 44 (by simp)
    clear hT hF hP
    rw [act_lit 67 a hd hsz]
    simp only [List.range, List.range.loop, List.map, e1, e3, e6, e44]
    clear e1 e3 e6 e44
    have hbel := hB.bel
    clear hB HF HG HO HP HQ HK HB
    go_wp2
    go_ret
    exact ⟨rfl, hbel⟩

set_option maxRecDepth 100000 in
set_option maxHeartbeats 2000000 in
theorem packs_8 {w : World} {m s : Int} (h : rkE m s = 8) :
    Calls Try.prog 3 #[.agg #[.int .i64 m, .int .i64 s]] w fun e w' => e = .returned (.bool true) ∧ Below w.heap.size w w' := by
  have HK := Lib.hid (fun W : World => known5_any W)
  have hd : decide (rkE m s = 0) = false := decide_eq_false (by rw [h]; decide)
  have b0 := rk_no (m := m) (s := s) (by rw [h]; decide)
  have HP : Hid (∀ W : World, Calls Try.prog 8 #[.agg #[.int .i64 m, .int .i64 s]] W fun e w' => e = .returned (.tuple #[.int .i64 0, .int .i64 8]) ∧ Below W.heap.size W w') := Lib.hid (fun W => by
    have := pack_any (w := W) (m := m) (s := s)
    rw [h] at this
    rw [b0] at this
    exact this)
  have HQ : Hid (∀ W : World, Calls Try.prog 9 #[.agg #[.int .i64 m, .int .i64 s]] W fun e w' => e = .returned (.tuple #[.int .i64 0, .int .i64 8]) ∧ Below W.heap.size W w') := Lib.hid (fun W => by
    have := bPack_any (w := W) (m := m) (s := s)
    rw [h] at this
    rw [b0] at this
    exact this)
  have HF : Hid (∀ W : World, Calls Try.prog 11 #[.agg #[.int .i64 m, .int .i64 s]] W fun e w' => e = .returned (.bool false) ∧ Below W.heap.size W w') := Lib.hid (fun W => by
    have := fits_any (w := W) (m := m) (s := s)
    rw [hd] at this
    exact this)
  have HG : Hid (∀ W : World, Calls Try.prog 12 #[.agg #[.int .i64 m, .int .i64 s]] W fun e w' => e = .returned (.bool false) ∧ Below W.heap.size W w') := Lib.hid (fun W => by
    have := bFits_any (w := W) (m := m) (s := s)
    rw [hd] at this
    exact this)
  have HO : Hid (∀ W : World, Calls Try.prog 10 #[.agg #[.int .i64 m, .int .i64 s]] W fun e w' => e = .returned (.agg #[.int .i64 m, .int .i64 s]) ∧ Below W.heap.size W w') := Lib.hid (fun W => of_any (m := m) (s := s))
  clear b0 hd h
  have HB := Lib.hid (sb1 w 23 #[.int .i64 m, .int .i64 s])
  go_enter Try.func3, Try.ntmps3
  go_wp2_with fail
  refine (HK.out _).mono ?_
  rintro e w1 ⟨rfl, hb⟩
  have HB1 := Lib.hid (HB.out.call hb)
  clear hb HB
  have HB := HB1
  clear HB1
  have q0 := HB.out.bk _ (.head _)
  have c00 := q0.cell 0
  have c01 := q0.cell 1
  clear q0
  go_wp2_with fail
  refine (HP.out _).mono ?_
  rintro e w2 ⟨rfl, hb⟩
  clear c00 c01
  have HB2 := Lib.hid (HB.out.call hb)
  clear hb HB
  have HB := HB2
  clear HB2
  have q0 := HB.out.bk _ (.head _)
  have c00 := q0.cell 0
  have c01 := q0.cell 1
  clear q0
  go_wp2_with fail
  refine (HO.out _).mono ?_
  rintro e w3 ⟨rfl, hb⟩
  clear c00 c01
  have HB3 := Lib.hid (HB.out.call hb)
  clear hb HB
  have HB := HB3
  clear HB3
  go_wp2_with fail
  refine (HQ.out _).mono ?_
  rintro e w4 ⟨rfl, hb⟩
  have HB4 := Lib.hid (HB.out.call hb)
  clear hb HB
  have HB := HB4
  clear HB4
  go_wp2_with fail
  refine wp_region_phases (S := (S1 w 1 ([(w.heap.size, 23, #[.int .i64 m, .int .i64 s])] : List (Nat × TypeId × Array Value)) ([(w.heap.size, 23, #[.int .i64 m, .int .i64 s])] : List (Nat × TypeId × Array Value)))) (E := (fun _ _ => True)) [] [(1, Is (.pointer (some ⟨w.heap.size, 0, none⟩))), (2, Is (.bool false)), (3, Is (.int .i64 0)), (4, Is (.int .i64 8)), (5, Is (.int .i64 0)), (6, Is (.int .i64 8))] [(22, Is (.int .i64 8)), (23, Is (.int .i64 8)), (24, Is (.bool false)), (25, Is (.bool false)), (26, Is (.int .i64 0)), (27, Is (.int .i64 0)), (28, Is (.bool false)), (29, Is (.bool false)), (30, Is (.bool false)), (31, Is (.agg #[.int .i64 m, .int .i64 s])), (32, Is (.bool false)), (33, Is (.agg #[.int .i64 m, .int .i64 s])), (34, Is (.agg #[.int .i64 m, .int .i64 s])), (35, Is (.bool false)), (36, Is (.bool false)), (37, Is (.bool false)), (38, Is (.bool false)), (39, Is (.agg #[.int .i64 m, .int .i64 s])), (40, Is (.bool false)), (41, Is (.int .i64 8)), (42, Is (.bool false)), (43, Is (.bool false)), (44, Is (.bool false))]
    [.op [4] none, .op [6] none, .op [22, 23] none, .op [24] none, .op [3, 25] (some (25, false)), .op [5, 25] (some (25, false)), .op [26, 27, 25] (some (25, false)), .op [25, 28] none, .op [29] none, .op [1, 30] (some (30, false)), .op [31, 30] (some (30, false)), .op [1, 30] (some (30, false)), .op [33, 30] (some (30, false)), .op [34, 30] (some (30, false)), .op [32, 35, 30] (some (30, false)), .op [30, 36] none, .op [37] none, .op [1, 38] (some (38, false)), .op [39, 38] (some (38, false)), .op [6, 38] (some (38, false)), .op [41, 38] (some (38, false)), .op [40, 42, 38] (some (38, false)), .op [38, 43] none] (by as_aux_lemma => kernel_rfl) ?_ ?_ ?_ ?_ ?_ ⟨stable_is _ _, stable_is _ _, stable_is _ _, stable_is _ _, stable_is _ _, stable_is _ _, stable_is _ _, stable_is _ _, stable_is _ _, stable_is _ _, stable_is _ _, stable_is _ _, stable_is _ _, stable_is _ _, stable_is _ _, stable_is _ _, stable_is _ _, stable_is _ _, stable_is _ _, stable_is _ _, stable_is _ _, stable_is _ _, stable_is _ _, stable_is _ _, stable_is _ _, stable_is _ _, stable_is _ _, stable_is _ _, stable_is _ _, trivial⟩ ?_ (HB.out.drew) ?_ ?_
  · as_aux_lemma => kernel_rfl
  · as_aux_lemma => kernel_rfl
  · as_aux_lemma => kernel_rfl
  · as_aux_lemma => kernel_rfl
  · as_aux_lemma => kernel_rfl
  · exact ⟨rfl, rfl, rfl, rfl, rfl, rfl, trivial⟩
  · refine ⟨?_, ?_, ?_, ?_, ?_, ?_, ?_, ?_, ?_, ?_, ?_, ?_, ?_, ?_, ?_, ?_, ?_, ?_, ?_, ?_, ?_, ?_, ?_, trivial⟩
    · as_aux_lemma =>
        intro vals a W hS hL
        have e4 : a.tmps.getD 4 undef = .int .i64 8 := hL.1
        clear hL
        go_simp
        exact ⟨⟨fun d hd => by injection hd with hd; subst hd; rfl, fun h => by cases h⟩, hS, trivial⟩
    · as_aux_lemma =>
        intro vals a W hS hL
        have e6 : a.tmps.getD 6 undef = .int .i64 8 := hL.1
        clear hL
        go_simp
        exact ⟨⟨fun d hd => by injection hd with hd; subst hd; rfl, fun h => by cases h⟩, hS, trivial⟩
    · as_aux_lemma =>
        intro vals a W hS hL
        have e22 : a.tmps.getD 22 undef = .int .i64 8 := hL.1
        have e23 : a.tmps.getD 23 undef = .int .i64 8 := hL.2.1
        clear hL
        go_simp
        exact ⟨⟨fun d hd => by injection hd with hd; subst hd; rfl, fun h => by cases h⟩, hS, trivial⟩
    · as_aux_lemma =>
        intro vals a W hS hL
        have e24 : a.tmps.getD 24 undef = .bool false := hL.1
        clear hL
        go_simp
        exact ⟨⟨fun d hd => by injection hd with hd; subst hd; rfl, fun h => by cases h⟩, hS, trivial⟩
    · as_aux_lemma =>
        intro vals a W hS hL
        have e3 : a.tmps.getD 3 undef = .int .i64 0 := hL.1
        have e25 : a.tmps.getD 25 undef = .bool false := hL.2.1
        clear hL
        refine ⟨false, e25, ?_⟩
        rw [if_pos rfl]
        go_simp
        exact ⟨⟨fun d hd => by injection hd with hd; subst hd; rfl, fun h => by cases h⟩, hS, trivial⟩
    · as_aux_lemma =>
        intro vals a W hS hL
        have e5 : a.tmps.getD 5 undef = .int .i64 0 := hL.1
        have e25 : a.tmps.getD 25 undef = .bool false := hL.2.1
        clear hL
        refine ⟨false, e25, ?_⟩
        rw [if_pos rfl]
        go_simp
        exact ⟨⟨fun d hd => by injection hd with hd; subst hd; rfl, fun h => by cases h⟩, hS, trivial⟩
    · as_aux_lemma =>
        intro vals a W hS hL
        have e26 : a.tmps.getD 26 undef = .int .i64 0 := hL.1
        have e27 : a.tmps.getD 27 undef = .int .i64 0 := hL.2.1
        have e25 : a.tmps.getD 25 undef = .bool false := hL.2.2.1
        clear hL
        refine ⟨false, e25, ?_⟩
        rw [if_pos rfl]
        go_simp
        exact ⟨⟨fun d hd => by injection hd with hd; subst hd; rfl, fun h => by cases h⟩, hS, trivial⟩
    · as_aux_lemma =>
        intro vals a W hS hL
        have e25 : a.tmps.getD 25 undef = .bool false := hL.1
        have e28 : a.tmps.getD 28 undef = .bool false := hL.2.1
        clear hL
        go_simp
        exact ⟨⟨fun d hd => by injection hd with hd; subst hd; rfl, fun h => by cases h⟩, hS, trivial⟩
    · as_aux_lemma =>
        intro vals a W hS hL
        have e29 : a.tmps.getD 29 undef = .bool false := hL.1
        clear hL
        go_simp
        exact ⟨⟨fun d hd => by injection hd with hd; subst hd; rfl, fun h => by cases h⟩, hS, trivial⟩
    · as_aux_lemma =>
        intro vals a W hS hL
        have e1 : a.tmps.getD 1 undef = .pointer (some ⟨w.heap.size, 0, none⟩) := hL.1
        have e30 : a.tmps.getD 30 undef = .bool false := hL.2.1
        clear hL
        refine ⟨false, e30, ?_⟩
        rw [if_pos rfl]
        have kb : Bk W w.heap.size 23 #[.int .i64 m, .int .i64 s] := hS.bk (.head _) (.head _)
        have f0 := kb.cell 0
        have f1 := kb.cell 1
        clear kb
        go_simp
        exact ⟨⟨fun d hd => by injection hd with hd; subst hd; rfl, fun h => by cases h⟩, hS, trivial⟩
    · as_aux_lemma =>
        intro vals a W hS hL
        have e31 : a.tmps.getD 31 undef = .agg #[.int .i64 m, .int .i64 s] := hL.1
        have e30 : a.tmps.getD 30 undef = .bool false := hL.2.1
        clear hL
        refine ⟨false, e30, ?_⟩
        rw [if_pos rfl]
        go_simp
        refine (HF.out W).mono ?_
        rintro e W' ⟨rfl, hb⟩
        exact ⟨_, rfl, ⟨fun d hd => by injection hd with hd; subst hd; rfl, fun h => by cases h⟩, hS.call hb, trivial⟩
    · as_aux_lemma =>
        intro vals a W hS hL
        have e1 : a.tmps.getD 1 undef = .pointer (some ⟨w.heap.size, 0, none⟩) := hL.1
        have e30 : a.tmps.getD 30 undef = .bool false := hL.2.1
        clear hL
        refine ⟨false, e30, ?_⟩
        rw [if_pos rfl]
        have kb : Bk W w.heap.size 23 #[.int .i64 m, .int .i64 s] := hS.bk (.head _) (.head _)
        have f0 := kb.cell 0
        have f1 := kb.cell 1
        clear kb
        go_simp
        exact ⟨⟨fun d hd => by injection hd with hd; subst hd; rfl, fun h => by cases h⟩, hS, trivial⟩
    · as_aux_lemma =>
        intro vals a W hS hL
        have e33 : a.tmps.getD 33 undef = .agg #[.int .i64 m, .int .i64 s] := hL.1
        have e30 : a.tmps.getD 30 undef = .bool false := hL.2.1
        clear hL
        refine ⟨false, e30, ?_⟩
        rw [if_pos rfl]
        go_simp
        refine (HO.out W).mono ?_
        rintro e W' ⟨rfl, hb⟩
        exact ⟨_, rfl, ⟨fun d hd => by injection hd with hd; subst hd; rfl, fun h => by cases h⟩, hS.call hb, trivial⟩
    · as_aux_lemma =>
        intro vals a W hS hL
        have e34 : a.tmps.getD 34 undef = .agg #[.int .i64 m, .int .i64 s] := hL.1
        have e30 : a.tmps.getD 30 undef = .bool false := hL.2.1
        clear hL
        refine ⟨false, e30, ?_⟩
        rw [if_pos rfl]
        go_simp
        refine (HG.out W).mono ?_
        rintro e W' ⟨rfl, hb⟩
        exact ⟨_, rfl, ⟨fun d hd => by injection hd with hd; subst hd; rfl, fun h => by cases h⟩, hS.call hb, trivial⟩
    · as_aux_lemma =>
        intro vals a W hS hL
        have e32 : a.tmps.getD 32 undef = .bool false := hL.1
        have e35 : a.tmps.getD 35 undef = .bool false := hL.2.1
        have e30 : a.tmps.getD 30 undef = .bool false := hL.2.2.1
        clear hL
        refine ⟨false, e30, ?_⟩
        rw [if_pos rfl]
        go_simp
        exact ⟨⟨fun d hd => by injection hd with hd; subst hd; rfl, fun h => by cases h⟩, hS, trivial⟩
    · as_aux_lemma =>
        intro vals a W hS hL
        have e30 : a.tmps.getD 30 undef = .bool false := hL.1
        have e36 : a.tmps.getD 36 undef = .bool false := hL.2.1
        clear hL
        go_simp
        exact ⟨⟨fun d hd => by injection hd with hd; subst hd; rfl, fun h => by cases h⟩, hS, trivial⟩
    · as_aux_lemma =>
        intro vals a W hS hL
        have e37 : a.tmps.getD 37 undef = .bool false := hL.1
        clear hL
        go_simp
        exact ⟨⟨fun d hd => by injection hd with hd; subst hd; rfl, fun h => by cases h⟩, hS, trivial⟩
    · as_aux_lemma =>
        intro vals a W hS hL
        have e1 : a.tmps.getD 1 undef = .pointer (some ⟨w.heap.size, 0, none⟩) := hL.1
        have e38 : a.tmps.getD 38 undef = .bool false := hL.2.1
        clear hL
        refine ⟨false, e38, ?_⟩
        rw [if_pos rfl]
        have kb : Bk W w.heap.size 23 #[.int .i64 m, .int .i64 s] := hS.bk (.head _) (.head _)
        have f0 := kb.cell 0
        have f1 := kb.cell 1
        clear kb
        go_simp
        exact ⟨⟨fun d hd => by injection hd with hd; subst hd; rfl, fun h => by cases h⟩, hS, trivial⟩
    · as_aux_lemma =>
        intro vals a W hS hL
        have e39 : a.tmps.getD 39 undef = .agg #[.int .i64 m, .int .i64 s] := hL.1
        have e38 : a.tmps.getD 38 undef = .bool false := hL.2.1
        clear hL
        refine ⟨false, e38, ?_⟩
        rw [if_pos rfl]
        go_simp
        refine (HF.out W).mono ?_
        rintro e W' ⟨rfl, hb⟩
        exact ⟨_, rfl, ⟨fun d hd => by injection hd with hd; subst hd; rfl, fun h => by cases h⟩, hS.call hb, trivial⟩
    · as_aux_lemma =>
        intro vals a W hS hL
        have e6 : a.tmps.getD 6 undef = .int .i64 8 := hL.1
        have e38 : a.tmps.getD 38 undef = .bool false := hL.2.1
        clear hL
        refine ⟨false, e38, ?_⟩
        rw [if_pos rfl]
        go_simp
        exact ⟨⟨fun d hd => by injection hd with hd; subst hd; rfl, fun h => by cases h⟩, hS, trivial⟩
    · as_aux_lemma =>
        intro vals a W hS hL
        have e41 : a.tmps.getD 41 undef = .int .i64 8 := hL.1
        have e38 : a.tmps.getD 38 undef = .bool false := hL.2.1
        clear hL
        refine ⟨false, e38, ?_⟩
        rw [if_pos rfl]
        go_simp
        exact ⟨⟨fun d hd => by injection hd with hd; subst hd; rfl, fun h => by cases h⟩, hS, trivial⟩
    · as_aux_lemma =>
        intro vals a W hS hL
        have e40 : a.tmps.getD 40 undef = .bool false := hL.1
        have e42 : a.tmps.getD 42 undef = .bool false := hL.2.1
        have e38 : a.tmps.getD 38 undef = .bool false := hL.2.2.1
        clear hL
        refine ⟨false, e38, ?_⟩
        rw [if_pos rfl]
        go_simp
        exact ⟨⟨fun d hd => by injection hd with hd; subst hd; rfl, fun h => by cases h⟩, hS, trivial⟩
    · as_aux_lemma =>
        intro vals a W hS hL
        have e38 : a.tmps.getD 38 undef = .bool false := hL.1
        have e43 : a.tmps.getD 43 undef = .bool false := hL.2.1
        clear hL
        go_simp
        exact ⟨⟨fun d hd => by injection hd with hd; subst hd; rfl, fun h => by cases h⟩, hS, trivial⟩
  · intro a W' vals hd hsz hT hF hv hP hS
    obtain rfl : vals = [] := List.eq_nil_of_length_eq_zero hv
    have hB : SB w 1 ([(w.heap.size, 23, #[.int .i64 m, .int .i64 s])] : List (Nat × TypeId × Array Value)) W' := hS
    clear hS
    have e1 : a.tmps.getD 1 undef = .pointer (some ⟨w.heap.size, 0, none⟩) := hT 1 (by simp)
    have e3 : a.tmps.getD 3 undef = .int .i64 0 := hT 3 (by simp)
    have e6 : a.tmps.getD 6 undef = .int .i64 8 := hT 6 (by simp)
    have e44 : a.tmps.getD 44 undef = .bool false := hT 44 (by simp)
    clear hT hF hP
    rw [act_lit 67 a hd hsz]
    simp only [List.range, List.range.loop, List.map, e1, e3, e6, e44]
    clear e1 e3 e6 e44
    have hbel := hB.bel
    clear hB HF HG HO HP HQ HK HB
    go_wp2
    go_ret
    exact ⟨rfl, hbel⟩

theorem packs_any {w : World} {m s : Int} :
    Calls Try.prog 3 #[.agg #[.int .i64 m, .int .i64 s]] w fun e w' => e = .returned (.bool true) ∧ Below w.heap.size w w' := by
  rcases rk_cases m s with h | h | h
  · exact packs_0 h
  · exact packs_1 h
  · exact packs_8 h
end Go.Proofs.Ytafdbdkggogigaa
