/- cashbooklaw5.RkUnpacks by its contract: it returns true. No condition. -/
import Derived.Test.YtafdbdkggogigaaRkNum
namespace Go.Proofs.Ytafdbdkggogigaa
open Go.RowKit

set_option maxRecDepth 100000 in
set_option maxHeartbeats 2000000 in
theorem unpacks_0 {w : World} {n : Int} (h : uE n = 0) :
    Calls Try.prog 4 #[.int .i64 n] w fun e w' => e = .returned (.bool true) ∧ Below w.heap.size w w' := by
  have HK := Lib.hid (fun W : World => known5_any W)
  obtain ⟨b1, b2⟩ := u_back h
  have b3 : uV n = .agg #[.int .i64 (uM n), .int .i64 (uS n)] := by unfold uV; rw [if_pos h]
  have HP : Hid (∀ W : World, Calls Try.prog 8 #[.agg #[.int .i64 (uM n), .int .i64 (uS n)]] W fun e w' => e = .returned (.tuple #[.int .i64 n, .int .i64 0]) ∧ Below W.heap.size W w') := Lib.hid (fun W => by
    have := pack_any (w := W) (m := uM n) (s := uS n)
    rw [b1] at this
    rw [b2] at this
    exact this)
  have HU : Hid (∀ W : World, Calls Try.prog 13 #[.int .i64 n] W fun e w' => e = .returned (.tuple #[.agg #[.int .i64 (uM n), .int .i64 (uS n)], .int .i64 0]) ∧ Below W.heap.size W w') := Lib.hid (fun W => by
    have := unpack_any (w := W) (n := n)
    rw [b3] at this
    rw [h] at this
    exact this)
  have HV : Hid (∀ W : World, Calls Try.prog 14 #[.int .i64 n] W fun e w' => e = .returned (.tuple #[.agg #[.int .i64 (uM n), .int .i64 (uS n)], .int .i64 0]) ∧ Below W.heap.size W w') := Lib.hid (fun W => by
    have := bUnpack_any (w := W) (n := n)
    rw [b3] at this
    rw [h] at this
    exact this)
  have HO : Hid (∀ W : World, Calls Try.prog 10 #[.agg #[.int .i64 (uM n), .int .i64 (uS n)]] W fun e w' => e = .returned (.agg #[.int .i64 (uM n), .int .i64 (uS n)]) ∧ Below W.heap.size W w') := Lib.hid (fun W => of_any (m := (uM n)) (s := (uS n)))
  clear b1 b2 b3 h
  generalize uM n = m at *
  generalize uS n = s at *
  have HB : Hid (SB w 0 [] w) := Lib.hid ⟨Below.refl _ _, Nat.le_refl _, fun x hx => by cases hx⟩
  go_enter Try.func4, Try.ntmps4
  go_wp2_with fail
  refine (HK.out _).mono ?_
  rintro e w1 ⟨rfl, hb⟩
  have HB1 := Lib.hid (HB.out.call hb)
  clear hb HB
  have HB := HB1
  clear HB1
  go_wp2_with fail
  refine (HU.out _).mono ?_
  rintro e w2 ⟨rfl, hb⟩
  have HB2 := Lib.hid ((HB.out.call hb).alloc 23 #[.int .i64 m, .int .i64 s])
  clear hb HB
  have HB := HB2
  clear HB2
  go_wp2_with fail
  refine (HV.out _).mono ?_
  rintro e w3 ⟨rfl, hb⟩
  have HB3 := Lib.hid ((HB.out.call hb).alloc 30 #[.int .i64 m, .int .i64 s])
  clear hb HB
  have HB := HB3
  clear HB3
  go_wp2_with fail
  refine wp_region_phases (S := (S1 w 0 ([(w3.heap.size, 30, #[.int .i64 m, .int .i64 s]), (w2.heap.size, 23, #[.int .i64 m, .int .i64 s])] : List (Nat × TypeId × Array Value)) ([(w3.heap.size, 30, #[.int .i64 m, .int .i64 s]), (w2.heap.size, 23, #[.int .i64 m, .int .i64 s])] : List (Nat × TypeId × Array Value)))) (E := (fun _ _ => True)) [] [(0, Is (.int .i64 n)), (2, Is (.bool false)), (3, Is (.pointer (some ⟨w2.heap.size, 0, none⟩))), (4, Is (.int .i64 0)), (5, Is (.pointer (some ⟨w3.heap.size, 0, none⟩))), (6, Is (.int .i64 0))] [(21, Is (.int .i64 0)), (22, Is (.int .i64 0)), (23, Is (.bool false)), (24, Is (.bool false)), (25, Is (.agg #[.int .i64 m, .int .i64 s])), (26, Is (.agg #[.int .i64 m, .int .i64 s])), (27, Is (.agg #[.int .i64 m, .int .i64 s])), (28, Is (.bool false)), (29, Is (.bool false))]
    [.op [4] none, .op [6] none, .op [21, 22] none, .op [23] none, .op [3, 24] (some (24, false)), .op [25, 24] (some (24, false)), .op [5, 24] (some (24, false)), .op [26, 27, 24] (some (24, false)), .op [24, 28] none] (by as_aux_lemma => kernel_rfl) ?_ ?_ ?_ ?_ ?_ ⟨stable_is _ _, stable_is _ _, stable_is _ _, stable_is _ _, stable_is _ _, stable_is _ _, stable_is _ _, stable_is _ _, stable_is _ _, stable_is _ _, stable_is _ _, stable_is _ _, stable_is _ _, stable_is _ _, stable_is _ _, trivial⟩ ?_ (HB.out.drew) ?_ ?_
  · as_aux_lemma => kernel_rfl
  · as_aux_lemma => kernel_rfl
  · as_aux_lemma => kernel_rfl
  · as_aux_lemma => kernel_rfl
  · as_aux_lemma => kernel_rfl
  · exact ⟨rfl, rfl, rfl, rfl, rfl, rfl, trivial⟩
  · refine ⟨?_, ?_, ?_, ?_, ?_, ?_, ?_, ?_, ?_, trivial⟩
    · as_aux_lemma =>
        intro vals a W hS hL
        have e4 : a.tmps.getD 4 undef = .int .i64 0 := hL.1
        clear hL
        go_simp
        exact ⟨⟨fun d hd => by injection hd with hd; subst hd; rfl, fun h => by cases h⟩, hS, trivial⟩
    · as_aux_lemma =>
        intro vals a W hS hL
        have e6 : a.tmps.getD 6 undef = .int .i64 0 := hL.1
        clear hL
        go_simp
        exact ⟨⟨fun d hd => by injection hd with hd; subst hd; rfl, fun h => by cases h⟩, hS, trivial⟩
    · as_aux_lemma =>
        intro vals a W hS hL
        have e21 : a.tmps.getD 21 undef = .int .i64 0 := hL.1
        have e22 : a.tmps.getD 22 undef = .int .i64 0 := hL.2.1
        clear hL
        go_simp
        exact ⟨⟨fun d hd => by injection hd with hd; subst hd; rfl, fun h => by cases h⟩, hS, trivial⟩
    · as_aux_lemma =>
        intro vals a W hS hL
        have e23 : a.tmps.getD 23 undef = .bool false := hL.1
        clear hL
        go_simp
        exact ⟨⟨fun d hd => by injection hd with hd; subst hd; rfl, fun h => by cases h⟩, hS, trivial⟩
    · as_aux_lemma =>
        intro vals a W hS hL
        have e3 : a.tmps.getD 3 undef = .pointer (some ⟨w2.heap.size, 0, none⟩) := hL.1
        have e24 : a.tmps.getD 24 undef = .bool false := hL.2.1
        clear hL
        refine ⟨false, e24, ?_⟩
        rw [if_pos rfl]
        have kb : Bk W w2.heap.size 23 #[.int .i64 m, .int .i64 s] := hS.bk (.tail _ (.head _)) (.tail _ (.head _))
        have f0 := kb.cell 0
        have f1 := kb.cell 1
        clear kb
        go_simp
        exact ⟨⟨fun d hd => by injection hd with hd; subst hd; rfl, fun h => by cases h⟩, hS, trivial⟩
    · as_aux_lemma =>
        intro vals a W hS hL
        have e25 : a.tmps.getD 25 undef = .agg #[.int .i64 m, .int .i64 s] := hL.1
        have e24 : a.tmps.getD 24 undef = .bool false := hL.2.1
        clear hL
        refine ⟨false, e24, ?_⟩
        rw [if_pos rfl]
        go_simp
        refine (HO.out W).mono ?_
        rintro e W' ⟨rfl, hb⟩
        exact ⟨_, rfl, ⟨fun d hd => by injection hd with hd; subst hd; rfl, fun h => by cases h⟩, hS.call hb, trivial⟩
    · as_aux_lemma =>
        intro vals a W hS hL
        have e5 : a.tmps.getD 5 undef = .pointer (some ⟨w3.heap.size, 0, none⟩) := hL.1
        have e24 : a.tmps.getD 24 undef = .bool false := hL.2.1
        clear hL
        refine ⟨false, e24, ?_⟩
        rw [if_pos rfl]
        have kb : Bk W w3.heap.size 30 #[.int .i64 m, .int .i64 s] := hS.bk (.head _) (.head _)
        have f0 := kb.cell 0
        have f1 := kb.cell 1
        clear kb
        go_simp
        exact ⟨⟨fun d hd => by injection hd with hd; subst hd; rfl, fun h => by cases h⟩, hS, trivial⟩
    · as_aux_lemma =>
        intro vals a W hS hL
        have e26 : a.tmps.getD 26 undef = .agg #[.int .i64 m, .int .i64 s] := hL.1
        have e27 : a.tmps.getD 27 undef = .agg #[.int .i64 m, .int .i64 s] := hL.2.1
        have e24 : a.tmps.getD 24 undef = .bool false := hL.2.2.1
        clear hL
        refine ⟨false, e24, ?_⟩
        rw [if_pos rfl]
        go_simp
        exact ⟨⟨fun d hd => by injection hd with hd; subst hd; rfl, fun h => by cases h⟩, hS, trivial⟩
    · as_aux_lemma =>
        intro vals a W hS hL
        have e24 : a.tmps.getD 24 undef = .bool false := hL.1
        have e28 : a.tmps.getD 28 undef = .bool false := hL.2.1
        clear hL
        go_simp
        exact ⟨⟨fun d hd => by injection hd with hd; subst hd; rfl, fun h => by cases h⟩, hS, trivial⟩
  · intro a W' vals hd hsz hT hF hv hP hS
    obtain rfl : vals = [] := List.eq_nil_of_length_eq_zero hv
    have hB : SB w 0 ([(w3.heap.size, 30, #[.int .i64 m, .int .i64 s]), (w2.heap.size, 23, #[.int .i64 m, .int .i64 s])] : List (Nat × TypeId × Array Value)) W' := hS
    clear hS
    have e0 : a.tmps.getD 0 undef = .int .i64 n := hT 0 (by simp)
    have e3 : a.tmps.getD 3 undef = .pointer (some ⟨w2.heap.size, 0, none⟩) := hT 3 (by simp)
    have e6 : a.tmps.getD 6 undef = .int .i64 0 := hT 6 (by simp)
    have e29 : a.tmps.getD 29 undef = .bool false := hT 29 (by simp)
    clear hT hF hP
    rw [act_lit 44 a hd hsz]
    simp only [List.range, List.range.loop, List.map, e0, e3, e6, e29]
    clear e0 e3 e6 e29
    have k7 := hB.bk _ (.tail _ (.head _))
    have c70 := k7.cell 0
    have c71 := k7.cell 1
    clear k7
    have HB2 := Lib.hid hB
    clear hB HO HU HV HK HB
    go_wp2_with fail
    refine (HP.out _).mono ?_
    rintro e w4 ⟨rfl, hb⟩
    have hbel := (HB2.out.call hb).bel
    clear hb HB2 HP
    go_wp2
    go_ret
    exact ⟨rfl, hbel⟩

set_option maxRecDepth 100000 in
set_option maxHeartbeats 2000000 in
theorem unpacks_1 {w : World} {n : Int} (h : uE n = 1) :
    Calls Try.prog 4 #[.int .i64 n] w fun e w' => e = .returned (.bool true) ∧ Below w.heap.size w w' := by
  have HK := Lib.hid (fun W : World => known5_any W)
  have b3 : uV n = .agg #[.int .i64 0, .int .i64 0] := by unfold uV; rw [if_neg (by rw [h]; decide)]
  have HU : Hid (∀ W : World, Calls Try.prog 13 #[.int .i64 n] W fun e w' => e = .returned (.tuple #[.agg #[.int .i64 0, .int .i64 0], .int .i64 1]) ∧ Below W.heap.size W w') := Lib.hid (fun W => by
    have := unpack_any (w := W) (n := n)
    rw [b3] at this
    rw [h] at this
    exact this)
  have HV : Hid (∀ W : World, Calls Try.prog 14 #[.int .i64 n] W fun e w' => e = .returned (.tuple #[.agg #[.int .i64 0, .int .i64 0], .int .i64 1]) ∧ Below W.heap.size W w') := Lib.hid (fun W => by
    have := bUnpack_any (w := W) (n := n)
    rw [b3] at this
    rw [h] at this
    exact this)
  have HO : Hid (∀ W : World, Calls Try.prog 10 #[.agg #[.int .i64 0, .int .i64 0]] W fun e w' => e = .returned (.agg #[.int .i64 0, .int .i64 0]) ∧ Below W.heap.size W w') := Lib.hid (fun W => of_any (m := 0) (s := 0))
  clear b3 h
  have HB : Hid (SB w 0 [] w) := Lib.hid ⟨Below.refl _ _, Nat.le_refl _, fun x hx => by cases hx⟩
  go_enter Try.func4, Try.ntmps4
  go_wp2_with fail
  refine (HK.out _).mono ?_
  rintro e w1 ⟨rfl, hb⟩
  have HB1 := Lib.hid (HB.out.call hb)
  clear hb HB
  have HB := HB1
  clear HB1
  go_wp2_with fail
  refine (HU.out _).mono ?_
  rintro e w2 ⟨rfl, hb⟩
  have HB2 := Lib.hid ((HB.out.call hb).alloc 23 #[.int .i64 0, .int .i64 0])
  clear hb HB
  have HB := HB2
  clear HB2
  go_wp2_with fail
  refine (HV.out _).mono ?_
  rintro e w3 ⟨rfl, hb⟩
  have HB3 := Lib.hid ((HB.out.call hb).alloc 30 #[.int .i64 0, .int .i64 0])
  clear hb HB
  have HB := HB3
  clear HB3
  go_wp2_with fail
  refine wp_region_phases (S := (S1 w 0 ([(w3.heap.size, 30, #[.int .i64 0, .int .i64 0]), (w2.heap.size, 23, #[.int .i64 0, .int .i64 0])] : List (Nat × TypeId × Array Value)) ([(w3.heap.size, 30, #[.int .i64 0, .int .i64 0]), (w2.heap.size, 23, #[.int .i64 0, .int .i64 0])] : List (Nat × TypeId × Array Value)))) (E := (fun _ _ => True)) [] [(0, Is (.int .i64 n)), (2, Is (.bool false)), (3, Is (.pointer (some ⟨w2.heap.size, 0, none⟩))), (4, Is (.int .i64 1)), (5, Is (.pointer (some ⟨w3.heap.size, 0, none⟩))), (6, Is (.int .i64 1))] [(21, Is (.int .i64 1)), (22, Is (.int .i64 1)), (23, Is (.bool false)), (24, Is (.bool false)), (25, Is (.agg #[.int .i64 0, .int .i64 0])), (26, Is (.agg #[.int .i64 0, .int .i64 0])), (27, Is (.agg #[.int .i64 0, .int .i64 0])), (28, Is (.bool false)), (29, Is (.bool false))]
    [.op [4] none, .op [6] none, .op [21, 22] none, .op [23] none, .op [3, 24] (some (24, false)), .op [25, 24] (some (24, false)), .op [5, 24] (some (24, false)), .op [26, 27, 24] (some (24, false)), .op [24, 28] none] (by as_aux_lemma => kernel_rfl) ?_ ?_ ?_ ?_ ?_ ⟨stable_is _ _, stable_is _ _, stable_is _ _, stable_is _ _, stable_is _ _, stable_is _ _, stable_is _ _, stable_is _ _, stable_is _ _, stable_is _ _, stable_is _ _, stable_is _ _, stable_is _ _, stable_is _ _, stable_is _ _, trivial⟩ ?_ (HB.out.drew) ?_ ?_
  · as_aux_lemma => kernel_rfl
  · as_aux_lemma => kernel_rfl
  · as_aux_lemma => kernel_rfl
  · as_aux_lemma => kernel_rfl
  · as_aux_lemma => kernel_rfl
  · exact ⟨rfl, rfl, rfl, rfl, rfl, rfl, trivial⟩
  · refine ⟨?_, ?_, ?_, ?_, ?_, ?_, ?_, ?_, ?_, trivial⟩
    · as_aux_lemma =>
        intro vals a W hS hL
        have e4 : a.tmps.getD 4 undef = .int .i64 1 := hL.1
        clear hL
        go_simp
        exact ⟨⟨fun d hd => by injection hd with hd; subst hd; rfl, fun h => by cases h⟩, hS, trivial⟩
    · as_aux_lemma =>
        intro vals a W hS hL
        have e6 : a.tmps.getD 6 undef = .int .i64 1 := hL.1
        clear hL
        go_simp
        exact ⟨⟨fun d hd => by injection hd with hd; subst hd; rfl, fun h => by cases h⟩, hS, trivial⟩
    · as_aux_lemma =>
        intro vals a W hS hL
        have e21 : a.tmps.getD 21 undef = .int .i64 1 := hL.1
        have e22 : a.tmps.getD 22 undef = .int .i64 1 := hL.2.1
        clear hL
        go_simp
        exact ⟨⟨fun d hd => by injection hd with hd; subst hd; rfl, fun h => by cases h⟩, hS, trivial⟩
    · as_aux_lemma =>
        intro vals a W hS hL
        have e23 : a.tmps.getD 23 undef = .bool false := hL.1
        clear hL
        go_simp
        exact ⟨⟨fun d hd => by injection hd with hd; subst hd; rfl, fun h => by cases h⟩, hS, trivial⟩
    · as_aux_lemma =>
        intro vals a W hS hL
        have e3 : a.tmps.getD 3 undef = .pointer (some ⟨w2.heap.size, 0, none⟩) := hL.1
        have e24 : a.tmps.getD 24 undef = .bool false := hL.2.1
        clear hL
        refine ⟨false, e24, ?_⟩
        rw [if_pos rfl]
        have kb : Bk W w2.heap.size 23 #[.int .i64 0, .int .i64 0] := hS.bk (.tail _ (.head _)) (.tail _ (.head _))
        have f0 := kb.cell 0
        have f1 := kb.cell 1
        clear kb
        go_simp
        exact ⟨⟨fun d hd => by injection hd with hd; subst hd; rfl, fun h => by cases h⟩, hS, trivial⟩
    · as_aux_lemma =>
        intro vals a W hS hL
        have e25 : a.tmps.getD 25 undef = .agg #[.int .i64 0, .int .i64 0] := hL.1
        have e24 : a.tmps.getD 24 undef = .bool false := hL.2.1
        clear hL
        refine ⟨false, e24, ?_⟩
        rw [if_pos rfl]
        go_simp
        refine (HO.out W).mono ?_
        rintro e W' ⟨rfl, hb⟩
        exact ⟨_, rfl, ⟨fun d hd => by injection hd with hd; subst hd; rfl, fun h => by cases h⟩, hS.call hb, trivial⟩
    · as_aux_lemma =>
        intro vals a W hS hL
        have e5 : a.tmps.getD 5 undef = .pointer (some ⟨w3.heap.size, 0, none⟩) := hL.1
        have e24 : a.tmps.getD 24 undef = .bool false := hL.2.1
        clear hL
        refine ⟨false, e24, ?_⟩
        rw [if_pos rfl]
        have kb : Bk W w3.heap.size 30 #[.int .i64 0, .int .i64 0] := hS.bk (.head _) (.head _)
        have f0 := kb.cell 0
        have f1 := kb.cell 1
        clear kb
        go_simp
        exact ⟨⟨fun d hd => by injection hd with hd; subst hd; rfl, fun h => by cases h⟩, hS, trivial⟩
    · as_aux_lemma =>
        intro vals a W hS hL
        have e26 : a.tmps.getD 26 undef = .agg #[.int .i64 0, .int .i64 0] := hL.1
        have e27 : a.tmps.getD 27 undef = .agg #[.int .i64 0, .int .i64 0] := hL.2.1
        have e24 : a.tmps.getD 24 undef = .bool false := hL.2.2.1
        clear hL
        refine ⟨false, e24, ?_⟩
        rw [if_pos rfl]
        go_simp
        exact ⟨⟨fun d hd => by injection hd with hd; subst hd; rfl, fun h => by cases h⟩, hS, trivial⟩
    · as_aux_lemma =>
        intro vals a W hS hL
        have e24 : a.tmps.getD 24 undef = .bool false := hL.1
        have e28 : a.tmps.getD 28 undef = .bool false := hL.2.1
        clear hL
        go_simp
        exact ⟨⟨fun d hd => by injection hd with hd; subst hd; rfl, fun h => by cases h⟩, hS, trivial⟩
  · intro a W' vals hd hsz hT hF hv hP hS
    obtain rfl : vals = [] := List.eq_nil_of_length_eq_zero hv
    have hB : SB w 0 ([(w3.heap.size, 30, #[.int .i64 0, .int .i64 0]), (w2.heap.size, 23, #[.int .i64 0, .int .i64 0])] : List (Nat × TypeId × Array Value)) W' := hS
    clear hS
    have e0 : a.tmps.getD 0 undef = .int .i64 n := hT 0 (by simp)
    have e3 : a.tmps.getD 3 undef = .pointer (some ⟨w2.heap.size, 0, none⟩) := hT 3 (by simp)
    have e6 : a.tmps.getD 6 undef = .int .i64 1 := hT 6 (by simp)
    have e29 : a.tmps.getD 29 undef = .bool false := hT 29 (by simp)
    clear hT hF hP
    rw [act_lit 44 a hd hsz]
    simp only [List.range, List.range.loop, List.map, e0, e3, e6, e29]
    clear e0 e3 e6 e29
    have hbel := hB.bel
    clear hB HO HU HV HK HB
    go_wp2
    go_ret
    exact ⟨rfl, hbel⟩

theorem unpacks_any {w : World} {n : Int} :
    Calls Try.prog 4 #[.int .i64 n] w fun e w' => e = .returned (.bool true) ∧ Below w.heap.size w w' := by
  rcases u_cases n with h | h
  · exact unpacks_0 h
  · exact unpacks_1 h
end Go.Proofs.Ytafdbdkggogigaa
