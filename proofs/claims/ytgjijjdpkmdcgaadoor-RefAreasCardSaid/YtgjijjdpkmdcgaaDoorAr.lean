/- OfArea, CheckArea, and the reference's own, by their contracts. No condition. -/
import Derived.Test.YtgjijjdpkmdcgaaDoorBox22
import Derived.Test.YtgjijjdpkmdcgaaDoorGd
namespace Go.Proofs.YtgjijjdpkmdcgaaDoor
open Go.RowKit

set_option maxRecDepth 20000 in
set_option maxHeartbeats 2000000 in
theorem ofArea_any {w : World} (r1 c1 r2 c2 : Int) (x1 y1 x2 y2 : Bool) :
    Calls Tryd.prog 22 #[.agg #[.int .i64 r1, .int .i64 c1, .bool x1, .bool y1, .int .i64 r2, .int .i64 c2, .bool x2, .bool y2]] w fun e w' => e = .returned (.agg #[.int .i64 r1, .int .i64 c1, .bool x1, .bool y1, .int .i64 r2, .int .i64 c2, .bool x2, .bool y2]) ∧ Below w.heap.size w w' := by
  have HB : Hid (SB w 2 ([(w.heap.size + 1, 48, #[.int .i64 0, .int .i64 0, .bool false, .bool false, .int .i64 0, .int .i64 0, .bool false, .bool false]), (w.heap.size, 42, #[.int .i64 r1, .int .i64 c1, .bool x1, .bool y1, .int .i64 r2, .int .i64 c2, .bool x2, .bool y2])] : List (Nat × TypeId × Array Value)) ((w.alloc (.cells #[.int .i64 r1, .int .i64 c1, .bool x1, .bool y1, .int .i64 r2, .int .i64 c2, .bool x2, .bool y2] 42)).alloc (.cells #[.int .i64 0, .int .i64 0, .bool false, .bool false, .int .i64 0, .int .i64 0, .bool false, .bool false] 48))) := Lib.hid ((sb1 w 42 #[.int .i64 r1, .int .i64 c1, .bool x1, .bool y1, .int .i64 r2, .int .i64 c2, .bool x2, .bool y2]).push (by simp) 48 #[.int .i64 0, .int .i64 0, .bool false, .bool false, .int .i64 0, .int .i64 0, .bool false, .bool false])
  go_enter Tryd.func22, Tryd.ntmps22
  go_wp2_with fail
  refine wp_region_phases (S := (fun vals W => SX w 2 ([.put 0 #[.int .i64 r1, .int .i64 c1, .bool x1, .bool y1, .int .i64 r2, .int .i64 c2, .bool x2, .bool y2]] : List Stp) vals ([(w.heap.size + 1, 48, #[.int .i64 0, .int .i64 0, .bool false, .bool false, .int .i64 0, .int .i64 0, .bool false, .bool false]), (w.heap.size, 42, #[.int .i64 r1, .int .i64 c1, .bool x1, .bool y1, .int .i64 r2, .int .i64 c2, .bool x2, .bool y2])] : List (Nat × TypeId × Array Value)) W)) (E := (fun _ _ => True)) [7] [(1, Is (.pointer (some ⟨w.heap.size, 0, none⟩))), (2, Is (.pointer (some ⟨w.heap.size + 1, 0, none⟩)))] [(3, Is (.pointer (some ⟨w.heap.size, 0, none⟩))), (4, Is (.agg #[.int .i64 r1, .int .i64 c1, .bool x1, .bool y1])), (5, Is (.agg #[.int .i64 r1, .int .i64 c1, .bool x1, .bool y1])), (6, Is (.pointer (some ⟨w.heap.size, 4, none⟩))), (7, Is (.agg #[.int .i64 r2, .int .i64 c2, .bool x2, .bool y2])), (8, Is (.agg #[.int .i64 r2, .int .i64 c2, .bool x2, .bool y2])), (9, Is (.agg #[.int .i64 r1, .int .i64 c1, .bool x1, .bool y1, .int .i64 r2, .int .i64 c2, .bool x2, .bool y2]))]
    [.op [1] none, .op [3] none, .op [4] none, .op [1] none, .op [6] none, .op [7] none, .op [5, 8] none, .phase 0 [2, 9] []] (by as_aux_lemma => kernel_rfl) ?_ ?_ ?_ ?_ ?_ ⟨stable_is _ _, stable_is _ _, stable_is _ _, stable_is _ _, stable_is _ _, stable_is _ _, stable_is _ _, stable_is _ _, stable_is _ _, trivial⟩ ?_ (HB.out.drew) ?_ ?_
  · as_aux_lemma => kernel_rfl
  · as_aux_lemma => kernel_rfl
  · as_aux_lemma => kernel_rfl
  · as_aux_lemma => kernel_rfl
  · as_aux_lemma => kernel_rfl
  · exact ⟨rfl, rfl, trivial⟩
  · refine ⟨?_, ?_, ?_, ?_, ?_, ?_, ?_, ?_, trivial⟩
    · as_aux_lemma =>
        intro vals a W hS hL
        have e1 : a.tmps.getD 1 undef = .pointer (some ⟨w.heap.size, 0, none⟩) := hL.1
        clear hL
        go_simp
        exact ⟨⟨fun d hd => by injection hd with hd; subst hd; rfl, fun h => by cases h⟩, hS, trivial⟩
    · as_aux_lemma =>
        intro vals a W hS hL
        have e3 : a.tmps.getD 3 undef = .pointer (some ⟨w.heap.size, 0, none⟩) := hL.1
        clear hL
        have kb : Bk W (w.heap.size) 42 #[.int .i64 r1, .int .i64 c1, .bool x1, .bool y1, .int .i64 r2, .int .i64 c2, .bool x2, .bool y2] := hS.bk 1 rfl rfl
        have f0 := kb.cell 0
        have f1 := kb.cell 1
        have f2 := kb.cell 2
        have f3 := kb.cell 3
        clear kb
        go_simp
        exact ⟨⟨fun d hd => by injection hd with hd; subst hd; rfl, fun h => by cases h⟩, hS, trivial⟩
    · as_aux_lemma =>
        intro vals a W hS hL
        have e4 : a.tmps.getD 4 undef = .agg #[.int .i64 r1, .int .i64 c1, .bool x1, .bool y1] := hL.1
        clear hL
        go_simp
        refine (of_any r1 c1 x1 y1).mono ?_
        rintro e W' ⟨rfl, hb⟩
        exact ⟨_, rfl, ⟨fun d hd => by injection hd with hd; subst hd; rfl, fun h => by cases h⟩, hS.call hb, trivial⟩
    · as_aux_lemma =>
        intro vals a W hS hL
        have e1 : a.tmps.getD 1 undef = .pointer (some ⟨w.heap.size, 0, none⟩) := hL.1
        clear hL
        go_simp
        exact ⟨⟨fun d hd => by injection hd with hd; subst hd; rfl, fun h => by cases h⟩, hS, trivial⟩
    · as_aux_lemma =>
        intro vals a W hS hL
        have e6 : a.tmps.getD 6 undef = .pointer (some ⟨w.heap.size, 4, none⟩) := hL.1
        clear hL
        have kb : Bk W (w.heap.size) 42 #[.int .i64 r1, .int .i64 c1, .bool x1, .bool y1, .int .i64 r2, .int .i64 c2, .bool x2, .bool y2] := hS.bk 1 rfl rfl
        have f4 := kb.cell 4
        have f5 := kb.cell 5
        have f6 := kb.cell 6
        have f7 := kb.cell 7
        clear kb
        go_simp
        exact ⟨⟨fun d hd => by injection hd with hd; subst hd; rfl, fun h => by cases h⟩, hS, trivial⟩
    · as_aux_lemma =>
        intro vals a W hS hL
        have e7 : a.tmps.getD 7 undef = .agg #[.int .i64 r2, .int .i64 c2, .bool x2, .bool y2] := hL.1
        clear hL
        go_simp
        refine (of_any r2 c2 x2 y2).mono ?_
        rintro e W' ⟨rfl, hb⟩
        exact ⟨_, rfl, ⟨fun d hd => by injection hd with hd; subst hd; rfl, fun h => by cases h⟩, hS.call hb, trivial⟩
    · skip
      intro vals a W hS hL
      have e5 : a.tmps.getD 5 undef = .agg #[.int .i64 r1, .int .i64 c1, .bool x1, .bool y1] := hL.1
      have e8 : a.tmps.getD 8 undef = .agg #[.int .i64 r2, .int .i64 c2, .bool x2, .bool y2] := hL.2.1
      clear hL
      rw [Array.getD_eq_getD_getElem?] at e5 e8
      go_simp
      exact ⟨⟨fun d hd => by injection hd with hd; subst hd; rfl, fun h => by cases h⟩, hS, trivial⟩
    · skip
      intro a W vals hv hS hL hp
      have e2 : a.tmps.getD 2 undef = .pointer (some ⟨w.heap.size + 1, 0, none⟩) := hL.1
      have e9 : a.tmps.getD 9 undef = .agg #[.int .i64 r1, .int .i64 c1, .bool x1, .bool y1, .int .i64 r2, .int .i64 c2, .bool x2, .bool y2] := hL.2.1
      clear hL
      match vals, hv, hS with
      | [], _, hS =>
        have hS2 : SX w 2 ([.put 0 #[.int .i64 r1, .int .i64 c1, .bool x1, .bool y1, .int .i64 r2, .int .i64 c2, .bool x2, .bool y2]] : List Stp) [] ([(w.heap.size + 1, 48, #[.int .i64 0, .int .i64 0, .bool false, .bool false, .int .i64 0, .int .i64 0, .bool false, .bool false]), (w.heap.size, 42, #[.int .i64 r1, .int .i64 c1, .bool x1, .bool y1, .int .i64 r2, .int .i64 c2, .bool x2, .bool y2])] : List (Nat × TypeId × Array Value)) W := hS
        clear hS
        have hB0 := hS2
        have hB : SB w 2 ([(w.heap.size + 1, 48, #[.int .i64 0, .int .i64 0, .bool false, .bool false, .int .i64 0, .int .i64 0, .bool false, .bool false]), (w.heap.size, 42, #[.int .i64 r1, .int .i64 c1, .bool x1, .bool y1, .int .i64 r2, .int .i64 c2, .bool x2, .bool y2])] : List (Nat × TypeId × Array Value)) W := hB0
        clear hB0
        rw [Array.getD_eq_getD_getElem?] at e9
        have kz := hB.box (i := 0) rfl
        have z0 := kz.frozen 0
        have q0 := kz.cell 0
        have z1 := kz.frozen 1
        have q1 := kz.cell 1
        have z2 := kz.frozen 2
        have q2 := kz.cell 2
        have z3 := kz.frozen 3
        have q3 := kz.cell 3
        have z4 := kz.frozen 4
        have q4 := kz.cell 4
        have z5 := kz.frozen 5
        have q5 := kz.cell 5
        have z6 := kz.frozen 6
        have q6 := kz.cell 6
        have z7 := kz.frozen 7
        have q7 := kz.cell 7
        have hge : w.heap.size ≤ (w.heap.size + 1) := by omega
        have hne : ∀ qx ∈ butBox ([(w.heap.size + 1, 48, #[.int .i64 0, .int .i64 0, .bool false, .bool false, .int .i64 0, .int .i64 0, .bool false, .bool false]), (w.heap.size, 42, #[.int .i64 r1, .int .i64 c1, .bool x1, .bool y1, .int .i64 r2, .int .i64 c2, .bool x2, .bool y2])] : List (Nat × TypeId × Array Value)) 0, qx.1 ≠ (w.heap.size + 1) := by simp [butBox] <;> omega
        have hF := hB.put8 (i := 0) rfl hge hne (.int .i64 r1 : Value) (.int .i64 c1 : Value) (.bool x1 : Value) (.bool y1 : Value) (.int .i64 r2 : Value) (.int .i64 c2 : Value) (.bool x2 : Value) (.bool y2 : Value)
        clear kz hB hne hge
        go_simp
        exact ⟨hF, trivial, trivial⟩
  · intro a W' vals hd hsz hT hF hv hP hS
    obtain ⟨v0, rfl⟩ : ∃ v0, vals = [v0] := by
      match vals, hv with
      | [v0], _ => exact ⟨v0, rfl⟩
    have hS2 : SX w 2 ([.put 0 #[.int .i64 r1, .int .i64 c1, .bool x1, .bool y1, .int .i64 r2, .int .i64 c2, .bool x2, .bool y2]] : List Stp) [v0] ([(w.heap.size + 1, 48, #[.int .i64 0, .int .i64 0, .bool false, .bool false, .int .i64 0, .int .i64 0, .bool false, .bool false]), (w.heap.size, 42, #[.int .i64 r1, .int .i64 c1, .bool x1, .bool y1, .int .i64 r2, .int .i64 c2, .bool x2, .bool y2])] : List (Nat × TypeId × Array Value)) W' := hS
    clear hS
    have hB0 := hS2
    have hB : SB w 2 ([(w.heap.size + 1, 48, #[.int .i64 r1, .int .i64 c1, .bool x1, .bool y1, .int .i64 r2, .int .i64 c2, .bool x2, .bool y2]), (w.heap.size, 42, #[.int .i64 r1, .int .i64 c1, .bool x1, .bool y1, .int .i64 r2, .int .i64 c2, .bool x2, .bool y2])] : List (Nat × TypeId × Array Value)) W' := hB0
    clear hB0
    have kz0 := hB.box (i := 0) rfl
    have r0_0 := kz0.cell 0
    have r0_1 := kz0.cell 1
    have r0_2 := kz0.cell 2
    have r0_3 := kz0.cell 3
    have r0_4 := kz0.cell 4
    have r0_5 := kz0.cell 5
    have r0_6 := kz0.cell 6
    have r0_7 := kz0.cell 7
    clear kz0
    have e2 : a.tmps.getD 2 undef = .pointer (some ⟨w.heap.size + 1, 0, none⟩) := hT 2 (by simp)
    clear hT hF hP
    go_wp2
    refine bodyPost_ret (v := .agg #[.int .i64 r1, .int .i64 c1, .bool x1, .bool y1, .int .i64 r2, .int .i64 c2, .bool x2, .bool y2]) ?_ hd ⟨rfl, hB.bel⟩
    rw [Array.getD_eq_getD_getElem?] at e2
    simp [results, Tryd.results22, go_sem, e2, r0_0, r0_1, r0_2, r0_3, r0_4, r0_5, r0_6, r0_7]

set_option maxRecDepth 20000 in
set_option maxHeartbeats 2000000 in
theorem checkArea_any {w : World} (r1 c1 r2 c2 : Int) (x1 y1 x2 y2 : Bool) :
    Calls Tryd.prog 23 #[.agg #[.int .i64 r1, .int .i64 c1, .bool x1, .bool y1, .int .i64 r2, .int .i64 c2, .bool x2, .bool y2]] w fun e w' => e = .returned (.int .i64 (ckA r1 c1 r2 c2)) ∧ Below w.heap.size w w' := by
  have H1 := Lib.hid (fun W : World => check_any (w := W) r1 c1 x1 y1)
  have H2 := Lib.hid (fun W : World => check_any (w := W) r2 c2 x2 y2)
  have HB : Hid (SB w 1 ([(w.heap.size, 42, #[.int .i64 r1, .int .i64 c1, .bool x1, .bool y1, .int .i64 r2, .int .i64 c2, .bool x2, .bool y2])] : List (Nat × TypeId × Array Value)) (w.alloc (.cells #[.int .i64 r1, .int .i64 c1, .bool x1, .bool y1, .int .i64 r2, .int .i64 c2, .bool x2, .bool y2] 42))) := Lib.hid (sb1 w 42 #[.int .i64 r1, .int .i64 c1, .bool x1, .bool y1, .int .i64 r2, .int .i64 c2, .bool x2, .bool y2])
  unfold ckA
  rcases ck_cases r1 c1 with ⟨-, h⟩ | ⟨-, h⟩
  · rw [if_pos h]
    rw [h] at H1
    clear h
    generalize ckI r2 c2 = k at *
    go_enter Tryd.func23, Tryd.ntmps23
    go_wp2_with fail
    refine (H1.out _).mono ?_
    rintro e w1 ⟨rfl, hb⟩
    have HB2 := Lib.hid (HB.out.call hb)
    clear HB hb
    have kr := HB2.out.box (i := 0) rfl
    have cr0 := kr.cell 0
    have cr1 := kr.cell 1
    have cr2 := kr.cell 2
    have cr3 := kr.cell 3
    have cr4 := kr.cell 4
    have cr5 := kr.cell 5
    have cr6 := kr.cell 6
    have cr7 := kr.cell 7
    clear kr
    go_wp2_with fail
    refine (H2.out _).mono ?_
    rintro e w2 ⟨rfl, hb⟩
    have hbel := (HB2.out.call hb).bel
    clear HB2 hb H1 H2
    go_wp2
    go_ret
    exact ⟨rfl, hbel⟩
  · rw [if_neg (by rw [h]; decide)]
    rw [h] at H1
    clear h
    go_enter Tryd.func23, Tryd.ntmps23
    go_wp2_with fail
    refine (H1.out _).mono ?_
    rintro e w1 ⟨rfl, hb⟩
    have hbel := (HB.out.call hb).bel
    clear HB hb H1 H2
    go_wp2
    go_ret
    exact ⟨rfl, hbel⟩

set_option maxRecDepth 20000 in
set_option maxHeartbeats 2000000 in
theorem bCheckArea_any {w : World} (r1 c1 r2 c2 : Int) (x1 y1 x2 y2 : Bool) :
    Calls Tryd.prog 24 #[.agg #[.int .i64 r1, .int .i64 c1, .bool x1, .bool y1, .int .i64 r2, .int .i64 c2, .bool x2, .bool y2]] w fun e w' => e = .returned (.int .i64 (ckA r1 c1 r2 c2)) ∧ Below w.heap.size w w' := by
  have H1 := Lib.hid (fun W : World => bCheck_any (w := W) r1 c1 x1 y1)
  have H2 := Lib.hid (fun W : World => bCheck_any (w := W) r2 c2 x2 y2)
  have HB : Hid (SB w 1 ([(w.heap.size, 48, #[.int .i64 r1, .int .i64 c1, .bool x1, .bool y1, .int .i64 r2, .int .i64 c2, .bool x2, .bool y2])] : List (Nat × TypeId × Array Value)) (w.alloc (.cells #[.int .i64 r1, .int .i64 c1, .bool x1, .bool y1, .int .i64 r2, .int .i64 c2, .bool x2, .bool y2] 48))) := Lib.hid (sb1 w 48 #[.int .i64 r1, .int .i64 c1, .bool x1, .bool y1, .int .i64 r2, .int .i64 c2, .bool x2, .bool y2])
  unfold ckA
  rcases ck_cases r1 c1 with ⟨-, h⟩ | ⟨-, h⟩
  · rw [if_pos h]
    rw [h] at H1
    clear h
    generalize ckI r2 c2 = k at *
    go_enter Tryd.func24, Tryd.ntmps24
    go_wp2_with fail
    refine (H1.out _).mono ?_
    rintro e w1 ⟨rfl, hb⟩
    have HB2 := Lib.hid (HB.out.call hb)
    clear HB hb
    have kr := HB2.out.box (i := 0) rfl
    have cr0 := kr.cell 0
    have cr1 := kr.cell 1
    have cr2 := kr.cell 2
    have cr3 := kr.cell 3
    have cr4 := kr.cell 4
    have cr5 := kr.cell 5
    have cr6 := kr.cell 6
    have cr7 := kr.cell 7
    clear kr
    go_wp2_with fail
    refine (H2.out _).mono ?_
    rintro e w2 ⟨rfl, hb⟩
    have hbel := (HB2.out.call hb).bel
    clear HB2 hb H1 H2
    go_wp2
    go_ret
    exact ⟨rfl, hbel⟩
  · rw [if_neg (by rw [h]; decide)]
    rw [h] at H1
    clear h
    go_enter Tryd.func24, Tryd.ntmps24
    go_wp2_with fail
    refine (H1.out _).mono ?_
    rintro e w1 ⟨rfl, hb⟩
    have hbel := (HB.out.call hb).bel
    clear HB hb H1 H2
    go_wp2
    go_ret
    exact ⟨rfl, hbel⟩

end Go.Proofs.YtgjijjdpkmdcgaaDoor
