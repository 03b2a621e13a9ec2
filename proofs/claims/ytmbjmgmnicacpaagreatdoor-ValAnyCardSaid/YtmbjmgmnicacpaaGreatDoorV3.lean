/- val.Compare by its contract. Condition: the texts are not too long. -/
import Derived.Test.YtmbjmgmnicacpaaGreatDoorV1
import Derived.Test.YtmbjmgmnicacpaaGreatDoorCt
import Derived.Test.YtmbjmgmnicacpaaGreatDoorEarly
namespace Go.Proofs.YtmbjmgmnicacpaaGreatDoor
open Go.RowKit

set_option maxRecDepth 20000 in
set_option maxHeartbeats 4000000 in
theorem compare_kinds {w : World} {k m s : Int} {t : ByteArray} {b : Bool} {e : Int} {k' m' s' : Int} {t' : ByteArray} {b' : Bool} {e' : Int} {x0 x1 x2 : Int} {x3 : ByteArray} {x4 : Bool} {x5 : Int} {y0 y1 y2 : Int} {y3 : ByteArray} {y4 : Bool} {y5 : Int}
    (KX : ∀ W : World, Calls Tryz.prog 38 #[.agg #[.int .i64 k, .int .i64 m, .int .i64 s, .string t, .bool b, .int .i64 e], .agg #[.int .i64 k', .int .i64 m', .int .i64 s', .string t', .bool b', .int .i64 e']] W fun x w' => x = .returned (.agg #[.int .i64 x0, .int .i64 x1, .int .i64 x2, .string x3, .bool x4, .int .i64 x5]) ∧ Below W.heap.size W w')
    (KY : ∀ W : World, Calls Tryz.prog 38 #[.agg #[.int .i64 k', .int .i64 m', .int .i64 s', .string t', .bool b', .int .i64 e'], .agg #[.int .i64 k, .int .i64 m, .int .i64 s, .string t, .bool b, .int .i64 e]] W fun x w' => x = .returned (.agg #[.int .i64 y0, .int .i64 y1, .int .i64 y2, .string y3, .bool y4, .int .i64 y5]) ∧ Below W.heap.size W w') (hne : ¬ x0 = y0) :
    Calls Tryz.prog 18 #[.agg #[.int .i64 k, .int .i64 m, .int .i64 s, .string t, .bool b, .int .i64 e], .agg #[.int .i64 k', .int .i64 m', .int .i64 s', .string t', .bool b', .int .i64 e']] w fun x w' => x = .returned (.int .i64 (cmp x0 y0)) ∧ Below w.heap.size w w' := by
  have HX := Lib.hid KX
  have HY := Lib.hid KY
  clear KX KY
  have HC := Lib.hid (fun W : World => cmp_int (w := W) x0 y0)
  generalize cmp x0 y0 = C at *
  have HB := Lib.hid ((sb1 w 25 #[.int .i64 k, .int .i64 m, .int .i64 s, .string t, .bool b, .int .i64 e]).push (by simp) 25 #[.int .i64 k', .int .i64 m', .int .i64 s', .string t', .bool b', .int .i64 e'])
  go_enter Tryz.func18, Tryz.ntmps18
  go_wp2_with fail
  refine wp_region_early (S := (fun vals W => SX w 2 ([.put 1 #[.int .i64 x0, .int .i64 x1, .int .i64 x2, .string x3, .bool x4, .int .i64 x5], .put 0 #[.int .i64 y0, .int .i64 y1, .int .i64 y2, .string y3, .bool y4, .int .i64 y5]] : List Stp) vals ([(w.heap.size + 1, 25, #[.int .i64 k', .int .i64 m', .int .i64 s', .string t', .bool b', .int .i64 e']), (w.heap.size, 25, #[.int .i64 k, .int .i64 m, .int .i64 s, .string t, .bool b, .int .i64 e])] : List (Nat × TypeId × Array Value)) W)) (E := (fun _ _ => True)) [6, 7] [(2, Is (.pointer (some ⟨w.heap.size, 0, none⟩))), (3, Is (.pointer (some ⟨w.heap.size + 1, 0, none⟩)))] [(5, Is (.agg #[.int .i64 k, .int .i64 m, .int .i64 s, .string t, .bool b, .int .i64 e])), (6, Is (.agg #[.int .i64 k', .int .i64 m', .int .i64 s', .string t', .bool b', .int .i64 e'])), (7, Is (.agg #[.int .i64 x0, .int .i64 x1, .int .i64 x2, .string x3, .bool x4, .int .i64 x5])), (8, Is (.agg #[.int .i64 k', .int .i64 m', .int .i64 s', .string t', .bool b', .int .i64 e'])), (9, Is (.agg #[.int .i64 k, .int .i64 m, .int .i64 s, .string t, .bool b, .int .i64 e])), (10, Is (.agg #[.int .i64 y0, .int .i64 y1, .int .i64 y2, .string y3, .bool y4, .int .i64 y5]))]
    [.op [2] none, .op [3] none, .op [5, 6] none, .op [3] none, .op [2] none, .op [8, 9] none, .phase 0 [2, 7] [], .phase 1 [3, 10] []] (by as_aux_lemma => kernel_rfl) ?_ ?_ ?_ ?_ ?_ ⟨stable_is _ _, stable_is _ _, stable_is _ _, stable_is _ _, stable_is _ _, stable_is _ _, stable_is _ _, stable_is _ _, trivial⟩ ?_ (HB.out.drew) ?_ ?_
  · as_aux_lemma => kernel_rfl
  · as_aux_lemma => kernel_rfl
  · as_aux_lemma => kernel_rfl
  · as_aux_lemma => kernel_rfl
  · as_aux_lemma => kernel_rfl
  · exact ⟨rfl, rfl, trivial⟩
  · refine ⟨?_, ?_, ?_, ?_, ?_, ?_, ?_, ?_, trivial⟩
    · as_aux_lemma =>
        intro vals hE a W hS hL
        obtain rfl : vals = [] := List.eq_nil_of_length_eq_zero (Nat.le_zero.1 (hE 0 (by kernel_rfl)))
        have e2 : a.tmps.getD 2 undef = .pointer (some ⟨w.heap.size, 0, none⟩) := hL.1
        clear hL
        have kb : Bk W (w.heap.size) 25 #[.int .i64 k, .int .i64 m, .int .i64 s, .string t, .bool b, .int .i64 e] := SB.box (i := 1) hS rfl
        have f0 := kb.cell 0
        have f1 := kb.cell 1
        have f2 := kb.cell 2
        have f3 := kb.cell 3
        have f4 := kb.cell 4
        have f5 := kb.cell 5
        clear kb
        go_simp
        exact ⟨⟨fun d hd => by injection hd with hd; subst hd; rfl, fun h => by cases h⟩, hS, trivial⟩
    · as_aux_lemma =>
        intro vals hE a W hS hL
        obtain rfl : vals = [] := List.eq_nil_of_length_eq_zero (Nat.le_zero.1 (hE 0 (by kernel_rfl)))
        have e3 : a.tmps.getD 3 undef = .pointer (some ⟨w.heap.size + 1, 0, none⟩) := hL.1
        clear hL
        have kb : Bk W (w.heap.size + 1) 25 #[.int .i64 k', .int .i64 m', .int .i64 s', .string t', .bool b', .int .i64 e'] := SB.box (i := 0) hS rfl
        have f0 := kb.cell 0
        have f1 := kb.cell 1
        have f2 := kb.cell 2
        have f3 := kb.cell 3
        have f4 := kb.cell 4
        have f5 := kb.cell 5
        clear kb
        go_simp
        exact ⟨⟨fun d hd => by injection hd with hd; subst hd; rfl, fun h => by cases h⟩, hS, trivial⟩
    · as_aux_lemma =>
        intro vals hE a W hS hL
        obtain rfl : vals = [] := List.eq_nil_of_length_eq_zero (Nat.le_zero.1 (hE 0 (by kernel_rfl)))
        have e5 : a.tmps.getD 5 undef = .agg #[.int .i64 k, .int .i64 m, .int .i64 s, .string t, .bool b, .int .i64 e] := hL.1
        have e6 : a.tmps.getD 6 undef = .agg #[.int .i64 k', .int .i64 m', .int .i64 s', .string t', .bool b', .int .i64 e'] := hL.2.1
        clear hL
        go_simp
        refine (HX.out W).mono ?_
        rintro e W' ⟨rfl, hb⟩
        exact ⟨_, rfl, ⟨fun d hd => by injection hd with hd; subst hd; rfl, fun h => by cases h⟩, hS.call hb, trivial⟩
    · as_aux_lemma =>
        intro vals hE a W hS hL
        have hE1 := hE 1 (by kernel_rfl)
        have e3 : a.tmps.getD 3 undef = .pointer (some ⟨w.heap.size + 1, 0, none⟩) := hL.1
        clear hL
        have kb : Bk W (w.heap.size + 1) 25 #[.int .i64 k', .int .i64 m', .int .i64 s', .string t', .bool b', .int .i64 e'] := by
          match vals, hE1, hS with
          | [], _, hS => exact SB.box (i := 0) hS rfl
          | [_], _, hS => exact SB.box (i := 0) hS rfl
        have f0 := kb.cell 0
        have f1 := kb.cell 1
        have f2 := kb.cell 2
        have f3 := kb.cell 3
        have f4 := kb.cell 4
        have f5 := kb.cell 5
        clear kb
        go_simp
        exact ⟨⟨fun d hd => by injection hd with hd; subst hd; rfl, fun h => by cases h⟩, hS, trivial⟩
    · as_aux_lemma =>
        intro vals hE a W hS hL
        obtain rfl : vals = [] := List.eq_nil_of_length_eq_zero (Nat.le_zero.1 (hE 0 (by kernel_rfl)))
        have e2 : a.tmps.getD 2 undef = .pointer (some ⟨w.heap.size, 0, none⟩) := hL.1
        clear hL
        have kb : Bk W (w.heap.size) 25 #[.int .i64 k, .int .i64 m, .int .i64 s, .string t, .bool b, .int .i64 e] := SB.box (i := 1) hS rfl
        have f0 := kb.cell 0
        have f1 := kb.cell 1
        have f2 := kb.cell 2
        have f3 := kb.cell 3
        have f4 := kb.cell 4
        have f5 := kb.cell 5
        clear kb
        go_simp
        exact ⟨⟨fun d hd => by injection hd with hd; subst hd; rfl, fun h => by cases h⟩, hS, trivial⟩
    · as_aux_lemma =>
        intro vals hE a W hS hL
        have hE1 := hE 1 (by kernel_rfl)
        have e8 : a.tmps.getD 8 undef = .agg #[.int .i64 k', .int .i64 m', .int .i64 s', .string t', .bool b', .int .i64 e'] := hL.1
        have e9 : a.tmps.getD 9 undef = .agg #[.int .i64 k, .int .i64 m, .int .i64 s, .string t, .bool b, .int .i64 e] := hL.2.1
        clear hL
        go_simp
        refine (HY.out W).mono ?_
        rintro e W' ⟨rfl, hb⟩
        exact ⟨_, rfl, ⟨fun d hd => by injection hd with hd; subst hd; rfl, fun h => by cases h⟩, hS.call hb, trivial⟩
    · skip
      intro a W vals hv hS hL hp
      have e2 : a.tmps.getD 2 undef = .pointer (some ⟨w.heap.size, 0, none⟩) := hL.1
      have e7 : a.tmps.getD 7 undef = .agg #[.int .i64 x0, .int .i64 x1, .int .i64 x2, .string x3, .bool x4, .int .i64 x5] := hL.2.1
      clear hL
      match vals, hv, hS with
      | [], _, hS =>
        have hS2 : SX w 2 ([.put 1 #[.int .i64 x0, .int .i64 x1, .int .i64 x2, .string x3, .bool x4, .int .i64 x5], .put 0 #[.int .i64 y0, .int .i64 y1, .int .i64 y2, .string y3, .bool y4, .int .i64 y5]] : List Stp) [] ([(w.heap.size + 1, 25, #[.int .i64 k', .int .i64 m', .int .i64 s', .string t', .bool b', .int .i64 e']), (w.heap.size, 25, #[.int .i64 k, .int .i64 m, .int .i64 s, .string t, .bool b, .int .i64 e])] : List (Nat × TypeId × Array Value)) W := hS
        clear hS
        have hB0 := hS2
        have hB : SB w 2 ([(w.heap.size + 1, 25, #[.int .i64 k', .int .i64 m', .int .i64 s', .string t', .bool b', .int .i64 e']), (w.heap.size, 25, #[.int .i64 k, .int .i64 m, .int .i64 s, .string t, .bool b, .int .i64 e])] : List (Nat × TypeId × Array Value)) W := hB0
        clear hB0
        rw [Array.getD_eq_getD_getElem?] at e7
        have kz := hB.box (i := 1) rfl
        have z0 := kz.frozen 0
        have q0 := kz.cell 0
        have z1 := kz.frozen 1
        have q1 := kz.cell 1
        have z2 := kz.frozen 2
        have q2 := kz.cell 2
        have z3 := kz.frozen 3
        have q3 := kz.cell 3
        have z4 := kz.frozen 4
        have q4 := kz.cell 4
        have z5 := kz.frozen 5
        have q5 := kz.cell 5
        have hge : w.heap.size ≤ (w.heap.size) := by omega
        have hne : ∀ qx ∈ butBox ([(w.heap.size + 1, 25, #[.int .i64 k', .int .i64 m', .int .i64 s', .string t', .bool b', .int .i64 e']), (w.heap.size, 25, #[.int .i64 k, .int .i64 m, .int .i64 s, .string t, .bool b, .int .i64 e])] : List (Nat × TypeId × Array Value)) 1, qx.1 ≠ (w.heap.size) := by simp [butBox] <;> omega
        have hF := hB.put6 (i := 1) rfl hge hne (.int .i64 x0 : Value) (.int .i64 x1 : Value) (.int .i64 x2 : Value) (.string x3 : Value) (.bool x4 : Value) (.int .i64 x5 : Value)
        clear kz hB hne hge
        go_simp
        exact ⟨hF, trivial, trivial⟩
    · skip
      intro a W vals hv hS hL hp
      have e3 : a.tmps.getD 3 undef = .pointer (some ⟨w.heap.size + 1, 0, none⟩) := hL.1
      have e10 : a.tmps.getD 10 undef = .agg #[.int .i64 y0, .int .i64 y1, .int .i64 y2, .string y3, .bool y4, .int .i64 y5] := hL.2.1
      clear hL
      match vals, hv, hS with
      | [v0], _, hS =>
        have hS2 : SX w 2 ([.put 1 #[.int .i64 x0, .int .i64 x1, .int .i64 x2, .string x3, .bool x4, .int .i64 x5], .put 0 #[.int .i64 y0, .int .i64 y1, .int .i64 y2, .string y3, .bool y4, .int .i64 y5]] : List Stp) [v0] ([(w.heap.size + 1, 25, #[.int .i64 k', .int .i64 m', .int .i64 s', .string t', .bool b', .int .i64 e']), (w.heap.size, 25, #[.int .i64 k, .int .i64 m, .int .i64 s, .string t, .bool b, .int .i64 e])] : List (Nat × TypeId × Array Value)) W := hS
        clear hS
        have hB0 := hS2
        have hB : SB w 2 ([(w.heap.size + 1, 25, #[.int .i64 k', .int .i64 m', .int .i64 s', .string t', .bool b', .int .i64 e']), (w.heap.size, 25, #[.int .i64 x0, .int .i64 x1, .int .i64 x2, .string x3, .bool x4, .int .i64 x5])] : List (Nat × TypeId × Array Value)) W := hB0
        clear hB0
        rw [Array.getD_eq_getD_getElem?] at e10
        have kz := hB.box (i := 0) rfl
        have z0 := kz.frozen 0
        have q0 := kz.cell 0
        have z1 := kz.frozen 1
        have q1 := kz.cell 1
        have z2 := kz.frozen 2
        have q2 := kz.cell 2
        have z3 := kz.frozen 3
        have q3 := kz.cell 3
        have z4 := kz.frozen 4
        have q4 := kz.cell 4
        have z5 := kz.frozen 5
        have q5 := kz.cell 5
        have hge : w.heap.size ≤ (w.heap.size + 1) := by omega
        have hne : ∀ qx ∈ butBox ([(w.heap.size + 1, 25, #[.int .i64 k', .int .i64 m', .int .i64 s', .string t', .bool b', .int .i64 e']), (w.heap.size, 25, #[.int .i64 x0, .int .i64 x1, .int .i64 x2, .string x3, .bool x4, .int .i64 x5])] : List (Nat × TypeId × Array Value)) 0, qx.1 ≠ (w.heap.size + 1) := by simp [butBox] <;> omega
        have hF := hB.put6 (i := 0) rfl hge hne (.int .i64 y0 : Value) (.int .i64 y1 : Value) (.int .i64 y2 : Value) (.string y3 : Value) (.bool y4 : Value) (.int .i64 y5 : Value)
        clear kz hB hne hge
        go_simp
        exact ⟨hF, trivial, trivial⟩
  · intro a W' vals hd hsz hT hF hv hP hS
    obtain ⟨v0, v1, rfl⟩ : ∃ v0 v1, vals = [v0, v1] := by
      match vals, hv with
      | [v0, v1], _ => exact ⟨v0, v1, rfl⟩
    have hS2 : SX w 2 ([.put 1 #[.int .i64 x0, .int .i64 x1, .int .i64 x2, .string x3, .bool x4, .int .i64 x5], .put 0 #[.int .i64 y0, .int .i64 y1, .int .i64 y2, .string y3, .bool y4, .int .i64 y5]] : List Stp) [v0, v1] ([(w.heap.size + 1, 25, #[.int .i64 k', .int .i64 m', .int .i64 s', .string t', .bool b', .int .i64 e']), (w.heap.size, 25, #[.int .i64 k, .int .i64 m, .int .i64 s, .string t, .bool b, .int .i64 e])] : List (Nat × TypeId × Array Value)) W' := hS
    clear hS
    have hB0 := hS2
    have hB : SB w 2 ([(w.heap.size + 1, 25, #[.int .i64 y0, .int .i64 y1, .int .i64 y2, .string y3, .bool y4, .int .i64 y5]), (w.heap.size, 25, #[.int .i64 x0, .int .i64 x1, .int .i64 x2, .string x3, .bool x4, .int .i64 x5])] : List (Nat × TypeId × Array Value)) W' := hB0
    clear hB0
    have e2 : a.tmps.getD 2 undef = .pointer (some ⟨w.heap.size, 0, none⟩) := hT 2 (by simp)
    have e3 : a.tmps.getD 3 undef = .pointer (some ⟨w.heap.size + 1, 0, none⟩) := hT 3 (by simp)
    clear hT hF hP
    rw [act_lit 53 a hd hsz]
    simp only [List.range, List.range.loop, List.map, e2, e3]
    clear hd hsz e2 e3
    have ky := hB.box (i := 0) rfl
    have cy0 := ky.cell 0
    have cy1 := ky.cell 1
    have cy2 := ky.cell 2
    have cy3 := ky.cell 3
    have cy4 := ky.cell 4
    have cy5 := ky.cell 5
    clear ky
    have kx := hB.box (i := 1) rfl
    have cx0 := kx.cell 0
    have cx1 := kx.cell 1
    have cx2 := kx.cell 2
    have cx3 := kx.cell 3
    have cx4 := kx.cell 4
    have cx5 := kx.cell 5
    clear kx
    go_wp2_with fail
    refine (HC.out _).mono ?_
    rintro x w9 ⟨rfl, rfl⟩
    have hbel := hB.bel
    clear hB HB HX HY HC
    go_wp2
    go_ret
    exact ⟨rfl, hbel⟩

set_option maxRecDepth 20000 in
set_option maxHeartbeats 4000000 in
theorem compare_num {w : World} {k m s : Int} {t : ByteArray} {b : Bool} {e : Int} {k' m' s' : Int} {t' : ByteArray} {b' : Bool} {e' : Int} {x1 x2 : Int} {x3 : ByteArray} {x4 : Bool} {x5 : Int} {y1 y2 : Int} {y3 : ByteArray} {y4 : Bool} {y5 : Int} {C : Int}
    (KX : ∀ W : World, Calls Tryz.prog 38 #[.agg #[.int .i64 k, .int .i64 m, .int .i64 s, .string t, .bool b, .int .i64 e], .agg #[.int .i64 k', .int .i64 m', .int .i64 s', .string t', .bool b', .int .i64 e']] W fun x w' => x = .returned (.agg #[.int .i64 1, .int .i64 x1, .int .i64 x2, .string x3, .bool x4, .int .i64 x5]) ∧ Below W.heap.size W w')
    (KY : ∀ W : World, Calls Tryz.prog 38 #[.agg #[.int .i64 k', .int .i64 m', .int .i64 s', .string t', .bool b', .int .i64 e'], .agg #[.int .i64 k, .int .i64 m, .int .i64 s, .string t, .bool b, .int .i64 e]] W fun x w' => x = .returned (.agg #[.int .i64 1, .int .i64 y1, .int .i64 y2, .string y3, .bool y4, .int .i64 y5]) ∧ Below W.heap.size W w') (KC : ∀ W : World, Calls Tryz.prog 40 #[.agg #[.int .i64 x1, .int .i64 x2], .agg #[.int .i64 y1, .int .i64 y2]] W fun x w' => x = .returned (.int .i64 C) ∧ Below W.heap.size W w') :
    Calls Tryz.prog 18 #[.agg #[.int .i64 k, .int .i64 m, .int .i64 s, .string t, .bool b, .int .i64 e], .agg #[.int .i64 k', .int .i64 m', .int .i64 s', .string t', .bool b', .int .i64 e']] w fun x w' => x = .returned (.int .i64 C) ∧ Below w.heap.size w w' := by
  have HX := Lib.hid KX
  have HY := Lib.hid KY
  clear KX KY
  have HC := Lib.hid KC
  clear KC
  have HB := Lib.hid ((sb1 w 25 #[.int .i64 k, .int .i64 m, .int .i64 s, .string t, .bool b, .int .i64 e]).push (by simp) 25 #[.int .i64 k', .int .i64 m', .int .i64 s', .string t', .bool b', .int .i64 e'])
  go_enter Tryz.func18, Tryz.ntmps18
  go_wp2_with fail
  refine wp_region_early (S := (fun vals W => SX w 2 ([.put 1 #[.int .i64 1, .int .i64 x1, .int .i64 x2, .string x3, .bool x4, .int .i64 x5], .put 0 #[.int .i64 1, .int .i64 y1, .int .i64 y2, .string y3, .bool y4, .int .i64 y5]] : List Stp) vals ([(w.heap.size + 1, 25, #[.int .i64 k', .int .i64 m', .int .i64 s', .string t', .bool b', .int .i64 e']), (w.heap.size, 25, #[.int .i64 k, .int .i64 m, .int .i64 s, .string t, .bool b, .int .i64 e])] : List (Nat × TypeId × Array Value)) W)) (E := (fun _ _ => True)) [6, 7] [(2, Is (.pointer (some ⟨w.heap.size, 0, none⟩))), (3, Is (.pointer (some ⟨w.heap.size + 1, 0, none⟩)))] [(5, Is (.agg #[.int .i64 k, .int .i64 m, .int .i64 s, .string t, .bool b, .int .i64 e])), (6, Is (.agg #[.int .i64 k', .int .i64 m', .int .i64 s', .string t', .bool b', .int .i64 e'])), (7, Is (.agg #[.int .i64 1, .int .i64 x1, .int .i64 x2, .string x3, .bool x4, .int .i64 x5])), (8, Is (.agg #[.int .i64 k', .int .i64 m', .int .i64 s', .string t', .bool b', .int .i64 e'])), (9, Is (.agg #[.int .i64 k, .int .i64 m, .int .i64 s, .string t, .bool b, .int .i64 e])), (10, Is (.agg #[.int .i64 1, .int .i64 y1, .int .i64 y2, .string y3, .bool y4, .int .i64 y5]))]
    [.op [2] none, .op [3] none, .op [5, 6] none, .op [3] none, .op [2] none, .op [8, 9] none, .phase 0 [2, 7] [], .phase 1 [3, 10] []] (by as_aux_lemma => kernel_rfl) ?_ ?_ ?_ ?_ ?_ ⟨stable_is _ _, stable_is _ _, stable_is _ _, stable_is _ _, stable_is _ _, stable_is _ _, stable_is _ _, stable_is _ _, trivial⟩ ?_ (HB.out.drew) ?_ ?_
  · as_aux_lemma => kernel_rfl
  · as_aux_lemma => kernel_rfl
  · as_aux_lemma => kernel_rfl
  · as_aux_lemma => kernel_rfl
  · as_aux_lemma => kernel_rfl
  · exact ⟨rfl, rfl, trivial⟩
  · refine ⟨?_, ?_, ?_, ?_, ?_, ?_, ?_, ?_, trivial⟩
    · as_aux_lemma =>
        intro vals hE a W hS hL
        obtain rfl : vals = [] := List.eq_nil_of_length_eq_zero (Nat.le_zero.1 (hE 0 (by kernel_rfl)))
        have e2 : a.tmps.getD 2 undef = .pointer (some ⟨w.heap.size, 0, none⟩) := hL.1
        clear hL
        have kb : Bk W (w.heap.size) 25 #[.int .i64 k, .int .i64 m, .int .i64 s, .string t, .bool b, .int .i64 e] := SB.box (i := 1) hS rfl
        have f0 := kb.cell 0
        have f1 := kb.cell 1
        have f2 := kb.cell 2
        have f3 := kb.cell 3
        have f4 := kb.cell 4
        have f5 := kb.cell 5
        clear kb
        go_simp
        exact ⟨⟨fun d hd => by injection hd with hd; subst hd; rfl, fun h => by cases h⟩, hS, trivial⟩
    · as_aux_lemma =>
        intro vals hE a W hS hL
        obtain rfl : vals = [] := List.eq_nil_of_length_eq_zero (Nat.le_zero.1 (hE 0 (by kernel_rfl)))
        have e3 : a.tmps.getD 3 undef = .pointer (some ⟨w.heap.size + 1, 0, none⟩) := hL.1
        clear hL
        have kb : Bk W (w.heap.size + 1) 25 #[.int .i64 k', .int .i64 m', .int .i64 s', .string t', .bool b', .int .i64 e'] := SB.box (i := 0) hS rfl
        have f0 := kb.cell 0
        have f1 := kb.cell 1
        have f2 := kb.cell 2
        have f3 := kb.cell 3
        have f4 := kb.cell 4
        have f5 := kb.cell 5
        clear kb
        go_simp
        exact ⟨⟨fun d hd => by injection hd with hd; subst hd; rfl, fun h => by cases h⟩, hS, trivial⟩
    · as_aux_lemma =>
        intro vals hE a W hS hL
        obtain rfl : vals = [] := List.eq_nil_of_length_eq_zero (Nat.le_zero.1 (hE 0 (by kernel_rfl)))
        have e5 : a.tmps.getD 5 undef = .agg #[.int .i64 k, .int .i64 m, .int .i64 s, .string t, .bool b, .int .i64 e] := hL.1
        have e6 : a.tmps.getD 6 undef = .agg #[.int .i64 k', .int .i64 m', .int .i64 s', .string t', .bool b', .int .i64 e'] := hL.2.1
        clear hL
        go_simp
        refine (HX.out W).mono ?_
        rintro e W' ⟨rfl, hb⟩
        exact ⟨_, rfl, ⟨fun d hd => by injection hd with hd; subst hd; rfl, fun h => by cases h⟩, hS.call hb, trivial⟩
    · as_aux_lemma =>
        intro vals hE a W hS hL
        have hE1 := hE 1 (by kernel_rfl)
        have e3 : a.tmps.getD 3 undef = .pointer (some ⟨w.heap.size + 1, 0, none⟩) := hL.1
        clear hL
        have kb : Bk W (w.heap.size + 1) 25 #[.int .i64 k', .int .i64 m', .int .i64 s', .string t', .bool b', .int .i64 e'] := by
          match vals, hE1, hS with
          | [], _, hS => exact SB.box (i := 0) hS rfl
          | [_], _, hS => exact SB.box (i := 0) hS rfl
        have f0 := kb.cell 0
        have f1 := kb.cell 1
        have f2 := kb.cell 2
        have f3 := kb.cell 3
        have f4 := kb.cell 4
        have f5 := kb.cell 5
        clear kb
        go_simp
        exact ⟨⟨fun d hd => by injection hd with hd; subst hd; rfl, fun h => by cases h⟩, hS, trivial⟩
    · as_aux_lemma =>
        intro vals hE a W hS hL
        obtain rfl : vals = [] := List.eq_nil_of_length_eq_zero (Nat.le_zero.1 (hE 0 (by kernel_rfl)))
        have e2 : a.tmps.getD 2 undef = .pointer (some ⟨w.heap.size, 0, none⟩) := hL.1
        clear hL
        have kb : Bk W (w.heap.size) 25 #[.int .i64 k, .int .i64 m, .int .i64 s, .string t, .bool b, .int .i64 e] := SB.box (i := 1) hS rfl
        have f0 := kb.cell 0
        have f1 := kb.cell 1
        have f2 := kb.cell 2
        have f3 := kb.cell 3
        have f4 := kb.cell 4
        have f5 := kb.cell 5
        clear kb
        go_simp
        exact ⟨⟨fun d hd => by injection hd with hd; subst hd; rfl, fun h => by cases h⟩, hS, trivial⟩
    · as_aux_lemma =>
        intro vals hE a W hS hL
        have hE1 := hE 1 (by kernel_rfl)
        have e8 : a.tmps.getD 8 undef = .agg #[.int .i64 k', .int .i64 m', .int .i64 s', .string t', .bool b', .int .i64 e'] := hL.1
        have e9 : a.tmps.getD 9 undef = .agg #[.int .i64 k, .int .i64 m, .int .i64 s, .string t, .bool b, .int .i64 e] := hL.2.1
        clear hL
        go_simp
        refine (HY.out W).mono ?_
        rintro e W' ⟨rfl, hb⟩
        exact ⟨_, rfl, ⟨fun d hd => by injection hd with hd; subst hd; rfl, fun h => by cases h⟩, hS.call hb, trivial⟩
    · skip
      intro a W vals hv hS hL hp
      have e2 : a.tmps.getD 2 undef = .pointer (some ⟨w.heap.size, 0, none⟩) := hL.1
      have e7 : a.tmps.getD 7 undef = .agg #[.int .i64 1, .int .i64 x1, .int .i64 x2, .string x3, .bool x4, .int .i64 x5] := hL.2.1
      clear hL
      match vals, hv, hS with
      | [], _, hS =>
        have hS2 : SX w 2 ([.put 1 #[.int .i64 1, .int .i64 x1, .int .i64 x2, .string x3, .bool x4, .int .i64 x5], .put 0 #[.int .i64 1, .int .i64 y1, .int .i64 y2, .string y3, .bool y4, .int .i64 y5]] : List Stp) [] ([(w.heap.size + 1, 25, #[.int .i64 k', .int .i64 m', .int .i64 s', .string t', .bool b', .int .i64 e']), (w.heap.size, 25, #[.int .i64 k, .int .i64 m, .int .i64 s, .string t, .bool b, .int .i64 e])] : List (Nat × TypeId × Array Value)) W := hS
        clear hS
        have hB0 := hS2
        have hB : SB w 2 ([(w.heap.size + 1, 25, #[.int .i64 k', .int .i64 m', .int .i64 s', .string t', .bool b', .int .i64 e']), (w.heap.size, 25, #[.int .i64 k, .int .i64 m, .int .i64 s, .string t, .bool b, .int .i64 e])] : List (Nat × TypeId × Array Value)) W := hB0
        clear hB0
        rw [Array.getD_eq_getD_getElem?] at e7
        have kz := hB.box (i := 1) rfl
        have z0 := kz.frozen 0
        have q0 := kz.cell 0
        have z1 := kz.frozen 1
        have q1 := kz.cell 1
        have z2 := kz.frozen 2
        have q2 := kz.cell 2
        have z3 := kz.frozen 3
        have q3 := kz.cell 3
        have z4 := kz.frozen 4
        have q4 := kz.cell 4
        have z5 := kz.frozen 5
        have q5 := kz.cell 5
        have hge : w.heap.size ≤ (w.heap.size) := by omega
        have hne : ∀ qx ∈ butBox ([(w.heap.size + 1, 25, #[.int .i64 k', .int .i64 m', .int .i64 s', .string t', .bool b', .int .i64 e']), (w.heap.size, 25, #[.int .i64 k, .int .i64 m, .int .i64 s, .string t, .bool b, .int .i64 e])] : List (Nat × TypeId × Array Value)) 1, qx.1 ≠ (w.heap.size) := by simp [butBox] <;> omega
        have hF := hB.put6 (i := 1) rfl hge hne (.int .i64 1 : Value) (.int .i64 x1 : Value) (.int .i64 x2 : Value) (.string x3 : Value) (.bool x4 : Value) (.int .i64 x5 : Value)
        clear kz hB hne hge
        go_simp
        exact ⟨hF, trivial, trivial⟩
    · skip
      intro a W vals hv hS hL hp
      have e3 : a.tmps.getD 3 undef = .pointer (some ⟨w.heap.size + 1, 0, none⟩) := hL.1
      have e10 : a.tmps.getD 10 undef = .agg #[.int .i64 1, .int .i64 y1, .int .i64 y2, .string y3, .bool y4, .int .i64 y5] := hL.2.1
      clear hL
      match vals, hv, hS with
      | [v0], _, hS =>
        have hS2 : SX w 2 ([.put 1 #[.int .i64 1, .int .i64 x1, .int .i64 x2, .string x3, .bool x4, .int .i64 x5], .put 0 #[.int .i64 1, .int .i64 y1, .int .i64 y2, .string y3, .bool y4, .int .i64 y5]] : List Stp) [v0] ([(w.heap.size + 1, 25, #[.int .i64 k', .int .i64 m', .int .i64 s', .string t', .bool b', .int .i64 e']), (w.heap.size, 25, #[.int .i64 k, .int .i64 m, .int .i64 s, .string t, .bool b, .int .i64 e])] : List (Nat × TypeId × Array Value)) W := hS
        clear hS
        have hB0 := hS2
        have hB : SB w 2 ([(w.heap.size + 1, 25, #[.int .i64 k', .int .i64 m', .int .i64 s', .string t', .bool b', .int .i64 e']), (w.heap.size, 25, #[.int .i64 1, .int .i64 x1, .int .i64 x2, .string x3, .bool x4, .int .i64 x5])] : List (Nat × TypeId × Array Value)) W := hB0
        clear hB0
        rw [Array.getD_eq_getD_getElem?] at e10
        have kz := hB.box (i := 0) rfl
        have z0 := kz.frozen 0
        have q0 := kz.cell 0
        have z1 := kz.frozen 1
        have q1 := kz.cell 1
        have z2 := kz.frozen 2
        have q2 := kz.cell 2
        have z3 := kz.frozen 3
        have q3 := kz.cell 3
        have z4 := kz.frozen 4
        have q4 := kz.cell 4
        have z5 := kz.frozen 5
        have q5 := kz.cell 5
        have hge : w.heap.size ≤ (w.heap.size + 1) := by omega
        have hne : ∀ qx ∈ butBox ([(w.heap.size + 1, 25, #[.int .i64 k', .int .i64 m', .int .i64 s', .string t', .bool b', .int .i64 e']), (w.heap.size, 25, #[.int .i64 1, .int .i64 x1, .int .i64 x2, .string x3, .bool x4, .int .i64 x5])] : List (Nat × TypeId × Array Value)) 0, qx.1 ≠ (w.heap.size + 1) := by simp [butBox] <;> omega
        have hF := hB.put6 (i := 0) rfl hge hne (.int .i64 1 : Value) (.int .i64 y1 : Value) (.int .i64 y2 : Value) (.string y3 : Value) (.bool y4 : Value) (.int .i64 y5 : Value)
        clear kz hB hne hge
        go_simp
        exact ⟨hF, trivial, trivial⟩
  · intro a W' vals hd hsz hT hF hv hP hS
    obtain ⟨v0, v1, rfl⟩ : ∃ v0 v1, vals = [v0, v1] := by
      match vals, hv with
      | [v0, v1], _ => exact ⟨v0, v1, rfl⟩
    have hS2 : SX w 2 ([.put 1 #[.int .i64 1, .int .i64 x1, .int .i64 x2, .string x3, .bool x4, .int .i64 x5], .put 0 #[.int .i64 1, .int .i64 y1, .int .i64 y2, .string y3, .bool y4, .int .i64 y5]] : List Stp) [v0, v1] ([(w.heap.size + 1, 25, #[.int .i64 k', .int .i64 m', .int .i64 s', .string t', .bool b', .int .i64 e']), (w.heap.size, 25, #[.int .i64 k, .int .i64 m, .int .i64 s, .string t, .bool b, .int .i64 e])] : List (Nat × TypeId × Array Value)) W' := hS
    clear hS
    have hB0 := hS2
    have hB : SB w 2 ([(w.heap.size + 1, 25, #[.int .i64 1, .int .i64 y1, .int .i64 y2, .string y3, .bool y4, .int .i64 y5]), (w.heap.size, 25, #[.int .i64 1, .int .i64 x1, .int .i64 x2, .string x3, .bool x4, .int .i64 x5])] : List (Nat × TypeId × Array Value)) W' := hB0
    clear hB0
    have e2 : a.tmps.getD 2 undef = .pointer (some ⟨w.heap.size, 0, none⟩) := hT 2 (by simp)
    have e3 : a.tmps.getD 3 undef = .pointer (some ⟨w.heap.size + 1, 0, none⟩) := hT 3 (by simp)
    clear hT hF hP
    rw [act_lit 53 a hd hsz]
    simp only [List.range, List.range.loop, List.map, e2, e3]
    clear hd hsz e2 e3
    have ky := hB.box (i := 0) rfl
    have cy0 := ky.cell 0
    have cy1 := ky.cell 1
    have cy2 := ky.cell 2
    have cy3 := ky.cell 3
    have cy4 := ky.cell 4
    have cy5 := ky.cell 5
    clear ky
    have kx := hB.box (i := 1) rfl
    have cx0 := kx.cell 0
    have cx1 := kx.cell 1
    have cx2 := kx.cell 2
    have cx3 := kx.cell 3
    have cx4 := kx.cell 4
    have cx5 := kx.cell 5
    clear kx
    go_wp2_with fail
    refine (HC.out _).mono ?_
    rintro x w9 ⟨rfl, hb⟩
    have hbel := (hB.call hb).bel
    clear hb hB HB HX HY HC
    go_wp2
    go_ret
    exact ⟨rfl, hbel⟩

set_option maxRecDepth 20000 in
set_option maxHeartbeats 4000000 in
theorem compare_str {w : World} {k m s : Int} {t : ByteArray} {b : Bool} {e : Int} {k' m' s' : Int} {t' : ByteArray} {b' : Bool} {e' : Int} {x1 x2 : Int} {x3 : ByteArray} {x4 : Bool} {x5 : Int} {y1 y2 : Int} {y3 : ByteArray} {y4 : Bool} {y5 : Int} {C : Int}
    (KX : ∀ W : World, Calls Tryz.prog 38 #[.agg #[.int .i64 k, .int .i64 m, .int .i64 s, .string t, .bool b, .int .i64 e], .agg #[.int .i64 k', .int .i64 m', .int .i64 s', .string t', .bool b', .int .i64 e']] W fun x w' => x = .returned (.agg #[.int .i64 2, .int .i64 x1, .int .i64 x2, .string x3, .bool x4, .int .i64 x5]) ∧ Below W.heap.size W w')
    (KY : ∀ W : World, Calls Tryz.prog 38 #[.agg #[.int .i64 k', .int .i64 m', .int .i64 s', .string t', .bool b', .int .i64 e'], .agg #[.int .i64 k, .int .i64 m, .int .i64 s, .string t, .bool b, .int .i64 e]] W fun x w' => x = .returned (.agg #[.int .i64 2, .int .i64 y1, .int .i64 y2, .string y3, .bool y4, .int .i64 y5]) ∧ Below W.heap.size W w') (KC : ∀ W : World, Calls Tryz.prog 41 #[.string x3, .string y3] W fun x w' => x = .returned (.int .i64 C) ∧ Below W.heap.size W w') :
    Calls Tryz.prog 18 #[.agg #[.int .i64 k, .int .i64 m, .int .i64 s, .string t, .bool b, .int .i64 e], .agg #[.int .i64 k', .int .i64 m', .int .i64 s', .string t', .bool b', .int .i64 e']] w fun x w' => x = .returned (.int .i64 C) ∧ Below w.heap.size w w' := by
  have HX := Lib.hid KX
  have HY := Lib.hid KY
  clear KX KY
  have HC := Lib.hid KC
  clear KC
  have HB := Lib.hid ((sb1 w 25 #[.int .i64 k, .int .i64 m, .int .i64 s, .string t, .bool b, .int .i64 e]).push (by simp) 25 #[.int .i64 k', .int .i64 m', .int .i64 s', .string t', .bool b', .int .i64 e'])
  go_enter Tryz.func18, Tryz.ntmps18
  go_wp2_with fail
  refine wp_region_early (S := (fun vals W => SX w 2 ([.put 1 #[.int .i64 2, .int .i64 x1, .int .i64 x2, .string x3, .bool x4, .int .i64 x5], .put 0 #[.int .i64 2, .int .i64 y1, .int .i64 y2, .string y3, .bool y4, .int .i64 y5]] : List Stp) vals ([(w.heap.size + 1, 25, #[.int .i64 k', .int .i64 m', .int .i64 s', .string t', .bool b', .int .i64 e']), (w.heap.size, 25, #[.int .i64 k, .int .i64 m, .int .i64 s, .string t, .bool b, .int .i64 e])] : List (Nat × TypeId × Array Value)) W)) (E := (fun _ _ => True)) [6, 7] [(2, Is (.pointer (some ⟨w.heap.size, 0, none⟩))), (3, Is (.pointer (some ⟨w.heap.size + 1, 0, none⟩)))] [(5, Is (.agg #[.int .i64 k, .int .i64 m, .int .i64 s, .string t, .bool b, .int .i64 e])), (6, Is (.agg #[.int .i64 k', .int .i64 m', .int .i64 s', .string t', .bool b', .int .i64 e'])), (7, Is (.agg #[.int .i64 2, .int .i64 x1, .int .i64 x2, .string x3, .bool x4, .int .i64 x5])), (8, Is (.agg #[.int .i64 k', .int .i64 m', .int .i64 s', .string t', .bool b', .int .i64 e'])), (9, Is (.agg #[.int .i64 k, .int .i64 m, .int .i64 s, .string t, .bool b, .int .i64 e])), (10, Is (.agg #[.int .i64 2, .int .i64 y1, .int .i64 y2, .string y3, .bool y4, .int .i64 y5]))]
    [.op [2] none, .op [3] none, .op [5, 6] none, .op [3] none, .op [2] none, .op [8, 9] none, .phase 0 [2, 7] [], .phase 1 [3, 10] []] (by as_aux_lemma => kernel_rfl) ?_ ?_ ?_ ?_ ?_ ⟨stable_is _ _, stable_is _ _, stable_is _ _, stable_is _ _, stable_is _ _, stable_is _ _, stable_is _ _, stable_is _ _, trivial⟩ ?_ (HB.out.drew) ?_ ?_
  · as_aux_lemma => kernel_rfl
  · as_aux_lemma => kernel_rfl
  · as_aux_lemma => kernel_rfl
  · as_aux_lemma => kernel_rfl
  · as_aux_lemma => kernel_rfl
  · exact ⟨rfl, rfl, trivial⟩
  · refine ⟨?_, ?_, ?_, ?_, ?_, ?_, ?_, ?_, trivial⟩
    · as_aux_lemma =>
        intro vals hE a W hS hL
        obtain rfl : vals = [] := List.eq_nil_of_length_eq_zero (Nat.le_zero.1 (hE 0 (by kernel_rfl)))
        have e2 : a.tmps.getD 2 undef = .pointer (some ⟨w.heap.size, 0, none⟩) := hL.1
        clear hL
        have kb : Bk W (w.heap.size) 25 #[.int .i64 k, .int .i64 m, .int .i64 s, .string t, .bool b, .int .i64 e] := SB.box (i := 1) hS rfl
        have f0 := kb.cell 0
        have f1 := kb.cell 1
        have f2 := kb.cell 2
        have f3 := kb.cell 3
        have f4 := kb.cell 4
        have f5 := kb.cell 5
        clear kb
        go_simp
        exact ⟨⟨fun d hd => by injection hd with hd; subst hd; rfl, fun h => by cases h⟩, hS, trivial⟩
    · as_aux_lemma =>
        intro vals hE a W hS hL
        obtain rfl : vals = [] := List.eq_nil_of_length_eq_zero (Nat.le_zero.1 (hE 0 (by kernel_rfl)))
        have e3 : a.tmps.getD 3 undef = .pointer (some ⟨w.heap.size + 1, 0, none⟩) := hL.1
        clear hL
        have kb : Bk W (w.heap.size + 1) 25 #[.int .i64 k', .int .i64 m', .int .i64 s', .string t', .bool b', .int .i64 e'] := SB.box (i := 0) hS rfl
        have f0 := kb.cell 0
        have f1 := kb.cell 1
        have f2 := kb.cell 2
        have f3 := kb.cell 3
        have f4 := kb.cell 4
        have f5 := kb.cell 5
        clear kb
        go_simp
        exact ⟨⟨fun d hd => by injection hd with hd; subst hd; rfl, fun h => by cases h⟩, hS, trivial⟩
    · as_aux_lemma =>
        intro vals hE a W hS hL
        obtain rfl : vals = [] := List.eq_nil_of_length_eq_zero (Nat.le_zero.1 (hE 0 (by kernel_rfl)))
        have e5 : a.tmps.getD 5 undef = .agg #[.int .i64 k, .int .i64 m, .int .i64 s, .string t, .bool b, .int .i64 e] := hL.1
        have e6 : a.tmps.getD 6 undef = .agg #[.int .i64 k', .int .i64 m', .int .i64 s', .string t', .bool b', .int .i64 e'] := hL.2.1
        clear hL
        go_simp
        refine (HX.out W).mono ?_
        rintro e W' ⟨rfl, hb⟩
        exact ⟨_, rfl, ⟨fun d hd => by injection hd with hd; subst hd; rfl, fun h => by cases h⟩, hS.call hb, trivial⟩
    · as_aux_lemma =>
        intro vals hE a W hS hL
        have hE1 := hE 1 (by kernel_rfl)
        have e3 : a.tmps.getD 3 undef = .pointer (some ⟨w.heap.size + 1, 0, none⟩) := hL.1
        clear hL
        have kb : Bk W (w.heap.size + 1) 25 #[.int .i64 k', .int .i64 m', .int .i64 s', .string t', .bool b', .int .i64 e'] := by
          match vals, hE1, hS with
          | [], _, hS => exact SB.box (i := 0) hS rfl
          | [_], _, hS => exact SB.box (i := 0) hS rfl
        have f0 := kb.cell 0
        have f1 := kb.cell 1
        have f2 := kb.cell 2
        have f3 := kb.cell 3
        have f4 := kb.cell 4
        have f5 := kb.cell 5
        clear kb
        go_simp
        exact ⟨⟨fun d hd => by injection hd with hd; subst hd; rfl, fun h => by cases h⟩, hS, trivial⟩
    · as_aux_lemma =>
        intro vals hE a W hS hL
        obtain rfl : vals = [] := List.eq_nil_of_length_eq_zero (Nat.le_zero.1 (hE 0 (by kernel_rfl)))
        have e2 : a.tmps.getD 2 undef = .pointer (some ⟨w.heap.size, 0, none⟩) := hL.1
        clear hL
        have kb : Bk W (w.heap.size) 25 #[.int .i64 k, .int .i64 m, .int .i64 s, .string t, .bool b, .int .i64 e] := SB.box (i := 1) hS rfl
        have f0 := kb.cell 0
        have f1 := kb.cell 1
        have f2 := kb.cell 2
        have f3 := kb.cell 3
        have f4 := kb.cell 4
        have f5 := kb.cell 5
        clear kb
        go_simp
        exact ⟨⟨fun d hd => by injection hd with hd; subst hd; rfl, fun h => by cases h⟩, hS, trivial⟩
    · as_aux_lemma =>
        intro vals hE a W hS hL
        have hE1 := hE 1 (by kernel_rfl)
        have e8 : a.tmps.getD 8 undef = .agg #[.int .i64 k', .int .i64 m', .int .i64 s', .string t', .bool b', .int .i64 e'] := hL.1
        have e9 : a.tmps.getD 9 undef = .agg #[.int .i64 k, .int .i64 m, .int .i64 s, .string t, .bool b, .int .i64 e] := hL.2.1
        clear hL
        go_simp
        refine (HY.out W).mono ?_
        rintro e W' ⟨rfl, hb⟩
        exact ⟨_, rfl, ⟨fun d hd => by injection hd with hd; subst hd; rfl, fun h => by cases h⟩, hS.call hb, trivial⟩
    · skip
      intro a W vals hv hS hL hp
      have e2 : a.tmps.getD 2 undef = .pointer (some ⟨w.heap.size, 0, none⟩) := hL.1
      have e7 : a.tmps.getD 7 undef = .agg #[.int .i64 2, .int .i64 x1, .int .i64 x2, .string x3, .bool x4, .int .i64 x5] := hL.2.1
      clear hL
      match vals, hv, hS with
      | [], _, hS =>
        have hS2 : SX w 2 ([.put 1 #[.int .i64 2, .int .i64 x1, .int .i64 x2, .string x3, .bool x4, .int .i64 x5], .put 0 #[.int .i64 2, .int .i64 y1, .int .i64 y2, .string y3, .bool y4, .int .i64 y5]] : List Stp) [] ([(w.heap.size + 1, 25, #[.int .i64 k', .int .i64 m', .int .i64 s', .string t', .bool b', .int .i64 e']), (w.heap.size, 25, #[.int .i64 k, .int .i64 m, .int .i64 s, .string t, .bool b, .int .i64 e])] : List (Nat × TypeId × Array Value)) W := hS
        clear hS
        have hB0 := hS2
        have hB : SB w 2 ([(w.heap.size + 1, 25, #[.int .i64 k', .int .i64 m', .int .i64 s', .string t', .bool b', .int .i64 e']), (w.heap.size, 25, #[.int .i64 k, .int .i64 m, .int .i64 s, .string t, .bool b, .int .i64 e])] : List (Nat × TypeId × Array Value)) W := hB0
        clear hB0
        rw [Array.getD_eq_getD_getElem?] at e7
        have kz := hB.box (i := 1) rfl
        have z0 := kz.frozen 0
        have q0 := kz.cell 0
        have z1 := kz.frozen 1
        have q1 := kz.cell 1
        have z2 := kz.frozen 2
        have q2 := kz.cell 2
        have z3 := kz.frozen 3
        have q3 := kz.cell 3
        have z4 := kz.frozen 4
        have q4 := kz.cell 4
        have z5 := kz.frozen 5
        have q5 := kz.cell 5
        have hge : w.heap.size ≤ (w.heap.size) := by omega
        have hne : ∀ qx ∈ butBox ([(w.heap.size + 1, 25, #[.int .i64 k', .int .i64 m', .int .i64 s', .string t', .bool b', .int .i64 e']), (w.heap.size, 25, #[.int .i64 k, .int .i64 m, .int .i64 s, .string t, .bool b, .int .i64 e])] : List (Nat × TypeId × Array Value)) 1, qx.1 ≠ (w.heap.size) := by simp [butBox] <;> omega
        have hF := hB.put6 (i := 1) rfl hge hne (.int .i64 2 : Value) (.int .i64 x1 : Value) (.int .i64 x2 : Value) (.string x3 : Value) (.bool x4 : Value) (.int .i64 x5 : Value)
        clear kz hB hne hge
        go_simp
        exact ⟨hF, trivial, trivial⟩
    · skip
      intro a W vals hv hS hL hp
      have e3 : a.tmps.getD 3 undef = .pointer (some ⟨w.heap.size + 1, 0, none⟩) := hL.1
      have e10 : a.tmps.getD 10 undef = .agg #[.int .i64 2, .int .i64 y1, .int .i64 y2, .string y3, .bool y4, .int .i64 y5] := hL.2.1
      clear hL
      match vals, hv, hS with
      | [v0], _, hS =>
        have hS2 : SX w 2 ([.put 1 #[.int .i64 2, .int .i64 x1, .int .i64 x2, .string x3, .bool x4, .int .i64 x5], .put 0 #[.int .i64 2, .int .i64 y1, .int .i64 y2, .string y3, .bool y4, .int .i64 y5]] : List Stp) [v0] ([(w.heap.size + 1, 25, #[.int .i64 k', .int .i64 m', .int .i64 s', .string t', .bool b', .int .i64 e']), (w.heap.size, 25, #[.int .i64 k, .int .i64 m, .int .i64 s, .string t, .bool b, .int .i64 e])] : List (Nat × TypeId × Array Value)) W := hS
        clear hS
        have hB0 := hS2
        have hB : SB w 2 ([(w.heap.size + 1, 25, #[.int .i64 k', .int .i64 m', .int .i64 s', .string t', .bool b', .int .i64 e']), (w.heap.size, 25, #[.int .i64 2, .int .i64 x1, .int .i64 x2, .string x3, .bool x4, .int .i64 x5])] : List (Nat × TypeId × Array Value)) W := hB0
        clear hB0
        rw [Array.getD_eq_getD_getElem?] at e10
        have kz := hB.box (i := 0) rfl
        have z0 := kz.frozen 0
        have q0 := kz.cell 0
        have z1 := kz.frozen 1
        have q1 := kz.cell 1
        have z2 := kz.frozen 2
        have q2 := kz.cell 2
        have z3 := kz.frozen 3
        have q3 := kz.cell 3
        have z4 := kz.frozen 4
        have q4 := kz.cell 4
        have z5 := kz.frozen 5
        have q5 := kz.cell 5
        have hge : w.heap.size ≤ (w.heap.size + 1) := by omega
        have hne : ∀ qx ∈ butBox ([(w.heap.size + 1, 25, #[.int .i64 k', .int .i64 m', .int .i64 s', .string t', .bool b', .int .i64 e']), (w.heap.size, 25, #[.int .i64 2, .int .i64 x1, .int .i64 x2, .string x3, .bool x4, .int .i64 x5])] : List (Nat × TypeId × Array Value)) 0, qx.1 ≠ (w.heap.size + 1) := by simp [butBox] <;> omega
        have hF := hB.put6 (i := 0) rfl hge hne (.int .i64 2 : Value) (.int .i64 y1 : Value) (.int .i64 y2 : Value) (.string y3 : Value) (.bool y4 : Value) (.int .i64 y5 : Value)
        clear kz hB hne hge
        go_simp
        exact ⟨hF, trivial, trivial⟩
  · intro a W' vals hd hsz hT hF hv hP hS
    obtain ⟨v0, v1, rfl⟩ : ∃ v0 v1, vals = [v0, v1] := by
      match vals, hv with
      | [v0, v1], _ => exact ⟨v0, v1, rfl⟩
    have hS2 : SX w 2 ([.put 1 #[.int .i64 2, .int .i64 x1, .int .i64 x2, .string x3, .bool x4, .int .i64 x5], .put 0 #[.int .i64 2, .int .i64 y1, .int .i64 y2, .string y3, .bool y4, .int .i64 y5]] : List Stp) [v0, v1] ([(w.heap.size + 1, 25, #[.int .i64 k', .int .i64 m', .int .i64 s', .string t', .bool b', .int .i64 e']), (w.heap.size, 25, #[.int .i64 k, .int .i64 m, .int .i64 s, .string t, .bool b, .int .i64 e])] : List (Nat × TypeId × Array Value)) W' := hS
    clear hS
    have hB0 := hS2
    have hB : SB w 2 ([(w.heap.size + 1, 25, #[.int .i64 2, .int .i64 y1, .int .i64 y2, .string y3, .bool y4, .int .i64 y5]), (w.heap.size, 25, #[.int .i64 2, .int .i64 x1, .int .i64 x2, .string x3, .bool x4, .int .i64 x5])] : List (Nat × TypeId × Array Value)) W' := hB0
    clear hB0
    have e2 : a.tmps.getD 2 undef = .pointer (some ⟨w.heap.size, 0, none⟩) := hT 2 (by simp)
    have e3 : a.tmps.getD 3 undef = .pointer (some ⟨w.heap.size + 1, 0, none⟩) := hT 3 (by simp)
    clear hT hF hP
    rw [act_lit 53 a hd hsz]
    simp only [List.range, List.range.loop, List.map, e2, e3]
    clear hd hsz e2 e3
    have ky := hB.box (i := 0) rfl
    have cy0 := ky.cell 0
    have cy1 := ky.cell 1
    have cy2 := ky.cell 2
    have cy3 := ky.cell 3
    have cy4 := ky.cell 4
    have cy5 := ky.cell 5
    clear ky
    have kx := hB.box (i := 1) rfl
    have cx0 := kx.cell 0
    have cx1 := kx.cell 1
    have cx2 := kx.cell 2
    have cx3 := kx.cell 3
    have cx4 := kx.cell 4
    have cx5 := kx.cell 5
    clear kx
    go_wp2_with fail
    refine (HC.out _).mono ?_
    rintro x w9 ⟨rfl, hb⟩
    have hbel := (hB.call hb).bel
    clear hb hB HB HX HY HC
    go_wp2
    go_ret
    exact ⟨rfl, hbel⟩

set_option maxRecDepth 20000 in
set_option maxHeartbeats 4000000 in
theorem compare_err {w : World} {k m s : Int} {t : ByteArray} {b : Bool} {e : Int} {k' m' s' : Int} {t' : ByteArray} {b' : Bool} {e' : Int} {x1 x2 : Int} {x3 : ByteArray} {x4 : Bool} {x5 : Int} {y1 y2 : Int} {y3 : ByteArray} {y4 : Bool} {y5 : Int}
    (KX : ∀ W : World, Calls Tryz.prog 38 #[.agg #[.int .i64 k, .int .i64 m, .int .i64 s, .string t, .bool b, .int .i64 e], .agg #[.int .i64 k', .int .i64 m', .int .i64 s', .string t', .bool b', .int .i64 e']] W fun x w' => x = .returned (.agg #[.int .i64 4, .int .i64 x1, .int .i64 x2, .string x3, .bool x4, .int .i64 x5]) ∧ Below W.heap.size W w')
    (KY : ∀ W : World, Calls Tryz.prog 38 #[.agg #[.int .i64 k', .int .i64 m', .int .i64 s', .string t', .bool b', .int .i64 e'], .agg #[.int .i64 k, .int .i64 m, .int .i64 s, .string t, .bool b, .int .i64 e]] W fun x w' => x = .returned (.agg #[.int .i64 4, .int .i64 y1, .int .i64 y2, .string y3, .bool y4, .int .i64 y5]) ∧ Below W.heap.size W w') :
    Calls Tryz.prog 18 #[.agg #[.int .i64 k, .int .i64 m, .int .i64 s, .string t, .bool b, .int .i64 e], .agg #[.int .i64 k', .int .i64 m', .int .i64 s', .string t', .bool b', .int .i64 e']] w fun x w' => x = .returned (.int .i64 (cmp x5 y5)) ∧ Below w.heap.size w w' := by
  have HX := Lib.hid KX
  have HY := Lib.hid KY
  clear KX KY
  have HC := Lib.hid (fun W : World => cmp_int (w := W) x5 y5)
  generalize cmp x5 y5 = C at *
  have HB := Lib.hid ((sb1 w 25 #[.int .i64 k, .int .i64 m, .int .i64 s, .string t, .bool b, .int .i64 e]).push (by simp) 25 #[.int .i64 k', .int .i64 m', .int .i64 s', .string t', .bool b', .int .i64 e'])
  go_enter Tryz.func18, Tryz.ntmps18
  go_wp2_with fail
  refine wp_region_early (S := (fun vals W => SX w 2 ([.put 1 #[.int .i64 4, .int .i64 x1, .int .i64 x2, .string x3, .bool x4, .int .i64 x5], .put 0 #[.int .i64 4, .int .i64 y1, .int .i64 y2, .string y3, .bool y4, .int .i64 y5]] : List Stp) vals ([(w.heap.size + 1, 25, #[.int .i64 k', .int .i64 m', .int .i64 s', .string t', .bool b', .int .i64 e']), (w.heap.size, 25, #[.int .i64 k, .int .i64 m, .int .i64 s, .string t, .bool b, .int .i64 e])] : List (Nat × TypeId × Array Value)) W)) (E := (fun _ _ => True)) [6, 7] [(2, Is (.pointer (some ⟨w.heap.size, 0, none⟩))), (3, Is (.pointer (some ⟨w.heap.size + 1, 0, none⟩)))] [(5, Is (.agg #[.int .i64 k, .int .i64 m, .int .i64 s, .string t, .bool b, .int .i64 e])), (6, Is (.agg #[.int .i64 k', .int .i64 m', .int .i64 s', .string t', .bool b', .int .i64 e'])), (7, Is (.agg #[.int .i64 4, .int .i64 x1, .int .i64 x2, .string x3, .bool x4, .int .i64 x5])), (8, Is (.agg #[.int .i64 k', .int .i64 m', .int .i64 s', .string t', .bool b', .int .i64 e'])), (9, Is (.agg #[.int .i64 k, .int .i64 m, .int .i64 s, .string t, .bool b, .int .i64 e])), (10, Is (.agg #[.int .i64 4, .int .i64 y1, .int .i64 y2, .string y3, .bool y4, .int .i64 y5]))]
    [.op [2] none, .op [3] none, .op [5, 6] none, .op [3] none, .op [2] none, .op [8, 9] none, .phase 0 [2, 7] [], .phase 1 [3, 10] []] (by as_aux_lemma => kernel_rfl) ?_ ?_ ?_ ?_ ?_ ⟨stable_is _ _, stable_is _ _, stable_is _ _, stable_is _ _, stable_is _ _, stable_is _ _, stable_is _ _, stable_is _ _, trivial⟩ ?_ (HB.out.drew) ?_ ?_
  · as_aux_lemma => kernel_rfl
  · as_aux_lemma => kernel_rfl
  · as_aux_lemma => kernel_rfl
  · as_aux_lemma => kernel_rfl
  · as_aux_lemma => kernel_rfl
  · exact ⟨rfl, rfl, trivial⟩
  · refine ⟨?_, ?_, ?_, ?_, ?_, ?_, ?_, ?_, trivial⟩
    · as_aux_lemma =>
        intro vals hE a W hS hL
        obtain rfl : vals = [] := List.eq_nil_of_length_eq_zero (Nat.le_zero.1 (hE 0 (by kernel_rfl)))
        have e2 : a.tmps.getD 2 undef = .pointer (some ⟨w.heap.size, 0, none⟩) := hL.1
        clear hL
        have kb : Bk W (w.heap.size) 25 #[.int .i64 k, .int .i64 m, .int .i64 s, .string t, .bool b, .int .i64 e] := SB.box (i := 1) hS rfl
        have f0 := kb.cell 0
        have f1 := kb.cell 1
        have f2 := kb.cell 2
        have f3 := kb.cell 3
        have f4 := kb.cell 4
        have f5 := kb.cell 5
        clear kb
        go_simp
        exact ⟨⟨fun d hd => by injection hd with hd; subst hd; rfl, fun h => by cases h⟩, hS, trivial⟩
    · as_aux_lemma =>
        intro vals hE a W hS hL
        obtain rfl : vals = [] := List.eq_nil_of_length_eq_zero (Nat.le_zero.1 (hE 0 (by kernel_rfl)))
        have e3 : a.tmps.getD 3 undef = .pointer (some ⟨w.heap.size + 1, 0, none⟩) := hL.1
        clear hL
        have kb : Bk W (w.heap.size + 1) 25 #[.int .i64 k', .int .i64 m', .int .i64 s', .string t', .bool b', .int .i64 e'] := SB.box (i := 0) hS rfl
        have f0 := kb.cell 0
        have f1 := kb.cell 1
        have f2 := kb.cell 2
        have f3 := kb.cell 3
        have f4 := kb.cell 4
        have f5 := kb.cell 5
        clear kb
        go_simp
        exact ⟨⟨fun d hd => by injection hd with hd; subst hd; rfl, fun h => by cases h⟩, hS, trivial⟩
    · as_aux_lemma =>
        intro vals hE a W hS hL
        obtain rfl : vals = [] := List.eq_nil_of_length_eq_zero (Nat.le_zero.1 (hE 0 (by kernel_rfl)))
        have e5 : a.tmps.getD 5 undef = .agg #[.int .i64 k, .int .i64 m, .int .i64 s, .string t, .bool b, .int .i64 e] := hL.1
        have e6 : a.tmps.getD 6 undef = .agg #[.int .i64 k', .int .i64 m', .int .i64 s', .string t', .bool b', .int .i64 e'] := hL.2.1
        clear hL
        go_simp
        refine (HX.out W).mono ?_
        rintro e W' ⟨rfl, hb⟩
        exact ⟨_, rfl, ⟨fun d hd => by injection hd with hd; subst hd; rfl, fun h => by cases h⟩, hS.call hb, trivial⟩
    · as_aux_lemma =>
        intro vals hE a W hS hL
        have hE1 := hE 1 (by kernel_rfl)
        have e3 : a.tmps.getD 3 undef = .pointer (some ⟨w.heap.size + 1, 0, none⟩) := hL.1
        clear hL
        have kb : Bk W (w.heap.size + 1) 25 #[.int .i64 k', .int .i64 m', .int .i64 s', .string t', .bool b', .int .i64 e'] := by
          match vals, hE1, hS with
          | [], _, hS => exact SB.box (i := 0) hS rfl
          | [_], _, hS => exact SB.box (i := 0) hS rfl
        have f0 := kb.cell 0
        have f1 := kb.cell 1
        have f2 := kb.cell 2
        have f3 := kb.cell 3
        have f4 := kb.cell 4
        have f5 := kb.cell 5
        clear kb
        go_simp
        exact ⟨⟨fun d hd => by injection hd with hd; subst hd; rfl, fun h => by cases h⟩, hS, trivial⟩
    · as_aux_lemma =>
        intro vals hE a W hS hL
        obtain rfl : vals = [] := List.eq_nil_of_length_eq_zero (Nat.le_zero.1 (hE 0 (by kernel_rfl)))
        have e2 : a.tmps.getD 2 undef = .pointer (some ⟨w.heap.size, 0, none⟩) := hL.1
        clear hL
        have kb : Bk W (w.heap.size) 25 #[.int .i64 k, .int .i64 m, .int .i64 s, .string t, .bool b, .int .i64 e] := SB.box (i := 1) hS rfl
        have f0 := kb.cell 0
        have f1 := kb.cell 1
        have f2 := kb.cell 2
        have f3 := kb.cell 3
        have f4 := kb.cell 4
        have f5 := kb.cell 5
        clear kb
        go_simp
        exact ⟨⟨fun d hd => by injection hd with hd; subst hd; rfl, fun h => by cases h⟩, hS, trivial⟩
    · as_aux_lemma =>
        intro vals hE a W hS hL
        have hE1 := hE 1 (by kernel_rfl)
        have e8 : a.tmps.getD 8 undef = .agg #[.int .i64 k', .int .i64 m', .int .i64 s', .string t', .bool b', .int .i64 e'] := hL.1
        have e9 : a.tmps.getD 9 undef = .agg #[.int .i64 k, .int .i64 m, .int .i64 s, .string t, .bool b, .int .i64 e] := hL.2.1
        clear hL
        go_simp
        refine (HY.out W).mono ?_
        rintro e W' ⟨rfl, hb⟩
        exact ⟨_, rfl, ⟨fun d hd => by injection hd with hd; subst hd; rfl, fun h => by cases h⟩, hS.call hb, trivial⟩
    · skip
      intro a W vals hv hS hL hp
      have e2 : a.tmps.getD 2 undef = .pointer (some ⟨w.heap.size, 0, none⟩) := hL.1
      have e7 : a.tmps.getD 7 undef = .agg #[.int .i64 4, .int .i64 x1, .int .i64 x2, .string x3, .bool x4, .int .i64 x5] := hL.2.1
      clear hL
      match vals, hv, hS with
      | [], _, hS =>
        have hS2 : SX w 2 ([.put 1 #[.int .i64 4, .int .i64 x1, .int .i64 x2, .string x3, .bool x4, .int .i64 x5], .put 0 #[.int .i64 4, .int .i64 y1, .int .i64 y2, .string y3, .bool y4, .int .i64 y5]] : List Stp) [] ([(w.heap.size + 1, 25, #[.int .i64 k', .int .i64 m', .int .i64 s', .string t', .bool b', .int .i64 e']), (w.heap.size, 25, #[.int .i64 k, .int .i64 m, .int .i64 s, .string t, .bool b, .int .i64 e])] : List (Nat × TypeId × Array Value)) W := hS
        clear hS
        have hB0 := hS2
        have hB : SB w 2 ([(w.heap.size + 1, 25, #[.int .i64 k', .int .i64 m', .int .i64 s', .string t', .bool b', .int .i64 e']), (w.heap.size, 25, #[.int .i64 k, .int .i64 m, .int .i64 s, .string t, .bool b, .int .i64 e])] : List (Nat × TypeId × Array Value)) W := hB0
        clear hB0
        rw [Array.getD_eq_getD_getElem?] at e7
        have kz := hB.box (i := 1) rfl
        have z0 := kz.frozen 0
        have q0 := kz.cell 0
        have z1 := kz.frozen 1
        have q1 := kz.cell 1
        have z2 := kz.frozen 2
        have q2 := kz.cell 2
        have z3 := kz.frozen 3
        have q3 := kz.cell 3
        have z4 := kz.frozen 4
        have q4 := kz.cell 4
        have z5 := kz.frozen 5
        have q5 := kz.cell 5
        have hge : w.heap.size ≤ (w.heap.size) := by omega
        have hne : ∀ qx ∈ butBox ([(w.heap.size + 1, 25, #[.int .i64 k', .int .i64 m', .int .i64 s', .string t', .bool b', .int .i64 e']), (w.heap.size, 25, #[.int .i64 k, .int .i64 m, .int .i64 s, .string t, .bool b, .int .i64 e])] : List (Nat × TypeId × Array Value)) 1, qx.1 ≠ (w.heap.size) := by simp [butBox] <;> omega
        have hF := hB.put6 (i := 1) rfl hge hne (.int .i64 4 : Value) (.int .i64 x1 : Value) (.int .i64 x2 : Value) (.string x3 : Value) (.bool x4 : Value) (.int .i64 x5 : Value)
        clear kz hB hne hge
        go_simp
        exact ⟨hF, trivial, trivial⟩
    · skip
      intro a W vals hv hS hL hp
      have e3 : a.tmps.getD 3 undef = .pointer (some ⟨w.heap.size + 1, 0, none⟩) := hL.1
      have e10 : a.tmps.getD 10 undef = .agg #[.int .i64 4, .int .i64 y1, .int .i64 y2, .string y3, .bool y4, .int .i64 y5] := hL.2.1
      clear hL
      match vals, hv, hS with
      | [v0], _, hS =>
        have hS2 : SX w 2 ([.put 1 #[.int .i64 4, .int .i64 x1, .int .i64 x2, .string x3, .bool x4, .int .i64 x5], .put 0 #[.int .i64 4, .int .i64 y1, .int .i64 y2, .string y3, .bool y4, .int .i64 y5]] : List Stp) [v0] ([(w.heap.size + 1, 25, #[.int .i64 k', .int .i64 m', .int .i64 s', .string t', .bool b', .int .i64 e']), (w.heap.size, 25, #[.int .i64 k, .int .i64 m, .int .i64 s, .string t, .bool b, .int .i64 e])] : List (Nat × TypeId × Array Value)) W := hS
        clear hS
        have hB0 := hS2
        have hB : SB w 2 ([(w.heap.size + 1, 25, #[.int .i64 k', .int .i64 m', .int .i64 s', .string t', .bool b', .int .i64 e']), (w.heap.size, 25, #[.int .i64 4, .int .i64 x1, .int .i64 x2, .string x3, .bool x4, .int .i64 x5])] : List (Nat × TypeId × Array Value)) W := hB0
        clear hB0
        rw [Array.getD_eq_getD_getElem?] at e10
        have kz := hB.box (i := 0) rfl
        have z0 := kz.frozen 0
        have q0 := kz.cell 0
        have z1 := kz.frozen 1
        have q1 := kz.cell 1
        have z2 := kz.frozen 2
        have q2 := kz.cell 2
        have z3 := kz.frozen 3
        have q3 := kz.cell 3
        have z4 := kz.frozen 4
        have q4 := kz.cell 4
        have z5 := kz.frozen 5
        have q5 := kz.cell 5
        have hge : w.heap.size ≤ (w.heap.size + 1) := by omega
        have hne : ∀ qx ∈ butBox ([(w.heap.size + 1, 25, #[.int .i64 k', .int .i64 m', .int .i64 s', .string t', .bool b', .int .i64 e']), (w.heap.size, 25, #[.int .i64 4, .int .i64 x1, .int .i64 x2, .string x3, .bool x4, .int .i64 x5])] : List (Nat × TypeId × Array Value)) 0, qx.1 ≠ (w.heap.size + 1) := by simp [butBox] <;> omega
        have hF := hB.put6 (i := 0) rfl hge hne (.int .i64 4 : Value) (.int .i64 y1 : Value) (.int .i64 y2 : Value) (.string y3 : Value) (.bool y4 : Value) (.int .i64 y5 : Value)
        clear kz hB hne hge
        go_simp
        exact ⟨hF, trivial, trivial⟩
  · intro a W' vals hd hsz hT hF hv hP hS
    obtain ⟨v0, v1, rfl⟩ : ∃ v0 v1, vals = [v0, v1] := by
      match vals, hv with
      | [v0, v1], _ => exact ⟨v0, v1, rfl⟩
    have hS2 : SX w 2 ([.put 1 #[.int .i64 4, .int .i64 x1, .int .i64 x2, .string x3, .bool x4, .int .i64 x5], .put 0 #[.int .i64 4, .int .i64 y1, .int .i64 y2, .string y3, .bool y4, .int .i64 y5]] : List Stp) [v0, v1] ([(w.heap.size + 1, 25, #[.int .i64 k', .int .i64 m', .int .i64 s', .string t', .bool b', .int .i64 e']), (w.heap.size, 25, #[.int .i64 k, .int .i64 m, .int .i64 s, .string t, .bool b, .int .i64 e])] : List (Nat × TypeId × Array Value)) W' := hS
    clear hS
    have hB0 := hS2
    have hB : SB w 2 ([(w.heap.size + 1, 25, #[.int .i64 4, .int .i64 y1, .int .i64 y2, .string y3, .bool y4, .int .i64 y5]), (w.heap.size, 25, #[.int .i64 4, .int .i64 x1, .int .i64 x2, .string x3, .bool x4, .int .i64 x5])] : List (Nat × TypeId × Array Value)) W' := hB0
    clear hB0
    have e2 : a.tmps.getD 2 undef = .pointer (some ⟨w.heap.size, 0, none⟩) := hT 2 (by simp)
    have e3 : a.tmps.getD 3 undef = .pointer (some ⟨w.heap.size + 1, 0, none⟩) := hT 3 (by simp)
    clear hT hF hP
    rw [act_lit 53 a hd hsz]
    simp only [List.range, List.range.loop, List.map, e2, e3]
    clear hd hsz e2 e3
    have ky := hB.box (i := 0) rfl
    have cy0 := ky.cell 0
    have cy1 := ky.cell 1
    have cy2 := ky.cell 2
    have cy3 := ky.cell 3
    have cy4 := ky.cell 4
    have cy5 := ky.cell 5
    clear ky
    have kx := hB.box (i := 1) rfl
    have cx0 := kx.cell 0
    have cx1 := kx.cell 1
    have cx2 := kx.cell 2
    have cx3 := kx.cell 3
    have cx4 := kx.cell 4
    have cx5 := kx.cell 5
    clear kx
    go_wp2_with fail
    refine (HC.out _).mono ?_
    rintro x w9 ⟨rfl, rfl⟩
    have hbel := hB.bel
    clear hB HB HX HY HC
    go_wp2
    go_ret
    exact ⟨rfl, hbel⟩

set_option maxRecDepth 20000 in
set_option maxHeartbeats 4000000 in
theorem compare_blank {w : World} {k m s : Int} {t : ByteArray} {b : Bool} {e : Int} {k' m' s' : Int} {t' : ByteArray} {b' : Bool} {e' : Int} {x1 x2 : Int} {x3 : ByteArray} {x4 : Bool} {x5 : Int} {y1 y2 : Int} {y3 : ByteArray} {y4 : Bool} {y5 : Int}
    (KX : ∀ W : World, Calls Tryz.prog 38 #[.agg #[.int .i64 k, .int .i64 m, .int .i64 s, .string t, .bool b, .int .i64 e], .agg #[.int .i64 k', .int .i64 m', .int .i64 s', .string t', .bool b', .int .i64 e']] W fun x w' => x = .returned (.agg #[.int .i64 0, .int .i64 x1, .int .i64 x2, .string x3, .bool x4, .int .i64 x5]) ∧ Below W.heap.size W w')
    (KY : ∀ W : World, Calls Tryz.prog 38 #[.agg #[.int .i64 k', .int .i64 m', .int .i64 s', .string t', .bool b', .int .i64 e'], .agg #[.int .i64 k, .int .i64 m, .int .i64 s, .string t, .bool b, .int .i64 e]] W fun x w' => x = .returned (.agg #[.int .i64 0, .int .i64 y1, .int .i64 y2, .string y3, .bool y4, .int .i64 y5]) ∧ Below W.heap.size W w') :
    Calls Tryz.prog 18 #[.agg #[.int .i64 k, .int .i64 m, .int .i64 s, .string t, .bool b, .int .i64 e], .agg #[.int .i64 k', .int .i64 m', .int .i64 s', .string t', .bool b', .int .i64 e']] w fun x w' => x = .returned (.int .i64 0) ∧ Below w.heap.size w w' := by
  have HX := Lib.hid KX
  have HY := Lib.hid KY
  clear KX KY
  have HB := Lib.hid ((sb1 w 25 #[.int .i64 k, .int .i64 m, .int .i64 s, .string t, .bool b, .int .i64 e]).push (by simp) 25 #[.int .i64 k', .int .i64 m', .int .i64 s', .string t', .bool b', .int .i64 e'])
  go_enter Tryz.func18, Tryz.ntmps18
  go_wp2_with fail
  refine wp_region_early (S := (fun vals W => SX w 2 ([.put 1 #[.int .i64 0, .int .i64 x1, .int .i64 x2, .string x3, .bool x4, .int .i64 x5], .put 0 #[.int .i64 0, .int .i64 y1, .int .i64 y2, .string y3, .bool y4, .int .i64 y5]] : List Stp) vals ([(w.heap.size + 1, 25, #[.int .i64 k', .int .i64 m', .int .i64 s', .string t', .bool b', .int .i64 e']), (w.heap.size, 25, #[.int .i64 k, .int .i64 m, .int .i64 s, .string t, .bool b, .int .i64 e])] : List (Nat × TypeId × Array Value)) W)) (E := (fun _ _ => True)) [6, 7] [(2, Is (.pointer (some ⟨w.heap.size, 0, none⟩))), (3, Is (.pointer (some ⟨w.heap.size + 1, 0, none⟩)))] [(5, Is (.agg #[.int .i64 k, .int .i64 m, .int .i64 s, .string t, .bool b, .int .i64 e])), (6, Is (.agg #[.int .i64 k', .int .i64 m', .int .i64 s', .string t', .bool b', .int .i64 e'])), (7, Is (.agg #[.int .i64 0, .int .i64 x1, .int .i64 x2, .string x3, .bool x4, .int .i64 x5])), (8, Is (.agg #[.int .i64 k', .int .i64 m', .int .i64 s', .string t', .bool b', .int .i64 e'])), (9, Is (.agg #[.int .i64 k, .int .i64 m, .int .i64 s, .string t, .bool b, .int .i64 e])), (10, Is (.agg #[.int .i64 0, .int .i64 y1, .int .i64 y2, .string y3, .bool y4, .int .i64 y5]))]
    [.op [2] none, .op [3] none, .op [5, 6] none, .op [3] none, .op [2] none, .op [8, 9] none, .phase 0 [2, 7] [], .phase 1 [3, 10] []] (by as_aux_lemma => kernel_rfl) ?_ ?_ ?_ ?_ ?_ ⟨stable_is _ _, stable_is _ _, stable_is _ _, stable_is _ _, stable_is _ _, stable_is _ _, stable_is _ _, stable_is _ _, trivial⟩ ?_ (HB.out.drew) ?_ ?_
  · as_aux_lemma => kernel_rfl
  · as_aux_lemma => kernel_rfl
  · as_aux_lemma => kernel_rfl
  · as_aux_lemma => kernel_rfl
  · as_aux_lemma => kernel_rfl
  · exact ⟨rfl, rfl, trivial⟩
  · refine ⟨?_, ?_, ?_, ?_, ?_, ?_, ?_, ?_, trivial⟩
    · as_aux_lemma =>
        intro vals hE a W hS hL
        obtain rfl : vals = [] := List.eq_nil_of_length_eq_zero (Nat.le_zero.1 (hE 0 (by kernel_rfl)))
        have e2 : a.tmps.getD 2 undef = .pointer (some ⟨w.heap.size, 0, none⟩) := hL.1
        clear hL
        have kb : Bk W (w.heap.size) 25 #[.int .i64 k, .int .i64 m, .int .i64 s, .string t, .bool b, .int .i64 e] := SB.box (i := 1) hS rfl
        have f0 := kb.cell 0
        have f1 := kb.cell 1
        have f2 := kb.cell 2
        have f3 := kb.cell 3
        have f4 := kb.cell 4
        have f5 := kb.cell 5
        clear kb
        go_simp
        exact ⟨⟨fun d hd => by injection hd with hd; subst hd; rfl, fun h => by cases h⟩, hS, trivial⟩
    · as_aux_lemma =>
        intro vals hE a W hS hL
        obtain rfl : vals = [] := List.eq_nil_of_length_eq_zero (Nat.le_zero.1 (hE 0 (by kernel_rfl)))
        have e3 : a.tmps.getD 3 undef = .pointer (some ⟨w.heap.size + 1, 0, none⟩) := hL.1
        clear hL
        have kb : Bk W (w.heap.size + 1) 25 #[.int .i64 k', .int .i64 m', .int .i64 s', .string t', .bool b', .int .i64 e'] := SB.box (i := 0) hS rfl
        have f0 := kb.cell 0
        have f1 := kb.cell 1
        have f2 := kb.cell 2
        have f3 := kb.cell 3
        have f4 := kb.cell 4
        have f5 := kb.cell 5
        clear kb
        go_simp
        exact ⟨⟨fun d hd => by injection hd with hd; subst hd; rfl, fun h => by cases h⟩, hS, trivial⟩
    · as_aux_lemma =>
        intro vals hE a W hS hL
        obtain rfl : vals = [] := List.eq_nil_of_length_eq_zero (Nat.le_zero.1 (hE 0 (by kernel_rfl)))
        have e5 : a.tmps.getD 5 undef = .agg #[.int .i64 k, .int .i64 m, .int .i64 s, .string t, .bool b, .int .i64 e] := hL.1
        have e6 : a.tmps.getD 6 undef = .agg #[.int .i64 k', .int .i64 m', .int .i64 s', .string t', .bool b', .int .i64 e'] := hL.2.1
        clear hL
        go_simp
        refine (HX.out W).mono ?_
        rintro e W' ⟨rfl, hb⟩
        exact ⟨_, rfl, ⟨fun d hd => by injection hd with hd; subst hd; rfl, fun h => by cases h⟩, hS.call hb, trivial⟩
    · as_aux_lemma =>
        intro vals hE a W hS hL
        have hE1 := hE 1 (by kernel_rfl)
        have e3 : a.tmps.getD 3 undef = .pointer (some ⟨w.heap.size + 1, 0, none⟩) := hL.1
        clear hL
        have kb : Bk W (w.heap.size + 1) 25 #[.int .i64 k', .int .i64 m', .int .i64 s', .string t', .bool b', .int .i64 e'] := by
          match vals, hE1, hS with
          | [], _, hS => exact SB.box (i := 0) hS rfl
          | [_], _, hS => exact SB.box (i := 0) hS rfl
        have f0 := kb.cell 0
        have f1 := kb.cell 1
        have f2 := kb.cell 2
        have f3 := kb.cell 3
        have f4 := kb.cell 4
        have f5 := kb.cell 5
        clear kb
        go_simp
        exact ⟨⟨fun d hd => by injection hd with hd; subst hd; rfl, fun h => by cases h⟩, hS, trivial⟩
    · as_aux_lemma =>
        intro vals hE a W hS hL
        obtain rfl : vals = [] := List.eq_nil_of_length_eq_zero (Nat.le_zero.1 (hE 0 (by kernel_rfl)))
        have e2 : a.tmps.getD 2 undef = .pointer (some ⟨w.heap.size, 0, none⟩) := hL.1
        clear hL
        have kb : Bk W (w.heap.size) 25 #[.int .i64 k, .int .i64 m, .int .i64 s, .string t, .bool b, .int .i64 e] := SB.box (i := 1) hS rfl
        have f0 := kb.cell 0
        have f1 := kb.cell 1
        have f2 := kb.cell 2
        have f3 := kb.cell 3
        have f4 := kb.cell 4
        have f5 := kb.cell 5
        clear kb
        go_simp
        exact ⟨⟨fun d hd => by injection hd with hd; subst hd; rfl, fun h => by cases h⟩, hS, trivial⟩
    · as_aux_lemma =>
        intro vals hE a W hS hL
        have hE1 := hE 1 (by kernel_rfl)
        have e8 : a.tmps.getD 8 undef = .agg #[.int .i64 k', .int .i64 m', .int .i64 s', .string t', .bool b', .int .i64 e'] := hL.1
        have e9 : a.tmps.getD 9 undef = .agg #[.int .i64 k, .int .i64 m, .int .i64 s, .string t, .bool b, .int .i64 e] := hL.2.1
        clear hL
        go_simp
        refine (HY.out W).mono ?_
        rintro e W' ⟨rfl, hb⟩
        exact ⟨_, rfl, ⟨fun d hd => by injection hd with hd; subst hd; rfl, fun h => by cases h⟩, hS.call hb, trivial⟩
    · skip
      intro a W vals hv hS hL hp
      have e2 : a.tmps.getD 2 undef = .pointer (some ⟨w.heap.size, 0, none⟩) := hL.1
      have e7 : a.tmps.getD 7 undef = .agg #[.int .i64 0, .int .i64 x1, .int .i64 x2, .string x3, .bool x4, .int .i64 x5] := hL.2.1
      clear hL
      match vals, hv, hS with
      | [], _, hS =>
        have hS2 : SX w 2 ([.put 1 #[.int .i64 0, .int .i64 x1, .int .i64 x2, .string x3, .bool x4, .int .i64 x5], .put 0 #[.int .i64 0, .int .i64 y1, .int .i64 y2, .string y3, .bool y4, .int .i64 y5]] : List Stp) [] ([(w.heap.size + 1, 25, #[.int .i64 k', .int .i64 m', .int .i64 s', .string t', .bool b', .int .i64 e']), (w.heap.size, 25, #[.int .i64 k, .int .i64 m, .int .i64 s, .string t, .bool b, .int .i64 e])] : List (Nat × TypeId × Array Value)) W := hS
        clear hS
        have hB0 := hS2
        have hB : SB w 2 ([(w.heap.size + 1, 25, #[.int .i64 k', .int .i64 m', .int .i64 s', .string t', .bool b', .int .i64 e']), (w.heap.size, 25, #[.int .i64 k, .int .i64 m, .int .i64 s, .string t, .bool b, .int .i64 e])] : List (Nat × TypeId × Array Value)) W := hB0
        clear hB0
        rw [Array.getD_eq_getD_getElem?] at e7
        have kz := hB.box (i := 1) rfl
        have z0 := kz.frozen 0
        have q0 := kz.cell 0
        have z1 := kz.frozen 1
        have q1 := kz.cell 1
        have z2 := kz.frozen 2
        have q2 := kz.cell 2
        have z3 := kz.frozen 3
        have q3 := kz.cell 3
        have z4 := kz.frozen 4
        have q4 := kz.cell 4
        have z5 := kz.frozen 5
        have q5 := kz.cell 5
        have hge : w.heap.size ≤ (w.heap.size) := by omega
        have hne : ∀ qx ∈ butBox ([(w.heap.size + 1, 25, #[.int .i64 k', .int .i64 m', .int .i64 s', .string t', .bool b', .int .i64 e']), (w.heap.size, 25, #[.int .i64 k, .int .i64 m, .int .i64 s, .string t, .bool b, .int .i64 e])] : List (Nat × TypeId × Array Value)) 1, qx.1 ≠ (w.heap.size) := by simp [butBox] <;> omega
        have hF := hB.put6 (i := 1) rfl hge hne (.int .i64 0 : Value) (.int .i64 x1 : Value) (.int .i64 x2 : Value) (.string x3 : Value) (.bool x4 : Value) (.int .i64 x5 : Value)
        clear kz hB hne hge
        go_simp
        exact ⟨hF, trivial, trivial⟩
    · skip
      intro a W vals hv hS hL hp
      have e3 : a.tmps.getD 3 undef = .pointer (some ⟨w.heap.size + 1, 0, none⟩) := hL.1
      have e10 : a.tmps.getD 10 undef = .agg #[.int .i64 0, .int .i64 y1, .int .i64 y2, .string y3, .bool y4, .int .i64 y5] := hL.2.1
      clear hL
      match vals, hv, hS with
      | [v0], _, hS =>
        have hS2 : SX w 2 ([.put 1 #[.int .i64 0, .int .i64 x1, .int .i64 x2, .string x3, .bool x4, .int .i64 x5], .put 0 #[.int .i64 0, .int .i64 y1, .int .i64 y2, .string y3, .bool y4, .int .i64 y5]] : List Stp) [v0] ([(w.heap.size + 1, 25, #[.int .i64 k', .int .i64 m', .int .i64 s', .string t', .bool b', .int .i64 e']), (w.heap.size, 25, #[.int .i64 k, .int .i64 m, .int .i64 s, .string t, .bool b, .int .i64 e])] : List (Nat × TypeId × Array Value)) W := hS
        clear hS
        have hB0 := hS2
        have hB : SB w 2 ([(w.heap.size + 1, 25, #[.int .i64 k', .int .i64 m', .int .i64 s', .string t', .bool b', .int .i64 e']), (w.heap.size, 25, #[.int .i64 0, .int .i64 x1, .int .i64 x2, .string x3, .bool x4, .int .i64 x5])] : List (Nat × TypeId × Array Value)) W := hB0
        clear hB0
        rw [Array.getD_eq_getD_getElem?] at e10
        have kz := hB.box (i := 0) rfl
        have z0 := kz.frozen 0
        have q0 := kz.cell 0
        have z1 := kz.frozen 1
        have q1 := kz.cell 1
        have z2 := kz.frozen 2
        have q2 := kz.cell 2
        have z3 := kz.frozen 3
        have q3 := kz.cell 3
        have z4 := kz.frozen 4
        have q4 := kz.cell 4
        have z5 := kz.frozen 5
        have q5 := kz.cell 5
        have hge : w.heap.size ≤ (w.heap.size + 1) := by omega
        have hne : ∀ qx ∈ butBox ([(w.heap.size + 1, 25, #[.int .i64 k', .int .i64 m', .int .i64 s', .string t', .bool b', .int .i64 e']), (w.heap.size, 25, #[.int .i64 0, .int .i64 x1, .int .i64 x2, .string x3, .bool x4, .int .i64 x5])] : List (Nat × TypeId × Array Value)) 0, qx.1 ≠ (w.heap.size + 1) := by simp [butBox] <;> omega
        have hF := hB.put6 (i := 0) rfl hge hne (.int .i64 0 : Value) (.int .i64 y1 : Value) (.int .i64 y2 : Value) (.string y3 : Value) (.bool y4 : Value) (.int .i64 y5 : Value)
        clear kz hB hne hge
        go_simp
        exact ⟨hF, trivial, trivial⟩
  · intro a W' vals hd hsz hT hF hv hP hS
    obtain ⟨v0, v1, rfl⟩ : ∃ v0 v1, vals = [v0, v1] := by
      match vals, hv with
      | [v0, v1], _ => exact ⟨v0, v1, rfl⟩
    have hS2 : SX w 2 ([.put 1 #[.int .i64 0, .int .i64 x1, .int .i64 x2, .string x3, .bool x4, .int .i64 x5], .put 0 #[.int .i64 0, .int .i64 y1, .int .i64 y2, .string y3, .bool y4, .int .i64 y5]] : List Stp) [v0, v1] ([(w.heap.size + 1, 25, #[.int .i64 k', .int .i64 m', .int .i64 s', .string t', .bool b', .int .i64 e']), (w.heap.size, 25, #[.int .i64 k, .int .i64 m, .int .i64 s, .string t, .bool b, .int .i64 e])] : List (Nat × TypeId × Array Value)) W' := hS
    clear hS
    have hB0 := hS2
    have hB : SB w 2 ([(w.heap.size + 1, 25, #[.int .i64 0, .int .i64 y1, .int .i64 y2, .string y3, .bool y4, .int .i64 y5]), (w.heap.size, 25, #[.int .i64 0, .int .i64 x1, .int .i64 x2, .string x3, .bool x4, .int .i64 x5])] : List (Nat × TypeId × Array Value)) W' := hB0
    clear hB0
    have e2 : a.tmps.getD 2 undef = .pointer (some ⟨w.heap.size, 0, none⟩) := hT 2 (by simp)
    have e3 : a.tmps.getD 3 undef = .pointer (some ⟨w.heap.size + 1, 0, none⟩) := hT 3 (by simp)
    clear hT hF hP
    rw [act_lit 53 a hd hsz]
    simp only [List.range, List.range.loop, List.map, e2, e3]
    clear hd hsz e2 e3
    have ky := hB.box (i := 0) rfl
    have cy0 := ky.cell 0
    have cy1 := ky.cell 1
    have cy2 := ky.cell 2
    have cy3 := ky.cell 3
    have cy4 := ky.cell 4
    have cy5 := ky.cell 5
    clear ky
    have kx := hB.box (i := 1) rfl
    have cx0 := kx.cell 0
    have cx1 := kx.cell 1
    have cx2 := kx.cell 2
    have cx3 := kx.cell 3
    have cx4 := kx.cell 4
    have cx5 := kx.cell 5
    clear kx
    have hbel := hB.bel
    clear hB HB HX HY
    go_wp2
    go_ret
    exact ⟨rfl, hbel⟩

set_option maxRecDepth 20000 in
set_option maxHeartbeats 4000000 in
theorem compare_bool {w : World} {k m s : Int} {t : ByteArray} {b : Bool} {e : Int} {k' m' s' : Int} {t' : ByteArray} {b' : Bool} {e' : Int} {x1 x2 : Int} {x3 : ByteArray} {x4 : Bool} {x5 : Int} {y1 y2 : Int} {y3 : ByteArray} {y4 : Bool} {y5 : Int}
    (KX : ∀ W : World, Calls Tryz.prog 38 #[.agg #[.int .i64 k, .int .i64 m, .int .i64 s, .string t, .bool b, .int .i64 e], .agg #[.int .i64 k', .int .i64 m', .int .i64 s', .string t', .bool b', .int .i64 e']] W fun x w' => x = .returned (.agg #[.int .i64 3, .int .i64 x1, .int .i64 x2, .string x3, .bool x4, .int .i64 x5]) ∧ Below W.heap.size W w')
    (KY : ∀ W : World, Calls Tryz.prog 38 #[.agg #[.int .i64 k', .int .i64 m', .int .i64 s', .string t', .bool b', .int .i64 e'], .agg #[.int .i64 k, .int .i64 m, .int .i64 s, .string t, .bool b, .int .i64 e]] W fun x w' => x = .returned (.agg #[.int .i64 3, .int .i64 y1, .int .i64 y2, .string y3, .bool y4, .int .i64 y5]) ∧ Below W.heap.size W w') :
    Calls Tryz.prog 18 #[.agg #[.int .i64 k, .int .i64 m, .int .i64 s, .string t, .bool b, .int .i64 e], .agg #[.int .i64 k', .int .i64 m', .int .i64 s', .string t', .bool b', .int .i64 e']] w fun x w' => x = .returned (.int .i64 (cmp (rk x4) (rk y4))) ∧ Below w.heap.size w w' := by
  have HX := Lib.hid KX
  have HY := Lib.hid KY
  clear KX KY
  have H1 := Lib.hid (fun W : World => rank_any (w := W) x4)
  have H2 := Lib.hid (fun W : World => rank_any (w := W) y4)
  have HC := Lib.hid (fun W : World => cmp_i64 (w := W) (rk x4) (rk y4))
  generalize cmp (rk x4) (rk y4) = C at *
  generalize rk x4 = r1 at *
  generalize rk y4 = r2 at *
  have HB := Lib.hid ((sb1 w 25 #[.int .i64 k, .int .i64 m, .int .i64 s, .string t, .bool b, .int .i64 e]).push (by simp) 25 #[.int .i64 k', .int .i64 m', .int .i64 s', .string t', .bool b', .int .i64 e'])
  go_enter Tryz.func18, Tryz.ntmps18
  go_wp2_with fail
  refine wp_region_early (S := (fun vals W => SX w 2 ([.put 1 #[.int .i64 3, .int .i64 x1, .int .i64 x2, .string x3, .bool x4, .int .i64 x5], .put 0 #[.int .i64 3, .int .i64 y1, .int .i64 y2, .string y3, .bool y4, .int .i64 y5]] : List Stp) vals ([(w.heap.size + 1, 25, #[.int .i64 k', .int .i64 m', .int .i64 s', .string t', .bool b', .int .i64 e']), (w.heap.size, 25, #[.int .i64 k, .int .i64 m, .int .i64 s, .string t, .bool b, .int .i64 e])] : List (Nat × TypeId × Array Value)) W)) (E := (fun _ _ => True)) [6, 7] [(2, Is (.pointer (some ⟨w.heap.size, 0, none⟩))), (3, Is (.pointer (some ⟨w.heap.size + 1, 0, none⟩)))] [(5, Is (.agg #[.int .i64 k, .int .i64 m, .int .i64 s, .string t, .bool b, .int .i64 e])), (6, Is (.agg #[.int .i64 k', .int .i64 m', .int .i64 s', .string t', .bool b', .int .i64 e'])), (7, Is (.agg #[.int .i64 3, .int .i64 x1, .int .i64 x2, .string x3, .bool x4, .int .i64 x5])), (8, Is (.agg #[.int .i64 k', .int .i64 m', .int .i64 s', .string t', .bool b', .int .i64 e'])), (9, Is (.agg #[.int .i64 k, .int .i64 m, .int .i64 s, .string t, .bool b, .int .i64 e])), (10, Is (.agg #[.int .i64 3, .int .i64 y1, .int .i64 y2, .string y3, .bool y4, .int .i64 y5]))]
    [.op [2] none, .op [3] none, .op [5, 6] none, .op [3] none, .op [2] none, .op [8, 9] none, .phase 0 [2, 7] [], .phase 1 [3, 10] []] (by as_aux_lemma => kernel_rfl) ?_ ?_ ?_ ?_ ?_ ⟨stable_is _ _, stable_is _ _, stable_is _ _, stable_is _ _, stable_is _ _, stable_is _ _, stable_is _ _, stable_is _ _, trivial⟩ ?_ (HB.out.drew) ?_ ?_
  · as_aux_lemma => kernel_rfl
  · as_aux_lemma => kernel_rfl
  · as_aux_lemma => kernel_rfl
  · as_aux_lemma => kernel_rfl
  · as_aux_lemma => kernel_rfl
  · exact ⟨rfl, rfl, trivial⟩
  · refine ⟨?_, ?_, ?_, ?_, ?_, ?_, ?_, ?_, trivial⟩
    · as_aux_lemma =>
        intro vals hE a W hS hL
        obtain rfl : vals = [] := List.eq_nil_of_length_eq_zero (Nat.le_zero.1 (hE 0 (by kernel_rfl)))
        have e2 : a.tmps.getD 2 undef = .pointer (some ⟨w.heap.size, 0, none⟩) := hL.1
        clear hL
        have kb : Bk W (w.heap.size) 25 #[.int .i64 k, .int .i64 m, .int .i64 s, .string t, .bool b, .int .i64 e] := SB.box (i := 1) hS rfl
        have f0 := kb.cell 0
        have f1 := kb.cell 1
        have f2 := kb.cell 2
        have f3 := kb.cell 3
        have f4 := kb.cell 4
        have f5 := kb.cell 5
        clear kb
        go_simp
        exact ⟨⟨fun d hd => by injection hd with hd; subst hd; rfl, fun h => by cases h⟩, hS, trivial⟩
    · as_aux_lemma =>
        intro vals hE a W hS hL
        obtain rfl : vals = [] := List.eq_nil_of_length_eq_zero (Nat.le_zero.1 (hE 0 (by kernel_rfl)))
        have e3 : a.tmps.getD 3 undef = .pointer (some ⟨w.heap.size + 1, 0, none⟩) := hL.1
        clear hL
        have kb : Bk W (w.heap.size + 1) 25 #[.int .i64 k', .int .i64 m', .int .i64 s', .string t', .bool b', .int .i64 e'] := SB.box (i := 0) hS rfl
        have f0 := kb.cell 0
        have f1 := kb.cell 1
        have f2 := kb.cell 2
        have f3 := kb.cell 3
        have f4 := kb.cell 4
        have f5 := kb.cell 5
        clear kb
        go_simp
        exact ⟨⟨fun d hd => by injection hd with hd; subst hd; rfl, fun h => by cases h⟩, hS, trivial⟩
    · as_aux_lemma =>
        intro vals hE a W hS hL
        obtain rfl : vals = [] := List.eq_nil_of_length_eq_zero (Nat.le_zero.1 (hE 0 (by kernel_rfl)))
        have e5 : a.tmps.getD 5 undef = .agg #[.int .i64 k, .int .i64 m, .int .i64 s, .string t, .bool b, .int .i64 e] := hL.1
        have e6 : a.tmps.getD 6 undef = .agg #[.int .i64 k', .int .i64 m', .int .i64 s', .string t', .bool b', .int .i64 e'] := hL.2.1
        clear hL
        go_simp
        refine (HX.out W).mono ?_
        rintro e W' ⟨rfl, hb⟩
        exact ⟨_, rfl, ⟨fun d hd => by injection hd with hd; subst hd; rfl, fun h => by cases h⟩, hS.call hb, trivial⟩
    · as_aux_lemma =>
        intro vals hE a W hS hL
        have hE1 := hE 1 (by kernel_rfl)
        have e3 : a.tmps.getD 3 undef = .pointer (some ⟨w.heap.size + 1, 0, none⟩) := hL.1
        clear hL
        have kb : Bk W (w.heap.size + 1) 25 #[.int .i64 k', .int .i64 m', .int .i64 s', .string t', .bool b', .int .i64 e'] := by
          match vals, hE1, hS with
          | [], _, hS => exact SB.box (i := 0) hS rfl
          | [_], _, hS => exact SB.box (i := 0) hS rfl
        have f0 := kb.cell 0
        have f1 := kb.cell 1
        have f2 := kb.cell 2
        have f3 := kb.cell 3
        have f4 := kb.cell 4
        have f5 := kb.cell 5
        clear kb
        go_simp
        exact ⟨⟨fun d hd => by injection hd with hd; subst hd; rfl, fun h => by cases h⟩, hS, trivial⟩
    · as_aux_lemma =>
        intro vals hE a W hS hL
        obtain rfl : vals = [] := List.eq_nil_of_length_eq_zero (Nat.le_zero.1 (hE 0 (by kernel_rfl)))
        have e2 : a.tmps.getD 2 undef = .pointer (some ⟨w.heap.size, 0, none⟩) := hL.1
        clear hL
        have kb : Bk W (w.heap.size) 25 #[.int .i64 k, .int .i64 m, .int .i64 s, .string t, .bool b, .int .i64 e] := SB.box (i := 1) hS rfl
        have f0 := kb.cell 0
        have f1 := kb.cell 1
        have f2 := kb.cell 2
        have f3 := kb.cell 3
        have f4 := kb.cell 4
        have f5 := kb.cell 5
        clear kb
        go_simp
        exact ⟨⟨fun d hd => by injection hd with hd; subst hd; rfl, fun h => by cases h⟩, hS, trivial⟩
    · as_aux_lemma =>
        intro vals hE a W hS hL
        have hE1 := hE 1 (by kernel_rfl)
        have e8 : a.tmps.getD 8 undef = .agg #[.int .i64 k', .int .i64 m', .int .i64 s', .string t', .bool b', .int .i64 e'] := hL.1
        have e9 : a.tmps.getD 9 undef = .agg #[.int .i64 k, .int .i64 m, .int .i64 s, .string t, .bool b, .int .i64 e] := hL.2.1
        clear hL
        go_simp
        refine (HY.out W).mono ?_
        rintro e W' ⟨rfl, hb⟩
        exact ⟨_, rfl, ⟨fun d hd => by injection hd with hd; subst hd; rfl, fun h => by cases h⟩, hS.call hb, trivial⟩
    · skip
      intro a W vals hv hS hL hp
      have e2 : a.tmps.getD 2 undef = .pointer (some ⟨w.heap.size, 0, none⟩) := hL.1
      have e7 : a.tmps.getD 7 undef = .agg #[.int .i64 3, .int .i64 x1, .int .i64 x2, .string x3, .bool x4, .int .i64 x5] := hL.2.1
      clear hL
      match vals, hv, hS with
      | [], _, hS =>
        have hS2 : SX w 2 ([.put 1 #[.int .i64 3, .int .i64 x1, .int .i64 x2, .string x3, .bool x4, .int .i64 x5], .put 0 #[.int .i64 3, .int .i64 y1, .int .i64 y2, .string y3, .bool y4, .int .i64 y5]] : List Stp) [] ([(w.heap.size + 1, 25, #[.int .i64 k', .int .i64 m', .int .i64 s', .string t', .bool b', .int .i64 e']), (w.heap.size, 25, #[.int .i64 k, .int .i64 m, .int .i64 s, .string t, .bool b, .int .i64 e])] : List (Nat × TypeId × Array Value)) W := hS
        clear hS
        have hB0 := hS2
        have hB : SB w 2 ([(w.heap.size + 1, 25, #[.int .i64 k', .int .i64 m', .int .i64 s', .string t', .bool b', .int .i64 e']), (w.heap.size, 25, #[.int .i64 k, .int .i64 m, .int .i64 s, .string t, .bool b, .int .i64 e])] : List (Nat × TypeId × Array Value)) W := hB0
        clear hB0
        rw [Array.getD_eq_getD_getElem?] at e7
        have kz := hB.box (i := 1) rfl
        have z0 := kz.frozen 0
        have q0 := kz.cell 0
        have z1 := kz.frozen 1
        have q1 := kz.cell 1
        have z2 := kz.frozen 2
        have q2 := kz.cell 2
        have z3 := kz.frozen 3
        have q3 := kz.cell 3
        have z4 := kz.frozen 4
        have q4 := kz.cell 4
        have z5 := kz.frozen 5
        have q5 := kz.cell 5
        have hge : w.heap.size ≤ (w.heap.size) := by omega
        have hne : ∀ qx ∈ butBox ([(w.heap.size + 1, 25, #[.int .i64 k', .int .i64 m', .int .i64 s', .string t', .bool b', .int .i64 e']), (w.heap.size, 25, #[.int .i64 k, .int .i64 m, .int .i64 s, .string t, .bool b, .int .i64 e])] : List (Nat × TypeId × Array Value)) 1, qx.1 ≠ (w.heap.size) := by simp [butBox] <;> omega
        have hF := hB.put6 (i := 1) rfl hge hne (.int .i64 3 : Value) (.int .i64 x1 : Value) (.int .i64 x2 : Value) (.string x3 : Value) (.bool x4 : Value) (.int .i64 x5 : Value)
        clear kz hB hne hge
        go_simp
        exact ⟨hF, trivial, trivial⟩
    · skip
      intro a W vals hv hS hL hp
      have e3 : a.tmps.getD 3 undef = .pointer (some ⟨w.heap.size + 1, 0, none⟩) := hL.1
      have e10 : a.tmps.getD 10 undef = .agg #[.int .i64 3, .int .i64 y1, .int .i64 y2, .string y3, .bool y4, .int .i64 y5] := hL.2.1
      clear hL
      match vals, hv, hS with
      | [v0], _, hS =>
        have hS2 : SX w 2 ([.put 1 #[.int .i64 3, .int .i64 x1, .int .i64 x2, .string x3, .bool x4, .int .i64 x5], .put 0 #[.int .i64 3, .int .i64 y1, .int .i64 y2, .string y3, .bool y4, .int .i64 y5]] : List Stp) [v0] ([(w.heap.size + 1, 25, #[.int .i64 k', .int .i64 m', .int .i64 s', .string t', .bool b', .int .i64 e']), (w.heap.size, 25, #[.int .i64 k, .int .i64 m, .int .i64 s, .string t, .bool b, .int .i64 e])] : List (Nat × TypeId × Array Value)) W := hS
        clear hS
        have hB0 := hS2
        have hB : SB w 2 ([(w.heap.size + 1, 25, #[.int .i64 k', .int .i64 m', .int .i64 s', .string t', .bool b', .int .i64 e']), (w.heap.size, 25, #[.int .i64 3, .int .i64 x1, .int .i64 x2, .string x3, .bool x4, .int .i64 x5])] : List (Nat × TypeId × Array Value)) W := hB0
        clear hB0
        rw [Array.getD_eq_getD_getElem?] at e10
        have kz := hB.box (i := 0) rfl
        have z0 := kz.frozen 0
        have q0 := kz.cell 0
        have z1 := kz.frozen 1
        have q1 := kz.cell 1
        have z2 := kz.frozen 2
        have q2 := kz.cell 2
        have z3 := kz.frozen 3
        have q3 := kz.cell 3
        have z4 := kz.frozen 4
        have q4 := kz.cell 4
        have z5 := kz.frozen 5
        have q5 := kz.cell 5
        have hge : w.heap.size ≤ (w.heap.size + 1) := by omega
        have hne : ∀ qx ∈ butBox ([(w.heap.size + 1, 25, #[.int .i64 k', .int .i64 m', .int .i64 s', .string t', .bool b', .int .i64 e']), (w.heap.size, 25, #[.int .i64 3, .int .i64 x1, .int .i64 x2, .string x3, .bool x4, .int .i64 x5])] : List (Nat × TypeId × Array Value)) 0, qx.1 ≠ (w.heap.size + 1) := by simp [butBox] <;> omega
        have hF := hB.put6 (i := 0) rfl hge hne (.int .i64 3 : Value) (.int .i64 y1 : Value) (.int .i64 y2 : Value) (.string y3 : Value) (.bool y4 : Value) (.int .i64 y5 : Value)
        clear kz hB hne hge
        go_simp
        exact ⟨hF, trivial, trivial⟩
  · intro a W' vals hd hsz hT hF hv hP hS
    obtain ⟨v0, v1, rfl⟩ : ∃ v0 v1, vals = [v0, v1] := by
      match vals, hv with
      | [v0, v1], _ => exact ⟨v0, v1, rfl⟩
    have hS2 : SX w 2 ([.put 1 #[.int .i64 3, .int .i64 x1, .int .i64 x2, .string x3, .bool x4, .int .i64 x5], .put 0 #[.int .i64 3, .int .i64 y1, .int .i64 y2, .string y3, .bool y4, .int .i64 y5]] : List Stp) [v0, v1] ([(w.heap.size + 1, 25, #[.int .i64 k', .int .i64 m', .int .i64 s', .string t', .bool b', .int .i64 e']), (w.heap.size, 25, #[.int .i64 k, .int .i64 m, .int .i64 s, .string t, .bool b, .int .i64 e])] : List (Nat × TypeId × Array Value)) W' := hS
    clear hS
    have hB0 := hS2
    have hB : SB w 2 ([(w.heap.size + 1, 25, #[.int .i64 3, .int .i64 y1, .int .i64 y2, .string y3, .bool y4, .int .i64 y5]), (w.heap.size, 25, #[.int .i64 3, .int .i64 x1, .int .i64 x2, .string x3, .bool x4, .int .i64 x5])] : List (Nat × TypeId × Array Value)) W' := hB0
    clear hB0
    have e2 : a.tmps.getD 2 undef = .pointer (some ⟨w.heap.size, 0, none⟩) := hT 2 (by simp)
    have e3 : a.tmps.getD 3 undef = .pointer (some ⟨w.heap.size + 1, 0, none⟩) := hT 3 (by simp)
    clear hT hF hP
    rw [act_lit 53 a hd hsz]
    simp only [List.range, List.range.loop, List.map, e2, e3]
    clear hd hsz e2 e3
    have ky := hB.box (i := 0) rfl
    have cy0 := ky.cell 0
    have cy1 := ky.cell 1
    have cy2 := ky.cell 2
    have cy3 := ky.cell 3
    have cy4 := ky.cell 4
    have cy5 := ky.cell 5
    clear ky
    have kx := hB.box (i := 1) rfl
    have cx0 := kx.cell 0
    have cx1 := kx.cell 1
    have cx2 := kx.cell 2
    have cx3 := kx.cell 3
    have cx4 := kx.cell 4
    have cx5 := kx.cell 5
    clear kx
    have HB2 := Lib.hid hB
    clear hB HB HX HY
    go_wp2_with fail
    clear cx0 cx1 cx2 cx3 cx4 cx5 cy0 cy1 cy2 cy3 cy4 cy5
    refine wp_region_phases (S := (fun vals W => SX w 2 ([] : List Stp) vals ([(w.heap.size + 1, 25, #[.int .i64 3, .int .i64 y1, .int .i64 y2, .string y3, .bool y4, .int .i64 y5]), (w.heap.size, 25, #[.int .i64 3, .int .i64 x1, .int .i64 x2, .string x3, .bool x4, .int .i64 x5])] : List (Nat × TypeId × Array Value)) W)) (E := (fun _ _ => True)) [] [(2, Is (.pointer (some ⟨w.heap.size, 0, none⟩))), (3, Is (.pointer (some ⟨w.heap.size + 1, 0, none⟩)))] [(39, Is (.pointer (some ⟨w.heap.size, 4, none⟩))), (40, Is (.bool x4)), (41, Is (.int .i64 r1)), (42, Is (.pointer (some ⟨w.heap.size + 1, 4, none⟩))), (43, Is (.bool y4)), (44, Is (.int .i64 r2)), (45, Is (.int .i64 C)), (4, Is (.int .i64 C))]
      [.op [2] none, .op [39] none, .op [40] none, .op [3] none, .op [42] none, .op [43] none, .op [41, 44] none, .op [45] none] (by as_aux_lemma => kernel_rfl) ?_ ?_ ?_ ?_ ?_ ⟨stable_is _ _, stable_is _ _, stable_is _ _, stable_is _ _, stable_is _ _, stable_is _ _, stable_is _ _, stable_is _ _, stable_is _ _, stable_is _ _, trivial⟩ ?_ (HB2.out.drew) ?_ ?_
    · as_aux_lemma => kernel_rfl
    · as_aux_lemma => kernel_rfl
    · as_aux_lemma => kernel_rfl
    · as_aux_lemma => kernel_rfl
    · as_aux_lemma => kernel_rfl
    · exact ⟨rfl, rfl, trivial⟩
    · refine ⟨?_, ?_, ?_, ?_, ?_, ?_, ?_, ?_, trivial⟩
      · as_aux_lemma =>
          intro vals a W hS hL
          have e2 : a.tmps.getD 2 undef = .pointer (some ⟨w.heap.size, 0, none⟩) := hL.1
          clear hL
          go_simp
          exact ⟨⟨fun d hd => by injection hd with hd; subst hd; rfl, fun h => by cases h⟩, hS, trivial⟩
      · as_aux_lemma =>
          intro vals a W hS hL
          have e39 : a.tmps.getD 39 undef = .pointer (some ⟨w.heap.size, 4, none⟩) := hL.1
          clear hL
          have kb : Bk W (w.heap.size) 25 #[.int .i64 3, .int .i64 x1, .int .i64 x2, .string x3, .bool x4, .int .i64 x5] := hS.bk 1 rfl rfl
          have f4 := kb.cell 4
          clear kb
          go_simp
          exact ⟨⟨fun d hd => by injection hd with hd; subst hd; rfl, fun h => by cases h⟩, hS, trivial⟩
      · as_aux_lemma =>
          intro vals a W hS hL
          have e40 : a.tmps.getD 40 undef = .bool x4 := hL.1
          clear hL
          go_simp
          refine (H1.out W).mono ?_
          rintro e W' ⟨rfl, rfl⟩
          exact ⟨_, rfl, ⟨fun d hd => by injection hd with hd; subst hd; rfl, fun h => by cases h⟩, hS, trivial⟩
      · as_aux_lemma =>
          intro vals a W hS hL
          have e3 : a.tmps.getD 3 undef = .pointer (some ⟨w.heap.size + 1, 0, none⟩) := hL.1
          clear hL
          go_simp
          exact ⟨⟨fun d hd => by injection hd with hd; subst hd; rfl, fun h => by cases h⟩, hS, trivial⟩
      · as_aux_lemma =>
          intro vals a W hS hL
          have e42 : a.tmps.getD 42 undef = .pointer (some ⟨w.heap.size + 1, 4, none⟩) := hL.1
          clear hL
          have kb : Bk W (w.heap.size + 1) 25 #[.int .i64 3, .int .i64 y1, .int .i64 y2, .string y3, .bool y4, .int .i64 y5] := hS.bk 0 rfl rfl
          have f4 := kb.cell 4
          clear kb
          go_simp
          exact ⟨⟨fun d hd => by injection hd with hd; subst hd; rfl, fun h => by cases h⟩, hS, trivial⟩
      · as_aux_lemma =>
          intro vals a W hS hL
          have e43 : a.tmps.getD 43 undef = .bool y4 := hL.1
          clear hL
          go_simp
          refine (H2.out W).mono ?_
          rintro e W' ⟨rfl, rfl⟩
          exact ⟨_, rfl, ⟨fun d hd => by injection hd with hd; subst hd; rfl, fun h => by cases h⟩, hS, trivial⟩
      · as_aux_lemma =>
          intro vals a W hS hL
          have e41 : a.tmps.getD 41 undef = .int .i64 r1 := hL.1
          have e44 : a.tmps.getD 44 undef = .int .i64 r2 := hL.2.1
          clear hL
          go_simp
          refine (HC.out W).mono ?_
          rintro e W' ⟨rfl, rfl⟩
          exact ⟨_, rfl, ⟨fun d hd => by injection hd with hd; subst hd; rfl, fun h => by cases h⟩, hS, trivial⟩
      · as_aux_lemma =>
          intro vals a W hS hL
          have e45 : a.tmps.getD 45 undef = .int .i64 C := hL.1
          clear hL
          go_simp
          exact ⟨⟨fun d hd => by injection hd with hd; subst hd; rfl, fun h => by cases h⟩, hS, trivial⟩
    · intro a W' vals hd hsz hT hF hv hP hS
      obtain rfl : vals = [] := List.eq_nil_of_length_eq_zero hv
      have hS2 : SX w 2 ([] : List Stp) [] ([(w.heap.size + 1, 25, #[.int .i64 3, .int .i64 y1, .int .i64 y2, .string y3, .bool y4, .int .i64 y5]), (w.heap.size, 25, #[.int .i64 3, .int .i64 x1, .int .i64 x2, .string x3, .bool x4, .int .i64 x5])] : List (Nat × TypeId × Array Value)) W' := hS
      clear hS
      have hB0 := hS2
      have hB : SB w 2 ([(w.heap.size + 1, 25, #[.int .i64 3, .int .i64 y1, .int .i64 y2, .string y3, .bool y4, .int .i64 y5]), (w.heap.size, 25, #[.int .i64 3, .int .i64 x1, .int .i64 x2, .string x3, .bool x4, .int .i64 x5])] : List (Nat × TypeId × Array Value)) W' := hB0
      clear hB0
      have e4 : a.tmps.getD 4 undef = .int .i64 C := hT 4 (by simp)
      clear hT hF hP
      go_wp2
      refine bodyPost_ret (v := .int .i64 C) ?_ hd ⟨rfl, hB.bel⟩
      rw [Array.getD_eq_getD_getElem?] at e4
      simp [results, Tryz.results18, go_sem, e4]
end Go.Proofs.YtmbjmgmnicacpaaGreatDoor
