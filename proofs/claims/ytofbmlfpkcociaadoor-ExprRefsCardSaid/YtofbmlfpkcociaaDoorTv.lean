/- cashbooklaw4.To, cashbooklaw8.To, ToArea, cashbooklaw9.To by their contracts. No condition. -/
import Derived.Test.YtofbmlfpkcociaaDoorBox8
import Derived.Test.YtofbmlfpkcociaaDoorDc
set_option linter.unusedVariables false
set_option linter.unusedSimpArgs false
namespace Go.Proofs.YtofbmlfpkcociaaDoor
open Go.RowKit

theorem SB.put6 {w W : World} {n i g : Nat} {T : TypeId} {bs : List (Nat × TypeId × Array Value)} {a0 a1 a2 a3 a4 a5 : Value} (h : SB w n bs W) (hi : bs[i]? = some (g, T, #[a0, a1, a2, a3, a4, a5])) (hg : w.heap.size ≤ g) (hne : ∀ x ∈ butBox bs i, x.1 ≠ g) (u0 u1 u2 u3 u4 u5 : Value) :
    SB w n (setBox bs i #[u0, u1, u2, u3, u4, u5]) ((((((W.setCell ⟨g, 0, none⟩ u0).setCell ⟨g, 1, none⟩ u1).setCell ⟨g, 2, none⟩ u2).setCell ⟨g, 3, none⟩ u3).setCell ⟨g, 4, none⟩ u4).setCell ⟨g, 5, none⟩ u5) := by
  have step : ∀ {W : World} {bs : List (Nat × TypeId × Array Value)} {z : Array Value} (j : Nat) (u : Value), SB w n (setBox bs i z) W → bs[i]? = some (g, T, #[a0, a1, a2, a3, a4, a5]) → (∀ x ∈ butBox bs i, x.1 ≠ g) →
      SB w n (setBox bs i (z.setIfInBounds j u)) (W.setCell ⟨g, j, none⟩ u) := by
    intro W bs z j u h hi hne
    have := h.put1 (setBox_get hi) hg (by rw [setBox_but]; exact hne) j u
    rwa [setBox_two] at this
  have h1 := h.put1 hi hg hne 0 u0
  have h8 := step 5 u5 (step 4 u4 (step 3 u3 (step 2 u2 (step 1 u1 h1 hi hne) hi hne) hi hne) hi hne) hi hne
  simpa using h8
theorem toDec_any {w : World} (m s : Int) : Calls Tryd.prog 29 #[.agg #[.int .i64 m, .int .i64 s]] w fun e W => e = .returned (.agg #[.int .i64 m, .int .i64 s]) ∧ Below w.heap.size w W := by
  go_enter Tryd.func29, Tryd.ntmps29
  go_wp2
  exact bodyPost_ret (v := .agg #[.int .i64 m, .int .i64 s]) (by simp [results, Tryd.results29, go_sem]) rfl ⟨rfl, bel1 _ _ _⟩
theorem toRef_any {w : World} (r c : Int) (x y : Bool) : Calls Tryd.prog 30 #[.agg #[.int .i64 r, .int .i64 c, .bool x, .bool y]] w fun e W => e = .returned (.agg #[.int .i64 r, .int .i64 c, .bool x, .bool y]) ∧ Below w.heap.size w W := by
  go_enter Tryd.func30, Tryd.ntmps30
  go_wp2
  exact bodyPost_ret (v := .agg #[.int .i64 r, .int .i64 c, .bool x, .bool y]) (by simp [results, Tryd.results30, go_sem]) rfl ⟨rfl, bel1 _ _ _⟩
set_option maxRecDepth 20000 in
set_option maxHeartbeats 2000000 in
theorem toArea_any {w : World} (r1 c1 r2 c2 : Int) (x1 y1 x2 y2 : Bool) :
    Calls Tryd.prog 21 #[.agg #[.int .i64 r1, .int .i64 c1, .bool x1, .bool y1, .int .i64 r2, .int .i64 c2, .bool x2, .bool y2]] w fun e w' => e = .returned (.agg #[.int .i64 r1, .int .i64 c1, .bool x1, .bool y1, .int .i64 r2, .int .i64 c2, .bool x2, .bool y2]) ∧ Below w.heap.size w w' := by
  have HB : Hid (SB w 2 ([(w.heap.size + 1, 40, #[.int .i64 0, .int .i64 0, .bool false, .bool false, .int .i64 0, .int .i64 0, .bool false, .bool false]), (w.heap.size, 29, #[.int .i64 r1, .int .i64 c1, .bool x1, .bool y1, .int .i64 r2, .int .i64 c2, .bool x2, .bool y2])] : List (Nat × TypeId × Array Value)) ((w.alloc (.cells #[.int .i64 r1, .int .i64 c1, .bool x1, .bool y1, .int .i64 r2, .int .i64 c2, .bool x2, .bool y2] 29)).alloc (.cells #[.int .i64 0, .int .i64 0, .bool false, .bool false, .int .i64 0, .int .i64 0, .bool false, .bool false] 40))) := Lib.hid ((sb1 w 29 #[.int .i64 r1, .int .i64 c1, .bool x1, .bool y1, .int .i64 r2, .int .i64 c2, .bool x2, .bool y2]).push (by simp) 40 #[.int .i64 0, .int .i64 0, .bool false, .bool false, .int .i64 0, .int .i64 0, .bool false, .bool false])
  go_enter Tryd.func21, Tryd.ntmps21
  go_wp2_with fail
  refine wp_region_phases (S := (fun vals W => SX w 2 ([.put 0 #[.int .i64 r1, .int .i64 c1, .bool x1, .bool y1, .int .i64 r2, .int .i64 c2, .bool x2, .bool y2]] : List Stp) vals ([(w.heap.size + 1, 40, #[.int .i64 0, .int .i64 0, .bool false, .bool false, .int .i64 0, .int .i64 0, .bool false, .bool false]), (w.heap.size, 29, #[.int .i64 r1, .int .i64 c1, .bool x1, .bool y1, .int .i64 r2, .int .i64 c2, .bool x2, .bool y2])] : List (Nat × TypeId × Array Value)) W)) (E := (fun _ _ => True)) [7] [(1, Is (.pointer (some ⟨w.heap.size, 0, none⟩))), (2, Is (.pointer (some ⟨w.heap.size + 1, 0, none⟩)))] [(3, Is (.pointer (some ⟨w.heap.size, 0, none⟩))), (4, Is (.agg #[.int .i64 r1, .int .i64 c1, .bool x1, .bool y1])), (5, Is (.agg #[.int .i64 r1, .int .i64 c1, .bool x1, .bool y1])), (6, Is (.pointer (some ⟨w.heap.size, 4, none⟩))), (7, Is (.agg #[.int .i64 r2, .int .i64 c2, .bool x2, .bool y2])), (8, Is (.agg #[.int .i64 r2, .int .i64 c2, .bool x2, .bool y2])), (9, Is (.agg #[.int .i64 r1, .int .i64 c1, .bool x1, .bool y1, .int .i64 r2, .int .i64 c2, .bool x2, .bool y2]))]
    [.op [1] none, .op [3] none, .op [4] none, .op [1] none, .op [6] none, .op [7] none, .op [5, 8] none, .phase 0 [2, 9] []] (by as_aux_lemma => kernel_rfl) ?_ ?_ ?_ ?_ ?_ ⟨stable_is _ _, stable_is _ _, stable_is _ _, stable_is _ _, stable_is _ _, stable_is _ _, stable_is _ _, stable_is _ _, stable_is _ _, trivial⟩ ?_ (HB.out.drew) ?_ ?_
  · as_aux_lemma => kernel_rfl
  · as_aux_lemma => kernel_rfl
  · as_aux_lemma => kernel_rfl
  · as_aux_lemma => kernel_rfl
  · as_aux_lemma => kernel_rfl
  · exact ⟨rfl, rfl, trivial⟩
  · refine ⟨?_, ?_, ?_, ?_, ?_, ?_, ?_, ?_, trivial⟩
    · as_aux_lemma =>
        intro vals a W hS hL
        have e1 : a.tmps.getD 1 undef = .pointer (some ⟨w.heap.size, 0, none⟩) := hL.1
        clear hL
        go_simp
        exact ⟨⟨fun d hd => by injection hd with hd; subst hd; rfl, fun h => by cases h⟩, hS, trivial⟩
    · as_aux_lemma =>
        intro vals a W hS hL
        have e3 : a.tmps.getD 3 undef = .pointer (some ⟨w.heap.size, 0, none⟩) := hL.1
        clear hL
        have kb : Bk W (w.heap.size) 29 #[.int .i64 r1, .int .i64 c1, .bool x1, .bool y1, .int .i64 r2, .int .i64 c2, .bool x2, .bool y2] := hS.bk 1 rfl rfl
        have f0 := kb.cell 0
        have f1 := kb.cell 1
        have f2 := kb.cell 2
        have f3 := kb.cell 3
        clear kb
        go_simp
        exact ⟨⟨fun d hd => by injection hd with hd; subst hd; rfl, fun h => by cases h⟩, hS, trivial⟩
    · as_aux_lemma =>
        intro vals a W hS hL
        have e4 : a.tmps.getD 4 undef = .agg #[.int .i64 r1, .int .i64 c1, .bool x1, .bool y1] := hL.1
        clear hL
        go_simp
        refine (toRef_any r1 c1 x1 y1).mono ?_
        rintro e W' ⟨rfl, hb⟩
        exact ⟨_, rfl, ⟨fun d hd => by injection hd with hd; subst hd; rfl, fun h => by cases h⟩, hS.call hb, trivial⟩
    · as_aux_lemma =>
        intro vals a W hS hL
        have e1 : a.tmps.getD 1 undef = .pointer (some ⟨w.heap.size, 0, none⟩) := hL.1
        clear hL
        go_simp
        exact ⟨⟨fun d hd => by injection hd with hd; subst hd; rfl, fun h => by cases h⟩, hS, trivial⟩
    · as_aux_lemma =>
        intro vals a W hS hL
        have e6 : a.tmps.getD 6 undef = .pointer (some ⟨w.heap.size, 4, none⟩) := hL.1
        clear hL
        have kb : Bk W (w.heap.size) 29 #[.int .i64 r1, .int .i64 c1, .bool x1, .bool y1, .int .i64 r2, .int .i64 c2, .bool x2, .bool y2] := hS.bk 1 rfl rfl
        have f4 := kb.cell 4
        have f5 := kb.cell 5
        have f6 := kb.cell 6
        have f7 := kb.cell 7
        clear kb
        go_simp
        exact ⟨⟨fun d hd => by injection hd with hd; subst hd; rfl, fun h => by cases h⟩, hS, trivial⟩
    · as_aux_lemma =>
        intro vals a W hS hL
        have e7 : a.tmps.getD 7 undef = .agg #[.int .i64 r2, .int .i64 c2, .bool x2, .bool y2] := hL.1
        clear hL
        go_simp
        refine (toRef_any r2 c2 x2 y2).mono ?_
        rintro e W' ⟨rfl, hb⟩
        exact ⟨_, rfl, ⟨fun d hd => by injection hd with hd; subst hd; rfl, fun h => by cases h⟩, hS.call hb, trivial⟩
    · skip
      intro vals a W hS hL
      have e5 : a.tmps.getD 5 undef = .agg #[.int .i64 r1, .int .i64 c1, .bool x1, .bool y1] := hL.1
      have e8 : a.tmps.getD 8 undef = .agg #[.int .i64 r2, .int .i64 c2, .bool x2, .bool y2] := hL.2.1
      clear hL
      rw [Array.getD_eq_getD_getElem?] at e5 e8
      go_simp
      exact ⟨⟨fun d hd => by injection hd with hd; subst hd; rfl, fun h => by cases h⟩, hS, trivial⟩
    · skip
      intro a W vals hv hS hL hp
      have e2 : a.tmps.getD 2 undef = .pointer (some ⟨w.heap.size + 1, 0, none⟩) := hL.1
      have e9 : a.tmps.getD 9 undef = .agg #[.int .i64 r1, .int .i64 c1, .bool x1, .bool y1, .int .i64 r2, .int .i64 c2, .bool x2, .bool y2] := hL.2.1
      clear hL
      match vals, hv, hS with
      | [], _, hS =>
        have hS2 : SX w 2 ([.put 0 #[.int .i64 r1, .int .i64 c1, .bool x1, .bool y1, .int .i64 r2, .int .i64 c2, .bool x2, .bool y2]] : List Stp) [] ([(w.heap.size + 1, 40, #[.int .i64 0, .int .i64 0, .bool false, .bool false, .int .i64 0, .int .i64 0, .bool false, .bool false]), (w.heap.size, 29, #[.int .i64 r1, .int .i64 c1, .bool x1, .bool y1, .int .i64 r2, .int .i64 c2, .bool x2, .bool y2])] : List (Nat × TypeId × Array Value)) W := hS
        clear hS
        have hB0 := hS2
        have hB : SB w 2 ([(w.heap.size + 1, 40, #[.int .i64 0, .int .i64 0, .bool false, .bool false, .int .i64 0, .int .i64 0, .bool false, .bool false]), (w.heap.size, 29, #[.int .i64 r1, .int .i64 c1, .bool x1, .bool y1, .int .i64 r2, .int .i64 c2, .bool x2, .bool y2])] : List (Nat × TypeId × Array Value)) W := hB0
        clear hB0
        rw [Array.getD_eq_getD_getElem?] at e9
        have kz := hB.box (i := 0) rfl
        have z0 := kz.frozen 0
        have q0 := kz.cell 0
        have z1 := kz.frozen 1
        have q1 := kz.cell 1
        have z2 := kz.frozen 2
        have q2 := kz.cell 2
        have z3 := kz.frozen 3
        have q3 := kz.cell 3
        have z4 := kz.frozen 4
        have q4 := kz.cell 4
        have z5 := kz.frozen 5
        have q5 := kz.cell 5
        have z6 := kz.frozen 6
        have q6 := kz.cell 6
        have z7 := kz.frozen 7
        have q7 := kz.cell 7
        have hge : w.heap.size ≤ (w.heap.size + 1) := by omega
        have hne : ∀ qx ∈ butBox ([(w.heap.size + 1, 40, #[.int .i64 0, .int .i64 0, .bool false, .bool false, .int .i64 0, .int .i64 0, .bool false, .bool false]), (w.heap.size, 29, #[.int .i64 r1, .int .i64 c1, .bool x1, .bool y1, .int .i64 r2, .int .i64 c2, .bool x2, .bool y2])] : List (Nat × TypeId × Array Value)) 0, qx.1 ≠ (w.heap.size + 1) := by simp [butBox] <;> omega
        have hF := hB.put8 (i := 0) rfl hge hne (.int .i64 r1 : Value) (.int .i64 c1 : Value) (.bool x1 : Value) (.bool y1 : Value) (.int .i64 r2 : Value) (.int .i64 c2 : Value) (.bool x2 : Value) (.bool y2 : Value)
        clear kz hB hne hge
        go_simp
        exact ⟨hF, trivial, trivial⟩
  · intro a W' vals hd hsz hT hF hv hP hS
    obtain ⟨v0, rfl⟩ : ∃ v0, vals = [v0] := by
      match vals, hv with
      | [v0], _ => exact ⟨v0, rfl⟩
    have hS2 : SX w 2 ([.put 0 #[.int .i64 r1, .int .i64 c1, .bool x1, .bool y1, .int .i64 r2, .int .i64 c2, .bool x2, .bool y2]] : List Stp) [v0] ([(w.heap.size + 1, 40, #[.int .i64 0, .int .i64 0, .bool false, .bool false, .int .i64 0, .int .i64 0, .bool false, .bool false]), (w.heap.size, 29, #[.int .i64 r1, .int .i64 c1, .bool x1, .bool y1, .int .i64 r2, .int .i64 c2, .bool x2, .bool y2])] : List (Nat × TypeId × Array Value)) W' := hS
    clear hS
    have hB0 := hS2
    have hB : SB w 2 ([(w.heap.size + 1, 40, #[.int .i64 r1, .int .i64 c1, .bool x1, .bool y1, .int .i64 r2, .int .i64 c2, .bool x2, .bool y2]), (w.heap.size, 29, #[.int .i64 r1, .int .i64 c1, .bool x1, .bool y1, .int .i64 r2, .int .i64 c2, .bool x2, .bool y2])] : List (Nat × TypeId × Array Value)) W' := hB0
    clear hB0
    have kz0 := hB.box (i := 0) rfl
    have r0_0 := kz0.cell 0
    have r0_1 := kz0.cell 1
    have r0_2 := kz0.cell 2
    have r0_3 := kz0.cell 3
    have r0_4 := kz0.cell 4
    have r0_5 := kz0.cell 5
    have r0_6 := kz0.cell 6
    have r0_7 := kz0.cell 7
    clear kz0
    have e2 : a.tmps.getD 2 undef = .pointer (some ⟨w.heap.size + 1, 0, none⟩) := hT 2 (by simp)
    clear hT hF hP
    go_wp2
    refine bodyPost_ret (v := .agg #[.int .i64 r1, .int .i64 c1, .bool x1, .bool y1, .int .i64 r2, .int .i64 c2, .bool x2, .bool y2]) ?_ hd ⟨rfl, hB.bel⟩
    rw [Array.getD_eq_getD_getElem?] at e2
    simp [results, Tryd.results21, go_sem, e2, r0_0, r0_1, r0_2, r0_3, r0_4, r0_5, r0_6, r0_7]

set_option maxRecDepth 20000 in
set_option maxHeartbeats 2000000 in
theorem toVal_any {w : World} (k m s : Int) (t : ByteArray) (b : Bool) (e : Int) :
    Calls Tryd.prog 20 #[.agg #[.int .i64 k, .int .i64 m, .int .i64 s, .string t, .bool b, .int .i64 e]] w fun x w' => x = .returned (.agg #[.int .i64 k, .int .i64 m, .int .i64 s, .string t, .bool b, .int .i64 e]) ∧ Below w.heap.size w w' := by
  have HB : Hid (SB w 2 ([(w.heap.size + 1, 37, #[.int .i64 0, .int .i64 0, .int .i64 0, .string ⟨#[]⟩, .bool false, .int .i64 0]), (w.heap.size, 25, #[.int .i64 k, .int .i64 m, .int .i64 s, .string t, .bool b, .int .i64 e])] : List (Nat × TypeId × Array Value)) ((w.alloc (.cells #[.int .i64 k, .int .i64 m, .int .i64 s, .string t, .bool b, .int .i64 e] 25)).alloc (.cells #[.int .i64 0, .int .i64 0, .int .i64 0, .string ⟨#[]⟩, .bool false, .int .i64 0] 37))) := Lib.hid ((sb1 w 25 #[.int .i64 k, .int .i64 m, .int .i64 s, .string t, .bool b, .int .i64 e]).push (by simp) 37 #[.int .i64 0, .int .i64 0, .int .i64 0, .string ⟨#[]⟩, .bool false, .int .i64 0])
  go_enter Tryd.func20, Tryd.ntmps20
  go_wp2_with fail
  refine wp_region_phases (S := (fun vals W => SX w 2 ([.put 0 #[.int .i64 k, .int .i64 m, .int .i64 s, .string t, .bool b, .int .i64 e]] : List Stp) vals ([(w.heap.size + 1, 37, #[.int .i64 0, .int .i64 0, .int .i64 0, .string ⟨#[]⟩, .bool false, .int .i64 0]), (w.heap.size, 25, #[.int .i64 k, .int .i64 m, .int .i64 s, .string t, .bool b, .int .i64 e])] : List (Nat × TypeId × Array Value)) W)) (E := (fun _ _ => True)) [12] [(1, Is (.pointer (some ⟨w.heap.size, 0, none⟩))), (2, Is (.pointer (some ⟨w.heap.size + 1, 0, none⟩)))] [(3, Is (.pointer (some ⟨w.heap.size, 0, none⟩))), (4, Is (.int .i64 k)), (5, Is (.pointer (some ⟨w.heap.size, 1, none⟩))), (6, Is (.agg #[.int .i64 m, .int .i64 s])), (7, Is (.agg #[.int .i64 m, .int .i64 s])), (8, Is (.pointer (some ⟨w.heap.size, 3, none⟩))), (9, Is (.string t)), (10, Is (.pointer (some ⟨w.heap.size, 4, none⟩))), (11, Is (.bool b)), (12, Is (.pointer (some ⟨w.heap.size, 5, none⟩))), (13, Is (.int .i64 e)), (14, Is (.agg #[.int .i64 k, .int .i64 m, .int .i64 s, .string t, .bool b, .int .i64 e]))]
    [.op [1] none, .op [3] none, .op [1] none, .op [5] none, .op [6] none, .op [1] none, .op [8] none, .op [1] none, .op [10] none, .op [1] none, .op [12] none, .op [4, 7, 9, 11, 13] none, .phase 0 [2, 14] []] (by as_aux_lemma => kernel_rfl) ?_ ?_ ?_ ?_ ?_ ⟨stable_is _ _, stable_is _ _, stable_is _ _, stable_is _ _, stable_is _ _, stable_is _ _, stable_is _ _, stable_is _ _, stable_is _ _, stable_is _ _, stable_is _ _, stable_is _ _, stable_is _ _, stable_is _ _, trivial⟩ ?_ (HB.out.drew) ?_ ?_
  · as_aux_lemma => kernel_rfl
  · as_aux_lemma => kernel_rfl
  · as_aux_lemma => kernel_rfl
  · as_aux_lemma => kernel_rfl
  · as_aux_lemma => kernel_rfl
  · exact ⟨rfl, rfl, trivial⟩
  · refine ⟨?_, ?_, ?_, ?_, ?_, ?_, ?_, ?_, ?_, ?_, ?_, ?_, ?_, trivial⟩
    · as_aux_lemma =>
        intro vals a W hS hL
        have e1 : a.tmps.getD 1 undef = .pointer (some ⟨w.heap.size, 0, none⟩) := hL.1
        clear hL
        go_simp
        exact ⟨⟨fun d hd => by injection hd with hd; subst hd; rfl, fun h => by cases h⟩, hS, trivial⟩
    · as_aux_lemma =>
        intro vals a W hS hL
        have e3 : a.tmps.getD 3 undef = .pointer (some ⟨w.heap.size, 0, none⟩) := hL.1
        clear hL
        have kb : Bk W (w.heap.size) 25 #[.int .i64 k, .int .i64 m, .int .i64 s, .string t, .bool b, .int .i64 e] := hS.bk 1 rfl rfl
        have f0 := kb.cell 0
        clear kb
        go_simp
        exact ⟨⟨fun d hd => by injection hd with hd; subst hd; rfl, fun h => by cases h⟩, hS, trivial⟩
    · as_aux_lemma =>
        intro vals a W hS hL
        have e1 : a.tmps.getD 1 undef = .pointer (some ⟨w.heap.size, 0, none⟩) := hL.1
        clear hL
        go_simp
        exact ⟨⟨fun d hd => by injection hd with hd; subst hd; rfl, fun h => by cases h⟩, hS, trivial⟩
    · as_aux_lemma =>
        intro vals a W hS hL
        have e5 : a.tmps.getD 5 undef = .pointer (some ⟨w.heap.size, 1, none⟩) := hL.1
        clear hL
        have kb : Bk W (w.heap.size) 25 #[.int .i64 k, .int .i64 m, .int .i64 s, .string t, .bool b, .int .i64 e] := hS.bk 1 rfl rfl
        have f1 := kb.cell 1
        have f2 := kb.cell 2
        clear kb
        go_simp
        exact ⟨⟨fun d hd => by injection hd with hd; subst hd; rfl, fun h => by cases h⟩, hS, trivial⟩
    · as_aux_lemma =>
        intro vals a W hS hL
        have e6 : a.tmps.getD 6 undef = .agg #[.int .i64 m, .int .i64 s] := hL.1
        clear hL
        go_simp
        refine (toDec_any m s).mono ?_
        rintro e W' ⟨rfl, hb⟩
        exact ⟨_, rfl, ⟨fun d hd => by injection hd with hd; subst hd; rfl, fun h => by cases h⟩, hS.call hb, trivial⟩
    · as_aux_lemma =>
        intro vals a W hS hL
        have e1 : a.tmps.getD 1 undef = .pointer (some ⟨w.heap.size, 0, none⟩) := hL.1
        clear hL
        go_simp
        exact ⟨⟨fun d hd => by injection hd with hd; subst hd; rfl, fun h => by cases h⟩, hS, trivial⟩
    · as_aux_lemma =>
        intro vals a W hS hL
        have e8 : a.tmps.getD 8 undef = .pointer (some ⟨w.heap.size, 3, none⟩) := hL.1
        clear hL
        have kb : Bk W (w.heap.size) 25 #[.int .i64 k, .int .i64 m, .int .i64 s, .string t, .bool b, .int .i64 e] := hS.bk 1 rfl rfl
        have f3 := kb.cell 3
        clear kb
        go_simp
        exact ⟨⟨fun d hd => by injection hd with hd; subst hd; rfl, fun h => by cases h⟩, hS, trivial⟩
    · as_aux_lemma =>
        intro vals a W hS hL
        have e1 : a.tmps.getD 1 undef = .pointer (some ⟨w.heap.size, 0, none⟩) := hL.1
        clear hL
        go_simp
        exact ⟨⟨fun d hd => by injection hd with hd; subst hd; rfl, fun h => by cases h⟩, hS, trivial⟩
    · as_aux_lemma =>
        intro vals a W hS hL
        have e10 : a.tmps.getD 10 undef = .pointer (some ⟨w.heap.size, 4, none⟩) := hL.1
        clear hL
        have kb : Bk W (w.heap.size) 25 #[.int .i64 k, .int .i64 m, .int .i64 s, .string t, .bool b, .int .i64 e] := hS.bk 1 rfl rfl
        have f4 := kb.cell 4
        clear kb
        go_simp
        exact ⟨⟨fun d hd => by injection hd with hd; subst hd; rfl, fun h => by cases h⟩, hS, trivial⟩
    · as_aux_lemma =>
        intro vals a W hS hL
        have e1 : a.tmps.getD 1 undef = .pointer (some ⟨w.heap.size, 0, none⟩) := hL.1
        clear hL
        go_simp
        exact ⟨⟨fun d hd => by injection hd with hd; subst hd; rfl, fun h => by cases h⟩, hS, trivial⟩
    · as_aux_lemma =>
        intro vals a W hS hL
        have e12 : a.tmps.getD 12 undef = .pointer (some ⟨w.heap.size, 5, none⟩) := hL.1
        clear hL
        have kb : Bk W (w.heap.size) 25 #[.int .i64 k, .int .i64 m, .int .i64 s, .string t, .bool b, .int .i64 e] := hS.bk 1 rfl rfl
        have f5 := kb.cell 5
        clear kb
        go_simp
        exact ⟨⟨fun d hd => by injection hd with hd; subst hd; rfl, fun h => by cases h⟩, hS, trivial⟩
    · skip
      intro vals a W hS hL
      have e4 : a.tmps.getD 4 undef = .int .i64 k := hL.1
      have e7 : a.tmps.getD 7 undef = .agg #[.int .i64 m, .int .i64 s] := hL.2.1
      have e9 : a.tmps.getD 9 undef = .string t := hL.2.2.1
      have e11 : a.tmps.getD 11 undef = .bool b := hL.2.2.2.1
      have e13 : a.tmps.getD 13 undef = .int .i64 e := hL.2.2.2.2.1
      clear hL
      rw [Array.getD_eq_getD_getElem?] at e4 e7 e9 e11 e13
      go_simp
      exact ⟨⟨fun d hd => by injection hd with hd; subst hd; rfl, fun h => by cases h⟩, hS, trivial⟩
    · skip
      intro a W vals hv hS hL hp
      have e2 : a.tmps.getD 2 undef = .pointer (some ⟨w.heap.size + 1, 0, none⟩) := hL.1
      have e14 : a.tmps.getD 14 undef = .agg #[.int .i64 k, .int .i64 m, .int .i64 s, .string t, .bool b, .int .i64 e] := hL.2.1
      clear hL
      match vals, hv, hS with
      | [], _, hS =>
        have hS2 : SX w 2 ([.put 0 #[.int .i64 k, .int .i64 m, .int .i64 s, .string t, .bool b, .int .i64 e]] : List Stp) [] ([(w.heap.size + 1, 37, #[.int .i64 0, .int .i64 0, .int .i64 0, .string ⟨#[]⟩, .bool false, .int .i64 0]), (w.heap.size, 25, #[.int .i64 k, .int .i64 m, .int .i64 s, .string t, .bool b, .int .i64 e])] : List (Nat × TypeId × Array Value)) W := hS
        clear hS
        have hB0 := hS2
        have hB : SB w 2 ([(w.heap.size + 1, 37, #[.int .i64 0, .int .i64 0, .int .i64 0, .string ⟨#[]⟩, .bool false, .int .i64 0]), (w.heap.size, 25, #[.int .i64 k, .int .i64 m, .int .i64 s, .string t, .bool b, .int .i64 e])] : List (Nat × TypeId × Array Value)) W := hB0
        clear hB0
        rw [Array.getD_eq_getD_getElem?] at e14
        have kz := hB.box (i := 0) rfl
        have z0 := kz.frozen 0
        have q0 := kz.cell 0
        have z1 := kz.frozen 1
        have q1 := kz.cell 1
        have z2 := kz.frozen 2
        have q2 := kz.cell 2
        have z3 := kz.frozen 3
        have q3 := kz.cell 3
        have z4 := kz.frozen 4
        have q4 := kz.cell 4
        have z5 := kz.frozen 5
        have q5 := kz.cell 5
        have hge : w.heap.size ≤ (w.heap.size + 1) := by omega
        have hne : ∀ qx ∈ butBox ([(w.heap.size + 1, 37, #[.int .i64 0, .int .i64 0, .int .i64 0, .string ⟨#[]⟩, .bool false, .int .i64 0]), (w.heap.size, 25, #[.int .i64 k, .int .i64 m, .int .i64 s, .string t, .bool b, .int .i64 e])] : List (Nat × TypeId × Array Value)) 0, qx.1 ≠ (w.heap.size + 1) := by simp [butBox] <;> omega
        have hF := hB.put6 (i := 0) rfl hge hne (.int .i64 k : Value) (.int .i64 m : Value) (.int .i64 s : Value) (.string t : Value) (.bool b : Value) (.int .i64 e : Value)
        clear kz hB hne hge
        go_simp
        exact ⟨hF, trivial, trivial⟩
  · intro a W' vals hd hsz hT hF hv hP hS
    obtain ⟨v0, rfl⟩ : ∃ v0, vals = [v0] := by
      match vals, hv with
      | [v0], _ => exact ⟨v0, rfl⟩
    have hS2 : SX w 2 ([.put 0 #[.int .i64 k, .int .i64 m, .int .i64 s, .string t, .bool b, .int .i64 e]] : List Stp) [v0] ([(w.heap.size + 1, 37, #[.int .i64 0, .int .i64 0, .int .i64 0, .string ⟨#[]⟩, .bool false, .int .i64 0]), (w.heap.size, 25, #[.int .i64 k, .int .i64 m, .int .i64 s, .string t, .bool b, .int .i64 e])] : List (Nat × TypeId × Array Value)) W' := hS
    clear hS
    have hB0 := hS2
    have hB : SB w 2 ([(w.heap.size + 1, 37, #[.int .i64 k, .int .i64 m, .int .i64 s, .string t, .bool b, .int .i64 e]), (w.heap.size, 25, #[.int .i64 k, .int .i64 m, .int .i64 s, .string t, .bool b, .int .i64 e])] : List (Nat × TypeId × Array Value)) W' := hB0
    clear hB0
    have kz0 := hB.box (i := 0) rfl
    have r0_0 := kz0.cell 0
    have r0_1 := kz0.cell 1
    have r0_2 := kz0.cell 2
    have r0_3 := kz0.cell 3
    have r0_4 := kz0.cell 4
    have r0_5 := kz0.cell 5
    clear kz0
    have e2 : a.tmps.getD 2 undef = .pointer (some ⟨w.heap.size + 1, 0, none⟩) := hT 2 (by simp)
    clear hT hF hP
    go_wp2
    refine bodyPost_ret (v := .agg #[.int .i64 k, .int .i64 m, .int .i64 s, .string t, .bool b, .int .i64 e]) ?_ hd ⟨rfl, hB.bel⟩
    rw [Array.getD_eq_getD_getElem?] at e2
    simp [results, Tryd.results20, go_sem, e2, r0_0, r0_1, r0_2, r0_3, r0_4, r0_5]

end Go.Proofs.YtofbmlfpkcociaaDoor
