/- The reference's CheckVal, the laws' Of by their contracts. Condition: the reference's Units keeps its contract. -/
import Derived.Test.YtmbjmgmnicacpaaGreatDoorR1
import Derived.Test.YtmbjmgmnicacpaaGreatDoorBUnits
import Derived.Test.YtmbjmgmnicacpaaGreatDoorV5
namespace Go.Proofs.YtmbjmgmnicacpaaGreatDoor
open Go.RowKit

theorem of4_any {w : World} (m s : Int) : Calls Tryz.prog 11 #[.agg #[.int .i64 m, .int .i64 s]] w fun x w' => x = .returned (.agg #[.int .i64 m, .int .i64 s]) ∧ Below w.heap.size w w' := by
  go_enter Tryz.func11, Tryz.ntmps11
  go_wp2
  exact bodyPost_ret (v := .agg #[.int .i64 m, .int .i64 s]) (by simp [results, Tryz.results11, go_sem]) rfl ⟨rfl, bel1 _ _ _⟩
set_option maxRecDepth 20000 in
theorem of9_any {w : World} (k m s : Int) (t : ByteArray) (b : Bool) (e : Int) :
    Calls Tryz.prog 5 #[.agg #[.int .i64 k, .int .i64 m, .int .i64 s, .string t, .bool b, .int .i64 e]] w fun x w' => x = .returned (.agg #[.int .i64 k, .int .i64 m, .int .i64 s, .string t, .bool b, .int .i64 e]) ∧ Below w.heap.size w w' := by
  have HO := Lib.hid (fun W : World => of4_any (w := W) m s)
  have HB := Lib.hid ((sb1 w 25 #[.int .i64 k, .int .i64 m, .int .i64 s, .string t, .bool b, .int .i64 e]).push (by simp) 29 #[.int .i64 0, .int .i64 0, .int .i64 0, .string ⟨#[]⟩, .bool false, .int .i64 0])
  go_enter Tryz.func5, Tryz.ntmps5
  go_wp2_with fail
  refine wp_region_phases (S := (fun vals W => SX w 2 ([.put 0 #[.int .i64 k, .int .i64 m, .int .i64 s, .string t, .bool b, .int .i64 e]] : List Stp) vals ([(w.heap.size + 1, 29, #[.int .i64 0, .int .i64 0, .int .i64 0, .string ⟨#[]⟩, .bool false, .int .i64 0]), (w.heap.size, 25, #[.int .i64 k, .int .i64 m, .int .i64 s, .string t, .bool b, .int .i64 e])] : List (Nat × TypeId × Array Value)) W)) (E := (fun _ _ => True)) [12] [(1, Is (.pointer (some ⟨w.heap.size, 0, none⟩))), (2, Is (.pointer (some ⟨w.heap.size + 1, 0, none⟩)))] [(3, Is (.pointer (some ⟨w.heap.size, 0, none⟩))), (4, Is (.int .i64 k)), (5, Is (.pointer (some ⟨w.heap.size, 1, none⟩))), (6, Is (.agg #[.int .i64 m, .int .i64 s])), (7, Is (.agg #[.int .i64 m, .int .i64 s])), (8, Is (.pointer (some ⟨w.heap.size, 3, none⟩))), (9, Is (.string t)), (10, Is (.pointer (some ⟨w.heap.size, 4, none⟩))), (11, Is (.bool b)), (12, Is (.pointer (some ⟨w.heap.size, 5, none⟩))), (13, Is (.int .i64 e)), (14, Is (.agg #[.int .i64 k, .int .i64 m, .int .i64 s, .string t, .bool b, .int .i64 e]))]
    [.op [1] none, .op [3] none, .op [1] none, .op [5] none, .op [6] none, .op [1] none, .op [8] none, .op [1] none, .op [10] none, .op [1] none, .op [12] none, .op [4, 7, 9, 11, 13] none, .phase 0 [2, 14] []] (by as_aux_lemma => kernel_rfl) ?_ ?_ ?_ ?_ ?_ ⟨stable_is _ _, stable_is _ _, stable_is _ _, stable_is _ _, stable_is _ _, stable_is _ _, stable_is _ _, stable_is _ _, stable_is _ _, stable_is _ _, stable_is _ _, stable_is _ _, stable_is _ _, stable_is _ _, trivial⟩ ?_ (HB.out.drew) ?_ ?_
  · as_aux_lemma => kernel_rfl
  · as_aux_lemma => kernel_rfl
  · as_aux_lemma => kernel_rfl
  · as_aux_lemma => kernel_rfl
  · as_aux_lemma => kernel_rfl
  · exact ⟨rfl, rfl, trivial⟩
  · refine ⟨?_, ?_, ?_, ?_, ?_, ?_, ?_, ?_, ?_, ?_, ?_, ?_, ?_, trivial⟩
    · as_aux_lemma =>
        intro vals a W hS hL
        have e1 : a.tmps.getD 1 undef = .pointer (some ⟨w.heap.size, 0, none⟩) := hL.1
        clear hL
        go_simp
        exact ⟨⟨fun d hd => by injection hd with hd; subst hd; rfl, fun h => by cases h⟩, hS, trivial⟩
    · as_aux_lemma =>
        intro vals a W hS hL
        have e3 : a.tmps.getD 3 undef = .pointer (some ⟨w.heap.size, 0, none⟩) := hL.1
        clear hL
        have kb : Bk W (w.heap.size) 25 #[.int .i64 k, .int .i64 m, .int .i64 s, .string t, .bool b, .int .i64 e] := hS.bk 1 rfl rfl
        have f0 := kb.cell 0
        clear kb
        go_simp
        exact ⟨⟨fun d hd => by injection hd with hd; subst hd; rfl, fun h => by cases h⟩, hS, trivial⟩
    · as_aux_lemma =>
        intro vals a W hS hL
        have e1 : a.tmps.getD 1 undef = .pointer (some ⟨w.heap.size, 0, none⟩) := hL.1
        clear hL
        go_simp
        exact ⟨⟨fun d hd => by injection hd with hd; subst hd; rfl, fun h => by cases h⟩, hS, trivial⟩
    · as_aux_lemma =>
        intro vals a W hS hL
        have e5 : a.tmps.getD 5 undef = .pointer (some ⟨w.heap.size, 1, none⟩) := hL.1
        clear hL
        have kb : Bk W (w.heap.size) 25 #[.int .i64 k, .int .i64 m, .int .i64 s, .string t, .bool b, .int .i64 e] := hS.bk 1 rfl rfl
        have f1 := kb.cell 1
        have f2 := kb.cell 2
        clear kb
        go_simp
        exact ⟨⟨fun d hd => by injection hd with hd; subst hd; rfl, fun h => by cases h⟩, hS, trivial⟩
    · as_aux_lemma =>
        intro vals a W hS hL
        have e6 : a.tmps.getD 6 undef = .agg #[.int .i64 m, .int .i64 s] := hL.1
        clear hL
        go_simp
        refine (HO.out W).mono ?_
        rintro e W' ⟨rfl, hb⟩
        exact ⟨_, rfl, ⟨fun d hd => by injection hd with hd; subst hd; rfl, fun h => by cases h⟩, hS.call hb, trivial⟩
    · as_aux_lemma =>
        intro vals a W hS hL
        have e1 : a.tmps.getD 1 undef = .pointer (some ⟨w.heap.size, 0, none⟩) := hL.1
        clear hL
        go_simp
        exact ⟨⟨fun d hd => by injection hd with hd; subst hd; rfl, fun h => by cases h⟩, hS, trivial⟩
    · as_aux_lemma =>
        intro vals a W hS hL
        have e8 : a.tmps.getD 8 undef = .pointer (some ⟨w.heap.size, 3, none⟩) := hL.1
        clear hL
        have kb : Bk W (w.heap.size) 25 #[.int .i64 k, .int .i64 m, .int .i64 s, .string t, .bool b, .int .i64 e] := hS.bk 1 rfl rfl
        have f3 := kb.cell 3
        clear kb
        go_simp
        exact ⟨⟨fun d hd => by injection hd with hd; subst hd; rfl, fun h => by cases h⟩, hS, trivial⟩
    · as_aux_lemma =>
        intro vals a W hS hL
        have e1 : a.tmps.getD 1 undef = .pointer (some ⟨w.heap.size, 0, none⟩) := hL.1
        clear hL
        go_simp
        exact ⟨⟨fun d hd => by injection hd with hd; subst hd; rfl, fun h => by cases h⟩, hS, trivial⟩
    · as_aux_lemma =>
        intro vals a W hS hL
        have e10 : a.tmps.getD 10 undef = .pointer (some ⟨w.heap.size, 4, none⟩) := hL.1
        clear hL
        have kb : Bk W (w.heap.size) 25 #[.int .i64 k, .int .i64 m, .int .i64 s, .string t, .bool b, .int .i64 e] := hS.bk 1 rfl rfl
        have f4 := kb.cell 4
        clear kb
        go_simp
        exact ⟨⟨fun d hd => by injection hd with hd; subst hd; rfl, fun h => by cases h⟩, hS, trivial⟩
    · as_aux_lemma =>
        intro vals a W hS hL
        have e1 : a.tmps.getD 1 undef = .pointer (some ⟨w.heap.size, 0, none⟩) := hL.1
        clear hL
        go_simp
        exact ⟨⟨fun d hd => by injection hd with hd; subst hd; rfl, fun h => by cases h⟩, hS, trivial⟩
    · as_aux_lemma =>
        intro vals a W hS hL
        have e12 : a.tmps.getD 12 undef = .pointer (some ⟨w.heap.size, 5, none⟩) := hL.1
        clear hL
        have kb : Bk W (w.heap.size) 25 #[.int .i64 k, .int .i64 m, .int .i64 s, .string t, .bool b, .int .i64 e] := hS.bk 1 rfl rfl
        have f5 := kb.cell 5
        clear kb
        go_simp
        exact ⟨⟨fun d hd => by injection hd with hd; subst hd; rfl, fun h => by cases h⟩, hS, trivial⟩
    · skip
      intro vals a W hS hL
      have e4 : a.tmps.getD 4 undef = .int .i64 k := hL.1
      have e7 : a.tmps.getD 7 undef = .agg #[.int .i64 m, .int .i64 s] := hL.2.1
      have e9 : a.tmps.getD 9 undef = .string t := hL.2.2.1
      have e11 : a.tmps.getD 11 undef = .bool b := hL.2.2.2.1
      have e13 : a.tmps.getD 13 undef = .int .i64 e := hL.2.2.2.2.1
      clear hL
      rw [Array.getD_eq_getD_getElem?] at e4 e7 e9 e11 e13
      go_simp
      exact ⟨⟨fun d hd => by injection hd with hd; subst hd; rfl, fun h => by cases h⟩, hS, trivial⟩
    · skip
      intro a W vals hv hS hL hp
      have e2 : a.tmps.getD 2 undef = .pointer (some ⟨w.heap.size + 1, 0, none⟩) := hL.1
      have e14 : a.tmps.getD 14 undef = .agg #[.int .i64 k, .int .i64 m, .int .i64 s, .string t, .bool b, .int .i64 e] := hL.2.1
      clear hL
      match vals, hv, hS with
      | [], _, hS =>
        have hS2 : SX w 2 ([.put 0 #[.int .i64 k, .int .i64 m, .int .i64 s, .string t, .bool b, .int .i64 e]] : List Stp) [] ([(w.heap.size + 1, 29, #[.int .i64 0, .int .i64 0, .int .i64 0, .string ⟨#[]⟩, .bool false, .int .i64 0]), (w.heap.size, 25, #[.int .i64 k, .int .i64 m, .int .i64 s, .string t, .bool b, .int .i64 e])] : List (Nat × TypeId × Array Value)) W := hS
        clear hS
        have hB0 := hS2
        have hB : SB w 2 ([(w.heap.size + 1, 29, #[.int .i64 0, .int .i64 0, .int .i64 0, .string ⟨#[]⟩, .bool false, .int .i64 0]), (w.heap.size, 25, #[.int .i64 k, .int .i64 m, .int .i64 s, .string t, .bool b, .int .i64 e])] : List (Nat × TypeId × Array Value)) W := hB0
        clear hB0
        rw [Array.getD_eq_getD_getElem?] at e14
        have kz := hB.box (i := 0) rfl
        have z0 := kz.frozen 0
        have q0 := kz.cell 0
        have z1 := kz.frozen 1
        have q1 := kz.cell 1
        have z2 := kz.frozen 2
        have q2 := kz.cell 2
        have z3 := kz.frozen 3
        have q3 := kz.cell 3
        have z4 := kz.frozen 4
        have q4 := kz.cell 4
        have z5 := kz.frozen 5
        have q5 := kz.cell 5
        have hge : w.heap.size ≤ (w.heap.size + 1) := by omega
        have hne : ∀ qx ∈ butBox ([(w.heap.size + 1, 29, #[.int .i64 0, .int .i64 0, .int .i64 0, .string ⟨#[]⟩, .bool false, .int .i64 0]), (w.heap.size, 25, #[.int .i64 k, .int .i64 m, .int .i64 s, .string t, .bool b, .int .i64 e])] : List (Nat × TypeId × Array Value)) 0, qx.1 ≠ (w.heap.size + 1) := by simp [butBox] <;> omega
        have hF := hB.put6 (i := 0) rfl hge hne (.int .i64 k : Value) (.int .i64 m : Value) (.int .i64 s : Value) (.string t : Value) (.bool b : Value) (.int .i64 e : Value)
        clear kz hB hne hge
        go_simp
        exact ⟨hF, trivial, trivial⟩
  · intro a W' vals hd hsz hT hF hv hP hS
    obtain ⟨v0, rfl⟩ : ∃ v0, vals = [v0] := by
      match vals, hv with
      | [v0], _ => exact ⟨v0, rfl⟩
    have hS2 : SX w 2 ([.put 0 #[.int .i64 k, .int .i64 m, .int .i64 s, .string t, .bool b, .int .i64 e]] : List Stp) [v0] ([(w.heap.size + 1, 29, #[.int .i64 0, .int .i64 0, .int .i64 0, .string ⟨#[]⟩, .bool false, .int .i64 0]), (w.heap.size, 25, #[.int .i64 k, .int .i64 m, .int .i64 s, .string t, .bool b, .int .i64 e])] : List (Nat × TypeId × Array Value)) W' := hS
    clear hS
    have hB0 := hS2
    have hB : SB w 2 ([(w.heap.size + 1, 29, #[.int .i64 k, .int .i64 m, .int .i64 s, .string t, .bool b, .int .i64 e]), (w.heap.size, 25, #[.int .i64 k, .int .i64 m, .int .i64 s, .string t, .bool b, .int .i64 e])] : List (Nat × TypeId × Array Value)) W' := hB0
    clear hB0
    have kz0 := hB.box (i := 0) rfl
    have r0_0 := kz0.cell 0
    have r0_1 := kz0.cell 1
    have r0_2 := kz0.cell 2
    have r0_3 := kz0.cell 3
    have r0_4 := kz0.cell 4
    have r0_5 := kz0.cell 5
    clear kz0
    have e2 : a.tmps.getD 2 undef = .pointer (some ⟨w.heap.size + 1, 0, none⟩) := hT 2 (by simp)
    clear hT hF hP
    go_wp2
    refine bodyPost_ret (v := .agg #[.int .i64 k, .int .i64 m, .int .i64 s, .string t, .bool b, .int .i64 e]) ?_ hd ⟨rfl, hB.bel⟩
    rw [Array.getD_eq_getD_getElem?] at e2
    simp [results, Tryz.results5, go_sem, e2, r0_0, r0_1, r0_2, r0_3, r0_4, r0_5]

set_option maxRecDepth 20000 in
theorem bck_low {w : World} (k m s : Int) (t : ByteArray) (b : Bool) (e : Int) (h : k < 0) :
    Calls Tryz.prog 7 #[.agg #[.int .i64 k, .int .i64 m, .int .i64 s, .string t, .bool b, .int .i64 e]] w fun x w' => x = .returned (.int .i64 1) ∧ Below w.heap.size w w' := by
  go_enter Tryz.func7, Tryz.ntmps7
  go_wp2
  go_ret
  exact ⟨rfl, bel0 _ _⟩
set_option maxRecDepth 20000 in
theorem bck_high {w : World} (k m s : Int) (t : ByteArray) (b : Bool) (e : Int) (h : 4 < k) :
    Calls Tryz.prog 7 #[.agg #[.int .i64 k, .int .i64 m, .int .i64 s, .string t, .bool b, .int .i64 e]] w fun x w' => x = .returned (.int .i64 1) ∧ Below w.heap.size w w' := by
  have h0 : ¬ k < 0 := by omega
  go_enter Tryz.func7, Tryz.ntmps7
  go_wp2
  go_ret
  exact ⟨rfl, bel0 _ _⟩
set_option maxRecDepth 20000 in
theorem bck0_m {w : World} (m s : Int) (t : ByteArray) (b : Bool) (e : Int) (hm : ¬ m = 0) :
    Calls Tryz.prog 7 #[.agg #[.int .i64 0, .int .i64 m, .int .i64 s, .string t, .bool b, .int .i64 e]] w fun x w' => x = .returned (.int .i64 1) ∧ Below w.heap.size w w' := by
  have hm' : (m != 0) = true := bne_iff_ne.2 hm
  go_enter Tryz.func7, Tryz.ntmps7
  go_wp2
  go_ret
  exact ⟨rfl, bel0 _ _⟩
set_option maxRecDepth 20000 in
theorem bck0_s {w : World} (s : Int) (t : ByteArray) (b : Bool) (e : Int) (hs : ¬ s = 0) :
    Calls Tryz.prog 7 #[.agg #[.int .i64 0, .int .i64 0, .int .i64 s, .string t, .bool b, .int .i64 e]] w fun x w' => x = .returned (.int .i64 1) ∧ Below w.heap.size w w' := by
  have hs' : (s != 0) = true := bne_iff_ne.2 hs
  go_enter Tryz.func7, Tryz.ntmps7
  go_wp2
  go_ret
  exact ⟨rfl, bel0 _ _⟩
set_option maxRecDepth 20000 in
theorem bck0_t {w : World} (t : ByteArray) (b : Bool) (e : Int) (ht : ¬ t.toList = []) :
    Calls Tryz.prog 7 #[.agg #[.int .i64 0, .int .i64 0, .int .i64 0, .string t, .bool b, .int .i64 e]] w fun x w' => x = .returned (.int .i64 1) ∧ Below w.heap.size w w' := by
  have ht' : (!t.toList.isEmpty) = true := by
    rw [show t.toList.isEmpty = false by rcases h : t.toList with _ | ⟨c, l⟩; exact absurd h ht; rfl]
    rfl
  go_enter Tryz.func7, Tryz.ntmps7
  go_wp2
  go_ret
  exact ⟨rfl, bel0 _ _⟩
set_option maxRecDepth 20000 in
theorem bck0_b {w : World} (e : Int) :
    Calls Tryz.prog 7 #[.agg #[.int .i64 0, .int .i64 0, .int .i64 0, .string ⟨#[]⟩, .bool true, .int .i64 e]] w fun x w' => x = .returned (.int .i64 1) ∧ Below w.heap.size w w' := by
  go_enter Tryz.func7, Tryz.ntmps7
  go_wp2
  go_ret
  exact ⟨rfl, bel0 _ _⟩
set_option maxRecDepth 20000 in
theorem bck0_e {w : World} (e : Int) (he : ¬ e = 0) :
    Calls Tryz.prog 7 #[.agg #[.int .i64 0, .int .i64 0, .int .i64 0, .string ⟨#[]⟩, .bool false, .int .i64 e]] w fun x w' => x = .returned (.int .i64 1) ∧ Below w.heap.size w w' := by
  have he' : (e != 0) = true := bne_iff_ne.2 he
  go_enter Tryz.func7, Tryz.ntmps7
  go_wp2
  go_ret
  exact ⟨rfl, bel0 _ _⟩
set_option maxRecDepth 20000 in
theorem bck1_t {w : World} (m s : Int) (t : ByteArray) (b : Bool) (e : Int) (ht : ¬ t.toList = []) :
    Calls Tryz.prog 7 #[.agg #[.int .i64 1, .int .i64 m, .int .i64 s, .string t, .bool b, .int .i64 e]] w fun x w' => x = .returned (.int .i64 1) ∧ Below w.heap.size w w' := by
  have ht' : (!t.toList.isEmpty) = true := by
    rw [show t.toList.isEmpty = false by rcases h : t.toList with _ | ⟨c, l⟩; exact absurd h ht; rfl]
    rfl
  go_enter Tryz.func7, Tryz.ntmps7
  go_wp2
  go_ret
  exact ⟨rfl, bel0 _ _⟩
set_option maxRecDepth 20000 in
theorem bck1_b {w : World} (m s : Int) (e : Int) :
    Calls Tryz.prog 7 #[.agg #[.int .i64 1, .int .i64 m, .int .i64 s, .string ⟨#[]⟩, .bool true, .int .i64 e]] w fun x w' => x = .returned (.int .i64 1) ∧ Below w.heap.size w w' := by
  go_enter Tryz.func7, Tryz.ntmps7
  go_wp2
  go_ret
  exact ⟨rfl, bel0 _ _⟩
set_option maxRecDepth 20000 in
theorem bck1_e {w : World} (m s : Int) (e : Int) (he : ¬ e = 0) :
    Calls Tryz.prog 7 #[.agg #[.int .i64 1, .int .i64 m, .int .i64 s, .string ⟨#[]⟩, .bool false, .int .i64 e]] w fun x w' => x = .returned (.int .i64 1) ∧ Below w.heap.size w w' := by
  have he' : (e != 0) = true := bne_iff_ne.2 he
  go_enter Tryz.func7, Tryz.ntmps7
  go_wp2
  go_ret
  exact ⟨rfl, bel0 _ _⟩
set_option maxRecDepth 20000 in
theorem bck2_m {w : World} (m s : Int) (t : ByteArray) (b : Bool) (e : Int) (hm : ¬ m = 0) :
    Calls Tryz.prog 7 #[.agg #[.int .i64 2, .int .i64 m, .int .i64 s, .string t, .bool b, .int .i64 e]] w fun x w' => x = .returned (.int .i64 1) ∧ Below w.heap.size w w' := by
  have hm' : (m != 0) = true := bne_iff_ne.2 hm
  go_enter Tryz.func7, Tryz.ntmps7
  go_wp2
  go_ret
  exact ⟨rfl, bel0 _ _⟩
set_option maxRecDepth 20000 in
theorem bck2_s {w : World} (s : Int) (t : ByteArray) (b : Bool) (e : Int) (hs : ¬ s = 0) :
    Calls Tryz.prog 7 #[.agg #[.int .i64 2, .int .i64 0, .int .i64 s, .string t, .bool b, .int .i64 e]] w fun x w' => x = .returned (.int .i64 1) ∧ Below w.heap.size w w' := by
  have hs' : (s != 0) = true := bne_iff_ne.2 hs
  go_enter Tryz.func7, Tryz.ntmps7
  go_wp2
  go_ret
  exact ⟨rfl, bel0 _ _⟩
set_option maxRecDepth 20000 in
theorem bck2_b {w : World} (t : ByteArray) (e : Int) :
    Calls Tryz.prog 7 #[.agg #[.int .i64 2, .int .i64 0, .int .i64 0, .string t, .bool true, .int .i64 e]] w fun x w' => x = .returned (.int .i64 1) ∧ Below w.heap.size w w' := by
  go_enter Tryz.func7, Tryz.ntmps7
  go_wp2
  go_ret
  exact ⟨rfl, bel0 _ _⟩
set_option maxRecDepth 20000 in
theorem bck2_e {w : World} (t : ByteArray) (e : Int) (he : ¬ e = 0) :
    Calls Tryz.prog 7 #[.agg #[.int .i64 2, .int .i64 0, .int .i64 0, .string t, .bool false, .int .i64 e]] w fun x w' => x = .returned (.int .i64 1) ∧ Below w.heap.size w w' := by
  have he' : (e != 0) = true := bne_iff_ne.2 he
  go_enter Tryz.func7, Tryz.ntmps7
  go_wp2
  go_ret
  exact ⟨rfl, bel0 _ _⟩
set_option maxRecDepth 20000 in
theorem bck3_m {w : World} (m s : Int) (t : ByteArray) (b : Bool) (e : Int) (hm : ¬ m = 0) :
    Calls Tryz.prog 7 #[.agg #[.int .i64 3, .int .i64 m, .int .i64 s, .string t, .bool b, .int .i64 e]] w fun x w' => x = .returned (.int .i64 1) ∧ Below w.heap.size w w' := by
  have hm' : (m != 0) = true := bne_iff_ne.2 hm
  go_enter Tryz.func7, Tryz.ntmps7
  go_wp2
  go_ret
  exact ⟨rfl, bel0 _ _⟩
set_option maxRecDepth 20000 in
theorem bck3_s {w : World} (s : Int) (t : ByteArray) (b : Bool) (e : Int) (hs : ¬ s = 0) :
    Calls Tryz.prog 7 #[.agg #[.int .i64 3, .int .i64 0, .int .i64 s, .string t, .bool b, .int .i64 e]] w fun x w' => x = .returned (.int .i64 1) ∧ Below w.heap.size w w' := by
  have hs' : (s != 0) = true := bne_iff_ne.2 hs
  go_enter Tryz.func7, Tryz.ntmps7
  go_wp2
  go_ret
  exact ⟨rfl, bel0 _ _⟩
set_option maxRecDepth 20000 in
theorem bck3_t {w : World} (t : ByteArray) (b : Bool) (e : Int) (ht : ¬ t.toList = []) :
    Calls Tryz.prog 7 #[.agg #[.int .i64 3, .int .i64 0, .int .i64 0, .string t, .bool b, .int .i64 e]] w fun x w' => x = .returned (.int .i64 1) ∧ Below w.heap.size w w' := by
  have ht' : (!t.toList.isEmpty) = true := by
    rw [show t.toList.isEmpty = false by rcases h : t.toList with _ | ⟨c, l⟩; exact absurd h ht; rfl]
    rfl
  go_enter Tryz.func7, Tryz.ntmps7
  go_wp2
  go_ret
  exact ⟨rfl, bel0 _ _⟩
set_option maxRecDepth 20000 in
theorem bck3_e {w : World} (b : Bool) (e : Int) (he : ¬ e = 0) :
    Calls Tryz.prog 7 #[.agg #[.int .i64 3, .int .i64 0, .int .i64 0, .string ⟨#[]⟩, .bool b, .int .i64 e]] w fun x w' => x = .returned (.int .i64 1) ∧ Below w.heap.size w w' := by
  have he' : (e != 0) = true := bne_iff_ne.2 he
  go_enter Tryz.func7, Tryz.ntmps7
  go_wp2
  go_ret
  exact ⟨rfl, bel0 _ _⟩
set_option maxRecDepth 20000 in
theorem bck4_m {w : World} (m s : Int) (t : ByteArray) (b : Bool) (e : Int) (hm : ¬ m = 0) :
    Calls Tryz.prog 7 #[.agg #[.int .i64 4, .int .i64 m, .int .i64 s, .string t, .bool b, .int .i64 e]] w fun x w' => x = .returned (.int .i64 1) ∧ Below w.heap.size w w' := by
  have hm' : (m != 0) = true := bne_iff_ne.2 hm
  go_enter Tryz.func7, Tryz.ntmps7
  go_wp2
  go_ret
  exact ⟨rfl, bel0 _ _⟩
set_option maxRecDepth 20000 in
theorem bck4_s {w : World} (s : Int) (t : ByteArray) (b : Bool) (e : Int) (hs : ¬ s = 0) :
    Calls Tryz.prog 7 #[.agg #[.int .i64 4, .int .i64 0, .int .i64 s, .string t, .bool b, .int .i64 e]] w fun x w' => x = .returned (.int .i64 1) ∧ Below w.heap.size w w' := by
  have hs' : (s != 0) = true := bne_iff_ne.2 hs
  go_enter Tryz.func7, Tryz.ntmps7
  go_wp2
  go_ret
  exact ⟨rfl, bel0 _ _⟩
set_option maxRecDepth 20000 in
theorem bck4_t {w : World} (t : ByteArray) (b : Bool) (e : Int) (ht : ¬ t.toList = []) :
    Calls Tryz.prog 7 #[.agg #[.int .i64 4, .int .i64 0, .int .i64 0, .string t, .bool b, .int .i64 e]] w fun x w' => x = .returned (.int .i64 1) ∧ Below w.heap.size w w' := by
  have ht' : (!t.toList.isEmpty) = true := by
    rw [show t.toList.isEmpty = false by rcases h : t.toList with _ | ⟨c, l⟩; exact absurd h ht; rfl]
    rfl
  go_enter Tryz.func7, Tryz.ntmps7
  go_wp2
  go_ret
  exact ⟨rfl, bel0 _ _⟩
set_option maxRecDepth 20000 in
theorem bck4_b {w : World} (e : Int) :
    Calls Tryz.prog 7 #[.agg #[.int .i64 4, .int .i64 0, .int .i64 0, .string ⟨#[]⟩, .bool true, .int .i64 e]] w fun x w' => x = .returned (.int .i64 1) ∧ Below w.heap.size w w' := by
  go_enter Tryz.func7, Tryz.ntmps7
  go_wp2
  go_ret
  exact ⟨rfl, bel0 _ _⟩
set_option maxRecDepth 20000 in
theorem bck_blank {w : World}  :
    Calls Tryz.prog 7 #[.agg #[.int .i64 0, .int .i64 0, .int .i64 0, .string ⟨#[]⟩, .bool false, .int .i64 0]] w fun x w' => x = .returned (.int .i64 0) ∧ Below w.heap.size w w' := by
  go_enter Tryz.func7, Tryz.ntmps7
  go_wp2
  go_ret
  exact ⟨rfl, bel0 _ _⟩
set_option maxRecDepth 20000 in
theorem bck_true {w : World}  :
    Calls Tryz.prog 7 #[.agg #[.int .i64 3, .int .i64 0, .int .i64 0, .string ⟨#[]⟩, .bool true, .int .i64 0]] w fun x w' => x = .returned (.int .i64 0) ∧ Below w.heap.size w w' := by
  go_enter Tryz.func7, Tryz.ntmps7
  go_wp2
  go_ret
  exact ⟨rfl, bel0 _ _⟩
set_option maxRecDepth 20000 in
theorem bck_false {w : World}  :
    Calls Tryz.prog 7 #[.agg #[.int .i64 3, .int .i64 0, .int .i64 0, .string ⟨#[]⟩, .bool false, .int .i64 0]] w fun x w' => x = .returned (.int .i64 0) ∧ Below w.heap.size w w' := by
  go_enter Tryz.func7, Tryz.ntmps7
  go_wp2
  go_ret
  exact ⟨rfl, bel0 _ _⟩
set_option maxRecDepth 20000 in
theorem bck_num {w : World} (m s : Int) :
    Calls Tryz.prog 7 #[.agg #[.int .i64 1, .int .i64 m, .int .i64 s, .string ⟨#[]⟩, .bool false, .int .i64 0]] w fun x w' => x = .returned (.int .i64 (ckE m s)) ∧ Below w.heap.size w w' := by
  have HC := Lib.hid (fun W : World => bCheck_any (w := W) (m := m) (s := s))
  generalize ckE m s = c at *
  have HB := Lib.hid (sb1 w 29 #[.int .i64 1, .int .i64 m, .int .i64 s, .string ⟨#[]⟩, .bool false, .int .i64 0])
  go_enter Tryz.func7, Tryz.ntmps7
  go_wp2_with fail
  refine (HC.out _ ).mono ?_
  rintro x w1 ⟨rfl, hb⟩
  have hbel := (HB.out.call hb).bel
  clear HB HC hb
  go_wp2
  go_ret
  exact ⟨rfl, hbel⟩
set_option maxRecDepth 20000 in
theorem bck_str {w : World} (t : ByteArray) (ht : t.size ≤ 10000000) :
    Calls Tryz.prog 7 #[.agg #[.int .i64 2, .int .i64 0, .int .i64 0, .string t, .bool false, .int .i64 0]] w fun x w' => x = .returned (.int .i64 (uE t.data.toList)) ∧ Below w.heap.size w w' := by
  have HC := Lib.hid (fun W : World => bUnits_any (w := W) t ht)
  generalize uE t.data.toList = c at *
  generalize uV t.data.toList = v at *
  have HB := Lib.hid (sb1 w 29 #[.int .i64 2, .int .i64 0, .int .i64 0, .string t, .bool false, .int .i64 0])
  go_enter Tryz.func7, Tryz.ntmps7
  go_wp2_with fail
  refine (HC.out _ ).mono ?_
  rintro x w1 ⟨rfl, hb⟩
  have hbel := (HB.out.call hb).bel
  clear HB HC hb
  go_wp2
  go_ret
  exact ⟨rfl, hbel⟩
set_option maxRecDepth 20000 in
theorem bck_err_yes {w : World} (e : Int) (L : List UInt8) (hL : erL e = L) (h0 : ¬ L = []) :
    Calls Tryz.prog 7 #[.agg #[.int .i64 4, .int .i64 0, .int .i64 0, .string ⟨#[]⟩, .bool false, .int .i64 e]] w fun x w' => x = .returned (.int .i64 0) ∧ Below w.heap.size w w' := by
  have HC : Hid (∀ W : World, Calls Tryz.prog 30 #[.int .i64 e] W fun x w' => x = .returned (sL L) ∧ w' = W) := Lib.hid (fun W => by
    have := bErrText_any (w := W) e
    rw [hL] at this
    exact this)
  unfold sL at HC
  have hne : L.isEmpty = false := by rcases L with _ | ⟨c, l⟩ <;> first | exact absurd rfl h0 | rfl
  clear h0
  clear hL
  have HB := Lib.hid (sb1 w 29 #[.int .i64 4, .int .i64 0, .int .i64 0, .string ⟨#[]⟩, .bool false, .int .i64 e])
  go_enter Tryz.func7, Tryz.ntmps7
  go_wp2_with fail
  refine (HC.out _ ).mono ?_
  rintro x w1 ⟨rfl, rfl⟩
  have hbel := HB.out.bel
  clear HB HC
  go_wp2
  go_ret
  exact ⟨rfl, hbel⟩
set_option maxRecDepth 20000 in
theorem bck_err_no {w : World} (e : Int) (L : List UInt8) (hL : erL e = L) (h0 : L = []) :
    Calls Tryz.prog 7 #[.agg #[.int .i64 4, .int .i64 0, .int .i64 0, .string ⟨#[]⟩, .bool false, .int .i64 e]] w fun x w' => x = .returned (.int .i64 1) ∧ Below w.heap.size w w' := by
  have HC : Hid (∀ W : World, Calls Tryz.prog 30 #[.int .i64 e] W fun x w' => x = .returned (sL L) ∧ w' = W) := Lib.hid (fun W => by
    have := bErrText_any (w := W) e
    rw [hL] at this
    exact this)
  unfold sL at HC
  subst h0
  clear hL
  have HB := Lib.hid (sb1 w 29 #[.int .i64 4, .int .i64 0, .int .i64 0, .string ⟨#[]⟩, .bool false, .int .i64 e])
  go_enter Tryz.func7, Tryz.ntmps7
  go_wp2_with fail
  refine (HC.out _ ).mono ?_
  rintro x w1 ⟨rfl, rfl⟩
  have hbel := HB.out.bel
  clear HB HC
  go_wp2
  go_ret
  exact ⟨rfl, hbel⟩
theorem checkVal_any {w : World} (k m s : Int) (t : ByteArray) (b : Bool) (e : Int) (ht : t.size ≤ 10000000) :
    Calls Tryz.prog 7 #[.agg #[.int .i64 k, .int .i64 m, .int .i64 s, .string t, .bool b, .int .i64 e]] w fun x w' => x = .returned (.int .i64 (ckV k m s t b e)) ∧ Below w.heap.size w w' := by
  unfold ckV
  by_cases h1 : k = 1
  · subst h1
    rw [if_pos rfl]
    by_cases hh : t.toList = [] ∧ b = false ∧ e = 0
    · rw [if_pos hh]
      obtain ⟨h0, rfl, rfl⟩ := hh
      rw [empty_text h0]
      exact bck_num m s
    · rw [if_neg hh]
      by_cases q1 : t.toList = []
      · rw [empty_text q1]
        cases b with
        | true => exact bck1_b m s e
        | false => exact bck1_e m s e (fun h => hh ⟨q1, rfl, h⟩)
      · exact bck1_t m s t b e q1
  rw [if_neg h1]
  by_cases h2 : k = 2
  · subst h2
    rw [if_pos rfl]
    by_cases hh : m = 0 ∧ s = 0 ∧ b = false ∧ e = 0
    · rw [if_pos hh]
      obtain ⟨rfl, rfl, rfl, rfl⟩ := hh
      exact bck_str t ht
    · rw [if_neg hh]
      by_cases q1 : m = 0
      · subst q1
        by_cases q2 : s = 0
        · subst q2
          cases b with
          | true => exact bck2_b t e
          | false => exact bck2_e t e (fun h => hh ⟨rfl, rfl, rfl, h⟩)
        · exact bck2_s s t b e q2
      · exact bck2_m m s t b e q1
  rw [if_neg h2]
  by_cases h3 : k = 3
  · subst h3
    rw [if_pos rfl]
    by_cases hh : m = 0 ∧ s = 0 ∧ t.toList = [] ∧ e = 0
    · rw [if_pos hh]
      obtain ⟨rfl, rfl, h0, rfl⟩ := hh
      rw [empty_text h0]
      cases b
      · exact bck_false
      · exact bck_true
    · rw [if_neg hh]
      by_cases q1 : m = 0
      · subst q1
        by_cases q2 : s = 0
        · subst q2
          by_cases q3 : t.toList = []
          · rw [empty_text q3]
            exact bck3_e b e (fun h => hh ⟨rfl, rfl, q3, h⟩)
          · exact bck3_t t b e q3
        · exact bck3_s s t b e q2
      · exact bck3_m m s t b e q1
  rw [if_neg h3]
  by_cases h4 : k = 4
  · subst h4
    rw [if_pos rfl]
    by_cases hh : m = 0 ∧ s = 0 ∧ t.toList = [] ∧ b = false
    · rw [if_pos hh]
      obtain ⟨rfl, rfl, h0, rfl⟩ := hh
      rw [empty_text h0]
      by_cases h : e = 0 ∨ e = 7 ∨ e = 15 ∨ e = 23 ∨ e = 29 ∨ e = 36 ∨ e = 42
      · unfold feE
        rw [if_pos h]
        exact bck_err_yes e _ rfl fun h' => (erL_none e).1 h' h
      · unfold feE
        rw [if_neg h]
        exact bck_err_no e _ rfl ((erL_none e).2 h)
    · rw [if_neg hh]
      by_cases q1 : m = 0
      · subst q1
        by_cases q2 : s = 0
        · subst q2
          by_cases q3 : t.toList = []
          · rw [empty_text q3]
            cases b with
            | true => exact bck4_b e
            | false => exact absurd ⟨rfl, rfl, q3, rfl⟩ hh
          · exact bck4_t t b e q3
        · exact bck4_s s t b e q2
      · exact bck4_m m s t b e q1
  rw [if_neg h4]
  by_cases h0 : k = 0
  · subst h0
    rw [if_pos rfl]
    by_cases hh : m = 0 ∧ s = 0 ∧ t.toList = [] ∧ b = false ∧ e = 0
    · rw [if_pos hh]
      obtain ⟨rfl, rfl, h0, rfl, rfl⟩ := hh
      rw [empty_text h0]
      exact bck_blank
    · rw [if_neg hh]
      by_cases q1 : m = 0
      · subst q1
        by_cases q2 : s = 0
        · subst q2
          by_cases q3 : t.toList = []
          · rw [empty_text q3]
            cases b with
            | true => exact bck0_b e
            | false => exact bck0_e e (fun h => hh ⟨rfl, rfl, q3, rfl, h⟩)
          · exact bck0_t t b e q3
        · exact bck0_s s t b e q2
      · exact bck0_m m s t b e q1
  rw [if_neg h0]
  by_cases hl : k < 0
  · exact bck_low k m s t b e hl
  · exact bck_high k m s t b e (by omega)
end Go.Proofs.YtmbjmgmnicacpaaGreatDoor
