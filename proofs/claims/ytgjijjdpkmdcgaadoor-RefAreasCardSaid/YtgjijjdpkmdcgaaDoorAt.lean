/- ref.At, ref.Rel, by their contracts. No condition. -/
import Derived.Test.YtgjijjdpkmdcgaaDoorGd
namespace Go.Proofs.YtgjijjdpkmdcgaaDoor
open Go.RowKit

theorem forth_b {w : World} (n b : Int) (rel : Bool) (m : Int) (hm : 0 < m) (hM : m ≤ 65536) :
    Calls Tryd.prog 33 #[.int .i64 n, .int .i64 b, .bool rel, .int .i64 m] w fun e w' => e = .returned (.int .i64 (fo n b rel m)) ∧ Below w.heap.size w w' :=
  (forth_any n b rel m hm hM).mono fun _ _ ⟨h1, h2⟩ => ⟨h1, h2 ▸ Below.refl _ _⟩
theorem back_b {w : World} (n b : Int) (rel : Bool) (m : Int) (hm : 0 < m) (hM : m ≤ 65536) :
    Calls Tryd.prog 35 #[.int .i64 n, .int .i64 b, .bool rel, .int .i64 m] w fun e w' => e = .returned (.int .i64 (ba n b rel m)) ∧ Below w.heap.size w w' :=
  (back_any n b rel m hm hM).mono fun _ _ ⟨h1, h2⟩ => ⟨h1, h2 ▸ Below.refl _ _⟩
theorem mod_b {w : World} (n m : Int) (hm : 0 < m) (hM : m ≤ 65536) :
    Calls Tryd.prog 34 #[.int .i64 n, .int .i64 m] w fun e w' => e = .returned (.int .i64 (n % m)) ∧ Below w.heap.size w w' :=
  (mod_any n m hm hM).mono fun _ _ ⟨h1, h2⟩ => ⟨h1, h2 ▸ Below.refl _ _⟩

set_option maxRecDepth 20000 in
set_option maxHeartbeats 2000000 in
theorem at_any {w : World} (r c b d : Int) (x y : Bool) :
    Calls Tryd.prog 16 #[.agg #[.int .i64 r, .int .i64 c, .bool x, .bool y], .agg #[.int .i64 b, .int .i64 d]] w fun e w' => e = .returned (.agg #[.int .i64 (fo r b x 65536), .int .i64 (fo c d y 256)]) ∧ Below w.heap.size w w' := by
  have HB : Hid (SB w 3 ([(w.heap.size + 1 + 1, 25, #[.int .i64 0, .int .i64 0]), (w.heap.size + 1, 25, #[.int .i64 b, .int .i64 d]), (w.heap.size, 23, #[.int .i64 r, .int .i64 c, .bool x, .bool y])] : List (Nat × TypeId × Array Value)) (((w.alloc (.cells #[.int .i64 r, .int .i64 c, .bool x, .bool y] 23)).alloc (.cells #[.int .i64 b, .int .i64 d] 25)).alloc (.cells #[.int .i64 0, .int .i64 0] 25))) := Lib.hid (((sb1 w 23 #[.int .i64 r, .int .i64 c, .bool x, .bool y]).push (by simp) 25 #[.int .i64 b, .int .i64 d]).push (by simp) 25 #[.int .i64 0, .int .i64 0])
  go_enter Tryd.func16, Tryd.ntmps16
  go_wp2_with fail
  refine wp_region_phases (S := (fun vals W => SX w 3 ([.put 0 #[.int .i64 (fo r b x 65536), .int .i64 (fo c d y 256)]] : List Stp) vals ([(w.heap.size + 1 + 1, 25, #[.int .i64 0, .int .i64 0]), (w.heap.size + 1, 25, #[.int .i64 b, .int .i64 d]), (w.heap.size, 23, #[.int .i64 r, .int .i64 c, .bool x, .bool y])] : List (Nat × TypeId × Array Value)) W)) (E := (fun _ _ => True)) [15] [(2, Is (.pointer (some ⟨w.heap.size, 0, none⟩))), (3, Is (.pointer (some ⟨w.heap.size + 1, 0, none⟩))), (4, Is (.pointer (some ⟨w.heap.size + 1 + 1, 0, none⟩)))] [(5, Is (.pointer (some ⟨w.heap.size, 0, none⟩))), (6, Is (.int .i64 r)), (7, Is (.pointer (some ⟨w.heap.size + 1, 0, none⟩))), (8, Is (.int .i64 b)), (9, Is (.pointer (some ⟨w.heap.size, 2, none⟩))), (10, Is (.bool x)), (11, Is (.int .i64 (fo r b x 65536))), (12, Is (.pointer (some ⟨w.heap.size, 1, none⟩))), (13, Is (.int .i64 c)), (14, Is (.pointer (some ⟨w.heap.size + 1, 1, none⟩))), (15, Is (.int .i64 d)), (16, Is (.pointer (some ⟨w.heap.size, 3, none⟩))), (17, Is (.bool y)), (18, Is (.int .i64 (fo c d y 256))), (19, Is (.agg #[.int .i64 (fo r b x 65536), .int .i64 (fo c d y 256)]))]
    [.op [2] none, .op [5] none, .op [3] none, .op [7] none, .op [2] none, .op [9] none, .op [6, 8, 10] none, .op [2] none, .op [12] none, .op [3] none, .op [14] none, .op [2] none, .op [16] none, .op [13, 15, 17] none, .op [11, 18] none, .phase 0 [4, 19] []] (by as_aux_lemma => kernel_rfl) ?_ ?_ ?_ ?_ ?_ ⟨stable_is _ _, stable_is _ _, stable_is _ _, stable_is _ _, stable_is _ _, stable_is _ _, stable_is _ _, stable_is _ _, stable_is _ _, stable_is _ _, stable_is _ _, stable_is _ _, stable_is _ _, stable_is _ _, stable_is _ _, stable_is _ _, stable_is _ _, stable_is _ _, trivial⟩ ?_ (HB.out.drew) ?_ ?_
  · as_aux_lemma => kernel_rfl
  · as_aux_lemma => kernel_rfl
  · as_aux_lemma => kernel_rfl
  · as_aux_lemma => kernel_rfl
  · as_aux_lemma => kernel_rfl
  · exact ⟨rfl, rfl, rfl, trivial⟩
  · refine ⟨?_, ?_, ?_, ?_, ?_, ?_, ?_, ?_, ?_, ?_, ?_, ?_, ?_, ?_, ?_, ?_, trivial⟩
    · as_aux_lemma =>
        intro vals a W hS hL
        have e2 : a.tmps.getD 2 undef = .pointer (some ⟨w.heap.size, 0, none⟩) := hL.1
        clear hL
        go_simp
        exact ⟨⟨fun d hd => by injection hd with hd; subst hd; rfl, fun h => by cases h⟩, hS, trivial⟩
    · as_aux_lemma =>
        intro vals a W hS hL
        have e5 : a.tmps.getD 5 undef = .pointer (some ⟨w.heap.size, 0, none⟩) := hL.1
        clear hL
        have kb : Bk W (w.heap.size) 23 #[.int .i64 r, .int .i64 c, .bool x, .bool y] := hS.bk 2 rfl rfl
        have f0 := kb.cell 0
        clear kb
        go_simp
        exact ⟨⟨fun d hd => by injection hd with hd; subst hd; rfl, fun h => by cases h⟩, hS, trivial⟩
    · as_aux_lemma =>
        intro vals a W hS hL
        have e3 : a.tmps.getD 3 undef = .pointer (some ⟨w.heap.size + 1, 0, none⟩) := hL.1
        clear hL
        go_simp
        exact ⟨⟨fun d hd => by injection hd with hd; subst hd; rfl, fun h => by cases h⟩, hS, trivial⟩
    · as_aux_lemma =>
        intro vals a W hS hL
        have e7 : a.tmps.getD 7 undef = .pointer (some ⟨w.heap.size + 1, 0, none⟩) := hL.1
        clear hL
        have kb : Bk W (w.heap.size + 1) 25 #[.int .i64 b, .int .i64 d] := hS.bk 1 rfl rfl
        have f0 := kb.cell 0
        clear kb
        go_simp
        exact ⟨⟨fun d hd => by injection hd with hd; subst hd; rfl, fun h => by cases h⟩, hS, trivial⟩
    · as_aux_lemma =>
        intro vals a W hS hL
        have e2 : a.tmps.getD 2 undef = .pointer (some ⟨w.heap.size, 0, none⟩) := hL.1
        clear hL
        go_simp
        exact ⟨⟨fun d hd => by injection hd with hd; subst hd; rfl, fun h => by cases h⟩, hS, trivial⟩
    · as_aux_lemma =>
        intro vals a W hS hL
        have e9 : a.tmps.getD 9 undef = .pointer (some ⟨w.heap.size, 2, none⟩) := hL.1
        clear hL
        have kb : Bk W (w.heap.size) 23 #[.int .i64 r, .int .i64 c, .bool x, .bool y] := hS.bk 2 rfl rfl
        have f2 := kb.cell 2
        clear kb
        go_simp
        exact ⟨⟨fun d hd => by injection hd with hd; subst hd; rfl, fun h => by cases h⟩, hS, trivial⟩
    · as_aux_lemma =>
        intro vals a W hS hL
        have e6 : a.tmps.getD 6 undef = .int .i64 r := hL.1
        have e8 : a.tmps.getD 8 undef = .int .i64 b := hL.2.1
        have e10 : a.tmps.getD 10 undef = .bool x := hL.2.2.1
        clear hL
        go_simp
        refine (forth_b r b x 65536 (by decide) (by decide)).mono ?_
        rintro e W' ⟨rfl, hb⟩
        exact ⟨_, rfl, ⟨fun d hd => by injection hd with hd; subst hd; rfl, fun h => by cases h⟩, hS.call hb, trivial⟩
    · as_aux_lemma =>
        intro vals a W hS hL
        have e2 : a.tmps.getD 2 undef = .pointer (some ⟨w.heap.size, 0, none⟩) := hL.1
        clear hL
        go_simp
        exact ⟨⟨fun d hd => by injection hd with hd; subst hd; rfl, fun h => by cases h⟩, hS, trivial⟩
    · as_aux_lemma =>
        intro vals a W hS hL
        have e12 : a.tmps.getD 12 undef = .pointer (some ⟨w.heap.size, 1, none⟩) := hL.1
        clear hL
        have kb : Bk W (w.heap.size) 23 #[.int .i64 r, .int .i64 c, .bool x, .bool y] := hS.bk 2 rfl rfl
        have f1 := kb.cell 1
        clear kb
        go_simp
        exact ⟨⟨fun d hd => by injection hd with hd; subst hd; rfl, fun h => by cases h⟩, hS, trivial⟩
    · as_aux_lemma =>
        intro vals a W hS hL
        have e3 : a.tmps.getD 3 undef = .pointer (some ⟨w.heap.size + 1, 0, none⟩) := hL.1
        clear hL
        go_simp
        exact ⟨⟨fun d hd => by injection hd with hd; subst hd; rfl, fun h => by cases h⟩, hS, trivial⟩
    · as_aux_lemma =>
        intro vals a W hS hL
        have e14 : a.tmps.getD 14 undef = .pointer (some ⟨w.heap.size + 1, 1, none⟩) := hL.1
        clear hL
        have kb : Bk W (w.heap.size + 1) 25 #[.int .i64 b, .int .i64 d] := hS.bk 1 rfl rfl
        have f1 := kb.cell 1
        clear kb
        go_simp
        exact ⟨⟨fun d hd => by injection hd with hd; subst hd; rfl, fun h => by cases h⟩, hS, trivial⟩
    · as_aux_lemma =>
        intro vals a W hS hL
        have e2 : a.tmps.getD 2 undef = .pointer (some ⟨w.heap.size, 0, none⟩) := hL.1
        clear hL
        go_simp
        exact ⟨⟨fun d hd => by injection hd with hd; subst hd; rfl, fun h => by cases h⟩, hS, trivial⟩
    · as_aux_lemma =>
        intro vals a W hS hL
        have e16 : a.tmps.getD 16 undef = .pointer (some ⟨w.heap.size, 3, none⟩) := hL.1
        clear hL
        have kb : Bk W (w.heap.size) 23 #[.int .i64 r, .int .i64 c, .bool x, .bool y] := hS.bk 2 rfl rfl
        have f3 := kb.cell 3
        clear kb
        go_simp
        exact ⟨⟨fun d hd => by injection hd with hd; subst hd; rfl, fun h => by cases h⟩, hS, trivial⟩
    · as_aux_lemma =>
        intro vals a W hS hL
        have e13 : a.tmps.getD 13 undef = .int .i64 c := hL.1
        have e15 : a.tmps.getD 15 undef = .int .i64 d := hL.2.1
        have e17 : a.tmps.getD 17 undef = .bool y := hL.2.2.1
        clear hL
        go_simp
        refine (forth_b c d y 256 (by decide) (by decide)).mono ?_
        rintro e W' ⟨rfl, hb⟩
        exact ⟨_, rfl, ⟨fun d hd => by injection hd with hd; subst hd; rfl, fun h => by cases h⟩, hS.call hb, trivial⟩
    · as_aux_lemma =>
        intro vals a W hS hL
        have e11 : a.tmps.getD 11 undef = .int .i64 (fo r b x 65536) := hL.1
        have e18 : a.tmps.getD 18 undef = .int .i64 (fo c d y 256) := hL.2.1
        clear hL
        rw [Array.getD_eq_getD_getElem?] at e11 e18
        go_simp
        exact ⟨⟨fun d hd => by injection hd with hd; subst hd; rfl, fun h => by cases h⟩, hS, trivial⟩
    · as_aux_lemma =>
        intro a W vals hv hS hL hp
        have e4 : a.tmps.getD 4 undef = .pointer (some ⟨w.heap.size + 1 + 1, 0, none⟩) := hL.1
        have e19 : a.tmps.getD 19 undef = .agg #[.int .i64 (fo r b x 65536), .int .i64 (fo c d y 256)] := hL.2.1
        clear hL
        match vals, hv, hS with
        | [], _, hS =>
          have hS2 : SX w 3 ([.put 0 #[.int .i64 (fo r b x 65536), .int .i64 (fo c d y 256)]] : List Stp) [] ([(w.heap.size + 1 + 1, 25, #[.int .i64 0, .int .i64 0]), (w.heap.size + 1, 25, #[.int .i64 b, .int .i64 d]), (w.heap.size, 23, #[.int .i64 r, .int .i64 c, .bool x, .bool y])] : List (Nat × TypeId × Array Value)) W := hS
          clear hS
          have hB0 := hS2
          have hB : SB w 3 ([(w.heap.size + 1 + 1, 25, #[.int .i64 0, .int .i64 0]), (w.heap.size + 1, 25, #[.int .i64 b, .int .i64 d]), (w.heap.size, 23, #[.int .i64 r, .int .i64 c, .bool x, .bool y])] : List (Nat × TypeId × Array Value)) W := hB0
          clear hB0
          rw [Array.getD_eq_getD_getElem?] at e19
          have kz := hB.box (i := 0) rfl
          have z0 := kz.frozen 0
          have q0 := kz.cell 0
          have z1 := kz.frozen 1
          have q1 := kz.cell 1
          have hge : w.heap.size ≤ (w.heap.size + 1 + 1) := by omega
          have hne : ∀ qx ∈ butBox ([(w.heap.size + 1 + 1, 25, #[.int .i64 0, .int .i64 0]), (w.heap.size + 1, 25, #[.int .i64 b, .int .i64 d]), (w.heap.size, 23, #[.int .i64 r, .int .i64 c, .bool x, .bool y])] : List (Nat × TypeId × Array Value)) 0, qx.1 ≠ (w.heap.size + 1 + 1) := by simp [butBox] <;> omega
          have hF := hB.put2 (i := 0) rfl hge hne (.int .i64 (fo r b x 65536) : Value) (.int .i64 (fo c d y 256) : Value)
          clear kz hB hne hge
          go_simp
          exact ⟨hF, trivial, trivial⟩
  · intro a W' vals hd hsz hT hF hv hP hS
    obtain ⟨v0, rfl⟩ : ∃ v0, vals = [v0] := by
      match vals, hv with
      | [v0], _ => exact ⟨v0, rfl⟩
    have hS2 : SX w 3 ([.put 0 #[.int .i64 (fo r b x 65536), .int .i64 (fo c d y 256)]] : List Stp) [v0] ([(w.heap.size + 1 + 1, 25, #[.int .i64 0, .int .i64 0]), (w.heap.size + 1, 25, #[.int .i64 b, .int .i64 d]), (w.heap.size, 23, #[.int .i64 r, .int .i64 c, .bool x, .bool y])] : List (Nat × TypeId × Array Value)) W' := hS
    clear hS
    have hB0 := hS2
    have hB : SB w 3 ([(w.heap.size + 1 + 1, 25, #[.int .i64 (fo r b x 65536), .int .i64 (fo c d y 256)]), (w.heap.size + 1, 25, #[.int .i64 b, .int .i64 d]), (w.heap.size, 23, #[.int .i64 r, .int .i64 c, .bool x, .bool y])] : List (Nat × TypeId × Array Value)) W' := hB0
    clear hB0
    have kz0 := hB.box (i := 0) rfl
    have r0_0 := kz0.cell 0
    have r0_1 := kz0.cell 1
    clear kz0
    have e4 : a.tmps.getD 4 undef = .pointer (some ⟨w.heap.size + 1 + 1, 0, none⟩) := hT 4 (by simp)
    clear hT hF hP
    go_wp2
    refine bodyPost_ret (v := .agg #[.int .i64 (fo r b x 65536), .int .i64 (fo c d y 256)]) ?_ hd ⟨rfl, hB.bel⟩
    rw [Array.getD_eq_getD_getElem?] at e4
    simp [results, Tryd.results16, go_sem, e4, r0_0, r0_1]

set_option maxRecDepth 20000 in
set_option maxHeartbeats 2000000 in
theorem rel_any {w : World} (r c b d : Int) (x y : Bool) :
    Calls Tryd.prog 18 #[.agg #[.int .i64 r, .int .i64 c], .agg #[.int .i64 b, .int .i64 d], .bool x, .bool y] w fun e w' => e = .returned (.agg #[.int .i64 (ba r b x 65536), .int .i64 (ba c d y 256), .bool x, .bool y]) ∧ Below w.heap.size w w' := by
  have HB : Hid (SB w 3 ([(w.heap.size + 1 + 1, 23, #[.int .i64 0, .int .i64 0, .bool false, .bool false]), (w.heap.size + 1, 25, #[.int .i64 b, .int .i64 d]), (w.heap.size, 25, #[.int .i64 r, .int .i64 c])] : List (Nat × TypeId × Array Value)) (((w.alloc (.cells #[.int .i64 r, .int .i64 c] 25)).alloc (.cells #[.int .i64 b, .int .i64 d] 25)).alloc (.cells #[.int .i64 0, .int .i64 0, .bool false, .bool false] 23))) := Lib.hid (((sb1 w 25 #[.int .i64 r, .int .i64 c]).push (by simp) 25 #[.int .i64 b, .int .i64 d]).push (by simp) 23 #[.int .i64 0, .int .i64 0, .bool false, .bool false])
  go_enter Tryd.func18, Tryd.ntmps18
  go_wp2_with fail
  refine wp_region_phases (S := (fun vals W => SX w 3 ([.put 0 #[.int .i64 (ba r b x 65536), .int .i64 (ba c d y 256), .bool x, .bool y]] : List Stp) vals ([(w.heap.size + 1 + 1, 23, #[.int .i64 0, .int .i64 0, .bool false, .bool false]), (w.heap.size + 1, 25, #[.int .i64 b, .int .i64 d]), (w.heap.size, 25, #[.int .i64 r, .int .i64 c])] : List (Nat × TypeId × Array Value)) W)) (E := (fun _ _ => True)) [15] [(2, Is (.bool x)), (3, Is (.bool y)), (4, Is (.pointer (some ⟨w.heap.size, 0, none⟩))), (5, Is (.pointer (some ⟨w.heap.size + 1, 0, none⟩))), (8, Is (.pointer (some ⟨w.heap.size + 1 + 1, 0, none⟩)))] [(9, Is (.pointer (some ⟨w.heap.size, 0, none⟩))), (10, Is (.int .i64 r)), (11, Is (.pointer (some ⟨w.heap.size + 1, 0, none⟩))), (12, Is (.int .i64 b)), (13, Is (.bool x)), (14, Is (.int .i64 (ba r b x 65536))), (15, Is (.pointer (some ⟨w.heap.size, 1, none⟩))), (16, Is (.int .i64 c)), (17, Is (.pointer (some ⟨w.heap.size + 1, 1, none⟩))), (18, Is (.int .i64 d)), (19, Is (.bool y)), (20, Is (.int .i64 (ba c d y 256))), (21, Is (.bool x)), (22, Is (.bool y)), (23, Is (.agg #[.int .i64 (ba r b x 65536), .int .i64 (ba c d y 256), .bool x, .bool y]))]
    [.op [4] none, .op [9] none, .op [5] none, .op [11] none, .op [2] none, .op [10, 12, 13] none, .op [4] none, .op [15] none, .op [5] none, .op [17] none, .op [3] none, .op [16, 18, 19] none, .op [2] none, .op [3] none, .op [14, 20, 21, 22] none, .phase 0 [8, 23] []] (by as_aux_lemma => kernel_rfl) ?_ ?_ ?_ ?_ ?_ ⟨stable_is _ _, stable_is _ _, stable_is _ _, stable_is _ _, stable_is _ _, stable_is _ _, stable_is _ _, stable_is _ _, stable_is _ _, stable_is _ _, stable_is _ _, stable_is _ _, stable_is _ _, stable_is _ _, stable_is _ _, stable_is _ _, stable_is _ _, stable_is _ _, stable_is _ _, stable_is _ _, trivial⟩ ?_ (HB.out.drew) ?_ ?_
  · as_aux_lemma => kernel_rfl
  · as_aux_lemma => kernel_rfl
  · as_aux_lemma => kernel_rfl
  · as_aux_lemma => kernel_rfl
  · as_aux_lemma => kernel_rfl
  · exact ⟨rfl, rfl, rfl, rfl, rfl, trivial⟩
  · refine ⟨?_, ?_, ?_, ?_, ?_, ?_, ?_, ?_, ?_, ?_, ?_, ?_, ?_, ?_, ?_, ?_, trivial⟩
    · as_aux_lemma =>
        intro vals a W hS hL
        have e4 : a.tmps.getD 4 undef = .pointer (some ⟨w.heap.size, 0, none⟩) := hL.1
        clear hL
        go_simp
        exact ⟨⟨fun d hd => by injection hd with hd; subst hd; rfl, fun h => by cases h⟩, hS, trivial⟩
    · as_aux_lemma =>
        intro vals a W hS hL
        have e9 : a.tmps.getD 9 undef = .pointer (some ⟨w.heap.size, 0, none⟩) := hL.1
        clear hL
        have kb : Bk W (w.heap.size) 25 #[.int .i64 r, .int .i64 c] := hS.bk 2 rfl rfl
        have f0 := kb.cell 0
        clear kb
        go_simp
        exact ⟨⟨fun d hd => by injection hd with hd; subst hd; rfl, fun h => by cases h⟩, hS, trivial⟩
    · as_aux_lemma =>
        intro vals a W hS hL
        have e5 : a.tmps.getD 5 undef = .pointer (some ⟨w.heap.size + 1, 0, none⟩) := hL.1
        clear hL
        go_simp
        exact ⟨⟨fun d hd => by injection hd with hd; subst hd; rfl, fun h => by cases h⟩, hS, trivial⟩
    · as_aux_lemma =>
        intro vals a W hS hL
        have e11 : a.tmps.getD 11 undef = .pointer (some ⟨w.heap.size + 1, 0, none⟩) := hL.1
        clear hL
        have kb : Bk W (w.heap.size + 1) 25 #[.int .i64 b, .int .i64 d] := hS.bk 1 rfl rfl
        have f0 := kb.cell 0
        clear kb
        go_simp
        exact ⟨⟨fun d hd => by injection hd with hd; subst hd; rfl, fun h => by cases h⟩, hS, trivial⟩
    · as_aux_lemma =>
        intro vals a W hS hL
        have e2 : a.tmps.getD 2 undef = .bool x := hL.1
        clear hL
        go_simp
        exact ⟨⟨fun d hd => by injection hd with hd; subst hd; rfl, fun h => by cases h⟩, hS, trivial⟩
    · as_aux_lemma =>
        intro vals a W hS hL
        have e10 : a.tmps.getD 10 undef = .int .i64 r := hL.1
        have e12 : a.tmps.getD 12 undef = .int .i64 b := hL.2.1
        have e13 : a.tmps.getD 13 undef = .bool x := hL.2.2.1
        clear hL
        go_simp
        refine (back_b r b x 65536 (by decide) (by decide)).mono ?_
        rintro e W' ⟨rfl, hb⟩
        exact ⟨_, rfl, ⟨fun d hd => by injection hd with hd; subst hd; rfl, fun h => by cases h⟩, hS.call hb, trivial⟩
    · as_aux_lemma =>
        intro vals a W hS hL
        have e4 : a.tmps.getD 4 undef = .pointer (some ⟨w.heap.size, 0, none⟩) := hL.1
        clear hL
        go_simp
        exact ⟨⟨fun d hd => by injection hd with hd; subst hd; rfl, fun h => by cases h⟩, hS, trivial⟩
    · as_aux_lemma =>
        intro vals a W hS hL
        have e15 : a.tmps.getD 15 undef = .pointer (some ⟨w.heap.size, 1, none⟩) := hL.1
        clear hL
        have kb : Bk W (w.heap.size) 25 #[.int .i64 r, .int .i64 c] := hS.bk 2 rfl rfl
        have f1 := kb.cell 1
        clear kb
        go_simp
        exact ⟨⟨fun d hd => by injection hd with hd; subst hd; rfl, fun h => by cases h⟩, hS, trivial⟩
    · as_aux_lemma =>
        intro vals a W hS hL
        have e5 : a.tmps.getD 5 undef = .pointer (some ⟨w.heap.size + 1, 0, none⟩) := hL.1
        clear hL
        go_simp
        exact ⟨⟨fun d hd => by injection hd with hd; subst hd; rfl, fun h => by cases h⟩, hS, trivial⟩
    · as_aux_lemma =>
        intro vals a W hS hL
        have e17 : a.tmps.getD 17 undef = .pointer (some ⟨w.heap.size + 1, 1, none⟩) := hL.1
        clear hL
        have kb : Bk W (w.heap.size + 1) 25 #[.int .i64 b, .int .i64 d] := hS.bk 1 rfl rfl
        have f1 := kb.cell 1
        clear kb
        go_simp
        exact ⟨⟨fun d hd => by injection hd with hd; subst hd; rfl, fun h => by cases h⟩, hS, trivial⟩
    · as_aux_lemma =>
        intro vals a W hS hL
        have e3 : a.tmps.getD 3 undef = .bool y := hL.1
        clear hL
        go_simp
        exact ⟨⟨fun d hd => by injection hd with hd; subst hd; rfl, fun h => by cases h⟩, hS, trivial⟩
    · as_aux_lemma =>
        intro vals a W hS hL
        have e16 : a.tmps.getD 16 undef = .int .i64 c := hL.1
        have e18 : a.tmps.getD 18 undef = .int .i64 d := hL.2.1
        have e19 : a.tmps.getD 19 undef = .bool y := hL.2.2.1
        clear hL
        go_simp
        refine (back_b c d y 256 (by decide) (by decide)).mono ?_
        rintro e W' ⟨rfl, hb⟩
        exact ⟨_, rfl, ⟨fun d hd => by injection hd with hd; subst hd; rfl, fun h => by cases h⟩, hS.call hb, trivial⟩
    · as_aux_lemma =>
        intro vals a W hS hL
        have e2 : a.tmps.getD 2 undef = .bool x := hL.1
        clear hL
        go_simp
        exact ⟨⟨fun d hd => by injection hd with hd; subst hd; rfl, fun h => by cases h⟩, hS, trivial⟩
    · as_aux_lemma =>
        intro vals a W hS hL
        have e3 : a.tmps.getD 3 undef = .bool y := hL.1
        clear hL
        go_simp
        exact ⟨⟨fun d hd => by injection hd with hd; subst hd; rfl, fun h => by cases h⟩, hS, trivial⟩
    · as_aux_lemma =>
        intro vals a W hS hL
        have e14 : a.tmps.getD 14 undef = .int .i64 (ba r b x 65536) := hL.1
        have e20 : a.tmps.getD 20 undef = .int .i64 (ba c d y 256) := hL.2.1
        have e21 : a.tmps.getD 21 undef = .bool x := hL.2.2.1
        have e22 : a.tmps.getD 22 undef = .bool y := hL.2.2.2.1
        clear hL
        rw [Array.getD_eq_getD_getElem?] at e14 e20 e21 e22
        go_simp
        exact ⟨⟨fun d hd => by injection hd with hd; subst hd; rfl, fun h => by cases h⟩, hS, trivial⟩
    · as_aux_lemma =>
        intro a W vals hv hS hL hp
        have e8 : a.tmps.getD 8 undef = .pointer (some ⟨w.heap.size + 1 + 1, 0, none⟩) := hL.1
        have e23 : a.tmps.getD 23 undef = .agg #[.int .i64 (ba r b x 65536), .int .i64 (ba c d y 256), .bool x, .bool y] := hL.2.1
        clear hL
        match vals, hv, hS with
        | [], _, hS =>
          have hS2 : SX w 3 ([.put 0 #[.int .i64 (ba r b x 65536), .int .i64 (ba c d y 256), .bool x, .bool y]] : List Stp) [] ([(w.heap.size + 1 + 1, 23, #[.int .i64 0, .int .i64 0, .bool false, .bool false]), (w.heap.size + 1, 25, #[.int .i64 b, .int .i64 d]), (w.heap.size, 25, #[.int .i64 r, .int .i64 c])] : List (Nat × TypeId × Array Value)) W := hS
          clear hS
          have hB0 := hS2
          have hB : SB w 3 ([(w.heap.size + 1 + 1, 23, #[.int .i64 0, .int .i64 0, .bool false, .bool false]), (w.heap.size + 1, 25, #[.int .i64 b, .int .i64 d]), (w.heap.size, 25, #[.int .i64 r, .int .i64 c])] : List (Nat × TypeId × Array Value)) W := hB0
          clear hB0
          rw [Array.getD_eq_getD_getElem?] at e23
          have kz := hB.box (i := 0) rfl
          have z0 := kz.frozen 0
          have q0 := kz.cell 0
          have z1 := kz.frozen 1
          have q1 := kz.cell 1
          have z2 := kz.frozen 2
          have q2 := kz.cell 2
          have z3 := kz.frozen 3
          have q3 := kz.cell 3
          have hge : w.heap.size ≤ (w.heap.size + 1 + 1) := by omega
          have hne : ∀ qx ∈ butBox ([(w.heap.size + 1 + 1, 23, #[.int .i64 0, .int .i64 0, .bool false, .bool false]), (w.heap.size + 1, 25, #[.int .i64 b, .int .i64 d]), (w.heap.size, 25, #[.int .i64 r, .int .i64 c])] : List (Nat × TypeId × Array Value)) 0, qx.1 ≠ (w.heap.size + 1 + 1) := by simp [butBox] <;> omega
          have hF := hB.put4 (i := 0) rfl hge hne (.int .i64 (ba r b x 65536) : Value) (.int .i64 (ba c d y 256) : Value) (.bool x : Value) (.bool y : Value)
          clear kz hB hne hge
          go_simp
          exact ⟨hF, trivial, trivial⟩
  · intro a W' vals hd hsz hT hF hv hP hS
    obtain ⟨v0, rfl⟩ : ∃ v0, vals = [v0] := by
      match vals, hv with
      | [v0], _ => exact ⟨v0, rfl⟩
    have hS2 : SX w 3 ([.put 0 #[.int .i64 (ba r b x 65536), .int .i64 (ba c d y 256), .bool x, .bool y]] : List Stp) [v0] ([(w.heap.size + 1 + 1, 23, #[.int .i64 0, .int .i64 0, .bool false, .bool false]), (w.heap.size + 1, 25, #[.int .i64 b, .int .i64 d]), (w.heap.size, 25, #[.int .i64 r, .int .i64 c])] : List (Nat × TypeId × Array Value)) W' := hS
    clear hS
    have hB0 := hS2
    have hB : SB w 3 ([(w.heap.size + 1 + 1, 23, #[.int .i64 (ba r b x 65536), .int .i64 (ba c d y 256), .bool x, .bool y]), (w.heap.size + 1, 25, #[.int .i64 b, .int .i64 d]), (w.heap.size, 25, #[.int .i64 r, .int .i64 c])] : List (Nat × TypeId × Array Value)) W' := hB0
    clear hB0
    have kz0 := hB.box (i := 0) rfl
    have r0_0 := kz0.cell 0
    have r0_1 := kz0.cell 1
    have r0_2 := kz0.cell 2
    have r0_3 := kz0.cell 3
    clear kz0
    have e8 : a.tmps.getD 8 undef = .pointer (some ⟨w.heap.size + 1 + 1, 0, none⟩) := hT 8 (by simp)
    clear hT hF hP
    go_wp2
    refine bodyPost_ret (v := .agg #[.int .i64 (ba r b x 65536), .int .i64 (ba c d y 256), .bool x, .bool y]) ?_ hd ⟨rfl, hB.bel⟩
    rw [Array.getD_eq_getD_getElem?] at e8
    simp [results, Tryd.results18, go_sem, e8, r0_0, r0_1, r0_2, r0_3]

end Go.Proofs.YtgjijjdpkmdcgaaDoor
