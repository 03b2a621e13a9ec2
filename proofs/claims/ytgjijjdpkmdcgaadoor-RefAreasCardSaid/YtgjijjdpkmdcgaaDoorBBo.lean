/- The reference's Bounds, Size, by their contracts. No condition. -/
import Derived.Test.YtgjijjdpkmdcgaaDoorBo
namespace Go.Proofs.YtgjijjdpkmdcgaaDoor
open Go.RowKit

set_option maxRecDepth 20000 in
set_option maxHeartbeats 2000000 in
theorem bBounds_TrueTrue {w : World} (r1 c1 r2 c2 b d : Int) (x1 y1 x2 y2 : Bool) (h1 : fo r2 b x2 65536 < fo r1 b x1 65536) (h2 : fo c2 d y2 256 < fo c1 d y1 256) :
    Calls Tryd.prog 21 #[.agg #[.int .i64 r1, .int .i64 c1, .bool x1, .bool y1, .int .i64 r2, .int .i64 c2, .bool x2, .bool y2], .agg #[.int .i64 b, .int .i64 d]] w fun e w' => e = .returned (boV r1 c1 r2 c2 b d x1 y1 x2 y2) ∧ Below w.heap.size w w' := by
  have H1 := Lib.hid (fun W : World => bAt_any (w := W) r1 c1 b d x1 y1)
  have H2 := Lib.hid (fun W : World => bAt_any (w := W) r2 c2 b d x2 y2)
  unfold boV
  generalize fo r1 b x1 65536 = p at *
  generalize fo c1 d y1 256 = q at *
  generalize fo r2 b x2 65536 = p2 at *
  generalize fo c2 d y2 256 = q2 at *
  have HV := Lib.hid (show mnI p p2 = p2 ∧ mnI q q2 = q2 ∧ mxI p p2 = p ∧ mxI q q2 = q by unfold mnI mxI; refine ⟨?_, ?_, ?_, ?_⟩ <;> split <;> omega)
  obtain ⟨v1, v2, v3, v4⟩ := HV.out
  rw [v1, v2, v3, v4]
  clear HV v1 v2 v3 v4
  have HB : Hid (SB w 4 ([(w.heap.size + 1 + 1 + 1, 34, #[.int .i64 0, .int .i64 0]), (w.heap.size + 1 + 1, 34, #[.int .i64 0, .int .i64 0]), (w.heap.size + 1, 34, #[.int .i64 b, .int .i64 d]), (w.heap.size, 48, #[.int .i64 r1, .int .i64 c1, .bool x1, .bool y1, .int .i64 r2, .int .i64 c2, .bool x2, .bool y2])] : List (Nat × TypeId × Array Value)) ((((w.alloc (.cells #[.int .i64 r1, .int .i64 c1, .bool x1, .bool y1, .int .i64 r2, .int .i64 c2, .bool x2, .bool y2] 48)).alloc (.cells #[.int .i64 b, .int .i64 d] 34)).alloc (.cells #[.int .i64 0, .int .i64 0] 34)).alloc (.cells #[.int .i64 0, .int .i64 0] 34))) := Lib.hid ((((sb1 w 48 #[.int .i64 r1, .int .i64 c1, .bool x1, .bool y1, .int .i64 r2, .int .i64 c2, .bool x2, .bool y2]).push (by simp) 34 #[.int .i64 b, .int .i64 d]).push (by simp) 34 #[.int .i64 0, .int .i64 0]).push (by simp) 34 #[.int .i64 0, .int .i64 0])
  go_enter Tryd.func21, Tryd.ntmps21
  go_wp2_with fail
  refine (H1.out _).mono ?_
  rintro e w1 ⟨rfl, hb⟩
  have hC := HB.out.call hb
  have g1 := hC.size
  have hB := hC.alloc 34 #[.int .i64 p, .int .i64 q]
  clear hb HB hC
  have HB := Lib.hid hB
  clear hB
  have kb := HB.out.box (i := 3) rfl
  have cb0 := kb.cell 0
  have cb1 := kb.cell 1
  clear kb
  have kr := HB.out.box (i := 4) rfl
  have cr0 := kr.cell 0
  have cr1 := kr.cell 1
  have cr2 := kr.cell 2
  have cr3 := kr.cell 3
  have cr4 := kr.cell 4
  have cr5 := kr.cell 5
  have cr6 := kr.cell 6
  have cr7 := kr.cell 7
  clear kr
  go_wp2_with fail
  refine (H2.out _).mono ?_
  rintro e w2 ⟨rfl, hb⟩
  clear cb0 cb1 cr0 cr1 cr2 cr3 cr4 cr5 cr6 cr7
  have hB := HB.out.call hb
  have g2 : w1.heap.size < w2.heap.size := by have := hb.size; simp at this; omega
  clear hb HB
  have HB := Lib.hid hB
  clear hB
  have kx := HB.out.box (i := 0) rfl
  have cx0 := kx.cell 0
  have zx0 := kx.frozen 0
  have cx1 := kx.cell 1
  have zx1 := kx.frozen 1
  clear kx
  clear H1 H2
  go_wp2_with fail
  clear cx0 zx0 cx1 zx1
  have hF0 := HB.out.put1 (g := w1.heap.size) (i := 0) rfl (by omega) (by simp [butBox]; omega) 0 (.int .i64 p2)
  have hF1 := hF0.put1 (g := w1.heap.size) (i := 0) rfl (by omega) (by simp [butBox, setBox]; omega) 1 (.int .i64 q2)
  have hs : ((w2.setCell ⟨w1.heap.size, 0, none⟩ (.int .i64 p2)).setCell ⟨w1.heap.size, 1, none⟩ (.int .i64 q2)).heap.size = w2.heap.size := by simp [World.setCell]
  have hG := hF1.alloc 34 #[.int .i64 p, .int .i64 q]
  rw [hs] at hG
  clear hs
  have hG2 : SB w 4 ([(w2.heap.size, 34, #[.int .i64 p, .int .i64 q]), (w1.heap.size, 34, #[.int .i64 p2, .int .i64 q2]), (w.heap.size + 1 + 1 + 1, 34, #[.int .i64 0, .int .i64 0]), (w.heap.size + 1 + 1, 34, #[.int .i64 0, .int .i64 0]), (w.heap.size + 1, 34, #[.int .i64 b, .int .i64 d]), (w.heap.size, 48, #[.int .i64 r1, .int .i64 c1, .bool x1, .bool y1, .int .i64 r2, .int .i64 c2, .bool x2, .bool y2])] : List (Nat × TypeId × Array Value)) (((w2.setCell ⟨w1.heap.size, 0, none⟩ (.int .i64 p2)).setCell ⟨w1.heap.size, 1, none⟩ (.int .i64 q2)).alloc (.cells #[.int .i64 p, .int .i64 q] 34)) := hG
  clear hG hF0 hF1 HB
  have HB := Lib.hid hG2
  clear hG2
  generalize (((w2.setCell ⟨w1.heap.size, 0, none⟩ (.int .i64 p2)).setCell ⟨w1.heap.size, 1, none⟩ (.int .i64 q2)).alloc (.cells #[.int .i64 p, .int .i64 q] 34)) = W3 at *
  refine wp_region_phases (S := (fun vals W => SX w 4 ([.put 3 #[.int .i64 p2, .int .i64 q2], .put 2 #[.int .i64 p, .int .i64 q]] : List Stp) vals ([(w2.heap.size, 34, #[.int .i64 p, .int .i64 q]), (w1.heap.size, 34, #[.int .i64 p2, .int .i64 q2]), (w.heap.size + 1 + 1 + 1, 34, #[.int .i64 0, .int .i64 0]), (w.heap.size + 1 + 1, 34, #[.int .i64 0, .int .i64 0]), (w.heap.size + 1, 34, #[.int .i64 b, .int .i64 d]), (w.heap.size, 48, #[.int .i64 r1, .int .i64 c1, .bool x1, .bool y1, .int .i64 r2, .int .i64 c2, .bool x2, .bool y2])] : List (Nat × TypeId × Array Value)) W)) (E := (fun _ _ => True)) [2, 3] [(4, Is (.pointer (some ⟨w.heap.size + 1 + 1, 0, none⟩))), (5, Is (.pointer (some ⟨w.heap.size + 1 + 1 + 1, 0, none⟩))), (6, Is (.pointer (some ⟨w1.heap.size, 0, none⟩))), (7, Is (.pointer (some ⟨w2.heap.size, 0, none⟩)))] [(42, Is (.agg #[.int .i64 p2, .int .i64 q2])), (43, Is (.agg #[.int .i64 p, .int .i64 q]))]
    [.op [6] none, .op [7] none, .phase 0 [4, 42] [], .phase 1 [5, 43] []] (by as_aux_lemma => kernel_rfl) ?_ ?_ ?_ ?_ ?_ ⟨stable_is _ _, stable_is _ _, stable_is _ _, stable_is _ _, stable_is _ _, stable_is _ _, trivial⟩ ?_ (HB.out.drew) ?_ ?_
  · as_aux_lemma => kernel_rfl
  · as_aux_lemma => kernel_rfl
  · as_aux_lemma => kernel_rfl
  · as_aux_lemma => kernel_rfl
  · as_aux_lemma => kernel_rfl
  · exact ⟨rfl, rfl, rfl, rfl, trivial⟩
  · refine ⟨?_, ?_, ?_, ?_, trivial⟩
    · as_aux_lemma =>
        intro vals a W hS hL
        have e6 : a.tmps.getD 6 undef = .pointer (some ⟨w1.heap.size, 0, none⟩) := hL.1
        clear hL
        have kb : Bk W (w1.heap.size) 34 #[.int .i64 p2, .int .i64 q2] := hS.bk 1 rfl rfl
        have f0 := kb.cell 0
        have f1 := kb.cell 1
        clear kb
        go_simp
        exact ⟨⟨fun d hd => by injection hd with hd; subst hd; rfl, fun h => by cases h⟩, hS, trivial⟩
    · as_aux_lemma =>
        intro vals a W hS hL
        have e7 : a.tmps.getD 7 undef = .pointer (some ⟨w2.heap.size, 0, none⟩) := hL.1
        clear hL
        have kb : Bk W (w2.heap.size) 34 #[.int .i64 p, .int .i64 q] := hS.bk 0 rfl rfl
        have f0 := kb.cell 0
        have f1 := kb.cell 1
        clear kb
        go_simp
        exact ⟨⟨fun d hd => by injection hd with hd; subst hd; rfl, fun h => by cases h⟩, hS, trivial⟩
    · as_aux_lemma =>
        intro a W vals hv hS hL hp
        have e4 : a.tmps.getD 4 undef = .pointer (some ⟨w.heap.size + 1 + 1, 0, none⟩) := hL.1
        have e42 : a.tmps.getD 42 undef = .agg #[.int .i64 p2, .int .i64 q2] := hL.2.1
        clear hL
        match vals, hv, hS with
        | [], _, hS =>
          have hS2 : SX w 4 ([.put 3 #[.int .i64 p2, .int .i64 q2], .put 2 #[.int .i64 p, .int .i64 q]] : List Stp) [] ([(w2.heap.size, 34, #[.int .i64 p, .int .i64 q]), (w1.heap.size, 34, #[.int .i64 p2, .int .i64 q2]), (w.heap.size + 1 + 1 + 1, 34, #[.int .i64 0, .int .i64 0]), (w.heap.size + 1 + 1, 34, #[.int .i64 0, .int .i64 0]), (w.heap.size + 1, 34, #[.int .i64 b, .int .i64 d]), (w.heap.size, 48, #[.int .i64 r1, .int .i64 c1, .bool x1, .bool y1, .int .i64 r2, .int .i64 c2, .bool x2, .bool y2])] : List (Nat × TypeId × Array Value)) W := hS
          clear hS
          have hB0 := hS2
          have hB : SB w 4 ([(w2.heap.size, 34, #[.int .i64 p, .int .i64 q]), (w1.heap.size, 34, #[.int .i64 p2, .int .i64 q2]), (w.heap.size + 1 + 1 + 1, 34, #[.int .i64 0, .int .i64 0]), (w.heap.size + 1 + 1, 34, #[.int .i64 0, .int .i64 0]), (w.heap.size + 1, 34, #[.int .i64 b, .int .i64 d]), (w.heap.size, 48, #[.int .i64 r1, .int .i64 c1, .bool x1, .bool y1, .int .i64 r2, .int .i64 c2, .bool x2, .bool y2])] : List (Nat × TypeId × Array Value)) W := hB0
          clear hB0
          rw [Array.getD_eq_getD_getElem?] at e42
          have kz := hB.box (i := 3) rfl
          have z0 := kz.frozen 0
          have q0 := kz.cell 0
          have z1 := kz.frozen 1
          have q1 := kz.cell 1
          have hge : w.heap.size ≤ (w.heap.size + 1 + 1) := by omega
          have hne : ∀ qx ∈ butBox ([(w2.heap.size, 34, #[.int .i64 p, .int .i64 q]), (w1.heap.size, 34, #[.int .i64 p2, .int .i64 q2]), (w.heap.size + 1 + 1 + 1, 34, #[.int .i64 0, .int .i64 0]), (w.heap.size + 1 + 1, 34, #[.int .i64 0, .int .i64 0]), (w.heap.size + 1, 34, #[.int .i64 b, .int .i64 d]), (w.heap.size, 48, #[.int .i64 r1, .int .i64 c1, .bool x1, .bool y1, .int .i64 r2, .int .i64 c2, .bool x2, .bool y2])] : List (Nat × TypeId × Array Value)) 3, qx.1 ≠ (w.heap.size + 1 + 1) := by simp [butBox] <;> omega
          have hF := hB.put2 (i := 3) rfl hge hne (.int .i64 p2 : Value) (.int .i64 q2 : Value)
          clear kz hB hne hge
          go_simp
          exact ⟨hF, trivial, trivial⟩
    · as_aux_lemma =>
        intro a W vals hv hS hL hp
        have e5 : a.tmps.getD 5 undef = .pointer (some ⟨w.heap.size + 1 + 1 + 1, 0, none⟩) := hL.1
        have e43 : a.tmps.getD 43 undef = .agg #[.int .i64 p, .int .i64 q] := hL.2.1
        clear hL
        match vals, hv, hS with
        | [v0], _, hS =>
          have hS2 : SX w 4 ([.put 3 #[.int .i64 p2, .int .i64 q2], .put 2 #[.int .i64 p, .int .i64 q]] : List Stp) [v0] ([(w2.heap.size, 34, #[.int .i64 p, .int .i64 q]), (w1.heap.size, 34, #[.int .i64 p2, .int .i64 q2]), (w.heap.size + 1 + 1 + 1, 34, #[.int .i64 0, .int .i64 0]), (w.heap.size + 1 + 1, 34, #[.int .i64 0, .int .i64 0]), (w.heap.size + 1, 34, #[.int .i64 b, .int .i64 d]), (w.heap.size, 48, #[.int .i64 r1, .int .i64 c1, .bool x1, .bool y1, .int .i64 r2, .int .i64 c2, .bool x2, .bool y2])] : List (Nat × TypeId × Array Value)) W := hS
          clear hS
          have hB0 := hS2
          have hB : SB w 4 ([(w2.heap.size, 34, #[.int .i64 p, .int .i64 q]), (w1.heap.size, 34, #[.int .i64 p2, .int .i64 q2]), (w.heap.size + 1 + 1 + 1, 34, #[.int .i64 0, .int .i64 0]), (w.heap.size + 1 + 1, 34, #[.int .i64 p2, .int .i64 q2]), (w.heap.size + 1, 34, #[.int .i64 b, .int .i64 d]), (w.heap.size, 48, #[.int .i64 r1, .int .i64 c1, .bool x1, .bool y1, .int .i64 r2, .int .i64 c2, .bool x2, .bool y2])] : List (Nat × TypeId × Array Value)) W := hB0
          clear hB0
          rw [Array.getD_eq_getD_getElem?] at e43
          have kz := hB.box (i := 2) rfl
          have z0 := kz.frozen 0
          have q0 := kz.cell 0
          have z1 := kz.frozen 1
          have q1 := kz.cell 1
          have hge : w.heap.size ≤ (w.heap.size + 1 + 1 + 1) := by omega
          have hne : ∀ qx ∈ butBox ([(w2.heap.size, 34, #[.int .i64 p, .int .i64 q]), (w1.heap.size, 34, #[.int .i64 p2, .int .i64 q2]), (w.heap.size + 1 + 1 + 1, 34, #[.int .i64 0, .int .i64 0]), (w.heap.size + 1 + 1, 34, #[.int .i64 p2, .int .i64 q2]), (w.heap.size + 1, 34, #[.int .i64 b, .int .i64 d]), (w.heap.size, 48, #[.int .i64 r1, .int .i64 c1, .bool x1, .bool y1, .int .i64 r2, .int .i64 c2, .bool x2, .bool y2])] : List (Nat × TypeId × Array Value)) 2, qx.1 ≠ (w.heap.size + 1 + 1 + 1) := by simp [butBox] <;> omega
          have hF := hB.put2 (i := 2) rfl hge hne (.int .i64 p : Value) (.int .i64 q : Value)
          clear kz hB hne hge
          go_simp
          exact ⟨hF, trivial, trivial⟩
  · intro a W' vals hd hsz hT hF hv hP hS
    obtain ⟨v0, v1, rfl⟩ : ∃ v0 v1, vals = [v0, v1] := by
      match vals, hv with
      | [v0, v1], _ => exact ⟨v0, v1, rfl⟩
    have hS2 : SX w 4 ([.put 3 #[.int .i64 p2, .int .i64 q2], .put 2 #[.int .i64 p, .int .i64 q]] : List Stp) [v0, v1] ([(w2.heap.size, 34, #[.int .i64 p, .int .i64 q]), (w1.heap.size, 34, #[.int .i64 p2, .int .i64 q2]), (w.heap.size + 1 + 1 + 1, 34, #[.int .i64 0, .int .i64 0]), (w.heap.size + 1 + 1, 34, #[.int .i64 0, .int .i64 0]), (w.heap.size + 1, 34, #[.int .i64 b, .int .i64 d]), (w.heap.size, 48, #[.int .i64 r1, .int .i64 c1, .bool x1, .bool y1, .int .i64 r2, .int .i64 c2, .bool x2, .bool y2])] : List (Nat × TypeId × Array Value)) W' := hS
    clear hS
    have hB0 := hS2
    have hB : SB w 4 ([(w2.heap.size, 34, #[.int .i64 p, .int .i64 q]), (w1.heap.size, 34, #[.int .i64 p2, .int .i64 q2]), (w.heap.size + 1 + 1 + 1, 34, #[.int .i64 p, .int .i64 q]), (w.heap.size + 1 + 1, 34, #[.int .i64 p2, .int .i64 q2]), (w.heap.size + 1, 34, #[.int .i64 b, .int .i64 d]), (w.heap.size, 48, #[.int .i64 r1, .int .i64 c1, .bool x1, .bool y1, .int .i64 r2, .int .i64 c2, .bool x2, .bool y2])] : List (Nat × TypeId × Array Value)) W' := hB0
    clear hB0
    have kz2 := hB.box (i := 2) rfl
    have r2_0 := kz2.cell 0
    have r2_1 := kz2.cell 1
    clear kz2
    have kz3 := hB.box (i := 3) rfl
    have r3_0 := kz3.cell 0
    have r3_1 := kz3.cell 1
    clear kz3
    have e4 : a.tmps.getD 4 undef = .pointer (some ⟨w.heap.size + 1 + 1, 0, none⟩) := hT 4 (by simp)
    have e5 : a.tmps.getD 5 undef = .pointer (some ⟨w.heap.size + 1 + 1 + 1, 0, none⟩) := hT 5 (by simp)
    clear hT hF hP
    go_wp2
    refine bodyPost_ret (v := .tuple #[.agg #[.int .i64 p2, .int .i64 q2], .agg #[.int .i64 p, .int .i64 q]]) ?_ hd ⟨rfl, hB.bel⟩
    rw [Array.getD_eq_getD_getElem?] at e4 e5
    simp [results, Tryd.results21, go_sem, e4, e5, r2_0, r2_1, r3_0, r3_1]

set_option maxRecDepth 20000 in
set_option maxHeartbeats 2000000 in
theorem bBounds_TrueFalse {w : World} (r1 c1 r2 c2 b d : Int) (x1 y1 x2 y2 : Bool) (h1 : fo r2 b x2 65536 < fo r1 b x1 65536) (h2 : ¬ fo c2 d y2 256 < fo c1 d y1 256) :
    Calls Tryd.prog 21 #[.agg #[.int .i64 r1, .int .i64 c1, .bool x1, .bool y1, .int .i64 r2, .int .i64 c2, .bool x2, .bool y2], .agg #[.int .i64 b, .int .i64 d]] w fun e w' => e = .returned (boV r1 c1 r2 c2 b d x1 y1 x2 y2) ∧ Below w.heap.size w w' := by
  have H1 := Lib.hid (fun W : World => bAt_any (w := W) r1 c1 b d x1 y1)
  have H2 := Lib.hid (fun W : World => bAt_any (w := W) r2 c2 b d x2 y2)
  unfold boV
  generalize fo r1 b x1 65536 = p at *
  generalize fo c1 d y1 256 = q at *
  generalize fo r2 b x2 65536 = p2 at *
  generalize fo c2 d y2 256 = q2 at *
  have HV := Lib.hid (show mnI p p2 = p2 ∧ mnI q q2 = q ∧ mxI p p2 = p ∧ mxI q q2 = q2 by unfold mnI mxI; refine ⟨?_, ?_, ?_, ?_⟩ <;> split <;> omega)
  obtain ⟨v1, v2, v3, v4⟩ := HV.out
  rw [v1, v2, v3, v4]
  clear HV v1 v2 v3 v4
  have HB : Hid (SB w 4 ([(w.heap.size + 1 + 1 + 1, 34, #[.int .i64 0, .int .i64 0]), (w.heap.size + 1 + 1, 34, #[.int .i64 0, .int .i64 0]), (w.heap.size + 1, 34, #[.int .i64 b, .int .i64 d]), (w.heap.size, 48, #[.int .i64 r1, .int .i64 c1, .bool x1, .bool y1, .int .i64 r2, .int .i64 c2, .bool x2, .bool y2])] : List (Nat × TypeId × Array Value)) ((((w.alloc (.cells #[.int .i64 r1, .int .i64 c1, .bool x1, .bool y1, .int .i64 r2, .int .i64 c2, .bool x2, .bool y2] 48)).alloc (.cells #[.int .i64 b, .int .i64 d] 34)).alloc (.cells #[.int .i64 0, .int .i64 0] 34)).alloc (.cells #[.int .i64 0, .int .i64 0] 34))) := Lib.hid ((((sb1 w 48 #[.int .i64 r1, .int .i64 c1, .bool x1, .bool y1, .int .i64 r2, .int .i64 c2, .bool x2, .bool y2]).push (by simp) 34 #[.int .i64 b, .int .i64 d]).push (by simp) 34 #[.int .i64 0, .int .i64 0]).push (by simp) 34 #[.int .i64 0, .int .i64 0])
  go_enter Tryd.func21, Tryd.ntmps21
  go_wp2_with fail
  refine (H1.out _).mono ?_
  rintro e w1 ⟨rfl, hb⟩
  have hC := HB.out.call hb
  have g1 := hC.size
  have hB := hC.alloc 34 #[.int .i64 p, .int .i64 q]
  clear hb HB hC
  have HB := Lib.hid hB
  clear hB
  have kb := HB.out.box (i := 3) rfl
  have cb0 := kb.cell 0
  have cb1 := kb.cell 1
  clear kb
  have kr := HB.out.box (i := 4) rfl
  have cr0 := kr.cell 0
  have cr1 := kr.cell 1
  have cr2 := kr.cell 2
  have cr3 := kr.cell 3
  have cr4 := kr.cell 4
  have cr5 := kr.cell 5
  have cr6 := kr.cell 6
  have cr7 := kr.cell 7
  clear kr
  go_wp2_with fail
  refine (H2.out _).mono ?_
  rintro e w2 ⟨rfl, hb⟩
  clear cb0 cb1 cr0 cr1 cr2 cr3 cr4 cr5 cr6 cr7
  have hB := HB.out.call hb
  have g2 : w1.heap.size < w2.heap.size := by have := hb.size; simp at this; omega
  clear hb HB
  have HB := Lib.hid hB
  clear hB
  have kx := HB.out.box (i := 0) rfl
  have cx0 := kx.cell 0
  have zx0 := kx.frozen 0
  have cx1 := kx.cell 1
  have zx1 := kx.frozen 1
  clear kx
  clear H1 H2
  go_wp2_with fail
  clear cx0 zx0 cx1 zx1
  have hF0 := HB.out.put1 (g := w1.heap.size) (i := 0) rfl (by omega) (by simp [butBox]; omega) 0 (.int .i64 p2)
  have hs : (w2.setCell ⟨w1.heap.size, 0, none⟩ (.int .i64 p2)).heap.size = w2.heap.size := by simp [World.setCell]
  have hG := hF0.alloc 34 #[.int .i64 p, .int .i64 q2]
  rw [hs] at hG
  clear hs
  have hG2 : SB w 4 ([(w2.heap.size, 34, #[.int .i64 p, .int .i64 q2]), (w1.heap.size, 34, #[.int .i64 p2, .int .i64 q]), (w.heap.size + 1 + 1 + 1, 34, #[.int .i64 0, .int .i64 0]), (w.heap.size + 1 + 1, 34, #[.int .i64 0, .int .i64 0]), (w.heap.size + 1, 34, #[.int .i64 b, .int .i64 d]), (w.heap.size, 48, #[.int .i64 r1, .int .i64 c1, .bool x1, .bool y1, .int .i64 r2, .int .i64 c2, .bool x2, .bool y2])] : List (Nat × TypeId × Array Value)) ((w2.setCell ⟨w1.heap.size, 0, none⟩ (.int .i64 p2)).alloc (.cells #[.int .i64 p, .int .i64 q2] 34)) := hG
  clear hG hF0 HB
  have HB := Lib.hid hG2
  clear hG2
  generalize ((w2.setCell ⟨w1.heap.size, 0, none⟩ (.int .i64 p2)).alloc (.cells #[.int .i64 p, .int .i64 q2] 34)) = W3 at *
  refine wp_region_phases (S := (fun vals W => SX w 4 ([.put 3 #[.int .i64 p2, .int .i64 q], .put 2 #[.int .i64 p, .int .i64 q2]] : List Stp) vals ([(w2.heap.size, 34, #[.int .i64 p, .int .i64 q2]), (w1.heap.size, 34, #[.int .i64 p2, .int .i64 q]), (w.heap.size + 1 + 1 + 1, 34, #[.int .i64 0, .int .i64 0]), (w.heap.size + 1 + 1, 34, #[.int .i64 0, .int .i64 0]), (w.heap.size + 1, 34, #[.int .i64 b, .int .i64 d]), (w.heap.size, 48, #[.int .i64 r1, .int .i64 c1, .bool x1, .bool y1, .int .i64 r2, .int .i64 c2, .bool x2, .bool y2])] : List (Nat × TypeId × Array Value)) W)) (E := (fun _ _ => True)) [2, 3] [(4, Is (.pointer (some ⟨w.heap.size + 1 + 1, 0, none⟩))), (5, Is (.pointer (some ⟨w.heap.size + 1 + 1 + 1, 0, none⟩))), (6, Is (.pointer (some ⟨w1.heap.size, 0, none⟩))), (7, Is (.pointer (some ⟨w2.heap.size, 0, none⟩)))] [(42, Is (.agg #[.int .i64 p2, .int .i64 q])), (43, Is (.agg #[.int .i64 p, .int .i64 q2]))]
    [.op [6] none, .op [7] none, .phase 0 [4, 42] [], .phase 1 [5, 43] []] (by as_aux_lemma => kernel_rfl) ?_ ?_ ?_ ?_ ?_ ⟨stable_is _ _, stable_is _ _, stable_is _ _, stable_is _ _, stable_is _ _, stable_is _ _, trivial⟩ ?_ (HB.out.drew) ?_ ?_
  · as_aux_lemma => kernel_rfl
  · as_aux_lemma => kernel_rfl
  · as_aux_lemma => kernel_rfl
  · as_aux_lemma => kernel_rfl
  · as_aux_lemma => kernel_rfl
  · exact ⟨rfl, rfl, rfl, rfl, trivial⟩
  · refine ⟨?_, ?_, ?_, ?_, trivial⟩
    · as_aux_lemma =>
        intro vals a W hS hL
        have e6 : a.tmps.getD 6 undef = .pointer (some ⟨w1.heap.size, 0, none⟩) := hL.1
        clear hL
        have kb : Bk W (w1.heap.size) 34 #[.int .i64 p2, .int .i64 q] := hS.bk 1 rfl rfl
        have f0 := kb.cell 0
        have f1 := kb.cell 1
        clear kb
        go_simp
        exact ⟨⟨fun d hd => by injection hd with hd; subst hd; rfl, fun h => by cases h⟩, hS, trivial⟩
    · as_aux_lemma =>
        intro vals a W hS hL
        have e7 : a.tmps.getD 7 undef = .pointer (some ⟨w2.heap.size, 0, none⟩) := hL.1
        clear hL
        have kb : Bk W (w2.heap.size) 34 #[.int .i64 p, .int .i64 q2] := hS.bk 0 rfl rfl
        have f0 := kb.cell 0
        have f1 := kb.cell 1
        clear kb
        go_simp
        exact ⟨⟨fun d hd => by injection hd with hd; subst hd; rfl, fun h => by cases h⟩, hS, trivial⟩
    · as_aux_lemma =>
        intro a W vals hv hS hL hp
        have e4 : a.tmps.getD 4 undef = .pointer (some ⟨w.heap.size + 1 + 1, 0, none⟩) := hL.1
        have e42 : a.tmps.getD 42 undef = .agg #[.int .i64 p2, .int .i64 q] := hL.2.1
        clear hL
        match vals, hv, hS with
        | [], _, hS =>
          have hS2 : SX w 4 ([.put 3 #[.int .i64 p2, .int .i64 q], .put 2 #[.int .i64 p, .int .i64 q2]] : List Stp) [] ([(w2.heap.size, 34, #[.int .i64 p, .int .i64 q2]), (w1.heap.size, 34, #[.int .i64 p2, .int .i64 q]), (w.heap.size + 1 + 1 + 1, 34, #[.int .i64 0, .int .i64 0]), (w.heap.size + 1 + 1, 34, #[.int .i64 0, .int .i64 0]), (w.heap.size + 1, 34, #[.int .i64 b, .int .i64 d]), (w.heap.size, 48, #[.int .i64 r1, .int .i64 c1, .bool x1, .bool y1, .int .i64 r2, .int .i64 c2, .bool x2, .bool y2])] : List (Nat × TypeId × Array Value)) W := hS
          clear hS
          have hB0 := hS2
          have hB : SB w 4 ([(w2.heap.size, 34, #[.int .i64 p, .int .i64 q2]), (w1.heap.size, 34, #[.int .i64 p2, .int .i64 q]), (w.heap.size + 1 + 1 + 1, 34, #[.int .i64 0, .int .i64 0]), (w.heap.size + 1 + 1, 34, #[.int .i64 0, .int .i64 0]), (w.heap.size + 1, 34, #[.int .i64 b, .int .i64 d]), (w.heap.size, 48, #[.int .i64 r1, .int .i64 c1, .bool x1, .bool y1, .int .i64 r2, .int .i64 c2, .bool x2, .bool y2])] : List (Nat × TypeId × Array Value)) W := hB0
          clear hB0
          rw [Array.getD_eq_getD_getElem?] at e42
          have kz := hB.box (i := 3) rfl
          have z0 := kz.frozen 0
          have q0 := kz.cell 0
          have z1 := kz.frozen 1
          have q1 := kz.cell 1
          have hge : w.heap.size ≤ (w.heap.size + 1 + 1) := by omega
          have hne : ∀ qx ∈ butBox ([(w2.heap.size, 34, #[.int .i64 p, .int .i64 q2]), (w1.heap.size, 34, #[.int .i64 p2, .int .i64 q]), (w.heap.size + 1 + 1 + 1, 34, #[.int .i64 0, .int .i64 0]), (w.heap.size + 1 + 1, 34, #[.int .i64 0, .int .i64 0]), (w.heap.size + 1, 34, #[.int .i64 b, .int .i64 d]), (w.heap.size, 48, #[.int .i64 r1, .int .i64 c1, .bool x1, .bool y1, .int .i64 r2, .int .i64 c2, .bool x2, .bool y2])] : List (Nat × TypeId × Array Value)) 3, qx.1 ≠ (w.heap.size + 1 + 1) := by simp [butBox] <;> omega
          have hF := hB.put2 (i := 3) rfl hge hne (.int .i64 p2 : Value) (.int .i64 q : Value)
          clear kz hB hne hge
          go_simp
          exact ⟨hF, trivial, trivial⟩
    · as_aux_lemma =>
        intro a W vals hv hS hL hp
        have e5 : a.tmps.getD 5 undef = .pointer (some ⟨w.heap.size + 1 + 1 + 1, 0, none⟩) := hL.1
        have e43 : a.tmps.getD 43 undef = .agg #[.int .i64 p, .int .i64 q2] := hL.2.1
        clear hL
        match vals, hv, hS with
        | [v0], _, hS =>
          have hS2 : SX w 4 ([.put 3 #[.int .i64 p2, .int .i64 q], .put 2 #[.int .i64 p, .int .i64 q2]] : List Stp) [v0] ([(w2.heap.size, 34, #[.int .i64 p, .int .i64 q2]), (w1.heap.size, 34, #[.int .i64 p2, .int .i64 q]), (w.heap.size + 1 + 1 + 1, 34, #[.int .i64 0, .int .i64 0]), (w.heap.size + 1 + 1, 34, #[.int .i64 0, .int .i64 0]), (w.heap.size + 1, 34, #[.int .i64 b, .int .i64 d]), (w.heap.size, 48, #[.int .i64 r1, .int .i64 c1, .bool x1, .bool y1, .int .i64 r2, .int .i64 c2, .bool x2, .bool y2])] : List (Nat × TypeId × Array Value)) W := hS
          clear hS
          have hB0 := hS2
          have hB : SB w 4 ([(w2.heap.size, 34, #[.int .i64 p, .int .i64 q2]), (w1.heap.size, 34, #[.int .i64 p2, .int .i64 q]), (w.heap.size + 1 + 1 + 1, 34, #[.int .i64 0, .int .i64 0]), (w.heap.size + 1 + 1, 34, #[.int .i64 p2, .int .i64 q]), (w.heap.size + 1, 34, #[.int .i64 b, .int .i64 d]), (w.heap.size, 48, #[.int .i64 r1, .int .i64 c1, .bool x1, .bool y1, .int .i64 r2, .int .i64 c2, .bool x2, .bool y2])] : List (Nat × TypeId × Array Value)) W := hB0
          clear hB0
          rw [Array.getD_eq_getD_getElem?] at e43
          have kz := hB.box (i := 2) rfl
          have z0 := kz.frozen 0
          have q0 := kz.cell 0
          have z1 := kz.frozen 1
          have q1 := kz.cell 1
          have hge : w.heap.size ≤ (w.heap.size + 1 + 1 + 1) := by omega
          have hne : ∀ qx ∈ butBox ([(w2.heap.size, 34, #[.int .i64 p, .int .i64 q2]), (w1.heap.size, 34, #[.int .i64 p2, .int .i64 q]), (w.heap.size + 1 + 1 + 1, 34, #[.int .i64 0, .int .i64 0]), (w.heap.size + 1 + 1, 34, #[.int .i64 p2, .int .i64 q]), (w.heap.size + 1, 34, #[.int .i64 b, .int .i64 d]), (w.heap.size, 48, #[.int .i64 r1, .int .i64 c1, .bool x1, .bool y1, .int .i64 r2, .int .i64 c2, .bool x2, .bool y2])] : List (Nat × TypeId × Array Value)) 2, qx.1 ≠ (w.heap.size + 1 + 1 + 1) := by simp [butBox] <;> omega
          have hF := hB.put2 (i := 2) rfl hge hne (.int .i64 p : Value) (.int .i64 q2 : Value)
          clear kz hB hne hge
          go_simp
          exact ⟨hF, trivial, trivial⟩
  · intro a W' vals hd hsz hT hF hv hP hS
    obtain ⟨v0, v1, rfl⟩ : ∃ v0 v1, vals = [v0, v1] := by
      match vals, hv with
      | [v0, v1], _ => exact ⟨v0, v1, rfl⟩
    have hS2 : SX w 4 ([.put 3 #[.int .i64 p2, .int .i64 q], .put 2 #[.int .i64 p, .int .i64 q2]] : List Stp) [v0, v1] ([(w2.heap.size, 34, #[.int .i64 p, .int .i64 q2]), (w1.heap.size, 34, #[.int .i64 p2, .int .i64 q]), (w.heap.size + 1 + 1 + 1, 34, #[.int .i64 0, .int .i64 0]), (w.heap.size + 1 + 1, 34, #[.int .i64 0, .int .i64 0]), (w.heap.size + 1, 34, #[.int .i64 b, .int .i64 d]), (w.heap.size, 48, #[.int .i64 r1, .int .i64 c1, .bool x1, .bool y1, .int .i64 r2, .int .i64 c2, .bool x2, .bool y2])] : List (Nat × TypeId × Array Value)) W' := hS
    clear hS
    have hB0 := hS2
    have hB : SB w 4 ([(w2.heap.size, 34, #[.int .i64 p, .int .i64 q2]), (w1.heap.size, 34, #[.int .i64 p2, .int .i64 q]), (w.heap.size + 1 + 1 + 1, 34, #[.int .i64 p, .int .i64 q2]), (w.heap.size + 1 + 1, 34, #[.int .i64 p2, .int .i64 q]), (w.heap.size + 1, 34, #[.int .i64 b, .int .i64 d]), (w.heap.size, 48, #[.int .i64 r1, .int .i64 c1, .bool x1, .bool y1, .int .i64 r2, .int .i64 c2, .bool x2, .bool y2])] : List (Nat × TypeId × Array Value)) W' := hB0
    clear hB0
    have kz2 := hB.box (i := 2) rfl
    have r2_0 := kz2.cell 0
    have r2_1 := kz2.cell 1
    clear kz2
    have kz3 := hB.box (i := 3) rfl
    have r3_0 := kz3.cell 0
    have r3_1 := kz3.cell 1
    clear kz3
    have e4 : a.tmps.getD 4 undef = .pointer (some ⟨w.heap.size + 1 + 1, 0, none⟩) := hT 4 (by simp)
    have e5 : a.tmps.getD 5 undef = .pointer (some ⟨w.heap.size + 1 + 1 + 1, 0, none⟩) := hT 5 (by simp)
    clear hT hF hP
    go_wp2
    refine bodyPost_ret (v := .tuple #[.agg #[.int .i64 p2, .int .i64 q], .agg #[.int .i64 p, .int .i64 q2]]) ?_ hd ⟨rfl, hB.bel⟩
    rw [Array.getD_eq_getD_getElem?] at e4 e5
    simp [results, Tryd.results21, go_sem, e4, e5, r2_0, r2_1, r3_0, r3_1]

set_option maxRecDepth 20000 in
set_option maxHeartbeats 2000000 in
theorem bBounds_FalseTrue {w : World} (r1 c1 r2 c2 b d : Int) (x1 y1 x2 y2 : Bool) (h1 : ¬ fo r2 b x2 65536 < fo r1 b x1 65536) (h2 : fo c2 d y2 256 < fo c1 d y1 256) :
    Calls Tryd.prog 21 #[.agg #[.int .i64 r1, .int .i64 c1, .bool x1, .bool y1, .int .i64 r2, .int .i64 c2, .bool x2, .bool y2], .agg #[.int .i64 b, .int .i64 d]] w fun e w' => e = .returned (boV r1 c1 r2 c2 b d x1 y1 x2 y2) ∧ Below w.heap.size w w' := by
  have H1 := Lib.hid (fun W : World => bAt_any (w := W) r1 c1 b d x1 y1)
  have H2 := Lib.hid (fun W : World => bAt_any (w := W) r2 c2 b d x2 y2)
  unfold boV
  generalize fo r1 b x1 65536 = p at *
  generalize fo c1 d y1 256 = q at *
  generalize fo r2 b x2 65536 = p2 at *
  generalize fo c2 d y2 256 = q2 at *
  have HV := Lib.hid (show mnI p p2 = p ∧ mnI q q2 = q2 ∧ mxI p p2 = p2 ∧ mxI q q2 = q by unfold mnI mxI; refine ⟨?_, ?_, ?_, ?_⟩ <;> split <;> omega)
  obtain ⟨v1, v2, v3, v4⟩ := HV.out
  rw [v1, v2, v3, v4]
  clear HV v1 v2 v3 v4
  have HB : Hid (SB w 4 ([(w.heap.size + 1 + 1 + 1, 34, #[.int .i64 0, .int .i64 0]), (w.heap.size + 1 + 1, 34, #[.int .i64 0, .int .i64 0]), (w.heap.size + 1, 34, #[.int .i64 b, .int .i64 d]), (w.heap.size, 48, #[.int .i64 r1, .int .i64 c1, .bool x1, .bool y1, .int .i64 r2, .int .i64 c2, .bool x2, .bool y2])] : List (Nat × TypeId × Array Value)) ((((w.alloc (.cells #[.int .i64 r1, .int .i64 c1, .bool x1, .bool y1, .int .i64 r2, .int .i64 c2, .bool x2, .bool y2] 48)).alloc (.cells #[.int .i64 b, .int .i64 d] 34)).alloc (.cells #[.int .i64 0, .int .i64 0] 34)).alloc (.cells #[.int .i64 0, .int .i64 0] 34))) := Lib.hid ((((sb1 w 48 #[.int .i64 r1, .int .i64 c1, .bool x1, .bool y1, .int .i64 r2, .int .i64 c2, .bool x2, .bool y2]).push (by simp) 34 #[.int .i64 b, .int .i64 d]).push (by simp) 34 #[.int .i64 0, .int .i64 0]).push (by simp) 34 #[.int .i64 0, .int .i64 0])
  go_enter Tryd.func21, Tryd.ntmps21
  go_wp2_with fail
  refine (H1.out _).mono ?_
  rintro e w1 ⟨rfl, hb⟩
  have hC := HB.out.call hb
  have g1 := hC.size
  have hB := hC.alloc 34 #[.int .i64 p, .int .i64 q]
  clear hb HB hC
  have HB := Lib.hid hB
  clear hB
  have kb := HB.out.box (i := 3) rfl
  have cb0 := kb.cell 0
  have cb1 := kb.cell 1
  clear kb
  have kr := HB.out.box (i := 4) rfl
  have cr0 := kr.cell 0
  have cr1 := kr.cell 1
  have cr2 := kr.cell 2
  have cr3 := kr.cell 3
  have cr4 := kr.cell 4
  have cr5 := kr.cell 5
  have cr6 := kr.cell 6
  have cr7 := kr.cell 7
  clear kr
  go_wp2_with fail
  refine (H2.out _).mono ?_
  rintro e w2 ⟨rfl, hb⟩
  clear cb0 cb1 cr0 cr1 cr2 cr3 cr4 cr5 cr6 cr7
  have hB := HB.out.call hb
  have g2 : w1.heap.size < w2.heap.size := by have := hb.size; simp at this; omega
  clear hb HB
  have HB := Lib.hid hB
  clear hB
  have kx := HB.out.box (i := 0) rfl
  have cx0 := kx.cell 0
  have zx0 := kx.frozen 0
  have cx1 := kx.cell 1
  have zx1 := kx.frozen 1
  clear kx
  clear H1 H2
  go_wp2_with fail
  clear cx0 zx0 cx1 zx1
  have hF1 := HB.out.put1 (g := w1.heap.size) (i := 0) rfl (by omega) (by simp [butBox]; omega) 1 (.int .i64 q2)
  have hs : (w2.setCell ⟨w1.heap.size, 1, none⟩ (.int .i64 q2)).heap.size = w2.heap.size := by simp [World.setCell]
  have hG := hF1.alloc 34 #[.int .i64 p2, .int .i64 q]
  rw [hs] at hG
  clear hs
  have hG2 : SB w 4 ([(w2.heap.size, 34, #[.int .i64 p2, .int .i64 q]), (w1.heap.size, 34, #[.int .i64 p, .int .i64 q2]), (w.heap.size + 1 + 1 + 1, 34, #[.int .i64 0, .int .i64 0]), (w.heap.size + 1 + 1, 34, #[.int .i64 0, .int .i64 0]), (w.heap.size + 1, 34, #[.int .i64 b, .int .i64 d]), (w.heap.size, 48, #[.int .i64 r1, .int .i64 c1, .bool x1, .bool y1, .int .i64 r2, .int .i64 c2, .bool x2, .bool y2])] : List (Nat × TypeId × Array Value)) ((w2.setCell ⟨w1.heap.size, 1, none⟩ (.int .i64 q2)).alloc (.cells #[.int .i64 p2, .int .i64 q] 34)) := hG
  clear hG hF1 HB
  have HB := Lib.hid hG2
  clear hG2
  generalize ((w2.setCell ⟨w1.heap.size, 1, none⟩ (.int .i64 q2)).alloc (.cells #[.int .i64 p2, .int .i64 q] 34)) = W3 at *
  refine wp_region_phases (S := (fun vals W => SX w 4 ([.put 3 #[.int .i64 p, .int .i64 q2], .put 2 #[.int .i64 p2, .int .i64 q]] : List Stp) vals ([(w2.heap.size, 34, #[.int .i64 p2, .int .i64 q]), (w1.heap.size, 34, #[.int .i64 p, .int .i64 q2]), (w.heap.size + 1 + 1 + 1, 34, #[.int .i64 0, .int .i64 0]), (w.heap.size + 1 + 1, 34, #[.int .i64 0, .int .i64 0]), (w.heap.size + 1, 34, #[.int .i64 b, .int .i64 d]), (w.heap.size, 48, #[.int .i64 r1, .int .i64 c1, .bool x1, .bool y1, .int .i64 r2, .int .i64 c2, .bool x2, .bool y2])] : List (Nat × TypeId × Array Value)) W)) (E := (fun _ _ => True)) [2, 3] [(4, Is (.pointer (some ⟨w.heap.size + 1 + 1, 0, none⟩))), (5, Is (.pointer (some ⟨w.heap.size + 1 + 1 + 1, 0, none⟩))), (6, Is (.pointer (some ⟨w1.heap.size, 0, none⟩))), (7, Is (.pointer (some ⟨w2.heap.size, 0, none⟩)))] [(42, Is (.agg #[.int .i64 p, .int .i64 q2])), (43, Is (.agg #[.int .i64 p2, .int .i64 q]))]
    [.op [6] none, .op [7] none, .phase 0 [4, 42] [], .phase 1 [5, 43] []] (by as_aux_lemma => kernel_rfl) ?_ ?_ ?_ ?_ ?_ ⟨stable_is _ _, stable_is _ _, stable_is _ _, stable_is _ _, stable_is _ _, stable_is _ _, trivial⟩ ?_ (HB.out.drew) ?_ ?_
  · as_aux_lemma => kernel_rfl
  · as_aux_lemma => kernel_rfl
  · as_aux_lemma => kernel_rfl
  · as_aux_lemma => kernel_rfl
  · as_aux_lemma => kernel_rfl
  · exact ⟨rfl, rfl, rfl, rfl, trivial⟩
  · refine ⟨?_, ?_, ?_, ?_, trivial⟩
    · as_aux_lemma =>
        intro vals a W hS hL
        have e6 : a.tmps.getD 6 undef = .pointer (some ⟨w1.heap.size, 0, none⟩) := hL.1
        clear hL
        have kb : Bk W (w1.heap.size) 34 #[.int .i64 p, .int .i64 q2] := hS.bk 1 rfl rfl
        have f0 := kb.cell 0
        have f1 := kb.cell 1
        clear kb
        go_simp
        exact ⟨⟨fun d hd => by injection hd with hd; subst hd; rfl, fun h => by cases h⟩, hS, trivial⟩
    · as_aux_lemma =>
        intro vals a W hS hL
        have e7 : a.tmps.getD 7 undef = .pointer (some ⟨w2.heap.size, 0, none⟩) := hL.1
        clear hL
        have kb : Bk W (w2.heap.size) 34 #[.int .i64 p2, .int .i64 q] := hS.bk 0 rfl rfl
        have f0 := kb.cell 0
        have f1 := kb.cell 1
        clear kb
        go_simp
        exact ⟨⟨fun d hd => by injection hd with hd; subst hd; rfl, fun h => by cases h⟩, hS, trivial⟩
    · as_aux_lemma =>
        intro a W vals hv hS hL hp
        have e4 : a.tmps.getD 4 undef = .pointer (some ⟨w.heap.size + 1 + 1, 0, none⟩) := hL.1
        have e42 : a.tmps.getD 42 undef = .agg #[.int .i64 p, .int .i64 q2] := hL.2.1
        clear hL
        match vals, hv, hS with
        | [], _, hS =>
          have hS2 : SX w 4 ([.put 3 #[.int .i64 p, .int .i64 q2], .put 2 #[.int .i64 p2, .int .i64 q]] : List Stp) [] ([(w2.heap.size, 34, #[.int .i64 p2, .int .i64 q]), (w1.heap.size, 34, #[.int .i64 p, .int .i64 q2]), (w.heap.size + 1 + 1 + 1, 34, #[.int .i64 0, .int .i64 0]), (w.heap.size + 1 + 1, 34, #[.int .i64 0, .int .i64 0]), (w.heap.size + 1, 34, #[.int .i64 b, .int .i64 d]), (w.heap.size, 48, #[.int .i64 r1, .int .i64 c1, .bool x1, .bool y1, .int .i64 r2, .int .i64 c2, .bool x2, .bool y2])] : List (Nat × TypeId × Array Value)) W := hS
          clear hS
          have hB0 := hS2
          have hB : SB w 4 ([(w2.heap.size, 34, #[.int .i64 p2, .int .i64 q]), (w1.heap.size, 34, #[.int .i64 p, .int .i64 q2]), (w.heap.size + 1 + 1 + 1, 34, #[.int .i64 0, .int .i64 0]), (w.heap.size + 1 + 1, 34, #[.int .i64 0, .int .i64 0]), (w.heap.size + 1, 34, #[.int .i64 b, .int .i64 d]), (w.heap.size, 48, #[.int .i64 r1, .int .i64 c1, .bool x1, .bool y1, .int .i64 r2, .int .i64 c2, .bool x2, .bool y2])] : List (Nat × TypeId × Array Value)) W := hB0
          clear hB0
          rw [Array.getD_eq_getD_getElem?] at e42
          have kz := hB.box (i := 3) rfl
          have z0 := kz.frozen 0
          have q0 := kz.cell 0
          have z1 := kz.frozen 1
          have q1 := kz.cell 1
          have hge : w.heap.size ≤ (w.heap.size + 1 + 1) := by omega
          have hne : ∀ qx ∈ butBox ([(w2.heap.size, 34, #[.int .i64 p2, .int .i64 q]), (w1.heap.size, 34, #[.int .i64 p, .int .i64 q2]), (w.heap.size + 1 + 1 + 1, 34, #[.int .i64 0, .int .i64 0]), (w.heap.size + 1 + 1, 34, #[.int .i64 0, .int .i64 0]), (w.heap.size + 1, 34, #[.int .i64 b, .int .i64 d]), (w.heap.size, 48, #[.int .i64 r1, .int .i64 c1, .bool x1, .bool y1, .int .i64 r2, .int .i64 c2, .bool x2, .bool y2])] : List (Nat × TypeId × Array Value)) 3, qx.1 ≠ (w.heap.size + 1 + 1) := by simp [butBox] <;> omega
          have hF := hB.put2 (i := 3) rfl hge hne (.int .i64 p : Value) (.int .i64 q2 : Value)
          clear kz hB hne hge
          go_simp
          exact ⟨hF, trivial, trivial⟩
    · as_aux_lemma =>
        intro a W vals hv hS hL hp
        have e5 : a.tmps.getD 5 undef = .pointer (some ⟨w.heap.size + 1 + 1 + 1, 0, none⟩) := hL.1
        have e43 : a.tmps.getD 43 undef = .agg #[.int .i64 p2, .int .i64 q] := hL.2.1
        clear hL
        match vals, hv, hS with
        | [v0], _, hS =>
          have hS2 : SX w 4 ([.put 3 #[.int .i64 p, .int .i64 q2], .put 2 #[.int .i64 p2, .int .i64 q]] : List Stp) [v0] ([(w2.heap.size, 34, #[.int .i64 p2, .int .i64 q]), (w1.heap.size, 34, #[.int .i64 p, .int .i64 q2]), (w.heap.size + 1 + 1 + 1, 34, #[.int .i64 0, .int .i64 0]), (w.heap.size + 1 + 1, 34, #[.int .i64 0, .int .i64 0]), (w.heap.size + 1, 34, #[.int .i64 b, .int .i64 d]), (w.heap.size, 48, #[.int .i64 r1, .int .i64 c1, .bool x1, .bool y1, .int .i64 r2, .int .i64 c2, .bool x2, .bool y2])] : List (Nat × TypeId × Array Value)) W := hS
          clear hS
          have hB0 := hS2
          have hB : SB w 4 ([(w2.heap.size, 34, #[.int .i64 p2, .int .i64 q]), (w1.heap.size, 34, #[.int .i64 p, .int .i64 q2]), (w.heap.size + 1 + 1 + 1, 34, #[.int .i64 0, .int .i64 0]), (w.heap.size + 1 + 1, 34, #[.int .i64 p, .int .i64 q2]), (w.heap.size + 1, 34, #[.int .i64 b, .int .i64 d]), (w.heap.size, 48, #[.int .i64 r1, .int .i64 c1, .bool x1, .bool y1, .int .i64 r2, .int .i64 c2, .bool x2, .bool y2])] : List (Nat × TypeId × Array Value)) W := hB0
          clear hB0
          rw [Array.getD_eq_getD_getElem?] at e43
          have kz := hB.box (i := 2) rfl
          have z0 := kz.frozen 0
          have q0 := kz.cell 0
          have z1 := kz.frozen 1
          have q1 := kz.cell 1
          have hge : w.heap.size ≤ (w.heap.size + 1 + 1 + 1) := by omega
          have hne : ∀ qx ∈ butBox ([(w2.heap.size, 34, #[.int .i64 p2, .int .i64 q]), (w1.heap.size, 34, #[.int .i64 p, .int .i64 q2]), (w.heap.size + 1 + 1 + 1, 34, #[.int .i64 0, .int .i64 0]), (w.heap.size + 1 + 1, 34, #[.int .i64 p, .int .i64 q2]), (w.heap.size + 1, 34, #[.int .i64 b, .int .i64 d]), (w.heap.size, 48, #[.int .i64 r1, .int .i64 c1, .bool x1, .bool y1, .int .i64 r2, .int .i64 c2, .bool x2, .bool y2])] : List (Nat × TypeId × Array Value)) 2, qx.1 ≠ (w.heap.size + 1 + 1 + 1) := by simp [butBox] <;> omega
          have hF := hB.put2 (i := 2) rfl hge hne (.int .i64 p2 : Value) (.int .i64 q : Value)
          clear kz hB hne hge
          go_simp
          exact ⟨hF, trivial, trivial⟩
  · intro a W' vals hd hsz hT hF hv hP hS
    obtain ⟨v0, v1, rfl⟩ : ∃ v0 v1, vals = [v0, v1] := by
      match vals, hv with
      | [v0, v1], _ => exact ⟨v0, v1, rfl⟩
    have hS2 : SX w 4 ([.put 3 #[.int .i64 p, .int .i64 q2], .put 2 #[.int .i64 p2, .int .i64 q]] : List Stp) [v0, v1] ([(w2.heap.size, 34, #[.int .i64 p2, .int .i64 q]), (w1.heap.size, 34, #[.int .i64 p, .int .i64 q2]), (w.heap.size + 1 + 1 + 1, 34, #[.int .i64 0, .int .i64 0]), (w.heap.size + 1 + 1, 34, #[.int .i64 0, .int .i64 0]), (w.heap.size + 1, 34, #[.int .i64 b, .int .i64 d]), (w.heap.size, 48, #[.int .i64 r1, .int .i64 c1, .bool x1, .bool y1, .int .i64 r2, .int .i64 c2, .bool x2, .bool y2])] : List (Nat × TypeId × Array Value)) W' := hS
    clear hS
    have hB0 := hS2
    have hB : SB w 4 ([(w2.heap.size, 34, #[.int .i64 p2, .int .i64 q]), (w1.heap.size, 34, #[.int .i64 p, .int .i64 q2]), (w.heap.size + 1 + 1 + 1, 34, #[.int .i64 p2, .int .i64 q]), (w.heap.size + 1 + 1, 34, #[.int .i64 p, .int .i64 q2]), (w.heap.size + 1, 34, #[.int .i64 b, .int .i64 d]), (w.heap.size, 48, #[.int .i64 r1, .int .i64 c1, .bool x1, .bool y1, .int .i64 r2, .int .i64 c2, .bool x2, .bool y2])] : List (Nat × TypeId × Array Value)) W' := hB0
    clear hB0
    have kz2 := hB.box (i := 2) rfl
    have r2_0 := kz2.cell 0
    have r2_1 := kz2.cell 1
    clear kz2
    have kz3 := hB.box (i := 3) rfl
    have r3_0 := kz3.cell 0
    have r3_1 := kz3.cell 1
    clear kz3
    have e4 : a.tmps.getD 4 undef = .pointer (some ⟨w.heap.size + 1 + 1, 0, none⟩) := hT 4 (by simp)
    have e5 : a.tmps.getD 5 undef = .pointer (some ⟨w.heap.size + 1 + 1 + 1, 0, none⟩) := hT 5 (by simp)
    clear hT hF hP
    go_wp2
    refine bodyPost_ret (v := .tuple #[.agg #[.int .i64 p, .int .i64 q2], .agg #[.int .i64 p2, .int .i64 q]]) ?_ hd ⟨rfl, hB.bel⟩
    rw [Array.getD_eq_getD_getElem?] at e4 e5
    simp [results, Tryd.results21, go_sem, e4, e5, r2_0, r2_1, r3_0, r3_1]

set_option maxRecDepth 20000 in
set_option maxHeartbeats 2000000 in
theorem bBounds_FalseFalse {w : World} (r1 c1 r2 c2 b d : Int) (x1 y1 x2 y2 : Bool) (h1 : ¬ fo r2 b x2 65536 < fo r1 b x1 65536) (h2 : ¬ fo c2 d y2 256 < fo c1 d y1 256) :
    Calls Tryd.prog 21 #[.agg #[.int .i64 r1, .int .i64 c1, .bool x1, .bool y1, .int .i64 r2, .int .i64 c2, .bool x2, .bool y2], .agg #[.int .i64 b, .int .i64 d]] w fun e w' => e = .returned (boV r1 c1 r2 c2 b d x1 y1 x2 y2) ∧ Below w.heap.size w w' := by
  have H1 := Lib.hid (fun W : World => bAt_any (w := W) r1 c1 b d x1 y1)
  have H2 := Lib.hid (fun W : World => bAt_any (w := W) r2 c2 b d x2 y2)
  unfold boV
  generalize fo r1 b x1 65536 = p at *
  generalize fo c1 d y1 256 = q at *
  generalize fo r2 b x2 65536 = p2 at *
  generalize fo c2 d y2 256 = q2 at *
  have HV := Lib.hid (show mnI p p2 = p ∧ mnI q q2 = q ∧ mxI p p2 = p2 ∧ mxI q q2 = q2 by unfold mnI mxI; refine ⟨?_, ?_, ?_, ?_⟩ <;> split <;> omega)
  obtain ⟨v1, v2, v3, v4⟩ := HV.out
  rw [v1, v2, v3, v4]
  clear HV v1 v2 v3 v4
  have HB : Hid (SB w 4 ([(w.heap.size + 1 + 1 + 1, 34, #[.int .i64 0, .int .i64 0]), (w.heap.size + 1 + 1, 34, #[.int .i64 0, .int .i64 0]), (w.heap.size + 1, 34, #[.int .i64 b, .int .i64 d]), (w.heap.size, 48, #[.int .i64 r1, .int .i64 c1, .bool x1, .bool y1, .int .i64 r2, .int .i64 c2, .bool x2, .bool y2])] : List (Nat × TypeId × Array Value)) ((((w.alloc (.cells #[.int .i64 r1, .int .i64 c1, .bool x1, .bool y1, .int .i64 r2, .int .i64 c2, .bool x2, .bool y2] 48)).alloc (.cells #[.int .i64 b, .int .i64 d] 34)).alloc (.cells #[.int .i64 0, .int .i64 0] 34)).alloc (.cells #[.int .i64 0, .int .i64 0] 34))) := Lib.hid ((((sb1 w 48 #[.int .i64 r1, .int .i64 c1, .bool x1, .bool y1, .int .i64 r2, .int .i64 c2, .bool x2, .bool y2]).push (by simp) 34 #[.int .i64 b, .int .i64 d]).push (by simp) 34 #[.int .i64 0, .int .i64 0]).push (by simp) 34 #[.int .i64 0, .int .i64 0])
  go_enter Tryd.func21, Tryd.ntmps21
  go_wp2_with fail
  refine (H1.out _).mono ?_
  rintro e w1 ⟨rfl, hb⟩
  have hC := HB.out.call hb
  have g1 := hC.size
  have hB := hC.alloc 34 #[.int .i64 p, .int .i64 q]
  clear hb HB hC
  have HB := Lib.hid hB
  clear hB
  have kb := HB.out.box (i := 3) rfl
  have cb0 := kb.cell 0
  have cb1 := kb.cell 1
  clear kb
  have kr := HB.out.box (i := 4) rfl
  have cr0 := kr.cell 0
  have cr1 := kr.cell 1
  have cr2 := kr.cell 2
  have cr3 := kr.cell 3
  have cr4 := kr.cell 4
  have cr5 := kr.cell 5
  have cr6 := kr.cell 6
  have cr7 := kr.cell 7
  clear kr
  go_wp2_with fail
  refine (H2.out _).mono ?_
  rintro e w2 ⟨rfl, hb⟩
  clear cb0 cb1 cr0 cr1 cr2 cr3 cr4 cr5 cr6 cr7
  have hB := HB.out.call hb
  have g2 : w1.heap.size < w2.heap.size := by have := hb.size; simp at this; omega
  clear hb HB
  have HB := Lib.hid hB
  clear hB
  have kx := HB.out.box (i := 0) rfl
  have cx0 := kx.cell 0
  have zx0 := kx.frozen 0
  have cx1 := kx.cell 1
  have zx1 := kx.frozen 1
  clear kx
  clear H1 H2
  go_wp2_with fail
  clear cx0 zx0 cx1 zx1
  have hs : w2.heap.size = w2.heap.size := rfl
  have hG := HB.out.alloc 34 #[.int .i64 p2, .int .i64 q2]
  rw [hs] at hG
  clear hs
  have hG2 : SB w 4 ([(w2.heap.size, 34, #[.int .i64 p2, .int .i64 q2]), (w1.heap.size, 34, #[.int .i64 p, .int .i64 q]), (w.heap.size + 1 + 1 + 1, 34, #[.int .i64 0, .int .i64 0]), (w.heap.size + 1 + 1, 34, #[.int .i64 0, .int .i64 0]), (w.heap.size + 1, 34, #[.int .i64 b, .int .i64 d]), (w.heap.size, 48, #[.int .i64 r1, .int .i64 c1, .bool x1, .bool y1, .int .i64 r2, .int .i64 c2, .bool x2, .bool y2])] : List (Nat × TypeId × Array Value)) (w2.alloc (.cells #[.int .i64 p2, .int .i64 q2] 34)) := hG
  clear hG  HB
  have HB := Lib.hid hG2
  clear hG2
  generalize (w2.alloc (.cells #[.int .i64 p2, .int .i64 q2] 34)) = W3 at *
  refine wp_region_phases (S := (fun vals W => SX w 4 ([.put 3 #[.int .i64 p, .int .i64 q], .put 2 #[.int .i64 p2, .int .i64 q2]] : List Stp) vals ([(w2.heap.size, 34, #[.int .i64 p2, .int .i64 q2]), (w1.heap.size, 34, #[.int .i64 p, .int .i64 q]), (w.heap.size + 1 + 1 + 1, 34, #[.int .i64 0, .int .i64 0]), (w.heap.size + 1 + 1, 34, #[.int .i64 0, .int .i64 0]), (w.heap.size + 1, 34, #[.int .i64 b, .int .i64 d]), (w.heap.size, 48, #[.int .i64 r1, .int .i64 c1, .bool x1, .bool y1, .int .i64 r2, .int .i64 c2, .bool x2, .bool y2])] : List (Nat × TypeId × Array Value)) W)) (E := (fun _ _ => True)) [2, 3] [(4, Is (.pointer (some ⟨w.heap.size + 1 + 1, 0, none⟩))), (5, Is (.pointer (some ⟨w.heap.size + 1 + 1 + 1, 0, none⟩))), (6, Is (.pointer (some ⟨w1.heap.size, 0, none⟩))), (7, Is (.pointer (some ⟨w2.heap.size, 0, none⟩)))] [(42, Is (.agg #[.int .i64 p, .int .i64 q])), (43, Is (.agg #[.int .i64 p2, .int .i64 q2]))]
    [.op [6] none, .op [7] none, .phase 0 [4, 42] [], .phase 1 [5, 43] []] (by as_aux_lemma => kernel_rfl) ?_ ?_ ?_ ?_ ?_ ⟨stable_is _ _, stable_is _ _, stable_is _ _, stable_is _ _, stable_is _ _, stable_is _ _, trivial⟩ ?_ (HB.out.drew) ?_ ?_
  · as_aux_lemma => kernel_rfl
  · as_aux_lemma => kernel_rfl
  · as_aux_lemma => kernel_rfl
  · as_aux_lemma => kernel_rfl
  · as_aux_lemma => kernel_rfl
  · exact ⟨rfl, rfl, rfl, rfl, trivial⟩
  · refine ⟨?_, ?_, ?_, ?_, trivial⟩
    · as_aux_lemma =>
        intro vals a W hS hL
        have e6 : a.tmps.getD 6 undef = .pointer (some ⟨w1.heap.size, 0, none⟩) := hL.1
        clear hL
        have kb : Bk W (w1.heap.size) 34 #[.int .i64 p, .int .i64 q] := hS.bk 1 rfl rfl
        have f0 := kb.cell 0
        have f1 := kb.cell 1
        clear kb
        go_simp
        exact ⟨⟨fun d hd => by injection hd with hd; subst hd; rfl, fun h => by cases h⟩, hS, trivial⟩
    · as_aux_lemma =>
        intro vals a W hS hL
        have e7 : a.tmps.getD 7 undef = .pointer (some ⟨w2.heap.size, 0, none⟩) := hL.1
        clear hL
        have kb : Bk W (w2.heap.size) 34 #[.int .i64 p2, .int .i64 q2] := hS.bk 0 rfl rfl
        have f0 := kb.cell 0
        have f1 := kb.cell 1
        clear kb
        go_simp
        exact ⟨⟨fun d hd => by injection hd with hd; subst hd; rfl, fun h => by cases h⟩, hS, trivial⟩
    · as_aux_lemma =>
        intro a W vals hv hS hL hp
        have e4 : a.tmps.getD 4 undef = .pointer (some ⟨w.heap.size + 1 + 1, 0, none⟩) := hL.1
        have e42 : a.tmps.getD 42 undef = .agg #[.int .i64 p, .int .i64 q] := hL.2.1
        clear hL
        match vals, hv, hS with
        | [], _, hS =>
          have hS2 : SX w 4 ([.put 3 #[.int .i64 p, .int .i64 q], .put 2 #[.int .i64 p2, .int .i64 q2]] : List Stp) [] ([(w2.heap.size, 34, #[.int .i64 p2, .int .i64 q2]), (w1.heap.size, 34, #[.int .i64 p, .int .i64 q]), (w.heap.size + 1 + 1 + 1, 34, #[.int .i64 0, .int .i64 0]), (w.heap.size + 1 + 1, 34, #[.int .i64 0, .int .i64 0]), (w.heap.size + 1, 34, #[.int .i64 b, .int .i64 d]), (w.heap.size, 48, #[.int .i64 r1, .int .i64 c1, .bool x1, .bool y1, .int .i64 r2, .int .i64 c2, .bool x2, .bool y2])] : List (Nat × TypeId × Array Value)) W := hS
          clear hS
          have hB0 := hS2
          have hB : SB w 4 ([(w2.heap.size, 34, #[.int .i64 p2, .int .i64 q2]), (w1.heap.size, 34, #[.int .i64 p, .int .i64 q]), (w.heap.size + 1 + 1 + 1, 34, #[.int .i64 0, .int .i64 0]), (w.heap.size + 1 + 1, 34, #[.int .i64 0, .int .i64 0]), (w.heap.size + 1, 34, #[.int .i64 b, .int .i64 d]), (w.heap.size, 48, #[.int .i64 r1, .int .i64 c1, .bool x1, .bool y1, .int .i64 r2, .int .i64 c2, .bool x2, .bool y2])] : List (Nat × TypeId × Array Value)) W := hB0
          clear hB0
          rw [Array.getD_eq_getD_getElem?] at e42
          have kz := hB.box (i := 3) rfl
          have z0 := kz.frozen 0
          have q0 := kz.cell 0
          have z1 := kz.frozen 1
          have q1 := kz.cell 1
          have hge : w.heap.size ≤ (w.heap.size + 1 + 1) := by omega
          have hne : ∀ qx ∈ butBox ([(w2.heap.size, 34, #[.int .i64 p2, .int .i64 q2]), (w1.heap.size, 34, #[.int .i64 p, .int .i64 q]), (w.heap.size + 1 + 1 + 1, 34, #[.int .i64 0, .int .i64 0]), (w.heap.size + 1 + 1, 34, #[.int .i64 0, .int .i64 0]), (w.heap.size + 1, 34, #[.int .i64 b, .int .i64 d]), (w.heap.size, 48, #[.int .i64 r1, .int .i64 c1, .bool x1, .bool y1, .int .i64 r2, .int .i64 c2, .bool x2, .bool y2])] : List (Nat × TypeId × Array Value)) 3, qx.1 ≠ (w.heap.size + 1 + 1) := by simp [butBox] <;> omega
          have hF := hB.put2 (i := 3) rfl hge hne (.int .i64 p : Value) (.int .i64 q : Value)
          clear kz hB hne hge
          go_simp
          exact ⟨hF, trivial, trivial⟩
    · as_aux_lemma =>
        intro a W vals hv hS hL hp
        have e5 : a.tmps.getD 5 undef = .pointer (some ⟨w.heap.size + 1 + 1 + 1, 0, none⟩) := hL.1
        have e43 : a.tmps.getD 43 undef = .agg #[.int .i64 p2, .int .i64 q2] := hL.2.1
        clear hL
        match vals, hv, hS with
        | [v0], _, hS =>
          have hS2 : SX w 4 ([.put 3 #[.int .i64 p, .int .i64 q], .put 2 #[.int .i64 p2, .int .i64 q2]] : List Stp) [v0] ([(w2.heap.size, 34, #[.int .i64 p2, .int .i64 q2]), (w1.heap.size, 34, #[.int .i64 p, .int .i64 q]), (w.heap.size + 1 + 1 + 1, 34, #[.int .i64 0, .int .i64 0]), (w.heap.size + 1 + 1, 34, #[.int .i64 0, .int .i64 0]), (w.heap.size + 1, 34, #[.int .i64 b, .int .i64 d]), (w.heap.size, 48, #[.int .i64 r1, .int .i64 c1, .bool x1, .bool y1, .int .i64 r2, .int .i64 c2, .bool x2, .bool y2])] : List (Nat × TypeId × Array Value)) W := hS
          clear hS
          have hB0 := hS2
          have hB : SB w 4 ([(w2.heap.size, 34, #[.int .i64 p2, .int .i64 q2]), (w1.heap.size, 34, #[.int .i64 p, .int .i64 q]), (w.heap.size + 1 + 1 + 1, 34, #[.int .i64 0, .int .i64 0]), (w.heap.size + 1 + 1, 34, #[.int .i64 p, .int .i64 q]), (w.heap.size + 1, 34, #[.int .i64 b, .int .i64 d]), (w.heap.size, 48, #[.int .i64 r1, .int .i64 c1, .bool x1, .bool y1, .int .i64 r2, .int .i64 c2, .bool x2, .bool y2])] : List (Nat × TypeId × Array Value)) W := hB0
          clear hB0
          rw [Array.getD_eq_getD_getElem?] at e43
          have kz := hB.box (i := 2) rfl
          have z0 := kz.frozen 0
          have q0 := kz.cell 0
          have z1 := kz.frozen 1
          have q1 := kz.cell 1
          have hge : w.heap.size ≤ (w.heap.size + 1 + 1 + 1) := by omega
          have hne : ∀ qx ∈ butBox ([(w2.heap.size, 34, #[.int .i64 p2, .int .i64 q2]), (w1.heap.size, 34, #[.int .i64 p, .int .i64 q]), (w.heap.size + 1 + 1 + 1, 34, #[.int .i64 0, .int .i64 0]), (w.heap.size + 1 + 1, 34, #[.int .i64 p, .int .i64 q]), (w.heap.size + 1, 34, #[.int .i64 b, .int .i64 d]), (w.heap.size, 48, #[.int .i64 r1, .int .i64 c1, .bool x1, .bool y1, .int .i64 r2, .int .i64 c2, .bool x2, .bool y2])] : List (Nat × TypeId × Array Value)) 2, qx.1 ≠ (w.heap.size + 1 + 1 + 1) := by simp [butBox] <;> omega
          have hF := hB.put2 (i := 2) rfl hge hne (.int .i64 p2 : Value) (.int .i64 q2 : Value)
          clear kz hB hne hge
          go_simp
          exact ⟨hF, trivial, trivial⟩
  · intro a W' vals hd hsz hT hF hv hP hS
    obtain ⟨v0, v1, rfl⟩ : ∃ v0 v1, vals = [v0, v1] := by
      match vals, hv with
      | [v0, v1], _ => exact ⟨v0, v1, rfl⟩
    have hS2 : SX w 4 ([.put 3 #[.int .i64 p, .int .i64 q], .put 2 #[.int .i64 p2, .int .i64 q2]] : List Stp) [v0, v1] ([(w2.heap.size, 34, #[.int .i64 p2, .int .i64 q2]), (w1.heap.size, 34, #[.int .i64 p, .int .i64 q]), (w.heap.size + 1 + 1 + 1, 34, #[.int .i64 0, .int .i64 0]), (w.heap.size + 1 + 1, 34, #[.int .i64 0, .int .i64 0]), (w.heap.size + 1, 34, #[.int .i64 b, .int .i64 d]), (w.heap.size, 48, #[.int .i64 r1, .int .i64 c1, .bool x1, .bool y1, .int .i64 r2, .int .i64 c2, .bool x2, .bool y2])] : List (Nat × TypeId × Array Value)) W' := hS
    clear hS
    have hB0 := hS2
    have hB : SB w 4 ([(w2.heap.size, 34, #[.int .i64 p2, .int .i64 q2]), (w1.heap.size, 34, #[.int .i64 p, .int .i64 q]), (w.heap.size + 1 + 1 + 1, 34, #[.int .i64 p2, .int .i64 q2]), (w.heap.size + 1 + 1, 34, #[.int .i64 p, .int .i64 q]), (w.heap.size + 1, 34, #[.int .i64 b, .int .i64 d]), (w.heap.size, 48, #[.int .i64 r1, .int .i64 c1, .bool x1, .bool y1, .int .i64 r2, .int .i64 c2, .bool x2, .bool y2])] : List (Nat × TypeId × Array Value)) W' := hB0
    clear hB0
    have kz2 := hB.box (i := 2) rfl
    have r2_0 := kz2.cell 0
    have r2_1 := kz2.cell 1
    clear kz2
    have kz3 := hB.box (i := 3) rfl
    have r3_0 := kz3.cell 0
    have r3_1 := kz3.cell 1
    clear kz3
    have e4 : a.tmps.getD 4 undef = .pointer (some ⟨w.heap.size + 1 + 1, 0, none⟩) := hT 4 (by simp)
    have e5 : a.tmps.getD 5 undef = .pointer (some ⟨w.heap.size + 1 + 1 + 1, 0, none⟩) := hT 5 (by simp)
    clear hT hF hP
    go_wp2
    refine bodyPost_ret (v := .tuple #[.agg #[.int .i64 p, .int .i64 q], .agg #[.int .i64 p2, .int .i64 q2]]) ?_ hd ⟨rfl, hB.bel⟩
    rw [Array.getD_eq_getD_getElem?] at e4 e5
    simp [results, Tryd.results21, go_sem, e4, e5, r2_0, r2_1, r3_0, r3_1]

theorem bBounds_any {w : World} (r1 c1 r2 c2 b d : Int) (x1 y1 x2 y2 : Bool) :
    Calls Tryd.prog 21 #[.agg #[.int .i64 r1, .int .i64 c1, .bool x1, .bool y1, .int .i64 r2, .int .i64 c2, .bool x2, .bool y2], .agg #[.int .i64 b, .int .i64 d]] w fun e w' => e = .returned (boV r1 c1 r2 c2 b d x1 y1 x2 y2) ∧ Below w.heap.size w w' := by
  by_cases h1 : fo r2 b x2 65536 < fo r1 b x1 65536 <;> by_cases h2 : fo c2 d y2 256 < fo c1 d y1 256
  · exact bBounds_TrueTrue _ _ _ _ _ _ _ _ _ _ h1 h2
  · exact bBounds_TrueFalse _ _ _ _ _ _ _ _ _ _ h1 h2
  · exact bBounds_FalseTrue _ _ _ _ _ _ _ _ _ _ h1 h2
  · exact bBounds_FalseFalse _ _ _ _ _ _ _ _ _ _ h1 h2

/-- The corners' rows and columns, one by one. -/
def rLo (r1 r2 b : Int) (x1 x2 : Bool) : Int := mnI (fo r1 b x1 65536) (fo r2 b x2 65536)
def rHi (r1 r2 b : Int) (x1 x2 : Bool) : Int := mxI (fo r1 b x1 65536) (fo r2 b x2 65536)
def cLo (c1 c2 d : Int) (y1 y2 : Bool) : Int := mnI (fo c1 d y1 256) (fo c2 d y2 256)
def cHi (c1 c2 d : Int) (y1 y2 : Bool) : Int := mxI (fo c1 d y1 256) (fo c2 d y2 256)
theorem boV_eq (r1 c1 r2 c2 b d : Int) (x1 y1 x2 y2 : Bool) : boV r1 c1 r2 c2 b d x1 y1 x2 y2 = .tuple #[.agg #[.int .i64 (rLo r1 r2 b x1 x2), .int .i64 (cLo c1 c2 d y1 y2)], .agg #[.int .i64 (rHi r1 r2 b x1 x2), .int .i64 (cHi c1 c2 d y1 y2)]] := rfl
theorem mn_mx (a b : Int) : mnI a b ≤ mxI a b := by unfold mnI mxI; split <;> split <;> omega
theorem mn_or (a b : Int) : mnI a b = a ∨ mnI a b = b := by unfold mnI; split <;> simp
theorem mx_or (a b : Int) : mxI a b = a ∨ mxI a b = b := by unfold mxI; split <;> simp
theorem r_bd (r1 r2 b : Int) (x1 x2 : Bool) : 0 ≤ rLo r1 r2 b x1 x2 ∧ rLo r1 r2 b x1 x2 ≤ rHi r1 r2 b x1 x2 ∧ rHi r1 r2 b x1 x2 < 65536 := by
  have h1 := fo_bd r1 b x1 65536 (by decide)
  have h2 := fo_bd r2 b x2 65536 (by decide)
  have h3 := mn_mx (fo r1 b x1 65536) (fo r2 b x2 65536)
  unfold rLo rHi
  rcases mn_or (fo r1 b x1 65536) (fo r2 b x2 65536) with e | e <;> rcases mx_or (fo r1 b x1 65536) (fo r2 b x2 65536) with e' | e' <;> omega
theorem c_bd (c1 c2 d : Int) (y1 y2 : Bool) : 0 ≤ cLo c1 c2 d y1 y2 ∧ cLo c1 c2 d y1 y2 ≤ cHi c1 c2 d y1 y2 ∧ cHi c1 c2 d y1 y2 < 256 := by
  have h1 := fo_bd c1 d y1 256 (by decide)
  have h2 := fo_bd c2 d y2 256 (by decide)
  have h3 := mn_mx (fo c1 d y1 256) (fo c2 d y2 256)
  unfold cLo cHi
  rcases mn_or (fo c1 d y1 256) (fo c2 d y2 256) with e | e <;> rcases mx_or (fo c1 d y1 256) (fo c2 d y2 256) with e' | e' <;> omega
/-- How many cells. -/
def szI (a b c d : Int) : Int := (c - a + 1) * (d - b + 1)
theorem sz_wrap {a b c d : Int} (h0 : 0 ≤ a) (h1 : a ≤ c) (h2 : c < 65536) (h3 : 0 ≤ b) (h4 : b ≤ d) (h5 : d < 256) : wrap64 ((c - a + 1) * (d - b + 1)) = szI a b c d ∧ 0 < szI a b c d ∧ szI a b c d ≤ 16777216 := by
  have e1 : (c - a + 1) * (d - b + 1) ≤ 65536 * 256 := Int.mul_le_mul (by omega) (by omega) (by omega) (by omega)
  have e2 : 0 < (c - a + 1) * (d - b + 1) := Int.mul_pos (by omega) (by omega)
  exact ⟨IntWalk.wrap64_in _ ⟨by omega, by omega⟩, e2, by unfold szI; omega⟩

set_option maxHeartbeats 2000000 in
theorem size_any {w : World} (r1 c1 r2 c2 b d : Int) (x1 y1 x2 y2 : Bool) :
    Calls Tryd.prog 36 #[.agg #[.int .i64 r1, .int .i64 c1, .bool x1, .bool y1, .int .i64 r2, .int .i64 c2, .bool x2, .bool y2], .agg #[.int .i64 b, .int .i64 d]] w fun e w' => e = .returned (.int .i64 (szI (rLo r1 r2 b x1 x2) (cLo c1 c2 d y1 y2) (rHi r1 r2 b x1 x2) (cHi c1 c2 d y1 y2))) ∧ Below w.heap.size w w' := by
  have H1 := Lib.hid (fun W : World => bBounds_any (w := W) r1 c1 r2 c2 b d x1 y1 x2 y2)
  obtain ⟨h0, h1, h2⟩ := r_bd r1 r2 b x1 x2
  obtain ⟨h3, h4, h5⟩ := c_bd c1 c2 d y1 y2
  have HW := Lib.hid (sz_wrap h0 h1 h2 h3 h4 h5).1
  rw [boV_eq] at H1
  generalize rLo r1 r2 b x1 x2 = p at *
  generalize cLo c1 c2 d y1 y2 = q at *
  generalize rHi r1 r2 b x1 x2 = p2 at *
  generalize cHi c1 c2 d y1 y2 = q2 at *
  generalize szI p q p2 q2 = n at *
  have HB : Hid (SB w 2 ([(w.heap.size + 1, 34, #[.int .i64 b, .int .i64 d]), (w.heap.size, 48, #[.int .i64 r1, .int .i64 c1, .bool x1, .bool y1, .int .i64 r2, .int .i64 c2, .bool x2, .bool y2])] : List (Nat × TypeId × Array Value)) ((w.alloc (.cells #[.int .i64 r1, .int .i64 c1, .bool x1, .bool y1, .int .i64 r2, .int .i64 c2, .bool x2, .bool y2] 48)).alloc (.cells #[.int .i64 b, .int .i64 d] 34))) := Lib.hid ((sb1 w 48 #[.int .i64 r1, .int .i64 c1, .bool x1, .bool y1, .int .i64 r2, .int .i64 c2, .bool x2, .bool y2]).push (by simp) 34 #[.int .i64 b, .int .i64 d])
  go_enter Tryd.func36, Tryd.ntmps36
  go_wp2_with fail
  refine (H1.out _).mono ?_
  rintro e w1 ⟨rfl, hb⟩
  have hB := HB.out.call hb
  have hbel := (hB.bel.alloc hB.bel.size (.cells #[.int .i64 p, .int .i64 q] 34)).alloc (by have := hB.bel.size; simp; omega) (.cells #[.int .i64 p2, .int .i64 q2] 34)
  clear HB hb hB H1
  go_wp2
  go_ret
  exact ⟨by rw [← HW.out]; rfl, hbel⟩
end Go.Proofs.YtgjijjdpkmdcgaaDoor
