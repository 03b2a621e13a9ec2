/- cashbooklaw10.To by its contract: a copy, in memory of its own. Condition: the formula reads as a tree, which is not too great. -/
import Derived.Test.YtlaiocdnddnnaaaGreatDoorA8O
import Derived.Test.YtlaiocdnddnnaaaGreatDoorTv
import Derived.Test.YtlaiocdnddnnaaaGreatDoorOt
set_option linter.unusedVariables false
set_option linter.unusedSimpArgs false
namespace Go.Proofs.YtlaiocdnddnnaaaGreatDoor
open Go.RowKit
def Gx (base g : Nat) (v : Value) (W : World) (i : Nat) : Prop := base ≤ i ∧ i < W.heap.size ∧ v.ownBlock ≠ some i ∧ i ≠ g
structure ToL (w2 : World) (base g : Nat) (p : Pay) (ks : List Tr) (j : Nat) (wr : World) : Prop where
  bel : Below w2.heap.size w2 wr
  row : ∃ (v : Value) (T : List (List Value × Tr)), Bk wr g 47 (ec p v).toArray ∧ wr.ownsRow base 47 18 v j (T.flatMap (·.1)) ∧ v.ownBlock ≠ some g ∧ T.map (·.2) = ks.take j ∧ ∀ x ∈ T, LiT wr (Gx base g v wr) x.2 x.1
set_option maxRecDepth 20000 in
set_option maxHeartbeats 8000000 in
theorem to_any : ∀ (n : Nat) (p : Pay) (ks : List Tr), cntT (.mk p ks) ≤ n → n ≤ 100000 → ∀ (w : World) (A : Option Addr) (c : Nat), AtT w p ks A c →
    Calls Tryz.prog 10 #[.agg (ec p (.slice A ks.length c)).toArray] w fun e W => ∃ v, e = .returned v ∧ ToF w.heap.size p ks v W ∧ Below w.heap.size w W := by
  intro n
  induction n with
  | zero => intro p ks h; have := cnt_pos (.mk p ks); omega
  | succ n ih =>
    intro p ks hn hn1 w A c hat; obtain ⟨w2, hw2⟩ : ∃ w2, w2 = (w.alloc (.cells (ec p (.slice A ks.length c)).toArray 32)).alloc (.cells #[.int .i64 0, .int .i64 0, .int .i64 0, .int .i64 0, .string ⟨#[]⟩, .bool false, .int .i64 0, .int .i64 0, .int .i64 0, .bool false, .bool false, .int .i64 0, .int .i64 0, .bool false, .bool false, .int .i64 0, .int .i64 0, .slice none 0 0] 47) := ⟨_, rfl⟩
    obtain ⟨b, hb0⟩ : ∃ b, b = w.heap.size := ⟨_, rfl⟩
    obtain ⟨r, hr0⟩ : ∃ r, r = w.heap.size + 1 := ⟨_, rfl⟩
    have hb2 : Below w.heap.size w w2 := by rw [hw2]; exact bel1 _ _ _
    have hz2 : w2.heap.size = w.heap.size + 2 := by rw [hw2]; simp
    have hkb : Bk w2 b 32 (ec p (.slice A ks.length c)).toArray := by rw [hw2, hb0]; exact (Bk.new w _ _).alloc _
    have hkr : Bk w2 r 47 (ec zp (.slice none 0 0)).toArray := by
      have hz : (w.alloc (.cells (ec p (.slice A ks.length c)).toArray 32)).heap.size = w.heap.size + 1 := by simp
      rw [hw2, hr0, ← hz]; exact Bk.new _ _ _
    have hlb := hkb.lt; have hat2 := hat.below hb2; have hkids : cntL ks ≤ n := by simp only [cntT] at hn; omega
    go_enter Tryz.func10, Tryz.ntmps10
    repeat' (first | go_values | go_skip | go_guarded | go_step | go_upon)
    rw [← hr0, ← hb0, ← hw2]; have HW := Lib.hid (And.intro hb2 (And.intro hz2 (And.intro hb0 (And.intro hr0 (And.intro hkr (And.intro hat.2 (And.intro hat.1 (And.intro hkids (And.intro hn1 ih))))))))); clear hw2 hb0 hr0 hb2 hz2 hat hkr hat2 hkids hn hn1 ih
    refine wp_region_phases (S := (fun vals W => match vals with | [] => Below w2.heap.size w2 W | [v] => ∃ g, v = .pointer (some ⟨g, 0, none⟩) ∧ w2.heap.size ≤ g ∧ Bk W g 47 #[.int .i64 0, .int .i64 0, .int .i64 0, .int .i64 0, .string ⟨#[]⟩, .bool false, .int .i64 0, .int .i64 0, .int .i64 0, .bool false, .bool false, .int .i64 0, .int .i64 0, .bool false, .bool false, .int .i64 0, .int .i64 0, .slice none 0 0] ∧ Below w2.heap.size w2 W | v :: _ :: _ => ∃ g, v = .pointer (some ⟨g, 0, none⟩) ∧ w2.heap.size ≤ g ∧ Bk W g 47 ([.int .i64 p.kind, .int .i64 p.vk, .int .i64 p.vm, .int .i64 p.vs, .string p.vt, .bool p.vb, .int .i64 p.ve, .int .i64 p.r1, .int .i64 p.c1, .bool p.x1, .bool p.y1, .int .i64 p.r2, .int .i64 p.c2, .bool p.x2, .bool p.y2, .int .i64 p.sheet, .int .i64 p.op, .slice none 0 0] : List Value).toArray ∧ Below w2.heap.size w2 W)) (E := (fun _ _ => True)) [13, 14] [(0, Is (.agg (ec p (.slice A ks.length c)).toArray)), (1, Is (.pointer (some ⟨b, 0, none⟩))), (2, Is (.pointer (some ⟨r, 0, none⟩)))] [(5, Is (.pointer (some ⟨b, 0, none⟩))), (6, Is (.int .i64 p.kind)), (7, Is (.pointer (some ⟨b, 1, none⟩))), (8, Is (.agg #[.int .i64 p.vk, .int .i64 p.vm, .int .i64 p.vs, .string p.vt, .bool p.vb, .int .i64 p.ve])), (9, Is (.agg #[.int .i64 p.vk, .int .i64 p.vm, .int .i64 p.vs, .string p.vt, .bool p.vb, .int .i64 p.ve])), (10, Is (.pointer (some ⟨b, 7, none⟩))), (11, Is (.agg #[.int .i64 p.r1, .int .i64 p.c1, .bool p.x1, .bool p.y1, .int .i64 p.r2, .int .i64 p.c2, .bool p.x2, .bool p.y2])), (12, Is (.agg #[.int .i64 p.r1, .int .i64 p.c1, .bool p.x1, .bool p.y1, .int .i64 p.r2, .int .i64 p.c2, .bool p.x2, .bool p.y2])), (13, Is (.pointer (some ⟨b, 15, none⟩))), (14, Is (.int .i64 p.sheet)), (15, Is (.pointer (some ⟨b, 16, none⟩))), (16, Is (.int .i64 p.op)), (17, Is (.agg #[.int .i64 p.kind, .int .i64 p.vk, .int .i64 p.vm, .int .i64 p.vs, .string p.vt, .bool p.vb, .int .i64 p.ve, .int .i64 p.r1, .int .i64 p.c1, .bool p.x1, .bool p.y1, .int .i64 p.r2, .int .i64 p.c2, .bool p.x2, .bool p.y2, .int .i64 p.sheet, .int .i64 p.op, .slice none 0 0]))]
      [.op [1] none, .op [5] none, .op [1] none, .op [7] none, .op [8] none, .op [1] none, .op [10] none, .op [11] none, .op [1] none, .op [13] none, .op [1] none, .op [15] none, .op [6, 9, 12, 14, 16] none, .phase 0 [] [], .phase 1 [17] [(0, 3)]] (by as_aux_lemma => kernel_rfl) ?_ ?_ ?_ ?_ ?_ ⟨stable_is _ _, stable_is _ _, stable_is _ _, stable_is _ _, stable_is _ _, stable_is _ _, stable_is _ _, stable_is _ _, stable_is _ _, stable_is _ _, stable_is _ _, stable_is _ _, stable_is _ _, stable_is _ _, stable_is _ _, stable_is _ _, trivial⟩ ?_ (Below.refl _ _).drew ?_ ?_
    · as_aux_lemma => kernel_rfl
    · as_aux_lemma => kernel_rfl
    · as_aux_lemma => kernel_rfl
    · as_aux_lemma => kernel_rfl
    · as_aux_lemma => kernel_rfl
    · exact ⟨rfl, rfl, rfl, trivial⟩
    · refine ⟨?_, ?_, ?_, ?_, ?_, ?_, ?_, ?_, ?_, ?_, ?_, ?_, ?_, ?_, ?_, trivial⟩
      · as_aux_lemma => intro vals a W hS hL; have e1 : a.tmps.getD 1 undef = .pointer (some ⟨b, 0, none⟩) := hL.1; clear hL; go_simp; exact ⟨dstY (by rfl), hS, trivial⟩
      · as_aux_lemma =>
          intro vals a W hS hL; have e5 : a.tmps.getD 5 undef = .pointer (some ⟨b, 0, none⟩) := hL.1; clear hL
          have hB : Below w2.heap.size w2 W := by
            match vals, hS with
            | [], hS => exact hS
            | [_], hS => obtain ⟨g, _, _, _, hS⟩ := hS; exact hS
            | _ :: _ :: _, hS => obtain ⟨g, _, _, _, hS⟩ := hS; exact hS
          have f0 : W.cell? ⟨b, 0, none⟩ = some (.int .i64 p.kind) := (hkb.below hB hlb).cell 0; clear hB; go_simp; exact ⟨dstY (by rfl), hS, trivial⟩
      · as_aux_lemma => intro vals a W hS hL; have e1 : a.tmps.getD 1 undef = .pointer (some ⟨b, 0, none⟩) := hL.1; clear hL; go_simp; exact ⟨dstY (by rfl), hS, trivial⟩
      · as_aux_lemma =>
          intro vals a W hS hL; have e7 : a.tmps.getD 7 undef = .pointer (some ⟨b, 1, none⟩) := hL.1; clear hL
          have hB : Below w2.heap.size w2 W := by
            match vals, hS with
            | [], hS => exact hS
            | [_], hS => obtain ⟨g, _, _, _, hS⟩ := hS; exact hS
            | _ :: _ :: _, hS => obtain ⟨g, _, _, _, hS⟩ := hS; exact hS
          have f1 : W.cell? ⟨b, 1, none⟩ = some (.int .i64 p.vk) := (hkb.below hB hlb).cell 1; have f2 : W.cell? ⟨b, 2, none⟩ = some (.int .i64 p.vm) := (hkb.below hB hlb).cell 2; have f3 : W.cell? ⟨b, 3, none⟩ = some (.int .i64 p.vs) := (hkb.below hB hlb).cell 3; have f4 : W.cell? ⟨b, 4, none⟩ = some (.string p.vt) := (hkb.below hB hlb).cell 4; have f5 : W.cell? ⟨b, 5, none⟩ = some (.bool p.vb) := (hkb.below hB hlb).cell 5; have f6 : W.cell? ⟨b, 6, none⟩ = some (.int .i64 p.ve) := (hkb.below hB hlb).cell 6; clear hB; go_simp; exact ⟨dstY (by rfl), hS, trivial⟩
      · as_aux_lemma =>
          intro vals a W hS hL; have e8 : a.tmps.getD 8 undef = .agg #[.int .i64 p.vk, .int .i64 p.vm, .int .i64 p.vs, .string p.vt, .bool p.vb, .int .i64 p.ve] := hL.1; clear hL; go_simp; refine (toVal_any p.vk p.vm p.vs p.vt p.vb p.ve).mono ?_; rintro e W2 ⟨rfl, hb⟩; refine ⟨_, rfl, dstY (by rfl), ?_, trivial⟩
          match vals, hS with
          | [], hS => exact hS.trans (hb.mono hS.size)
          | [_], hS =>
            obtain ⟨g, h1, h2, h3, h4⟩ := hS; exact ⟨g, h1, h2, h3.below hb h3.lt, h4.trans (hb.mono h4.size)⟩
          | _ :: _ :: _, hS =>
            obtain ⟨g, h1, h2, h3, h4⟩ := hS; exact ⟨g, h1, h2, h3.below hb h3.lt, h4.trans (hb.mono h4.size)⟩
      · as_aux_lemma => intro vals a W hS hL; have e1 : a.tmps.getD 1 undef = .pointer (some ⟨b, 0, none⟩) := hL.1; clear hL; go_simp; exact ⟨dstY (by rfl), hS, trivial⟩
      · as_aux_lemma =>
          intro vals a W hS hL; have e10 : a.tmps.getD 10 undef = .pointer (some ⟨b, 7, none⟩) := hL.1; clear hL
          have hB : Below w2.heap.size w2 W := by
            match vals, hS with
            | [], hS => exact hS
            | [_], hS => obtain ⟨g, _, _, _, hS⟩ := hS; exact hS
            | _ :: _ :: _, hS => obtain ⟨g, _, _, _, hS⟩ := hS; exact hS
          have f7 : W.cell? ⟨b, 7, none⟩ = some (.int .i64 p.r1) := (hkb.below hB hlb).cell 7; have f8 : W.cell? ⟨b, 8, none⟩ = some (.int .i64 p.c1) := (hkb.below hB hlb).cell 8; have f9 : W.cell? ⟨b, 9, none⟩ = some (.bool p.x1) := (hkb.below hB hlb).cell 9; have f10 : W.cell? ⟨b, 10, none⟩ = some (.bool p.y1) := (hkb.below hB hlb).cell 10; have f11 : W.cell? ⟨b, 11, none⟩ = some (.int .i64 p.r2) := (hkb.below hB hlb).cell 11; have f12 : W.cell? ⟨b, 12, none⟩ = some (.int .i64 p.c2) := (hkb.below hB hlb).cell 12; have f13 : W.cell? ⟨b, 13, none⟩ = some (.bool p.x2) := (hkb.below hB hlb).cell 13; have f14 : W.cell? ⟨b, 14, none⟩ = some (.bool p.y2) := (hkb.below hB hlb).cell 14; clear hB; go_simp; exact ⟨dstY (by rfl), hS, trivial⟩
      · as_aux_lemma =>
          intro vals a W hS hL; have e11 : a.tmps.getD 11 undef = .agg #[.int .i64 p.r1, .int .i64 p.c1, .bool p.x1, .bool p.y1, .int .i64 p.r2, .int .i64 p.c2, .bool p.x2, .bool p.y2] := hL.1; clear hL; go_simp; refine (toArea_any p.r1 p.c1 p.r2 p.c2 p.x1 p.y1 p.x2 p.y2).mono ?_; rintro e W2 ⟨rfl, hb⟩; refine ⟨_, rfl, dstY (by rfl), ?_, trivial⟩
          match vals, hS with
          | [], hS => exact hS.trans (hb.mono hS.size)
          | [_], hS =>
            obtain ⟨g, h1, h2, h3, h4⟩ := hS; exact ⟨g, h1, h2, h3.below hb h3.lt, h4.trans (hb.mono h4.size)⟩
          | _ :: _ :: _, hS =>
            obtain ⟨g, h1, h2, h3, h4⟩ := hS; exact ⟨g, h1, h2, h3.below hb h3.lt, h4.trans (hb.mono h4.size)⟩
      · as_aux_lemma => intro vals a W hS hL; have e1 : a.tmps.getD 1 undef = .pointer (some ⟨b, 0, none⟩) := hL.1; clear hL; go_simp; exact ⟨dstY (by rfl), hS, trivial⟩
      · as_aux_lemma =>
          intro vals a W hS hL; have e13 : a.tmps.getD 13 undef = .pointer (some ⟨b, 15, none⟩) := hL.1; clear hL
          have hB : Below w2.heap.size w2 W := by
            match vals, hS with
            | [], hS => exact hS
            | [_], hS => obtain ⟨g, _, _, _, hS⟩ := hS; exact hS
            | _ :: _ :: _, hS => obtain ⟨g, _, _, _, hS⟩ := hS; exact hS
          have f15 : W.cell? ⟨b, 15, none⟩ = some (.int .i64 p.sheet) := (hkb.below hB hlb).cell 15; clear hB; go_simp; exact ⟨dstY (by rfl), hS, trivial⟩
      · as_aux_lemma => intro vals a W hS hL; have e1 : a.tmps.getD 1 undef = .pointer (some ⟨b, 0, none⟩) := hL.1; clear hL; go_simp; exact ⟨dstY (by rfl), hS, trivial⟩
      · as_aux_lemma =>
          intro vals a W hS hL; have e15 : a.tmps.getD 15 undef = .pointer (some ⟨b, 16, none⟩) := hL.1; clear hL
          have hB : Below w2.heap.size w2 W := by
            match vals, hS with
            | [], hS => exact hS
            | [_], hS => obtain ⟨g, _, _, _, hS⟩ := hS; exact hS
            | _ :: _ :: _, hS => obtain ⟨g, _, _, _, hS⟩ := hS; exact hS
          have f16 : W.cell? ⟨b, 16, none⟩ = some (.int .i64 p.op) := (hkb.below hB hlb).cell 16; clear hB; go_simp; exact ⟨dstY (by rfl), hS, trivial⟩
      · as_aux_lemma => intro vals a W hS hL; have e6 : a.tmps.getD 6 undef = .int .i64 p.kind := hL.1; have e9 : a.tmps.getD 9 undef = .agg #[.int .i64 p.vk, .int .i64 p.vm, .int .i64 p.vs, .string p.vt, .bool p.vb, .int .i64 p.ve] := hL.2.1; have e12 : a.tmps.getD 12 undef = .agg #[.int .i64 p.r1, .int .i64 p.c1, .bool p.x1, .bool p.y1, .int .i64 p.r2, .int .i64 p.c2, .bool p.x2, .bool p.y2] := hL.2.2.1; have e14 : a.tmps.getD 14 undef = .int .i64 p.sheet := hL.2.2.2.1; have e16 : a.tmps.getD 16 undef = .int .i64 p.op := hL.2.2.2.2.1; clear hL; refine lands_v (run_b5 (p := p) (.tmp 6) (.tmp 9) (.tmp 12) (.tmp 14) (.tmp 16) rfl e6 e9 e12 e14 e16) ?_; exact ⟨dstY (by rfl), hS, trivial⟩
      · as_aux_lemma =>
          intro a W vals hv hS hL hp; clear hL
          match vals, hv, hS with
          | [], _, hS =>
            go_simp; exact ⟨⟨_, rfl, hS.size, Bk.new _ _ _, Below.alloc hS hS.size _⟩, trivial, trivial⟩
      · as_aux_lemma =>
          intro a W vals hv hS hL hp; have e17 : a.tmps.getD 17 undef = .agg #[.int .i64 p.kind, .int .i64 p.vk, .int .i64 p.vm, .int .i64 p.vs, .string p.vt, .bool p.vb, .int .i64 p.ve, .int .i64 p.r1, .int .i64 p.c1, .bool p.x1, .bool p.y1, .int .i64 p.r2, .int .i64 p.c2, .bool p.x2, .bool p.y2, .int .i64 p.sheet, .int .i64 p.op, .slice none 0 0] := hL.1; clear hL
          match vals, hv, hS, hp with
          | [u], _, hS, hp =>
            obtain ⟨g, rfl, hg, hkg, hB⟩ := hS; have e3 := (Option.some.inj (hp.1 (by simp))).symm; refine lands_st (g := g) (cs := ec zp (.slice none 0 0)) (vs := [.int .i64 p.kind, .int .i64 p.vk, .int .i64 p.vm, .int .i64 p.vs, .string p.vt, .bool p.vb, .int .i64 p.ve, .int .i64 p.r1, .int .i64 p.c1, .bool p.x1, .bool p.y1, .int .i64 p.r2, .int .i64 p.c2, .bool p.x2, .bool p.y2, .int .i64 p.sheet, .int .i64 p.op, .slice none 0 0]) (.tmp 3) (.tmp 17) rfl e3 e17 (by kernel_rfl) (by intro v hv; simp only [List.mem_cons, List.not_mem_nil, or_false] at hv; rcases hv with rfl | rfl | rfl | rfl | rfl | rfl | rfl | rfl | rfl | rfl | rfl | rfl | rfl | rfl | rfl | rfl | rfl | rfl <;> rfl) hkg rfl ?_; exact ⟨⟨g, rfl, hg, filled (cs := ec zp (.slice none 0 0)) hkg rfl, hB.trans ((setCells_keep _ _ _).below (B := w2.heap.size) hB.size fun i hi e => by omega)⟩, trivial, trivial⟩
    intro a W' vals hd hsz hT hF hv hP hS
    obtain ⟨v0, v1, rfl⟩ : ∃ v0 v1, vals = [v0, v1] := by
      match vals, hv with
      | [x, y], _ => exact ⟨x, y, rfl⟩
    obtain ⟨g, rfl, hgl, hkg, hB⟩ := hS
    have e3 : a.tmps.getD 3 undef = .pointer (some ⟨g, 0, none⟩) := by
      have := hP 0 13 _ 3 rfl (by simp) rfl rfl
      simpa using this.symm
    have e0 : a.tmps.getD 0 undef = .agg (ec p (.slice A ks.length c)).toArray := hT 0 (by simp); have e1 : a.tmps.getD 1 undef = .pointer (some ⟨b, 0, none⟩) := hT 1 (by simp); have e2 : a.tmps.getD 2 undef = .pointer (some ⟨r, 0, none⟩) := hT 2 (by simp); clear hT hF hP; rw [act_lit 37 a hd hsz]; simp only [List.range, List.range.loop, List.map, e0, e1, e2, e3]; clear hd hsz e0 e1 e2 e3; generalize a.tmps.getD 4 undef = y4, a.tmps.getD 5 undef = y5, a.tmps.getD 6 undef = y6, a.tmps.getD 7 undef = y7, a.tmps.getD 8 undef = y8, a.tmps.getD 9 undef = y9, a.tmps.getD 10 undef = y10, a.tmps.getD 11 undef = y11, a.tmps.getD 12 undef = y12, a.tmps.getD 13 undef = y13, a.tmps.getD 14 undef = y14, a.tmps.getD 15 undef = y15, a.tmps.getD 16 undef = y16, a.tmps.getD 17 undef = y17, a.tmps.getD 18 undef = y18, a.tmps.getD 19 undef = y19, a.tmps.getD 20 undef = y20, a.tmps.getD 21 undef = y21, a.tmps.getD 22 undef = y22, a.tmps.getD 23 undef = y23, a.tmps.getD 24 undef = y24, a.tmps.getD 25 undef = y25, a.tmps.getD 26 undef = y26, a.tmps.getD 27 undef = y27, a.tmps.getD 28 undef = y28, a.tmps.getD 29 undef = y29, a.tmps.getD 30 undef = y30, a.tmps.getD 31 undef = y31, a.tmps.getD 32 undef = y32, a.tmps.getD 33 undef = y33, a.tmps.getD 34 undef = y34, a.tmps.getD 35 undef = y35, a.tmps.getD 36 undef = y36; have hkg2 : Bk W' g 47 (ec p (.slice none 0 0)).toArray := hkg; have HB := Lib.hid hB; have HG := Lib.hid hgl; clear hkg hB hgl
    repeat' (first | go_values | go_skip | go_guarded | go_step | go_upon)
    have HS3 : Hid (ToL w2 (w.heap.size + 2) g p ks 0 W') := Lib.hid ⟨HB.out, .slice none 0 0, [], hkg2, World.ownsRow_nil _ _ _ _, by simp [Value.ownBlock], by simp, by simp⟩; clear hkg2 hv; generalize W' = w3 at *; have hgw : g < w3.heap.size := (HS3.out.row.choose_spec.choose_spec.1).lt; have HG3 := Lib.hid hgw; clear HB hgw
    go_loopw [4] (fun i wr => ∃ j : Nat, i = .int .i64 j ∧ j ≤ ks.length ∧ Hid (ToL w2 (w.heap.size + 2) g p ks j wr)) (fun i _ => ks.length - (intOf i).toNat)
    case atStart => exact ⟨0, rfl, Nat.zero_le _, HS3⟩
    case round =>
      obtain ⟨j, rfl, hj, HL⟩ := hrel; have hkbr : Bk wr b 32 (ec p (.slice A ks.length c)).toArray := hkb.below HL.out.bel hlb; have c17 : wr.cell? ⟨b, 17, none⟩ = some (.slice A ks.length c) := hkbr.cell 17
      have hlen : ks.length ≤ 100000 := by
        obtain ⟨-, -, -, -, -, -, -, h8, h9, -⟩ := HW.out; have := cnt_len ks; omega
      by_cases hjl : j < ks.length
      · have hjl' : (j : Int) < (ks.length : Int) := by omega
        have hj0 : (0 : Int) ≤ (j : Int) := by omega
        obtain ⟨hb2, hz2, hb0, hr0, hkr, hat, hatc, hkids, hn1, ih⟩ := HW.out; obtain ⟨aa, rfl, hab, hall⟩ := hat.at_ (by omega); obtain ⟨t, ht⟩ : ∃ t, ks[j]? = some t := ⟨_, List.getElem?_eq_getElem hjl⟩
        obtain ⟨p', ks'⟩ := t; obtain ⟨cs, hcs, hcell⟩ := hall j (.mk p' ks') ht; obtain ⟨A', c', rfl, hc', hkr'⟩ := tree_mk.1 (show LiT w (· < w.heap.size) (.mk p' ks') cs from hcs); obtain ⟨v, T, hkg, hown, hvg, hT, hLi⟩ := HL.out.row; have hbw : Below w.heap.size w wr := hb2.trans (HL.out.bel.mono hb2.size); have hwr := HL.out.bel.size; have hgl : g < wr.heap.size := hkg.lt; have hvl : ∀ i, v.ownBlock = some i → i < wr.heap.size := fun i hi => (hown.lt i hi).2; have hvb : ∀ i, v.ownBlock = some i → w.heap.size + 2 ≤ i := fun i hi => (hown.lt i hi).1; have hgw2 := HG.out
        have hbn : ¬ ApT g v b := by
          rintro (e | e)
          · omega
          · have := hvb _ e; omega
        have hlow : ∀ i, i < w.heap.size → ¬ ApT g v i := by
          rintro i hi (e | e)
          · omega
          · have := hvb _ e; omega
        have hcnt : cntT (.mk p' ks') ≤ n := by
          have := cnt_mem (List.mem_of_getElem? ht); omega
        have HE : Hid (∀ W, Keep (ApT g v) wr W → ∀ (q : Nat) (u : Value), (ec p' (.slice A' ks'.length c'))[q]? = some u → W.cell? ((aa.add (j * 18)).add q) = some u) := Lib.hid fun W hK q u hu => by
          rw [add_add]; exact ((hK.below (B := w.heap.size) (by omega) hlow).cell (by rw [add_block]; exact hab)).trans ((hbw.cell (by rw [add_block]; exact hab)).trans (hcell q u hu))
        have HR : Hid (∀ W, Keep (ApT g v) wr W → AtT W p' ks' A' c') := Lib.hid fun W hK => ⟨hc', ((hkr'.below (hbw.trans (hK.below (B := w.heap.size) (by omega) hlow)) (Nat.le_refl _)).mono (by have := hK.size; omega))⟩
        have HI := Lib.hid (ih p' ks' hcnt (by omega)); have HT := Lib.hid (And.intro ht (And.intro hT (And.intro hLi (And.intro hvb hwr)))); have HZ := Lib.hid (And.intro hgl (And.intro hvl (And.intro hvg (And.intro hbn hz2)))); have hbase : w.heap.size + 2 ≤ wr.heap.size := by omega
        have hxl : j ≤ 100000 := by omega
        clear hb2 hz2 hb0 hr0 hkr hat hatc hkids hn1 ih hab hall hcs hcell hkr' hT hLi hbw hwr hgw2 hlow hcnt ht hvb
        repeat' (first | go_values | go_skip | go_guarded | go_step | go_upon)
        have hst0 : S5 wr (w.heap.size + 2) g j (T.flatMap (·.1)) p v p' ks' [] wr.drew := ⟨(Keep.refl _ _).drew, hkg, hown⟩
        clear hown
        refine wp_region_phases (S := (S5 wr (w.heap.size + 2) g j (T.flatMap (·.1)) p v p' ks')) (E := (fun W W' => Keep (ApT g v) W W')) [1, 9, 11] [(0, Is (.agg (ec p (.slice (some aa) ks.length c)).toArray)), (1, Is (.pointer (some ⟨b, 0, none⟩))), (2, Is (.pointer (some ⟨r, 0, none⟩))), (3, Is (.pointer (some ⟨g, 0, none⟩))), (4, Is (.int .i64 j)), (5, Is (y5)), (6, Is (y6)), (7, Is (y7)), (8, Is (y8)), (9, Is (y9)), (10, Is (y10)), (11, Is (y11)), (12, Is (y12)), (13, Is (y13)), (14, Is (y14)), (15, Is (y15)), (16, Is (y16)), (17, Is (y17)), (36, Is (y36))] [(25, Is (.pointer (some ⟨g, 17, none⟩))), (27, Is (.pointer (some ⟨b, 17, none⟩))), (28, Is (.slice (some aa) ks.length c)), (29, Is (.int .i64 j)), (30, Is (.pointer (some (aa.add (j * 18))))), (31, Is (.agg (ec p' (.slice A' ks'.length c')).toArray)), (32, ToF wr.heap.size p' ks'), (33, ToX wr.heap.size p' ks'), (35, Is (.pointer (some ⟨g, 17, none⟩)))]
          [.op [3] none, .phase 0 [25] [], .op [1] none, .op [27] none, .op [4] none, .op [28, 29] none, .op [30] none, .op [31] none, .op [32] none, .phase 1 [33] [(0, 26)], .op [3] none, .phase 2 [35] [(1, 34)]] (by as_aux_lemma => kernel_rfl) ?_ ?_ ?_ ?_ ?_ ⟨stable_is _ _, stable_is _ _, stable_is _ _, stable_is _ _, stable_is _ _, stable_is _ _, stable_is _ _, stable_is _ _, stable_is _ _, stable_is _ _, stable_is _ _, stable_is _ _, stable_is _ _, stable_is _ _, stable_is _ _, stable_is _ _, stable_is _ _, stable_is _ _, stable_is _ _, stable_is _ _, stable_is _ _, stable_is _ _, stable_is _ _, stable_is _ _, stable_is _ _, stab_toF HZ.out.1 HZ.out.2.1, stab_toX HZ.out.1 HZ.out.2.1, stable_is _ _, trivial⟩ ?_ hst0 ?_ ?_
        · as_aux_lemma => kernel_rfl
        · as_aux_lemma => kernel_rfl
        · as_aux_lemma => kernel_rfl
        · as_aux_lemma => kernel_rfl
        · as_aux_lemma => kernel_rfl
        · exact ⟨rfl, rfl, rfl, rfl, rfl, rfl, rfl, rfl, rfl, rfl, rfl, rfl, rfl, rfl, rfl, rfl, rfl, rfl, rfl, trivial⟩
        · refine ⟨?_, ?_, ?_, ?_, ?_, ?_, ?_, ?_, ?_, ?_, ?_, ?_, trivial⟩
          · as_aux_lemma => intro vals a W hS hL; have e3 : a.tmps.getD 3 undef = .pointer (some ⟨g, 0, none⟩) := hL.1; clear hL; go_simp; exact ⟨dstY (by rfl), hS, Keep.refl _ _⟩
          · as_aux_lemma =>
              intro a W vals hv hS hL hp; have e25 : a.tmps.getD 25 undef = .pointer (some ⟨g, 17, none⟩) := hL.1; clear hL
              match vals, hv, hS with
              | [], _, hS =>
                have fb : W.cell? ⟨g, 17, none⟩ = some v := hS.2.1.cell 17; go_simp; exact ⟨⟨rfl, hS⟩, trivial, Keep.refl _ _⟩
          · as_aux_lemma => intro vals a W hS hL; have e1 : a.tmps.getD 1 undef = .pointer (some ⟨b, 0, none⟩) := hL.1; clear hL; go_simp; exact ⟨dstY (by rfl), hS, Keep.refl _ _⟩
          · as_aux_lemma => intro vals a W hS hL; have e27 : a.tmps.getD 27 undef = .pointer (some ⟨b, 17, none⟩) := hL.1; clear hL; have fb : W.cell? ⟨b, 17, none⟩ = some (.slice (some aa) ks.length c) := ((S5.keep hS).bk hkbr HZ.out.2.2.2.1).cell 17; go_simp; exact ⟨dstY (by rfl), hS, Keep.refl _ _⟩
          · as_aux_lemma => intro vals a W hS hL; have e4 : a.tmps.getD 4 undef = .int .i64 j := hL.1; clear hL; go_simp; exact ⟨dstY (by rfl), hS, Keep.refl _ _⟩
          · as_aux_lemma => intro vals a W hS hL; have e28 : a.tmps.getD 28 undef = .slice (some aa) ks.length c := hL.1; have e29 : a.tmps.getD 29 undef = .int .i64 j := hL.2.1; clear hL; go_simp; exact ⟨dstY (by rfl), hS, Keep.refl _ _⟩
          · as_aux_lemma => intro vals a W hS hL; have e30 : a.tmps.getD 30 undef = .pointer (some (aa.add (j * 18))) := hL.1; clear hL; refine lands_v (run_ldr (p := p') (k := .slice A' ks'.length c') (.tmp 30) rfl e30 (HE.out W (S5.keep hS))) ?_; exact ⟨dstY (by rfl), hS, Keep.refl _ _⟩
          · as_aux_lemma => intro vals a W hS hL; have e31 : a.tmps.getD 31 undef = .agg (ec p' (.slice A' ks'.length c')).toArray := hL.1; clear hL; go_simp; refine (HI.out W A' c' (HR.out W (S5.keep hS))).mono ?_; rintro e W2 ⟨u, rfl, hf, hb⟩; have hsz := (S5.keep hS).size; exact ⟨u, rfl, ⟨fun d hd => by injection hd with hd; subst hd; exact hf.low hsz, fun h => by cases h⟩, hS.below hb, Keep.of_below hb fun i hi h => by omega⟩
          · as_aux_lemma => intro vals a W hS hL; have e32 := hL.1; clear hL; obtain ⟨A2, c2, e32, hc2, hr2⟩ := e32; have hsz := (S5.keep hS).size; refine lands_v (run_bs (.tmp 32) rfl e32) ?_; exact ⟨⟨fun d hd => by injection hd with hd; subst hd; exact ⟨_, A2, c2, rfl, hsz, Bk.new _ _ _, hc2, hr2.move (Move.of_below (bel0 W _) (fun i hi => hi.2) fun i hi => ⟨hi.1, by have := (bel0 W (.cells (ec p' (.slice A2 ks'.length c2)).toArray 47)).size; have := hi.2; omega⟩)⟩, fun h => by cases h⟩, hS.below (bel0 W _), Keep.of_below (bel0 W _) fun i hi h => by omega⟩
          · as_aux_lemma =>
              intro a W vals hv hS hL hp; have e33 := hL.1; clear hL; obtain ⟨h, A2, c2, e33, hh, hkx, hc2, hr2⟩ := e33
              match vals, hv, hS, hp with
              | [u], _, hS, hp =>
                obtain ⟨rfl, hK, hbx, hrow⟩ := hS; have e26 := (Option.some.inj (hp.1 (by simp))).symm; have hsz := hK.size; refine lands_app exprRow (.tmp 26) (.tmp 33) rfl e26 e33 hrow (bk_rd (k := 18) (n := 1) hkx rfl) (ec_one p') (by unfold maxLen; omega) (by omega) (by omega) fun v2_ w2_ o2_ g2_ => ?_; have hA := S5.appended (W0 := wr) ⟨rfl, hK, hbx, hrow⟩ g2_ o2_ HZ.out.2.2.1 HZ.out.2.1 hc2 hr2; exact ⟨hA.1, trivial, hA.2⟩
          · as_aux_lemma => intro vals a W hS hL; have e3 : a.tmps.getD 3 undef = .pointer (some ⟨g, 0, none⟩) := hL.1; clear hL; go_simp; exact ⟨dstY (by rfl), hS, Keep.refl _ _⟩
          · as_aux_lemma =>
              intro a W vals hv hS hL hp; have e35 : a.tmps.getD 35 undef = .pointer (some ⟨g, 17, none⟩) := hL.1; clear hL
              match vals, hv, hS, hp with
              | [u, v1], _, hS, hp =>
                have e34 := (Option.some.inj (hp.1 (by simp))).symm; obtain ⟨hli, A2, c2, ho2, -⟩ := hS.2.2
                have hug : v1.ownBlock ≠ some g := fun e => by
                  rcases hli with h | ⟨q, h, hq⟩
                  · exact HZ.out.2.2.1 (h.symm.trans e)
                  · rw [e] at h; injection h with h; have := HZ.out.1; omega
                obtain ⟨S1, cS, e1, -⟩ := own_form ho2; subst e1; have fb : W.cell? ⟨g, 17, none⟩ = some v := hS.2.1.cell 17; have zb := hS.2.1.frozen 17; have hF := S5.stored (x := undef) hS HZ.out.1 hug; rw [Array.getD_eq_getD_getElem?] at e34; clear hS ho2 hli hug; go_simp; exact ⟨hF.1, trivial, hF.2⟩
        intro a W' vals hd hsz hT hF hv hP hS
        obtain ⟨x0, u, x2, rfl⟩ : ∃ x0 u x2, vals = [x0, u, x2] := by
          match vals, hv with
          | [x, y, z], _ => exact ⟨x, y, z, rfl⟩
        obtain ⟨hK, hkg2, hNw⟩ := hS; have e0 : a.tmps.getD 0 undef = .agg (ec p (.slice (some aa) ks.length c)).toArray := hT 0 (by simp); have e1 : a.tmps.getD 1 undef = .pointer (some ⟨b, 0, none⟩) := hT 1 (by simp); have e2 : a.tmps.getD 2 undef = .pointer (some ⟨r, 0, none⟩) := hT 2 (by simp); have e3 : a.tmps.getD 3 undef = .pointer (some ⟨g, 0, none⟩) := hT 3 (by simp); have e4 : a.tmps.getD 4 undef = .int .i64 j := hT 4 (by simp); have e5 : a.tmps.getD 5 undef = y5 := hT 5 (by simp); have e6 : a.tmps.getD 6 undef = y6 := hT 6 (by simp); have e7 : a.tmps.getD 7 undef = y7 := hT 7 (by simp); have e8 : a.tmps.getD 8 undef = y8 := hT 8 (by simp); have e9 : a.tmps.getD 9 undef = y9 := hT 9 (by simp); have e10 : a.tmps.getD 10 undef = y10 := hT 10 (by simp); have e11 : a.tmps.getD 11 undef = y11 := hT 11 (by simp); have e12 : a.tmps.getD 12 undef = y12 := hT 12 (by simp); have e13 : a.tmps.getD 13 undef = y13 := hT 13 (by simp); have e14 : a.tmps.getD 14 undef = y14 := hT 14 (by simp); have e15 : a.tmps.getD 15 undef = y15 := hT 15 (by simp); have e16 : a.tmps.getD 16 undef = y16 := hT 16 (by simp); have e17 : a.tmps.getD 17 undef = y17 := hT 17 (by simp); have e36 : a.tmps.getD 36 undef = y36 := hT 36 (by simp); clear hT hF hP; rw [act_lit 37 a hd hsz]; simp only [List.range, List.range.loop, List.map, e0, e1, e2, e3, e4, e5, e6, e7, e8, e9, e10, e11, e12, e13, e14, e15, e16, e17, e36]; clear hd hsz e0 e1 e2 e3 e4 e5 e6 e7 e8 e9 e10 e11 e12 e13 e14 e15 e16 e17 e36; generalize a.tmps.getD 18 undef = z18, a.tmps.getD 19 undef = z19, a.tmps.getD 20 undef = z20, a.tmps.getD 21 undef = z21, a.tmps.getD 22 undef = z22, a.tmps.getD 23 undef = z23, a.tmps.getD 24 undef = z24, a.tmps.getD 25 undef = z25, a.tmps.getD 26 undef = z26, a.tmps.getD 27 undef = z27, a.tmps.getD 28 undef = z28, a.tmps.getD 29 undef = z29, a.tmps.getD 30 undef = z30, a.tmps.getD 31 undef = z31, a.tmps.getD 32 undef = z32, a.tmps.getD 33 undef = z33, a.tmps.getD 34 undef = z34, a.tmps.getD 35 undef = z35; have HN := Lib.hid (And.intro hK (And.intro hkg2 hNw)); clear hK hkg2 hNw hst0 hkg hkbr c17
        repeat' (first | go_values | go_skip | go_guarded | go_step | go_upon)
        go_roundw
        case rel =>
          obtain ⟨hK, hkg2, hli, A2, c2, ho2, hc2, hr2⟩ := HN.out; obtain ⟨ht, hT, hLi, hvb, hwr⟩ := HT.out; obtain ⟨hgl, hvl, hvg, hbn, hz2⟩ := HZ.out; have hg2 := HG.out
          have hus : ∀ i, i < wr.heap.size → v.ownBlock ≠ some i → u.ownBlock ≠ some i := fun i hi hn e => by
            rcases hli with h | ⟨q, h, hq⟩
            · exact hn (h.symm.trans e)
            · rw [e] at h; injection h with h; omega
          refine ⟨j + 1, by go_num, by omega, Lib.hid ⟨?_, u, T ++ [(ec p' (.slice A2 ks'.length c2), .mk p' ks')], hkg2, ?_, hus g hgl hvg, ?_, ?_⟩⟩
          · exact HL.out.bel.trans (hK.below (B := w2.heap.size) hwr fun i hi e => by
              rcases e with e | e
              · omega
              · have := hvb i e; omega)
          · rw [List.flatMap_append]
            simpa using ho2
          · rw [List.map_append, hT, List.take_add_one, ht]; rfl
          · intro x hx
            rcases List.mem_append.1 hx with hx | hx
            · refine liT_move (hK.move (fun i hi => ⟨hi.2.1, fun e => ?_⟩) fun i hi => ⟨hi.1, by have := hK.size; have := hi.2.1; omega, hus i hi.2.1 hi.2.2.1, hi.2.2.2⟩) (hLi x hx)
              rcases e with e | e
              · exact hi.2.2.2 e
              · exact hi.2.2.1 e
            · simp only [List.mem_singleton] at hx; subst hx; exact tree_mk.2 ⟨A2, c2, rfl, hc2, hr2.move (Move.wide fun i hi => ⟨by have := hi.1; omega, hi.2.1, hi.2.2, by have := hi.1; omega⟩)⟩
        case measure => simp [intOf]; omega
      · have hjl' : ¬ (j : Int) < (ks.length : Int) := by omega
        obtain rfl : j = ks.length := by omega
        obtain ⟨v, T, hkg, hown, hvg, hT, hLi⟩ := HL.out.row; have HX := Lib.hid (And.intro hown (And.intro hT hLi)); obtain ⟨S, cS, rfl, -⟩ := own_form hown; clear hown hT hLi hvg
        repeat' (first | ((with_reducible show Oper.wp _ _ _ _ _ _); apply ld_p; exact rfl; exact rfl; assumption; go_simp) | ((with_reducible show Oper.wp _ _ _ _ _ _); apply stop_s; exact rfl) | go_values | go_skip | go_guarded | go_step | go_upon)
        refine Lib.hid ?_; obtain ⟨hb2, hz2, hb0, hr0, hkr, hat, hatc, hkids, hn1, ih⟩ := HW.out; have hrl := hkr.lt; have hkr2 := hkr.below HL.out.bel hrl; apply st_p
        · exact rfl
        · exact rfl
        · exact rfl
        · exact hkr2
        · exact rfl
        intro W2 hm2 hK2 hzz; clear hb2 hz2 hb0 hr0 hkr hat hatc hkids hn1 ih hrl hkr2 hkg hkbr c17; go_simp
        repeat' (first | go_values | go_skip | go_guarded | go_step | go_upon)
        refine bodyPost_ret (res_one rfl rfl hm2 rfl) rfl ?_; obtain ⟨hb2, hz2, hb0, hr0, hkr, hat, hatc, hkids, hn1, ih⟩ := HW.out; obtain ⟨hown, hT, hLi⟩ := HX.out; rw [List.take_length] at hT; have hOF : OwnF treeF wr (Gx (w.heap.size + 2) g (.slice S ks.length cS) wr) (w.heap.size + 2) 47 (.slice S ks.length cS) ks := ⟨T, hT, hLi, hown⟩
        obtain ⟨S', c2, e2, hc2, hrow⟩ := hOF.read (F' := fun i => w.heap.size + 2 ≤ i ∧ i < wr.heap.size) (fun i hi => hown.lt i hi) fun i hi => ⟨hi.1, hi.2.1⟩
        injection e2 with e2 _ e3; subst e2 e3; have hbw : Below w.heap.size w wr := hb2.trans (HL.out.bel.mono hb2.size); refine ⟨_, rfl, ⟨S, cS, rfl, hc2, hrow.move (hK2.move (fun i hi => ⟨hi.2, by omega⟩) fun i hi => ⟨by have := hi.1; omega, by have := hi.2; omega⟩)⟩, ?_⟩; exact hbw.trans (hK2.below (B := w.heap.size) hbw.size fun i hi e => by omega)
end Go.Proofs.YtlaiocdnddnnaaaGreatDoor
