/- ptg.getStr, by their contracts. Conditions: the bytes read as such; utf8.ValidString keeps its contract. -/
import Derived.Test.YtlaiocdnddnnaaaGreatDoorDe0
set_option linter.unusedVariables false
set_option linter.unusedSimpArgs false
namespace Go.Proofs.YtlaiocdnddnnaaaGreatDoor
open Go.RowKit
def GtOk (w : World) (A : Option Addr) (n c : Nat) (g : Got × Nat) (e : Ending) (W : World) : Prop := ∃ (q : Got) (z : Int), e = .returned (.tuple #[.agg (tkV q).toArray, .agg (cu A n c z).toArray, .int .i64 g.1.err]) ∧ (g.1.err = 0 → q.pay = g.1.pay ∧ q.takes = g.1.takes ∧ z = g.2) ∧ Below w.heap.size w W
set_option maxRecDepth 20000 in
set_option maxHeartbeats 4000000 in
theorem getStr_err {w : World} (HVw : Val w) {A : Option Addr} {n c B i j : Nat} {l t : List UInt8} {E : Int} (HH : Hid (Rd w B 1 A n (l.map bv) ∧ B ≤ w.heap.size))
    (HG : Hid (∀ W : World, Rd W B 1 A n (l.map bv) → B ≤ W.heap.size → Calls Tryz.prog 118 #[.agg #[.slice A n c, .int .i64 i], .slice none 0 0] W fun e W' => e = .returned (.tuple #[.string ⟨t.toArray⟩, .agg #[.slice A n c, .int .i64 j], .int .i64 E]) ∧ Below W.heap.size W W')) (hE : ¬ E = 0) :
    Calls Tryz.prog 103 #[.agg #[.slice A n c, .int .i64 i]] w fun e W => e = .returned (.tuple #[.agg (tc zp (.slice none 0 0) 0).toArray, .agg (cu A n c i).toArray, .int .i64 E]) ∧ Below w.heap.size w W := by
  have hE2 : (E != 0) = true := by simpa using hE
  have hE3 : (E == 0) = false := by simpa using hE
  have HB : Hid (BX w [] w) := Lib.hid (BX.start w); go_enter Tryz.func103, Tryz.ntmps103
  repeat' (first | ((with_reducible show Oper.wp _ _ _ _ _ _); with_reducible refine stop_bx _ rfl ?_) | go_values | go_skip | go_guarded | go_step | go_upon)
  refine Lib.hid ?_; refine al_g HB 82 (cu A n c i) (by kernel_rfl) ?_; clear HB
  (first | (have _t : Nat := g10; clear _t; intro g11 W HB) | (have _t : Nat := g9; clear _t; intro g10 W HB) | (have _t : Nat := g8; clear _t; intro g9 W HB) | (have _t : Nat := g7; clear _t; intro g8 W HB) | (have _t : Nat := g6; clear _t; intro g7 W HB) | (have _t : Nat := g5; clear _t; intro g6 W HB) | (have _t : Nat := g4; clear _t; intro g5 W HB) | (have _t : Nat := g3; clear _t; intro g4 W HB) | (have _t : Nat := g2; clear _t; intro g3 W HB) | (have _t : Nat := g1; clear _t; intro g2 W HB) | (have _t : Nat := g0; clear _t; intro g1 W HB) | intro g0 W HB)
  go_simp
  repeat' (first | ((with_reducible show Oper.wp _ _ _ _ _ _); (first | ((first | (with_reducible refine is_al 82 rfl ?_; refine al_g HB 82 (cu none 0 0 0) (by kernel_rfl) ?_) | (with_reducible refine is_al 144 rfl ?_; refine al_g HB 144 (tc zp (.slice none 0 0) 0) (by kernel_rfl) ?_)); clear HB; (first | (have _t : Nat := g1; clear _t; intro g2 W HB) | (have _t : Nat := g0; clear _t; intro g1 W HB)); go_simp) | (with_reducible refine is_ld 82 _ rfl ?_; refine ld_cu 2 HB rfl _ rfl rfl ?_; go_simp))) | go_values | go_skip | go_guarded | go_step | go_upon)
  refine (HG.out _ (HH.out.1.belowMono HB.out.bel HH.out.2) (Nat.le_trans HH.out.2 HB.out.bel.size)).mono ?_; rintro e W1 ⟨rfl, hb⟩; have HB := Lib.hid (HB.out.call hb); clear hb; dsimp only
  repeat' (first | ((with_reducible show Oper.wp _ _ _ _ _ _); (first | (with_reducible refine is_al 82 rfl ?_; refine al_g HB 82 (cu none 0 0 0) (by kernel_rfl) ?_; clear HB; intro g3 W HB; go_simp) | (with_reducible refine is_st 82 _ _ rfl ?_; refine st_cu 0 HB rfl _ _ rfl rfl rfl ?_; clear HB; intro W HB; dsimp only [List.set] at HB; go_simp))) | go_values | go_skip | go_guarded | go_step | go_upon)
  refine wp_region_phases (S := (SBN w [[(g3, 82, cu A n c j), (g2, 82, cu none 0 0 0), (g1, 144, tc zp (.slice none 0 0) 0), (g0, 82, cu A n c i)], [(g3, 82, cu A n c j), (g2, 82, cu none 0 0 0), (g1, 144, tc zp (.slice none 0 0) 0), (g0, 82, cu A n c i)], [(g3, 82, cu A n c j), (g2, 82, cu A n c i), (g1, 144, tc zp (.slice none 0 0) 0), (g0, 82, cu A n c i)]])) (E := (fun _ _ => True)) [3, 4] [(1, Is (.pointer (some ⟨g0, 0, none⟩))), (2, Is (.pointer (some ⟨g1, 0, none⟩))), (3, Is (.pointer (some ⟨g2, 0, none⟩))), (6, Is (.pointer (some ⟨g3, 0, none⟩))), (5, Is (.string ⟨t.toArray⟩)), (7, Is (.int .i64 E))] [(18, Is (.agg (tc zp (.slice none 0 0) 0).toArray)), (19, Is (.agg (cu A n c i).toArray)), (20, Is (.int .i64 E)), (4, Is (.int .i64 E))]
    [.op [] none, .op [1] none, .op [7] none, .phase 0 [2, 18] [], .phase 1 [3, 19] [], .op [20] none] (by as_aux_lemma => kernel_rfl) ?_ ?_ ?_ ?_ ?_ ⟨stable_is _ _, stable_is _ _, stable_is _ _, stable_is _ _, stable_is _ _, stable_is _ _, stable_is _ _, stable_is _ _, stable_is _ _, stable_is _ _, trivial⟩ ?_ HB.out.drew ?_ ?_
  · as_aux_lemma => kernel_rfl
  · as_aux_lemma => kernel_rfl
  · as_aux_lemma => kernel_rfl
  · as_aux_lemma => kernel_rfl
  · as_aux_lemma => kernel_rfl
  · exact ⟨rfl, rfl, rfl, rfl, rfl, rfl, trivial⟩
  · refine ⟨?_, ?_, ?_, ?_, ?_, ?_, trivial⟩
    · as_aux_lemma => intro vals a W hS hL; clear hL; refine lands_vB (v := .agg (tc zp (.slice none 0 0) 0).toArray) (w' := W) (by kernel_rfl) ?_; exact ⟨dstY (by rfl), hS, trivial⟩
    · as_aux_lemma => intro vals a W hS hL; have e1 : a.tmps.getD 1 undef = .pointer (some ⟨g0, 0, none⟩) := hL.1; clear hL; refine lands_vB (run_ldg rtCur (hS.get 3 ⟨rfl, rfl, rfl, trivial⟩) (.tmp 1) rfl e1) ?_; exact ⟨dstY (by rfl), hS, trivial⟩
    · as_aux_lemma => intro vals a W hS hL; have e7 : a.tmps.getD 7 undef = .int .i64 E := hL.1; clear hL; go_simp; exact ⟨dstY (by rfl), hS, trivial⟩
    · as_aux_lemma =>
        intro a W vals hv hS hL hp; have e2 : a.tmps.getD 2 undef = .pointer (some ⟨g1, 0, none⟩) := hL.1; have e18 : a.tmps.getD 18 undef = .agg (tc zp (.slice none 0 0) 0).toArray := hL.2.1; clear hL
        match vals, hv, hS with
        | [], _, hS =>
          refine lands_stg (vs := tc zp (.slice none 0 0) 0) rtTok tc_one (i := 2) (show BX w [(g3, 82, cu A n c j), (g2, 82, cu none 0 0 0), (g1, 144, tc zp (.slice none 0 0) 0), (g0, 82, cu A n c i)] W from hS) rfl rfl (.tmp 2) (.tmp 18) rfl e2 e18 fun W2 h2 => ?_; exact ⟨h2, trivial, trivial⟩
    · as_aux_lemma =>
        intro a W vals hv hS hL hp; have e3 : a.tmps.getD 3 undef = .pointer (some ⟨g2, 0, none⟩) := hL.1; have e19 : a.tmps.getD 19 undef = .agg (cu A n c i).toArray := hL.2.1; clear hL
        match vals, hv, hS with
        | [u0], _, hS =>
          refine lands_stg (vs := cu A n c i) rtCur cu_one (i := 1) (show BX w [(g3, 82, cu A n c j), (g2, 82, cu none 0 0 0), (g1, 144, tc zp (.slice none 0 0) 0), (g0, 82, cu A n c i)] W from hS) rfl rfl (.tmp 3) (.tmp 19) rfl e3 e19 fun W2 h2 => ?_; exact ⟨h2, trivial, trivial⟩
    · as_aux_lemma => intro vals a W hS hL; have e20 : a.tmps.getD 20 undef = .int .i64 E := hL.1; clear hL; go_simp; exact ⟨dstY (by rfl), hS, trivial⟩
  · intro a W vals hd hsz hT hF hv hP hS
    obtain ⟨v0, v1, rfl⟩ : ∃ v0 v1, vals = [v0, v1] := by
      match vals, hv with
      | [xv0, xv1], _ => exact ⟨xv0, xv1, rfl⟩
    have HB : Hid (BX w [(g3, 82, cu A n c j), (g2, 82, cu A n c i), (g1, 144, tc zp (.slice none 0 0) 0), (g0, 82, cu A n c i)] W) := Lib.hid hS; have e1 : a.tmps.getD 1 undef = .pointer (some ⟨g0, 0, none⟩) := hT 1 (by simp); have e2 : a.tmps.getD 2 undef = .pointer (some ⟨g1, 0, none⟩) := hT 2 (by simp); have e3 : a.tmps.getD 3 undef = .pointer (some ⟨g2, 0, none⟩) := hT 3 (by simp); have e6 : a.tmps.getD 6 undef = .pointer (some ⟨g3, 0, none⟩) := hT 6 (by simp); have e5 : a.tmps.getD 5 undef = .string ⟨t.toArray⟩ := hT 5 (by simp); have e7 : a.tmps.getD 7 undef = .int .i64 E := hT 7 (by simp); have e4 : a.tmps.getD 4 undef = .int .i64 E := hT 4 (by simp); clear hT hF hP hS; rw [act_lit 42 a hd hsz]; simp only [List.range, List.range.loop, List.map, e1, e2, e3, e6, e5, e7, e4]; clear e1 e2 e3 e6 e5 e7 e4 hsz hd; generalize a.tmps.getD 0 undef = y0, a.tmps.getD 8 undef = y8, a.tmps.getD 9 undef = y9, a.tmps.getD 10 undef = y10, a.tmps.getD 11 undef = y11, a.tmps.getD 12 undef = y12, a.tmps.getD 13 undef = y13, a.tmps.getD 14 undef = y14, a.tmps.getD 15 undef = y15, a.tmps.getD 16 undef = y16, a.tmps.getD 17 undef = y17, a.tmps.getD 18 undef = y18, a.tmps.getD 19 undef = y19, a.tmps.getD 20 undef = y20, a.tmps.getD 21 undef = y21, a.tmps.getD 22 undef = y22, a.tmps.getD 23 undef = y23, a.tmps.getD 24 undef = y24, a.tmps.getD 25 undef = y25, a.tmps.getD 26 undef = y26, a.tmps.getD 27 undef = y27, a.tmps.getD 28 undef = y28, a.tmps.getD 29 undef = y29, a.tmps.getD 30 undef = y30, a.tmps.getD 31 undef = y31, a.tmps.getD 32 undef = y32, a.tmps.getD 33 undef = y33, a.tmps.getD 34 undef = y34, a.tmps.getD 35 undef = y35, a.tmps.getD 36 undef = y36, a.tmps.getD 37 undef = y37, a.tmps.getD 38 undef = y38, a.tmps.getD 39 undef = y39, a.tmps.getD 40 undef = y40, a.tmps.getD 41 undef = y41
    repeat' (first | go_values | go_skip | go_guarded | go_step | go_upon)
    exact bodyPost_ret (res_tcn rfl 2 1 HB rfl rfl rfl rfl rfl) rfl ⟨rfl, HB.out.bel⟩
set_option maxRecDepth 20000 in
set_option maxHeartbeats 4000000 in
theorem getStr_bad {w : World} (HVw : Val w) {A : Option Addr} {n c B i j : Nat} {l t : List UInt8} (HH : Hid (Rd w B 1 A n (l.map bv) ∧ B ≤ w.heap.size))
    (HG : Hid (∀ W : World, Rd W B 1 A n (l.map bv) → B ≤ W.heap.size → Calls Tryz.prog 118 #[.agg #[.slice A n c, .int .i64 i], .slice none 0 0] W fun e W' => e = .returned (.tuple #[.string ⟨t.toArray⟩, .agg #[.slice A n c, .int .i64 j], .int .i64 0]) ∧ Below W.heap.size W W')) (HIJ : Hid (i ≤ j ∧ j ≤ n ∧ n ≤ c)) (HT : Hid (t.length ≤ 100000)) (HQ : Hid (decide (putL [] t = (l.drop i).take (j - i)) = false)) :
    Calls Tryz.prog 103 #[.agg #[.slice A n c, .int .i64 i]] w fun e W => e = .returned (.tuple #[.agg (tc zp (.slice none 0 0) 0).toArray, .agg (cu A n c i).toArray, .int .i64 2]) ∧ Below w.heap.size w W := by
  have HB : Hid (BX w [] w) := Lib.hid (BX.start w); go_enter Tryz.func103, Tryz.ntmps103
  repeat' (first | ((with_reducible show Oper.wp _ _ _ _ _ _); with_reducible refine stop_bx _ rfl ?_) | go_values | go_skip | go_guarded | go_step | go_upon)
  refine Lib.hid ?_; refine al_g HB 82 (cu A n c i) (by kernel_rfl) ?_; clear HB
  (first | (have _t : Nat := g10; clear _t; intro g11 W HB) | (have _t : Nat := g9; clear _t; intro g10 W HB) | (have _t : Nat := g8; clear _t; intro g9 W HB) | (have _t : Nat := g7; clear _t; intro g8 W HB) | (have _t : Nat := g6; clear _t; intro g7 W HB) | (have _t : Nat := g5; clear _t; intro g6 W HB) | (have _t : Nat := g4; clear _t; intro g5 W HB) | (have _t : Nat := g3; clear _t; intro g4 W HB) | (have _t : Nat := g2; clear _t; intro g3 W HB) | (have _t : Nat := g1; clear _t; intro g2 W HB) | (have _t : Nat := g0; clear _t; intro g1 W HB) | intro g0 W HB)
  go_simp
  repeat' (first | ((with_reducible show Oper.wp _ _ _ _ _ _); (first | ((first | (with_reducible refine is_al 82 rfl ?_; refine al_g HB 82 (cu none 0 0 0) (by kernel_rfl) ?_) | (with_reducible refine is_al 144 rfl ?_; refine al_g HB 144 (tc zp (.slice none 0 0) 0) (by kernel_rfl) ?_)); clear HB; (first | (have _t : Nat := g1; clear _t; intro g2 W HB) | (have _t : Nat := g0; clear _t; intro g1 W HB)); go_simp) | (with_reducible refine is_ld 82 _ rfl ?_; refine ld_cu 2 HB rfl _ rfl rfl ?_; go_simp))) | go_values | go_skip | go_guarded | go_step | go_upon)
  refine (HG.out _ (HH.out.1.belowMono HB.out.bel HH.out.2) (Nat.le_trans HH.out.2 HB.out.bel.size)).mono ?_; rintro e W1 ⟨rfl, hb⟩; have HB := Lib.hid (HB.out.call hb); clear hb; dsimp only
  repeat' (first | ((with_reducible show Oper.wp _ _ _ _ _ _); (first | (with_reducible refine is_al 82 rfl ?_; refine al_g HB 82 (cu none 0 0 0) (by kernel_rfl) ?_; clear HB; intro g3 W HB; go_simp) | (with_reducible refine is_st 82 _ _ rfl ?_; refine st_cu 0 HB rfl _ _ rfl rfl rfl ?_; clear HB; intro W HB; dsimp only [List.set] at HB; go_simp))) | go_values | go_skip | go_guarded | go_step | go_upon)
  refine (put_any (b := []) (B := 0) (c := 0) (HVw.below HB.out.bel) (Rd.nil _ 0 1 none) (Nat.zero_le _) (Nat.zero_le _) ⟨t.toArray⟩ (show t.toArray.size ≤ 100000 by simpa using HT.out)).mono ?_; rintro e W1 ⟨v', n', rfl, ho, hb⟩; have HBp := HB; have HB := Lib.hid (HB.out.call hb); obtain ⟨A1, c1, rfl, hc1, -, hr1⟩ := own_form ho; have HR1 : Hid (Rd W1 W1.heap.size 1 A1 n' ((putL [] t).map bv)) := Lib.hid (by simpa using hr1); clear hb ho hr1 hc1; dsimp only
  repeat' (first | ((with_reducible show Oper.wp _ _ _ _ _ _); (first | ((first | (with_reducible refine is_ld 3 _ rfl ?_; refine lf_int 0 HB rfl _ rfl rfl rfl ?_) | (with_reducible refine is_ld 3 _ rfl ?_; refine lf_int 3 HB rfl _ rfl rfl rfl ?_) | (with_reducible refine is_ld 35 _ rfl ?_; refine lf_bs 3 HB rfl _ rfl rfl rfl ?_)); go_simp) | with_reducible refine stop_sl _ _ _ _ rfl ?_)) | go_values | go_skip | go_guarded | go_step | go_upon)
  refine Lib.hid ?_; refine wp_lh _ _ _ rfl rfl rfl rfl (run_lh _ A n c i j HIJ.out.1 (Nat.le_trans HIJ.out.2.1 HIJ.out.2.2)) ?_; go_simp
  repeat' (first | go_values | go_skip | go_guarded | go_step | go_upon)
  refine (bequal_any HR1.out (rd_advB (HH.out.1.belowMono HB.out.bel HH.out.2) HIJ.out.1 HIJ.out.2.1 HIJ.out.2.2)).mono ?_; rintro e W2 ⟨rfl, hw2⟩; have hw2 := hw2.symm; subst hw2; dsimp only; rw [HQ.out]
  repeat' (first | go_values | go_skip | go_guarded | go_step | go_upon)
  refine wp_region_phases (S := (SBN w [[(g3, 82, cu A n c j), (g2, 82, cu none 0 0 0), (g1, 144, tc zp (.slice none 0 0) 0), (g0, 82, cu A n c i)], [(g3, 82, cu A n c j), (g2, 82, cu none 0 0 0), (g1, 144, tc zp (.slice none 0 0) 0), (g0, 82, cu A n c i)], [(g3, 82, cu A n c j), (g2, 82, cu A n c i), (g1, 144, tc zp (.slice none 0 0) 0), (g0, 82, cu A n c i)]])) (E := (fun _ _ => True)) [2, 3] [(1, Is (.pointer (some ⟨g0, 0, none⟩))), (2, Is (.pointer (some ⟨g1, 0, none⟩))), (3, Is (.pointer (some ⟨g2, 0, none⟩))), (6, Is (.pointer (some ⟨g3, 0, none⟩))), (5, Is (.string ⟨t.toArray⟩)), (7, Is (.int .i64 0))] [(36, Is (.agg (tc zp (.slice none 0 0) 0).toArray)), (37, Is (.agg (cu A n c i).toArray)), (4, Is (.int .i64 2))]
    [.op [] none, .op [1] none, .phase 0 [2, 36] [], .phase 1 [3, 37] [], .op [] none] (by as_aux_lemma => kernel_rfl) ?_ ?_ ?_ ?_ ?_ ⟨stable_is _ _, stable_is _ _, stable_is _ _, stable_is _ _, stable_is _ _, stable_is _ _, stable_is _ _, stable_is _ _, stable_is _ _, trivial⟩ ?_ HB.out.drew ?_ ?_
  · as_aux_lemma => kernel_rfl
  · as_aux_lemma => kernel_rfl
  · as_aux_lemma => kernel_rfl
  · as_aux_lemma => kernel_rfl
  · as_aux_lemma => kernel_rfl
  · exact ⟨rfl, rfl, rfl, rfl, rfl, rfl, trivial⟩
  · refine ⟨?_, ?_, ?_, ?_, ?_, trivial⟩
    · as_aux_lemma => intro vals a W hS hL; clear hL; refine lands_vB (v := .agg (tc zp (.slice none 0 0) 0).toArray) (w' := W) (by kernel_rfl) ?_; exact ⟨dstY (by rfl), hS, trivial⟩
    · as_aux_lemma => intro vals a W hS hL; have e1 : a.tmps.getD 1 undef = .pointer (some ⟨g0, 0, none⟩) := hL.1; clear hL; refine lands_vB (run_ldg rtCur (hS.get 3 ⟨rfl, rfl, rfl, trivial⟩) (.tmp 1) rfl e1) ?_; exact ⟨dstY (by rfl), hS, trivial⟩
    · as_aux_lemma =>
        intro a W vals hv hS hL hp; have e2 : a.tmps.getD 2 undef = .pointer (some ⟨g1, 0, none⟩) := hL.1; have e36 : a.tmps.getD 36 undef = .agg (tc zp (.slice none 0 0) 0).toArray := hL.2.1; clear hL
        match vals, hv, hS with
        | [], _, hS =>
          refine lands_stg (vs := tc zp (.slice none 0 0) 0) rtTok tc_one (i := 2) (show BX w [(g3, 82, cu A n c j), (g2, 82, cu none 0 0 0), (g1, 144, tc zp (.slice none 0 0) 0), (g0, 82, cu A n c i)] W from hS) rfl rfl (.tmp 2) (.tmp 36) rfl e2 e36 fun W2 h2 => ?_; exact ⟨h2, trivial, trivial⟩
    · as_aux_lemma =>
        intro a W vals hv hS hL hp; have e3 : a.tmps.getD 3 undef = .pointer (some ⟨g2, 0, none⟩) := hL.1; have e37 : a.tmps.getD 37 undef = .agg (cu A n c i).toArray := hL.2.1; clear hL
        match vals, hv, hS with
        | [u0], _, hS =>
          refine lands_stg (vs := cu A n c i) rtCur cu_one (i := 1) (show BX w [(g3, 82, cu A n c j), (g2, 82, cu none 0 0 0), (g1, 144, tc zp (.slice none 0 0) 0), (g0, 82, cu A n c i)] W from hS) rfl rfl (.tmp 3) (.tmp 37) rfl e3 e37 fun W2 h2 => ?_; exact ⟨h2, trivial, trivial⟩
    · as_aux_lemma => intro vals a W hS hL; clear hL; go_simp; exact ⟨dstY (by rfl), hS, trivial⟩
  · intro a W vals hd hsz hT hF hv hP hS
    obtain ⟨v0, v1, rfl⟩ : ∃ v0 v1, vals = [v0, v1] := by
      match vals, hv with
      | [xv0, xv1], _ => exact ⟨xv0, xv1, rfl⟩
    have HB : Hid (BX w [(g3, 82, cu A n c j), (g2, 82, cu A n c i), (g1, 144, tc zp (.slice none 0 0) 0), (g0, 82, cu A n c i)] W) := Lib.hid hS; have e1 : a.tmps.getD 1 undef = .pointer (some ⟨g0, 0, none⟩) := hT 1 (by simp); have e2 : a.tmps.getD 2 undef = .pointer (some ⟨g1, 0, none⟩) := hT 2 (by simp); have e3 : a.tmps.getD 3 undef = .pointer (some ⟨g2, 0, none⟩) := hT 3 (by simp); have e6 : a.tmps.getD 6 undef = .pointer (some ⟨g3, 0, none⟩) := hT 6 (by simp); have e5 : a.tmps.getD 5 undef = .string ⟨t.toArray⟩ := hT 5 (by simp); have e7 : a.tmps.getD 7 undef = .int .i64 0 := hT 7 (by simp); have e4 : a.tmps.getD 4 undef = .int .i64 2 := hT 4 (by simp); clear hT hF hP hS; rw [act_lit 42 a hd hsz]; simp only [List.range, List.range.loop, List.map, e1, e2, e3, e6, e5, e7, e4]; clear e1 e2 e3 e6 e5 e7 e4 hsz hd; generalize a.tmps.getD 0 undef = y0, a.tmps.getD 8 undef = y8, a.tmps.getD 9 undef = y9, a.tmps.getD 10 undef = y10, a.tmps.getD 11 undef = y11, a.tmps.getD 12 undef = y12, a.tmps.getD 13 undef = y13, a.tmps.getD 14 undef = y14, a.tmps.getD 15 undef = y15, a.tmps.getD 16 undef = y16, a.tmps.getD 17 undef = y17, a.tmps.getD 18 undef = y18, a.tmps.getD 19 undef = y19, a.tmps.getD 20 undef = y20, a.tmps.getD 21 undef = y21, a.tmps.getD 22 undef = y22, a.tmps.getD 23 undef = y23, a.tmps.getD 24 undef = y24, a.tmps.getD 25 undef = y25, a.tmps.getD 26 undef = y26, a.tmps.getD 27 undef = y27, a.tmps.getD 28 undef = y28, a.tmps.getD 29 undef = y29, a.tmps.getD 30 undef = y30, a.tmps.getD 31 undef = y31, a.tmps.getD 32 undef = y32, a.tmps.getD 33 undef = y33, a.tmps.getD 34 undef = y34, a.tmps.getD 35 undef = y35, a.tmps.getD 36 undef = y36, a.tmps.getD 37 undef = y37, a.tmps.getD 38 undef = y38, a.tmps.getD 39 undef = y39, a.tmps.getD 40 undef = y40, a.tmps.getD 41 undef = y41
    repeat' (first | go_values | go_skip | go_guarded | go_step | go_upon)
    exact bodyPost_ret (res_tcn rfl 2 1 HB rfl rfl rfl rfl rfl) rfl ⟨rfl, HB.out.bel⟩
set_option maxRecDepth 20000 in
set_option maxHeartbeats 4000000 in
theorem getStr_ok {w : World} (HVw : Val w) {A : Option Addr} {n c B i j : Nat} {l t : List UInt8} (HH : Hid (Rd w B 1 A n (l.map bv) ∧ B ≤ w.heap.size))
    (HG : Hid (∀ W : World, Rd W B 1 A n (l.map bv) → B ≤ W.heap.size → Calls Tryz.prog 118 #[.agg #[.slice A n c, .int .i64 i], .slice none 0 0] W fun e W' => e = .returned (.tuple #[.string ⟨t.toArray⟩, .agg #[.slice A n c, .int .i64 j], .int .i64 0]) ∧ Below W.heap.size W W')) (HIJ : Hid (i ≤ j ∧ j ≤ n ∧ n ≤ c)) (HT : Hid (t.length ≤ 100000)) (HQ : Hid (decide (putL [] t = (l.drop i).take (j - i)) = true)) :
    Calls Tryz.prog 103 #[.agg #[.slice A n c, .int .i64 i]] w fun e W => e = .returned (.tuple #[.agg (tc (tStr ⟨t.toArray⟩) (.slice none 0 0) (0 : Nat)).toArray, .agg (cu A n c j).toArray, .int .i64 0]) ∧ Below w.heap.size w W := by
  have HB : Hid (BX w [] w) := Lib.hid (BX.start w); go_enter Tryz.func103, Tryz.ntmps103
  repeat' (first | ((with_reducible show Oper.wp _ _ _ _ _ _); with_reducible refine stop_bx _ rfl ?_) | go_values | go_skip | go_guarded | go_step | go_upon)
  refine Lib.hid ?_; refine al_g HB 82 (cu A n c i) (by kernel_rfl) ?_; clear HB
  (first | (have _t : Nat := g10; clear _t; intro g11 W HB) | (have _t : Nat := g9; clear _t; intro g10 W HB) | (have _t : Nat := g8; clear _t; intro g9 W HB) | (have _t : Nat := g7; clear _t; intro g8 W HB) | (have _t : Nat := g6; clear _t; intro g7 W HB) | (have _t : Nat := g5; clear _t; intro g6 W HB) | (have _t : Nat := g4; clear _t; intro g5 W HB) | (have _t : Nat := g3; clear _t; intro g4 W HB) | (have _t : Nat := g2; clear _t; intro g3 W HB) | (have _t : Nat := g1; clear _t; intro g2 W HB) | (have _t : Nat := g0; clear _t; intro g1 W HB) | intro g0 W HB)
  go_simp
  repeat' (first | ((with_reducible show Oper.wp _ _ _ _ _ _); (first | ((first | (with_reducible refine is_al 82 rfl ?_; refine al_g HB 82 (cu none 0 0 0) (by kernel_rfl) ?_) | (with_reducible refine is_al 144 rfl ?_; refine al_g HB 144 (tc zp (.slice none 0 0) 0) (by kernel_rfl) ?_)); clear HB; (first | (have _t : Nat := g1; clear _t; intro g2 W HB) | (have _t : Nat := g0; clear _t; intro g1 W HB)); go_simp) | (with_reducible refine is_ld 82 _ rfl ?_; refine ld_cu 2 HB rfl _ rfl rfl ?_; go_simp))) | go_values | go_skip | go_guarded | go_step | go_upon)
  refine (HG.out _ (HH.out.1.belowMono HB.out.bel HH.out.2) (Nat.le_trans HH.out.2 HB.out.bel.size)).mono ?_; rintro e W1 ⟨rfl, hb⟩; have HB := Lib.hid (HB.out.call hb); clear hb; dsimp only
  repeat' (first | ((with_reducible show Oper.wp _ _ _ _ _ _); (first | (with_reducible refine is_al 82 rfl ?_; refine al_g HB 82 (cu none 0 0 0) (by kernel_rfl) ?_; clear HB; intro g3 W HB; go_simp) | (with_reducible refine is_st 82 _ _ rfl ?_; refine st_cu 0 HB rfl _ _ rfl rfl rfl ?_; clear HB; intro W HB; dsimp only [List.set] at HB; go_simp))) | go_values | go_skip | go_guarded | go_step | go_upon)
  refine (put_any (b := []) (B := 0) (c := 0) (HVw.below HB.out.bel) (Rd.nil _ 0 1 none) (Nat.zero_le _) (Nat.zero_le _) ⟨t.toArray⟩ (show t.toArray.size ≤ 100000 by simpa using HT.out)).mono ?_; rintro e W1 ⟨v', n', rfl, ho, hb⟩; have HBp := HB; have HB := Lib.hid (HB.out.call hb); obtain ⟨A1, c1, rfl, hc1, -, hr1⟩ := own_form ho; have HR1 : Hid (Rd W1 W1.heap.size 1 A1 n' ((putL [] t).map bv)) := Lib.hid (by simpa using hr1); clear hb ho hr1 hc1; dsimp only
  repeat' (first | ((with_reducible show Oper.wp _ _ _ _ _ _); (first | ((first | (with_reducible refine is_ld 3 _ rfl ?_; refine lf_int 0 HB rfl _ rfl rfl rfl ?_) | (with_reducible refine is_ld 3 _ rfl ?_; refine lf_int 3 HB rfl _ rfl rfl rfl ?_) | (with_reducible refine is_ld 35 _ rfl ?_; refine lf_bs 3 HB rfl _ rfl rfl rfl ?_)); go_simp) | with_reducible refine stop_sl _ _ _ _ rfl ?_)) | go_values | go_skip | go_guarded | go_step | go_upon)
  refine Lib.hid ?_; refine wp_lh _ _ _ rfl rfl rfl rfl (run_lh _ A n c i j HIJ.out.1 (Nat.le_trans HIJ.out.2.1 HIJ.out.2.2)) ?_; go_simp
  repeat' (first | go_values | go_skip | go_guarded | go_step | go_upon)
  refine (bequal_any HR1.out (rd_advB (HH.out.1.belowMono HB.out.bel HH.out.2) HIJ.out.1 HIJ.out.2.1 HIJ.out.2.2)).mono ?_; rintro e W2 ⟨rfl, hw2⟩; have hw2 := hw2.symm; subst hw2; dsimp only; rw [HQ.out]
  repeat' (first | go_values | go_skip | go_guarded | go_step | go_upon)
  refine wp_region_phases (S := (SBN w [[(g3, 82, cu A n c j), (g2, 82, cu none 0 0 0), (g1, 144, tc zp (.slice none 0 0) 0), (g0, 82, cu A n c i)], [(g3, 82, cu A n c j), (g2, 82, cu none 0 0 0), (g1, 144, tc (tStr ⟨t.toArray⟩) (.slice none 0 0) (0 : Nat)), (g0, 82, cu A n c i)], [(g3, 82, cu A n c j), (g2, 82, cu A n c j), (g1, 144, tc (tStr ⟨t.toArray⟩) (.slice none 0 0) (0 : Nat)), (g0, 82, cu A n c i)]])) (E := (fun _ _ => True)) [4, 5] [(1, Is (.pointer (some ⟨g0, 0, none⟩))), (2, Is (.pointer (some ⟨g1, 0, none⟩))), (3, Is (.pointer (some ⟨g2, 0, none⟩))), (6, Is (.pointer (some ⟨g3, 0, none⟩))), (5, Is (.string ⟨t.toArray⟩)), (7, Is (.int .i64 0))] [(38, Is (.string ⟨t.toArray⟩)), (39, Is (.agg #[.int .i64 2, .int .i64 0, .int .i64 0, .string ⟨t.toArray⟩, .bool false, .int .i64 0])), (40, Is (.agg (tc (tStr ⟨t.toArray⟩) (.slice none 0 0) (0 : Nat)).toArray)), (41, Is (.agg (cu A n c j).toArray)), (4, Is (.int .i64 0))]
    [.op [5] none, .op [38] none, .op [39] none, .op [6] none, .phase 0 [2, 40] [], .phase 1 [3, 41] [], .op [] none] (by as_aux_lemma => kernel_rfl) ?_ ?_ ?_ ?_ ?_ ⟨stable_is _ _, stable_is _ _, stable_is _ _, stable_is _ _, stable_is _ _, stable_is _ _, stable_is _ _, stable_is _ _, stable_is _ _, stable_is _ _, stable_is _ _, trivial⟩ ?_ HB.out.drew ?_ ?_
  · as_aux_lemma => kernel_rfl
  · as_aux_lemma => kernel_rfl
  · as_aux_lemma => kernel_rfl
  · as_aux_lemma => kernel_rfl
  · as_aux_lemma => kernel_rfl
  · exact ⟨rfl, rfl, rfl, rfl, rfl, rfl, trivial⟩
  · refine ⟨?_, ?_, ?_, ?_, ?_, ?_, ?_, trivial⟩
    · as_aux_lemma => intro vals a W hS hL; have e5 : a.tmps.getD 5 undef = .string ⟨t.toArray⟩ := hL.1; clear hL; go_simp; exact ⟨dstY (by rfl), hS, trivial⟩
    · as_aux_lemma => intro vals a W hS hL; have e38 : a.tmps.getD 38 undef = .string ⟨t.toArray⟩ := hL.1; clear hL; rw [Array.getD_eq_getD_getElem?] at e38; go_simp; exact ⟨dstY (by rfl), hS, trivial⟩
    · as_aux_lemma => intro vals a W hS hL; have e39 : a.tmps.getD 39 undef = .agg #[.int .i64 2, .int .i64 0, .int .i64 0, .string ⟨t.toArray⟩, .bool false, .int .i64 0] := hL.1; clear hL; go_simp; refine (constant_any W 2 0 0 ⟨t.toArray⟩ false 0).mono ?_; rintro e W2 ⟨rfl, hb⟩; exact ⟨_, rfl, dstY (by rfl), hS.call hb, trivial⟩
    · as_aux_lemma => intro vals a W hS hL; have e6 : a.tmps.getD 6 undef = .pointer (some ⟨g3, 0, none⟩) := hL.1; clear hL; refine lands_vB (run_ldg rtCur (hS.get 0 ⟨rfl, rfl, rfl, trivial⟩) (.tmp 6) rfl e6) ?_; exact ⟨dstY (by rfl), hS, trivial⟩
    · as_aux_lemma =>
        intro a W vals hv hS hL hp; have e2 : a.tmps.getD 2 undef = .pointer (some ⟨g1, 0, none⟩) := hL.1; have e40 : a.tmps.getD 40 undef = .agg (tc (tStr ⟨t.toArray⟩) (.slice none 0 0) (0 : Nat)).toArray := hL.2.1; clear hL
        match vals, hv, hS with
        | [], _, hS =>
          refine lands_stg (vs := tc (tStr ⟨t.toArray⟩) (.slice none 0 0) (0 : Nat)) rtTok tc_one (i := 2) (show BX w [(g3, 82, cu A n c j), (g2, 82, cu none 0 0 0), (g1, 144, tc zp (.slice none 0 0) 0), (g0, 82, cu A n c i)] W from hS) rfl rfl (.tmp 2) (.tmp 40) rfl e2 e40 fun W2 h2 => ?_; exact ⟨h2, trivial, trivial⟩
    · as_aux_lemma =>
        intro a W vals hv hS hL hp; have e3 : a.tmps.getD 3 undef = .pointer (some ⟨g2, 0, none⟩) := hL.1; have e41 : a.tmps.getD 41 undef = .agg (cu A n c j).toArray := hL.2.1; clear hL
        match vals, hv, hS with
        | [u0], _, hS =>
          refine lands_stg (vs := cu A n c j) rtCur cu_one (i := 1) (show BX w [(g3, 82, cu A n c j), (g2, 82, cu none 0 0 0), (g1, 144, tc (tStr ⟨t.toArray⟩) (.slice none 0 0) (0 : Nat)), (g0, 82, cu A n c i)] W from hS) rfl rfl (.tmp 3) (.tmp 41) rfl e3 e41 fun W2 h2 => ?_; exact ⟨h2, trivial, trivial⟩
    · as_aux_lemma => intro vals a W hS hL; clear hL; go_simp; exact ⟨dstY (by rfl), hS, trivial⟩
  · intro a W vals hd hsz hT hF hv hP hS
    obtain ⟨v0, v1, rfl⟩ : ∃ v0 v1, vals = [v0, v1] := by
      match vals, hv with
      | [xv0, xv1], _ => exact ⟨xv0, xv1, rfl⟩
    have HB : Hid (BX w [(g3, 82, cu A n c j), (g2, 82, cu A n c j), (g1, 144, tc (tStr ⟨t.toArray⟩) (.slice none 0 0) (0 : Nat)), (g0, 82, cu A n c i)] W) := Lib.hid hS; have e1 : a.tmps.getD 1 undef = .pointer (some ⟨g0, 0, none⟩) := hT 1 (by simp); have e2 : a.tmps.getD 2 undef = .pointer (some ⟨g1, 0, none⟩) := hT 2 (by simp); have e3 : a.tmps.getD 3 undef = .pointer (some ⟨g2, 0, none⟩) := hT 3 (by simp); have e6 : a.tmps.getD 6 undef = .pointer (some ⟨g3, 0, none⟩) := hT 6 (by simp); have e5 : a.tmps.getD 5 undef = .string ⟨t.toArray⟩ := hT 5 (by simp); have e7 : a.tmps.getD 7 undef = .int .i64 0 := hT 7 (by simp); have e4 : a.tmps.getD 4 undef = .int .i64 0 := hT 4 (by simp); clear hT hF hP hS; rw [act_lit 42 a hd hsz]; simp only [List.range, List.range.loop, List.map, e1, e2, e3, e6, e5, e7, e4]; clear e1 e2 e3 e6 e5 e7 e4 hsz hd; generalize a.tmps.getD 0 undef = y0, a.tmps.getD 8 undef = y8, a.tmps.getD 9 undef = y9, a.tmps.getD 10 undef = y10, a.tmps.getD 11 undef = y11, a.tmps.getD 12 undef = y12, a.tmps.getD 13 undef = y13, a.tmps.getD 14 undef = y14, a.tmps.getD 15 undef = y15, a.tmps.getD 16 undef = y16, a.tmps.getD 17 undef = y17, a.tmps.getD 18 undef = y18, a.tmps.getD 19 undef = y19, a.tmps.getD 20 undef = y20, a.tmps.getD 21 undef = y21, a.tmps.getD 22 undef = y22, a.tmps.getD 23 undef = y23, a.tmps.getD 24 undef = y24, a.tmps.getD 25 undef = y25, a.tmps.getD 26 undef = y26, a.tmps.getD 27 undef = y27, a.tmps.getD 28 undef = y28, a.tmps.getD 29 undef = y29, a.tmps.getD 30 undef = y30, a.tmps.getD 31 undef = y31, a.tmps.getD 32 undef = y32, a.tmps.getD 33 undef = y33, a.tmps.getD 34 undef = y34, a.tmps.getD 35 undef = y35, a.tmps.getD 36 undef = y36, a.tmps.getD 37 undef = y37, a.tmps.getD 38 undef = y38, a.tmps.getD 39 undef = y39, a.tmps.getD 40 undef = y40, a.tmps.getD 41 undef = y41
    repeat' (first | go_values | go_skip | go_guarded | go_step | go_upon)
    exact bodyPost_ret (res_tcn rfl 2 1 HB rfl rfl rfl rfl rfl) rfl ⟨rfl, HB.out.bel⟩
theorem getStr_any {w : World} (HV : Val w) {A : Option Addr} {n c B i : Nat} {l : List UInt8} (h : Rd w B 1 A n (l.map bv)) (hnc : n ≤ c) (hn : n ≤ 1000000000) (hB : B ≤ w.heap.size) (hi : i ≤ n) :
    Calls Tryz.prog 103 #[.agg #[.slice A n c, .int .i64 i]] w (GtOk w A n c (stT l i)) := by
  have hl := h.blen
  have hG : ∀ W : World, Rd W B 1 A n (l.map bv) → B ≤ W.heap.size → Calls Tryz.prog 118 #[.agg #[.slice A n c, .int .i64 i], .slice none 0 0] W fun e W' => e = .returned (.tuple #[.string ⟨(rdS l [] i).1.toArray⟩, .agg #[.slice A n c, .int .i64 (rdS l [] i).2.1], .int .i64 (rdS l [] i).2.2]) ∧ Below W.heap.size W W' := fun W hr hw =>
    get_any (at_ := i) (n' := 0) (c' := 0) (A' := none) (cs := []) hr (CutS.nil _ _ _) hnc (by omega) hw hi (fun x hx => by cases hx)
  have ht := rdS_len l [] i; have hb := rdS_bds l i
  by_cases hE : (rdS l [] i).2.2 = 0
  · have hb := hb hE; rw [hE] at hG
    by_cases hq : putL [] (rdS l [] i).1 = (l.drop i).take ((rdS l [] i).2.1 - i)
    · have e : stT l i = (⟨0, tStr ⟨(rdS l [] i).1.toArray⟩, 0⟩, (rdS l [] i).2.1) := by rw [stT, if_pos hE, if_pos hq]
      refine (getStr_ok HV (Lib.hid ⟨h, hB⟩) (Lib.hid hG) (Lib.hid ⟨by omega, by omega, hnc⟩) (Lib.hid (by omega)) (Lib.hid (decide_eq_true hq))).mono ?_; rintro e W ⟨rfl, hb⟩; rw [stT, if_pos hE, if_pos hq]; exact ⟨⟨0, _, 0⟩, _, rfl, fun _ => ⟨rfl, rfl, rfl⟩, hb⟩
    · refine (getStr_bad HV (Lib.hid ⟨h, hB⟩) (Lib.hid hG) (Lib.hid ⟨by omega, by omega, hnc⟩) (Lib.hid (by omega)) (Lib.hid (decide_eq_false hq))).mono ?_; rintro e W ⟨rfl, hb⟩; rw [stT, if_pos hE, if_neg hq]; exact ⟨⟨2, zp, 0⟩, _, rfl, fun h => (by cases h), hb⟩
  · refine (getStr_err HV (Lib.hid ⟨h, hB⟩) (Lib.hid hG) hE).mono ?_; rintro e W ⟨rfl, hb⟩; rw [stT, if_neg hE]; exact ⟨⟨2, zp, 0⟩, _, rfl, fun h => absurd h hE, hb⟩
end Go.Proofs.YtlaiocdnddnnaaaGreatDoor
