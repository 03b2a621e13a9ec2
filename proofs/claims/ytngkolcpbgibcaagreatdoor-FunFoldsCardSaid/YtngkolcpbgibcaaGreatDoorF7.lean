/- fun.numbers by its contract. Condition: texts are not too long. -/
import Derived.Test.YtngkolcpbgibcaaGreatDoorF3
set_option linter.unusedVariables false
set_option linter.unusedSimpArgs false
namespace Go.Proofs.YtngkolcpbgibcaaGreatDoor
open Go.RowKit
inductive NN where
  | ok (m : Int) (s : Nat) (n : Int) (t : Nat)
  | no (x : VX)
def nnX (x y : VX) : NN := match numX x with
  | .no v => .no v
  | .ok m s => match numX y with
    | .no v => .no v
    | .ok n t => .ok m s n t
def nnV : NN → Value
  | .ok m s n t => .tuple #[.agg (dc m s).toArray, .agg (dc n t).toArray, .agg (vc .blank).toArray, .bool true]
  | .no x => .tuple #[.agg (dc 0 (0 : Nat)).toArray, .agg (dc 0 (0 : Nat)).toArray, .agg (vc x).toArray, .bool false]
theorem res_nn {fn : Func} {q0 q1 q2 q3 : Tmp} (h : fn.results = #[.cell q0 30, .cell q1 30, .cell q2 32, .tmp q3]) {tmps : Array Value} {z : Value} {w W : World} {bs : Bxs} {g0 g1 g2 : Nat} {m s n t : Int} {v : VX} (H : Hid (BX w bs W)) (i0 i1 i2 : Nat) (hi0 : bs[i0]? = some (g0, 30, dc m s)) (hi1 : bs[i1]? = some (g1, 30, dc n t)) (hi2 : bs[i2]? = some (g2, 32, vc v))
    (h0 : tmps.getD q0 undef = .pointer (some ⟨g0, 0, none⟩)) (h1 : tmps.getD q1 undef = .pointer (some ⟨g1, 0, none⟩)) (h2 : tmps.getD q2 undef = .pointer (some ⟨g2, 0, none⟩)) (h3 : tmps.getD q3 undef = z) :
    (results fn tmps).run Tryz.prog W = .ok (.tuple #[.agg (dc m s).toArray, .agg (dc n t).toArray, .agg (vc v).toArray, z]) W := by
  have h0' : tmps[q0]?.getD undef = .pointer (some ⟨g0, 0, none⟩) := by simpa using h0
  have h1' : tmps[q1]?.getD undef = .pointer (some ⟨g1, 0, none⟩) := by simpa using h1
  have h2' : tmps[q2]?.getD undef = .pointer (some ⟨g2, 0, none⟩) := by simpa using h2
  have h3' : tmps[q3]?.getD undef = z := by simpa using h3
  simp [results, h, h0', h1', h2', h3', asAddr, H.out.load_v i2 hi2, H.out.load_d i0 hi0, H.out.load_d i1 hi1]
set_option maxRecDepth 20000 in
set_option maxHeartbeats 8000000 in
theorem numbers_any {w : World} {x y : VX} (hx : shortX 100000000 x) (hy : shortX 100000000 y) :
    Calls Tryz.prog 143 #[.agg (vc x).toArray, .agg (vc y).toArray] w fun e W => e = .returned (nnV (nnX x y)) ∧ Below w.heap.size w W := by
  have HB := Lib.hid (BX.start w); unfold nnX
  cases hn : numX x with
  | no v =>
    have HN := Lib.hid (number_no hx hn); clear hx hy hn
    show Calls _ _ _ _ fun e W => e = .returned (.tuple #[.agg (dc 0 (0 : Nat)).toArray, .agg (dc 0 (0 : Nat)).toArray, .agg (vc v).toArray, .bool false]) ∧ Below w.heap.size w W
    go_enter Tryz.func143, Tryz.ntmps143
    repeat' (first | ((with_reducible show Oper.wp _ _ _ _ _ _); (first | ((first | refine al_v HB rfl ?_ | refine al_d HB rfl ?_ | refine bx_v HB _ rfl rfl ?_); clear HB; (first | (have _t : Nat := g3; clear _t; intro g4 W HB) | (have _t : Nat := g2; clear _t; intro g3 W HB) | (have _t : Nat := g1; clear _t; intro g2 W HB) | (have _t : Nat := g0; clear _t; intro g1 W HB) | intro g0 W HB); go_simp) | (refine ld_v 4 HB rfl _ rfl rfl ?_; go_simp))) | go_values | go_skip | go_guarded | go_step | go_upon)
    refine (HN.out _).mono ?_; rintro e W1 ⟨rfl, hb⟩; have HB := Lib.hid (HB.out.call hb); clear hb; dsimp only
    repeat' (first | ((with_reducible show Oper.wp _ _ _ _ _ _); (first | ((first | refine al_v HB rfl ?_ | refine al_d HB rfl ?_); clear HB; (first | (have _t : Nat := g5; clear _t; intro g6 W HB) | (have _t : Nat := g4; clear _t; intro g5 W HB)); go_simp) | ((first | refine st_v 0 HB rfl _ _ rfl rfl rfl ?_ | refine st_d 1 HB rfl _ _ rfl rfl rfl ?_); clear HB; intro W HB; dsimp only [List.set] at HB; go_simp))) | go_values | go_skip | go_guarded | go_step | go_upon)
    refine wp_region_phases (S := (SBN w [[(g6, 32, vc v), (g5, 30, dc 0 (0 : Nat)), (g4, 32, vc .blank), (g3, 30, dc 0 0), (g2, 30, dc 0 0), (g1, 32, vc y), (g0, 32, vc x)], [(g6, 32, vc v), (g5, 30, dc 0 (0 : Nat)), (g4, 32, vc .blank), (g3, 30, dc 0 0), (g2, 30, dc 0 (0 : Nat)), (g1, 32, vc y), (g0, 32, vc x)], [(g6, 32, vc v), (g5, 30, dc 0 (0 : Nat)), (g4, 32, vc .blank), (g3, 30, dc 0 (0 : Nat)), (g2, 30, dc 0 (0 : Nat)), (g1, 32, vc y), (g0, 32, vc x)], [(g6, 32, vc v), (g5, 30, dc 0 (0 : Nat)), (g4, 32, vc v), (g3, 30, dc 0 (0 : Nat)), (g2, 30, dc 0 (0 : Nat)), (g1, 32, vc y), (g0, 32, vc x)]])) (E := (fun _ _ => True)) [3, 4, 5] [(4, Is (.pointer (some ⟨g2, 0, none⟩))), (5, Is (.pointer (some ⟨g3, 0, none⟩))), (6, Is (.pointer (some ⟨g4, 0, none⟩))), (9, Is (.pointer (some ⟨g6, 0, none⟩)))] [(20, Is (.agg (dc 0 (0 : Nat)).toArray)), (21, Is (.agg (dc 0 (0 : Nat)).toArray)), (22, Is (.agg (vc v).toArray)), (7, Is (.bool false))]
      [.op [] none, .op [] none, .op [9] none, .phase 0 [4, 20] [], .phase 1 [5, 21] [], .phase 2 [6, 22] [], .op [] none] (by as_aux_lemma => kernel_rfl) ?_ ?_ ?_ ?_ ?_ ⟨stable_is _ _, stable_is _ _, stable_is _ _, stable_is _ _, stable_is _ _, stable_is _ _, stable_is _ _, stable_is _ _, trivial⟩ ?_ HB.out.drew ?_ ?_
    · as_aux_lemma => kernel_rfl
    · as_aux_lemma => kernel_rfl
    · as_aux_lemma => kernel_rfl
    · as_aux_lemma => kernel_rfl
    · as_aux_lemma => kernel_rfl
    · exact ⟨rfl, rfl, rfl, rfl, trivial⟩
    · refine ⟨?_, ?_, ?_, ?_, ?_, ?_, ?_, trivial⟩
      · as_aux_lemma => intro vals a W hS hL; clear hL; refine lands_v (v := .agg (dc 0 (0 : Nat)).toArray) (w' := W) (by kernel_rfl) ?_; exact ⟨dstY (by rfl), hS, trivial⟩
      · as_aux_lemma => intro vals a W hS hL; clear hL; refine lands_v (v := .agg (dc 0 (0 : Nat)).toArray) (w' := W) (by kernel_rfl) ?_; exact ⟨dstY (by rfl), hS, trivial⟩
      · as_aux_lemma => intro vals a W hS hL; have e9 : a.tmps.getD 9 undef = .pointer (some ⟨g6, 0, none⟩) := hL.1; clear hL; refine lands_v (run_ldg rtV (hS.get 0 ⟨rfl, rfl, rfl, rfl, trivial⟩) (.tmp 9) rfl e9) ?_; exact ⟨dstY (by rfl), hS, trivial⟩
      · as_aux_lemma =>
          intro a W vals hv hS hL hp; have e4 : a.tmps.getD 4 undef = .pointer (some ⟨g2, 0, none⟩) := hL.1; have e20 : a.tmps.getD 20 undef = .agg (dc 0 (0 : Nat)).toArray := hL.2.1; clear hL
          match vals, hv, hS with
          | [], _, hS =>
            refine lands_stg (vs := dc 0 (0 : Nat)) rtDec (dc_one _ _) (i := 4) (show BX w [(g6, 32, vc v), (g5, 30, dc 0 (0 : Nat)), (g4, 32, vc .blank), (g3, 30, dc 0 0), (g2, 30, dc 0 0), (g1, 32, vc y), (g0, 32, vc x)] W from hS) rfl rfl (.tmp 4) (.tmp 20) rfl e4 e20 fun W2 h2 => ?_; exact ⟨h2, trivial, trivial⟩
      · as_aux_lemma =>
          intro a W vals hv hS hL hp; have e5 : a.tmps.getD 5 undef = .pointer (some ⟨g3, 0, none⟩) := hL.1; have e21 : a.tmps.getD 21 undef = .agg (dc 0 (0 : Nat)).toArray := hL.2.1; clear hL
          match vals, hv, hS with
          | [u0], _, hS =>
            refine lands_stg (vs := dc 0 (0 : Nat)) rtDec (dc_one _ _) (i := 3) (show BX w [(g6, 32, vc v), (g5, 30, dc 0 (0 : Nat)), (g4, 32, vc .blank), (g3, 30, dc 0 0), (g2, 30, dc 0 (0 : Nat)), (g1, 32, vc y), (g0, 32, vc x)] W from hS) rfl rfl (.tmp 5) (.tmp 21) rfl e5 e21 fun W2 h2 => ?_; exact ⟨h2, trivial, trivial⟩
      · as_aux_lemma =>
          intro a W vals hv hS hL hp; have e6 : a.tmps.getD 6 undef = .pointer (some ⟨g4, 0, none⟩) := hL.1; have e22 : a.tmps.getD 22 undef = .agg (vc v).toArray := hL.2.1; clear hL
          match vals, hv, hS with
          | [u0, u1], _, hS =>
            refine lands_stg (vs := vc v) rtV (vc_one _) (i := 2) (show BX w [(g6, 32, vc v), (g5, 30, dc 0 (0 : Nat)), (g4, 32, vc .blank), (g3, 30, dc 0 (0 : Nat)), (g2, 30, dc 0 (0 : Nat)), (g1, 32, vc y), (g0, 32, vc x)] W from hS) rfl ((vc_len _).trans (vc_len _).symm) (.tmp 6) (.tmp 22) rfl e6 e22 fun W2 h2 => ?_; exact ⟨h2, trivial, trivial⟩
      · as_aux_lemma => intro vals a W hS hL; clear hL; go_simp; exact ⟨dstY (by rfl), hS, trivial⟩
    · intro a W vals hd hsz hT hF hv hP hS
      obtain ⟨v0, v1, v2, rfl⟩ : ∃ v0 v1 v2, vals = [v0, v1, v2] := by
        match vals, hv with
        | [xv0, xv1, xv2], _ => exact ⟨xv0, xv1, xv2, rfl⟩
      have HB : Hid (BX w [(g6, 32, vc v), (g5, 30, dc 0 (0 : Nat)), (g4, 32, vc v), (g3, 30, dc 0 (0 : Nat)), (g2, 30, dc 0 (0 : Nat)), (g1, 32, vc y), (g0, 32, vc x)] W) := Lib.hid hS; have e4 : a.tmps.getD 4 undef = .pointer (some ⟨g2, 0, none⟩) := hT 4 (by simp); have e5 : a.tmps.getD 5 undef = .pointer (some ⟨g3, 0, none⟩) := hT 5 (by simp); have e6 : a.tmps.getD 6 undef = .pointer (some ⟨g4, 0, none⟩) := hT 6 (by simp); have e9 : a.tmps.getD 9 undef = .pointer (some ⟨g6, 0, none⟩) := hT 9 (by simp); have e7 : a.tmps.getD 7 undef = .bool false := hT 7 (by simp); clear hT hF hP hS; rw [act_lit 37 a hd hsz]; simp only [List.range, List.range.loop, List.map, e4, e5, e6, e9, e7]; clear e4 e5 e6 e9 e7 hsz hd; generalize a.tmps.getD 0 undef = y0, a.tmps.getD 1 undef = y1, a.tmps.getD 2 undef = y2, a.tmps.getD 3 undef = y3, a.tmps.getD 8 undef = y8, a.tmps.getD 10 undef = y10, a.tmps.getD 11 undef = y11, a.tmps.getD 12 undef = y12, a.tmps.getD 13 undef = y13, a.tmps.getD 14 undef = y14, a.tmps.getD 15 undef = y15, a.tmps.getD 16 undef = y16, a.tmps.getD 17 undef = y17, a.tmps.getD 18 undef = y18, a.tmps.getD 19 undef = y19, a.tmps.getD 20 undef = y20, a.tmps.getD 21 undef = y21, a.tmps.getD 22 undef = y22, a.tmps.getD 23 undef = y23, a.tmps.getD 24 undef = y24, a.tmps.getD 25 undef = y25, a.tmps.getD 26 undef = y26, a.tmps.getD 27 undef = y27, a.tmps.getD 28 undef = y28, a.tmps.getD 29 undef = y29, a.tmps.getD 30 undef = y30, a.tmps.getD 31 undef = y31, a.tmps.getD 32 undef = y32, a.tmps.getD 33 undef = y33, a.tmps.getD 34 undef = y34, a.tmps.getD 35 undef = y35, a.tmps.getD 36 undef = y36
      repeat' (first | go_values | go_skip | go_guarded | go_step | go_upon)
      exact bodyPost_ret (res_nn rfl HB 4 3 2 rfl rfl rfl rfl rfl rfl rfl) rfl ⟨rfl, HB.out.bel⟩
  | ok m s =>
    have HN := Lib.hid (number_ok hx hn); clear hx hn; dsimp only
    cases hm : numX y with
    | no v =>
      have HM := Lib.hid (number_no hy hm); clear hy hm
      show Calls _ _ _ _ fun e W => e = .returned (.tuple #[.agg (dc 0 (0 : Nat)).toArray, .agg (dc 0 (0 : Nat)).toArray, .agg (vc v).toArray, .bool false]) ∧ Below w.heap.size w W
      go_enter Tryz.func143, Tryz.ntmps143
      repeat' (first | ((with_reducible show Oper.wp _ _ _ _ _ _); (first | ((first | refine al_v HB rfl ?_ | refine al_d HB rfl ?_ | refine bx_v HB _ rfl rfl ?_); clear HB; (first | (have _t : Nat := g3; clear _t; intro g4 W HB) | (have _t : Nat := g2; clear _t; intro g3 W HB) | (have _t : Nat := g1; clear _t; intro g2 W HB) | (have _t : Nat := g0; clear _t; intro g1 W HB) | intro g0 W HB); go_simp) | (refine ld_v 4 HB rfl _ rfl rfl ?_; go_simp))) | go_values | go_skip | go_guarded | go_step | go_upon)
      refine (HN.out _).mono ?_; rintro e W1 ⟨rfl, hb⟩; have HB := Lib.hid (HB.out.call hb); clear hb; dsimp only
      repeat' (first | ((with_reducible show Oper.wp _ _ _ _ _ _); (first | ((first | refine al_v HB rfl ?_ | refine al_d HB rfl ?_); clear HB; (first | (have _t : Nat := g5; clear _t; intro g6 W HB) | (have _t : Nat := g4; clear _t; intro g5 W HB)); go_simp) | (refine ld_v 5 HB rfl _ rfl rfl ?_; go_simp) | ((first | refine st_v 0 HB rfl _ _ rfl rfl rfl ?_ | refine st_d 1 HB rfl _ _ rfl rfl rfl ?_); clear HB; intro W HB; dsimp only [List.set] at HB; go_simp))) | go_values | go_skip | go_guarded | go_step | go_upon)
      refine (HM.out _).mono ?_; rintro e W1 ⟨rfl, hb⟩; have HB := Lib.hid (HB.out.call hb); clear hb; dsimp only
      repeat' (first | ((with_reducible show Oper.wp _ _ _ _ _ _); (first | (refine al_d HB rfl ?_; clear HB; intro g7 W HB; go_simp) | ((first | refine st_v 1 HB rfl _ _ rfl rfl rfl ?_ | refine st_d 0 HB rfl _ _ rfl rfl rfl ?_); clear HB; intro W HB; dsimp only [List.set] at HB; go_simp))) | go_values | go_skip | go_guarded | go_step | go_upon)
      refine wp_region_phases (S := (SBN w [[(g7, 30, dc 0 (0 : Nat)), (g6, 32, vc v), (g5, 30, dc m s), (g4, 32, vc .blank), (g3, 30, dc 0 0), (g2, 30, dc 0 0), (g1, 32, vc y), (g0, 32, vc x)], [(g7, 30, dc 0 (0 : Nat)), (g6, 32, vc v), (g5, 30, dc m s), (g4, 32, vc .blank), (g3, 30, dc 0 0), (g2, 30, dc 0 (0 : Nat)), (g1, 32, vc y), (g0, 32, vc x)], [(g7, 30, dc 0 (0 : Nat)), (g6, 32, vc v), (g5, 30, dc m s), (g4, 32, vc .blank), (g3, 30, dc 0 (0 : Nat)), (g2, 30, dc 0 (0 : Nat)), (g1, 32, vc y), (g0, 32, vc x)], [(g7, 30, dc 0 (0 : Nat)), (g6, 32, vc v), (g5, 30, dc m s), (g4, 32, vc v), (g3, 30, dc 0 (0 : Nat)), (g2, 30, dc 0 (0 : Nat)), (g1, 32, vc y), (g0, 32, vc x)]])) (E := (fun _ _ => True)) [3, 4, 5] [(4, Is (.pointer (some ⟨g2, 0, none⟩))), (5, Is (.pointer (some ⟨g3, 0, none⟩))), (6, Is (.pointer (some ⟨g4, 0, none⟩))), (9, Is (.pointer (some ⟨g6, 0, none⟩)))] [(31, Is (.agg (dc 0 (0 : Nat)).toArray)), (32, Is (.agg (dc 0 (0 : Nat)).toArray)), (33, Is (.agg (vc v).toArray)), (7, Is (.bool false))]
        [.op [] none, .op [] none, .op [9] none, .phase 0 [4, 31] [], .phase 1 [5, 32] [], .phase 2 [6, 33] [], .op [] none] (by as_aux_lemma => kernel_rfl) ?_ ?_ ?_ ?_ ?_ ⟨stable_is _ _, stable_is _ _, stable_is _ _, stable_is _ _, stable_is _ _, stable_is _ _, stable_is _ _, stable_is _ _, trivial⟩ ?_ HB.out.drew ?_ ?_
      · as_aux_lemma => kernel_rfl
      · as_aux_lemma => kernel_rfl
      · as_aux_lemma => kernel_rfl
      · as_aux_lemma => kernel_rfl
      · as_aux_lemma => kernel_rfl
      · exact ⟨rfl, rfl, rfl, rfl, trivial⟩
      · refine ⟨?_, ?_, ?_, ?_, ?_, ?_, ?_, trivial⟩
        · as_aux_lemma => intro vals a W hS hL; clear hL; refine lands_v (v := .agg (dc 0 (0 : Nat)).toArray) (w' := W) (by kernel_rfl) ?_; exact ⟨dstY (by rfl), hS, trivial⟩
        · as_aux_lemma => intro vals a W hS hL; clear hL; refine lands_v (v := .agg (dc 0 (0 : Nat)).toArray) (w' := W) (by kernel_rfl) ?_; exact ⟨dstY (by rfl), hS, trivial⟩
        · as_aux_lemma => intro vals a W hS hL; have e9 : a.tmps.getD 9 undef = .pointer (some ⟨g6, 0, none⟩) := hL.1; clear hL; refine lands_v (run_ldg rtV (hS.get 1 ⟨rfl, rfl, rfl, rfl, trivial⟩) (.tmp 9) rfl e9) ?_; exact ⟨dstY (by rfl), hS, trivial⟩
        · as_aux_lemma =>
            intro a W vals hv hS hL hp; have e4 : a.tmps.getD 4 undef = .pointer (some ⟨g2, 0, none⟩) := hL.1; have e31 : a.tmps.getD 31 undef = .agg (dc 0 (0 : Nat)).toArray := hL.2.1; clear hL
            match vals, hv, hS with
            | [], _, hS =>
              refine lands_stg (vs := dc 0 (0 : Nat)) rtDec (dc_one _ _) (i := 5) (show BX w [(g7, 30, dc 0 (0 : Nat)), (g6, 32, vc v), (g5, 30, dc m s), (g4, 32, vc .blank), (g3, 30, dc 0 0), (g2, 30, dc 0 0), (g1, 32, vc y), (g0, 32, vc x)] W from hS) rfl rfl (.tmp 4) (.tmp 31) rfl e4 e31 fun W2 h2 => ?_; exact ⟨h2, trivial, trivial⟩
        · as_aux_lemma =>
            intro a W vals hv hS hL hp; have e5 : a.tmps.getD 5 undef = .pointer (some ⟨g3, 0, none⟩) := hL.1; have e32 : a.tmps.getD 32 undef = .agg (dc 0 (0 : Nat)).toArray := hL.2.1; clear hL
            match vals, hv, hS with
            | [u0], _, hS =>
              refine lands_stg (vs := dc 0 (0 : Nat)) rtDec (dc_one _ _) (i := 4) (show BX w [(g7, 30, dc 0 (0 : Nat)), (g6, 32, vc v), (g5, 30, dc m s), (g4, 32, vc .blank), (g3, 30, dc 0 0), (g2, 30, dc 0 (0 : Nat)), (g1, 32, vc y), (g0, 32, vc x)] W from hS) rfl rfl (.tmp 5) (.tmp 32) rfl e5 e32 fun W2 h2 => ?_; exact ⟨h2, trivial, trivial⟩
        · as_aux_lemma =>
            intro a W vals hv hS hL hp; have e6 : a.tmps.getD 6 undef = .pointer (some ⟨g4, 0, none⟩) := hL.1; have e33 : a.tmps.getD 33 undef = .agg (vc v).toArray := hL.2.1; clear hL
            match vals, hv, hS with
            | [u0, u1], _, hS =>
              refine lands_stg (vs := vc v) rtV (vc_one _) (i := 3) (show BX w [(g7, 30, dc 0 (0 : Nat)), (g6, 32, vc v), (g5, 30, dc m s), (g4, 32, vc .blank), (g3, 30, dc 0 (0 : Nat)), (g2, 30, dc 0 (0 : Nat)), (g1, 32, vc y), (g0, 32, vc x)] W from hS) rfl ((vc_len _).trans (vc_len _).symm) (.tmp 6) (.tmp 33) rfl e6 e33 fun W2 h2 => ?_; exact ⟨h2, trivial, trivial⟩
        · as_aux_lemma => intro vals a W hS hL; clear hL; go_simp; exact ⟨dstY (by rfl), hS, trivial⟩
      · intro a W vals hd hsz hT hF hv hP hS
        obtain ⟨v0, v1, v2, rfl⟩ : ∃ v0 v1 v2, vals = [v0, v1, v2] := by
          match vals, hv with
          | [xv0, xv1, xv2], _ => exact ⟨xv0, xv1, xv2, rfl⟩
        have HB : Hid (BX w [(g7, 30, dc 0 (0 : Nat)), (g6, 32, vc v), (g5, 30, dc m s), (g4, 32, vc v), (g3, 30, dc 0 (0 : Nat)), (g2, 30, dc 0 (0 : Nat)), (g1, 32, vc y), (g0, 32, vc x)] W) := Lib.hid hS; have e4 : a.tmps.getD 4 undef = .pointer (some ⟨g2, 0, none⟩) := hT 4 (by simp); have e5 : a.tmps.getD 5 undef = .pointer (some ⟨g3, 0, none⟩) := hT 5 (by simp); have e6 : a.tmps.getD 6 undef = .pointer (some ⟨g4, 0, none⟩) := hT 6 (by simp); have e9 : a.tmps.getD 9 undef = .pointer (some ⟨g6, 0, none⟩) := hT 9 (by simp); have e7 : a.tmps.getD 7 undef = .bool false := hT 7 (by simp); clear hT hF hP hS; rw [act_lit 37 a hd hsz]; simp only [List.range, List.range.loop, List.map, e4, e5, e6, e9, e7]; clear e4 e5 e6 e9 e7 hsz hd; generalize a.tmps.getD 0 undef = y0, a.tmps.getD 1 undef = y1, a.tmps.getD 2 undef = y2, a.tmps.getD 3 undef = y3, a.tmps.getD 8 undef = y8, a.tmps.getD 10 undef = y10, a.tmps.getD 11 undef = y11, a.tmps.getD 12 undef = y12, a.tmps.getD 13 undef = y13, a.tmps.getD 14 undef = y14, a.tmps.getD 15 undef = y15, a.tmps.getD 16 undef = y16, a.tmps.getD 17 undef = y17, a.tmps.getD 18 undef = y18, a.tmps.getD 19 undef = y19, a.tmps.getD 20 undef = y20, a.tmps.getD 21 undef = y21, a.tmps.getD 22 undef = y22, a.tmps.getD 23 undef = y23, a.tmps.getD 24 undef = y24, a.tmps.getD 25 undef = y25, a.tmps.getD 26 undef = y26, a.tmps.getD 27 undef = y27, a.tmps.getD 28 undef = y28, a.tmps.getD 29 undef = y29, a.tmps.getD 30 undef = y30, a.tmps.getD 31 undef = y31, a.tmps.getD 32 undef = y32, a.tmps.getD 33 undef = y33, a.tmps.getD 34 undef = y34, a.tmps.getD 35 undef = y35, a.tmps.getD 36 undef = y36
        repeat' (first | go_values | go_skip | go_guarded | go_step | go_upon)
        exact bodyPost_ret (res_nn rfl HB 5 4 3 rfl rfl rfl rfl rfl rfl rfl) rfl ⟨rfl, HB.out.bel⟩
    | ok n t =>
      have HM := Lib.hid (number_ok hy hm); clear hy hm
      show Calls _ _ _ _ fun e W => e = .returned (.tuple #[.agg (dc m s).toArray, .agg (dc n t).toArray, .agg (vc .blank).toArray, .bool true]) ∧ Below w.heap.size w W
      go_enter Tryz.func143, Tryz.ntmps143
      repeat' (first | ((with_reducible show Oper.wp _ _ _ _ _ _); (first | ((first | refine al_v HB rfl ?_ | refine al_d HB rfl ?_ | refine bx_v HB _ rfl rfl ?_); clear HB; (first | (have _t : Nat := g3; clear _t; intro g4 W HB) | (have _t : Nat := g2; clear _t; intro g3 W HB) | (have _t : Nat := g1; clear _t; intro g2 W HB) | (have _t : Nat := g0; clear _t; intro g1 W HB) | intro g0 W HB); go_simp) | (refine ld_v 4 HB rfl _ rfl rfl ?_; go_simp))) | go_values | go_skip | go_guarded | go_step | go_upon)
      refine (HN.out _).mono ?_; rintro e W1 ⟨rfl, hb⟩; have HB := Lib.hid (HB.out.call hb); clear hb; dsimp only
      repeat' (first | ((with_reducible show Oper.wp _ _ _ _ _ _); (first | ((first | refine al_v HB rfl ?_ | refine al_d HB rfl ?_); clear HB; (first | (have _t : Nat := g5; clear _t; intro g6 W HB) | (have _t : Nat := g4; clear _t; intro g5 W HB)); go_simp) | (refine ld_v 5 HB rfl _ rfl rfl ?_; go_simp) | ((first | refine st_v 0 HB rfl _ _ rfl rfl rfl ?_ | refine st_d 1 HB rfl _ _ rfl rfl rfl ?_); clear HB; intro W HB; dsimp only [List.set] at HB; go_simp))) | go_values | go_skip | go_guarded | go_step | go_upon)
      refine (HM.out _).mono ?_; rintro e W1 ⟨rfl, hb⟩; have HB := Lib.hid (HB.out.call hb); clear hb; dsimp only
      repeat' (first | ((with_reducible show Oper.wp _ _ _ _ _ _); (first | (refine al_d HB rfl ?_; clear HB; intro g7 W HB; go_simp) | ((first | refine st_v 1 HB rfl _ _ rfl rfl rfl ?_ | refine st_d 0 HB rfl _ _ rfl rfl rfl ?_); clear HB; intro W HB; dsimp only [List.set] at HB; go_simp))) | go_values | go_skip | go_guarded | go_step | go_upon)
      refine wp_region_phases (S := (SBN w [[(g7, 30, dc n t), (g6, 32, vc .blank), (g5, 30, dc m s), (g4, 32, vc .blank), (g3, 30, dc 0 0), (g2, 30, dc 0 0), (g1, 32, vc y), (g0, 32, vc x)], [(g7, 30, dc n t), (g6, 32, vc .blank), (g5, 30, dc m s), (g4, 32, vc .blank), (g3, 30, dc 0 0), (g2, 30, dc m s), (g1, 32, vc y), (g0, 32, vc x)], [(g7, 30, dc n t), (g6, 32, vc .blank), (g5, 30, dc m s), (g4, 32, vc .blank), (g3, 30, dc n t), (g2, 30, dc m s), (g1, 32, vc y), (g0, 32, vc x)], [(g7, 30, dc n t), (g6, 32, vc .blank), (g5, 30, dc m s), (g4, 32, vc .blank), (g3, 30, dc n t), (g2, 30, dc m s), (g1, 32, vc y), (g0, 32, vc x)]])) (E := (fun _ _ => True)) [3, 4, 5] [(4, Is (.pointer (some ⟨g2, 0, none⟩))), (5, Is (.pointer (some ⟨g3, 0, none⟩))), (6, Is (.pointer (some ⟨g4, 0, none⟩))), (8, Is (.pointer (some ⟨g5, 0, none⟩))), (11, Is (.pointer (some ⟨g7, 0, none⟩)))] [(34, Is (.agg (dc m s).toArray)), (35, Is (.agg (dc n t).toArray)), (36, Is (.agg (vc .blank).toArray)), (7, Is (.bool true))]
        [.op [8] none, .op [11] none, .op [] none, .phase 0 [4, 34] [], .phase 1 [5, 35] [], .phase 2 [6, 36] [], .op [] none] (by as_aux_lemma => kernel_rfl) ?_ ?_ ?_ ?_ ?_ ⟨stable_is _ _, stable_is _ _, stable_is _ _, stable_is _ _, stable_is _ _, stable_is _ _, stable_is _ _, stable_is _ _, stable_is _ _, trivial⟩ ?_ HB.out.drew ?_ ?_
      · as_aux_lemma => kernel_rfl
      · as_aux_lemma => kernel_rfl
      · as_aux_lemma => kernel_rfl
      · as_aux_lemma => kernel_rfl
      · as_aux_lemma => kernel_rfl
      · exact ⟨rfl, rfl, rfl, rfl, rfl, trivial⟩
      · refine ⟨?_, ?_, ?_, ?_, ?_, ?_, ?_, trivial⟩
        · as_aux_lemma => intro vals a W hS hL; have e8 : a.tmps.getD 8 undef = .pointer (some ⟨g5, 0, none⟩) := hL.1; clear hL; refine lands_v (run_ldg rtDec (hS.get 2 ⟨rfl, rfl, rfl, rfl, trivial⟩) (.tmp 8) rfl e8) ?_; exact ⟨dstY (by rfl), hS, trivial⟩
        · as_aux_lemma => intro vals a W hS hL; have e11 : a.tmps.getD 11 undef = .pointer (some ⟨g7, 0, none⟩) := hL.1; clear hL; refine lands_v (run_ldg rtDec (hS.get 0 ⟨rfl, rfl, rfl, rfl, trivial⟩) (.tmp 11) rfl e11) ?_; exact ⟨dstY (by rfl), hS, trivial⟩
        · as_aux_lemma => intro vals a W hS hL; clear hL; refine lands_v (v := .agg (vc .blank).toArray) (w' := W) (by kernel_rfl) ?_; exact ⟨dstY (by rfl), hS, trivial⟩
        · as_aux_lemma =>
            intro a W vals hv hS hL hp; have e4 : a.tmps.getD 4 undef = .pointer (some ⟨g2, 0, none⟩) := hL.1; have e34 : a.tmps.getD 34 undef = .agg (dc m s).toArray := hL.2.1; clear hL
            match vals, hv, hS with
            | [], _, hS =>
              refine lands_stg (vs := dc m s) rtDec (dc_one _ _) (i := 5) (show BX w [(g7, 30, dc n t), (g6, 32, vc .blank), (g5, 30, dc m s), (g4, 32, vc .blank), (g3, 30, dc 0 0), (g2, 30, dc 0 0), (g1, 32, vc y), (g0, 32, vc x)] W from hS) rfl rfl (.tmp 4) (.tmp 34) rfl e4 e34 fun W2 h2 => ?_; exact ⟨h2, trivial, trivial⟩
        · as_aux_lemma =>
            intro a W vals hv hS hL hp; have e5 : a.tmps.getD 5 undef = .pointer (some ⟨g3, 0, none⟩) := hL.1; have e35 : a.tmps.getD 35 undef = .agg (dc n t).toArray := hL.2.1; clear hL
            match vals, hv, hS with
            | [u0], _, hS =>
              refine lands_stg (vs := dc n t) rtDec (dc_one _ _) (i := 4) (show BX w [(g7, 30, dc n t), (g6, 32, vc .blank), (g5, 30, dc m s), (g4, 32, vc .blank), (g3, 30, dc 0 0), (g2, 30, dc m s), (g1, 32, vc y), (g0, 32, vc x)] W from hS) rfl rfl (.tmp 5) (.tmp 35) rfl e5 e35 fun W2 h2 => ?_; exact ⟨h2, trivial, trivial⟩
        · as_aux_lemma =>
            intro a W vals hv hS hL hp; have e6 : a.tmps.getD 6 undef = .pointer (some ⟨g4, 0, none⟩) := hL.1; have e36 : a.tmps.getD 36 undef = .agg (vc .blank).toArray := hL.2.1; clear hL
            match vals, hv, hS with
            | [u0, u1], _, hS =>
              refine lands_stg (vs := vc .blank) rtV (vc_one _) (i := 3) (show BX w [(g7, 30, dc n t), (g6, 32, vc .blank), (g5, 30, dc m s), (g4, 32, vc .blank), (g3, 30, dc n t), (g2, 30, dc m s), (g1, 32, vc y), (g0, 32, vc x)] W from hS) rfl ((vc_len _).trans (vc_len _).symm) (.tmp 6) (.tmp 36) rfl e6 e36 fun W2 h2 => ?_; exact ⟨h2, trivial, trivial⟩
        · as_aux_lemma => intro vals a W hS hL; clear hL; go_simp; exact ⟨dstY (by rfl), hS, trivial⟩
      · intro a W vals hd hsz hT hF hv hP hS
        obtain ⟨v0, v1, v2, rfl⟩ : ∃ v0 v1 v2, vals = [v0, v1, v2] := by
          match vals, hv with
          | [xv0, xv1, xv2], _ => exact ⟨xv0, xv1, xv2, rfl⟩
        have HB : Hid (BX w [(g7, 30, dc n t), (g6, 32, vc .blank), (g5, 30, dc m s), (g4, 32, vc .blank), (g3, 30, dc n t), (g2, 30, dc m s), (g1, 32, vc y), (g0, 32, vc x)] W) := Lib.hid hS; have e4 : a.tmps.getD 4 undef = .pointer (some ⟨g2, 0, none⟩) := hT 4 (by simp); have e5 : a.tmps.getD 5 undef = .pointer (some ⟨g3, 0, none⟩) := hT 5 (by simp); have e6 : a.tmps.getD 6 undef = .pointer (some ⟨g4, 0, none⟩) := hT 6 (by simp); have e8 : a.tmps.getD 8 undef = .pointer (some ⟨g5, 0, none⟩) := hT 8 (by simp); have e11 : a.tmps.getD 11 undef = .pointer (some ⟨g7, 0, none⟩) := hT 11 (by simp); have e7 : a.tmps.getD 7 undef = .bool true := hT 7 (by simp); clear hT hF hP hS; rw [act_lit 37 a hd hsz]; simp only [List.range, List.range.loop, List.map, e4, e5, e6, e8, e11, e7]; clear e4 e5 e6 e8 e11 e7 hsz hd; generalize a.tmps.getD 0 undef = y0, a.tmps.getD 1 undef = y1, a.tmps.getD 2 undef = y2, a.tmps.getD 3 undef = y3, a.tmps.getD 9 undef = y9, a.tmps.getD 10 undef = y10, a.tmps.getD 12 undef = y12, a.tmps.getD 13 undef = y13, a.tmps.getD 14 undef = y14, a.tmps.getD 15 undef = y15, a.tmps.getD 16 undef = y16, a.tmps.getD 17 undef = y17, a.tmps.getD 18 undef = y18, a.tmps.getD 19 undef = y19, a.tmps.getD 20 undef = y20, a.tmps.getD 21 undef = y21, a.tmps.getD 22 undef = y22, a.tmps.getD 23 undef = y23, a.tmps.getD 24 undef = y24, a.tmps.getD 25 undef = y25, a.tmps.getD 26 undef = y26, a.tmps.getD 27 undef = y27, a.tmps.getD 28 undef = y28, a.tmps.getD 29 undef = y29, a.tmps.getD 30 undef = y30, a.tmps.getD 31 undef = y31, a.tmps.getD 32 undef = y32, a.tmps.getD 33 undef = y33, a.tmps.getD 34 undef = y34, a.tmps.getD 35 undef = y35, a.tmps.getD 36 undef = y36
        repeat' (first | go_values | go_skip | go_guarded | go_step | go_upon)
        exact bodyPost_ret (res_nn rfl HB 5 4 3 rfl rfl rfl rfl rfl rfl rfl) rfl ⟨rfl, HB.out.bel⟩
end Go.Proofs.YtngkolcpbgibcaaGreatDoor
