/- fun.ofValues of two or three values by its contract, by what it calls. Condition: what it calls keeps its contract. -/
import Derived.Test.YtngkolcpbgibcaaGreatDoorF6
import Derived.Test.YtngkolcpbgibcaaGreatDoorDr
set_option linter.unusedVariables false
set_option linter.unusedSimpArgs false
namespace Go.Proofs.YtngkolcpbgibcaaGreatDoor
open Go.RowKit
set_option maxRecDepth 20000 in
set_option maxHeartbeats 8000000 in
theorem ofv_8 {w : World} {A : Option Addr} {c : Nat} {x y r : VX} (h : RowF valF w (· < w.heap.size) A 2 [x, y])
    (HC : ∀ W, Below w.heap.size w W → Calls Tryz.prog 119 #[.int .i64 8, .agg (vc x).toArray, .agg (vc y).toArray] W fun e W' => e = .returned (.agg (vc r).toArray) ∧ Below W.heap.size W W') :
    Calls Tryz.prog 50 #[.int .i64 8, .slice A 2 c] w fun e W => e = .returned (.agg (vc r).toArray) ∧ Below w.heap.size w W := by
  have HC := Lib.hid HC; have HB := Lib.hid (BX.start w); obtain ⟨aa, rfl, H0⟩ := valx_at (i := 0) h rfl; have HX0 := Lib.hid H0
  have HX1 : Hid (∀ W, Below w.heap.size w W → ∀ (j : Nat) (u : Value), (vc y)[j]? = some u → W.cell? ((aa.add (1 * 6)).add j) = some u) := Lib.hid (by
    obtain ⟨a2, e, H1⟩ := valx_at (i := 1) h rfl; injection e with e; subst e
    exact H1)
  clear h H0; go_enter Tryz.func50, Tryz.ntmps50
  repeat' (first | ((with_reducible show Oper.wp _ _ _ _ _ _); refine al_v HB rfl ?_; clear HB; intro g0 W HB; go_simp) | go_values | go_skip | go_guarded | go_step | go_upon)
  refine wp_region_phases (S := (SBN w [[(g0, 32, vc .blank)], [(g0, 32, vc r)]])) (E := (fun _ _ => True)) [8] [(0, Is (.int .i64 8)), (4, Is (.pointer (some ⟨g0, 0, none⟩))), (1, Is (.slice (some aa) 2 c))] [(18, Is (.int .i64 8)), (19, Is (.slice (some aa) 2 c)), (20, Is (.pointer (some (aa.add (0 * 6))))), (21, Is (.agg (vc x).toArray)), (22, Is (.slice (some aa) 2 c)), (23, Is (.pointer (some (aa.add (1 * 6))))), (24, Is (.agg (vc y).toArray)), (25, Is (.agg (vc r).toArray))]
    [.op [0] none, .op [1] none, .op [19] none, .op [20] none, .op [1] none, .op [22] none, .op [23] none, .op [18, 21, 24] none, .phase 0 [4, 25] []] (by as_aux_lemma => kernel_rfl) ?_ ?_ ?_ ?_ ?_ ⟨stable_is _ _, stable_is _ _, stable_is _ _, stable_is _ _, stable_is _ _, stable_is _ _, stable_is _ _, stable_is _ _, stable_is _ _, stable_is _ _, stable_is _ _, trivial⟩ ?_ HB.out.drew ?_ ?_
  · as_aux_lemma => kernel_rfl
  · as_aux_lemma => kernel_rfl
  · as_aux_lemma => kernel_rfl
  · as_aux_lemma => kernel_rfl
  · as_aux_lemma => kernel_rfl
  · exact ⟨rfl, rfl, rfl, trivial⟩
  · refine ⟨?_, ?_, ?_, ?_, ?_, ?_, ?_, ?_, ?_, trivial⟩
    · as_aux_lemma => intro vals a W hS hL; have e0 : a.tmps.getD 0 undef = .int .i64 8 := hL.1; clear hL; go_simp; exact ⟨dstY (by rfl), hS, trivial⟩
    · as_aux_lemma => intro vals a W hS hL; have e1 : a.tmps.getD 1 undef = .slice (some aa) 2 c := hL.1; clear hL; go_simp; exact ⟨dstY (by rfl), hS, trivial⟩
    · as_aux_lemma => intro vals a W hS hL; have e19 : a.tmps.getD 19 undef = .slice (some aa) 2 c := hL.1; clear hL; go_simp; exact ⟨dstY (by rfl), hS, trivial⟩
    · as_aux_lemma => intro vals a W hS hL; have e20 : a.tmps.getD 20 undef = .pointer (some (aa.add (0 * 6))) := hL.1; clear hL; refine lands_v (run_ldm rtV (HX0.out W (SBN.bel hS)) (.tmp 20) rfl e20) ?_; exact ⟨dstY (by rfl), hS, trivial⟩
    · as_aux_lemma => intro vals a W hS hL; have e1 : a.tmps.getD 1 undef = .slice (some aa) 2 c := hL.1; clear hL; go_simp; exact ⟨dstY (by rfl), hS, trivial⟩
    · as_aux_lemma => intro vals a W hS hL; have e22 : a.tmps.getD 22 undef = .slice (some aa) 2 c := hL.1; clear hL; go_simp; exact ⟨dstY (by rfl), hS, trivial⟩
    · as_aux_lemma => intro vals a W hS hL; have e23 : a.tmps.getD 23 undef = .pointer (some (aa.add (1 * 6))) := hL.1; clear hL; refine lands_v (run_ldm rtV (HX1.out W (SBN.bel hS)) (.tmp 23) rfl e23) ?_; exact ⟨dstY (by rfl), hS, trivial⟩
    · as_aux_lemma => intro vals a W hS hL; have e18 : a.tmps.getD 18 undef = .int .i64 8 := hL.1; have e21 : a.tmps.getD 21 undef = .agg (vc x).toArray := hL.2.1; have e24 : a.tmps.getD 24 undef = .agg (vc y).toArray := hL.2.2.1; clear hL; go_simp; refine (HC.out W (SBN.bel hS)).mono ?_; rintro e W2 ⟨rfl, hb⟩; exact ⟨_, rfl, dstY (by rfl), hS.call hb, trivial⟩
    · as_aux_lemma =>
        intro a W vals hv hS hL hp; have e4 : a.tmps.getD 4 undef = .pointer (some ⟨g0, 0, none⟩) := hL.1; have e25 : a.tmps.getD 25 undef = .agg (vc r).toArray := hL.2.1; clear hL
        match vals, hv, hS with
        | [], _, hS =>
          refine lands_stg (vs := vc r) rtV (vc_one _) (i := 0) (show BX w [(g0, 32, vc .blank)] W from hS) rfl ((vc_len _).trans (vc_len _).symm) (.tmp 4) (.tmp 25) rfl e4 e25 fun W2 h2 => ?_; exact ⟨h2, trivial, trivial⟩
  · intro a W vals hd hsz hT hF hv hP hS
    obtain ⟨v0, rfl⟩ : ∃ v0, vals = [v0] := by
      match vals, hv with
      | [xv0], _ => exact ⟨xv0, rfl⟩
    have HB : Hid (BX w [(g0, 32, vc r)] W) := Lib.hid hS; have e0 : a.tmps.getD 0 undef = .int .i64 8 := hT 0 (by simp); have e4 : a.tmps.getD 4 undef = .pointer (some ⟨g0, 0, none⟩) := hT 4 (by simp); have e1 : a.tmps.getD 1 undef = .slice (some aa) 2 c := hT 1 (by simp); clear hT hF hP hS; rw [act_lit 100 a hd hsz]; simp only [List.range, List.range.loop, List.map, e0, e4, e1]; clear e0 e4 e1 hsz hd; generalize a.tmps.getD 2 undef = y2, a.tmps.getD 3 undef = y3, a.tmps.getD 5 undef = y5, a.tmps.getD 6 undef = y6, a.tmps.getD 7 undef = y7, a.tmps.getD 8 undef = y8, a.tmps.getD 9 undef = y9, a.tmps.getD 10 undef = y10, a.tmps.getD 11 undef = y11, a.tmps.getD 12 undef = y12, a.tmps.getD 13 undef = y13, a.tmps.getD 14 undef = y14, a.tmps.getD 15 undef = y15, a.tmps.getD 16 undef = y16, a.tmps.getD 17 undef = y17, a.tmps.getD 18 undef = y18, a.tmps.getD 19 undef = y19, a.tmps.getD 20 undef = y20, a.tmps.getD 21 undef = y21, a.tmps.getD 22 undef = y22, a.tmps.getD 23 undef = y23, a.tmps.getD 24 undef = y24, a.tmps.getD 25 undef = y25, a.tmps.getD 26 undef = y26, a.tmps.getD 27 undef = y27, a.tmps.getD 28 undef = y28, a.tmps.getD 29 undef = y29, a.tmps.getD 30 undef = y30, a.tmps.getD 31 undef = y31, a.tmps.getD 32 undef = y32, a.tmps.getD 33 undef = y33, a.tmps.getD 34 undef = y34, a.tmps.getD 35 undef = y35, a.tmps.getD 36 undef = y36, a.tmps.getD 37 undef = y37, a.tmps.getD 38 undef = y38, a.tmps.getD 39 undef = y39, a.tmps.getD 40 undef = y40, a.tmps.getD 41 undef = y41, a.tmps.getD 42 undef = y42, a.tmps.getD 43 undef = y43, a.tmps.getD 44 undef = y44, a.tmps.getD 45 undef = y45, a.tmps.getD 46 undef = y46, a.tmps.getD 47 undef = y47, a.tmps.getD 48 undef = y48, a.tmps.getD 49 undef = y49, a.tmps.getD 50 undef = y50, a.tmps.getD 51 undef = y51, a.tmps.getD 52 undef = y52, a.tmps.getD 53 undef = y53, a.tmps.getD 54 undef = y54, a.tmps.getD 55 undef = y55, a.tmps.getD 56 undef = y56, a.tmps.getD 57 undef = y57, a.tmps.getD 58 undef = y58, a.tmps.getD 59 undef = y59, a.tmps.getD 60 undef = y60, a.tmps.getD 61 undef = y61, a.tmps.getD 62 undef = y62, a.tmps.getD 63 undef = y63, a.tmps.getD 64 undef = y64, a.tmps.getD 65 undef = y65, a.tmps.getD 66 undef = y66, a.tmps.getD 67 undef = y67, a.tmps.getD 68 undef = y68, a.tmps.getD 69 undef = y69, a.tmps.getD 70 undef = y70, a.tmps.getD 71 undef = y71, a.tmps.getD 72 undef = y72, a.tmps.getD 73 undef = y73, a.tmps.getD 74 undef = y74, a.tmps.getD 75 undef = y75, a.tmps.getD 76 undef = y76, a.tmps.getD 77 undef = y77, a.tmps.getD 78 undef = y78, a.tmps.getD 79 undef = y79, a.tmps.getD 80 undef = y80, a.tmps.getD 81 undef = y81, a.tmps.getD 82 undef = y82, a.tmps.getD 83 undef = y83, a.tmps.getD 84 undef = y84, a.tmps.getD 85 undef = y85, a.tmps.getD 86 undef = y86, a.tmps.getD 87 undef = y87, a.tmps.getD 88 undef = y88, a.tmps.getD 89 undef = y89, a.tmps.getD 90 undef = y90, a.tmps.getD 91 undef = y91, a.tmps.getD 92 undef = y92, a.tmps.getD 93 undef = y93, a.tmps.getD 94 undef = y94, a.tmps.getD 95 undef = y95, a.tmps.getD 96 undef = y96, a.tmps.getD 97 undef = y97, a.tmps.getD 98 undef = y98, a.tmps.getD 99 undef = y99
    repeat' (first | go_values | go_skip | go_guarded | go_step | go_upon)
    exact bodyPost_ret (res_v rfl HB (i := 0) rfl rfl) rfl ⟨rfl, HB.out.bel⟩
set_option maxRecDepth 20000 in
set_option maxHeartbeats 8000000 in
theorem ofv_17 {w : World} {A : Option Addr} {c : Nat} {x y z r : VX} (h : RowF valF w (· < w.heap.size) A 3 [x, y, z])
    (HC : ∀ W, Below w.heap.size w W → Calls Tryz.prog 123 #[.agg (vc x).toArray, .agg (vc y).toArray, .agg (vc z).toArray] W fun e W' => e = .returned (.agg (vc r).toArray) ∧ Below W.heap.size W W') :
    Calls Tryz.prog 50 #[.int .i64 17, .slice A 3 c] w fun e W => e = .returned (.agg (vc r).toArray) ∧ Below w.heap.size w W := by
  have HC := Lib.hid HC; have HB := Lib.hid (BX.start w); obtain ⟨aa, rfl, H0⟩ := valx_at (i := 0) h rfl; have HX0 := Lib.hid H0
  have HX1 : Hid (∀ W, Below w.heap.size w W → ∀ (j : Nat) (u : Value), (vc y)[j]? = some u → W.cell? ((aa.add (1 * 6)).add j) = some u) := Lib.hid (by
    obtain ⟨a2, e, H1⟩ := valx_at (i := 1) h rfl; injection e with e; subst e
    exact H1)
  have HX2 : Hid (∀ W, Below w.heap.size w W → ∀ (j : Nat) (u : Value), (vc z)[j]? = some u → W.cell? ((aa.add (2 * 6)).add j) = some u) := Lib.hid (by
    obtain ⟨a2, e, H2⟩ := valx_at (i := 2) h rfl; injection e with e; subst e
    exact H2)
  clear h H0; go_enter Tryz.func50, Tryz.ntmps50
  repeat' (first | ((with_reducible show Oper.wp _ _ _ _ _ _); refine al_v HB rfl ?_; clear HB; intro g0 W HB; go_simp) | go_values | go_skip | go_guarded | go_step | go_upon)
  refine wp_region_phases (S := (SBN w [[(g0, 32, vc .blank)], [(g0, 32, vc r)]])) (E := (fun _ _ => True)) [10] [(0, Is (.int .i64 17)), (4, Is (.pointer (some ⟨g0, 0, none⟩))), (1, Is (.slice (some aa) 3 c))] [(49, Is (.slice (some aa) 3 c)), (50, Is (.pointer (some (aa.add (0 * 6))))), (51, Is (.agg (vc x).toArray)), (52, Is (.slice (some aa) 3 c)), (53, Is (.pointer (some (aa.add (1 * 6))))), (54, Is (.agg (vc y).toArray)), (55, Is (.slice (some aa) 3 c)), (56, Is (.pointer (some (aa.add (2 * 6))))), (57, Is (.agg (vc z).toArray)), (58, Is (.agg (vc r).toArray))]
    [.op [1] none, .op [49] none, .op [50] none, .op [1] none, .op [52] none, .op [53] none, .op [1] none, .op [55] none, .op [56] none, .op [51, 54, 57] none, .phase 0 [4, 58] []] (by as_aux_lemma => kernel_rfl) ?_ ?_ ?_ ?_ ?_ ⟨stable_is _ _, stable_is _ _, stable_is _ _, stable_is _ _, stable_is _ _, stable_is _ _, stable_is _ _, stable_is _ _, stable_is _ _, stable_is _ _, stable_is _ _, stable_is _ _, stable_is _ _, trivial⟩ ?_ HB.out.drew ?_ ?_
  · as_aux_lemma => kernel_rfl
  · as_aux_lemma => kernel_rfl
  · as_aux_lemma => kernel_rfl
  · as_aux_lemma => kernel_rfl
  · as_aux_lemma => kernel_rfl
  · exact ⟨rfl, rfl, rfl, trivial⟩
  · refine ⟨?_, ?_, ?_, ?_, ?_, ?_, ?_, ?_, ?_, ?_, ?_, trivial⟩
    · as_aux_lemma => intro vals a W hS hL; have e1 : a.tmps.getD 1 undef = .slice (some aa) 3 c := hL.1; clear hL; go_simp; exact ⟨dstY (by rfl), hS, trivial⟩
    · as_aux_lemma => intro vals a W hS hL; have e49 : a.tmps.getD 49 undef = .slice (some aa) 3 c := hL.1; clear hL; go_simp; exact ⟨dstY (by rfl), hS, trivial⟩
    · as_aux_lemma => intro vals a W hS hL; have e50 : a.tmps.getD 50 undef = .pointer (some (aa.add (0 * 6))) := hL.1; clear hL; refine lands_v (run_ldm rtV (HX0.out W (SBN.bel hS)) (.tmp 50) rfl e50) ?_; exact ⟨dstY (by rfl), hS, trivial⟩
    · as_aux_lemma => intro vals a W hS hL; have e1 : a.tmps.getD 1 undef = .slice (some aa) 3 c := hL.1; clear hL; go_simp; exact ⟨dstY (by rfl), hS, trivial⟩
    · as_aux_lemma => intro vals a W hS hL; have e52 : a.tmps.getD 52 undef = .slice (some aa) 3 c := hL.1; clear hL; go_simp; exact ⟨dstY (by rfl), hS, trivial⟩
    · as_aux_lemma => intro vals a W hS hL; have e53 : a.tmps.getD 53 undef = .pointer (some (aa.add (1 * 6))) := hL.1; clear hL; refine lands_v (run_ldm rtV (HX1.out W (SBN.bel hS)) (.tmp 53) rfl e53) ?_; exact ⟨dstY (by rfl), hS, trivial⟩
    · as_aux_lemma => intro vals a W hS hL; have e1 : a.tmps.getD 1 undef = .slice (some aa) 3 c := hL.1; clear hL; go_simp; exact ⟨dstY (by rfl), hS, trivial⟩
    · as_aux_lemma => intro vals a W hS hL; have e55 : a.tmps.getD 55 undef = .slice (some aa) 3 c := hL.1; clear hL; go_simp; exact ⟨dstY (by rfl), hS, trivial⟩
    · as_aux_lemma => intro vals a W hS hL; have e56 : a.tmps.getD 56 undef = .pointer (some (aa.add (2 * 6))) := hL.1; clear hL; refine lands_v (run_ldm rtV (HX2.out W (SBN.bel hS)) (.tmp 56) rfl e56) ?_; exact ⟨dstY (by rfl), hS, trivial⟩
    · as_aux_lemma => intro vals a W hS hL; have e51 : a.tmps.getD 51 undef = .agg (vc x).toArray := hL.1; have e54 : a.tmps.getD 54 undef = .agg (vc y).toArray := hL.2.1; have e57 : a.tmps.getD 57 undef = .agg (vc z).toArray := hL.2.2.1; clear hL; go_simp; refine (HC.out W (SBN.bel hS)).mono ?_; rintro e W2 ⟨rfl, hb⟩; exact ⟨_, rfl, dstY (by rfl), hS.call hb, trivial⟩
    · as_aux_lemma =>
        intro a W vals hv hS hL hp; have e4 : a.tmps.getD 4 undef = .pointer (some ⟨g0, 0, none⟩) := hL.1; have e58 : a.tmps.getD 58 undef = .agg (vc r).toArray := hL.2.1; clear hL
        match vals, hv, hS with
        | [], _, hS =>
          refine lands_stg (vs := vc r) rtV (vc_one _) (i := 0) (show BX w [(g0, 32, vc .blank)] W from hS) rfl ((vc_len _).trans (vc_len _).symm) (.tmp 4) (.tmp 58) rfl e4 e58 fun W2 h2 => ?_; exact ⟨h2, trivial, trivial⟩
  · intro a W vals hd hsz hT hF hv hP hS
    obtain ⟨v0, rfl⟩ : ∃ v0, vals = [v0] := by
      match vals, hv with
      | [xv0], _ => exact ⟨xv0, rfl⟩
    have HB : Hid (BX w [(g0, 32, vc r)] W) := Lib.hid hS; have e0 : a.tmps.getD 0 undef = .int .i64 17 := hT 0 (by simp); have e4 : a.tmps.getD 4 undef = .pointer (some ⟨g0, 0, none⟩) := hT 4 (by simp); have e1 : a.tmps.getD 1 undef = .slice (some aa) 3 c := hT 1 (by simp); clear hT hF hP hS; rw [act_lit 100 a hd hsz]; simp only [List.range, List.range.loop, List.map, e0, e4, e1]; clear e0 e4 e1 hsz hd; generalize a.tmps.getD 2 undef = y2, a.tmps.getD 3 undef = y3, a.tmps.getD 5 undef = y5, a.tmps.getD 6 undef = y6, a.tmps.getD 7 undef = y7, a.tmps.getD 8 undef = y8, a.tmps.getD 9 undef = y9, a.tmps.getD 10 undef = y10, a.tmps.getD 11 undef = y11, a.tmps.getD 12 undef = y12, a.tmps.getD 13 undef = y13, a.tmps.getD 14 undef = y14, a.tmps.getD 15 undef = y15, a.tmps.getD 16 undef = y16, a.tmps.getD 17 undef = y17, a.tmps.getD 18 undef = y18, a.tmps.getD 19 undef = y19, a.tmps.getD 20 undef = y20, a.tmps.getD 21 undef = y21, a.tmps.getD 22 undef = y22, a.tmps.getD 23 undef = y23, a.tmps.getD 24 undef = y24, a.tmps.getD 25 undef = y25, a.tmps.getD 26 undef = y26, a.tmps.getD 27 undef = y27, a.tmps.getD 28 undef = y28, a.tmps.getD 29 undef = y29, a.tmps.getD 30 undef = y30, a.tmps.getD 31 undef = y31, a.tmps.getD 32 undef = y32, a.tmps.getD 33 undef = y33, a.tmps.getD 34 undef = y34, a.tmps.getD 35 undef = y35, a.tmps.getD 36 undef = y36, a.tmps.getD 37 undef = y37, a.tmps.getD 38 undef = y38, a.tmps.getD 39 undef = y39, a.tmps.getD 40 undef = y40, a.tmps.getD 41 undef = y41, a.tmps.getD 42 undef = y42, a.tmps.getD 43 undef = y43, a.tmps.getD 44 undef = y44, a.tmps.getD 45 undef = y45, a.tmps.getD 46 undef = y46, a.tmps.getD 47 undef = y47, a.tmps.getD 48 undef = y48, a.tmps.getD 49 undef = y49, a.tmps.getD 50 undef = y50, a.tmps.getD 51 undef = y51, a.tmps.getD 52 undef = y52, a.tmps.getD 53 undef = y53, a.tmps.getD 54 undef = y54, a.tmps.getD 55 undef = y55, a.tmps.getD 56 undef = y56, a.tmps.getD 57 undef = y57, a.tmps.getD 58 undef = y58, a.tmps.getD 59 undef = y59, a.tmps.getD 60 undef = y60, a.tmps.getD 61 undef = y61, a.tmps.getD 62 undef = y62, a.tmps.getD 63 undef = y63, a.tmps.getD 64 undef = y64, a.tmps.getD 65 undef = y65, a.tmps.getD 66 undef = y66, a.tmps.getD 67 undef = y67, a.tmps.getD 68 undef = y68, a.tmps.getD 69 undef = y69, a.tmps.getD 70 undef = y70, a.tmps.getD 71 undef = y71, a.tmps.getD 72 undef = y72, a.tmps.getD 73 undef = y73, a.tmps.getD 74 undef = y74, a.tmps.getD 75 undef = y75, a.tmps.getD 76 undef = y76, a.tmps.getD 77 undef = y77, a.tmps.getD 78 undef = y78, a.tmps.getD 79 undef = y79, a.tmps.getD 80 undef = y80, a.tmps.getD 81 undef = y81, a.tmps.getD 82 undef = y82, a.tmps.getD 83 undef = y83, a.tmps.getD 84 undef = y84, a.tmps.getD 85 undef = y85, a.tmps.getD 86 undef = y86, a.tmps.getD 87 undef = y87, a.tmps.getD 88 undef = y88, a.tmps.getD 89 undef = y89, a.tmps.getD 90 undef = y90, a.tmps.getD 91 undef = y91, a.tmps.getD 92 undef = y92, a.tmps.getD 93 undef = y93, a.tmps.getD 94 undef = y94, a.tmps.getD 95 undef = y95, a.tmps.getD 96 undef = y96, a.tmps.getD 97 undef = y97, a.tmps.getD 98 undef = y98, a.tmps.getD 99 undef = y99
    repeat' (first | go_values | go_skip | go_guarded | go_step | go_upon)
    exact bodyPost_ret (res_v rfl HB (i := 0) rfl rfl) rfl ⟨rfl, HB.out.bel⟩
end Go.Proofs.YtngkolcpbgibcaaGreatDoor
