/- ptg.get, by their contracts. Conditions: the bytes read as such; utf8.ValidString keeps its contract. -/
import Derived.Test.YtlaiocdnddnnaaaGreatDoorGs12
import Derived.Test.YtlaiocdnddnnaaaGreatDoorBy
set_option linter.unusedVariables false
set_option linter.unusedSimpArgs false
namespace Go.Proofs.YtlaiocdnddnnaaaGreatDoor
open Go.RowKit
def S6 (w : World) (B0 : Bxs) (cs : List Value) : List Value → World → Prop
  | [], W => BX w B0 W
  | [v], W => ∃ g, v = .pointer (some ⟨g, 0, none⟩) ∧ BX w ((g, 82, cu none 0 0 0) :: B0) W
  | v :: _ :: _, W => ∃ g, v = .pointer (some ⟨g, 0, none⟩) ∧ BX w ((g, 82, cs) :: B0) W
theorem S6.get {w W : World} {B0 : Bxs} {cs ds : List Value} {vals : List Value} {i g : Nat} {ty : TypeId} (h : S6 w B0 cs vals W) (hi : B0[i]? = some (g, ty, ds)) : Bk W g ty ds.toArray := by
  match vals, h with
  | [], h => exact BX.get h hi
  | [_], h =>
    obtain ⟨g', _, hb⟩ := h; exact hb.get (i := i + 1) (by simpa using hi)
  | _ :: _ :: _, h =>
    obtain ⟨g', _, hb⟩ := h; exact hb.get (i := i + 1) (by simpa using hi)
theorem S6.call {w W W' : World} {B0 : Bxs} {cs : List Value} {vals : List Value} (h : S6 w B0 cs vals W) (hb : Below W.heap.size W W') : S6 w B0 cs vals W' := by
  match vals, h with
  | [], h => exact BX.call h hb
  | [_], h =>
    obtain ⟨g', e, h⟩ := h; exact ⟨g', e, h.call hb⟩
  | _ :: _ :: _, h =>
    obtain ⟨g', e, h⟩ := h; exact ⟨g', e, h.call hb⟩
theorem S6.bel {w W : World} {B0 : Bxs} {cs : List Value} {vals : List Value} (h : S6 w B0 cs vals W) : Below w.heap.size w W := by
  match vals, h with
  | [], h => exact BX.bel h
  | [_], h => obtain ⟨g', e, h⟩ := h; exact h.bel
  | _ :: _ :: _, h => obtain ⟨g', e, h⟩ := h; exact h.bel
set_option maxRecDepth 20000 in
set_option maxHeartbeats 4000000 in
theorem get_end {w : World} {A : Option Addr} {n c B i : Nat} {l : List UInt8} (HH : Hid (Rd w B 1 A n (l.map bv) ∧ B ≤ w.heap.size)) (H1 : Hid (∀ W : World, Rd W B 1 A n (l.map bv) → B ≤ W.heap.size → Calls Tryz.prog 102 #[.agg #[.slice A n c, .int .i64 i]] W fun e W' => e = .returned (.tuple #[.int .i64 (0 : Int), .agg #[.slice A n c, .int .i64 i], .int .i64 5]) ∧ Below W.heap.size W W')) :
    Calls Tryz.prog 84 #[.agg #[.slice A n c, .int .i64 i]] w fun e W => e = .returned (.tuple #[.agg (tc zp (.slice none 0 0) 0).toArray, .agg (cu A n c i).toArray, .int .i64 5]) ∧ Below w.heap.size w W := by
  have HB : Hid (BX w [] w) := Lib.hid (BX.start w); go_enter Tryz.func84, Tryz.ntmps84
  repeat' (first | ((with_reducible show Oper.wp _ _ _ _ _ _); with_reducible refine stop_bx _ rfl ?_) | go_values | go_skip | go_guarded | go_step | go_upon)
  refine Lib.hid ?_; refine al_g HB 82 (cu A n c i) (by kernel_rfl) ?_; clear HB
  (first | (have _t : Nat := g10; clear _t; intro g11 W HB) | (have _t : Nat := g9; clear _t; intro g10 W HB) | (have _t : Nat := g8; clear _t; intro g9 W HB) | (have _t : Nat := g7; clear _t; intro g8 W HB) | (have _t : Nat := g6; clear _t; intro g7 W HB) | (have _t : Nat := g5; clear _t; intro g6 W HB) | (have _t : Nat := g4; clear _t; intro g5 W HB) | (have _t : Nat := g3; clear _t; intro g4 W HB) | (have _t : Nat := g2; clear _t; intro g3 W HB) | (have _t : Nat := g1; clear _t; intro g2 W HB) | (have _t : Nat := g0; clear _t; intro g1 W HB) | intro g0 W HB)
  go_simp
  repeat' (first | ((with_reducible show Oper.wp _ _ _ _ _ _); (first | ((first | (with_reducible refine is_al 82 rfl ?_; refine al_g HB 82 (cu none 0 0 0) (by kernel_rfl) ?_) | (with_reducible refine is_al 144 rfl ?_; refine al_g HB 144 (tc zp (.slice none 0 0) 0) (by kernel_rfl) ?_)); clear HB; (first | (have _t : Nat := g1; clear _t; intro g2 W HB) | (have _t : Nat := g0; clear _t; intro g1 W HB)); go_simp) | (with_reducible refine is_ld 82 _ rfl ?_; refine ld_cu 2 HB rfl _ rfl rfl ?_; go_simp))) | go_values | go_skip | go_guarded | go_step | go_upon)
  refine (H1.out _ (HH.out.1.belowMono HB.out.bel HH.out.2) (Nat.le_trans HH.out.2 HB.out.bel.size)).mono ?_; rintro e W1 ⟨rfl, hb⟩; have HB := Lib.hid (HB.out.call hb); clear hb; dsimp only
  repeat' (first | ((with_reducible show Oper.wp _ _ _ _ _ _); with_reducible refine is_st 82 _ _ rfl ?_; refine st_cu 2 HB rfl _ _ rfl rfl rfl ?_; clear HB; intro W HB; dsimp only [List.set] at HB; go_simp) | go_values | go_skip | go_guarded | go_step | go_upon)
  refine wp_region_phases (S := (SBN w [[(g2, 82, cu none 0 0 0), (g1, 144, tc zp (.slice none 0 0) 0), (g0, 82, cu A n c i)], [(g2, 82, cu none 0 0 0), (g1, 144, tc zp (.slice none 0 0) 0), (g0, 82, cu A n c i)], [(g2, 82, cu A n c i), (g1, 144, tc zp (.slice none 0 0) 0), (g0, 82, cu A n c i)]])) (E := (fun _ _ => True)) [3, 4] [(1, Is (.pointer (some ⟨g0, 0, none⟩))), (2, Is (.pointer (some ⟨g1, 0, none⟩))), (3, Is (.pointer (some ⟨g2, 0, none⟩))), (5, Is (.int .i64 0)), (6, Is (.int .i64 5))] [(18, Is (.agg (tc zp (.slice none 0 0) 0).toArray)), (19, Is (.agg (cu A n c i).toArray)), (20, Is (.int .i64 5)), (4, Is (.int .i64 5))]
    [.op [] none, .op [1] none, .op [6] none, .phase 0 [2, 18] [], .phase 1 [3, 19] [], .op [20] none] (by as_aux_lemma => kernel_rfl) ?_ ?_ ?_ ?_ ?_ ⟨stable_is _ _, stable_is _ _, stable_is _ _, stable_is _ _, stable_is _ _, stable_is _ _, stable_is _ _, stable_is _ _, stable_is _ _, trivial⟩ ?_ HB.out.drew ?_ ?_
  · as_aux_lemma => kernel_rfl
  · as_aux_lemma => kernel_rfl
  · as_aux_lemma => kernel_rfl
  · as_aux_lemma => kernel_rfl
  · as_aux_lemma => kernel_rfl
  · exact ⟨rfl, rfl, rfl, rfl, rfl, trivial⟩
  · refine ⟨?_, ?_, ?_, ?_, ?_, ?_, trivial⟩
    · as_aux_lemma => intro vals a W hS hL; clear hL; refine lands_vB (v := .agg (tc zp (.slice none 0 0) 0).toArray) (w' := W) (by kernel_rfl) ?_; exact ⟨dstY (by rfl), hS, trivial⟩
    · as_aux_lemma => intro vals a W hS hL; have e1 : a.tmps.getD 1 undef = .pointer (some ⟨g0, 0, none⟩) := hL.1; clear hL; refine lands_vB (run_ldg rtCur (hS.get 2 ⟨rfl, rfl, rfl, trivial⟩) (.tmp 1) rfl e1) ?_; exact ⟨dstY (by rfl), hS, trivial⟩
    · as_aux_lemma => intro vals a W hS hL; have e6 : a.tmps.getD 6 undef = .int .i64 5 := hL.1; clear hL; go_simp; exact ⟨dstY (by rfl), hS, trivial⟩
    · as_aux_lemma =>
        intro a W vals hv hS hL hp; have e2 : a.tmps.getD 2 undef = .pointer (some ⟨g1, 0, none⟩) := hL.1; have e18 : a.tmps.getD 18 undef = .agg (tc zp (.slice none 0 0) 0).toArray := hL.2.1; clear hL
        match vals, hv, hS with
        | [], _, hS =>
          refine lands_stg (vs := tc zp (.slice none 0 0) 0) rtTok tc_one (i := 1) (show BX w [(g2, 82, cu none 0 0 0), (g1, 144, tc zp (.slice none 0 0) 0), (g0, 82, cu A n c i)] W from hS) rfl rfl (.tmp 2) (.tmp 18) rfl e2 e18 fun W2 h2 => ?_; exact ⟨h2, trivial, trivial⟩
    · as_aux_lemma =>
        intro a W vals hv hS hL hp; have e3 : a.tmps.getD 3 undef = .pointer (some ⟨g2, 0, none⟩) := hL.1; have e19 : a.tmps.getD 19 undef = .agg (cu A n c i).toArray := hL.2.1; clear hL
        match vals, hv, hS with
        | [u0], _, hS =>
          refine lands_stg (vs := cu A n c i) rtCur cu_one (i := 0) (show BX w [(g2, 82, cu none 0 0 0), (g1, 144, tc zp (.slice none 0 0) 0), (g0, 82, cu A n c i)] W from hS) rfl rfl (.tmp 3) (.tmp 19) rfl e3 e19 fun W2 h2 => ?_; exact ⟨h2, trivial, trivial⟩
    · as_aux_lemma => intro vals a W hS hL; have e20 : a.tmps.getD 20 undef = .int .i64 5 := hL.1; clear hL; go_simp; exact ⟨dstY (by rfl), hS, trivial⟩
  · intro a W vals hd hsz hT hF hv hP hS
    obtain ⟨v0, v1, rfl⟩ : ∃ v0 v1, vals = [v0, v1] := by
      match vals, hv with
      | [xv0, xv1], _ => exact ⟨xv0, xv1, rfl⟩
    have HB : Hid (BX w [(g2, 82, cu A n c i), (g1, 144, tc zp (.slice none 0 0) 0), (g0, 82, cu A n c i)] W) := Lib.hid hS; have e1 : a.tmps.getD 1 undef = .pointer (some ⟨g0, 0, none⟩) := hT 1 (by simp); have e2 : a.tmps.getD 2 undef = .pointer (some ⟨g1, 0, none⟩) := hT 2 (by simp); have e3 : a.tmps.getD 3 undef = .pointer (some ⟨g2, 0, none⟩) := hT 3 (by simp); have e5 : a.tmps.getD 5 undef = .int .i64 0 := hT 5 (by simp); have e6 : a.tmps.getD 6 undef = .int .i64 5 := hT 6 (by simp); have e4 : a.tmps.getD 4 undef = .int .i64 5 := hT 4 (by simp); clear hT hF hP hS; rw [act_lit 50 a hd hsz]; simp only [List.range, List.range.loop, List.map, e1, e2, e3, e5, e6, e4]; clear e1 e2 e3 e5 e6 e4 hsz hd; generalize a.tmps.getD 0 undef = y0, a.tmps.getD 7 undef = y7, a.tmps.getD 8 undef = y8, a.tmps.getD 9 undef = y9, a.tmps.getD 10 undef = y10, a.tmps.getD 11 undef = y11, a.tmps.getD 12 undef = y12, a.tmps.getD 13 undef = y13, a.tmps.getD 14 undef = y14, a.tmps.getD 15 undef = y15, a.tmps.getD 16 undef = y16, a.tmps.getD 17 undef = y17, a.tmps.getD 18 undef = y18, a.tmps.getD 19 undef = y19, a.tmps.getD 20 undef = y20, a.tmps.getD 21 undef = y21, a.tmps.getD 22 undef = y22, a.tmps.getD 23 undef = y23, a.tmps.getD 24 undef = y24, a.tmps.getD 25 undef = y25, a.tmps.getD 26 undef = y26, a.tmps.getD 27 undef = y27, a.tmps.getD 28 undef = y28, a.tmps.getD 29 undef = y29, a.tmps.getD 30 undef = y30, a.tmps.getD 31 undef = y31, a.tmps.getD 32 undef = y32, a.tmps.getD 33 undef = y33, a.tmps.getD 34 undef = y34, a.tmps.getD 35 undef = y35, a.tmps.getD 36 undef = y36, a.tmps.getD 37 undef = y37, a.tmps.getD 38 undef = y38, a.tmps.getD 39 undef = y39, a.tmps.getD 40 undef = y40, a.tmps.getD 41 undef = y41, a.tmps.getD 42 undef = y42, a.tmps.getD 43 undef = y43, a.tmps.getD 44 undef = y44, a.tmps.getD 45 undef = y45, a.tmps.getD 46 undef = y46, a.tmps.getD 47 undef = y47, a.tmps.getD 48 undef = y48, a.tmps.getD 49 undef = y49
    repeat' (first | go_values | go_skip | go_guarded | go_step | go_upon)
    exact bodyPost_ret (res_tcn rfl 1 0 HB rfl rfl rfl rfl rfl) rfl ⟨rfl, HB.out.bel⟩
set_option maxRecDepth 20000 in
set_option maxHeartbeats 4000000 in
theorem get_str {w : World} {A : Option Addr} {n c B i : Nat} {l : List UInt8} {j : Nat} (HH : Hid (Rd w B 1 A n (l.map bv) ∧ B ≤ w.heap.size)) (H1 : Hid (∀ W : World, Rd W B 1 A n (l.map bv) → B ≤ W.heap.size → Calls Tryz.prog 102 #[.agg #[.slice A n c, .int .i64 i]] W fun e W' => e = .returned (.tuple #[.int .i64 (23 : Int), .agg #[.slice A n c, .int .i64 j], .int .i64 0]) ∧ Below W.heap.size W W')) (H2 : Hid (∀ W : World, Below w.heap.size w W → Calls Tryz.prog 103 #[.agg #[.slice A n c, .int .i64 j]] W (GtOk W A n c (stT l j)))) :
    Calls Tryz.prog 84 #[.agg #[.slice A n c, .int .i64 i]] w (GtOk w A n c (stT l j)) := by
  generalize stT l j = R at *; have HB : Hid (BX w [] w) := Lib.hid (BX.start w); go_enter Tryz.func84, Tryz.ntmps84
  repeat' (first | ((with_reducible show Oper.wp _ _ _ _ _ _); with_reducible refine stop_bx _ rfl ?_) | go_values | go_skip | go_guarded | go_step | go_upon)
  refine Lib.hid ?_; refine al_g HB 82 (cu A n c i) (by kernel_rfl) ?_; clear HB
  (first | (have _t : Nat := g10; clear _t; intro g11 W HB) | (have _t : Nat := g9; clear _t; intro g10 W HB) | (have _t : Nat := g8; clear _t; intro g9 W HB) | (have _t : Nat := g7; clear _t; intro g8 W HB) | (have _t : Nat := g6; clear _t; intro g7 W HB) | (have _t : Nat := g5; clear _t; intro g6 W HB) | (have _t : Nat := g4; clear _t; intro g5 W HB) | (have _t : Nat := g3; clear _t; intro g4 W HB) | (have _t : Nat := g2; clear _t; intro g3 W HB) | (have _t : Nat := g1; clear _t; intro g2 W HB) | (have _t : Nat := g0; clear _t; intro g1 W HB) | intro g0 W HB)
  go_simp
  repeat' (first | ((with_reducible show Oper.wp _ _ _ _ _ _); (first | ((first | (with_reducible refine is_al 82 rfl ?_; refine al_g HB 82 (cu none 0 0 0) (by kernel_rfl) ?_) | (with_reducible refine is_al 144 rfl ?_; refine al_g HB 144 (tc zp (.slice none 0 0) 0) (by kernel_rfl) ?_)); clear HB; (first | (have _t : Nat := g1; clear _t; intro g2 W HB) | (have _t : Nat := g0; clear _t; intro g1 W HB)); go_simp) | (with_reducible refine is_ld 82 _ rfl ?_; refine ld_cu 2 HB rfl _ rfl rfl ?_; go_simp))) | go_values | go_skip | go_guarded | go_step | go_upon)
  refine (H1.out _ (HH.out.1.belowMono HB.out.bel HH.out.2) (Nat.le_trans HH.out.2 HB.out.bel.size)).mono ?_; rintro e W1 ⟨rfl, hb⟩; have HB := Lib.hid (HB.out.call hb); clear hb; dsimp only
  repeat' (first | ((with_reducible show Oper.wp _ _ _ _ _ _); (first | (with_reducible refine is_ld 82 _ rfl ?_; refine ld_cu 2 HB rfl _ rfl rfl ?_; go_simp) | (with_reducible refine is_st 82 _ _ rfl ?_; refine st_cu 2 HB rfl _ _ rfl rfl rfl ?_; clear HB; intro W HB; dsimp only [List.set] at HB; go_simp))) | go_values | go_skip | go_guarded | go_step | go_upon)
  refine (H2.out _ HB.out.bel).mono ?_; rintro e W1 ⟨q, z, rfl, hq, hb⟩; have HB := Lib.hid (HB.out.call hb); have HQ := Lib.hid hq; clear hb hq; dsimp only; unfold tkV
  repeat' (first | ((with_reducible show Oper.wp _ _ _ _ _ _); (first | (with_reducible refine is_st 82 _ _ rfl ?_; refine st_cu 0 HB rfl _ _ rfl rfl rfl ?_) | (with_reducible refine is_st 144 _ _ rfl ?_; refine st_tc 1 HB rfl _ _ rfl rfl rfl ?_)); clear HB; intro W HB; dsimp only [List.set] at HB; go_simp) | go_values | go_skip | go_guarded | go_step | go_upon)
  exact bodyPost_ret (res_tcn rfl 1 0 HB rfl rfl rfl rfl rfl) rfl ⟨q, z, rfl, HQ.out, HB.out.bel⟩
set_option maxRecDepth 20000 in
set_option maxHeartbeats 4000000 in
theorem get_short {w : World} {A : Option Addr} {n c B i : Nat} {l : List UInt8} {j : Nat} {m k z : Int} (HH : Hid (Rd w B 1 A n (l.map bv) ∧ B ≤ w.heap.size)) (H1 : Hid (∀ W : World, Rd W B 1 A n (l.map bv) → B ≤ W.heap.size → Calls Tryz.prog 102 #[.agg #[.slice A n c, .int .i64 i]] W fun e W' => e = .returned (.tuple #[.int .i64 m, .agg #[.slice A n c, .int .i64 j], .int .i64 0]) ∧ Below W.heap.size W W')) (HM : Hid (¬ m = 23)) (HSZ : Hid (∀ W : World, Calls Tryz.prog 105 #[.int .i64 m] W fun e W' => e = .returned (.int .i64 k) ∧ W' = W)) (HBY : Hid (∀ W : World, Rd W B 1 A n (l.map bv) → B ≤ W.heap.size → Calls Tryz.prog 104 #[.agg #[.slice A n c, .int .i64 j], .int .i64 k] W fun e W' => ∃ u, e = .returned (.tuple #[u, .agg #[.slice A n c, .int .i64 z], .int .i64 5]) ∧ Below W.heap.size W W')) :
    Calls Tryz.prog 84 #[.agg #[.slice A n c, .int .i64 i]] w fun e W => e = .returned (.tuple #[.agg (tc zp (.slice none 0 0) 0).toArray, .agg (cu A n c j).toArray, .int .i64 5]) ∧ Below w.heap.size w W := by
  have hm2 : (m == 23) = false := by rw [beq_eq_false_iff_ne]; exact HM.out
  have HB : Hid (BX w [] w) := Lib.hid (BX.start w); go_enter Tryz.func84, Tryz.ntmps84
  repeat' (first | ((with_reducible show Oper.wp _ _ _ _ _ _); with_reducible refine stop_bx _ rfl ?_) | go_values | go_skip | go_guarded | go_step | go_upon)
  refine Lib.hid ?_; refine al_g HB 82 (cu A n c i) (by kernel_rfl) ?_; clear HB
  (first | (have _t : Nat := g10; clear _t; intro g11 W HB) | (have _t : Nat := g9; clear _t; intro g10 W HB) | (have _t : Nat := g8; clear _t; intro g9 W HB) | (have _t : Nat := g7; clear _t; intro g8 W HB) | (have _t : Nat := g6; clear _t; intro g7 W HB) | (have _t : Nat := g5; clear _t; intro g6 W HB) | (have _t : Nat := g4; clear _t; intro g5 W HB) | (have _t : Nat := g3; clear _t; intro g4 W HB) | (have _t : Nat := g2; clear _t; intro g3 W HB) | (have _t : Nat := g1; clear _t; intro g2 W HB) | (have _t : Nat := g0; clear _t; intro g1 W HB) | intro g0 W HB)
  go_simp
  repeat' (first | ((with_reducible show Oper.wp _ _ _ _ _ _); (first | ((first | (with_reducible refine is_al 82 rfl ?_; refine al_g HB 82 (cu none 0 0 0) (by kernel_rfl) ?_) | (with_reducible refine is_al 144 rfl ?_; refine al_g HB 144 (tc zp (.slice none 0 0) 0) (by kernel_rfl) ?_)); clear HB; (first | (have _t : Nat := g1; clear _t; intro g2 W HB) | (have _t : Nat := g0; clear _t; intro g1 W HB)); go_simp) | (with_reducible refine is_ld 82 _ rfl ?_; refine ld_cu 2 HB rfl _ rfl rfl ?_; go_simp))) | go_values | go_skip | go_guarded | go_step | go_upon)
  refine (H1.out _ (HH.out.1.belowMono HB.out.bel HH.out.2) (Nat.le_trans HH.out.2 HB.out.bel.size)).mono ?_; rintro e W1 ⟨rfl, hb⟩; have HB := Lib.hid (HB.out.call hb); clear hb; dsimp only
  repeat' (first | ((with_reducible show Oper.wp _ _ _ _ _ _); with_reducible refine is_st 82 _ _ rfl ?_; refine st_cu 2 HB rfl _ _ rfl rfl rfl ?_; clear HB; intro W HB; dsimp only [List.set] at HB; go_simp) | go_values | go_skip | go_guarded | go_step | go_upon)
  refine wp_region_phases (S := (S6 w [(g2, 82, cu none 0 0 0), (g1, 144, tc zp (.slice none 0 0) 0), (g0, 82, cu A n c j)] (cu A n c z))) (E := (fun _ _ => True)) [8, 10] [(1, Is (.pointer (some ⟨g0, 0, none⟩))), (2, Is (.pointer (some ⟨g1, 0, none⟩))), (3, Is (.pointer (some ⟨g2, 0, none⟩))), (5, Is (.int .i64 m))] [(29, Is (.agg (cu A n c j).toArray)), (30, Is (.int .i64 m)), (31, Is (.int .i64 k)), (32, fun v _ => ∃ u, v = .tuple #[u, .agg #[.slice A n c, .int .i64 z], .int .i64 5]), (28, fun v _ => ∃ u, v = .tuple #[u, .agg #[.slice A n c, .int .i64 z], .int .i64 5]), (33, fun _ _ => True), (34, Is (.agg #[.slice A n c, .int .i64 z])), (35, Is (.int .i64 5)), (7, fun _ _ => True), (6, Is (.int .i64 5))]
    [.op [1] none, .op [5] none, .op [30] none, .op [29, 31] none, .op [32] none, .op [28] none, .op [28] none, .op [28] none, .phase 0 [] [], .op [33] none, .phase 1 [34] [(0, 8)], .op [35] none] (by as_aux_lemma => kernel_rfl) ?_ ?_ ?_ ?_ ?_ ⟨stable_is _ _, stable_is _ _, stable_is _ _, stable_is _ _, stable_is _ _, stable_is _ _, stable_is _ _, fun _ _ _ _ h => h, fun _ _ _ _ h => h, fun _ _ _ _ h => h, stable_is _ _, stable_is _ _, fun _ _ _ _ h => h, stable_is _ _, trivial⟩ ?_ HB.out.drew ?_ ?_
  · as_aux_lemma => kernel_rfl
  · as_aux_lemma => kernel_rfl
  · as_aux_lemma => kernel_rfl
  · as_aux_lemma => kernel_rfl
  · as_aux_lemma => kernel_rfl
  · exact ⟨rfl, rfl, rfl, rfl, trivial⟩
  · refine ⟨?_, ?_, ?_, ?_, ?_, ?_, ?_, ?_, ?_, ?_, ?_, ?_, trivial⟩
    · as_aux_lemma => intro vals a W hS hL; have e1 : a.tmps.getD 1 undef = .pointer (some ⟨g0, 0, none⟩) := hL.1; clear hL; refine lands_vB (run_ldg rtCur (hS.get (i := 2) rfl) (.tmp 1) rfl e1) ?_; exact ⟨dstY (by rfl), hS, trivial⟩
    · as_aux_lemma => intro vals a W hS hL; have e5 : a.tmps.getD 5 undef = .int .i64 m := hL.1; clear hL; go_simp; exact ⟨dstY (by rfl), hS, trivial⟩
    · as_aux_lemma => intro vals a W hS hL; have e30 : a.tmps.getD 30 undef = .int .i64 m := hL.1; clear hL; go_simp; refine (HSZ.out W).mono ?_; rintro e W2 ⟨rfl, rfl⟩; exact ⟨_, rfl, dstY (by rfl), hS, trivial⟩
    · as_aux_lemma => intro vals a W hS hL; have e29 : a.tmps.getD 29 undef = .agg (cu A n c j).toArray := hL.1; have e31 : a.tmps.getD 31 undef = .int .i64 k := hL.2.1; clear hL; go_simp; refine (HBY.out W (HH.out.1.belowMono hS.bel HH.out.2) (Nat.le_trans HH.out.2 hS.bel.size)).mono ?_; rintro e W2 ⟨u, rfl, hb⟩; exact ⟨_, rfl, ⟨fun d hd => by injection hd with hd; subst hd; exact ⟨u, rfl⟩, fun h => by cases h⟩, hS.call hb, trivial⟩
    · as_aux_lemma => intro vals a W hS hL; have e32 := hL.1; clear hL; obtain ⟨u, e32⟩ := e32; go_simp; exact ⟨⟨fun d hd => by injection hd with hd; subst hd; exact ⟨u, rfl⟩, fun h => by cases h⟩, hS, trivial⟩
    · as_aux_lemma => intro vals a W hS hL; have e28 := hL.1; clear hL; obtain ⟨u, e28⟩ := e28; go_simp; exact ⟨⟨fun d hd => by injection hd with hd; subst hd; exact trivial, fun h => by cases h⟩, hS, trivial⟩
    · as_aux_lemma => intro vals a W hS hL; have e28 := hL.1; clear hL; obtain ⟨u, e28⟩ := e28; go_simp; exact ⟨dstY (by rfl), hS, trivial⟩
    · as_aux_lemma => intro vals a W hS hL; have e28 := hL.1; clear hL; obtain ⟨u, e28⟩ := e28; go_simp; exact ⟨dstY (by rfl), hS, trivial⟩
    · as_aux_lemma =>
        intro a W vals hv hS hL hp; clear hL
        match vals, hv, hS with
        | [], _, hS =>
          have hm := BX.made hS 82 (cu none 0 0 0); refine lands_vB (v := .pointer (some ⟨W.heap.size, 0, none⟩)) (w' := W.alloc (.cells (cu none 0 0 0).toArray 82)) (by kernel_rfl) ?_; exact ⟨⟨_, rfl, hm⟩, trivial, trivial⟩
    · as_aux_lemma => intro vals a W hS hL; have e33 := hL.1; clear hL; generalize a.tmps.getD 33 undef = y33 at *; go_simp; exact ⟨⟨fun d hd => by injection hd with hd; subst hd; exact trivial, fun h => by cases h⟩, hS, trivial⟩
    · as_aux_lemma =>
        intro a W vals hv hS hL hp; have e34 : a.tmps.getD 34 undef = .agg #[.slice A n c, .int .i64 z] := hL.1; clear hL
        match vals, hv, hS, hp with
        | [u], _, hS, hp =>
          obtain ⟨g, rfl, hB⟩ := hS; have e8 := (Option.some.inj (hp.1 (by simp))).symm; refine lands_stg (vs := cu A n c z) rtCur cu_one (i := 0) hB rfl rfl (.tmp 8) (.tmp 34) rfl e8 e34 fun W2 h2 => ?_; exact ⟨⟨g, rfl, h2⟩, trivial, trivial⟩
    · as_aux_lemma => intro vals a W hS hL; have e35 : a.tmps.getD 35 undef = .int .i64 5 := hL.1; clear hL; go_simp; exact ⟨dstY (by rfl), hS, trivial⟩
  · intro a W vals hd hsz hT hF hv hP hS
    obtain ⟨v0, v1, rfl⟩ : ∃ v0 v1, vals = [v0, v1] := by
      match vals, hv with
      | [x, y], _ => exact ⟨x, y, rfl⟩
    obtain ⟨g3, rfl, hB⟩ := hS
    have e8 : a.tmps.getD 8 undef = .pointer (some ⟨g3, 0, none⟩) := by
      have := hP 0 8 _ 8 rfl (by simp) rfl rfl
      simpa using this.symm
    have e1 : a.tmps.getD 1 undef = .pointer (some ⟨g0, 0, none⟩) := hT 1 (by simp); have e2 : a.tmps.getD 2 undef = .pointer (some ⟨g1, 0, none⟩) := hT 2 (by simp); have e3 : a.tmps.getD 3 undef = .pointer (some ⟨g2, 0, none⟩) := hT 3 (by simp); have e5 : a.tmps.getD 5 undef = .int .i64 m := hT 5 (by simp); have e6 : a.tmps.getD 6 undef = .int .i64 5 := hT 6 (by simp); have HB : Hid (BX w ((g3, 82, cu A n c z) :: [(g2, 82, cu none 0 0 0), (g1, 144, tc zp (.slice none 0 0) 0), (g0, 82, cu A n c j)]) W) := Lib.hid hB; clear hT hF hP hB; rw [act_lit 50 a hd hsz]; simp only [List.range, List.range.loop, List.map, e1, e2, e3, e5, e6, e8]; clear e1 e2 e3 e5 e6 e8 hsz hd; generalize a.tmps.getD 0 undef = y0, a.tmps.getD 4 undef = y4, a.tmps.getD 7 undef = y7, a.tmps.getD 9 undef = y9, a.tmps.getD 10 undef = y10, a.tmps.getD 11 undef = y11, a.tmps.getD 12 undef = y12, a.tmps.getD 13 undef = y13, a.tmps.getD 14 undef = y14, a.tmps.getD 15 undef = y15, a.tmps.getD 16 undef = y16, a.tmps.getD 17 undef = y17, a.tmps.getD 18 undef = y18, a.tmps.getD 19 undef = y19, a.tmps.getD 20 undef = y20, a.tmps.getD 21 undef = y21, a.tmps.getD 22 undef = y22, a.tmps.getD 23 undef = y23, a.tmps.getD 24 undef = y24, a.tmps.getD 25 undef = y25, a.tmps.getD 26 undef = y26, a.tmps.getD 27 undef = y27, a.tmps.getD 28 undef = y28, a.tmps.getD 29 undef = y29, a.tmps.getD 30 undef = y30, a.tmps.getD 31 undef = y31, a.tmps.getD 32 undef = y32, a.tmps.getD 33 undef = y33, a.tmps.getD 34 undef = y34, a.tmps.getD 35 undef = y35, a.tmps.getD 36 undef = y36, a.tmps.getD 37 undef = y37, a.tmps.getD 38 undef = y38, a.tmps.getD 39 undef = y39, a.tmps.getD 40 undef = y40, a.tmps.getD 41 undef = y41, a.tmps.getD 42 undef = y42, a.tmps.getD 43 undef = y43, a.tmps.getD 44 undef = y44, a.tmps.getD 45 undef = y45, a.tmps.getD 46 undef = y46, a.tmps.getD 47 undef = y47, a.tmps.getD 48 undef = y48, a.tmps.getD 49 undef = y49
    repeat' (first | go_values | go_skip | go_guarded | go_step | go_upon)
    refine wp_region_phases (S := (SBN w [[(g3, 82, cu A n c z), (g2, 82, cu none 0 0 0), (g1, 144, tc zp (.slice none 0 0) 0), (g0, 82, cu A n c j)], [(g3, 82, cu A n c z), (g2, 82, cu none 0 0 0), (g1, 144, tc zp (.slice none 0 0) 0), (g0, 82, cu A n c j)], [(g3, 82, cu A n c z), (g2, 82, cu A n c j), (g1, 144, tc zp (.slice none 0 0) 0), (g0, 82, cu A n c j)]])) (E := (fun _ _ => True)) [3, 4] [(1, Is (.pointer (some ⟨g0, 0, none⟩))), (2, Is (.pointer (some ⟨g1, 0, none⟩))), (3, Is (.pointer (some ⟨g2, 0, none⟩))), (5, Is (.int .i64 m)), (6, Is (.int .i64 5)), (8, Is (.pointer (some ⟨g3, 0, none⟩)))] [(38, Is (.agg (tc zp (.slice none 0 0) 0).toArray)), (39, Is (.agg (cu A n c j).toArray)), (40, Is (.int .i64 5)), (4, Is (.int .i64 5))]
      [.op [] none, .op [1] none, .op [6] none, .phase 0 [2, 38] [], .phase 1 [3, 39] [], .op [40] none] (by as_aux_lemma => kernel_rfl) ?_ ?_ ?_ ?_ ?_ ⟨stable_is _ _, stable_is _ _, stable_is _ _, stable_is _ _, stable_is _ _, stable_is _ _, stable_is _ _, stable_is _ _, stable_is _ _, stable_is _ _, trivial⟩ ?_ HB.out.drew ?_ ?_
    · as_aux_lemma => kernel_rfl
    · as_aux_lemma => kernel_rfl
    · as_aux_lemma => kernel_rfl
    · as_aux_lemma => kernel_rfl
    · as_aux_lemma => kernel_rfl
    · exact ⟨rfl, rfl, rfl, rfl, rfl, rfl, trivial⟩
    · refine ⟨?_, ?_, ?_, ?_, ?_, ?_, trivial⟩
      · as_aux_lemma => intro vals a W hS hL; clear hL; refine lands_vB (v := .agg (tc zp (.slice none 0 0) 0).toArray) (w' := W) (by kernel_rfl) ?_; exact ⟨dstY (by rfl), hS, trivial⟩
      · as_aux_lemma => intro vals a W hS hL; have e1 : a.tmps.getD 1 undef = .pointer (some ⟨g0, 0, none⟩) := hL.1; clear hL; refine lands_vB (run_ldg rtCur (hS.get 3 ⟨rfl, rfl, rfl, trivial⟩) (.tmp 1) rfl e1) ?_; exact ⟨dstY (by rfl), hS, trivial⟩
      · as_aux_lemma => intro vals a W hS hL; have e6 : a.tmps.getD 6 undef = .int .i64 5 := hL.1; clear hL; go_simp; exact ⟨dstY (by rfl), hS, trivial⟩
      · as_aux_lemma =>
          intro a W vals hv hS hL hp; have e2 : a.tmps.getD 2 undef = .pointer (some ⟨g1, 0, none⟩) := hL.1; have e38 : a.tmps.getD 38 undef = .agg (tc zp (.slice none 0 0) 0).toArray := hL.2.1; clear hL
          match vals, hv, hS with
          | [], _, hS =>
            refine lands_stg (vs := tc zp (.slice none 0 0) 0) rtTok tc_one (i := 2) (show BX w [(g3, 82, cu A n c z), (g2, 82, cu none 0 0 0), (g1, 144, tc zp (.slice none 0 0) 0), (g0, 82, cu A n c j)] W from hS) rfl rfl (.tmp 2) (.tmp 38) rfl e2 e38 fun W2 h2 => ?_; exact ⟨h2, trivial, trivial⟩
      · as_aux_lemma =>
          intro a W vals hv hS hL hp; have e3 : a.tmps.getD 3 undef = .pointer (some ⟨g2, 0, none⟩) := hL.1; have e39 : a.tmps.getD 39 undef = .agg (cu A n c j).toArray := hL.2.1; clear hL
          match vals, hv, hS with
          | [u0], _, hS =>
            refine lands_stg (vs := cu A n c j) rtCur cu_one (i := 1) (show BX w [(g3, 82, cu A n c z), (g2, 82, cu none 0 0 0), (g1, 144, tc zp (.slice none 0 0) 0), (g0, 82, cu A n c j)] W from hS) rfl rfl (.tmp 3) (.tmp 39) rfl e3 e39 fun W2 h2 => ?_; exact ⟨h2, trivial, trivial⟩
      · as_aux_lemma => intro vals a W hS hL; have e40 : a.tmps.getD 40 undef = .int .i64 5 := hL.1; clear hL; go_simp; exact ⟨dstY (by rfl), hS, trivial⟩
    · intro a W vals hd hsz hT hF hv hP hS
      obtain ⟨v0, v1, rfl⟩ : ∃ v0 v1, vals = [v0, v1] := by
        match vals, hv with
        | [xv0, xv1], _ => exact ⟨xv0, xv1, rfl⟩
      have HB : Hid (BX w [(g3, 82, cu A n c z), (g2, 82, cu A n c j), (g1, 144, tc zp (.slice none 0 0) 0), (g0, 82, cu A n c j)] W) := Lib.hid hS; have e1 : a.tmps.getD 1 undef = .pointer (some ⟨g0, 0, none⟩) := hT 1 (by simp); have e2 : a.tmps.getD 2 undef = .pointer (some ⟨g1, 0, none⟩) := hT 2 (by simp); have e3 : a.tmps.getD 3 undef = .pointer (some ⟨g2, 0, none⟩) := hT 3 (by simp); have e5 : a.tmps.getD 5 undef = .int .i64 m := hT 5 (by simp); have e6 : a.tmps.getD 6 undef = .int .i64 5 := hT 6 (by simp); have e8 : a.tmps.getD 8 undef = .pointer (some ⟨g3, 0, none⟩) := hT 8 (by simp); have e4 : a.tmps.getD 4 undef = .int .i64 5 := hT 4 (by simp); clear hT hF hP hS; rw [act_lit 50 a hd hsz]; simp only [List.range, List.range.loop, List.map, e1, e2, e3, e5, e6, e8, e4]; clear e1 e2 e3 e5 e6 e8 e4 hsz hd; generalize a.tmps.getD 0 undef = y0, a.tmps.getD 7 undef = y7, a.tmps.getD 9 undef = y9, a.tmps.getD 10 undef = y10, a.tmps.getD 11 undef = y11, a.tmps.getD 12 undef = y12, a.tmps.getD 13 undef = y13, a.tmps.getD 14 undef = y14, a.tmps.getD 15 undef = y15, a.tmps.getD 16 undef = y16, a.tmps.getD 17 undef = y17, a.tmps.getD 18 undef = y18, a.tmps.getD 19 undef = y19, a.tmps.getD 20 undef = y20, a.tmps.getD 21 undef = y21, a.tmps.getD 22 undef = y22, a.tmps.getD 23 undef = y23, a.tmps.getD 24 undef = y24, a.tmps.getD 25 undef = y25, a.tmps.getD 26 undef = y26, a.tmps.getD 27 undef = y27, a.tmps.getD 28 undef = y28, a.tmps.getD 29 undef = y29, a.tmps.getD 30 undef = y30, a.tmps.getD 31 undef = y31, a.tmps.getD 32 undef = y32, a.tmps.getD 33 undef = y33, a.tmps.getD 34 undef = y34, a.tmps.getD 35 undef = y35, a.tmps.getD 36 undef = y36, a.tmps.getD 37 undef = y37, a.tmps.getD 38 undef = y38, a.tmps.getD 39 undef = y39, a.tmps.getD 40 undef = y40, a.tmps.getD 41 undef = y41, a.tmps.getD 42 undef = y42, a.tmps.getD 43 undef = y43, a.tmps.getD 44 undef = y44, a.tmps.getD 45 undef = y45, a.tmps.getD 46 undef = y46, a.tmps.getD 47 undef = y47, a.tmps.getD 48 undef = y48, a.tmps.getD 49 undef = y49
      repeat' (first | go_values | go_skip | go_guarded | go_step | go_upon)
      exact bodyPost_ret (res_tcn rfl 2 1 HB rfl rfl rfl rfl rfl) rfl ⟨rfl, HB.out.bel⟩
set_option maxRecDepth 20000 in
set_option maxHeartbeats 4000000 in
theorem get_tok {w : World} {A : Option Addr} {n c B i : Nat} {l : List UInt8} {j : Nat} {m k z : Int} {R : Got} (HH : Hid (Rd w B 1 A n (l.map bv) ∧ B ≤ w.heap.size)) (H1 : Hid (∀ W : World, Rd W B 1 A n (l.map bv) → B ≤ W.heap.size → Calls Tryz.prog 102 #[.agg #[.slice A n c, .int .i64 i]] W fun e W' => e = .returned (.tuple #[.int .i64 m, .agg #[.slice A n c, .int .i64 j], .int .i64 0]) ∧ Below W.heap.size W W')) (HM : Hid (¬ m = 23)) (HSZ : Hid (∀ W : World, Calls Tryz.prog 105 #[.int .i64 m] W fun e W' => e = .returned (.int .i64 k) ∧ W' = W)) (HBY : Hid (∀ W : World, Rd W B 1 A n (l.map bv) → B ≤ W.heap.size → Calls Tryz.prog 104 #[.agg #[.slice A n c, .int .i64 j], .int .i64 k] W fun e W' => ∃ u, e = .returned (.tuple #[u, .agg #[.slice A n c, .int .i64 z], .int .i64 0]) ∧ Below W.heap.size W W')) (HP : Hid (∀ W : World, Rd W B 1 A n (l.map bv) → B ≤ W.heap.size → Calls Tryz.prog 106 #[.int .i64 m, .agg #[.slice A n c, .int .i64 j]] W (PaOk W R))) :
    Calls Tryz.prog 84 #[.agg #[.slice A n c, .int .i64 i]] w fun e W => ∃ q : Got, e = .returned (.tuple #[.agg (tkV q).toArray, .agg (cu A n c z).toArray, .int .i64 R.err]) ∧ (R.err = 0 → q.pay = R.pay ∧ q.takes = R.takes) ∧ Below w.heap.size w W := by
  have hm2 : (m == 23) = false := by rw [beq_eq_false_iff_ne]; exact HM.out
  have HB : Hid (BX w [] w) := Lib.hid (BX.start w); go_enter Tryz.func84, Tryz.ntmps84
  repeat' (first | ((with_reducible show Oper.wp _ _ _ _ _ _); with_reducible refine stop_bx _ rfl ?_) | go_values | go_skip | go_guarded | go_step | go_upon)
  refine Lib.hid ?_; refine al_g HB 82 (cu A n c i) (by kernel_rfl) ?_; clear HB
  (first | (have _t : Nat := g10; clear _t; intro g11 W HB) | (have _t : Nat := g9; clear _t; intro g10 W HB) | (have _t : Nat := g8; clear _t; intro g9 W HB) | (have _t : Nat := g7; clear _t; intro g8 W HB) | (have _t : Nat := g6; clear _t; intro g7 W HB) | (have _t : Nat := g5; clear _t; intro g6 W HB) | (have _t : Nat := g4; clear _t; intro g5 W HB) | (have _t : Nat := g3; clear _t; intro g4 W HB) | (have _t : Nat := g2; clear _t; intro g3 W HB) | (have _t : Nat := g1; clear _t; intro g2 W HB) | (have _t : Nat := g0; clear _t; intro g1 W HB) | intro g0 W HB)
  go_simp
  repeat' (first | ((with_reducible show Oper.wp _ _ _ _ _ _); (first | ((first | (with_reducible refine is_al 82 rfl ?_; refine al_g HB 82 (cu none 0 0 0) (by kernel_rfl) ?_) | (with_reducible refine is_al 144 rfl ?_; refine al_g HB 144 (tc zp (.slice none 0 0) 0) (by kernel_rfl) ?_)); clear HB; (first | (have _t : Nat := g1; clear _t; intro g2 W HB) | (have _t : Nat := g0; clear _t; intro g1 W HB)); go_simp) | (with_reducible refine is_ld 82 _ rfl ?_; refine ld_cu 2 HB rfl _ rfl rfl ?_; go_simp))) | go_values | go_skip | go_guarded | go_step | go_upon)
  refine (H1.out _ (HH.out.1.belowMono HB.out.bel HH.out.2) (Nat.le_trans HH.out.2 HB.out.bel.size)).mono ?_; rintro e W1 ⟨rfl, hb⟩; have HB := Lib.hid (HB.out.call hb); clear hb; dsimp only
  repeat' (first | ((with_reducible show Oper.wp _ _ _ _ _ _); with_reducible refine is_st 82 _ _ rfl ?_; refine st_cu 2 HB rfl _ _ rfl rfl rfl ?_; clear HB; intro W HB; dsimp only [List.set] at HB; go_simp) | go_values | go_skip | go_guarded | go_step | go_upon)
  refine wp_region_phases (S := (S6 w [(g2, 82, cu none 0 0 0), (g1, 144, tc zp (.slice none 0 0) 0), (g0, 82, cu A n c j)] (cu A n c z))) (E := (fun _ _ => True)) [8, 10] [(1, Is (.pointer (some ⟨g0, 0, none⟩))), (2, Is (.pointer (some ⟨g1, 0, none⟩))), (3, Is (.pointer (some ⟨g2, 0, none⟩))), (5, Is (.int .i64 m))] [(29, Is (.agg (cu A n c j).toArray)), (30, Is (.int .i64 m)), (31, Is (.int .i64 k)), (32, fun v _ => ∃ u, v = .tuple #[u, .agg #[.slice A n c, .int .i64 z], .int .i64 0]), (28, fun v _ => ∃ u, v = .tuple #[u, .agg #[.slice A n c, .int .i64 z], .int .i64 0]), (33, fun _ _ => True), (34, Is (.agg #[.slice A n c, .int .i64 z])), (35, Is (.int .i64 0)), (7, fun _ _ => True), (6, Is (.int .i64 0))]
    [.op [1] none, .op [5] none, .op [30] none, .op [29, 31] none, .op [32] none, .op [28] none, .op [28] none, .op [28] none, .phase 0 [] [], .op [33] none, .phase 1 [34] [(0, 8)], .op [35] none] (by as_aux_lemma => kernel_rfl) ?_ ?_ ?_ ?_ ?_ ⟨stable_is _ _, stable_is _ _, stable_is _ _, stable_is _ _, stable_is _ _, stable_is _ _, stable_is _ _, fun _ _ _ _ h => h, fun _ _ _ _ h => h, fun _ _ _ _ h => h, stable_is _ _, stable_is _ _, fun _ _ _ _ h => h, stable_is _ _, trivial⟩ ?_ HB.out.drew ?_ ?_
  · as_aux_lemma => kernel_rfl
  · as_aux_lemma => kernel_rfl
  · as_aux_lemma => kernel_rfl
  · as_aux_lemma => kernel_rfl
  · as_aux_lemma => kernel_rfl
  · exact ⟨rfl, rfl, rfl, rfl, trivial⟩
  · refine ⟨?_, ?_, ?_, ?_, ?_, ?_, ?_, ?_, ?_, ?_, ?_, ?_, trivial⟩
    · as_aux_lemma => intro vals a W hS hL; have e1 : a.tmps.getD 1 undef = .pointer (some ⟨g0, 0, none⟩) := hL.1; clear hL; refine lands_vB (run_ldg rtCur (hS.get (i := 2) rfl) (.tmp 1) rfl e1) ?_; exact ⟨dstY (by rfl), hS, trivial⟩
    · as_aux_lemma => intro vals a W hS hL; have e5 : a.tmps.getD 5 undef = .int .i64 m := hL.1; clear hL; go_simp; exact ⟨dstY (by rfl), hS, trivial⟩
    · as_aux_lemma => intro vals a W hS hL; have e30 : a.tmps.getD 30 undef = .int .i64 m := hL.1; clear hL; go_simp; refine (HSZ.out W).mono ?_; rintro e W2 ⟨rfl, rfl⟩; exact ⟨_, rfl, dstY (by rfl), hS, trivial⟩
    · as_aux_lemma => intro vals a W hS hL; have e29 : a.tmps.getD 29 undef = .agg (cu A n c j).toArray := hL.1; have e31 : a.tmps.getD 31 undef = .int .i64 k := hL.2.1; clear hL; go_simp; refine (HBY.out W (HH.out.1.belowMono hS.bel HH.out.2) (Nat.le_trans HH.out.2 hS.bel.size)).mono ?_; rintro e W2 ⟨u, rfl, hb⟩; exact ⟨_, rfl, ⟨fun d hd => by injection hd with hd; subst hd; exact ⟨u, rfl⟩, fun h => by cases h⟩, hS.call hb, trivial⟩
    · as_aux_lemma => intro vals a W hS hL; have e32 := hL.1; clear hL; obtain ⟨u, e32⟩ := e32; go_simp; exact ⟨⟨fun d hd => by injection hd with hd; subst hd; exact ⟨u, rfl⟩, fun h => by cases h⟩, hS, trivial⟩
    · as_aux_lemma => intro vals a W hS hL; have e28 := hL.1; clear hL; obtain ⟨u, e28⟩ := e28; go_simp; exact ⟨⟨fun d hd => by injection hd with hd; subst hd; exact trivial, fun h => by cases h⟩, hS, trivial⟩
    · as_aux_lemma => intro vals a W hS hL; have e28 := hL.1; clear hL; obtain ⟨u, e28⟩ := e28; go_simp; exact ⟨dstY (by rfl), hS, trivial⟩
    · as_aux_lemma => intro vals a W hS hL; have e28 := hL.1; clear hL; obtain ⟨u, e28⟩ := e28; go_simp; exact ⟨dstY (by rfl), hS, trivial⟩
    · as_aux_lemma =>
        intro a W vals hv hS hL hp; clear hL
        match vals, hv, hS with
        | [], _, hS =>
          have hm := BX.made hS 82 (cu none 0 0 0); refine lands_vB (v := .pointer (some ⟨W.heap.size, 0, none⟩)) (w' := W.alloc (.cells (cu none 0 0 0).toArray 82)) (by kernel_rfl) ?_; exact ⟨⟨_, rfl, hm⟩, trivial, trivial⟩
    · as_aux_lemma => intro vals a W hS hL; have e33 := hL.1; clear hL; generalize a.tmps.getD 33 undef = y33 at *; go_simp; exact ⟨⟨fun d hd => by injection hd with hd; subst hd; exact trivial, fun h => by cases h⟩, hS, trivial⟩
    · as_aux_lemma =>
        intro a W vals hv hS hL hp; have e34 : a.tmps.getD 34 undef = .agg #[.slice A n c, .int .i64 z] := hL.1; clear hL
        match vals, hv, hS, hp with
        | [u], _, hS, hp =>
          obtain ⟨g, rfl, hB⟩ := hS; have e8 := (Option.some.inj (hp.1 (by simp))).symm; refine lands_stg (vs := cu A n c z) rtCur cu_one (i := 0) hB rfl rfl (.tmp 8) (.tmp 34) rfl e8 e34 fun W2 h2 => ?_; exact ⟨⟨g, rfl, h2⟩, trivial, trivial⟩
    · as_aux_lemma => intro vals a W hS hL; have e35 : a.tmps.getD 35 undef = .int .i64 0 := hL.1; clear hL; go_simp; exact ⟨dstY (by rfl), hS, trivial⟩
  · intro a W vals hd hsz hT hF hv hP hS
    obtain ⟨v0, v1, rfl⟩ : ∃ v0 v1, vals = [v0, v1] := by
      match vals, hv with
      | [x, y], _ => exact ⟨x, y, rfl⟩
    obtain ⟨g3, rfl, hB⟩ := hS
    have e8 : a.tmps.getD 8 undef = .pointer (some ⟨g3, 0, none⟩) := by
      have := hP 0 8 _ 8 rfl (by simp) rfl rfl
      simpa using this.symm
    have e1 : a.tmps.getD 1 undef = .pointer (some ⟨g0, 0, none⟩) := hT 1 (by simp); have e2 : a.tmps.getD 2 undef = .pointer (some ⟨g1, 0, none⟩) := hT 2 (by simp); have e3 : a.tmps.getD 3 undef = .pointer (some ⟨g2, 0, none⟩) := hT 3 (by simp); have e5 : a.tmps.getD 5 undef = .int .i64 m := hT 5 (by simp); have e6 : a.tmps.getD 6 undef = .int .i64 0 := hT 6 (by simp); have HB : Hid (BX w ((g3, 82, cu A n c z) :: [(g2, 82, cu none 0 0 0), (g1, 144, tc zp (.slice none 0 0) 0), (g0, 82, cu A n c j)]) W) := Lib.hid hB; clear hT hF hP hB; rw [act_lit 50 a hd hsz]; simp only [List.range, List.range.loop, List.map, e1, e2, e3, e5, e6, e8]; clear e1 e2 e3 e5 e6 e8 hsz hd; generalize a.tmps.getD 0 undef = y0, a.tmps.getD 4 undef = y4, a.tmps.getD 7 undef = y7, a.tmps.getD 9 undef = y9, a.tmps.getD 10 undef = y10, a.tmps.getD 11 undef = y11, a.tmps.getD 12 undef = y12, a.tmps.getD 13 undef = y13, a.tmps.getD 14 undef = y14, a.tmps.getD 15 undef = y15, a.tmps.getD 16 undef = y16, a.tmps.getD 17 undef = y17, a.tmps.getD 18 undef = y18, a.tmps.getD 19 undef = y19, a.tmps.getD 20 undef = y20, a.tmps.getD 21 undef = y21, a.tmps.getD 22 undef = y22, a.tmps.getD 23 undef = y23, a.tmps.getD 24 undef = y24, a.tmps.getD 25 undef = y25, a.tmps.getD 26 undef = y26, a.tmps.getD 27 undef = y27, a.tmps.getD 28 undef = y28, a.tmps.getD 29 undef = y29, a.tmps.getD 30 undef = y30, a.tmps.getD 31 undef = y31, a.tmps.getD 32 undef = y32, a.tmps.getD 33 undef = y33, a.tmps.getD 34 undef = y34, a.tmps.getD 35 undef = y35, a.tmps.getD 36 undef = y36, a.tmps.getD 37 undef = y37, a.tmps.getD 38 undef = y38, a.tmps.getD 39 undef = y39, a.tmps.getD 40 undef = y40, a.tmps.getD 41 undef = y41, a.tmps.getD 42 undef = y42, a.tmps.getD 43 undef = y43, a.tmps.getD 44 undef = y44, a.tmps.getD 45 undef = y45, a.tmps.getD 46 undef = y46, a.tmps.getD 47 undef = y47, a.tmps.getD 48 undef = y48, a.tmps.getD 49 undef = y49
    repeat' (first | ((with_reducible show Oper.wp _ _ _ _ _ _); with_reducible refine is_ld 82 _ rfl ?_; refine ld_cu 3 HB rfl _ rfl rfl ?_; go_simp) | go_values | go_skip | go_guarded | go_step | go_upon)
    refine (HP.out _ (HH.out.1.belowMono HB.out.bel HH.out.2) (Nat.le_trans HH.out.2 HB.out.bel.size)).mono ?_; rintro e W1 ⟨q, rfl, hq, hb⟩; have HB := Lib.hid (HB.out.call hb); have HQ := Lib.hid hq; clear hb hq; dsimp only; unfold tkV
    repeat' (first | ((with_reducible show Oper.wp _ _ _ _ _ _); (first | (with_reducible refine is_al 144 rfl ?_; refine al_g HB 144 (tc zp (.slice none 0 0) 0) (by kernel_rfl) ?_; clear HB; intro g4 W HB; go_simp) | (with_reducible refine is_st 144 _ _ rfl ?_; refine st_tc 0 HB rfl _ _ rfl rfl rfl ?_; clear HB; intro W HB; dsimp only [List.set] at HB; go_simp))) | go_values | go_skip | go_guarded | go_step | go_upon)
    refine wp_region_phases (S := (SBN w [[(g4, 144, tc q.pay (.slice none 0 0) q.takes), (g3, 82, cu A n c z), (g2, 82, cu none 0 0 0), (g1, 144, tc zp (.slice none 0 0) 0), (g0, 82, cu A n c j)], [(g4, 144, tc q.pay (.slice none 0 0) q.takes), (g3, 82, cu A n c z), (g2, 82, cu none 0 0 0), (g1, 144, tc q.pay (.slice none 0 0) q.takes), (g0, 82, cu A n c j)], [(g4, 144, tc q.pay (.slice none 0 0) q.takes), (g3, 82, cu A n c z), (g2, 82, cu A n c z), (g1, 144, tc q.pay (.slice none 0 0) q.takes), (g0, 82, cu A n c j)]])) (E := (fun _ _ => True)) [3, 4] [(1, Is (.pointer (some ⟨g0, 0, none⟩))), (2, Is (.pointer (some ⟨g1, 0, none⟩))), (3, Is (.pointer (some ⟨g2, 0, none⟩))), (5, Is (.int .i64 m)), (6, Is (.int .i64 R.err)), (8, Is (.pointer (some ⟨g3, 0, none⟩))), (9, Is (.pointer (some ⟨g4, 0, none⟩)))] [(47, Is (.agg (tc q.pay (.slice none 0 0) q.takes).toArray)), (48, Is (.agg (cu A n c z).toArray)), (49, Is (.int .i64 R.err)), (4, Is (.int .i64 R.err))]
      [.op [9] none, .op [8] none, .op [6] none, .phase 0 [2, 47] [], .phase 1 [3, 48] [], .op [49] none] (by as_aux_lemma => kernel_rfl) ?_ ?_ ?_ ?_ ?_ ⟨stable_is _ _, stable_is _ _, stable_is _ _, stable_is _ _, stable_is _ _, stable_is _ _, stable_is _ _, stable_is _ _, stable_is _ _, stable_is _ _, stable_is _ _, trivial⟩ ?_ HB.out.drew ?_ ?_
    · as_aux_lemma => kernel_rfl
    · as_aux_lemma => kernel_rfl
    · as_aux_lemma => kernel_rfl
    · as_aux_lemma => kernel_rfl
    · as_aux_lemma => kernel_rfl
    · exact ⟨rfl, rfl, rfl, rfl, rfl, rfl, rfl, trivial⟩
    · refine ⟨?_, ?_, ?_, ?_, ?_, ?_, trivial⟩
      · as_aux_lemma => intro vals a W hS hL; have e9 : a.tmps.getD 9 undef = .pointer (some ⟨g4, 0, none⟩) := hL.1; clear hL; refine lands_vB (run_ldg rtTok (hS.get 0 ⟨rfl, rfl, rfl, trivial⟩) (.tmp 9) rfl e9) ?_; exact ⟨dstY (by rfl), hS, trivial⟩
      · as_aux_lemma => intro vals a W hS hL; have e8 : a.tmps.getD 8 undef = .pointer (some ⟨g3, 0, none⟩) := hL.1; clear hL; refine lands_vB (run_ldg rtCur (hS.get 1 ⟨rfl, rfl, rfl, trivial⟩) (.tmp 8) rfl e8) ?_; exact ⟨dstY (by rfl), hS, trivial⟩
      · as_aux_lemma => intro vals a W hS hL; have e6 : a.tmps.getD 6 undef = .int .i64 R.err := hL.1; clear hL; go_simp; exact ⟨dstY (by rfl), hS, trivial⟩
      · as_aux_lemma =>
          intro a W vals hv hS hL hp; have e2 : a.tmps.getD 2 undef = .pointer (some ⟨g1, 0, none⟩) := hL.1; have e47 : a.tmps.getD 47 undef = .agg (tc q.pay (.slice none 0 0) q.takes).toArray := hL.2.1; clear hL
          match vals, hv, hS with
          | [], _, hS =>
            refine lands_stg (vs := tc q.pay (.slice none 0 0) q.takes) rtTok tc_one (i := 3) (show BX w [(g4, 144, tc q.pay (.slice none 0 0) q.takes), (g3, 82, cu A n c z), (g2, 82, cu none 0 0 0), (g1, 144, tc zp (.slice none 0 0) 0), (g0, 82, cu A n c j)] W from hS) rfl rfl (.tmp 2) (.tmp 47) rfl e2 e47 fun W2 h2 => ?_; exact ⟨h2, trivial, trivial⟩
      · as_aux_lemma =>
          intro a W vals hv hS hL hp; have e3 : a.tmps.getD 3 undef = .pointer (some ⟨g2, 0, none⟩) := hL.1; have e48 : a.tmps.getD 48 undef = .agg (cu A n c z).toArray := hL.2.1; clear hL
          match vals, hv, hS with
          | [u0], _, hS =>
            refine lands_stg (vs := cu A n c z) rtCur cu_one (i := 2) (show BX w [(g4, 144, tc q.pay (.slice none 0 0) q.takes), (g3, 82, cu A n c z), (g2, 82, cu none 0 0 0), (g1, 144, tc q.pay (.slice none 0 0) q.takes), (g0, 82, cu A n c j)] W from hS) rfl rfl (.tmp 3) (.tmp 48) rfl e3 e48 fun W2 h2 => ?_; exact ⟨h2, trivial, trivial⟩
      · as_aux_lemma => intro vals a W hS hL; have e49 : a.tmps.getD 49 undef = .int .i64 R.err := hL.1; clear hL; go_simp; exact ⟨dstY (by rfl), hS, trivial⟩
    · intro a W vals hd hsz hT hF hv hP hS
      obtain ⟨v0, v1, rfl⟩ : ∃ v0 v1, vals = [v0, v1] := by
        match vals, hv with
        | [xv0, xv1], _ => exact ⟨xv0, xv1, rfl⟩
      have HB : Hid (BX w [(g4, 144, tc q.pay (.slice none 0 0) q.takes), (g3, 82, cu A n c z), (g2, 82, cu A n c z), (g1, 144, tc q.pay (.slice none 0 0) q.takes), (g0, 82, cu A n c j)] W) := Lib.hid hS; have e1 : a.tmps.getD 1 undef = .pointer (some ⟨g0, 0, none⟩) := hT 1 (by simp); have e2 : a.tmps.getD 2 undef = .pointer (some ⟨g1, 0, none⟩) := hT 2 (by simp); have e3 : a.tmps.getD 3 undef = .pointer (some ⟨g2, 0, none⟩) := hT 3 (by simp); have e5 : a.tmps.getD 5 undef = .int .i64 m := hT 5 (by simp); have e6 : a.tmps.getD 6 undef = .int .i64 R.err := hT 6 (by simp); have e8 : a.tmps.getD 8 undef = .pointer (some ⟨g3, 0, none⟩) := hT 8 (by simp); have e9 : a.tmps.getD 9 undef = .pointer (some ⟨g4, 0, none⟩) := hT 9 (by simp); have e4 : a.tmps.getD 4 undef = .int .i64 R.err := hT 4 (by simp); clear hT hF hP hS; rw [act_lit 50 a hd hsz]; simp only [List.range, List.range.loop, List.map, e1, e2, e3, e5, e6, e8, e9, e4]; clear e1 e2 e3 e5 e6 e8 e9 e4 hsz hd; generalize a.tmps.getD 0 undef = y0, a.tmps.getD 7 undef = y7, a.tmps.getD 10 undef = y10, a.tmps.getD 11 undef = y11, a.tmps.getD 12 undef = y12, a.tmps.getD 13 undef = y13, a.tmps.getD 14 undef = y14, a.tmps.getD 15 undef = y15, a.tmps.getD 16 undef = y16, a.tmps.getD 17 undef = y17, a.tmps.getD 18 undef = y18, a.tmps.getD 19 undef = y19, a.tmps.getD 20 undef = y20, a.tmps.getD 21 undef = y21, a.tmps.getD 22 undef = y22, a.tmps.getD 23 undef = y23, a.tmps.getD 24 undef = y24, a.tmps.getD 25 undef = y25, a.tmps.getD 26 undef = y26, a.tmps.getD 27 undef = y27, a.tmps.getD 28 undef = y28, a.tmps.getD 29 undef = y29, a.tmps.getD 30 undef = y30, a.tmps.getD 31 undef = y31, a.tmps.getD 32 undef = y32, a.tmps.getD 33 undef = y33, a.tmps.getD 34 undef = y34, a.tmps.getD 35 undef = y35, a.tmps.getD 36 undef = y36, a.tmps.getD 37 undef = y37, a.tmps.getD 38 undef = y38, a.tmps.getD 39 undef = y39, a.tmps.getD 40 undef = y40, a.tmps.getD 41 undef = y41, a.tmps.getD 42 undef = y42, a.tmps.getD 43 undef = y43, a.tmps.getD 44 undef = y44, a.tmps.getD 45 undef = y45, a.tmps.getD 46 undef = y46, a.tmps.getD 47 undef = y47, a.tmps.getD 48 undef = y48, a.tmps.getD 49 undef = y49
      repeat' (first | go_values | go_skip | go_guarded | go_step | go_upon)
      exact bodyPost_ret (res_tcn rfl 3 2 HB rfl rfl rfl rfl rfl) rfl ⟨q, rfl, HQ.out, HB.out.bel⟩
theorem get_any12 {w : World} (HV : Val w) {A : Option Addr} {n c B i : Nat} {l : List UInt8} (h : Rd w B 1 A n (l.map bv)) (hnc : n ≤ c) (hn : n ≤ 1000000000) (hB : B ≤ w.heap.size) (hi : i ≤ n) :
    Calls Tryz.prog 84 #[.agg #[.slice A n c, .int .i64 i]] w (GtOk w A n c (gtT l i)) := by
  have hl := h.blen
  by_cases h0 : n ≤ i
  · obtain rfl : i = n := by omega
    have e : gtT l i = (⟨5, zp, 0⟩, i) := by rw [gtT, if_pos (by omega)]
    rw [e]
    have eE : tkE (i : Int) 1 i = 5 := by
      unfold tkE stB; rw [if_neg (by rw [decide_eq_true (by omega)]; simp), if_pos (by omega)]
    obtain ⟨e1, e2⟩ := tk_err hl eE (by decide); refine (get_end (B := B) (l := l) (Lib.hid ⟨h, hB⟩) (Lib.hid fun W hr hw => ?_)).mono ?_
    · have := u8_any (at_ := (i : Int)) hr hnc (by omega) hw; rw [e1, e2, eE] at this; exact this
    · rintro e W ⟨rfl, hb⟩; exact ⟨⟨5, zp, 0⟩, _, rfl, fun h => (by cases h), hb⟩
  · have H1 := Lib.hid (fun (W : World) (hr : Rd W B 1 A n (l.map bv)) (hw : B ≤ W.heap.size) => u8_at (i := i) (j := i + 1) hr hnc hn hw rfl (by omega)); have hm := tu1_bd l i
    by_cases h1 : tu1 l i = 23
    · have e : gtT l i = stT l (i + 1) := by rw [gtT, if_neg (by omega), if_pos h1]
      rw [e]; rw [h1] at H1; exact get_str (B := B) (l := l) (Lib.hid ⟨h, hB⟩) H1 (Lib.hid fun W hb => getStr_any (HV.below hb) (h.belowMono hb hB) hnc hn (Nat.le_trans hB hb.size) (by omega))
    · have hk := szT_bd (tu1 l i); have HY := fun (W : World) (hr : Rd W B 1 A n (l.map bv)) (hw : B ≤ W.heap.size) => bytes_any (at_ := ((i + 1 : Nat) : Int)) (k := szT (tu1 l i)) hr hnc (by omega) hw
      by_cases h2 : (l.length : Int) - (i + 1 : Nat) < szT (tu1 l i)
      · have e : gtT l i = (⟨5, zp, 0⟩, i) := by rw [gtT, if_neg (by omega), if_neg h1, if_pos h2]
        rw [e]
        have eE : tkE ((i + 1 : Nat) : Int) (szT (tu1 l i)) n = 5 := by
          unfold tkE stB; rw [if_neg (by rw [decide_eq_true (by omega)]; simp; omega), if_pos (by omega)]
        refine (get_short (B := B) (l := l) (z := tkAt ((i + 1 : Nat) : Int) (szT (tu1 l i)) n) (Lib.hid ⟨h, hB⟩) H1 (Lib.hid h1) (Lib.hid fun W => size_any12 _) (Lib.hid fun W hr hw => ?_)).mono ?_
        · refine (HY W hr hw).mono ?_; rintro e W' ⟨v', rfl, _, hb⟩; rw [eE]; exact ⟨v', rfl, hb⟩
        · rintro e W ⟨rfl, hb⟩; exact ⟨⟨5, zp, 0⟩, _, rfl, fun h => (by cases h), hb⟩
      · have e : gtT l i = (paT (tu1 l i) l (i + 1), i + 1 + (szT (tu1 l i)).toNat) := by rw [gtT, if_neg (by omega), if_neg h1, if_neg h2]
        rw [e]
        have eE : tkE ((i + 1 : Nat) : Int) (szT (tu1 l i)) n = 0 := by
          unfold tkE stB; rw [if_neg (by rw [decide_eq_true (by omega)]; simp; omega), if_neg (by omega)]
        have eA : tkAt ((i + 1 : Nat) : Int) (szT (tu1 l i)) n = ((i + 1 + (szT (tu1 l i)).toNat : Nat) : Int) := by
          unfold tkAt; rw [if_pos eE]; omega
        refine (get_tok (B := B) (l := l) (z := ((i + 1 + (szT (tu1 l i)).toNat : Nat) : Int)) (Lib.hid ⟨h, hB⟩) H1 (Lib.hid h1) (Lib.hid fun W => size_any12 _) (Lib.hid fun W hr hw => ?_) (Lib.hid fun W hr hw => parse_any hr hnc hn hw hm (by omega))).mono ?_
        · refine (HY W hr hw).mono ?_; rintro e W' ⟨v', rfl, _, hb⟩; rw [eE, eA]; exact ⟨v', rfl, hb⟩
        · rintro e W ⟨q, rfl, hq, hb⟩; exact ⟨q, _, rfl, fun h => ⟨(hq h).1, (hq h).2, rfl⟩, hb⟩
end Go.Proofs.YtlaiocdnddnnaaaGreatDoor
