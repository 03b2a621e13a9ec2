/- ptg.parseRef, parsePlace; le.U8, U16, I64 where enough is left, by their contracts. Condition: the bytes read as such, and are enough. -/
import Derived.Test.YtlaiocdnddnnaaaGreatDoorPa12
import Derived.Test.YtlaiocdnddnnaaaGreatDoorCutS
import Derived.Test.YtlaiocdnddnnaaaGreatDoorPs0
set_option linter.unusedVariables false
set_option linter.unusedSimpArgs false
namespace Go.Proofs.YtlaiocdnddnnaaaGreatDoor
open Go.RowKit
theorem tkAt_in {n i k : Nat} (h : i + k ≤ n) : tkAt i k n = ((i + k : Nat) : Int) := by
  unfold tkAt; rw [if_pos (tkE_in h)]; simp
section
variable {w : World} {B n c i j : Nat} {A : Option Addr} {l : List UInt8}
theorem u8_at (h : Rd w B 1 A n (l.map bv)) (hnc : n ≤ c) (hn : n ≤ 1000000000) (hB : B ≤ w.heap.size) (hj : j = i + 1) (hi : j ≤ n) :
    Calls Tryz.prog 102 #[.agg #[.slice A n c, .int .i64 i]] w fun e W => e = .returned (.tuple #[.int .i64 (tu1 l i), .agg #[.slice A n c, .int .i64 j], .int .i64 0]) ∧ Below w.heap.size w W := by
  subst hj; refine (u8_any h hnc (by omega) hB).mono ?_; rintro e W ⟨rfl, hb⟩; have e1 : tkE (i : Int) 1 n = 0 := tkE_in (k := 1) hi; have e2 : tkAt (i : Int) 1 n = ((i + 1 : Nat) : Int) := tkAt_in (k := 1) hi; rw [e1, e2]; exact ⟨rfl, hb⟩
theorem u16_at (h : Rd w B 1 A n (l.map bv)) (hnc : n ≤ c) (hn : n ≤ 1000000000) (hB : B ≤ w.heap.size) (hj : j = i + 2) (hi : j ≤ n) :
    Calls Tryz.prog 125 #[.agg #[.slice A n c, .int .i64 i]] w fun e W => e = .returned (.tuple #[.int .i64 (tu2 l i), .agg #[.slice A n c, .int .i64 j], .int .i64 0]) ∧ Below w.heap.size w W := by
  subst hj; refine (u16_any h hnc (by omega) hB).mono ?_; rintro e W ⟨rfl, hb⟩; have e1 : tkE (i : Int) 2 n = 0 := tkE_in (k := 2) hi; have e2 : tkAt (i : Int) 2 n = ((i + 2 : Nat) : Int) := tkAt_in (k := 2) hi; rw [e1, e2]; exact ⟨rfl, hb⟩
theorem i64_at (h : Rd w B 1 A n (l.map bv)) (hnc : n ≤ c) (hn : n ≤ 1000000000) (hB : B ≤ w.heap.size) (hj : j = i + 8) (hi : j ≤ n) :
    Calls Tryz.prog 133 #[.agg #[.slice A n c, .int .i64 i]] w fun e W => e = .returned (.tuple #[.int .i64 (ti8 l i), .agg #[.slice A n c, .int .i64 j], .int .i64 0]) ∧ Below w.heap.size w W := by
  subst hj; refine (i64_any h hnc (by omega) hB).mono ?_; rintro e W ⟨rfl, hb⟩; have e1 : tkE (i : Int) 8 n = 0 := tkE_in (k := 8) hi; have e2 : tkAt (i : Int) 8 n = ((i + 8 : Nat) : Int) := tkAt_in (k := 8) hi; rw [e1, e2]; exact ⟨rfl, hb⟩
end
def rfV (l : List UInt8) (i : Nat) : List Value := if rfE l i = 0 then rc (tu2 l i) (tu1 l (i + 2)) (oddB (tu1 l (i + 3))) (twoB (tu1 l (i + 3))) else rc 0 0 false false
theorem and_odd {f : Int} (h : 0 ≤ f ∧ f ≤ 3) : (bits .and .i64 f 1 != 0) = oddB f ∧ (bits .and .i64 f 2 != 0) = twoB f := by
  have : f = 0 ∨ f = 1 ∨ f = 2 ∨ f = 3 := by omega
  rcases this with rfl | rfl | rfl | rfl <;> exact ⟨by decide, by decide⟩
set_option maxRecDepth 20000 in
set_option maxHeartbeats 4000000 in
theorem parseRef_any {w : World} {B n c i : Nat} {A : Option Addr} {l : List UInt8} (h : Rd w B 1 A n (l.map bv)) (hnc : n ≤ c) (hn : n ≤ 1000000000) (hB : B ≤ w.heap.size) (hi : i + 4 ≤ n) :
    Calls Tryz.prog 134 #[.agg #[.slice A n c, .int .i64 i]] w fun e W => e = .returned (.tuple #[.agg (rfV l i).toArray, .agg (cu A n c ((i + 4 : Nat) : Int)).toArray, .int .i64 (rfE l i)]) ∧ Below w.heap.size w W := by
  obtain ⟨j2, hj2⟩ : ∃ j, j = i + 2 := ⟨_, rfl⟩
  obtain ⟨j3, hj3⟩ : ∃ j, j = i + 3 := ⟨_, rfl⟩
  obtain ⟨j4, hj4⟩ : ∃ j, j = i + 4 := ⟨_, rfl⟩
  have hf := tu1_bd l (i + 3); rw [← hj4]; have HR : Hid (rfV l i = if 3 < tu1 l j3 then rc 0 0 false false else rc (tu2 l i) (tu1 l j2) (oddB (tu1 l j3)) (twoB (tu1 l j3))) := Lib.hid (by rw [rfV, rfE, hj2, hj3]; split <;> simp_all); have HE : Hid (rfE l i = if 3 < tu1 l j3 then 2 else 0) := Lib.hid (by rw [rfE, hj3]); rw [← hj3] at hf; generalize rfV l i = RV at *; generalize rfE l i = RE at *; have H2 := Lib.hid (fun (W : World) (hr : Rd W B 1 A n (l.map bv)) (hw : B ≤ W.heap.size) => u16_at (j := j2) hr hnc hn hw hj2 (by omega)); have H3 := Lib.hid (fun (W : World) (hr : Rd W B 1 A n (l.map bv)) (hw : B ≤ W.heap.size) => u8_at (i := j2) (j := j3) hr hnc hn hw (by omega) (by omega)); have H4 := Lib.hid (fun (W : World) (hr : Rd W B 1 A n (l.map bv)) (hw : B ≤ W.heap.size) => u8_at (i := j3) (j := j4) hr hnc hn hw (by omega) (by omega)); generalize tu2 l i = v2 at *; generalize tu1 l j2 = v3 at *; generalize tu1 l j3 = f at *; have HH := Lib.hid (And.intro h hB); clear hj2 hj3 hj4 h hB hnc hn hi
  by_cases h3 : 3 < f
  · have hR := HR.out; have hE := HE.out; rw [if_pos h3] at hR hE; subst hR hE; have HB : Hid (BX w [] w) := Lib.hid (BX.start w); go_enter Tryz.func134, Tryz.ntmps134
    repeat' (first | ((with_reducible show Oper.wp _ _ _ _ _ _); with_reducible refine stop_bx _ rfl ?_) | go_values | go_skip | go_guarded | go_step | go_upon)
    refine Lib.hid ?_; refine al_g HB 82 (cu A n c i) (by kernel_rfl) ?_; clear HB
    (first | (have _t : Nat := g10; clear _t; intro g11 W HB) | (have _t : Nat := g9; clear _t; intro g10 W HB) | (have _t : Nat := g8; clear _t; intro g9 W HB) | (have _t : Nat := g7; clear _t; intro g8 W HB) | (have _t : Nat := g6; clear _t; intro g7 W HB) | (have _t : Nat := g5; clear _t; intro g6 W HB) | (have _t : Nat := g4; clear _t; intro g5 W HB) | (have _t : Nat := g3; clear _t; intro g4 W HB) | (have _t : Nat := g2; clear _t; intro g3 W HB) | (have _t : Nat := g1; clear _t; intro g2 W HB) | (have _t : Nat := g0; clear _t; intro g1 W HB) | intro g0 W HB)
    go_simp
    repeat' (first | ((with_reducible show Oper.wp _ _ _ _ _ _); (first | ((first | (with_reducible refine is_al 82 rfl ?_; refine al_g HB 82 (cu none 0 0 0) (by kernel_rfl) ?_) | (with_reducible refine is_al 42 rfl ?_; refine al_g HB 42 (rc 0 0 false false) (by kernel_rfl) ?_)); clear HB; (first | (have _t : Nat := g1; clear _t; intro g2 W HB) | (have _t : Nat := g0; clear _t; intro g1 W HB)); go_simp) | (with_reducible refine is_ld 82 _ rfl ?_; refine ld_cu 2 HB rfl _ rfl rfl ?_; go_simp))) | go_values | go_skip | go_guarded | go_step | go_upon)
    refine (H2.out _ (HH.out.1.belowMono HB.out.bel HH.out.2) (Nat.le_trans HH.out.2 HB.out.bel.size)).mono ?_; rintro e W1 ⟨rfl, hb⟩; have HB := Lib.hid (HB.out.call hb); clear hb; dsimp only
    repeat' (first | ((with_reducible show Oper.wp _ _ _ _ _ _); (first | (with_reducible refine is_ld 82 _ rfl ?_; refine ld_cu 2 HB rfl _ rfl rfl ?_; go_simp) | (with_reducible refine is_st 82 _ _ rfl ?_; refine st_cu 2 HB rfl _ _ rfl rfl rfl ?_; clear HB; intro W HB; dsimp only [List.set] at HB; go_simp))) | go_values | go_skip | go_guarded | go_step | go_upon)
    refine (H3.out _ (HH.out.1.belowMono HB.out.bel HH.out.2) (Nat.le_trans HH.out.2 HB.out.bel.size)).mono ?_; rintro e W1 ⟨rfl, hb⟩; have HB := Lib.hid (HB.out.call hb); clear hb; dsimp only
    repeat' (first | ((with_reducible show Oper.wp _ _ _ _ _ _); (first | (with_reducible refine is_ld 82 _ rfl ?_; refine ld_cu 2 HB rfl _ rfl rfl ?_; go_simp) | (with_reducible refine is_st 82 _ _ rfl ?_; refine st_cu 2 HB rfl _ _ rfl rfl rfl ?_; clear HB; intro W HB; dsimp only [List.set] at HB; go_simp))) | go_values | go_skip | go_guarded | go_step | go_upon)
    refine (H4.out _ (HH.out.1.belowMono HB.out.bel HH.out.2) (Nat.le_trans HH.out.2 HB.out.bel.size)).mono ?_; rintro e W1 ⟨rfl, hb⟩; have HB := Lib.hid (HB.out.call hb); clear hb; dsimp only
    repeat' (first | ((with_reducible show Oper.wp _ _ _ _ _ _); with_reducible refine is_st 82 _ _ rfl ?_; refine st_cu 2 HB rfl _ _ rfl rfl rfl ?_; clear HB; intro W HB; dsimp only [List.set] at HB; go_simp) | go_values | go_skip | go_guarded | go_step | go_upon)
    clear h3
    refine wp_region_phases (S := (SBN w [[(g2, 82, cu none 0 0 0), (g1, 42, rc 0 0 false false), (g0, 82, cu A n c j4)], [(g2, 82, cu none 0 0 0), (g1, 42, rc 0 0 false false), (g0, 82, cu A n c j4)], [(g2, 82, cu A n c j4), (g1, 42, rc 0 0 false false), (g0, 82, cu A n c j4)]])) (E := (fun _ _ => True)) [2, 3] [(1, Is (.pointer (some ⟨g0, 0, none⟩))), (2, Is (.pointer (some ⟨g1, 0, none⟩))), (3, Is (.pointer (some ⟨g2, 0, none⟩))), (5, Is (.int .i64 v2)), (7, Is (.int .i64 v3)), (9, Is (.int .i64 f))] [(31, Is (.agg (rc 0 0 false false).toArray)), (32, Is (.agg (cu A n c j4).toArray)), (4, Is (.int .i64 2))]
      [.op [] none, .op [1] none, .phase 0 [2, 31] [], .phase 1 [3, 32] [], .op [] none] (by as_aux_lemma => kernel_rfl) ?_ ?_ ?_ ?_ ?_ ⟨stable_is _ _, stable_is _ _, stable_is _ _, stable_is _ _, stable_is _ _, stable_is _ _, stable_is _ _, stable_is _ _, stable_is _ _, trivial⟩ ?_ HB.out.drew ?_ ?_
    · as_aux_lemma => kernel_rfl
    · as_aux_lemma => kernel_rfl
    · as_aux_lemma => kernel_rfl
    · as_aux_lemma => kernel_rfl
    · as_aux_lemma => kernel_rfl
    · exact ⟨rfl, rfl, rfl, rfl, rfl, rfl, trivial⟩
    · refine ⟨?_, ?_, ?_, ?_, ?_, trivial⟩
      · as_aux_lemma => intro vals a W hS hL; clear hL; refine lands_vB (v := .agg (rc 0 0 false false).toArray) (w' := W) (by kernel_rfl) ?_; exact ⟨dstY (by rfl), hS, trivial⟩
      · as_aux_lemma => intro vals a W hS hL; have e1 : a.tmps.getD 1 undef = .pointer (some ⟨g0, 0, none⟩) := hL.1; clear hL; refine lands_vB (run_ldg rtCur (hS.get 2 ⟨rfl, rfl, rfl, trivial⟩) (.tmp 1) rfl e1) ?_; exact ⟨dstY (by rfl), hS, trivial⟩
      · as_aux_lemma =>
          intro a W vals hv hS hL hp; have e2 : a.tmps.getD 2 undef = .pointer (some ⟨g1, 0, none⟩) := hL.1; have e31 : a.tmps.getD 31 undef = .agg (rc 0 0 false false).toArray := hL.2.1; clear hL
          match vals, hv, hS with
          | [], _, hS =>
            refine lands_stg (vs := rc 0 0 false false) rtRef rc_one (i := 1) (show BX w [(g2, 82, cu none 0 0 0), (g1, 42, rc 0 0 false false), (g0, 82, cu A n c j4)] W from hS) rfl rfl (.tmp 2) (.tmp 31) rfl e2 e31 fun W2 h2 => ?_; exact ⟨h2, trivial, trivial⟩
      · as_aux_lemma =>
          intro a W vals hv hS hL hp; have e3 : a.tmps.getD 3 undef = .pointer (some ⟨g2, 0, none⟩) := hL.1; have e32 : a.tmps.getD 32 undef = .agg (cu A n c j4).toArray := hL.2.1; clear hL
          match vals, hv, hS with
          | [u0], _, hS =>
            refine lands_stg (vs := cu A n c j4) rtCur cu_one (i := 0) (show BX w [(g2, 82, cu none 0 0 0), (g1, 42, rc 0 0 false false), (g0, 82, cu A n c j4)] W from hS) rfl rfl (.tmp 3) (.tmp 32) rfl e3 e32 fun W2 h2 => ?_; exact ⟨h2, trivial, trivial⟩
      · as_aux_lemma => intro vals a W hS hL; clear hL; go_simp; exact ⟨dstY (by rfl), hS, trivial⟩
    · intro a W vals hd hsz hT hF hv hP hS
      obtain ⟨v0, v1, rfl⟩ : ∃ v0 v1, vals = [v0, v1] := by
        match vals, hv with
        | [xv0, xv1], _ => exact ⟨xv0, xv1, rfl⟩
      have HB : Hid (BX w [(g2, 82, cu A n c j4), (g1, 42, rc 0 0 false false), (g0, 82, cu A n c j4)] W) := Lib.hid hS; have e1 : a.tmps.getD 1 undef = .pointer (some ⟨g0, 0, none⟩) := hT 1 (by simp); have e2 : a.tmps.getD 2 undef = .pointer (some ⟨g1, 0, none⟩) := hT 2 (by simp); have e3 : a.tmps.getD 3 undef = .pointer (some ⟨g2, 0, none⟩) := hT 3 (by simp); have e5 : a.tmps.getD 5 undef = .int .i64 v2 := hT 5 (by simp); have e7 : a.tmps.getD 7 undef = .int .i64 v3 := hT 7 (by simp); have e9 : a.tmps.getD 9 undef = .int .i64 f := hT 9 (by simp); have e4 : a.tmps.getD 4 undef = .int .i64 2 := hT 4 (by simp); clear hT hF hP hS; rw [act_lit 43 a hd hsz]; simp only [List.range, List.range.loop, List.map, e1, e2, e3, e5, e7, e9, e4]; clear e1 e2 e3 e5 e7 e9 e4 hsz hd; generalize a.tmps.getD 0 undef = y0, a.tmps.getD 6 undef = y6, a.tmps.getD 8 undef = y8, a.tmps.getD 10 undef = y10, a.tmps.getD 11 undef = y11, a.tmps.getD 12 undef = y12, a.tmps.getD 13 undef = y13, a.tmps.getD 14 undef = y14, a.tmps.getD 15 undef = y15, a.tmps.getD 16 undef = y16, a.tmps.getD 17 undef = y17, a.tmps.getD 18 undef = y18, a.tmps.getD 19 undef = y19, a.tmps.getD 20 undef = y20, a.tmps.getD 21 undef = y21, a.tmps.getD 22 undef = y22, a.tmps.getD 23 undef = y23, a.tmps.getD 24 undef = y24, a.tmps.getD 25 undef = y25, a.tmps.getD 26 undef = y26, a.tmps.getD 27 undef = y27, a.tmps.getD 28 undef = y28, a.tmps.getD 29 undef = y29, a.tmps.getD 30 undef = y30, a.tmps.getD 31 undef = y31, a.tmps.getD 32 undef = y32, a.tmps.getD 33 undef = y33, a.tmps.getD 34 undef = y34, a.tmps.getD 35 undef = y35, a.tmps.getD 36 undef = y36, a.tmps.getD 37 undef = y37, a.tmps.getD 38 undef = y38, a.tmps.getD 39 undef = y39, a.tmps.getD 40 undef = y40, a.tmps.getD 41 undef = y41, a.tmps.getD 42 undef = y42
      repeat' (first | go_values | go_skip | go_guarded | go_step | go_upon)
      exact bodyPost_ret (res_rcn rfl 1 0 HB rfl rfl rfl rfl rfl) rfl ⟨rfl, HB.out.bel⟩
  · have hR := HR.out; have hE := HE.out; rw [if_neg h3] at hR hE; subst hR hE; have HB : Hid (BX w [] w) := Lib.hid (BX.start w); go_enter Tryz.func134, Tryz.ntmps134
    repeat' (first | ((with_reducible show Oper.wp _ _ _ _ _ _); with_reducible refine stop_bx _ rfl ?_) | go_values | go_skip | go_guarded | go_step | go_upon)
    refine Lib.hid ?_; refine al_g HB 82 (cu A n c i) (by kernel_rfl) ?_; clear HB
    (first | (have _t : Nat := g10; clear _t; intro g11 W HB) | (have _t : Nat := g9; clear _t; intro g10 W HB) | (have _t : Nat := g8; clear _t; intro g9 W HB) | (have _t : Nat := g7; clear _t; intro g8 W HB) | (have _t : Nat := g6; clear _t; intro g7 W HB) | (have _t : Nat := g5; clear _t; intro g6 W HB) | (have _t : Nat := g4; clear _t; intro g5 W HB) | (have _t : Nat := g3; clear _t; intro g4 W HB) | (have _t : Nat := g2; clear _t; intro g3 W HB) | (have _t : Nat := g1; clear _t; intro g2 W HB) | (have _t : Nat := g0; clear _t; intro g1 W HB) | intro g0 W HB)
    go_simp
    repeat' (first | ((with_reducible show Oper.wp _ _ _ _ _ _); (first | ((first | (with_reducible refine is_al 82 rfl ?_; refine al_g HB 82 (cu none 0 0 0) (by kernel_rfl) ?_) | (with_reducible refine is_al 42 rfl ?_; refine al_g HB 42 (rc 0 0 false false) (by kernel_rfl) ?_)); clear HB; (first | (have _t : Nat := g1; clear _t; intro g2 W HB) | (have _t : Nat := g0; clear _t; intro g1 W HB)); go_simp) | (with_reducible refine is_ld 82 _ rfl ?_; refine ld_cu 2 HB rfl _ rfl rfl ?_; go_simp))) | go_values | go_skip | go_guarded | go_step | go_upon)
    refine (H2.out _ (HH.out.1.belowMono HB.out.bel HH.out.2) (Nat.le_trans HH.out.2 HB.out.bel.size)).mono ?_; rintro e W1 ⟨rfl, hb⟩; have HB := Lib.hid (HB.out.call hb); clear hb; dsimp only
    repeat' (first | ((with_reducible show Oper.wp _ _ _ _ _ _); (first | (with_reducible refine is_ld 82 _ rfl ?_; refine ld_cu 2 HB rfl _ rfl rfl ?_; go_simp) | (with_reducible refine is_st 82 _ _ rfl ?_; refine st_cu 2 HB rfl _ _ rfl rfl rfl ?_; clear HB; intro W HB; dsimp only [List.set] at HB; go_simp))) | go_values | go_skip | go_guarded | go_step | go_upon)
    refine (H3.out _ (HH.out.1.belowMono HB.out.bel HH.out.2) (Nat.le_trans HH.out.2 HB.out.bel.size)).mono ?_; rintro e W1 ⟨rfl, hb⟩; have HB := Lib.hid (HB.out.call hb); clear hb; dsimp only
    repeat' (first | ((with_reducible show Oper.wp _ _ _ _ _ _); (first | (with_reducible refine is_ld 82 _ rfl ?_; refine ld_cu 2 HB rfl _ rfl rfl ?_; go_simp) | (with_reducible refine is_st 82 _ _ rfl ?_; refine st_cu 2 HB rfl _ _ rfl rfl rfl ?_; clear HB; intro W HB; dsimp only [List.set] at HB; go_simp))) | go_values | go_skip | go_guarded | go_step | go_upon)
    refine (H4.out _ (HH.out.1.belowMono HB.out.bel HH.out.2) (Nat.le_trans HH.out.2 HB.out.bel.size)).mono ?_; rintro e W1 ⟨rfl, hb⟩; have HB := Lib.hid (HB.out.call hb); clear hb; dsimp only
    repeat' (first | ((with_reducible show Oper.wp _ _ _ _ _ _); with_reducible refine is_st 82 _ _ rfl ?_; refine st_cu 2 HB rfl _ _ rfl rfl rfl ?_; clear HB; intro W HB; dsimp only [List.set] at HB; go_simp) | go_values | go_skip | go_guarded | go_step | go_upon)
    obtain ⟨b1, b2⟩ := and_odd (f := f) ⟨hf.1, by omega⟩; clear h3
    refine wp_region_phases (S := (SBN w [[(g2, 82, cu none 0 0 0), (g1, 42, rc 0 0 false false), (g0, 82, cu A n c j4)], [(g2, 82, cu none 0 0 0), (g1, 42, rc v2 v3 (oddB f) (twoB f)), (g0, 82, cu A n c j4)], [(g2, 82, cu A n c j4), (g1, 42, rc v2 v3 (oddB f) (twoB f)), (g0, 82, cu A n c j4)]])) (E := (fun _ _ => True)) [10, 11] [(1, Is (.pointer (some ⟨g0, 0, none⟩))), (2, Is (.pointer (some ⟨g1, 0, none⟩))), (3, Is (.pointer (some ⟨g2, 0, none⟩))), (5, Is (.int .i64 v2)), (7, Is (.int .i64 v3)), (9, Is (.int .i64 f))] [(33, Is (.int .i64 v2)), (34, Is (.int .i64 v3)), (35, Is (.int .i64 f)), (36, Is (.int .i64 (bits .and .i64 f 1))), (37, Is (.bool (oddB f))), (38, Is (.int .i64 f)), (39, Is (.int .i64 (bits .and .i64 f 2))), (40, Is (.bool (twoB f))), (41, Is (.agg #[.int .i64 v2, .int .i64 v3, .bool (oddB f), .bool (twoB f)])), (42, Is (.agg (cu A n c j4).toArray)), (4, Is (.int .i64 0))]
      [.op [5] none, .op [7] none, .op [9] none, .op [35] none, .op [36] none, .op [9] none, .op [38] none, .op [39] none, .op [33, 34, 37, 40] none, .op [1] none, .phase 0 [2, 41] [], .phase 1 [3, 42] [], .op [] none] (by as_aux_lemma => kernel_rfl) ?_ ?_ ?_ ?_ ?_ ⟨stable_is _ _, stable_is _ _, stable_is _ _, stable_is _ _, stable_is _ _, stable_is _ _, stable_is _ _, stable_is _ _, stable_is _ _, stable_is _ _, stable_is _ _, stable_is _ _, stable_is _ _, stable_is _ _, stable_is _ _, stable_is _ _, stable_is _ _, trivial⟩ ?_ HB.out.drew ?_ ?_
    · as_aux_lemma => kernel_rfl
    · as_aux_lemma => kernel_rfl
    · as_aux_lemma => kernel_rfl
    · as_aux_lemma => kernel_rfl
    · as_aux_lemma => kernel_rfl
    · exact ⟨rfl, rfl, rfl, rfl, rfl, rfl, trivial⟩
    · refine ⟨?_, ?_, ?_, ?_, ?_, ?_, ?_, ?_, ?_, ?_, ?_, ?_, ?_, trivial⟩
      · as_aux_lemma => intro vals a W hS hL; have e5 : a.tmps.getD 5 undef = .int .i64 v2 := hL.1; clear hL; go_simp; exact ⟨dstY (by rfl), hS, trivial⟩
      · as_aux_lemma => intro vals a W hS hL; have e7 : a.tmps.getD 7 undef = .int .i64 v3 := hL.1; clear hL; go_simp; exact ⟨dstY (by rfl), hS, trivial⟩
      · as_aux_lemma => intro vals a W hS hL; have e9 : a.tmps.getD 9 undef = .int .i64 f := hL.1; clear hL; go_simp; exact ⟨dstY (by rfl), hS, trivial⟩
      · as_aux_lemma => intro vals a W hS hL; have e35 : a.tmps.getD 35 undef = .int .i64 f := hL.1; clear hL; go_simp; exact ⟨dstY (by rfl), hS, trivial⟩
      · as_aux_lemma => intro vals a W hS hL; have e36 : a.tmps.getD 36 undef = .int .i64 (bits .and .i64 f 1) := hL.1; clear hL; go_simp; exact ⟨dstY (by rfl), hS, trivial⟩
      · as_aux_lemma => intro vals a W hS hL; have e9 : a.tmps.getD 9 undef = .int .i64 f := hL.1; clear hL; go_simp; exact ⟨dstY (by rfl), hS, trivial⟩
      · as_aux_lemma => intro vals a W hS hL; have e38 : a.tmps.getD 38 undef = .int .i64 f := hL.1; clear hL; go_simp; exact ⟨dstY (by rfl), hS, trivial⟩
      · as_aux_lemma => intro vals a W hS hL; have e39 : a.tmps.getD 39 undef = .int .i64 (bits .and .i64 f 2) := hL.1; clear hL; go_simp; exact ⟨dstY (by rfl), hS, trivial⟩
      · as_aux_lemma => intro vals a W hS hL; have e33 : a.tmps.getD 33 undef = .int .i64 v2 := hL.1; have e34 : a.tmps.getD 34 undef = .int .i64 v3 := hL.2.1; have e37 : a.tmps.getD 37 undef = .bool (oddB f) := hL.2.2.1; have e40 : a.tmps.getD 40 undef = .bool (twoB f) := hL.2.2.2.1; clear hL; rw [Array.getD_eq_getD_getElem?] at e33 e34 e37 e40; go_simp; exact ⟨dstY (by rfl), hS, trivial⟩
      · as_aux_lemma => intro vals a W hS hL; have e1 : a.tmps.getD 1 undef = .pointer (some ⟨g0, 0, none⟩) := hL.1; clear hL; refine lands_vB (run_ldg rtCur (hS.get 2 ⟨rfl, rfl, rfl, trivial⟩) (.tmp 1) rfl e1) ?_; exact ⟨dstY (by rfl), hS, trivial⟩
      · as_aux_lemma =>
          intro a W vals hv hS hL hp; have e2 : a.tmps.getD 2 undef = .pointer (some ⟨g1, 0, none⟩) := hL.1; have e41 : a.tmps.getD 41 undef = .agg #[.int .i64 v2, .int .i64 v3, .bool (oddB f), .bool (twoB f)] := hL.2.1; clear hL
          match vals, hv, hS with
          | [], _, hS =>
            refine lands_stg (vs := rc v2 v3 (oddB f) (twoB f)) rtRef rc_one (i := 1) (show BX w [(g2, 82, cu none 0 0 0), (g1, 42, rc 0 0 false false), (g0, 82, cu A n c j4)] W from hS) rfl rfl (.tmp 2) (.tmp 41) rfl e2 e41 fun W2 h2 => ?_; exact ⟨h2, trivial, trivial⟩
      · as_aux_lemma =>
          intro a W vals hv hS hL hp; have e3 : a.tmps.getD 3 undef = .pointer (some ⟨g2, 0, none⟩) := hL.1; have e42 : a.tmps.getD 42 undef = .agg (cu A n c j4).toArray := hL.2.1; clear hL
          match vals, hv, hS with
          | [u0], _, hS =>
            refine lands_stg (vs := cu A n c j4) rtCur cu_one (i := 0) (show BX w [(g2, 82, cu none 0 0 0), (g1, 42, rc v2 v3 (oddB f) (twoB f)), (g0, 82, cu A n c j4)] W from hS) rfl rfl (.tmp 3) (.tmp 42) rfl e3 e42 fun W2 h2 => ?_; exact ⟨h2, trivial, trivial⟩
      · as_aux_lemma => intro vals a W hS hL; clear hL; go_simp; exact ⟨dstY (by rfl), hS, trivial⟩
    · intro a W vals hd hsz hT hF hv hP hS
      obtain ⟨v0, v1, rfl⟩ : ∃ v0 v1, vals = [v0, v1] := by
        match vals, hv with
        | [xv0, xv1], _ => exact ⟨xv0, xv1, rfl⟩
      have HB : Hid (BX w [(g2, 82, cu A n c j4), (g1, 42, rc v2 v3 (oddB f) (twoB f)), (g0, 82, cu A n c j4)] W) := Lib.hid hS; have e1 : a.tmps.getD 1 undef = .pointer (some ⟨g0, 0, none⟩) := hT 1 (by simp); have e2 : a.tmps.getD 2 undef = .pointer (some ⟨g1, 0, none⟩) := hT 2 (by simp); have e3 : a.tmps.getD 3 undef = .pointer (some ⟨g2, 0, none⟩) := hT 3 (by simp); have e5 : a.tmps.getD 5 undef = .int .i64 v2 := hT 5 (by simp); have e7 : a.tmps.getD 7 undef = .int .i64 v3 := hT 7 (by simp); have e9 : a.tmps.getD 9 undef = .int .i64 f := hT 9 (by simp); have e4 : a.tmps.getD 4 undef = .int .i64 0 := hT 4 (by simp); clear hT hF hP hS; rw [act_lit 43 a hd hsz]; simp only [List.range, List.range.loop, List.map, e1, e2, e3, e5, e7, e9, e4]; clear e1 e2 e3 e5 e7 e9 e4 hsz hd; generalize a.tmps.getD 0 undef = y0, a.tmps.getD 6 undef = y6, a.tmps.getD 8 undef = y8, a.tmps.getD 10 undef = y10, a.tmps.getD 11 undef = y11, a.tmps.getD 12 undef = y12, a.tmps.getD 13 undef = y13, a.tmps.getD 14 undef = y14, a.tmps.getD 15 undef = y15, a.tmps.getD 16 undef = y16, a.tmps.getD 17 undef = y17, a.tmps.getD 18 undef = y18, a.tmps.getD 19 undef = y19, a.tmps.getD 20 undef = y20, a.tmps.getD 21 undef = y21, a.tmps.getD 22 undef = y22, a.tmps.getD 23 undef = y23, a.tmps.getD 24 undef = y24, a.tmps.getD 25 undef = y25, a.tmps.getD 26 undef = y26, a.tmps.getD 27 undef = y27, a.tmps.getD 28 undef = y28, a.tmps.getD 29 undef = y29, a.tmps.getD 30 undef = y30, a.tmps.getD 31 undef = y31, a.tmps.getD 32 undef = y32, a.tmps.getD 33 undef = y33, a.tmps.getD 34 undef = y34, a.tmps.getD 35 undef = y35, a.tmps.getD 36 undef = y36, a.tmps.getD 37 undef = y37, a.tmps.getD 38 undef = y38, a.tmps.getD 39 undef = y39, a.tmps.getD 40 undef = y40, a.tmps.getD 41 undef = y41, a.tmps.getD 42 undef = y42
      repeat' (first | go_values | go_skip | go_guarded | go_step | go_upon)
      exact bodyPost_ret (res_rcn rfl 1 0 HB rfl rfl rfl rfl rfl) rfl ⟨rfl, HB.out.bel⟩
end Go.Proofs.YtlaiocdnddnnaaaGreatDoor
