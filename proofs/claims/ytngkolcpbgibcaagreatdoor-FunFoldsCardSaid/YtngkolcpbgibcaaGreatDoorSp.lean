/- fun's power and reckon by their contracts. Condition: numbers may be. -/
import Derived.Test.YtngkolcpbgibcaaGreatDoorSg
set_option linter.unusedVariables false
set_option linter.unusedSimpArgs false
namespace Go.Proofs.YtngkolcpbgibcaaGreatDoor
open Go.RowKit
set_option maxRecDepth 20000 in
set_option maxHeartbeats 8000000 in
theorem fPower_any {w : World} {m n : Int} {s t : Nat} (hx : Gd m s) (hy : Gd n t) :
    Calls Tryz.prog 144 #[.agg (dc m s).toArray, .agg (dc n t).toArray] w fun e W => e = .returned (.agg (vc (powX m s n t)).toArray) ∧ Below w.heap.size w W := by
  have HB := Lib.hid (BX.start w)
  by_cases ht : t = 0
  · subst ht; have HW := Lib.hid (fun W : World => isWhole_any (w := W) n 0); simp only [decide_true] at HW
    by_cases hlo : n < -64
    · rw [show powX m s n 0 = .err 36 by unfold powX; rw [if_neg (by omega)]]; clear hx hy; go_enter Tryz.func144, Tryz.ntmps144
      repeat' (first | ((with_reducible show Oper.wp _ _ _ _ _ _); (first | ((first | refine al_v HB rfl ?_ | refine bx_d HB _ rfl rfl ?_); clear HB; (first | (have _t : Nat := g1; clear _t; intro g2 W HB) | (have _t : Nat := g0; clear _t; intro g1 W HB) | intro g0 W HB); go_simp) | (refine ld_d 1 HB rfl _ rfl rfl ?_; go_simp))) | go_values | go_skip | go_guarded | go_step | go_upon)
      refine (HW.out _).mono ?_; rintro e W1 ⟨rfl, hb⟩; have HB := Lib.hid (HB.out.call hb); clear hb; dsimp only
      repeat' (first | ((with_reducible show Oper.wp _ _ _ _ _ _); refine lf_i64 1 HB rfl _ rfl rfl rfl ?_; go_simp) | go_values | go_skip | go_guarded | go_step | go_upon)
      refine (fFault 36).mono ?_; rintro e W1 ⟨rfl, hb⟩; have HB := Lib.hid (HB.out.call hb); clear hb; dsimp only
      repeat' (first | ((with_reducible show Oper.wp _ _ _ _ _ _); refine st_v 0 HB rfl _ _ rfl rfl rfl ?_; clear HB; intro W HB; dsimp only [List.set] at HB; go_simp) | go_values | go_skip | go_guarded | go_step | go_upon)
      exact bodyPost_ret (res_v rfl HB (i := 0) rfl rfl) rfl ⟨rfl, HB.out.bel⟩
    · by_cases hhi : 64 < n
      · rw [show powX m s n 0 = .err 36 by unfold powX; rw [if_neg (by omega)]]; clear hx hy; go_enter Tryz.func144, Tryz.ntmps144
        repeat' (first | ((with_reducible show Oper.wp _ _ _ _ _ _); (first | ((first | refine al_v HB rfl ?_ | refine bx_d HB _ rfl rfl ?_); clear HB; (first | (have _t : Nat := g1; clear _t; intro g2 W HB) | (have _t : Nat := g0; clear _t; intro g1 W HB) | intro g0 W HB); go_simp) | (refine ld_d 1 HB rfl _ rfl rfl ?_; go_simp))) | go_values | go_skip | go_guarded | go_step | go_upon)
        refine (HW.out _).mono ?_; rintro e W1 ⟨rfl, hb⟩; have HB := Lib.hid (HB.out.call hb); clear hb; dsimp only
        repeat' (first | ((with_reducible show Oper.wp _ _ _ _ _ _); refine lf_i64 1 HB rfl _ rfl rfl rfl ?_; go_simp) | go_values | go_skip | go_guarded | go_step | go_upon)
        refine (fFault 36).mono ?_; rintro e W1 ⟨rfl, hb⟩; have HB := Lib.hid (HB.out.call hb); clear hb; dsimp only
        repeat' (first | ((with_reducible show Oper.wp _ _ _ _ _ _); refine st_v 0 HB rfl _ _ rfl rfl rfl ?_; clear HB; intro W HB; dsimp only [List.set] at HB; go_simp) | go_values | go_skip | go_guarded | go_step | go_upon)
        exact bodyPost_ret (res_v rfl HB (i := 0) rfl rfl) rfl ⟨rfl, HB.out.bel⟩
      · rw [show powX m s n 0 = powT m s n by unfold powX; rw [if_pos (by omega)]]
        have HM : Hid (∀ i (W : World), (powL m s i).e = 0 → Calls Tryz.prog 36 #[.agg (dc (powL m s i).m (powL m s i).s).toArray, .agg (dc m s).toArray] W fun e W' => e = .returned (.tuple #[.agg (dc (powL m s (i + 1)).m ((powL m s (i + 1)).s : Nat)).toArray, .int .i64 ((powL m s (i + 1)).e : Nat)]) ∧ Below W.heap.size W W') := Lib.hid fun i W h => by
          rw [powL_next h]; exact mul_r (powL_gd i h) hx W
        obtain ⟨N, hN⟩ : ∃ N : Nat, N = n.natAbs := ⟨_, rfl⟩
        have hmx : max n (-n) = (N : Int) := by omega
        have hN64 : N ≤ 64 := by omega
        unfold powT; rw [← hN]; clear hN; clear hx hy; go_enter Tryz.func144, Tryz.ntmps144
        repeat' (first | ((with_reducible show Oper.wp _ _ _ _ _ _); (first | ((first | refine al_v HB rfl ?_ | refine bx_d HB _ rfl rfl ?_); clear HB; (first | (have _t : Nat := g1; clear _t; intro g2 W HB) | (have _t : Nat := g0; clear _t; intro g1 W HB) | intro g0 W HB); go_simp) | (refine ld_d 1 HB rfl _ rfl rfl ?_; go_simp))) | go_values | go_skip | go_guarded | go_step | go_upon)
        refine (HW.out _).mono ?_; rintro e W1 ⟨rfl, hb⟩; have HB := Lib.hid (HB.out.call hb); clear hb; dsimp only
        repeat' (first | ((with_reducible show Oper.wp _ _ _ _ _ _); refine lf_i64 1 HB rfl _ rfl rfl rfl ?_; go_simp) | go_values | go_skip | go_guarded | go_step | go_upon)
        refine (fInt 1).mono ?_; rintro e W1 ⟨rfl, hb⟩; have HB := Lib.hid (HB.out.call hb); clear hb; dsimp only
        repeat' (first | ((with_reducible show Oper.wp _ _ _ _ _ _); (first | (refine al_d HB rfl ?_; clear HB; intro g3 W HB; go_simp) | (refine st_d 0 HB rfl _ _ rfl rfl rfl ?_; clear HB; intro W HB; dsimp only [List.set] at HB; go_simp) | (refine lf_i64 2 HB rfl _ rfl rfl rfl ?_; go_simp))) | go_values | go_skip | go_guarded | go_step | go_upon)
        clear HW hmx
        go_loopw [28] (fun i wr => ∃ k : Nat, k ≤ N ∧ i = .int .i64 k ∧ (powL m s k).e = 0 ∧ Hid (BX w [(g3, 30, dc (powL m s k).m ((powL m s k).s : Nat)), (g2, 32, vc .blank), (g1, 30, dc n 0), (g0, 30, dc m s)] wr)) (fun i _ => N - (intOf i).toNat)
        case atStart => exact ⟨0, Nat.zero_le _, rfl, rfl, HB⟩
        case round =>
          clear HB; obtain ⟨k, hk, rfl, h0, HB⟩ := hrel
          by_cases hlt : k < N
          · have hlt' : (k : Int) < (N : Int) := by omega
            have HC := Lib.hid (fun W => HM.out k W h0)
            by_cases he : (powL m s (k + 1)).e = 0
            · simp only [he] at HC; have HE := Lib.hid he; clear he h0
              repeat' (first | ((with_reducible show Oper.wp _ _ _ _ _ _); (first | refine ld_d 0 HB rfl _ rfl rfl ?_ | refine ld_d 3 HB rfl _ rfl rfl ?_); go_simp) | go_values | go_skip | go_guarded | go_step | go_upon)
              refine (HC.out _).mono ?_; rintro e W1 ⟨rfl, hb⟩; have HB := Lib.hid (HB.out.call hb); clear hb; dsimp only
              repeat' (first | ((with_reducible show Oper.wp _ _ _ _ _ _); refine st_d 0 HB rfl _ _ rfl rfl rfl ?_; clear HB; intro W HB; dsimp only [List.set] at HB; go_simp) | go_values | go_skip | go_guarded | go_step | go_upon)
              go_roundw
              case rel => exact ⟨k + 1, by omega, by go_num, HE.out, HB⟩
              case measure => simp [intOf]; omega
            · have hst : powL m s N = powL m s (k + 1) := powL_stop he N (by omega); have HV : Hid ((if (powL m s N).e = 0 then (if n < 0 then reckX (divX 1 0 (powL m s N).m (powL m s N).s) else .num (powL m s N).m (powL m s N).s) else reckX (powL m s N)) = reckX (powL m s (k + 1))) := Lib.hid (by rw [hst, if_neg he]); have he' : (((powL m s (k + 1)).e : Nat) : Int) ≠ 0 := by omega
              clear he hst h0; generalize powL m s (k + 1) = r at *
              repeat' (first | ((with_reducible show Oper.wp _ _ _ _ _ _); (first | refine ld_d 0 HB rfl _ rfl rfl ?_ | refine ld_d 3 HB rfl _ rfl rfl ?_); go_simp) | go_values | go_skip | go_guarded | go_step | go_upon)
              refine (HC.out _).mono ?_; rintro e W1 ⟨rfl, hb⟩; have HB := Lib.hid (HB.out.call hb); clear hb; dsimp only
              repeat' (first | ((with_reducible show Oper.wp _ _ _ _ _ _); (first | (refine ld_d 0 HB rfl _ rfl rfl ?_; go_simp) | (refine st_d 0 HB rfl _ _ rfl rfl rfl ?_; clear HB; intro W HB; dsimp only [List.set] at HB; go_simp))) | go_values | go_skip | go_guarded | go_step | go_upon)
              refine (reckoned_any r).mono ?_; rintro e W1 ⟨rfl, hb⟩; have HB := Lib.hid (HB.out.call hb); clear hb; dsimp only
              repeat' (first | ((with_reducible show Oper.wp _ _ _ _ _ _); refine st_v 1 HB rfl _ _ rfl rfl rfl ?_; clear HB; intro W HB; dsimp only [List.set] at HB; go_simp) | go_values | go_skip | go_guarded | go_step | go_upon)
              rw [HV.out]; exact bodyPost_ret (res_v rfl HB (i := 1) rfl rfl) rfl ⟨rfl, HB.out.bel⟩
          · obtain rfl : k = N := by omega
            have HG := powL_gd k h0
            by_cases hneg : n < 0
            · have HV : Hid (∀ p r, powL m s k = p → divX 1 0 p.m p.s = r → (if (powL m s k).e = 0 then (if n < 0 then reckX (divX 1 0 (powL m s k).m (powL m s k).s) else .num (powL m s k).m (powL m s k).s) else reckX (powL m s k)) = reckX r) := Lib.hid (by rintro p r rfl rfl; rw [if_pos h0, if_pos hneg]); have HC := Lib.hid (div_r (by exact ⟨by decide, by decide, by decide, .inl rfl⟩ : Gd 1 0) HG); obtain ⟨p, hp⟩ : ∃ p, powL m s k = p := ⟨_, rfl⟩
              have HP := Lib.hid hp; rw [hp] at HB HC; clear hp; obtain ⟨r, hr⟩ : ∃ r, divX 1 0 p.m p.s = r := ⟨_, rfl⟩
              have HR := Lib.hid hr; rw [hr] at HC; clear hr; simp only [drV] at HC; clear HG h0 HM
              repeat' (first | ((with_reducible show Oper.wp _ _ _ _ _ _); refine lf_i64 2 HB rfl _ rfl rfl rfl ?_; go_simp) | go_values | go_skip | go_guarded | go_step | go_upon)
              refine wp_region_phases (S := (SBN w [[(g3, 30, dc p.m (p.s : Nat)), (g2, 32, vc .blank), (g1, 30, dc n 0), (g0, 30, dc m s)], [(g3, 30, dc p.m (p.s : Nat)), (g2, 32, vc (reckX r)), (g1, 30, dc n 0), (g0, 30, dc m s)]])) (E := (fun _ _ => True)) [6] [(4, Is (.pointer (some ⟨g2, 0, none⟩))), (5, Is (.pointer (some ⟨g3, 0, none⟩)))] [(45, Is (.agg (dc 1 (0 : Nat)).toArray)), (46, Is (.agg (dc p.m (p.s : Nat)).toArray)), (47, Is (.tuple #[.agg (dc r.m (r.s : Nat)).toArray, .int .i64 (r.e : Nat)])), (48, Is (.agg (dc r.m (r.s : Nat)).toArray)), (49, Is (.int .i64 (r.e : Nat))), (50, Is (.agg (vc (reckX r)).toArray))]
                [.op [] none, .op [5] none, .op [45, 46] none, .op [47] none, .op [47] none, .op [48, 49] none, .phase 0 [4, 50] []] (by as_aux_lemma => kernel_rfl) ?_ ?_ ?_ ?_ ?_ ⟨stable_is _ _, stable_is _ _, stable_is _ _, stable_is _ _, stable_is _ _, stable_is _ _, stable_is _ _, stable_is _ _, trivial⟩ ?_ HB.out.drew ?_ ?_
              · as_aux_lemma => kernel_rfl
              · as_aux_lemma => kernel_rfl
              · as_aux_lemma => kernel_rfl
              · as_aux_lemma => kernel_rfl
              · as_aux_lemma => kernel_rfl
              · exact ⟨rfl, rfl, trivial⟩
              · refine ⟨?_, ?_, ?_, ?_, ?_, ?_, ?_, trivial⟩
                · as_aux_lemma => intro vals a W hS hL; clear hL; go_simp; refine (fInt (w := W) 1).mono ?_; rintro e W2 ⟨rfl, hb⟩; exact ⟨_, rfl, dstY (by rfl), hS.call hb, trivial⟩
                · as_aux_lemma => intro vals a W hS hL; have e5 : a.tmps.getD 5 undef = .pointer (some ⟨g3, 0, none⟩) := hL.1; clear hL; refine lands_v (run_ldg rtDec (hS.get 0 ⟨rfl, rfl, trivial⟩) (.tmp 5) rfl e5) ?_; exact ⟨dstY (by rfl), hS, trivial⟩
                · as_aux_lemma => intro vals a W hS hL; have e45 : a.tmps.getD 45 undef = .agg (dc 1 (0 : Nat)).toArray := hL.1; have e46 : a.tmps.getD 46 undef = .agg (dc p.m (p.s : Nat)).toArray := hL.2.1; clear hL; go_simp; refine (HC.out W).mono ?_; rintro e W2 ⟨rfl, hb⟩; exact ⟨_, rfl, dstY (by rfl), hS.call hb, trivial⟩
                · as_aux_lemma => intro vals a W hS hL; have e47 : a.tmps.getD 47 undef = .tuple #[.agg (dc r.m (r.s : Nat)).toArray, .int .i64 (r.e : Nat)] := hL.1; clear hL; go_simp; exact ⟨dstY (by rfl), hS, trivial⟩
                · as_aux_lemma => intro vals a W hS hL; have e47 : a.tmps.getD 47 undef = .tuple #[.agg (dc r.m (r.s : Nat)).toArray, .int .i64 (r.e : Nat)] := hL.1; clear hL; go_simp; exact ⟨dstY (by rfl), hS, trivial⟩
                · as_aux_lemma => intro vals a W hS hL; have e48 : a.tmps.getD 48 undef = .agg (dc r.m (r.s : Nat)).toArray := hL.1; have e49 : a.tmps.getD 49 undef = .int .i64 (r.e : Nat) := hL.2.1; clear hL; go_simp; refine (reckoned_any (w := W) r).mono ?_; rintro e W2 ⟨rfl, hb⟩; exact ⟨_, rfl, dstY (by rfl), hS.call hb, trivial⟩
                · as_aux_lemma =>
                    intro a W vals hv hS hL hp; have e4 : a.tmps.getD 4 undef = .pointer (some ⟨g2, 0, none⟩) := hL.1; have e50 : a.tmps.getD 50 undef = .agg (vc (reckX r)).toArray := hL.2.1; clear hL
                    match vals, hv, hS with
                    | [], _, hS =>
                      refine lands_stg (vs := vc (reckX r)) rtV (vc_one _) (i := 1) (show BX w [(g3, 30, dc p.m (p.s : Nat)), (g2, 32, vc .blank), (g1, 30, dc n 0), (g0, 30, dc m s)] W from hS) rfl ((vc_len _).trans (vc_len _).symm) (.tmp 4) (.tmp 50) rfl e4 e50 fun W2 h2 => ?_; exact ⟨h2, trivial, trivial⟩
              · intro a W vals hd hsz hT hF hv hP hS
                obtain ⟨v0, rfl⟩ : ∃ v0, vals = [v0] := by
                  match vals, hv with
                  | [xv0], _ => exact ⟨xv0, rfl⟩
                have HB : Hid (BX w [(g3, 30, dc p.m (p.s : Nat)), (g2, 32, vc (reckX r)), (g1, 30, dc n 0), (g0, 30, dc m s)] W) := Lib.hid hS; have e4 : a.tmps.getD 4 undef = .pointer (some ⟨g2, 0, none⟩) := hT 4 (by simp); have e5 : a.tmps.getD 5 undef = .pointer (some ⟨g3, 0, none⟩) := hT 5 (by simp); clear hT hF hP hS; rw [act_lit 53 a hd hsz]; simp only [List.range, List.range.loop, List.map, e4, e5]; clear e4 e5 hsz hd; generalize a.tmps.getD 0 undef = y0, a.tmps.getD 1 undef = y1, a.tmps.getD 2 undef = y2, a.tmps.getD 3 undef = y3, a.tmps.getD 6 undef = y6, a.tmps.getD 7 undef = y7, a.tmps.getD 8 undef = y8, a.tmps.getD 9 undef = y9, a.tmps.getD 10 undef = y10, a.tmps.getD 11 undef = y11, a.tmps.getD 12 undef = y12, a.tmps.getD 13 undef = y13, a.tmps.getD 14 undef = y14, a.tmps.getD 15 undef = y15, a.tmps.getD 16 undef = y16, a.tmps.getD 17 undef = y17, a.tmps.getD 18 undef = y18, a.tmps.getD 19 undef = y19, a.tmps.getD 20 undef = y20, a.tmps.getD 21 undef = y21, a.tmps.getD 22 undef = y22, a.tmps.getD 23 undef = y23, a.tmps.getD 24 undef = y24, a.tmps.getD 25 undef = y25, a.tmps.getD 26 undef = y26, a.tmps.getD 27 undef = y27, a.tmps.getD 28 undef = y28, a.tmps.getD 29 undef = y29, a.tmps.getD 30 undef = y30, a.tmps.getD 31 undef = y31, a.tmps.getD 32 undef = y32, a.tmps.getD 33 undef = y33, a.tmps.getD 34 undef = y34, a.tmps.getD 35 undef = y35, a.tmps.getD 36 undef = y36, a.tmps.getD 37 undef = y37, a.tmps.getD 38 undef = y38, a.tmps.getD 39 undef = y39, a.tmps.getD 40 undef = y40, a.tmps.getD 41 undef = y41, a.tmps.getD 42 undef = y42, a.tmps.getD 43 undef = y43, a.tmps.getD 44 undef = y44, a.tmps.getD 45 undef = y45, a.tmps.getD 46 undef = y46, a.tmps.getD 47 undef = y47, a.tmps.getD 48 undef = y48, a.tmps.getD 49 undef = y49, a.tmps.getD 50 undef = y50, a.tmps.getD 51 undef = y51, a.tmps.getD 52 undef = y52
                repeat' (first | go_values | go_skip | go_guarded | go_step | go_upon)
                rw [HV.out p r HP.out HR.out]; exact bodyPost_ret (res_v rfl HB (i := 1) rfl rfl) rfl ⟨rfl, HB.out.bel⟩
            · have HV : Hid (∀ p, powL m s k = p → (if (powL m s k).e = 0 then (if n < 0 then reckX (divX 1 0 (powL m s k).m (powL m s k).s) else .num (powL m s k).m (powL m s k).s) else reckX (powL m s k)) = .num p.m p.s) := Lib.hid (by rintro p rfl; rw [if_pos h0, if_neg hneg]); obtain ⟨p, hp⟩ : ∃ p, powL m s k = p := ⟨_, rfl⟩
              have HP := Lib.hid hp; rw [hp] at HB; clear hp; clear HG h0 HM
              repeat' (first | ((with_reducible show Oper.wp _ _ _ _ _ _); (first | refine ld_d 0 HB rfl _ rfl rfl ?_ | refine lf_i64 2 HB rfl _ rfl rfl rfl ?_); go_simp) | go_values | go_skip | go_guarded | go_step | go_upon)
              refine (fNumber_any p.m p.s).mono ?_; rintro e W1 ⟨rfl, hb⟩; have HB := Lib.hid (HB.out.call hb); clear hb; dsimp only
              repeat' (first | ((with_reducible show Oper.wp _ _ _ _ _ _); refine st_v 1 HB rfl _ _ rfl rfl rfl ?_; clear HB; intro W HB; dsimp only [List.set] at HB; go_simp) | go_values | go_skip | go_guarded | go_step | go_upon)
              rw [HV.out p HP.out]; exact bodyPost_ret (res_v rfl HB (i := 1) rfl rfl) rfl ⟨rfl, HB.out.bel⟩
  · have HW := Lib.hid (fun W : World => isWhole_any (w := W) n t); rw [show decide (t = 0) = false from decide_eq_false ht] at HW; rw [show powX m s n t = .err 36 by unfold powX; rw [if_neg (by omega)]]; clear hx hy ht; go_enter Tryz.func144, Tryz.ntmps144
    repeat' (first | ((with_reducible show Oper.wp _ _ _ _ _ _); (first | ((first | refine al_v HB rfl ?_ | refine bx_d HB _ rfl rfl ?_); clear HB; (first | (have _t : Nat := g1; clear _t; intro g2 W HB) | (have _t : Nat := g0; clear _t; intro g1 W HB) | intro g0 W HB); go_simp) | (refine ld_d 1 HB rfl _ rfl rfl ?_; go_simp))) | go_values | go_skip | go_guarded | go_step | go_upon)
    refine (HW.out _).mono ?_; rintro e W1 ⟨rfl, hb⟩; have HB := Lib.hid (HB.out.call hb); clear hb; dsimp only
    repeat' (first | go_values | go_skip | go_guarded | go_step | go_upon)
    refine (fFault 36).mono ?_; rintro e W1 ⟨rfl, hb⟩; have HB := Lib.hid (HB.out.call hb); clear hb; dsimp only
    repeat' (first | ((with_reducible show Oper.wp _ _ _ _ _ _); refine st_v 0 HB rfl _ _ rfl rfl rfl ?_; clear HB; intro W HB; dsimp only [List.set] at HB; go_simp) | go_values | go_skip | go_guarded | go_step | go_upon)
    exact bodyPost_ret (res_v rfl HB (i := 0) rfl rfl) rfl ⟨rfl, HB.out.bel⟩
set_option maxRecDepth 20000 in
set_option maxHeartbeats 8000000 in
theorem reckon_any {w : World} {op : Int} {x y : VX} (hx : shortX 100000000 x) (hy : shortX 100000000 y) (gx : GdX x) (gy : GdX y) :
    Calls Tryz.prog 66 #[.int .i64 op, .agg (vc x).toArray, .agg (vc y).toArray] w fun e W => e = .returned (.agg (vc (rkX op (nnX x y))).toArray) ∧ Below w.heap.size w W := by
  have HB := Lib.hid (BX.start w); have HN := Lib.hid (fun W : World => numbers_any (w := W) hx hy)
  have hg : ∀ m s n t, nnX x y = .ok m s n t → Gd m s ∧ Gd n t := by
    intro m s n t h; unfold nnX at h
    cases h1 : numX x with
    | no v => rw [h1] at h; cases h
    | ok m' s' =>
      rw [h1] at h
      cases h2 : numX y with
      | no v => rw [h2] at h; cases h
      | ok n' t' =>
        rw [h2] at h; obtain ⟨rfl, rfl, rfl, rfl⟩ : m' = m ∧ s' = s ∧ n' = n ∧ t' = t := by simpa using h
        exact ⟨gx _ _ h1, gy _ _ h2⟩
  clear hx hy gx gy
  cases hn : nnX x y with
  | no v =>
    rw [hn] at HN; simp only [nnV] at HN; simp only [rkX]; clear hg hn; go_enter Tryz.func66, Tryz.ntmps66
    repeat' (first | ((with_reducible show Oper.wp _ _ _ _ _ _); (first | ((first | refine al_v HB rfl ?_ | refine bx_v HB _ rfl rfl ?_); clear HB; (first | (have _t : Nat := g1; clear _t; intro g2 W HB) | (have _t : Nat := g0; clear _t; intro g1 W HB) | intro g0 W HB); go_simp) | ((first | refine ld_v 1 HB rfl _ rfl rfl ?_ | refine ld_v 2 HB rfl _ rfl rfl ?_); go_simp))) | go_values | go_skip | go_guarded | go_step | go_upon)
    refine (HN.out _).mono ?_; rintro e W1 ⟨rfl, hb⟩; have HB := Lib.hid (HB.out.call hb); clear hb; dsimp only
    repeat' (first | ((with_reducible show Oper.wp _ _ _ _ _ _); (first | ((first | refine al_v HB rfl ?_ | refine al_d HB rfl ?_); clear HB; (first | (have _t : Nat := g4; clear _t; intro g5 W HB) | (have _t : Nat := g3; clear _t; intro g4 W HB) | (have _t : Nat := g2; clear _t; intro g3 W HB)); go_simp) | (refine ld_v 0 HB rfl _ rfl rfl ?_; go_simp) | ((first | refine st_v 0 HB rfl _ _ rfl rfl rfl ?_ | refine st_v 3 HB rfl _ _ rfl rfl rfl ?_ | refine st_d 1 HB rfl _ _ rfl rfl rfl ?_ | refine st_d 2 HB rfl _ _ rfl rfl rfl ?_); clear HB; intro W HB; dsimp only [List.set] at HB; go_simp))) | go_values | go_skip | go_guarded | go_step | go_upon)
    exact bodyPost_ret (res_v rfl HB (i := 3) rfl rfl) rfl ⟨rfl, HB.out.bel⟩
  | ok m s n t =>
    rw [hn] at HN; simp only [nnV] at HN; obtain ⟨g1, g2⟩ := hg _ _ _ _ hn; simp only [rkX]; clear hg hn
    by_cases h1 : op = 1
    · subst h1; rw [show rkN 1 m s n t = reckX (addD m s n t) from rfl]; have HC := Lib.hid (add_r g1 g2); generalize addD m s n t = r at *; simp only [drV] at HC; clear g1 g2; go_enter Tryz.func66, Tryz.ntmps66
      repeat' (first | ((with_reducible show Oper.wp _ _ _ _ _ _); (first | ((first | refine al_v HB rfl ?_ | refine bx_v HB _ rfl rfl ?_); clear HB; (first | (have _t : Nat := g1; clear _t; intro g2 W HB) | (have _t : Nat := g0; clear _t; intro g1 W HB) | intro g0 W HB); go_simp) | ((first | refine ld_v 1 HB rfl _ rfl rfl ?_ | refine ld_v 2 HB rfl _ rfl rfl ?_); go_simp))) | go_values | go_skip | go_guarded | go_step | go_upon)
      refine (HN.out _).mono ?_; rintro e W1 ⟨rfl, hb⟩; have HB := Lib.hid (HB.out.call hb); clear hb; dsimp only
      repeat' (first | ((with_reducible show Oper.wp _ _ _ _ _ _); (first | ((first | refine al_v HB rfl ?_ | refine al_d HB rfl ?_); clear HB; (first | (have _t : Nat := g4; clear _t; intro g5 W HB) | (have _t : Nat := g3; clear _t; intro g4 W HB) | (have _t : Nat := g2; clear _t; intro g3 W HB)); go_simp) | ((first | refine ld_d 1 HB rfl _ rfl rfl ?_ | refine ld_d 2 HB rfl _ rfl rfl ?_); go_simp) | ((first | refine st_v 0 HB rfl _ _ rfl rfl rfl ?_ | refine st_d 1 HB rfl _ _ rfl rfl rfl ?_ | refine st_d 2 HB rfl _ _ rfl rfl rfl ?_); clear HB; intro W HB; dsimp only [List.set] at HB; go_simp))) | go_values | go_skip | go_guarded | go_step | go_upon)
      refine (HC.out _).mono ?_; rintro e W1 ⟨rfl, hb⟩; have HB := Lib.hid (HB.out.call hb); clear hb; dsimp only
      repeat' (first | go_values | go_skip | go_guarded | go_step | go_upon)
      refine (reckoned_any r).mono ?_; rintro e W1 ⟨rfl, hb⟩; have HB := Lib.hid (HB.out.call hb); clear hb; dsimp only
      repeat' (first | ((with_reducible show Oper.wp _ _ _ _ _ _); refine st_v 3 HB rfl _ _ rfl rfl rfl ?_; clear HB; intro W HB; dsimp only [List.set] at HB; go_simp) | go_values | go_skip | go_guarded | go_step | go_upon)
      exact bodyPost_ret (res_v rfl HB (i := 3) rfl rfl) rfl ⟨rfl, HB.out.bel⟩
    · have h1' : (op == 1) = false := by rw [beq_eq_false_iff_ne]; exact h1
      by_cases h2 : op = 2
      · subst h2; rw [show rkN 2 m s n t = reckX (subD m s n t) from rfl]; have HC := Lib.hid (sub_r g1 g2); generalize subD m s n t = r at *; simp only [drV] at HC; clear g1 g2 h1 h1'; go_enter Tryz.func66, Tryz.ntmps66
        repeat' (first | ((with_reducible show Oper.wp _ _ _ _ _ _); (first | ((first | refine al_v HB rfl ?_ | refine bx_v HB _ rfl rfl ?_); clear HB; (first | (have _t : Nat := g1; clear _t; intro g2 W HB) | (have _t : Nat := g0; clear _t; intro g1 W HB) | intro g0 W HB); go_simp) | ((first | refine ld_v 1 HB rfl _ rfl rfl ?_ | refine ld_v 2 HB rfl _ rfl rfl ?_); go_simp))) | go_values | go_skip | go_guarded | go_step | go_upon)
        refine (HN.out _).mono ?_; rintro e W1 ⟨rfl, hb⟩; have HB := Lib.hid (HB.out.call hb); clear hb; dsimp only
        repeat' (first | ((with_reducible show Oper.wp _ _ _ _ _ _); (first | ((first | refine al_v HB rfl ?_ | refine al_d HB rfl ?_); clear HB; (first | (have _t : Nat := g4; clear _t; intro g5 W HB) | (have _t : Nat := g3; clear _t; intro g4 W HB) | (have _t : Nat := g2; clear _t; intro g3 W HB)); go_simp) | ((first | refine ld_d 1 HB rfl _ rfl rfl ?_ | refine ld_d 2 HB rfl _ rfl rfl ?_); go_simp) | ((first | refine st_v 0 HB rfl _ _ rfl rfl rfl ?_ | refine st_d 1 HB rfl _ _ rfl rfl rfl ?_ | refine st_d 2 HB rfl _ _ rfl rfl rfl ?_); clear HB; intro W HB; dsimp only [List.set] at HB; go_simp))) | go_values | go_skip | go_guarded | go_step | go_upon)
        refine (HC.out _).mono ?_; rintro e W1 ⟨rfl, hb⟩; have HB := Lib.hid (HB.out.call hb); clear hb; dsimp only
        repeat' (first | go_values | go_skip | go_guarded | go_step | go_upon)
        refine (reckoned_any r).mono ?_; rintro e W1 ⟨rfl, hb⟩; have HB := Lib.hid (HB.out.call hb); clear hb; dsimp only
        repeat' (first | ((with_reducible show Oper.wp _ _ _ _ _ _); refine st_v 3 HB rfl _ _ rfl rfl rfl ?_; clear HB; intro W HB; dsimp only [List.set] at HB; go_simp) | go_values | go_skip | go_guarded | go_step | go_upon)
        exact bodyPost_ret (res_v rfl HB (i := 3) rfl rfl) rfl ⟨rfl, HB.out.bel⟩
      · have h2' : (op == 2) = false := by rw [beq_eq_false_iff_ne]; exact h2
        by_cases h3 : op = 3
        · subst h3; rw [show rkN 3 m s n t = reckX (mulD m s n t) from rfl]; have HC := Lib.hid (mul_r g1 g2); generalize mulD m s n t = r at *; simp only [drV] at HC; clear g1 g2 h1 h1' h2 h2'; go_enter Tryz.func66, Tryz.ntmps66
          repeat' (first | ((with_reducible show Oper.wp _ _ _ _ _ _); (first | ((first | refine al_v HB rfl ?_ | refine bx_v HB _ rfl rfl ?_); clear HB; (first | (have _t : Nat := g1; clear _t; intro g2 W HB) | (have _t : Nat := g0; clear _t; intro g1 W HB) | intro g0 W HB); go_simp) | ((first | refine ld_v 1 HB rfl _ rfl rfl ?_ | refine ld_v 2 HB rfl _ rfl rfl ?_); go_simp))) | go_values | go_skip | go_guarded | go_step | go_upon)
          refine (HN.out _).mono ?_; rintro e W1 ⟨rfl, hb⟩; have HB := Lib.hid (HB.out.call hb); clear hb; dsimp only
          repeat' (first | ((with_reducible show Oper.wp _ _ _ _ _ _); (first | ((first | refine al_v HB rfl ?_ | refine al_d HB rfl ?_); clear HB; (first | (have _t : Nat := g4; clear _t; intro g5 W HB) | (have _t : Nat := g3; clear _t; intro g4 W HB) | (have _t : Nat := g2; clear _t; intro g3 W HB)); go_simp) | ((first | refine ld_d 1 HB rfl _ rfl rfl ?_ | refine ld_d 2 HB rfl _ rfl rfl ?_); go_simp) | ((first | refine st_v 0 HB rfl _ _ rfl rfl rfl ?_ | refine st_d 1 HB rfl _ _ rfl rfl rfl ?_ | refine st_d 2 HB rfl _ _ rfl rfl rfl ?_); clear HB; intro W HB; dsimp only [List.set] at HB; go_simp))) | go_values | go_skip | go_guarded | go_step | go_upon)
          refine (HC.out _).mono ?_; rintro e W1 ⟨rfl, hb⟩; have HB := Lib.hid (HB.out.call hb); clear hb; dsimp only
          repeat' (first | go_values | go_skip | go_guarded | go_step | go_upon)
          refine (reckoned_any r).mono ?_; rintro e W1 ⟨rfl, hb⟩; have HB := Lib.hid (HB.out.call hb); clear hb; dsimp only
          repeat' (first | ((with_reducible show Oper.wp _ _ _ _ _ _); refine st_v 3 HB rfl _ _ rfl rfl rfl ?_; clear HB; intro W HB; dsimp only [List.set] at HB; go_simp) | go_values | go_skip | go_guarded | go_step | go_upon)
          exact bodyPost_ret (res_v rfl HB (i := 3) rfl rfl) rfl ⟨rfl, HB.out.bel⟩
        · have h3' : (op == 3) = false := by rw [beq_eq_false_iff_ne]; exact h3
          by_cases h4 : op = 4
          · subst h4; rw [show rkN 4 m s n t = reckX (divX m s n t) from rfl]; have HC := Lib.hid (div_r g1 g2); generalize divX m s n t = r at *; simp only [drV] at HC; clear g1 g2 h1 h1' h2 h2' h3 h3'; go_enter Tryz.func66, Tryz.ntmps66
            repeat' (first | ((with_reducible show Oper.wp _ _ _ _ _ _); (first | ((first | refine al_v HB rfl ?_ | refine bx_v HB _ rfl rfl ?_); clear HB; (first | (have _t : Nat := g1; clear _t; intro g2 W HB) | (have _t : Nat := g0; clear _t; intro g1 W HB) | intro g0 W HB); go_simp) | ((first | refine ld_v 1 HB rfl _ rfl rfl ?_ | refine ld_v 2 HB rfl _ rfl rfl ?_); go_simp))) | go_values | go_skip | go_guarded | go_step | go_upon)
            refine (HN.out _).mono ?_; rintro e W1 ⟨rfl, hb⟩; have HB := Lib.hid (HB.out.call hb); clear hb; dsimp only
            repeat' (first | ((with_reducible show Oper.wp _ _ _ _ _ _); (first | ((first | refine al_v HB rfl ?_ | refine al_d HB rfl ?_); clear HB; (first | (have _t : Nat := g4; clear _t; intro g5 W HB) | (have _t : Nat := g3; clear _t; intro g4 W HB) | (have _t : Nat := g2; clear _t; intro g3 W HB)); go_simp) | ((first | refine ld_d 1 HB rfl _ rfl rfl ?_ | refine ld_d 2 HB rfl _ rfl rfl ?_); go_simp) | ((first | refine st_v 0 HB rfl _ _ rfl rfl rfl ?_ | refine st_d 1 HB rfl _ _ rfl rfl rfl ?_ | refine st_d 2 HB rfl _ _ rfl rfl rfl ?_); clear HB; intro W HB; dsimp only [List.set] at HB; go_simp))) | go_values | go_skip | go_guarded | go_step | go_upon)
            refine (HC.out _).mono ?_; rintro e W1 ⟨rfl, hb⟩; have HB := Lib.hid (HB.out.call hb); clear hb; dsimp only
            repeat' (first | go_values | go_skip | go_guarded | go_step | go_upon)
            refine (reckoned_any r).mono ?_; rintro e W1 ⟨rfl, hb⟩; have HB := Lib.hid (HB.out.call hb); clear hb; dsimp only
            repeat' (first | ((with_reducible show Oper.wp _ _ _ _ _ _); refine st_v 3 HB rfl _ _ rfl rfl rfl ?_; clear HB; intro W HB; dsimp only [List.set] at HB; go_simp) | go_values | go_skip | go_guarded | go_step | go_upon)
            exact bodyPost_ret (res_v rfl HB (i := 3) rfl rfl) rfl ⟨rfl, HB.out.bel⟩
          · have h4' : (op == 4) = false := by rw [beq_eq_false_iff_ne]; exact h4
            rw [show rkN op m s n t = powX m s n t by unfold rkN; rw [if_neg h1, if_neg h2, if_neg h3, if_neg h4]]; have HC := Lib.hid (fun W : World => fPower_any (w := W) g1 g2); generalize powX m s n t = r at *; clear g1 g2 h1 h2 h3 h4; go_enter Tryz.func66, Tryz.ntmps66
            repeat' (first | ((with_reducible show Oper.wp _ _ _ _ _ _); (first | ((first | refine al_v HB rfl ?_ | refine bx_v HB _ rfl rfl ?_); clear HB; (first | (have _t : Nat := g1; clear _t; intro g2 W HB) | (have _t : Nat := g0; clear _t; intro g1 W HB) | intro g0 W HB); go_simp) | ((first | refine ld_v 1 HB rfl _ rfl rfl ?_ | refine ld_v 2 HB rfl _ rfl rfl ?_); go_simp))) | go_values | go_skip | go_guarded | go_step | go_upon)
            refine (HN.out _).mono ?_; rintro e W1 ⟨rfl, hb⟩; have HB := Lib.hid (HB.out.call hb); clear hb; dsimp only
            repeat' (first | ((with_reducible show Oper.wp _ _ _ _ _ _); (first | ((first | refine al_v HB rfl ?_ | refine al_d HB rfl ?_); clear HB; (first | (have _t : Nat := g4; clear _t; intro g5 W HB) | (have _t : Nat := g3; clear _t; intro g4 W HB) | (have _t : Nat := g2; clear _t; intro g3 W HB)); go_simp) | ((first | refine ld_d 1 HB rfl _ rfl rfl ?_ | refine ld_d 2 HB rfl _ rfl rfl ?_); go_simp) | ((first | refine st_v 0 HB rfl _ _ rfl rfl rfl ?_ | refine st_d 1 HB rfl _ _ rfl rfl rfl ?_ | refine st_d 2 HB rfl _ _ rfl rfl rfl ?_); clear HB; intro W HB; dsimp only [List.set] at HB; go_simp))) | go_values | go_skip | go_guarded | go_step | go_upon)
            refine (HC.out _).mono ?_; rintro e W1 ⟨rfl, hb⟩; have HB := Lib.hid (HB.out.call hb); clear hb; dsimp only
            repeat' (first | ((with_reducible show Oper.wp _ _ _ _ _ _); refine st_v 3 HB rfl _ _ rfl rfl rfl ?_; clear HB; intro W HB; dsimp only [List.set] at HB; go_simp) | go_values | go_skip | go_guarded | go_step | go_upon)
            exact bodyPost_ret (res_v rfl HB (i := 3) rfl rfl) rfl ⟨rfl, HB.out.bel⟩
end Go.Proofs.YtngkolcpbgibcaaGreatDoor
