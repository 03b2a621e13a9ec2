/- fun.sum by its contract. Condition: values may be. -/
import Derived.Test.YtngkolcpbgibcaaGreatDoorN1
import Derived.Test.YtngkolcpbgibcaaGreatDoorF9m
set_option linter.unusedVariables false
set_option linter.unusedSimpArgs false
namespace Go.Proofs.YtngkolcpbgibcaaGreatDoor
open Go.RowKit
theorem all_call {w : World} {A : Option Addr} {c : Nat} {args : List (Bool × List VX)} (h : RowF argF w (· < w.heap.size) A args.length args) (hal : args.length ≤ 1000000) (hvl : ∀ a ∈ args, a.2.length ≤ 1000000) (hP : ∀ a ∈ args, ∀ x ∈ a.2, PV x) {W : World} (hW : Below w.heap.size w W) :
    Calls Tryz.prog 104 #[.slice A args.length c] W fun e W' => nsV (nsX (pickL [1] args)) W W' e :=
  allNumbers_any ((h.below hW (Nat.le_refl _)).mono hW.size) hal hvl hP
theorem gd_len {n : Nat} (h : n ≤ 1000000000000) : Gd (n : Int) 0 := ⟨by omega, by omega, by decide, .inl rfl⟩
set_option maxRecDepth 20000 in
set_option maxHeartbeats 8000000 in
theorem sum_any {w : World} {op : Int} {A : Option Addr} {c : Nat} {args : List (Bool × List VX)} (h : RowF argF w (· < w.heap.size) A args.length args) (hal : args.length ≤ 1000000) (hvl : ∀ a ∈ args, a.2.length ≤ 1000000) (hP : ∀ a ∈ args, ∀ x ∈ a.2, PV x) (hG : ∀ x ∈ pickL [1] args, GdX x) :
    Calls Tryz.prog 41 #[.int .i64 op, .slice A args.length c] w fun e W => e = .returned (.agg (vc (sumN op (nsX (pickL [1] args)))).toArray) ∧ Below w.heap.size w W := by
  have HA := Lib.hid (fun (W : World) (hW : Below w.heap.size w W) => all_call (c := c) h hal hvl hP hW); have HB := Lib.hid (BX.start w); have hg0 := Lib.hid (fun d => nsX_gd (d := d) hG); have hpl : Hid ((pickL [1] args).length ≤ 1000000000000) := Lib.hid (Nat.le_trans (pickL_len (ks := [1]) hvl) (by omega)); clear h hvl hP hG
  cases hns : nsX (pickL [1] args) with
  | no v =>
    rw [hns] at HA; simp only [nsV] at HA; simp only [sumN]; clear hns; go_enter Tryz.func41, Tryz.ntmps41
    repeat' (first | ((with_reducible show Oper.wp _ _ _ _ _ _); refine al_v HB rfl ?_; clear HB; intro g0 W HB; go_simp) | go_values | go_skip | go_guarded | go_step | go_upon)
    refine (HA.out _ HB.out.bel).mono ?_; rintro e W1 ⟨rfl, hb⟩; have HB := Lib.hid (HB.out.call hb); clear hb; dsimp only
    repeat' (first | ((with_reducible show Oper.wp _ _ _ _ _ _); (first | (refine al_v HB rfl ?_; clear HB; intro g1 W HB; go_simp) | (refine ld_v 0 HB rfl _ rfl rfl ?_; go_simp) | ((first | refine st_v 0 HB rfl _ _ rfl rfl rfl ?_ | refine st_v 1 HB rfl _ _ rfl rfl rfl ?_); clear HB; intro W HB; dsimp only [List.set] at HB; go_simp))) | go_values | go_skip | go_guarded | go_step | go_upon)
    exact bodyPost_ret (res_v rfl HB (i := 1) rfl rfl) rfl ⟨rfl, HB.out.bel⟩
  | ok ds =>
    have hg := hg0.out ds hns
    have hdl : ds.length ≤ 1000000000000 := by
      have h1 := nsX_len hns; have h2 := hpl.out; omega
    rw [hns] at HA; simp only [nsV] at HA; simp only [sumN]; clear hns hg0 hal; go_enter Tryz.func41, Tryz.ntmps41
    repeat' (first | ((with_reducible show Oper.wp _ _ _ _ _ _); refine al_v HB rfl ?_; clear HB; intro g0 W HB; go_simp) | go_values | go_skip | go_guarded | go_step | go_upon)
    refine (HA.out _ HB.out.bel).mono ?_; rintro e W1 ⟨A', c', rows, rfl, hc', hr, hb⟩; have HB := Lib.hid (HB.out.tail hb hr); have HR := Lib.hid hr.rd; clear hb hr HA; dsimp only
    repeat' (first | ((with_reducible show Oper.wp _ _ _ _ _ _); (first | (refine al_v HB rfl ?_; clear HB; intro g1 W HB; go_simp) | (refine st_v 0 HB rfl _ _ rfl rfl rfl ?_; clear HB; intro W HB; dsimp only [List.set] at HB; go_simp) | (apply stop_bd; exact rfl))) | go_values | go_skip | go_guarded | go_step | go_upon)
    refine Lib.hid ?_; refine wp_b (v := .agg (dc 0 (0 : Nat)).toArray) (by kernel_rfl) ?_; go_simp
    repeat' (first | ((with_reducible show Oper.wp _ _ _ _ _ _); (first | (refine al_d HB rfl ?_; clear HB; intro g2 W HB; go_simp) | (refine st_d 0 HB rfl _ _ rfl rfl rfl ?_; clear HB; intro W HB; dsimp only [List.set] at HB; go_simp))) | go_values | go_skip | go_guarded | go_step | go_upon)
    have HM : Hid (∀ (k : Nat) (d : DP) (W : World), (smK ds k).e = 0 → ds[k]? = some d → Calls Tryz.prog 105 #[.agg (dc (smK ds k).m (smK ds k).s).toArray, .agg (dc d.1 d.2).toArray] W fun e W' => e = .returned (.tuple #[.agg (dc (smK ds (k + 1)).m ((smK ds (k + 1)).s : Nat)).toArray, .int .i64 ((smK ds (k + 1)).e : Nat)]) ∧ Below W.heap.size W W') := Lib.hid fun k d W h0 hd => by
      rw [smK_next h0 hd]; exact add_r (smK_gd hg k h0) (hg d (List.mem_of_getElem? hd)) W
    have HGd := Lib.hid hg; clear hg
    go_loopw [24] (fun i wr => ∃ k : Nat, k ≤ ds.length ∧ i = .int .i64 k ∧ (smK ds k).e = 0 ∧ Hid (BX w ((g2, 30, dc (smK ds k).m ((smK ds k).s : Nat)) :: (g1, 32, vc .blank) :: (g0, 32, vc .blank) :: rows) wr)) (fun i _ => ds.length - (intOf i).toNat)
    case atStart => exact ⟨0, Nat.zero_le _, rfl, rfl, HB⟩
    case round =>
      clear HB; obtain ⟨k, hk, rfl, h0, HB⟩ := hrel
      by_cases hlt : k < ds.length
      · have hlt' : (k : Int) < (ds.length : Int) := by omega
        have hk0 : (0 : Int) ≤ (k : Int) := by omega
        obtain ⟨⟨m, s⟩, hd⟩ : ∃ d, ds[k]? = some d := ⟨_, List.getElem?_eq_getElem hlt⟩
        obtain ⟨aa, rfl, hc⟩ := HR.out wr (fun b hb => HB.out.bk b (List.mem_cons_of_mem _ (List.mem_cons_of_mem _ (List.mem_cons_of_mem _ hb)))) k _ hd; have HC := Lib.hid (fun W => HM.out k _ W h0 hd); have HQ := Lib.hid hc; clear hc hd
        by_cases he : (smK ds (k + 1)).e = 0
        · simp only [he] at HC; have HE := Lib.hid he; clear he h0
          repeat' (first | ((with_reducible show Oper.wp _ _ _ _ _ _); refine stop_ld (ty := 30) _ rfl ?_) | go_values | go_skip | go_guarded | go_step | go_upon)
          refine Lib.hid ?_; refine ldm_d m (s : Nat) _ rfl rfl HQ.out ?_; go_simp
          repeat' (first | ((with_reducible show Oper.wp _ _ _ _ _ _); (first | (refine al_d HB rfl ?_; clear HB; intro g3 W HB; go_simp) | ((first | refine ld_d 0 HB rfl _ rfl rfl ?_ | refine ld_d 1 HB rfl _ rfl rfl ?_); go_simp) | (refine st_d 0 HB rfl _ _ rfl rfl rfl ?_; clear HB; intro W HB; dsimp only [List.set] at HB; go_simp))) | go_values | go_skip | go_guarded | go_step | go_upon)
          refine (HC.out _).mono ?_; rintro e W1 ⟨rfl, hb⟩; have HB := Lib.hid (HB.out.call hb); clear hb; dsimp only
          repeat' (first | ((with_reducible show Oper.wp _ _ _ _ _ _); refine st_d 1 HB rfl _ _ rfl rfl rfl ?_; clear HB; intro W HB; dsimp only [List.set] at HB; go_simp) | go_values | go_skip | go_guarded | go_step | go_upon)
          have HB := Lib.hid (HB.out.some_ (List.sublist_cons_self _ _))
          go_roundw
          case rel => exact ⟨k + 1, by omega, by go_num, HE.out, HB⟩
          case measure => simp [intOf]; omega
        · have hst : smK ds ds.length = smK ds (k + 1) := smK_stop he _ (by omega); have HV : Hid (sumX op ds = reckX (smK ds (k + 1))) := Lib.hid (by unfold sumX; rw [hst, if_neg he]); have he' : (((smK ds (k + 1)).e : Nat) : Int) ≠ 0 := by omega
          clear he hst h0; generalize smK ds (k + 1) = r at *
          repeat' (first | ((with_reducible show Oper.wp _ _ _ _ _ _); refine stop_ld (ty := 30) _ rfl ?_) | go_values | go_skip | go_guarded | go_step | go_upon)
          refine Lib.hid ?_; refine ldm_d m (s : Nat) _ rfl rfl HQ.out ?_; go_simp
          repeat' (first | ((with_reducible show Oper.wp _ _ _ _ _ _); (first | (refine al_d HB rfl ?_; clear HB; intro g3 W HB; go_simp) | ((first | refine ld_d 0 HB rfl _ rfl rfl ?_ | refine ld_d 1 HB rfl _ rfl rfl ?_); go_simp) | (refine st_d 0 HB rfl _ _ rfl rfl rfl ?_; clear HB; intro W HB; dsimp only [List.set] at HB; go_simp))) | go_values | go_skip | go_guarded | go_step | go_upon)
          refine (HC.out _).mono ?_; rintro e W1 ⟨rfl, hb⟩; have HB := Lib.hid (HB.out.call hb); clear hb; dsimp only
          repeat' (first | ((with_reducible show Oper.wp _ _ _ _ _ _); (first | (refine ld_d 1 HB rfl _ rfl rfl ?_; go_simp) | (refine st_d 1 HB rfl _ _ rfl rfl rfl ?_; clear HB; intro W HB; dsimp only [List.set] at HB; go_simp))) | go_values | go_skip | go_guarded | go_step | go_upon)
          refine (reckoned_any r).mono ?_; rintro e W1 ⟨rfl, hb⟩; have HB := Lib.hid (HB.out.call hb); clear hb; dsimp only
          repeat' (first | ((with_reducible show Oper.wp _ _ _ _ _ _); refine st_v 3 HB rfl _ _ rfl rfl rfl ?_; clear HB; intro W HB; dsimp only [List.set] at HB; go_simp) | go_values | go_skip | go_guarded | go_step | go_upon)
          rw [HV.out]; exact bodyPost_ret (res_v rfl HB (i := 3) rfl rfl) rfl ⟨rfl, HB.out.bel⟩
      · obtain rfl : k = ds.length := by omega
        have hB2 := HB.out.some_ (show [(g2, 30, dc (smK ds ds.length).m ((smK ds ds.length).s : Nat)), (g1, 32, vc .blank), (g0, 32, vc .blank)].Sublist _ from .cons_cons _ (.cons_cons _ (.cons_cons _ (List.nil_sublist _)))); clear HB; have HB := Lib.hid hB2; clear hB2
        by_cases h4 : op = 4
        · subst h4; have HC := Lib.hid (fun W : World => div_r (smK_gd HGd.out _ h0) (gd_len hdl) W); have HV : Hid (sumX 4 ds = reckX (divX (smK ds ds.length).m (smK ds ds.length).s ds.length 0)) := Lib.hid (by unfold sumX; rw [if_pos h0, if_pos rfl]); generalize divX (smK ds ds.length).m (smK ds ds.length).s ds.length 0 = q at *; simp only [drV] at HC; clear h0 HM; generalize smK ds ds.length = r at *
          repeat' (first | go_values | go_skip | go_guarded | go_step | go_upon)
          refine wp_region_phases (S := (SBN w [[(g2, 30, dc r.m (r.s : Nat)), (g1, 32, vc .blank), (g0, 32, vc .blank)], [(g2, 30, dc r.m (r.s : Nat)), (g1, 32, vc .blank), (g0, 32, vc (reckX q))]])) (E := (fun _ _ => True)) [8] [(4, Is (.pointer (some ⟨g0, 0, none⟩))), (5, Is (.slice A' ds.length c')), (8, Is (.pointer (some ⟨g2, 0, none⟩)))] [(42, Is (.agg (dc r.m (r.s : Nat)).toArray)), (43, Is (.slice A' ds.length c')), (44, Is (.int .i64 (ds.length : Nat))), (45, Is (.agg (dc (ds.length : Nat) (0 : Nat)).toArray)), (46, Is (.tuple #[.agg (dc q.m (q.s : Nat)).toArray, .int .i64 (q.e : Nat)])), (47, Is (.agg (dc q.m (q.s : Nat)).toArray)), (48, Is (.int .i64 (q.e : Nat))), (49, Is (.agg (vc (reckX q)).toArray))]
            [.op [8] none, .op [5] none, .op [43] none, .op [44] none, .op [42, 45] none, .op [46] none, .op [46] none, .op [47, 48] none, .phase 0 [4, 49] []] (by as_aux_lemma => kernel_rfl) ?_ ?_ ?_ ?_ ?_ ⟨stable_is _ _, stable_is _ _, stable_is _ _, stable_is _ _, stable_is _ _, stable_is _ _, stable_is _ _, stable_is _ _, stable_is _ _, stable_is _ _, stable_is _ _, trivial⟩ ?_ HB.out.drew ?_ ?_
          · as_aux_lemma => kernel_rfl
          · as_aux_lemma => kernel_rfl
          · as_aux_lemma => kernel_rfl
          · as_aux_lemma => kernel_rfl
          · as_aux_lemma => kernel_rfl
          · exact ⟨rfl, rfl, rfl, trivial⟩
          · refine ⟨?_, ?_, ?_, ?_, ?_, ?_, ?_, ?_, ?_, trivial⟩
            · as_aux_lemma => intro vals a W hS hL; have e8 : a.tmps.getD 8 undef = .pointer (some ⟨g2, 0, none⟩) := hL.1; clear hL; refine lands_v (run_ldg rtDec (hS.get 0 ⟨rfl, rfl, trivial⟩) (.tmp 8) rfl e8) ?_; exact ⟨dstY (by rfl), hS, trivial⟩
            · as_aux_lemma => intro vals a W hS hL; have e5 : a.tmps.getD 5 undef = .slice A' ds.length c' := hL.1; clear hL; go_simp; exact ⟨dstY (by rfl), hS, trivial⟩
            · as_aux_lemma => intro vals a W hS hL; have e43 : a.tmps.getD 43 undef = .slice A' ds.length c' := hL.1; clear hL; go_simp; exact ⟨dstY (by rfl), hS, trivial⟩
            · as_aux_lemma => intro vals a W hS hL; have e44 : a.tmps.getD 44 undef = .int .i64 (ds.length : Nat) := hL.1; clear hL; go_simp; refine (fInt (w := W) _).mono ?_; rintro e W2 ⟨rfl, hb⟩; exact ⟨_, rfl, dstY (by rfl), hS.call hb, trivial⟩
            · as_aux_lemma => intro vals a W hS hL; have e42 : a.tmps.getD 42 undef = .agg (dc r.m (r.s : Nat)).toArray := hL.1; have e45 : a.tmps.getD 45 undef = .agg (dc (ds.length : Nat) (0 : Nat)).toArray := hL.2.1; clear hL; go_simp; refine (HC.out W).mono ?_; rintro e W2 ⟨rfl, hb⟩; exact ⟨_, rfl, dstY (by rfl), hS.call hb, trivial⟩
            · as_aux_lemma => intro vals a W hS hL; have e46 : a.tmps.getD 46 undef = .tuple #[.agg (dc q.m (q.s : Nat)).toArray, .int .i64 (q.e : Nat)] := hL.1; clear hL; go_simp; exact ⟨dstY (by rfl), hS, trivial⟩
            · as_aux_lemma => intro vals a W hS hL; have e46 : a.tmps.getD 46 undef = .tuple #[.agg (dc q.m (q.s : Nat)).toArray, .int .i64 (q.e : Nat)] := hL.1; clear hL; go_simp; exact ⟨dstY (by rfl), hS, trivial⟩
            · as_aux_lemma => intro vals a W hS hL; have e47 : a.tmps.getD 47 undef = .agg (dc q.m (q.s : Nat)).toArray := hL.1; have e48 : a.tmps.getD 48 undef = .int .i64 (q.e : Nat) := hL.2.1; clear hL; go_simp; refine (reckoned_any (w := W) q).mono ?_; rintro e W2 ⟨rfl, hb⟩; exact ⟨_, rfl, dstY (by rfl), hS.call hb, trivial⟩
            · as_aux_lemma =>
                intro a W vals hv hS hL hp; have e4 : a.tmps.getD 4 undef = .pointer (some ⟨g0, 0, none⟩) := hL.1; have e49 : a.tmps.getD 49 undef = .agg (vc (reckX q)).toArray := hL.2.1; clear hL
                match vals, hv, hS with
                | [], _, hS =>
                  refine lands_stg (vs := vc (reckX q)) rtV (vc_one _) (i := 2) (show BX w [(g2, 30, dc r.m (r.s : Nat)), (g1, 32, vc .blank), (g0, 32, vc .blank)] W from hS) rfl ((vc_len _).trans (vc_len _).symm) (.tmp 4) (.tmp 49) rfl e4 e49 fun W2 h2 => ?_; exact ⟨h2, trivial, trivial⟩
          · intro a W vals hd hsz hT hF hv hP hS
            obtain ⟨v0, rfl⟩ : ∃ v0, vals = [v0] := by
              match vals, hv with
              | [xv0], _ => exact ⟨xv0, rfl⟩
            have HB : Hid (BX w [(g2, 30, dc r.m (r.s : Nat)), (g1, 32, vc .blank), (g0, 32, vc (reckX q))] W) := Lib.hid hS; have e4 : a.tmps.getD 4 undef = .pointer (some ⟨g0, 0, none⟩) := hT 4 (by simp); have e5 : a.tmps.getD 5 undef = .slice A' ds.length c' := hT 5 (by simp); have e8 : a.tmps.getD 8 undef = .pointer (some ⟨g2, 0, none⟩) := hT 8 (by simp); clear hT hF hP hS; rw [act_lit 52 a hd hsz]; simp only [List.range, List.range.loop, List.map, e4, e5, e8]; clear e4 e5 e8 hsz hd; generalize a.tmps.getD 0 undef = y0, a.tmps.getD 1 undef = y1, a.tmps.getD 2 undef = y2, a.tmps.getD 3 undef = y3, a.tmps.getD 6 undef = y6, a.tmps.getD 7 undef = y7, a.tmps.getD 9 undef = y9, a.tmps.getD 10 undef = y10, a.tmps.getD 11 undef = y11, a.tmps.getD 12 undef = y12, a.tmps.getD 13 undef = y13, a.tmps.getD 14 undef = y14, a.tmps.getD 15 undef = y15, a.tmps.getD 16 undef = y16, a.tmps.getD 17 undef = y17, a.tmps.getD 18 undef = y18, a.tmps.getD 19 undef = y19, a.tmps.getD 20 undef = y20, a.tmps.getD 21 undef = y21, a.tmps.getD 22 undef = y22, a.tmps.getD 23 undef = y23, a.tmps.getD 24 undef = y24, a.tmps.getD 25 undef = y25, a.tmps.getD 26 undef = y26, a.tmps.getD 27 undef = y27, a.tmps.getD 28 undef = y28, a.tmps.getD 29 undef = y29, a.tmps.getD 30 undef = y30, a.tmps.getD 31 undef = y31, a.tmps.getD 32 undef = y32, a.tmps.getD 33 undef = y33, a.tmps.getD 34 undef = y34, a.tmps.getD 35 undef = y35, a.tmps.getD 36 undef = y36, a.tmps.getD 37 undef = y37, a.tmps.getD 38 undef = y38, a.tmps.getD 39 undef = y39, a.tmps.getD 40 undef = y40, a.tmps.getD 41 undef = y41, a.tmps.getD 42 undef = y42, a.tmps.getD 43 undef = y43, a.tmps.getD 44 undef = y44, a.tmps.getD 45 undef = y45, a.tmps.getD 46 undef = y46, a.tmps.getD 47 undef = y47, a.tmps.getD 48 undef = y48, a.tmps.getD 49 undef = y49, a.tmps.getD 50 undef = y50, a.tmps.getD 51 undef = y51
            repeat' (first | go_values | go_skip | go_guarded | go_step | go_upon)
            rw [HV.out]; exact bodyPost_ret (res_v rfl HB (i := 2) rfl rfl) rfl ⟨rfl, HB.out.bel⟩
        · have h4' : (op == 4) = false := by rw [beq_eq_false_iff_ne]; exact h4
          have HV : Hid (sumX op ds = .num (smK ds ds.length).m (smK ds ds.length).s) := Lib.hid (by unfold sumX; rw [if_pos h0, if_neg h4]); clear h0 HM h4; generalize smK ds ds.length = r at *
          repeat' (first | ((with_reducible show Oper.wp _ _ _ _ _ _); refine ld_d 0 HB rfl _ rfl rfl ?_; go_simp) | go_values | go_skip | go_guarded | go_step | go_upon)
          refine (fNumber_any r.m r.s).mono ?_; rintro e W1 ⟨rfl, hb⟩; have HB := Lib.hid (HB.out.call hb); clear hb; dsimp only
          repeat' (first | ((with_reducible show Oper.wp _ _ _ _ _ _); refine st_v 2 HB rfl _ _ rfl rfl rfl ?_; clear HB; intro W HB; dsimp only [List.set] at HB; go_simp) | go_values | go_skip | go_guarded | go_step | go_upon)
          rw [HV.out]; exact bodyPost_ret (res_v rfl HB (i := 2) rfl rfl) rfl ⟨rfl, HB.out.bel⟩
end Go.Proofs.YtngkolcpbgibcaaGreatDoor
