/- fun.count by its contract. Condition: values may be. -/
import Derived.Test.YtngkolcpbgibcaaGreatDoorN1
set_option linter.unusedVariables false
set_option linter.unusedSimpArgs false
namespace Go.Proofs.YtngkolcpbgibcaaGreatDoor
open Go.RowKit Go.Shelf
attribute [local go_sem] Oper.semAt_some
theorem cnt_snoc {pre : List VX} {x : VX} : (List.filter isNB (pre ++ [x])).length = (List.filter isNB pre).length + (if isNB x = true then 1 else 0) := by
  rw [List.filter_append, List.length_append]
  congr 1
  by_cases h : isNB x = true
  · simp [h]
  · simp [h]
set_option maxRecDepth 20000 in
set_option maxHeartbeats 8000000 in
theorem count_any {w : World} {A : Option Addr} {c : Nat} {args : List (Bool × List VX)} (h : RowF argF w (· < w.heap.size) A args.length args) (hal : args.length ≤ 1000000) (hvl : ∀ a ∈ args, a.2.length ≤ 1000000) (hP : ∀ a ∈ args, ∀ x ∈ a.2, PV x) :
    Calls Tryz.prog 43 #[.slice A args.length c] w fun e W => e = .returned (.agg (vc (cntX (pickL [1] args))).toArray) ∧ Below w.heap.size w W := by
  refine (callsIn_wide (n := 3)).1 (callsIn_of_wp_marks Tryz.func43 rfl trivial ?_ rfl); refine wpIn_wide.2 ?_; simp only [Tryz.ntmps43, List.size_toArray, List.length_cons, List.length_nil, Nat.reduceAdd, Nat.reduceSub, Array.replicate_succ, Array.replicate_zero, List.push_toArray, List.append_toArray, List.nil_append, List.cons_append]; have HB := Lib.hid (BX.start w)
  repeat' (first | ((with_reducible show Oper.wp _ _ _ _ _ _); (first | ((first | refine al_v HB rfl ?_ | refine als_j HB rfl ?_); clear HB; (first | (have _t : Nat := g0; clear _t; intro g1 W HB) | intro g0 W HB); go_simp) | (refine sts_j 0 HB rfl _ _ rfl rfl rfl ?_; clear HB; intro W HB; dsimp only [List.set] at HB; go_simp) | (apply stop_bs; exact rfl))) | go_values | go_skip | go_guarded | go_step | go_upon)
  refine Lib.hid ?_; refine bs_g (n := 1) (e := 3) HB [.int .i64 1] (by kernel_rfl) ?_; intro g2 W0 hlt HB0; go_simp
  repeat' (first | go_values | go_skip | go_guarded | go_step | go_upon)
  refine (picked_any A (some ⟨g2, 0, none⟩) args.length c 1 1).mono ?_; rintro e WL ⟨rfl, hW1⟩; have HS := Lib.hid (pk_start (ks := [1]) HB.out HB0.out hW1 h rfl hlt); clear HB0 hW1 hlt HB; dsimp only; generalize W0.heap.size = Ba at *; go_simp
  repeat' (first | go_values | go_skip | go_guarded | go_step | go_upon)
  refine range_pick hal hvl (by decide) hP rfl HS.out.at_
    (fun pre W => BX w [(g1, 2, [.int .i64 ((pre.filter isNB).length : Nat)]), (g0, 32, vc .blank)] W)
    (fun _ _ => False)
    ?hI ?hIx ?h0 ?act ?assign ?body ?done ?stop
  case assign =>
    intro l x W K hK; have HB := Lib.hid (BX.start W)
    repeat' (first | ((with_reducible show Oper.wpIn _ _ _ _ _ _ _ _); refine in_wp (fun c h => by cases h) ?_; (first | (refine al_v HB rfl ?_; clear HB; intro g3 W HB; go_simp) | (refine st_v 0 HB rfl _ _ rfl rfl rfl ?_; clear HB; intro W HB; dsimp only [List.set] at HB; go_simp))) | go_values | gi_guarded | gi_step | gi_upon)
    exact hK g3 _ (by exact HB.out.lo _ (List.mem_cons_self ..)) (HB.out.get (i := 0) rfl) (Keep.of_below HB.out.bel fun i hi hb => by omega)
  case h0 => exact HS.out.bx
  case hI =>
    intro pre W W' h1 hk; exact h1.keep (by have := HS.out.at_.lt; omega) hk
  case hIx => exact fun _ _ _ h _ => h
  case stop => exact fun _ _ _ _ _ h => h.elim
  case body =>
    intro l pre x Bx W hi hbx hB hWs hpv hlen; have HX := Lib.hid hi; have HBx := Lib.hid hbx; have HB := Lib.hid (BX.start W)
    have hN : ((pre.filter isNB).length : Int) ≤ 1000000000000 := by
      have h1 := List.length_filter_le isNB pre; have h2 := pickL_len (ks := [1]) hvl; have h4 : args.length * 1000000 ≤ 1000000000000 := by omega
      omega
    have HS1 := Lib.hid (cnt_snoc (pre := pre) (x := x)); clear hi hbx hlen hvl hal hP h; obtain ⟨N, hNe⟩ : ∃ N, (pre.filter isNB).length = N := ⟨_, rfl⟩
    rw [hNe] at HX hN HS1; clear hNe
    cases hn : numX x with
    | no y =>
      have HNu := Lib.hid (number_no hpv.2 hn); have HV : Hid ((List.filter isNB (pre ++ [x])).length = N) := Lib.hid (by rw [HS1.out, if_neg (by unfold isNB; rw [hn]; simp), Nat.add_zero]); clear hpv hn HS1 hN
      repeat' (first | ((with_reducible show Oper.wpIn _ _ _ _ _ _ _ _); refine in_wp (fun c h => by cases h) ?_; refine stop_ld (ty := 32) _ rfl ?_) | go_values | gi_guarded | gi_step | gi_upon)
      refine Lib.hid ?_; refine ldm_v x _ rfl rfl (bk_q HBx.out) ?_; go_simp
      repeat' (first | go_values | gi_guarded | gi_step | gi_upon)
      refine ⟨trivial, (CallsIn.inRound l (callsIn_wide.2 (HNu.out _))).mono ?_⟩; rintro e W1 ⟨rfl, hb⟩; have HB := Lib.hid (HB.out.call hb); clear hb; dsimp only
      repeat' (first | ((with_reducible show Oper.wpIn _ _ _ _ _ _ _ _); refine in_wp (fun c h => by cases h) ?_; (first | ((first | refine al_v HB rfl ?_ | refine al_d HB rfl ?_); clear HB; (first | (have _t : Nat := g3; clear _t; intro g4 W HB) | (have _t : Nat := g2; clear _t; intro g3 W HB)); go_simp) | ((first | refine st_v 0 HB rfl _ _ rfl rfl rfl ?_ | refine st_d 1 HB rfl _ _ rfl rfl rfl ?_); clear HB; intro W HB; dsimp only [List.set] at HB; go_simp))) | go_values | gi_guarded | gi_step | gi_upon)
      have hl := HS.out.at_.lt; exact ⟨rk_below HB.out.bel (by omega) hl.1, by dsimp only; rw [HV.out]; exact HX.out.call HB.out.bel⟩
    | ok m s =>
      have HNu := Lib.hid (number_ok hpv.2 hn); have HV : Hid ((List.filter isNB (pre ++ [x])).length = N + 1) := Lib.hid (by rw [HS1.out, if_pos (by unfold isNB; rw [hn])]); clear hpv hn HS1
      repeat' (first | ((with_reducible show Oper.wpIn _ _ _ _ _ _ _ _); refine in_wp (fun c h => by cases h) ?_; refine stop_ld (ty := 32) _ rfl ?_) | go_values | gi_guarded | gi_step | gi_upon)
      refine Lib.hid ?_; refine ldm_v x _ rfl rfl (bk_q HBx.out) ?_; go_simp
      repeat' (first | go_values | gi_guarded | gi_step | gi_upon)
      refine ⟨trivial, (CallsIn.inRound l (callsIn_wide.2 (HNu.out _))).mono ?_⟩; rintro e W1 ⟨rfl, hb⟩; have HB := Lib.hid (HB.out.call hb); clear hb; dsimp only
      repeat' (first | ((with_reducible show Oper.wpIn _ _ _ _ _ _ _ _); refine in_wp (fun c h => by cases h) ?_; (first | ((first | refine al_v HB rfl ?_ | refine al_d HB rfl ?_); clear HB; (first | (have _t : Nat := g3; clear _t; intro g4 W HB) | (have _t : Nat := g2; clear _t; intro g3 W HB)); go_simp) | ((first | refine st_v 0 HB rfl _ _ rfl rfl rfl ?_ | refine st_d 1 HB rfl _ _ rfl rfl rfl ?_); clear HB; intro W HB; dsimp only [List.set] at HB; go_simp) | refine stop_ld (ty := 2) _ rfl ?_)) | go_values | gi_guarded | gi_step | gi_upon)
      have HX1 := Lib.hid (HX.out.call HB.out.bel); refine Lib.hid ?_; refine lfm_j1 _ rfl rfl (by exact HX1.out.cell (i := 0) rfl 0) ?_; go_simp
      repeat' (first | ((with_reducible show Oper.wpIn _ _ _ _ _ _ _ _); refine in_wp (fun c h => by cases h) ?_; refine stop_st (ty := 2) _ _ rfl ?_) | go_values | gi_guarded | gi_step | gi_upon)
      refine Lib.hid ?_; refine stk_j 0 HX1 rfl _ _ rfl rfl rfl ?_; intro W3 HX3 hK3; have HK3 := Lib.hid hK3; clear hK3; go_simp
      repeat' (first | go_values | gi_guarded | gi_step | gi_upon)
      have hl := HS.out.at_.lt; have hs := HB.out.bel.size; exact ⟨(rk_below HB.out.bel (by omega) hl.1).trans (rk_keep HK3.out (by omega) (fun i hi => by subst hi; exact HX.out.lo (i, _, _) (List.mem_cons_self ..)) (fun i hi => by subst hi; exact .inl (HS.out.old (i, _, _) (List.mem_cons_self ..))) hl.1), by dsimp only; rw [HV.out]; exact HX3.out⟩
  case done =>
    intro D W hD hi hK; have HB := Lib.hid hi; have HD := Lib.hid hK; clear hi hK; obtain ⟨N, hN⟩ : ∃ N, (List.filter isNB (pickL [1] args)).length = N := ⟨_, rfl⟩
    have HV : Hid (cntX (pickL [1] args) = .num (N : Nat) 0) := Lib.hid (by unfold cntX; rw [hN]); rw [hN] at HB; clear hN
    repeat' (first | ((with_reducible show Oper.wp _ _ _ _ _ _); refine lfs_j 0 HB rfl _ rfl rfl ?_; go_simp) | go_values | go_skip | go_guarded | go_step | go_upon)
    refine (fInt (N : Nat)).mono ?_; rintro e W1 ⟨rfl, hb⟩; have HB := Lib.hid (HB.out.call hb); have HD := Lib.hid (belowD HD.out hb); clear hb; dsimp only
    repeat' (first | go_values | go_skip | go_guarded | go_step | go_upon)
    refine (fNumber_any (N : Nat) 0).mono ?_; rintro e W1 ⟨rfl, hb⟩; have HB := Lib.hid (HB.out.call hb); have HD := Lib.hid (belowD HD.out hb); clear hb; dsimp only
    repeat' (first | ((with_reducible show Oper.wp _ _ _ _ _ _); refine stop_st (ty := 32) _ _ rfl ?_) | go_values | go_skip | go_guarded | go_step | go_upon)
    refine Lib.hid ?_; refine stk_v 1 HB rfl _ _ rfl rfl rfl ?_; intro W2 hB2 hK2; have HD := Lib.hid (keepD HD.out hK2 (HB.out.get (i := 1) rfl)); clear hK2 HB; have HB := hB2; clear hB2; dsimp only [List.set] at HB; go_simp
    repeat' (first | go_values | go_skip | go_guarded | go_step | go_upon)
    have hw0 := HS.out.at_.lt; have hBp := HB.out.putObj (o' := .deferred none) (by omega) HD.out rfl; refine leave_taken HD.out (res_v rfl (Lib.hid hBp) (i := 1) rfl rfl) ⟨by rw [HV.out], hBp.bel⟩
end Go.Proofs.YtngkolcpbgibcaaGreatDoor
