/- fun.concat by its contract. Condition: values may be. -/
import Derived.Test.YtngkolcpbgibcaaGreatDoorBq
set_option linter.unusedVariables false
set_option linter.unusedSimpArgs false
namespace Go.Proofs.YtngkolcpbgibcaaGreatDoor
open Go.RowKit Go.Shelf
attribute [local go_sem] Oper.semAt_some
set_option maxRecDepth 20000 in
set_option maxHeartbeats 8000000 in
theorem concat_any {w : World} (HTn : Tens w) (HVl : Val w) {A : Option Addr} {c : Nat} {args : List (Bool × List VX)} (h : RowF argF w (· < w.heap.size) A args.length args) (hal : args.length ≤ 1000000) (hvl : ∀ a ∈ args, a.2.length ≤ 1000000) (hP : ∀ a ∈ args, ∀ x ∈ a.2, PV x) :
    Calls Tryz.prog 45 #[.slice A args.length c] w fun e W => e = .returned (.agg (vc (conN (wsX (pickL [0, 1, 2, 3] args)))).toArray) ∧ Below w.heap.size w W := by
  have HTN := Lib.hid HTn; have HVL := Lib.hid HVl; clear HTn HVl; refine (callsIn_wide (n := 3)).1 (callsIn_of_wp_marks Tryz.func45 rfl trivial ?_ rfl); refine wpIn_wide.2 ?_; simp only [Tryz.ntmps45, List.size_toArray, List.length_cons, List.length_nil, Nat.reduceAdd, Nat.reduceSub, Array.replicate_succ, Array.replicate_zero, List.push_toArray, List.append_toArray, List.nil_append, List.cons_append]; have HB := Lib.hid (BX.start w)
  repeat' (first | ((with_reducible show Oper.wp _ _ _ _ _ _); (first | refine stop_al (ty := 150) rfl ?_ | (refine al_v HB rfl ?_; clear HB; intro g0 W HB; go_simp))) | go_values | go_skip | go_guarded | go_step | go_upon)
  refine Lib.hid ?_; refine al_g (e := TB) HB [.pointer none, .slice none 0 0] (by kernel_rfl) ?_; clear HB; intro g1 W hg1 HB; have HG1 := Lib.hid hg1; clear hg1; go_simp
  repeat' (first | ((with_reducible show Oper.wp _ _ _ _ _ _); apply stop_bs; exact rfl) | go_values | go_skip | go_guarded | go_step | go_upon)
  refine Lib.hid ?_; refine bs_g (n := 4) (e := 3) HB [.int .i64 0, .int .i64 1, .int .i64 2, .int .i64 3] (by kernel_rfl) ?_; intro g2 W0 hlt HB0; go_simp
  repeat' (first | go_values | go_skip | go_guarded | go_step | go_upon)
  refine (picked_any A (some ⟨g2, 0, none⟩) args.length c 4 4).mono ?_; rintro e WL ⟨rfl, hW1⟩; have HS := Lib.hid (pk_start (ks := [0, 1, 2, 3]) HB.out HB0.out hW1 h rfl hlt); clear HB0 hW1 hlt HB; dsimp only; generalize W0.heap.size = Ba at *; go_simp
  repeat' (first | go_values | go_skip | go_guarded | go_step | go_upon)
  have HO0 : Hid (g0 < g1) := Lib.hid (HG1.out (g0, _, _) (List.mem_cons_self ..))
  refine range_pick hal hvl (by decide) hP rfl HS.out.at_
    (fun pre W => ∃ ts, wsX pre = .ok ts ∧ (ts.foldl conA []).length ≤ 1000000000 ∧ BX w [(g0, 32, vc .blank)] W ∧ Lib.IsBuilderF TB TE g1 g1 (Lib.byteCells (ts.foldl conA [])) W)
    (fun pre W => ∃ v, wsX pre = .no v ∧ BX w [(g0, 32, vc v)] W)
    ?hI ?hIx ?h0 ?act ?assign ?body ?done ?stop
  case assign =>
    intro l x W K hK; have HB := Lib.hid (BX.start W)
    repeat' (first | ((with_reducible show Oper.wpIn _ _ _ _ _ _ _ _); refine in_wp (fun c h => by cases h) ?_; (first | (refine al_v HB rfl ?_; clear HB; intro g3 W HB; go_simp) | (refine st_v 0 HB rfl _ _ rfl rfl rfl ?_; clear HB; intro W HB; dsimp only [List.set] at HB; go_simp))) | go_values | gi_guarded | gi_step | gi_upon)
    exact hK g3 _ (by exact HB.out.lo _ (List.mem_cons_self ..)) (HB.out.get (i := 0) rfl) (Keep.of_below HB.out.bel fun i hi hb => by omega)
  case h0 => exact ⟨[], rfl, by decide, HS.out.bx.some_ (.cons _ (.refl _)), isB_new (w := w) (HS.out.bx.get (i := 0) rfl)⟩
  case hI =>
    rintro pre W W' ⟨ts, h0, h1, h2, h3⟩ hk
    exact ⟨ts, h0, h1, h2.keep (by have := HS.out.at_.lt; omega) hk, isB_keep h3 hk fun i cs t fz hh _ hn => by
      obtain ⟨-, o, ho, hc⟩ := hn; rw [hh] at ho; injection ho with ho; subst ho
      cases hc⟩
  case hIx =>
    rintro pre W W' ⟨v, h0, h1⟩ hk; exact ⟨v, h0, h1.keep (by have := HS.out.at_.lt; omega) hk⟩
  case body =>
    intro l pre x Bx W hi hbx hB hWs hpv hlen; obtain ⟨ts, hts, hbl, hbX, hbB⟩ := hi; have HX := Lib.hid hbX; have HT := Lib.hid hts; have HQ := Lib.hid hbB; have HBx := Lib.hid hbx; have HB := Lib.hid (BX.start W); have HTW : Hid (Tens W) := Lib.hid (HTN.out.below hbX.bel); clear hbX hts hbx hlen hvl hal hP h hbB
    cases hn : wrdX x with
    | no y =>
      have HNu := Lib.hid (words_no hpv.1 hn HTW.out); have HY := Lib.hid (wsX_stop HT.out hn); clear hpv hn
      repeat' (first | ((with_reducible show Oper.wpIn _ _ _ _ _ _ _ _); refine in_wp (fun c h => by cases h) ?_; refine stop_ld (ty := 32) _ rfl ?_) | go_values | gi_guarded | gi_step | gi_upon)
      refine Lib.hid ?_; refine ldm_v x _ rfl rfl (bk_q HBx.out) ?_; go_simp
      repeat' (first | go_values | gi_guarded | gi_step | gi_upon)
      refine ⟨trivial, (CallsIn.inRound l (callsIn_wide.2 (HNu.out))).mono ?_⟩; rintro e W1 ⟨rfl, hb⟩; have HB := Lib.hid (HB.out.call hb); clear hb; dsimp only
      repeat' (first | ((with_reducible show Oper.wpIn _ _ _ _ _ _ _ _); refine in_wp (fun c h => by cases h) ?_; (first | (refine al_v HB rfl ?_; clear HB; intro g3 W HB; go_simp) | (refine ld_v 0 HB rfl _ rfl rfl ?_; go_simp) | (refine st_v 0 HB rfl _ _ rfl rfl rfl ?_; clear HB; intro W HB; dsimp only [List.set] at HB; go_simp) | refine stop_st (ty := 32) _ _ rfl ?_)) | go_values | gi_guarded | gi_step | gi_upon)
      have HX1 := Lib.hid (HX.out.call HB.out.bel); refine Lib.hid ?_; refine stk_v 0 HX1 rfl _ _ rfl rfl rfl ?_; intro W3 HX3 hK3; have HK3 := Lib.hid hK3; clear hK3; go_simp
      repeat' (first | go_values | gi_guarded | gi_step | gi_upon)
      have hl := HS.out.at_.lt; have hs := HB.out.bel.size; exact ⟨(rk_below HB.out.bel (by omega) hl.1).trans (rk_keep HK3.out (by omega) (fun i hi => by subst hi; exact HX.out.lo (i, _, _) (List.mem_cons_self ..)) (fun i hi => by subst hi; exact .inl (HS.out.old (i, _, _) (List.mem_cons_of_mem _ (List.mem_cons_self ..)))) hl.1), y, HY.out, HX3.out⟩
    | ok t =>
      have HNu := Lib.hid (words_ok hpv.1 hn HTW.out); have HY := Lib.hid (wsX_snoc HT.out hn); have htl := wrd_len hpv hn; have HF : Hid ((ts ++ [t]).foldl conA [] = conA (ts.foldl conA []) t) := Lib.hid (by rw [List.foldl_append]; rfl); clear hpv hn; simp only [sL] at HNu; obtain ⟨acc, hacc⟩ : ∃ acc, ts.foldl conA [] = acc := ⟨_, rfl⟩
      rw [hacc] at HF hbl HQ; clear hacc
      by_cases hle : acc.length ≤ 4000
      · have HF2 : Hid ((ts ++ [t]).foldl conA [] = acc ++ t ∧ ((ts ++ [t]).foldl conA []).length ≤ 1000000000) := Lib.hid (by
          have e : (ts ++ [t]).foldl conA [] = acc ++ t := by rw [HF.out, conA, if_pos hle]
          exact ⟨e, by rw [e, List.length_append]; omega⟩)
        have hle' : (acc.length : Int) ≤ 4000 := by omega
        have HL : Hid (acc.length + t.length ≤ 140737488355328) := Lib.hid (by omega); clear hle hbl htl
        repeat' (first | ((with_reducible show Oper.wpIn _ _ _ _ _ _ _ _); refine in_wp (fun c h => by cases h) ?_; refine stop_ld (ty := 32) _ rfl ?_) | go_values | gi_guarded | gi_step | gi_upon)
        refine Lib.hid ?_; refine ldm_v x _ rfl rfl (bk_q HBx.out) ?_; go_simp
        repeat' (first | go_values | gi_guarded | gi_step | gi_upon)
        refine ⟨trivial, (CallsIn.inRound l (callsIn_wide.2 (HNu.out))).mono ?_⟩; rintro e W1 ⟨rfl, hb⟩; have HB := Lib.hid (HB.out.call hb); clear hb; dsimp only
        repeat' (first | ((with_reducible show Oper.wpIn _ _ _ _ _ _ _ _); refine in_wp (fun c h => by cases h) ?_; (first | (refine al_v HB rfl ?_; clear HB; intro g3 W HB; go_simp) | (refine st_v 0 HB rfl _ _ rfl rfl rfl ?_; clear HB; intro W HB; dsimp only [List.set] at HB; go_simp))) | go_values | gi_guarded | gi_step | gi_upon)
        have HQ1 := Lib.hid (isB_below HQ.out HB.out.bel); refine ⟨trivial, (CallsIn.inRound l (callsIn_wide.2 (bLen_any g1 g1 (Lib.byteCells acc) _ HQ1.out))).mono ?_⟩; rintro e W2 ⟨rfl, hw⟩; have hw := hw.symm; subst hw; simp only [Lib.byteCells_length]
        repeat' (first | go_values | gi_guarded | gi_step | gi_upon)
        have hg1W : g1 ≤ W.heap.size := by
          have h1 := HS.out.old (g1, _, _) (List.mem_cons_self ..); have h2 := HS.out.at_.lt; have h3 := HB.out.bel.size; dsimp only at h1; omega
        refine ⟨trivial, (CallsIn.inRound l (callsIn_wide.2 (writeString_any g1 g1 (Lib.byteCells acc) ⟨t.toArray⟩ _ HQ1.out (by rw [Lib.byteCells_length]; exact HL.out) hg1W))).mono ?_⟩; rintro e W2 ⟨rfl, hat, hb2, ho2⟩; have HA2 := Lib.hid (And.intro hat (And.intro hb2 ho2)); clear hat hb2 ho2; dsimp only
        repeat' (first | go_values | gi_guarded | gi_step | gi_upon)
        have hl := HS.out.at_.lt; have hw1 : w.heap.size ≤ g1 := HS.out.bx.lo (g1, _, _) (List.mem_cons_self ..); have hg12 : g1 < g2 := HS.out.old (g1, _, _) (List.mem_cons_self ..); have hne := HO0.out
        exact ⟨(rk_below HB.out.bel (by omega) hl.1).trans (rk_kept HA2.out.2.1 HA2.out.2.2 hw1 hg12 hl.1), _, HY.out, HF2.out.2, bx_kept (HX.out.call HB.out.bel) HA2.out.2.1 HA2.out.2.2 hw1 (fun b hb => by
          simp only [List.mem_singleton] at hb; subst hb
          exact ⟨by dsimp only; omega, show (32 : TypeId) ≠ TE by decide⟩), .inr (by rw [HF2.out.1, Lib.byteCells_append]; exact HA2.out.1)⟩
      · have HF2 : Hid ((ts ++ [t]).foldl conA [] = acc ∧ ((ts ++ [t]).foldl conA []).length ≤ 1000000000) := Lib.hid (by
          have e : (ts ++ [t]).foldl conA [] = acc := by rw [HF.out, conA, if_neg hle]
          exact ⟨e, by rw [e]; exact hbl⟩)
        have hle' : ¬ (acc.length : Int) ≤ 4000 := by omega
        clear hle hbl htl
        repeat' (first | ((with_reducible show Oper.wpIn _ _ _ _ _ _ _ _); refine in_wp (fun c h => by cases h) ?_; refine stop_ld (ty := 32) _ rfl ?_) | go_values | gi_guarded | gi_step | gi_upon)
        refine Lib.hid ?_; refine ldm_v x _ rfl rfl (bk_q HBx.out) ?_; go_simp
        repeat' (first | go_values | gi_guarded | gi_step | gi_upon)
        refine ⟨trivial, (CallsIn.inRound l (callsIn_wide.2 (HNu.out))).mono ?_⟩; rintro e W1 ⟨rfl, hb⟩; have HB := Lib.hid (HB.out.call hb); clear hb; dsimp only
        repeat' (first | ((with_reducible show Oper.wpIn _ _ _ _ _ _ _ _); refine in_wp (fun c h => by cases h) ?_; (first | (refine al_v HB rfl ?_; clear HB; intro g3 W HB; go_simp) | (refine st_v 0 HB rfl _ _ rfl rfl rfl ?_; clear HB; intro W HB; dsimp only [List.set] at HB; go_simp))) | go_values | gi_guarded | gi_step | gi_upon)
        have HQ1 := Lib.hid (isB_below HQ.out HB.out.bel); refine ⟨trivial, (CallsIn.inRound l (callsIn_wide.2 (bLen_any g1 g1 (Lib.byteCells acc) _ HQ1.out))).mono ?_⟩; rintro e W2 ⟨rfl, hw⟩; have hw := hw.symm; subst hw; simp only [Lib.byteCells_length]
        repeat' (first | go_values | gi_guarded | gi_step | gi_upon)
        have hl := HS.out.at_.lt; have hs := HB.out.bel.size; exact ⟨rk_below HB.out.bel (by omega) hl.1, _, HY.out, HF2.out.2, HX.out.call HB.out.bel, by rw [HF2.out.1]; exact HQ1.out⟩
  case stop =>
    rintro D pre W hD hpre ⟨v, hts, hbX⟩ hK; have hw0 := HS.out.at_.lt; have hBp := hbX.putObj (o' := .deferred none) (by omega) hK rfl; refine leave_taken hK (res_v rfl (Lib.hid hBp) (i := 0) rfl rfl) ⟨by rw [wsX_pre hts hpre]; rfl, hBp.bel⟩
  case done =>
    rintro D W hD ⟨ts, hts, hbl, hbX, hbB⟩ hK; have HB := Lib.hid hbX; have HD := Lib.hid hK; have HQ := Lib.hid hbB; have HV : Hid (conN (wsX (pickL [0, 1, 2, 3] args)) = textX (ts.foldl conA [])) := Lib.hid (by rw [hts]; rfl); clear hbX hK hbB hts; obtain ⟨acc, hacc⟩ : ∃ acc, ts.foldl conA [] = acc := ⟨_, rfl⟩
    rw [hacc] at HV hbl HQ; clear hacc; have hw1 : w.heap.size ≤ g1 := HS.out.bx.lo (g1, _, _) (List.mem_cons_self ..); have hne := HO0.out
    have hg1W : g1 ≤ W.heap.size := by
      have h1 := HS.out.old (g1, _, _) (List.mem_cons_self ..); have h2 := HS.out.at_.lt; have h3 := (Array.getElem?_eq_some_iff.1 HD.out).1; dsimp only at h1; omega
    have HVW := Lib.hid (fun (W' : World) (hb : Below w.heap.size w W') => fText_any (HVL.out.below hb) acc (by omega)); simp only [sL] at HVW; have HN1 := Lib.hid (And.intro hw1 hne); clear hw1 hne hbl
    repeat' (first | go_values | go_skip | go_guarded | go_step | go_upon)
    refine (Tryz.Builder_String_any_k g1 g1 acc _ HQ.out hg1W).mono ?_; rintro e W2 ⟨rfl, hB2, hb2, ho2⟩
    have HB2 := Lib.hid (bx_kept HB.out hb2 ho2 HN1.out.1 (fun b hb => by
      simp only [List.mem_singleton] at hb; subst hb; have := HN1.out.2
      exact ⟨by dsimp only; omega, show (32 : TypeId) ≠ TE by decide⟩))
    have HD2 : Hid (W2.heap[D]? = some (.deferred (some []))) := Lib.hid (ho2 D _ HD.out (fun e => by
      injection e with e; have h1 := HS.out.old (g1, _, _) (List.mem_cons_self ..); have h2 := HS.out.at_.lt; dsimp only at h1
      omega) fun c fz e => by cases e)
    clear HB HD hB2 hb2 ho2; have HB := HB2; have HD := HD2; clear HB2 HD2; dsimp only
    repeat' (first | go_values | go_skip | go_guarded | go_step | go_upon)
    refine (HVW.out _ HB.out.bel).mono ?_; rintro e W1 ⟨rfl, hb⟩; have HB := Lib.hid (HB.out.call hb); have HD := Lib.hid (belowD HD.out hb); clear hb; dsimp only
    repeat' (first | ((with_reducible show Oper.wp _ _ _ _ _ _); refine stop_st (ty := 32) _ _ rfl ?_) | go_values | go_skip | go_guarded | go_step | go_upon)
    refine Lib.hid ?_; refine stk_v 0 HB rfl _ _ rfl rfl rfl ?_; intro W2 hB2 hK2; have HD := Lib.hid (keepD HD.out hK2 (HB.out.get (i := 0) rfl)); clear hK2 HB; have HB := hB2; clear hB2; dsimp only [List.set] at HB; go_simp
    repeat' (first | go_values | go_skip | go_guarded | go_step | go_upon)
    have hw0 := HS.out.at_.lt; have hBp := HB.out.putObj (o' := .deferred none) (by omega) HD.out rfl; refine leave_taken HD.out (res_v rfl (Lib.hid hBp) (i := 0) rfl rfl) ⟨by rw [HV.out], hBp.bel⟩
end Go.Proofs.YtngkolcpbgibcaaGreatDoor
