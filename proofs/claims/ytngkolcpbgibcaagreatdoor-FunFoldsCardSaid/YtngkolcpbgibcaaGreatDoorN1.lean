/- fun.allNumbers by its contract. Condition: values may be. -/
import Derived.Test.YtngkolcpbgibcaaGreatDoorPhI
import Derived.Test.YtngkolcpbgibcaaGreatDoorW4
set_option linter.unusedVariables false
set_option linter.unusedSimpArgs false
namespace Go.Proofs.YtngkolcpbgibcaaGreatDoor
open Go.RowKit Go.Shelf
attribute [local go_sem] Oper.semAt_some
def nsV (l : NL) (w W : World) (e : Ending) : Prop := match l with
  | .no v => e = .returned (.tuple #[.slice none 0 0, .agg (vc v).toArray, .bool false]) ∧ Below w.heap.size w W
  | .ok d => ∃ A c rows, e = .returned (.tuple #[.slice A d.length c, .agg (vc .blank).toArray, .bool true]) ∧ d.length ≤ c ∧ RowB w.heap.size W rows A d ∧ Below w.heap.size w W
theorem bx3_lo {w W : World} {g0 g1 g2 g3 : Nat} {t0 t1 t2 t3 : TypeId} {c0 c1 c2 c3 : List Value} (h : BX w [(g3, t3, c3), (g2, t2, c2), (g1, t1, c1), (g0, t0, c0)] W) : ∀ i, (i = g0 ∨ i = g1 ∨ i = g2) → w.heap.size ≤ i := by
  rintro i (rfl | rfl | rfl)
  · exact h.lo (i, t0, c0) (by simp)
  · exact h.lo (i, t1, c1) (by simp)
  · exact h.lo (i, t2, c2) (by simp)
theorem bx3_old {W : World} {n2 g0 g1 g2 g3 : Nat} {t0 t1 t2 t3 : TypeId} {c0 c1 c2 c3 : List Value} (h : ∀ b ∈ [(g3, t3, c3), (g2, t2, c2), (g1, t1, c1), (g0, t0, c0)], b.1 < n2) : ∀ i, (i = g0 ∨ i = g1 ∨ i = g2) → i < n2 ∨ ∃ cs t f, W.heap[i]? = some (.cells cs t f) ∧ pkT t = false := by
  rintro i (rfl | rfl | rfl)
  · exact .inl (h (i, t0, c0) (by simp))
  · exact .inl (h (i, t1, c1) (by simp))
  · exact .inl (h (i, t2, c2) (by simp))
theorem bx_old_mem {n2 g0 g1 g2 g3 : Nat} {t0 t1 t2 t3 : TypeId} {c0 c1 c2 c3 : List Value} (h : ∀ b ∈ [(g3, t3, c3), (g2, t2, c2), (g1, t1, c1), (g0, t0, c0)], b.1 < n2) {i : Nat} (hi : i ∈ [g0, g1, g2, g3]) : i < n2 := by
  simp only [List.mem_cons, List.not_mem_nil, or_false] at hi
  rcases hi with rfl | rfl | rfl | rfl
  · exact h (_, t0, c0) (by simp)
  · exact h (_, t1, c1) (by simp)
  · exact h (_, t2, c2) (by simp)
  · exact h (_, t3, c3) (by simp)
structure PkSt (w : World) (n2 Ba Bw : Nat) (bs : Bxs) (args : List (Bool × List VX)) (ks : List Int) (A : Option Addr) (c bw cw : Nat) (W : World) : Prop where
  bx : BX w bs W
  old : ∀ b ∈ bs, b.1 < n2
  at_ : PkAt w.heap.size n2 Ba Bw args ks A c bw cw W
theorem pk_start {w W W0 W1 : World} {bs : Bxs} {ks : List Int} {A : Option Addr} {c g n : Nat} {args : List (Bool × List VX)} (H : BX w bs W) (H0 : BX w ((g, 3, ks.map (Value.int .i64)) :: bs) W0) (hW : W1 = (W0.alloc (.cells #[.slice A args.length c] 34)).alloc (.cells #[.slice (some ⟨g, 0, none⟩) n n] 60))
    (h : RowF argF w (· < w.heap.size) A args.length args) (hn : ks.length = n) (hlt : ∀ b ∈ bs, b.1 < g) : PkSt w g W0.heap.size (W0.heap.size + 1) bs args ks A c g n W1 := by
  subst hn; have hg := (H0.bk _ (List.mem_cons_self ..)).lt; have h1 := Bk.new W0 34 #[.slice A args.length c]; have h2 := Bk.new (W0.alloc (.cells #[.slice A args.length c] 34)) 60 #[.slice (some ⟨g, 0, none⟩) ks.length ks.length]; rw [World.size_alloc] at h2; have hX := (H0.other (.cells #[.slice A args.length c] 34)).other (.cells #[.slice (some ⟨g, 0, none⟩) ks.length ks.length] 60); rw [← hW] at hX h2; have hb := hX.bel; refine ⟨hX.some_ (List.sublist_cons_self _ _), hlt, ⟨?_, h2, ?_, by omega, by omega, Nat.le_refl _, h.below hb (Nat.le_refl _), H0.lo _ (List.mem_cons_self ..)⟩⟩
  · rw [hW]; exact h1.alloc _
  · exact hX.bk _ (List.mem_cons_self ..)
set_option maxRecDepth 20000 in
set_option maxHeartbeats 8000000 in
theorem allNumbers_any {w : World} {A : Option Addr} {c : Nat} {args : List (Bool × List VX)} (h : RowF argF w (· < w.heap.size) A args.length args) (hal : args.length ≤ 1000000) (hvl : ∀ a ∈ args, a.2.length ≤ 1000000) (hP : ∀ a ∈ args, ∀ x ∈ a.2, PV x) :
    Calls Tryz.prog 104 #[.slice A args.length c] w fun e W => nsV (nsX (pickL [1] args)) w W e := by
  refine (callsIn_wide (n := 3)).1 (callsIn_of_wp_marks Tryz.func104 rfl trivial ?_ rfl); refine wpIn_wide.2 ?_; simp only [Tryz.ntmps104, List.size_toArray, List.length_cons, List.length_nil, Nat.reduceAdd, Nat.reduceSub, Array.replicate_succ, Array.replicate_zero, List.push_toArray, List.append_toArray, List.nil_append, List.cons_append]; have HB := Lib.hid (BX.start w)
  repeat' (first | ((with_reducible show Oper.wp _ _ _ _ _ _); (first | ((first | refine al_v HB rfl ?_ | refine als_l HB rfl ?_ | refine als_b HB rfl ?_); clear HB; (first | (have _t : Nat := g2; clear _t; intro g3 W HB) | (have _t : Nat := g1; clear _t; intro g2 W HB) | (have _t : Nat := g0; clear _t; intro g1 W HB) | intro g0 W HB); go_simp) | (apply stop_bs; exact rfl))) | go_values | go_skip | go_guarded | go_step | go_upon)
  refine Lib.hid ?_; refine bs_g (n := 1) (e := 3) HB [.int .i64 1] (by kernel_rfl) ?_; intro g4 W0 hlt HB0; go_simp
  repeat' (first | go_values | go_skip | go_guarded | go_step | go_upon)
  refine (picked_any A (some ⟨g4, 0, none⟩) args.length c 1 1).mono ?_; rintro e WL ⟨rfl, hW1⟩; have HS := Lib.hid (pk_start (ks := [1]) HB.out HB0.out hW1 h rfl hlt); clear HB0 hW1 hlt HB; dsimp only; generalize W0.heap.size = Ba at *; go_simp
  repeat' (first | go_values | go_skip | go_guarded | go_step | go_upon)
  refine range_pick hal hvl (by decide) hP rfl HS.out.at_
    (fun pre W => ∃ A' n' c' l, nsX pre = .ok l ∧ BX w [(g3, 135, [.slice A' n' c']), (g2, 4, [.bool false]), (g1, 32, vc .blank), (g0, 135, [.slice none 0 0])] W ∧ OwnF decF W (fun _ => False) g4 30 (.slice A' n' c') l)
    (fun pre W => ∃ A' n' c' v, nsX pre = .no v ∧ BX w [(g3, 135, [.slice A' n' c']), (g2, 4, [.bool false]), (g1, 32, vc v), (g0, 135, [.slice none 0 0])] W)
    ?hI ?hIx ?h0 ?act ?assign ?body ?done ?stop
  case assign =>
    intro l x W K hK; have HB := Lib.hid (BX.start W)
    repeat' (first | ((with_reducible show Oper.wpIn _ _ _ _ _ _ _ _); refine in_wp (fun c h => by cases h) ?_; (first | (refine al_v HB rfl ?_; clear HB; intro g5 W HB; go_simp) | (refine st_v 0 HB rfl _ _ rfl rfl rfl ?_; clear HB; intro W HB; dsimp only [List.set] at HB; go_simp))) | go_values | gi_guarded | gi_step | gi_upon)
    exact hK g5 _ (by exact HB.out.lo _ (List.mem_cons_self ..)) (HB.out.get (i := 0) rfl) (Keep.of_below HB.out.bel fun i hi hb => by omega)
  case h0 => exact ⟨none, 0, 0, [], rfl, HS.out.bx, OwnF.nil _ _ _ _ _⟩
  case hI =>
    rintro pre W W' ⟨A', n', c', l, h1, h2, h3⟩ hk; exact ⟨A', n', c', l, h1, h2.keep (by have := HS.out.at_.lt; omega) hk, h3.keep hk (own_nc h3) (fun _ h => h.elim)⟩
  case hIx =>
    rintro pre W W' ⟨A', n', c', v, h1, h2⟩ hk; exact ⟨A', n', c', v, h1, h2.keep (by have := HS.out.at_.lt; omega) hk⟩
  case body =>
    intro l pre x Bx W hi hbx hB hWs hpv hlen; obtain ⟨A', n', c', ds, hns, hbX, hown⟩ := hi; have HX := Lib.hid hbX; have HO := Lib.hid hown; have HN := Lib.hid hns; have HBx := Lib.hid hbx; have HL := Lib.hid hlen; have HB := Lib.hid (BX.start W); clear hns hbX hown hbx hlen
    cases hn : numX x with
    | no y =>
      have HNu := Lib.hid (number_no hpv.2 hn); have HY := Lib.hid (nsX_stop HN.out hn); clear hpv hn
      repeat' (first | ((with_reducible show Oper.wpIn _ _ _ _ _ _ _ _); refine in_wp (fun c h => by cases h) ?_; refine stop_ld (ty := 32) _ rfl ?_) | go_values | gi_guarded | gi_step | gi_upon)
      refine Lib.hid ?_; refine ldm_v x _ rfl rfl (bk_q HBx.out) ?_; go_simp
      repeat' (first | go_values | gi_guarded | gi_step | gi_upon)
      refine ⟨trivial, (CallsIn.inRound l (callsIn_wide.2 (HNu.out _))).mono ?_⟩; rintro e W1 ⟨rfl, hb⟩; have HB := Lib.hid (HB.out.call hb); clear hb; dsimp only
      repeat' (first | ((with_reducible show Oper.wpIn _ _ _ _ _ _ _ _); refine in_wp (fun c h => by cases h) ?_; (first | ((first | refine al_v HB rfl ?_ | refine al_d HB rfl ?_); clear HB; (first | (have _t : Nat := g5; clear _t; intro g6 W HB) | (have _t : Nat := g4; clear _t; intro g5 W HB)); go_simp) | ((first | refine st_v 0 HB rfl _ _ rfl rfl rfl ?_ | refine st_d 1 HB rfl _ _ rfl rfl rfl ?_); clear HB; intro W HB; dsimp only [List.set] at HB; go_simp))) | go_values | gi_guarded | gi_step | gi_upon)
      have HJ := Lib.hid (HX.out.join HB.out); have HW := Lib.hid HB.out.bel; clear HB
      refine wp_region_phases_in (hQ := fun h => by obtain ⟨_, _, h⟩ := h; exact h) (hd := by kernel_rfl) (S := (alnS w W g0 g1 g2 g3 g5 g6 A' n' c' y)) (E := (fun _ _ => True)) [1, 2, 3] [(2, Is (.pointer (some ⟨g0, 0, none⟩))), (3, Is (.pointer (some ⟨g1, 0, none⟩))), (4, Is (.pointer (some ⟨g2, 0, none⟩))), (8, Is (.pointer (some ⟨g6, 0, none⟩)))] [(22, Is (.agg (vc y).toArray))]
        [.op [8] none, .phase 0 [2] [], .phase 1 [3, 22] [], .phase 2 [4] []] (by as_aux_lemma => kernel_rfl) ?_ ?_ ?_ ?_ ?_ ⟨stable_is _ _, stable_is _ _, stable_is _ _, stable_is _ _, stable_is _ _, trivial⟩ ?_ ⟨HJ.out.drew, (Keep.refl _ _).drew⟩ ?_ ?_
      · as_aux_lemma => kernel_rfl
      · as_aux_lemma => kernel_rfl
      · as_aux_lemma => kernel_rfl
      · as_aux_lemma => kernel_rfl
      · as_aux_lemma => kernel_rfl
      · exact ⟨rfl, rfl, rfl, rfl, trivial⟩
      · refine ⟨?_, ?_, ?_, ?_, trivial⟩
        · as_aux_lemma => intro vals a W hS hL; have e8 : a.tmps.getD 8 undef = .pointer (some ⟨g6, 0, none⟩) := hL.1; clear hL; refine lands_v (run_ldg rtV (hS.1.get (i := 0) (by cases vals with | nil => rfl | cons _ r => cases r <;> rfl)) (.tmp 8) rfl e8) ?_; exact ⟨dstY (by rfl), hS, trivial⟩
        · as_aux_lemma => intro a W vals hv hS hL hp; have e2 : a.tmps.getD 2 undef = .pointer (some ⟨g0, 0, none⟩) := hL.1; clear hL; obtain rfl : vals = [] := List.eq_nil_of_length_eq_zero hv; refine lands_s (run_sts_l hS.1 (i := 5) rfl (.tmp 2) (.const _) rfl e2 rfl) ⟨⟨hS.1.turn (i := 5) rfl (bk_set1 (hS.1.get (i := 5) rfl)) ((Keep.refl (fun j => j = g0) W).setCell (p := ⟨g0, 0, none⟩) (fun _ => rfl) _), hS.2.setCell (p := ⟨g0, 0, none⟩) (fun _ => .inl rfl) _⟩, trivial, trivial⟩
        · as_aux_lemma =>
            intro a W vals hv hS hL hp; have e3 : a.tmps.getD 3 undef = .pointer (some ⟨g1, 0, none⟩) := hL.1; have e22 : a.tmps.getD 22 undef = .agg (vc y).toArray := hL.2.1; clear hL
            match vals, hv, hS with
            | [u], _, hS => exact lands_s (run_sts_v hS.1 (i := 4) rfl (.tmp 3) (.tmp 22) rfl e3 e22) ⟨⟨hS.1.turn (i := 4) rfl (bk_setv (hS.1.get (i := 4) rfl)) (setCells_keep _ _ _), hS.2.trans (setCells_keep (vc y) 0 W) fun _ _ h => .inr (.inl h)⟩, trivial, trivial⟩
        · as_aux_lemma =>
            intro a W vals hv hS hL hp; have e4 : a.tmps.getD 4 undef = .pointer (some ⟨g2, 0, none⟩) := hL.1; clear hL
            match vals, hv, hS with
            | [u, u2], _, hS => exact lands_s (run_sts_b hS.1 (i := 3) rfl (.tmp 4) (.const _) rfl e4 rfl) ⟨⟨hS.1.turn (i := 3) rfl (bk_set1 (hS.1.get (i := 3) rfl)) ((Keep.refl (fun j => j = g2) W).setCell (p := ⟨g2, 0, none⟩) (fun _ => rfl) _), hS.2.setCell (p := ⟨g2, 0, none⟩) (fun _ => .inr (.inr rfl)) _⟩, trivial, trivial⟩
      · intro a W2 vals hd hsz hT hF hv hP hS
        match vals, hv, hS with
        | [_, _, _], _, hS =>
          have HS2 := Lib.hid hS; clear hT hF hP hS hsz hd HJ
          repeat' (first | go_values | gi_guarded | gi_step | gi_upon)
          have hl := HS.out.at_.lt; exact ⟨(rk_below HW.out (by omega) hl.1).trans (rk_keep HS2.out.2 (by have := HW.out.size; omega) (bx3_lo HX.out) (bx3_old HS.out.old) hl.1), A', n', c', y, HY.out, HS2.out.1.some_ (.cons _ (.cons _ (.refl _)))⟩
    | ok m s =>
      have HNu := Lib.hid (number_ok hpv.2 hn); have HY := Lib.hid (nsX_snoc HN.out hn); clear hpv hn
      repeat' (first | ((with_reducible show Oper.wpIn _ _ _ _ _ _ _ _); refine in_wp (fun c h => by cases h) ?_; refine stop_ld (ty := 32) _ rfl ?_) | go_values | gi_guarded | gi_step | gi_upon)
      refine Lib.hid ?_; refine ldm_v x _ rfl rfl (bk_q HBx.out) ?_; go_simp
      repeat' (first | go_values | gi_guarded | gi_step | gi_upon)
      refine ⟨trivial, (CallsIn.inRound l (callsIn_wide.2 (HNu.out _))).mono ?_⟩; rintro e W1 ⟨rfl, hb⟩; have HB := Lib.hid (HB.out.call hb); clear hb; dsimp only
      repeat' (first | ((with_reducible show Oper.wpIn _ _ _ _ _ _ _ _); refine in_wp (fun c h => by cases h) ?_; (first | ((first | refine al_v HB rfl ?_ | refine al_d HB rfl ?_); clear HB; (first | (have _t : Nat := g5; clear _t; intro g6 W HB) | (have _t : Nat := g4; clear _t; intro g5 W HB)); go_simp) | ((first | refine st_v 0 HB rfl _ _ rfl rfl rfl ?_ | refine st_d 1 HB rfl _ _ rfl rfl rfl ?_); clear HB; intro W HB; dsimp only [List.set] at HB; go_simp) | refine stop_ld (ty := 135) _ rfl ?_)) | go_values | gi_guarded | gi_step | gi_upon)
      refine Lib.hid ?_; refine lfm_l1 _ rfl rfl (by exact (HX.out.call HB.out.bel).cell (i := 0) rfl 0) ?_; go_simp
      repeat' (first | ((with_reducible show Oper.wpIn _ _ _ _ _ _ _ _); refine in_wp (fun c h => by cases h) ?_; (first | (refine ld_d 1 HB rfl _ rfl rfl ?_; go_simp) | (apply stop_bs; exact rfl))) | go_values | gi_guarded | gi_step | gi_upon)
      refine Lib.hid ?_; refine bs_d HB _ rfl rfl ?_; clear HB; intro g7 W HB; go_simp
      repeat' (first | ((with_reducible show Oper.wpIn _ _ _ _ _ _ _ _); refine in_wp (fun c h => by cases h) ?_; apply stop_app; exact rfl) | go_values | gi_guarded | gi_step | gi_upon)
      have hWn : g4 ≤ W.heap.size := by have := HS.out.at_.lt; have := HB.out.bel.size; omega
      have HOW : Hid (OwnF decF W (fun _ => False) g4 30 (.slice A' n' c') ds) := Lib.hid (HO.out.keep (Keep.of_below HB.out.bel fun i hi hb => show False by omega) (fun _ _ h => h) (fun _ h => h.elim))
      have hdl : ds.length ≤ 1000000000000 := by
        have h1 := nsX_len HN.out; have h2 := pickL_len (ks := [1]) hvl; have h3 := HL.out; have h4 : args.length * 1000000 ≤ 1000000000000 := by omega
        omega
      have HLen := Lib.hid hdl; clear hdl; refine Lib.hid ?_; refine app_d HOW.out (HB.out.get (i := 0) rfl) hWn HLen.out _ _ rfl rfl rfl ?_; intro A2 n2 c2 W2 hO2 hK2; have HO2 := Lib.hid hO2; have HK2 := Lib.hid hK2; clear hO2 hK2
      have HX2 : Hid (BX w [(g3, 135, [.slice A' n' c']), (g2, 4, [.bool false]), (g1, 32, vc .blank), (g0, 135, [.slice none 0 0])] W2) := Lib.hid (bx_past (HX.out.call HB.out.bel) HK2.out (by have := HX.out.bel.size; have := HB.out.bel.size; omega) (fun b hb hi => by
        have h1 := (own_cells HOW.out _ hi).1; have h2 := bx4_old HS.out.old hb
        omega) fun i hi => by have h1 := (own_cells HOW.out _ hi).1; have h2 := HS.out.at_.le; omega)
      go_simp
      repeat' (first | ((with_reducible show Oper.wpIn _ _ _ _ _ _ _ _); refine in_wp (fun c h => by cases h) ?_; refine stop_st (ty := 135) _ _ rfl ?_) | go_values | gi_guarded | gi_step | gi_upon)
      refine Lib.hid ?_; refine stk_l 0 HX2 rfl _ _ rfl rfl rfl ?_; intro W3 HX3 hK3; have HK3 := Lib.hid hK3; clear hK3; go_simp
      repeat' (first | go_values | gi_guarded | gi_step | gi_upon)
      have hl := HS.out.at_.lt; have hs1 := HB.out.bel.size; have hs2 := HK2.out.size; refine ⟨(rk_below HB.out.bel (by omega) hl.1).trans ((rk_keep HK2.out (by omega) (fun i hi => by have h1 := (own_cells HOW.out _ hi).1; have h2 := HS.out.at_.le; omega) (fun i hi => ?_) hl.1).trans (rk_keep HK3.out (by omega) (fun i hi => by subst hi; exact HX.out.lo (i, _, _) (List.mem_cons_self ..)) (fun i hi => by subst hi; exact .inl (HS.out.old (i, _, _) (List.mem_cons_self ..))) hl.1)), A2, n2, c2, _, HY.out, HX3.out, HO2.out.keep HK3.out (fun i hi hj => ?_) (fun _ h => h.elim)⟩
      · obtain ⟨-, cs, fz, hc⟩ := own_cells HOW.out _ hi; exact .inr ⟨cs, _, fz, hc, by rfl⟩
      · subst hj; have h1 := (own_cells HO2.out _ hi).1; have h2 := HS.out.old (i, _, _) (List.mem_cons_self ..); dsimp only at h2; omega
  case done =>
    intro D W hD hi hK; obtain ⟨A', n', c', ds, hns, hbX, hown⟩ := hi; have HB := Lib.hid hbX; have HO := Lib.hid hown; have HN := Lib.hid hns; have HD := Lib.hid hK; have HKp : Hid (Keep (fun i => i ∈ [g0, g1, g2, g3]) W W) := Lib.hid (Keep.refl _ _); obtain ⟨A1, c1, e1, hc1⟩ := hown.form; injection e1 with e1 e2 e3; subst e1 e2 e3; have HC := Lib.hid hc1; clear hbX hown hns hK hc1
    repeat' (first | ((with_reducible show Oper.wp _ _ _ _ _ _); (first | (refine lfs_l 0 HB rfl _ rfl rfl ?_; go_simp) | (apply stop_bd; exact rfl))) | go_values | go_skip | go_guarded | go_step | go_upon)
    refine Lib.hid ?_; refine wp_b (v := .agg (vc .blank).toArray) (by kernel_rfl) ?_; go_simp
    repeat' (first | ((with_reducible show Oper.wp _ _ _ _ _ _); refine stop_st (ty := 135) _ _ rfl ?_) | go_values | go_skip | go_guarded | go_step | go_upon)
    refine Lib.hid ?_; refine stk_l 3 HB rfl _ _ rfl rfl rfl ?_; intro W2 hB2 hK2; have HD := Lib.hid (keepD HD.out hK2 (HB.out.get (i := 3) rfl)); have HKp := Lib.hid (HKp.out.trans hK2 (fun i _ e => by subst e; simp)); clear hK2 HB; have HB := hB2; clear hB2; dsimp only [List.set] at HB; go_simp
    repeat' (first | ((with_reducible show Oper.wp _ _ _ _ _ _); refine stop_st (ty := 32) _ _ rfl ?_) | go_values | go_skip | go_guarded | go_step | go_upon)
    refine Lib.hid ?_; refine stk_v 2 HB rfl _ _ rfl rfl rfl ?_; intro W2 hB2 hK2; have HD := Lib.hid (keepD HD.out hK2 (HB.out.get (i := 2) rfl)); have HKp := Lib.hid (HKp.out.trans hK2 (fun i _ e => by subst e; simp)); clear hK2 HB; have HB := hB2; clear hB2; dsimp only [List.set] at HB; go_simp
    repeat' (first | ((with_reducible show Oper.wp _ _ _ _ _ _); refine stop_st (ty := 4) _ _ rfl ?_) | go_values | go_skip | go_guarded | go_step | go_upon)
    refine Lib.hid ?_; refine stk_b 1 HB rfl _ _ rfl rfl rfl ?_; intro W2 hB2 hK2; have HD := Lib.hid (keepD HD.out hK2 (HB.out.get (i := 1) rfl)); have HKp := Lib.hid (HKp.out.trans hK2 (fun i _ e => by subst e; simp)); clear hK2 HB; have HB := hB2; clear hB2; dsimp only [List.set] at HB; go_simp
    repeat' (first | go_values | go_skip | go_guarded | go_step | go_upon)
    have hw0 := HS.out.at_.lt; have hBp := HB.out.putObj (o' := .deferred none) (by omega) HD.out rfl; refine leave_taken HD.out (res_lvb rfl hBp 3 2 1 rfl rfl rfl rfl rfl rfl) ?_; rw [HN.out]
    have hO2 := HO.out.keep HKp.out (F' := fun _ => False) (fun i hi hm => by
      have h1 := (own_cells HO.out _ hi).1; have h2 := bx_old_mem HS.out.old hm
      omega) (fun _ h => h.elim)
    have hO3 := hO2.keep (keep_grown (B := WL.heap.size) (grownBy_putObj' _ D (.deferred none)) fun r e => by injection e with e; subst e; exact ⟨hD, _, HD.out, rfl⟩) (F' := fun _ => False) (own_nc hO2) (fun _ h => h.elim); obtain ⟨rows, hr⟩ := own_rowB hO3 HS.out.at_.le; exact ⟨_, _, rows, rfl, HC.out, hr, hBp.bel⟩
  case stop =>
    intro D pre W hD hpre hx hK; obtain ⟨A', n', c', v, hns, hbX⟩ := hx; have hw0 := HS.out.at_.lt; have hBp := hbX.putObj (o' := .deferred none) (by omega) hK rfl; refine leave_taken hK (res_lvb rfl hBp 3 2 1 rfl rfl rfl rfl rfl rfl) ?_; rw [nsX_pre hns hpre]; exact ⟨rfl, hBp.bel⟩
end Go.Proofs.YtngkolcpbgibcaaGreatDoor
