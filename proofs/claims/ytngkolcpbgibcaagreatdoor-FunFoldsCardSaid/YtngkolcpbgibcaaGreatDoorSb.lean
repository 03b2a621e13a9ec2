/- fun.Binary's words, one behind the other, by its contract. Condition: values may be. -/
import Derived.Test.YtngkolcpbgibcaaGreatDoorN6
import Derived.Test.YtngkolcpbgibcaaGreatDoorSp
set_option linter.unusedVariables false
set_option linter.unusedSimpArgs false
namespace Go.Proofs.YtngkolcpbgibcaaGreatDoor
open Go.RowKit
def OneF (n : Nat) (x : VX) (u : Value) (W : World) : Prop := ∃ g, u = .agg (ac false (some ⟨g, 0, none⟩) 1 1).toArray ∧ n ≤ g ∧ Bk W g 32 (vc x).toArray
def TwoF (n : Nat) (x y : VX) (u : Value) (W : World) : Prop := ∃ q, u = .slice (some q) 2 2 ∧ RowF argF W (fun i => n ≤ i ∧ i < W.heap.size) (some q) 2 [(false, [x]), (false, [y])]
def oneCs : Value → List Value
  | .agg cs => cs.toList
  | _ => []
theorem onef_stable {n g2 : Nat} {x : VX} (h : g2 < n) : Stable (fun W W' => Keep (fun i => i = g2) W W') (OneF n x) := by
  rintro u W W' hK ⟨g, rfl, hg, hb⟩; exact ⟨g, rfl, hg, hK.bk hb (by omega)⟩
theorem twof_stable {n g2 : Nat} {x y : VX} (h : g2 < n) : Stable (fun W W' => Keep (fun i => i = g2) W W') (TwoF n x y) := by
  rintro u W W' hK ⟨q, rfl, hr⟩; exact ⟨q, rfl, hr.move fun i hi => ⟨⟨hi.1, Nat.lt_of_lt_of_le hi.2 hK.size⟩, hK.block i hi.2 (by omega)⟩⟩
theorem row_val {W : World} {n g : Nat} {x : VX} (hb : Bk W g 32 (vc x).toArray) (hn : n ≤ g) : RowF valF W (fun i => n ≤ i ∧ i < W.heap.size) (some ⟨g, 0, none⟩) 1 [x] := by
  refine ⟨rfl, fun _ => ⟨_, rfl, ⟨hn, hb.lt⟩, fun i y hi => ?_⟩⟩
  cases i with
  | zero =>
    simp only [List.getElem?_cons_zero, Option.some.injEq] at hi; subst hi; exact ⟨_, rfl, fun j u hu => by rw [Nat.zero_mul, Nat.zero_add, addr_zero, hb.cell]; simpa using hu⟩
  | succ i => simp at hi
theorem twof_made {W : World} {n : Nat} {x y : VX} {u v : Value} (hn : n ≤ W.heap.size) (h1 : OneF n x u W) (h2 : OneF n y v W) : TwoF n x y (.slice (some ⟨W.heap.size, 0, none⟩) 2 2) (W.alloc (.cells (oneCs u ++ oneCs v).toArray 55)) := by
  obtain ⟨ga, rfl, hga, hba⟩ := h1; obtain ⟨gb, rfl, hgb, hbb⟩ := h2; have ra := row_val (hba.alloc (.cells (oneCs (.agg (ac false (some ⟨ga, 0, none⟩) 1 1).toArray) ++ oneCs (.agg (ac false (some ⟨gb, 0, none⟩) 1 1).toArray)).toArray 55)) hga; have rb := row_val (hbb.alloc (.cells (oneCs (.agg (ac false (some ⟨ga, 0, none⟩) 1 1).toArray) ++ oneCs (.agg (ac false (some ⟨gb, 0, none⟩) 1 1).toArray)).toArray 55)) hgb; have hk := Bk.new W 55 (oneCs (.agg (ac false (some ⟨ga, 0, none⟩) 1 1).toArray) ++ oneCs (.agg (ac false (some ⟨gb, 0, none⟩) 1 1).toArray)).toArray; refine ⟨_, rfl, rfl, fun _ => ⟨_, rfl, ⟨hn, hk.lt⟩, fun i a hi => ?_⟩⟩
  have go : ∀ (j : Nat) (u : Value), (oneCs (.agg (ac false (some ⟨ga, 0, none⟩) 1 1).toArray) ++ oneCs (.agg (ac false (some ⟨gb, 0, none⟩) 1 1).toArray))[j]? = some u → (W.alloc (.cells (oneCs (.agg (ac false (some ⟨ga, 0, none⟩) 1 1).toArray) ++ oneCs (.agg (ac false (some ⟨gb, 0, none⟩) 1 1).toArray)).toArray 55)).cell? ((⟨W.heap.size, 0, none⟩ : Addr).add j) = some u := fun j u hu => by
    rw [addr_zero, hk.cell]
    simpa using hu
  match i, hi with
  | 0, hi =>
    simp only [List.getElem?_cons_zero, Option.some.injEq] at hi; subst hi
    exact ⟨_, ⟨_, 1, rfl, Nat.le_refl _, ra⟩, fun j u hu => go _ u (by
      match j, hu with
      | 0, hu => exact hu
      | 1, hu => exact hu
      | _ + 2, hu => simp [ac] at hu)⟩
  | 1, hi =>
    simp only [List.getElem?_cons_succ, List.getElem?_cons_zero, Option.some.injEq] at hi; subst hi
    exact ⟨_, ⟨_, 1, rfl, Nat.le_refl _, rb⟩, fun j u hu => go _ u (by
      match j, hu with
      | 0, hu => exact hu
      | 1, hu => exact hu
      | _ + 2, hu => simp [ac] at hu)⟩
  | _ + 2, hi => simp at hi
theorem run_bs2 {o : Oper} {a : Act} {W : World} {n : Nat} {x y : VX} {p q : Nat} (h1 : OneF n x (a.tmps.getD p undef) W) (h2 : OneF n y (a.tmps.getD q undef) W) (ho : o.op = .buildSlice 34 2 #[(0, .tmp p), (1, .tmp q)]) (hp : a.eval (.tmp p) = a.tmps.getD p undef) (hq : a.eval (.tmp q) = a.tmps.getD q undef) :
    (execOp a.eval o).run Tryz.prog W = .ok (.value (.slice (some ⟨W.heap.size, 0, none⟩) 2 2)) (W.alloc (.cells (oneCs (a.tmps.getD p undef) ++ oneCs (a.tmps.getD q undef)).toArray 55)) := by
  obtain ⟨ga, ea, -⟩ := h1; obtain ⟨gb, eb, -⟩ := h2; rw [ea] at hp ⊢; rw [eb] at hq ⊢; unfold execOp; rw [ho]; simp only [List.map_toArray, List.map_cons, List.map_nil, hp, hq]; clear ho hp hq ea eb; simp only [ac, oneCs]; go_simp
def binS (w : World) (n g0 g1 g2 : Nat) (x y : VX) (vals : List Value) (W : World) : Prop := SBN w [[(g2, 32, vc .blank), (g1, 32, vc y), (g0, 32, vc x)], [(g2, 32, vc (conN (wsX [x, y]))), (g1, 32, vc y), (g0, 32, vc x)]] vals W ∧ n ≤ W.heap.size
set_option maxRecDepth 20000 in
set_option maxHeartbeats 8000000 in
theorem bin_six {w : World} (HTn : Tens w) (HVl : Val w) {x y : VX} (hx : PV x) (hy : PV y) (kx : ¬ x.kind = 4) (ky : ¬ y.kind = 4) :
    Calls Tryz.prog 18 #[.int .i64 6, .agg (vc x).toArray, .agg (vc y).toArray] w fun e W => e = .returned (.agg (vc (conN (wsX [x, y]))).toArray) ∧ Below w.heap.size w W := by
  have HC : Hid (∀ (W : World), Below w.heap.size w W → ∀ q, RowF argF W (· < W.heap.size) (some q) 2 [(false, [x]), (false, [y])] → Calls Tryz.prog 45 #[.slice (some q) 2 2] W fun e W' => e = .returned (.agg (vc (conN (wsX [x, y]))).toArray) ∧ Below W.heap.size W W') := Lib.hid fun W hW q hr => by
    have := concat_any (HTn.below hW) (HVl.below hW) (c := 2) (args := [(false, [x]), (false, [y])]) hr (by simp) (by intro a ha; simp at ha; rcases ha with rfl | rfl <;> simp) (by intro a ha; simp at ha; rcases ha with rfl | rfl <;> (intro z hz; simp at hz; subst hz; assumption))
    rwa [show pickL [0, 1, 2, 3] [(false, [x]), (false, [y])] = [x, y] from rfl] at this
  have HB := Lib.hid (BX.start w); have kx' : (x.kind == 4) = false := by rw [beq_eq_false_iff_ne]; exact kx
  have ky' : (y.kind == 4) = false := by rw [beq_eq_false_iff_ne]; exact ky
  clear HTn HVl hx hy kx ky; go_enter Tryz.func18, Tryz.ntmps18
  repeat' (first | ((with_reducible show Oper.wp _ _ _ _ _ _); (first | ((first | refine al_v HB rfl ?_ | refine bx_v HB _ rfl rfl ?_); clear HB; (first | (have _t : Nat := g1; clear _t; intro g2 W HB) | (have _t : Nat := g0; clear _t; intro g1 W HB) | intro g0 W HB); go_simp) | ((first | refine ld_k 1 HB rfl _ rfl rfl ?_ | refine ld_k 2 HB rfl _ rfl rfl ?_); go_simp))) | go_values | go_skip | go_guarded | go_step | go_upon)
  obtain ⟨n, hn⟩ : ∃ n, n = W.heap.size := ⟨_, rfl⟩
  have hg2n : g2 < n := by rw [hn]; exact (HB.out.get (i := 0) rfl).lt
  have HN0 : Hid (n ≤ W.drew.heap.size) := Lib.hid (by rw [hn]; exact Nat.le_refl _); clear hn
  refine wp_region_phases (S := binS w n g0 g1 g2 x y) (E := (fun W W' => Keep (fun i => i = g2) W W')) [6] [(4, Is (.pointer (some ⟨g0, 0, none⟩))), (5, Is (.pointer (some ⟨g1, 0, none⟩))), (6, Is (.pointer (some ⟨g2, 0, none⟩)))] [(30, Is (.agg (vc x).toArray)), (31, OneF n x), (32, Is (.agg (vc y).toArray)), (33, OneF n y), (34, TwoF n x y), (35, Is (.agg (vc (conN (wsX [x, y]))).toArray))]
    [.op [4] none, .op [30] none, .op [5] none, .op [32] none, .op [31, 33] none, .op [34] none, .phase 0 [6, 35] []] (by as_aux_lemma => kernel_rfl) ?_ ?_ ?_ ?_ ?_ ⟨stable_is _ _, stable_is _ _, stable_is _ _, stable_is _ _, onef_stable hg2n, stable_is _ _, onef_stable hg2n, twof_stable hg2n, stable_is _ _, trivial⟩ ?_ ⟨HB.out.drew, HN0.out⟩ ?_ ?_
  · as_aux_lemma => kernel_rfl
  · as_aux_lemma => kernel_rfl
  · as_aux_lemma => kernel_rfl
  · as_aux_lemma => kernel_rfl
  · as_aux_lemma => kernel_rfl
  · exact ⟨rfl, rfl, rfl, trivial⟩
  · refine ⟨?_, ?_, ?_, ?_, ?_, ?_, ?_, trivial⟩
    · as_aux_lemma => intro vals a W hS hL; have e4 : a.tmps.getD 4 undef = .pointer (some ⟨g0, 0, none⟩) := hL.1; clear hL; refine lands_v (run_ldg rtV (hS.1.get 2 ⟨rfl, rfl, trivial⟩) (.tmp 4) rfl e4) ?_; exact ⟨dstY (by rfl), hS, Keep.refl _ _⟩
    · as_aux_lemma => intro vals a W hS hL; have e30 : a.tmps.getD 30 undef = .agg (vc x).toArray := hL.1; clear hL; go_simp; refine (fOne_any (w := W) x).mono ?_; rintro e W2 ⟨g, hg, rfl, hbk, hb⟩; exact ⟨_, rfl, ⟨fun d hd => by injection hd with hd; subst hd; exact ⟨g, rfl, Nat.le_trans hS.2 hg, hbk⟩, fun h => by cases h⟩, ⟨hS.1.call hb, Nat.le_trans hS.2 hb.size⟩, (Keep.of_below hb fun i hi hB => by omega)⟩
    · as_aux_lemma => intro vals a W hS hL; have e5 : a.tmps.getD 5 undef = .pointer (some ⟨g1, 0, none⟩) := hL.1; clear hL; refine lands_v (run_ldg rtV (hS.1.get 1 ⟨rfl, rfl, trivial⟩) (.tmp 5) rfl e5) ?_; exact ⟨dstY (by rfl), hS, Keep.refl _ _⟩
    · as_aux_lemma => intro vals a W hS hL; have e32 : a.tmps.getD 32 undef = .agg (vc y).toArray := hL.1; clear hL; go_simp; refine (fOne_any (w := W) y).mono ?_; rintro e W2 ⟨g, hg, rfl, hbk, hb⟩; exact ⟨_, rfl, ⟨fun d hd => by injection hd with hd; subst hd; exact ⟨g, rfl, Nat.le_trans hS.2 hg, hbk⟩, fun h => by cases h⟩, ⟨hS.1.call hb, Nat.le_trans hS.2 hb.size⟩, (Keep.of_below hb fun i hi hB => by omega)⟩
    · as_aux_lemma => intro vals a W hS hL; have e31 := hL.1; have e33 := hL.2.1; clear hL; refine lands_v (run_bs2 e31 e33 rfl rfl rfl) ?_; have hb := bel0 W (.cells (oneCs (a.tmps.getD 31 undef) ++ oneCs (a.tmps.getD 33 undef)).toArray 55); exact ⟨⟨fun d hd => by injection hd with hd; subst hd; exact twof_made hS.2 e31 e33, fun h => by cases h⟩, ⟨hS.1.call hb, Nat.le_trans hS.2 hb.size⟩, (Keep.of_below hb fun i hi hB => by omega)⟩
    · as_aux_lemma => intro vals a W hS hL; have e34 := hL.1; clear hL; obtain ⟨q, hq, hrow⟩ := e34; go_simp; refine (HC.out W hS.1.bel q (hrow.move (Move.wide fun i hi => hi.2))).mono ?_; rintro e W2 ⟨rfl, hb⟩; exact ⟨_, rfl, dstY (by rfl), ⟨hS.1.call hb, Nat.le_trans hS.2 hb.size⟩, (Keep.of_below hb fun i hi hB => by omega)⟩
    · as_aux_lemma =>
        intro a W vals hv hS hL hp; have e6 : a.tmps.getD 6 undef = .pointer (some ⟨g2, 0, none⟩) := hL.1; have e35 : a.tmps.getD 35 undef = .agg (vc (conN (wsX [x, y]))).toArray := hL.2.1; clear hL
        match vals, hv, hS with
        | [], _, hS =>
          refine lands_s (run_sts_v (show BX w [(g2, 32, vc .blank), (g1, 32, vc y), (g0, 32, vc x)] W from hS.1) (i := 0) rfl (.tmp 6) (.tmp 35) rfl e6 e35) ⟨⟨BX.turn (show BX w [(g2, 32, vc .blank), (g1, 32, vc y), (g0, 32, vc x)] W from hS.1) (i := 0) rfl (bk_setv (BX.get (show BX w [(g2, 32, vc .blank), (g1, 32, vc y), (g0, 32, vc x)] W from hS.1) (i := 0) rfl)) (setCells_keep _ _ _), by rw [setCells_size]; exact hS.2⟩, trivial, setCells_keep _ _ _⟩
  · intro a W vals hd hsz hT hF hv hP hS
    obtain ⟨v0, rfl⟩ : ∃ v0, vals = [v0] := by
      match vals, hv with
      | [xv0], _ => exact ⟨xv0, rfl⟩
    have HB : Hid (BX w [(g2, 32, vc (conN (wsX [x, y]))), (g1, 32, vc y), (g0, 32, vc x)] W) := Lib.hid hS.1; have e4 : a.tmps.getD 4 undef = .pointer (some ⟨g0, 0, none⟩) := hT 4 (by simp); have e5 : a.tmps.getD 5 undef = .pointer (some ⟨g1, 0, none⟩) := hT 5 (by simp); have e6 : a.tmps.getD 6 undef = .pointer (some ⟨g2, 0, none⟩) := hT 6 (by simp); clear hT hF hP hS; rw [act_lit 50 a hd hsz]; simp only [List.range, List.range.loop, List.map, e4, e5, e6]; clear e4 e5 e6 hsz hd; generalize a.tmps.getD 0 undef = y0, a.tmps.getD 1 undef = y1, a.tmps.getD 2 undef = y2, a.tmps.getD 3 undef = y3, a.tmps.getD 7 undef = y7, a.tmps.getD 8 undef = y8, a.tmps.getD 9 undef = y9, a.tmps.getD 10 undef = y10, a.tmps.getD 11 undef = y11, a.tmps.getD 12 undef = y12, a.tmps.getD 13 undef = y13, a.tmps.getD 14 undef = y14, a.tmps.getD 15 undef = y15, a.tmps.getD 16 undef = y16, a.tmps.getD 17 undef = y17, a.tmps.getD 18 undef = y18, a.tmps.getD 19 undef = y19, a.tmps.getD 20 undef = y20, a.tmps.getD 21 undef = y21, a.tmps.getD 22 undef = y22, a.tmps.getD 23 undef = y23, a.tmps.getD 24 undef = y24, a.tmps.getD 25 undef = y25, a.tmps.getD 26 undef = y26, a.tmps.getD 27 undef = y27, a.tmps.getD 28 undef = y28, a.tmps.getD 29 undef = y29, a.tmps.getD 30 undef = y30, a.tmps.getD 31 undef = y31, a.tmps.getD 32 undef = y32, a.tmps.getD 33 undef = y33, a.tmps.getD 34 undef = y34, a.tmps.getD 35 undef = y35, a.tmps.getD 36 undef = y36, a.tmps.getD 37 undef = y37, a.tmps.getD 38 undef = y38, a.tmps.getD 39 undef = y39, a.tmps.getD 40 undef = y40, a.tmps.getD 41 undef = y41, a.tmps.getD 42 undef = y42, a.tmps.getD 43 undef = y43, a.tmps.getD 44 undef = y44, a.tmps.getD 45 undef = y45, a.tmps.getD 46 undef = y46, a.tmps.getD 47 undef = y47, a.tmps.getD 48 undef = y48, a.tmps.getD 49 undef = y49
    repeat' (first | go_values | go_skip | go_guarded | go_step | go_upon)
    exact bodyPost_ret (res_v rfl HB (i := 0) rfl rfl) rfl ⟨rfl, HB.out.bel⟩
end Go.Proofs.YtngkolcpbgibcaaGreatDoor
