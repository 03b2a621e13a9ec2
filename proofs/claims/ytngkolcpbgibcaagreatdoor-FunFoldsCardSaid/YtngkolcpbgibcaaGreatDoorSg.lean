/- Signs: what they tell, plainly; fun's signed, power, holds, Unary, reckon by their contracts. Condition: numbers may be. -/
import Derived.Test.YtngkolcpbgibcaaGreatDoorF9m
set_option linter.unusedVariables false
set_option linter.unusedSimpArgs false
namespace Go.Proofs.YtngkolcpbgibcaaGreatDoor
open Go.RowKit
theorem gd_hun : Gd 100 0 := ⟨by decide, by decide, by decide, .inl rfl⟩
def usN (op : Int) : NR → VX
  | .no v => v
  | .ok m s => if op = 1 then reckX (subD 0 0 m s) else reckX (divX m s 100 0)
def usX (op : Int) (x : VX) : VX := if op = 2 then x else if op = 1 ∨ op = 3 then usN op (numX x) else .err 15
def powL (m : Int) (s : Nat) : Nat → DR
  | 0 => ⟨1, 0, 0⟩
  | i + 1 => if (powL m s i).e = 0 then mulD (powL m s i).m (powL m s i).s m s else powL m s i
def powT (m : Int) (s : Nat) (n : Int) : VX := if (powL m s n.natAbs).e = 0 then (if n < 0 then reckX (divX 1 0 (powL m s n.natAbs).m (powL m s n.natAbs).s) else .num (powL m s n.natAbs).m (powL m s n.natAbs).s) else reckX (powL m s n.natAbs)
def powX (m : Int) (s : Nat) (n : Int) (t : Nat) : VX := if t = 0 ∧ -64 ≤ n ∧ n ≤ 64 then powT m s n else .err 36
theorem powL_gd {m : Int} {s : Nat} : ∀ i, (powL m s i).e = 0 → Gd (powL m s i).m (powL m s i).s
  | 0, _ => (⟨by decide, by decide, by decide, .inl rfl⟩ : Gd 1 0)
  | i + 1, h => by
    rw [powL] at h ⊢
    split at h
    · rename_i h0
      rw [if_pos h0]; exact (tl_ok (by omega) h).1
    · rename_i h0
      exact absurd h h0
theorem powL_stop {m : Int} {s i : Nat} (h : (powL m s i).e ≠ 0) : ∀ j, i ≤ j → powL m s j = powL m s i
  | 0, hj => by rw [Nat.le_zero.1 hj]
  | j + 1, hj => by
    by_cases e : i = j + 1
    · rw [e]
    · have := powL_stop h j (by omega); rw [powL, this, if_neg h]
theorem powL_next {m : Int} {s i : Nat} (h : (powL m s i).e = 0) : powL m s (i + 1) = mulD (powL m s i).m (powL m s i).s m s := by rw [powL, if_pos h]
def holdsB (op c : Int) : Bool := if op = 7 then c == 0 else if op = 8 then c != 0 else if op = 9 then decide (c < 0) else if op = 10 then decide (c ≤ 0) else if op = 11 then decide (0 < c) else decide (0 ≤ c)
def rkN (op : Int) (m : Int) (s : Nat) (n : Int) (t : Nat) : VX := if op = 1 then reckX (addD m s n t) else if op = 2 then reckX (subD m s n t) else if op = 3 then reckX (mulD m s n t) else if op = 4 then reckX (divX m s n t) else powX m s n t
def rkX (op : Int) : NN → VX
  | .no v => v
  | .ok m s n t => rkN op m s n t
set_option maxRecDepth 20000 in
set_option maxHeartbeats 4000000 in
theorem signed_any {w : World} {op : Int} {x : VX} (hx : shortX 100000000 x) (hg : GdX x) :
    Calls Tryz.prog 80 #[.int .i64 op, .agg (vc x).toArray] w fun e W => e = .returned (.agg (vc (usN op (numX x))).toArray) ∧ Below w.heap.size w W := by
  have HB := Lib.hid (BX.start w)
  cases hn : numX x with
  | no v =>
    have HN := Lib.hid (number_no hx hn); clear hx hg hn; simp only [usN]; go_enter Tryz.func80, Tryz.ntmps80
    repeat' (first | ((with_reducible show Oper.wp _ _ _ _ _ _); (first | ((first | refine al_v HB rfl ?_ | refine bx_v HB _ rfl rfl ?_); clear HB; (first | (have _t : Nat := g0; clear _t; intro g1 W HB) | intro g0 W HB); go_simp) | (refine ld_v 1 HB rfl _ rfl rfl ?_; go_simp))) | go_values | go_skip | go_guarded | go_step | go_upon)
    refine (HN.out _).mono ?_; rintro e W1 ⟨rfl, hb⟩; have HB := Lib.hid (HB.out.call hb); clear hb; dsimp only
    repeat' (first | ((with_reducible show Oper.wp _ _ _ _ _ _); (first | ((first | refine al_v HB rfl ?_ | refine al_d HB rfl ?_); clear HB; (first | (have _t : Nat := g2; clear _t; intro g3 W HB) | (have _t : Nat := g1; clear _t; intro g2 W HB)); go_simp) | (refine ld_v 0 HB rfl _ rfl rfl ?_; go_simp) | ((first | refine st_v 0 HB rfl _ _ rfl rfl rfl ?_ | refine st_v 2 HB rfl _ _ rfl rfl rfl ?_ | refine st_d 1 HB rfl _ _ rfl rfl rfl ?_); clear HB; intro W HB; dsimp only [List.set] at HB; go_simp))) | go_values | go_skip | go_guarded | go_step | go_upon)
    exact bodyPost_ret (res_v rfl HB (i := 2) rfl rfl) rfl ⟨rfl, HB.out.bel⟩
  | ok m s =>
    have HN := Lib.hid (number_ok hx hn); have hg := hg m s hn; clear hx hn
    by_cases h1 : op = 1
    · subst h1; rw [show usN 1 (.ok m s) = reckX (subD 0 0 m s) from rfl]; have HC := Lib.hid (sub_r gd_zero hg); generalize subD 0 0 m s = r at *; simp only [drV] at HC; clear hg; go_enter Tryz.func80, Tryz.ntmps80
      repeat' (first | ((with_reducible show Oper.wp _ _ _ _ _ _); (first | ((first | refine al_v HB rfl ?_ | refine bx_v HB _ rfl rfl ?_); clear HB; (first | (have _t : Nat := g0; clear _t; intro g1 W HB) | intro g0 W HB); go_simp) | (refine ld_v 1 HB rfl _ rfl rfl ?_; go_simp))) | go_values | go_skip | go_guarded | go_step | go_upon)
      refine (HN.out _).mono ?_; rintro e W1 ⟨rfl, hb⟩; have HB := Lib.hid (HB.out.call hb); clear hb; dsimp only
      repeat' (first | ((with_reducible show Oper.wp _ _ _ _ _ _); (first | ((first | refine al_v HB rfl ?_ | refine al_d HB rfl ?_); clear HB; (first | (have _t : Nat := g2; clear _t; intro g3 W HB) | (have _t : Nat := g1; clear _t; intro g2 W HB)); go_simp) | ((first | refine st_v 0 HB rfl _ _ rfl rfl rfl ?_ | refine st_d 1 HB rfl _ _ rfl rfl rfl ?_); clear HB; intro W HB; dsimp only [List.set] at HB; go_simp) | (apply stop_bd; exact rfl))) | go_values | go_skip | go_guarded | go_step | go_upon)
      refine Lib.hid ?_; refine wp_b (v := .agg (dc 0 (0 : Nat)).toArray) (by kernel_rfl) ?_; go_simp
      repeat' (first | ((with_reducible show Oper.wp _ _ _ _ _ _); refine ld_d 1 HB rfl _ rfl rfl ?_; go_simp) | go_values | go_skip | go_guarded | go_step | go_upon)
      refine (HC.out _).mono ?_; rintro e W1 ⟨rfl, hb⟩; have HB := Lib.hid (HB.out.call hb); clear hb; dsimp only
      repeat' (first | go_values | go_skip | go_guarded | go_step | go_upon)
      refine (reckoned_any r).mono ?_; rintro e W1 ⟨rfl, hb⟩; have HB := Lib.hid (HB.out.call hb); clear hb; dsimp only
      repeat' (first | ((with_reducible show Oper.wp _ _ _ _ _ _); refine st_v 2 HB rfl _ _ rfl rfl rfl ?_; clear HB; intro W HB; dsimp only [List.set] at HB; go_simp) | go_values | go_skip | go_guarded | go_step | go_upon)
      exact bodyPost_ret (res_v rfl HB (i := 2) rfl rfl) rfl ⟨rfl, HB.out.bel⟩
    · have h1' : (op == 1) = false := by rw [beq_eq_false_iff_ne]; exact h1
      rw [show usN op (.ok m s) = reckX (divX m s 100 0) by simp only [usN]; rw [if_neg h1]]; have HC := Lib.hid (div_r hg gd_hun); generalize divX m s 100 0 = r at *; simp only [drV] at HC; clear hg h1; go_enter Tryz.func80, Tryz.ntmps80
      repeat' (first | ((with_reducible show Oper.wp _ _ _ _ _ _); (first | ((first | refine al_v HB rfl ?_ | refine bx_v HB _ rfl rfl ?_); clear HB; (first | (have _t : Nat := g0; clear _t; intro g1 W HB) | intro g0 W HB); go_simp) | (refine ld_v 1 HB rfl _ rfl rfl ?_; go_simp))) | go_values | go_skip | go_guarded | go_step | go_upon)
      refine (HN.out _).mono ?_; rintro e W1 ⟨rfl, hb⟩; have HB := Lib.hid (HB.out.call hb); clear hb; dsimp only
      repeat' (first | ((with_reducible show Oper.wp _ _ _ _ _ _); (first | ((first | refine al_v HB rfl ?_ | refine al_d HB rfl ?_); clear HB; (first | (have _t : Nat := g2; clear _t; intro g3 W HB) | (have _t : Nat := g1; clear _t; intro g2 W HB)); go_simp) | ((first | refine st_v 0 HB rfl _ _ rfl rfl rfl ?_ | refine st_d 1 HB rfl _ _ rfl rfl rfl ?_); clear HB; intro W HB; dsimp only [List.set] at HB; go_simp))) | go_values | go_skip | go_guarded | go_step | go_upon)
      refine wp_region_phases (S := (SBN w [[(g3, 32, vc .blank), (g2, 30, dc m s), (g1, 32, vc .blank), (g0, 32, vc x)], [(g3, 32, vc .blank), (g2, 30, dc m s), (g1, 32, vc (reckX r)), (g0, 32, vc x)]])) (E := (fun _ _ => True)) [6] [(4, Is (.pointer (some ⟨g1, 0, none⟩))), (5, Is (.pointer (some ⟨g2, 0, none⟩)))] [(27, Is (.agg (dc m s).toArray)), (28, Is (.agg (dc 100 (0 : Nat)).toArray)), (29, Is (.tuple #[.agg (dc r.m (r.s : Nat)).toArray, .int .i64 (r.e : Nat)])), (30, Is (.agg (dc r.m (r.s : Nat)).toArray)), (31, Is (.int .i64 (r.e : Nat))), (32, Is (.agg (vc (reckX r)).toArray))]
        [.op [5] none, .op [] none, .op [27, 28] none, .op [29] none, .op [29] none, .op [30, 31] none, .phase 0 [4, 32] []] (by as_aux_lemma => kernel_rfl) ?_ ?_ ?_ ?_ ?_ ⟨stable_is _ _, stable_is _ _, stable_is _ _, stable_is _ _, stable_is _ _, stable_is _ _, stable_is _ _, stable_is _ _, trivial⟩ ?_ HB.out.drew ?_ ?_
      · as_aux_lemma => kernel_rfl
      · as_aux_lemma => kernel_rfl
      · as_aux_lemma => kernel_rfl
      · as_aux_lemma => kernel_rfl
      · as_aux_lemma => kernel_rfl
      · exact ⟨rfl, rfl, trivial⟩
      · refine ⟨?_, ?_, ?_, ?_, ?_, ?_, ?_, trivial⟩
        · as_aux_lemma => intro vals a W hS hL; have e5 : a.tmps.getD 5 undef = .pointer (some ⟨g2, 0, none⟩) := hL.1; clear hL; refine lands_v (run_ldg rtDec (hS.get 1 ⟨rfl, rfl, trivial⟩) (.tmp 5) rfl e5) ?_; exact ⟨dstY (by rfl), hS, trivial⟩
        · as_aux_lemma => intro vals a W hS hL; clear hL; go_simp; refine (fInt (w := W) 100).mono ?_; rintro e W2 ⟨rfl, hb⟩; exact ⟨_, rfl, dstY (by rfl), hS.call hb, trivial⟩
        · as_aux_lemma => intro vals a W hS hL; have e27 : a.tmps.getD 27 undef = .agg (dc m s).toArray := hL.1; have e28 : a.tmps.getD 28 undef = .agg (dc 100 (0 : Nat)).toArray := hL.2.1; clear hL; go_simp; refine (HC.out W).mono ?_; rintro e W2 ⟨rfl, hb⟩; exact ⟨_, rfl, dstY (by rfl), hS.call hb, trivial⟩
        · as_aux_lemma => intro vals a W hS hL; have e29 : a.tmps.getD 29 undef = .tuple #[.agg (dc r.m (r.s : Nat)).toArray, .int .i64 (r.e : Nat)] := hL.1; clear hL; go_simp; exact ⟨dstY (by rfl), hS, trivial⟩
        · as_aux_lemma => intro vals a W hS hL; have e29 : a.tmps.getD 29 undef = .tuple #[.agg (dc r.m (r.s : Nat)).toArray, .int .i64 (r.e : Nat)] := hL.1; clear hL; go_simp; exact ⟨dstY (by rfl), hS, trivial⟩
        · as_aux_lemma => intro vals a W hS hL; have e30 : a.tmps.getD 30 undef = .agg (dc r.m (r.s : Nat)).toArray := hL.1; have e31 : a.tmps.getD 31 undef = .int .i64 (r.e : Nat) := hL.2.1; clear hL; go_simp; refine (reckoned_any (w := W) r).mono ?_; rintro e W2 ⟨rfl, hb⟩; exact ⟨_, rfl, dstY (by rfl), hS.call hb, trivial⟩
        · as_aux_lemma =>
            intro a W vals hv hS hL hp; have e4 : a.tmps.getD 4 undef = .pointer (some ⟨g1, 0, none⟩) := hL.1; have e32 : a.tmps.getD 32 undef = .agg (vc (reckX r)).toArray := hL.2.1; clear hL
            match vals, hv, hS with
            | [], _, hS =>
              refine lands_stg (vs := vc (reckX r)) rtV (vc_one _) (i := 2) (show BX w [(g3, 32, vc .blank), (g2, 30, dc m s), (g1, 32, vc .blank), (g0, 32, vc x)] W from hS) rfl ((vc_len _).trans (vc_len _).symm) (.tmp 4) (.tmp 32) rfl e4 e32 fun W2 h2 => ?_; exact ⟨h2, trivial, trivial⟩
      · intro a W vals hd hsz hT hF hv hP hS
        obtain ⟨v0, rfl⟩ : ∃ v0, vals = [v0] := by
          match vals, hv with
          | [xv0], _ => exact ⟨xv0, rfl⟩
        have HB : Hid (BX w [(g3, 32, vc .blank), (g2, 30, dc m s), (g1, 32, vc (reckX r)), (g0, 32, vc x)] W) := Lib.hid hS; have e4 : a.tmps.getD 4 undef = .pointer (some ⟨g1, 0, none⟩) := hT 4 (by simp); have e5 : a.tmps.getD 5 undef = .pointer (some ⟨g2, 0, none⟩) := hT 5 (by simp); clear hT hF hP hS; rw [act_lit 33 a hd hsz]; simp only [List.range, List.range.loop, List.map, e4, e5]; clear e4 e5 hsz hd; generalize a.tmps.getD 0 undef = y0, a.tmps.getD 1 undef = y1, a.tmps.getD 2 undef = y2, a.tmps.getD 3 undef = y3, a.tmps.getD 6 undef = y6, a.tmps.getD 7 undef = y7, a.tmps.getD 8 undef = y8, a.tmps.getD 9 undef = y9, a.tmps.getD 10 undef = y10, a.tmps.getD 11 undef = y11, a.tmps.getD 12 undef = y12, a.tmps.getD 13 undef = y13, a.tmps.getD 14 undef = y14, a.tmps.getD 15 undef = y15, a.tmps.getD 16 undef = y16, a.tmps.getD 17 undef = y17, a.tmps.getD 18 undef = y18, a.tmps.getD 19 undef = y19, a.tmps.getD 20 undef = y20, a.tmps.getD 21 undef = y21, a.tmps.getD 22 undef = y22, a.tmps.getD 23 undef = y23, a.tmps.getD 24 undef = y24, a.tmps.getD 25 undef = y25, a.tmps.getD 26 undef = y26, a.tmps.getD 27 undef = y27, a.tmps.getD 28 undef = y28, a.tmps.getD 29 undef = y29, a.tmps.getD 30 undef = y30, a.tmps.getD 31 undef = y31, a.tmps.getD 32 undef = y32
        repeat' (first | go_values | go_skip | go_guarded | go_step | go_upon)
        exact bodyPost_ret (res_v rfl HB (i := 2) rfl rfl) rfl ⟨rfl, HB.out.bel⟩
set_option maxRecDepth 20000 in
set_option maxHeartbeats 4000000 in
theorem fUnary_any {w : World} {op : Int} {x : VX} (hx : shortX 100000000 x) (hg : GdX x) :
    Calls Tryz.prog 20 #[.int .i64 op, .agg (vc x).toArray] w fun e W => e = .returned (.agg (vc (usX op x)).toArray) ∧ Below w.heap.size w W := by
  have HB := Lib.hid (BX.start w); have HS : Hid (∀ (k : Int) (W : World), Calls Tryz.prog 80 #[.int .i64 k, .agg (vc x).toArray] W fun e W' => e = .returned (.agg (vc (usN k (numX x))).toArray) ∧ Below W.heap.size W W') := Lib.hid fun k W => signed_any hx hg; clear hx hg
  by_cases h1 : op = 1
  · subst h1; rw [show usX 1 x = usN 1 (numX x) from rfl]; go_enter Tryz.func20, Tryz.ntmps20
    repeat' (first | ((with_reducible show Oper.wp _ _ _ _ _ _); (first | ((first | refine al_v HB rfl ?_ | refine bx_v HB _ rfl rfl ?_); clear HB; (first | (have _t : Nat := g0; clear _t; intro g1 W HB) | intro g0 W HB); go_simp) | (refine ld_v 1 HB rfl _ rfl rfl ?_; go_simp))) | go_values | go_skip | go_guarded | go_step | go_upon)
    refine (HS.out 1 _).mono ?_; rintro e W1 ⟨rfl, hb⟩; have HB := Lib.hid (HB.out.call hb); clear hb; dsimp only
    repeat' (first | ((with_reducible show Oper.wp _ _ _ _ _ _); refine st_v 0 HB rfl _ _ rfl rfl rfl ?_; clear HB; intro W HB; dsimp only [List.set] at HB; go_simp) | go_values | go_skip | go_guarded | go_step | go_upon)
    exact bodyPost_ret (res_v rfl HB (i := 0) rfl rfl) rfl ⟨rfl, HB.out.bel⟩
  · by_cases h3 : op = 3
    · subst h3; rw [show usX 3 x = usN 3 (numX x) from rfl]; go_enter Tryz.func20, Tryz.ntmps20
      repeat' (first | ((with_reducible show Oper.wp _ _ _ _ _ _); (first | ((first | refine al_v HB rfl ?_ | refine bx_v HB _ rfl rfl ?_); clear HB; (first | (have _t : Nat := g0; clear _t; intro g1 W HB) | intro g0 W HB); go_simp) | (refine ld_v 1 HB rfl _ rfl rfl ?_; go_simp))) | go_values | go_skip | go_guarded | go_step | go_upon)
      refine (HS.out 3 _).mono ?_; rintro e W1 ⟨rfl, hb⟩; have HB := Lib.hid (HB.out.call hb); clear hb; dsimp only
      repeat' (first | ((with_reducible show Oper.wp _ _ _ _ _ _); refine st_v 0 HB rfl _ _ rfl rfl rfl ?_; clear HB; intro W HB; dsimp only [List.set] at HB; go_simp) | go_values | go_skip | go_guarded | go_step | go_upon)
      exact bodyPost_ret (res_v rfl HB (i := 0) rfl rfl) rfl ⟨rfl, HB.out.bel⟩
    · by_cases h2 : op = 2
      · subst h2; rw [show usX 2 x = x from rfl]; go_enter Tryz.func20, Tryz.ntmps20
        repeat' (first | ((with_reducible show Oper.wp _ _ _ _ _ _); (first | ((first | refine al_v HB rfl ?_ | refine bx_v HB _ rfl rfl ?_); clear HB; (first | (have _t : Nat := g0; clear _t; intro g1 W HB) | intro g0 W HB); go_simp) | (refine ld_v 1 HB rfl _ rfl rfl ?_; go_simp) | (refine st_v 0 HB rfl _ _ rfl rfl rfl ?_; clear HB; intro W HB; dsimp only [List.set] at HB; go_simp))) | go_values | go_skip | go_guarded | go_step | go_upon)
        exact bodyPost_ret (res_v rfl HB (i := 0) rfl rfl) rfl ⟨rfl, HB.out.bel⟩
      · have h1' : (op == 1) = false := by rw [beq_eq_false_iff_ne]; exact h1
        have h2' : (op == 2) = false := by rw [beq_eq_false_iff_ne]; exact h2
        have h3' : (op == 3) = false := by rw [beq_eq_false_iff_ne]; exact h3
        rw [show usX op x = .err 15 by unfold usX; rw [if_neg h2, if_neg (by omega)]]; clear h1 h2 h3 HS; go_enter Tryz.func20, Tryz.ntmps20
        repeat' (first | ((with_reducible show Oper.wp _ _ _ _ _ _); (first | refine al_v HB rfl ?_ | refine bx_v HB _ rfl rfl ?_); clear HB; (first | (have _t : Nat := g0; clear _t; intro g1 W HB) | intro g0 W HB); go_simp) | go_values | go_skip | go_guarded | go_step | go_upon)
        refine (fFault 15).mono ?_; rintro e W1 ⟨rfl, hb⟩; have HB := Lib.hid (HB.out.call hb); clear hb; dsimp only
        repeat' (first | ((with_reducible show Oper.wp _ _ _ _ _ _); refine st_v 0 HB rfl _ _ rfl rfl rfl ?_; clear HB; intro W HB; dsimp only [List.set] at HB; go_simp) | go_values | go_skip | go_guarded | go_step | go_upon)
        exact bodyPost_ret (res_v rfl HB (i := 0) rfl rfl) rfl ⟨rfl, HB.out.bel⟩
set_option maxRecDepth 20000 in
set_option maxHeartbeats 4000000 in
theorem holds_any {w : World} (op c : Int) :
    Calls Tryz.prog 68 #[.int .i64 op, .int .i64 c] w fun e W => e = .returned (.bool (holdsB op c)) ∧ Below w.heap.size w W := by
  have HB := Lib.hid (BX.start w)
  by_cases h7 : op = 7
  · subst h7; rw [show holdsB 7 c = (c == 0) from rfl]; go_enter Tryz.func68, Tryz.ntmps68
    repeat' (first | go_values | go_skip | go_guarded | go_step | go_upon)
    go_ret; exact ⟨by simp, HB.out.bel⟩
  · by_cases h8 : op = 8
    · subst h8; rw [show holdsB 8 c = (c != 0) from rfl]; go_enter Tryz.func68, Tryz.ntmps68
      repeat' (first | go_values | go_skip | go_guarded | go_step | go_upon)
      go_ret; exact ⟨by simp, HB.out.bel⟩
    · by_cases h9 : op = 9
      · subst h9; rw [show holdsB 9 c = decide (c < 0) from rfl]; go_enter Tryz.func68, Tryz.ntmps68
        repeat' (first | go_values | go_skip | go_guarded | go_step | go_upon)
        go_ret; exact ⟨by simp, HB.out.bel⟩
      · by_cases h10 : op = 10
        · subst h10; rw [show holdsB 10 c = decide (c ≤ 0) from rfl]; go_enter Tryz.func68, Tryz.ntmps68
          repeat' (first | go_values | go_skip | go_guarded | go_step | go_upon)
          go_ret; exact ⟨by simp, HB.out.bel⟩
        · by_cases h11 : op = 11
          · subst h11; rw [show holdsB 11 c = decide (0 < c) from rfl]; go_enter Tryz.func68, Tryz.ntmps68
            repeat' (first | go_values | go_skip | go_guarded | go_step | go_upon)
            go_ret; exact ⟨by simp, HB.out.bel⟩
          · have h7' : (op == 7) = false := by rw [beq_eq_false_iff_ne]; exact h7
            have h8' : (op == 8) = false := by rw [beq_eq_false_iff_ne]; exact h8
            have h9' : (op == 9) = false := by rw [beq_eq_false_iff_ne]; exact h9
            have h10' : (op == 10) = false := by rw [beq_eq_false_iff_ne]; exact h10
            have h11' : (op == 11) = false := by rw [beq_eq_false_iff_ne]; exact h11
            rw [show holdsB op c = decide (0 ≤ c) by unfold holdsB; rw [if_neg h7, if_neg h8, if_neg h9, if_neg h10, if_neg h11]]; clear h7 h8 h9 h10 h11; go_enter Tryz.func68, Tryz.ntmps68
            repeat' (first | go_values | go_skip | go_guarded | go_step | go_upon)
            go_ret; exact ⟨by simp, HB.out.bel⟩
end Go.Proofs.YtngkolcpbgibcaaGreatDoor
