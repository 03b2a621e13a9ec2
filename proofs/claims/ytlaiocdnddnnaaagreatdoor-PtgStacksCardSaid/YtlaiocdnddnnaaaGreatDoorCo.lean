/- expr.checkOne by its contract. Conditions: utf8.ValidString keeps its contract; a text's length is one. -/
import Derived.Test.YtlaiocdnddnnaaaGreatDoorOt
import Derived.Test.YtlaiocdnddnnaaaGreatDoorAl
import Derived.Test.YtlaiocdnddnnaaaGreatDoorNf
set_option linter.unusedVariables false
set_option linter.unusedSimpArgs false
namespace Go.Proofs.YtlaiocdnddnnaaaGreatDoor
open Go.RowKit
def kp (k : Int) : Pay := { zp with kind := k }
def oneR (p : Pay) (n : Nat) : Int :=
  if p.kind = 1 then ccE (ckV p.vk p.vm p.vs p.vt p.vb p.ve) p.vk
  else if p.kind = 2 ∨ p.kind = 3 ∨ p.kind = 4 ∨ p.kind = 5 then cpE (ckA p.r1 p.c1 p.r2 p.c2) p.sheet
  else if p.kind = 6 ∨ p.kind = 7 ∨ p.kind = 8 ∨ p.kind = 9 ∨ p.kind = 10 then opE p.kind p.op n else 1
def oneE (p : Pay) (n : Nat) : Int :=
  if alikeB (othP p) (kp p.kind) (othN p n) 0 = false then 1 else oneR p n
theorem checkOp_any {w : World} {p : Pay} (hk : p.kind = 6 ∨ p.kind = 7 ∨ p.kind = 8 ∨ p.kind = 9 ∨ p.kind = 10) (A : Option Addr) (n c : Nat) :
    Calls Tryz.prog 67 #[.agg (ec p (.slice A n c)).toArray] w fun x W => x = .returned (.int .i64 (opE p.kind p.op n)) ∧ Below w.heap.size w W := by
  rcases hk with h | h | h | h | h
  · rw [h]; exact checkOp_6 h A n c
  · rw [h]; exact checkOp_7 h A n c
  · rw [h]; exact checkOp_8 h A n c
  · rw [h]; exact checkOp_9 h A n c
  · rw [h]; exact checkOp_10 h A n c
set_option maxRecDepth 20000 in
set_option maxHeartbeats 4000000 in
theorem one_odd {w : World} (HV : Val w) (p : Pay) (A : Option Addr) (n c : Nat) (ht : p.vt.size ≤ 140737488355328) (hal : alikeB (othP p) (kp p.kind) (othN p n) 0 = false) :
    Calls Tryz.prog 39 #[.agg (ec p (.slice A n c)).toArray] w fun x W => x = .returned (.int .i64 1) ∧ Below w.heap.size w W := by
  obtain ⟨A2, c2, hO⟩ := others_any p A n c; have HO := Lib.hid hO
  have HA : Hid (∀ W : World, Calls Tryz.prog 63 #[.agg (ec (othP p) (.slice A2 (othN p n) c2)).toArray, .agg (ec (kp p.kind) (.slice none 0 0)).toArray] W fun x W' => x = .returned (.bool false) ∧ Below W.heap.size W W') := Lib.hid fun W => by
    have := alike_any (w := W) (othP p) (kp p.kind) A2 none (othN p n) c2 0 0
    rwa [hal] at this
  clear hO hal; generalize othN p n = n2 at *; obtain ⟨w1, hw1⟩ : ∃ w1, w1 = w.alloc (.cells (ec p (.slice A n c)).toArray 47) := ⟨_, rfl⟩
  obtain ⟨b, hb0⟩ : ∃ b, b = w.heap.size := ⟨_, rfl⟩
  have hb1 : Below w.heap.size w w1 := by rw [hw1]; exact bel0 _ _
  have hk1 : Bk w1 b 47 (ec p (.slice A n c)).toArray := by rw [hw1, hb0]; exact Bk.new _ _ _
  have hlt : b < w1.heap.size := hk1.lt; have HB := Lib.hid hb1; have HV1 := HV.below hb1; go_enter Tryz.func39, Tryz.ntmps39
  repeat' (first | go_values | go_skip | go_guarded | go_step | go_upon)
  rw [← hb0, ← hw1]; clear hw1 hb0 hb1 HV
  refine wp_region_phases (S := (fun _ W => Below w1.heap.size w1 W)) (E := (fun _ _ => True)) [] [(0, Is (.agg (ec p (.slice A n c)).toArray)), (1, Is (.pointer (some ⟨b, 0, none⟩))), (2, Is (.int .i64 0))] [(3, Is (.agg (ec p (.slice A n c)).toArray)), (4, Is (.agg (ec (othP p) (.slice A2 n2 c2)).toArray)), (5, Is (.pointer (some ⟨b, 0, none⟩))), (6, Is (.int .i64 p.kind)), (7, Is (.agg (ec (kp p.kind) (.slice none 0 0)).toArray)), (8, Is (.bool false)), (9, Is (.bool true))]
    [.op [1] none, .op [3] none, .op [1] none, .op [5] none, .op [6] none, .op [4, 7] none, .op [8] none] (by as_aux_lemma => kernel_rfl) ?_ ?_ ?_ ?_ ?_ ⟨stable_is _ _, stable_is _ _, stable_is _ _, stable_is _ _, stable_is _ _, stable_is _ _, stable_is _ _, stable_is _ _, stable_is _ _, stable_is _ _, trivial⟩ ?_ (Below.refl _ _).drew ?_ ?_
  · as_aux_lemma => kernel_rfl
  · as_aux_lemma => kernel_rfl
  · as_aux_lemma => kernel_rfl
  · as_aux_lemma => kernel_rfl
  · as_aux_lemma => kernel_rfl
  · exact ⟨rfl, rfl, rfl, trivial⟩
  · refine ⟨?_, ?_, ?_, ?_, ?_, ?_, ?_, trivial⟩
    · as_aux_lemma => intro vals a W hS hL; have e1 : a.tmps.getD 1 undef = .pointer (some ⟨b, 0, none⟩) := hL.1; clear hL; refine lands_v (run_ld (.tmp 1) rfl e1 (hk1.below hS hlt)) ?_; exact ⟨dstY (by rfl), hS, trivial⟩
    · as_aux_lemma => intro vals a W hS hL; have e3 : a.tmps.getD 3 undef = .agg (ec p (.slice A n c)).toArray := hL.1; clear hL; go_simp; refine (HO.out W).mono ?_; rintro e W2 ⟨rfl, hb⟩; exact ⟨_, rfl, dstY (by rfl), hS.trans (hb.mono hS.size), trivial⟩
    · as_aux_lemma => intro vals a W hS hL; have e1 : a.tmps.getD 1 undef = .pointer (some ⟨b, 0, none⟩) := hL.1; clear hL; go_simp; exact ⟨dstY (by rfl), hS, trivial⟩
    · as_aux_lemma => intro vals a W hS hL; have e5 : a.tmps.getD 5 undef = .pointer (some ⟨b, 0, none⟩) := hL.1; clear hL; have fb : W.cell? ⟨b, 0, none⟩ = some (.int .i64 p.kind) := (hk1.below hS hlt).cell 0; go_simp; exact ⟨dstY (by rfl), hS, trivial⟩
    · as_aux_lemma => intro vals a W hS hL; have e6 : a.tmps.getD 6 undef = .int .i64 p.kind := hL.1; clear hL; rw [Array.getD_eq_getD_getElem?] at e6; go_simp; exact ⟨dstY (by rfl), hS, trivial⟩
    · as_aux_lemma => intro vals a W hS hL; have e4 : a.tmps.getD 4 undef = .agg (ec (othP p) (.slice A2 n2 c2)).toArray := hL.1; have e7 : a.tmps.getD 7 undef = .agg (ec (kp p.kind) (.slice none 0 0)).toArray := hL.2.1; clear hL; go_simp; refine (HA.out W).mono ?_; rintro e W2 ⟨rfl, hb⟩; exact ⟨_, rfl, dstY (by rfl), hS.trans (hb.mono hS.size), trivial⟩
    · as_aux_lemma => intro vals a W hS hL; have e8 : a.tmps.getD 8 undef = .bool false := hL.1; clear hL; go_simp; exact ⟨dstY (by rfl), hS, trivial⟩
  · intro a W' vals hd hsz hT hF hv hP hS; obtain rfl : vals = [] := List.eq_nil_of_length_eq_zero hv; have hS2 : Below w1.heap.size w1 W' := hS; have e0 : a.tmps.getD 0 undef = .agg (ec p (.slice A n c)).toArray := hT 0 (by simp); have e1 : a.tmps.getD 1 undef = .pointer (some ⟨b, 0, none⟩) := hT 1 (by simp); have e2 : a.tmps.getD 2 undef = .int .i64 0 := hT 2 (by simp); have e9 : a.tmps.getD 9 undef = .bool true := hT 9 (by simp); clear hT hF hP hS; rw [act_lit 32 a hd hsz]; simp only [List.range, List.range.loop, List.map, e0, e1, e2, e9]; clear e0 e1 e2 e9 hsz hd; generalize a.tmps.getD 3 undef = y3, a.tmps.getD 4 undef = y4, a.tmps.getD 5 undef = y5, a.tmps.getD 6 undef = y6, a.tmps.getD 7 undef = y7, a.tmps.getD 8 undef = y8, a.tmps.getD 10 undef = y10, a.tmps.getD 11 undef = y11, a.tmps.getD 12 undef = y12, a.tmps.getD 13 undef = y13, a.tmps.getD 14 undef = y14, a.tmps.getD 15 undef = y15, a.tmps.getD 16 undef = y16, a.tmps.getD 17 undef = y17, a.tmps.getD 18 undef = y18, a.tmps.getD 19 undef = y19, a.tmps.getD 20 undef = y20, a.tmps.getD 21 undef = y21, a.tmps.getD 22 undef = y22, a.tmps.getD 23 undef = y23, a.tmps.getD 24 undef = y24, a.tmps.getD 25 undef = y25, a.tmps.getD 26 undef = y26, a.tmps.getD 27 undef = y27, a.tmps.getD 28 undef = y28, a.tmps.getD 29 undef = y29, a.tmps.getD 30 undef = y30, a.tmps.getD 31 undef = y31; have hbel : Below w.heap.size w W' := HB.out.trans (hS2.mono HB.out.size); have hk2 := hk1.below hS2 hlt; have hlt2 : b < W'.heap.size := hk2.lt; have HB2 := Lib.hid hbel; have HV2 := HV1.below hS2; clear hS2 hk1 hlt HB HV1 hbel
    repeat' (first | go_values | go_skip | go_guarded | go_step | go_upon)
    go_ret; exact ⟨rfl, HB2.out⟩
set_option maxRecDepth 20000 in
set_option maxHeartbeats 4000000 in
theorem one_good {w : World} (HV : Val w) (p : Pay) (A : Option Addr) (n c : Nat) (ht : p.vt.size ≤ 140737488355328) (hal : alikeB (othP p) (kp p.kind) (othN p n) 0 = true) :
    Calls Tryz.prog 39 #[.agg (ec p (.slice A n c)).toArray] w fun x W => x = .returned (.int .i64 (oneR p n)) ∧ Below w.heap.size w W := by
  obtain ⟨A2, c2, hO⟩ := others_any p A n c; have HO := Lib.hid hO
  have HA : Hid (∀ W : World, Calls Tryz.prog 63 #[.agg (ec (othP p) (.slice A2 (othN p n) c2)).toArray, .agg (ec (kp p.kind) (.slice none 0 0)).toArray] W fun x W' => x = .returned (.bool true) ∧ Below W.heap.size W W') := Lib.hid fun W => by
    have := alike_any (w := W) (othP p) (kp p.kind) A2 none (othN p n) c2 0 0
    rwa [hal] at this
  clear hO hal; generalize othN p n = n2 at *; obtain ⟨w1, hw1⟩ : ∃ w1, w1 = w.alloc (.cells (ec p (.slice A n c)).toArray 47) := ⟨_, rfl⟩
  obtain ⟨b, hb0⟩ : ∃ b, b = w.heap.size := ⟨_, rfl⟩
  have hb1 : Below w.heap.size w w1 := by rw [hw1]; exact bel0 _ _
  have hk1 : Bk w1 b 47 (ec p (.slice A n c)).toArray := by rw [hw1, hb0]; exact Bk.new _ _ _
  have hlt : b < w1.heap.size := hk1.lt; have HB := Lib.hid hb1; have HV1 := HV.below hb1; go_enter Tryz.func39, Tryz.ntmps39
  repeat' (first | go_values | go_skip | go_guarded | go_step | go_upon)
  rw [← hb0, ← hw1]; clear hw1 hb0 hb1 HV
  refine wp_region_phases (S := (fun _ W => Below w1.heap.size w1 W)) (E := (fun _ _ => True)) [] [(0, Is (.agg (ec p (.slice A n c)).toArray)), (1, Is (.pointer (some ⟨b, 0, none⟩))), (2, Is (.int .i64 0))] [(3, Is (.agg (ec p (.slice A n c)).toArray)), (4, Is (.agg (ec (othP p) (.slice A2 n2 c2)).toArray)), (5, Is (.pointer (some ⟨b, 0, none⟩))), (6, Is (.int .i64 p.kind)), (7, Is (.agg (ec (kp p.kind) (.slice none 0 0)).toArray)), (8, Is (.bool true)), (9, Is (.bool false))]
    [.op [1] none, .op [3] none, .op [1] none, .op [5] none, .op [6] none, .op [4, 7] none, .op [8] none] (by as_aux_lemma => kernel_rfl) ?_ ?_ ?_ ?_ ?_ ⟨stable_is _ _, stable_is _ _, stable_is _ _, stable_is _ _, stable_is _ _, stable_is _ _, stable_is _ _, stable_is _ _, stable_is _ _, stable_is _ _, trivial⟩ ?_ (Below.refl _ _).drew ?_ ?_
  · as_aux_lemma => kernel_rfl
  · as_aux_lemma => kernel_rfl
  · as_aux_lemma => kernel_rfl
  · as_aux_lemma => kernel_rfl
  · as_aux_lemma => kernel_rfl
  · exact ⟨rfl, rfl, rfl, trivial⟩
  · refine ⟨?_, ?_, ?_, ?_, ?_, ?_, ?_, trivial⟩
    · as_aux_lemma => intro vals a W hS hL; have e1 : a.tmps.getD 1 undef = .pointer (some ⟨b, 0, none⟩) := hL.1; clear hL; refine lands_v (run_ld (.tmp 1) rfl e1 (hk1.below hS hlt)) ?_; exact ⟨dstY (by rfl), hS, trivial⟩
    · as_aux_lemma => intro vals a W hS hL; have e3 : a.tmps.getD 3 undef = .agg (ec p (.slice A n c)).toArray := hL.1; clear hL; go_simp; refine (HO.out W).mono ?_; rintro e W2 ⟨rfl, hb⟩; exact ⟨_, rfl, dstY (by rfl), hS.trans (hb.mono hS.size), trivial⟩
    · as_aux_lemma => intro vals a W hS hL; have e1 : a.tmps.getD 1 undef = .pointer (some ⟨b, 0, none⟩) := hL.1; clear hL; go_simp; exact ⟨dstY (by rfl), hS, trivial⟩
    · as_aux_lemma => intro vals a W hS hL; have e5 : a.tmps.getD 5 undef = .pointer (some ⟨b, 0, none⟩) := hL.1; clear hL; have fb : W.cell? ⟨b, 0, none⟩ = some (.int .i64 p.kind) := (hk1.below hS hlt).cell 0; go_simp; exact ⟨dstY (by rfl), hS, trivial⟩
    · as_aux_lemma => intro vals a W hS hL; have e6 : a.tmps.getD 6 undef = .int .i64 p.kind := hL.1; clear hL; rw [Array.getD_eq_getD_getElem?] at e6; go_simp; exact ⟨dstY (by rfl), hS, trivial⟩
    · as_aux_lemma => intro vals a W hS hL; have e4 : a.tmps.getD 4 undef = .agg (ec (othP p) (.slice A2 n2 c2)).toArray := hL.1; have e7 : a.tmps.getD 7 undef = .agg (ec (kp p.kind) (.slice none 0 0)).toArray := hL.2.1; clear hL; go_simp; refine (HA.out W).mono ?_; rintro e W2 ⟨rfl, hb⟩; exact ⟨_, rfl, dstY (by rfl), hS.trans (hb.mono hS.size), trivial⟩
    · as_aux_lemma => intro vals a W hS hL; have e8 : a.tmps.getD 8 undef = .bool true := hL.1; clear hL; go_simp; exact ⟨dstY (by rfl), hS, trivial⟩
  · intro a W' vals hd hsz hT hF hv hP hS; obtain rfl : vals = [] := List.eq_nil_of_length_eq_zero hv; have hS2 : Below w1.heap.size w1 W' := hS; have e0 : a.tmps.getD 0 undef = .agg (ec p (.slice A n c)).toArray := hT 0 (by simp); have e1 : a.tmps.getD 1 undef = .pointer (some ⟨b, 0, none⟩) := hT 1 (by simp); have e2 : a.tmps.getD 2 undef = .int .i64 0 := hT 2 (by simp); have e9 : a.tmps.getD 9 undef = .bool false := hT 9 (by simp); clear hT hF hP hS; rw [act_lit 32 a hd hsz]; simp only [List.range, List.range.loop, List.map, e0, e1, e2, e9]; clear e0 e1 e2 e9 hsz hd; generalize a.tmps.getD 3 undef = y3, a.tmps.getD 4 undef = y4, a.tmps.getD 5 undef = y5, a.tmps.getD 6 undef = y6, a.tmps.getD 7 undef = y7, a.tmps.getD 8 undef = y8, a.tmps.getD 10 undef = y10, a.tmps.getD 11 undef = y11, a.tmps.getD 12 undef = y12, a.tmps.getD 13 undef = y13, a.tmps.getD 14 undef = y14, a.tmps.getD 15 undef = y15, a.tmps.getD 16 undef = y16, a.tmps.getD 17 undef = y17, a.tmps.getD 18 undef = y18, a.tmps.getD 19 undef = y19, a.tmps.getD 20 undef = y20, a.tmps.getD 21 undef = y21, a.tmps.getD 22 undef = y22, a.tmps.getD 23 undef = y23, a.tmps.getD 24 undef = y24, a.tmps.getD 25 undef = y25, a.tmps.getD 26 undef = y26, a.tmps.getD 27 undef = y27, a.tmps.getD 28 undef = y28, a.tmps.getD 29 undef = y29, a.tmps.getD 30 undef = y30, a.tmps.getD 31 undef = y31; have hbel : Below w.heap.size w W' := HB.out.trans (hS2.mono HB.out.size); have hk2 := hk1.below hS2 hlt; have hlt2 : b < W'.heap.size := hk2.lt; have HB2 := Lib.hid hbel; have HV2 := HV1.below hS2; clear hS2 hk1 hlt HB HV1 hbel
    by_cases hk : p.kind = 1
    · have HE := Lib.hid (show oneR p n = ccE (ckV p.vk p.vm p.vs p.vt p.vb p.ve) p.vk by unfold oneR; rw [if_pos hk]); have c0 : W'.cell? ⟨b, 0, none⟩ = some (.int .i64 1) := by rw [← hk]; exact hk2.cell 0
      have c1 : W'.cell? ⟨b, 1, none⟩ = some (.int .i64 p.vk) := hk2.cell 1; have c2 : W'.cell? ⟨b, 2, none⟩ = some (.int .i64 p.vm) := hk2.cell 2; have c3 : W'.cell? ⟨b, 3, none⟩ = some (.int .i64 p.vs) := hk2.cell 3; have c4 : W'.cell? ⟨b, 4, none⟩ = some (.string p.vt) := hk2.cell 4; have c5 : W'.cell? ⟨b, 5, none⟩ = some (.bool p.vb) := hk2.cell 5; have c6 : W'.cell? ⟨b, 6, none⟩ = some (.int .i64 p.ve) := hk2.cell 6; clear hk
      repeat' (first | go_values | go_skip | go_guarded | go_step | go_upon)
      refine (checkConst_any HV2 _ _ _ _ _ _ ht).mono ?_; rintro e W3 ⟨rfl, hb⟩; dsimp only
      repeat' (first | go_values | go_skip | go_guarded | go_step | go_upon)
      go_ret; exact ⟨by rw [HE.out]; rfl, HB2.out.trans (hb.mono HB2.out.size)⟩
    have H1 := hk; clear hk
    by_cases hk : p.kind = 2
    · have HE := Lib.hid (show oneR p n = cpE (ckA p.r1 p.c1 p.r2 p.c2) p.sheet by unfold oneR; rw [if_neg H1, if_pos (by omega)]); have c0 : W'.cell? ⟨b, 0, none⟩ = some (.int .i64 2) := by rw [← hk]; exact hk2.cell 0
      clear hk H1
      repeat' (first | ((with_reducible show Oper.wp _ _ _ _ _ _); apply ld_p; exact rfl; exact rfl; assumption; go_simp) | go_values | go_skip | go_guarded | go_step | go_upon)
      refine (checkPlace_any p _).mono ?_; rintro e W3 ⟨rfl, hb⟩; dsimp only
      repeat' (first | go_values | go_skip | go_guarded | go_step | go_upon)
      go_ret; exact ⟨by rw [HE.out]; rfl, HB2.out.trans (hb.mono HB2.out.size)⟩
    have H2 := hk; clear hk
    by_cases hk : p.kind = 3
    · have HE := Lib.hid (show oneR p n = cpE (ckA p.r1 p.c1 p.r2 p.c2) p.sheet by unfold oneR; rw [if_neg H1, if_pos (by omega)]); have c0 : W'.cell? ⟨b, 0, none⟩ = some (.int .i64 3) := by rw [← hk]; exact hk2.cell 0
      clear hk H1 H2
      repeat' (first | ((with_reducible show Oper.wp _ _ _ _ _ _); apply ld_p; exact rfl; exact rfl; assumption; go_simp) | go_values | go_skip | go_guarded | go_step | go_upon)
      refine (checkPlace_any p _).mono ?_; rintro e W3 ⟨rfl, hb⟩; dsimp only
      repeat' (first | go_values | go_skip | go_guarded | go_step | go_upon)
      go_ret; exact ⟨by rw [HE.out]; rfl, HB2.out.trans (hb.mono HB2.out.size)⟩
    have H3 := hk; clear hk
    by_cases hk : p.kind = 4
    · have HE := Lib.hid (show oneR p n = cpE (ckA p.r1 p.c1 p.r2 p.c2) p.sheet by unfold oneR; rw [if_neg H1, if_pos (by omega)]); have c0 : W'.cell? ⟨b, 0, none⟩ = some (.int .i64 4) := by rw [← hk]; exact hk2.cell 0
      clear hk H1 H2 H3
      repeat' (first | ((with_reducible show Oper.wp _ _ _ _ _ _); apply ld_p; exact rfl; exact rfl; assumption; go_simp) | go_values | go_skip | go_guarded | go_step | go_upon)
      refine (checkPlace_any p _).mono ?_; rintro e W3 ⟨rfl, hb⟩; dsimp only
      repeat' (first | go_values | go_skip | go_guarded | go_step | go_upon)
      go_ret; exact ⟨by rw [HE.out]; rfl, HB2.out.trans (hb.mono HB2.out.size)⟩
    have H4 := hk; clear hk
    by_cases hk : p.kind = 5
    · have HE := Lib.hid (show oneR p n = cpE (ckA p.r1 p.c1 p.r2 p.c2) p.sheet by unfold oneR; rw [if_neg H1, if_pos (by omega)]); have c0 : W'.cell? ⟨b, 0, none⟩ = some (.int .i64 5) := by rw [← hk]; exact hk2.cell 0
      clear hk H1 H2 H3 H4
      repeat' (first | ((with_reducible show Oper.wp _ _ _ _ _ _); apply ld_p; exact rfl; exact rfl; assumption; go_simp) | go_values | go_skip | go_guarded | go_step | go_upon)
      refine (checkPlace_any p _).mono ?_; rintro e W3 ⟨rfl, hb⟩; dsimp only
      repeat' (first | go_values | go_skip | go_guarded | go_step | go_upon)
      go_ret; exact ⟨by rw [HE.out]; rfl, HB2.out.trans (hb.mono HB2.out.size)⟩
    have H5 := hk; clear hk
    by_cases hk : p.kind = 6
    · have HE := Lib.hid (show oneR p n = opE p.kind p.op n by unfold oneR; rw [if_neg H1, if_neg (by omega), if_pos (by omega)]); have HO2 := Lib.hid (fun W : World => checkOp_any (w := W) (p := p) (by omega) A n c); have c0 : W'.cell? ⟨b, 0, none⟩ = some (.int .i64 6) := by rw [← hk]; exact hk2.cell 0
      clear hk H1 H2 H3 H4 H5
      repeat' (first | ((with_reducible show Oper.wp _ _ _ _ _ _); apply ld_p; exact rfl; exact rfl; assumption; go_simp) | go_values | go_skip | go_guarded | go_step | go_upon)
      refine (HO2.out _).mono ?_; rintro e W3 ⟨rfl, hb⟩; dsimp only
      repeat' (first | go_values | go_skip | go_guarded | go_step | go_upon)
      go_ret; exact ⟨by rw [HE.out]; rfl, HB2.out.trans (hb.mono HB2.out.size)⟩
    have H6 := hk; clear hk
    by_cases hk : p.kind = 7
    · have HE := Lib.hid (show oneR p n = opE p.kind p.op n by unfold oneR; rw [if_neg H1, if_neg (by omega), if_pos (by omega)]); have HO2 := Lib.hid (fun W : World => checkOp_any (w := W) (p := p) (by omega) A n c); have c0 : W'.cell? ⟨b, 0, none⟩ = some (.int .i64 7) := by rw [← hk]; exact hk2.cell 0
      clear hk H1 H2 H3 H4 H5 H6
      repeat' (first | ((with_reducible show Oper.wp _ _ _ _ _ _); apply ld_p; exact rfl; exact rfl; assumption; go_simp) | go_values | go_skip | go_guarded | go_step | go_upon)
      refine (HO2.out _).mono ?_; rintro e W3 ⟨rfl, hb⟩; dsimp only
      repeat' (first | go_values | go_skip | go_guarded | go_step | go_upon)
      go_ret; exact ⟨by rw [HE.out]; rfl, HB2.out.trans (hb.mono HB2.out.size)⟩
    have H7 := hk; clear hk
    by_cases hk : p.kind = 8
    · have HE := Lib.hid (show oneR p n = opE p.kind p.op n by unfold oneR; rw [if_neg H1, if_neg (by omega), if_pos (by omega)]); have HO2 := Lib.hid (fun W : World => checkOp_any (w := W) (p := p) (by omega) A n c); have c0 : W'.cell? ⟨b, 0, none⟩ = some (.int .i64 8) := by rw [← hk]; exact hk2.cell 0
      clear hk H1 H2 H3 H4 H5 H6 H7
      repeat' (first | ((with_reducible show Oper.wp _ _ _ _ _ _); apply ld_p; exact rfl; exact rfl; assumption; go_simp) | go_values | go_skip | go_guarded | go_step | go_upon)
      refine (HO2.out _).mono ?_; rintro e W3 ⟨rfl, hb⟩; dsimp only
      repeat' (first | go_values | go_skip | go_guarded | go_step | go_upon)
      go_ret; exact ⟨by rw [HE.out]; rfl, HB2.out.trans (hb.mono HB2.out.size)⟩
    have H8 := hk; clear hk
    by_cases hk : p.kind = 9
    · have HE := Lib.hid (show oneR p n = opE p.kind p.op n by unfold oneR; rw [if_neg H1, if_neg (by omega), if_pos (by omega)]); have HO2 := Lib.hid (fun W : World => checkOp_any (w := W) (p := p) (by omega) A n c); have c0 : W'.cell? ⟨b, 0, none⟩ = some (.int .i64 9) := by rw [← hk]; exact hk2.cell 0
      clear hk H1 H2 H3 H4 H5 H6 H7 H8
      repeat' (first | ((with_reducible show Oper.wp _ _ _ _ _ _); apply ld_p; exact rfl; exact rfl; assumption; go_simp) | go_values | go_skip | go_guarded | go_step | go_upon)
      refine (HO2.out _).mono ?_; rintro e W3 ⟨rfl, hb⟩; dsimp only
      repeat' (first | go_values | go_skip | go_guarded | go_step | go_upon)
      go_ret; exact ⟨by rw [HE.out]; rfl, HB2.out.trans (hb.mono HB2.out.size)⟩
    have H9 := hk; clear hk
    by_cases hk : p.kind = 10
    · have HE := Lib.hid (show oneR p n = opE p.kind p.op n by unfold oneR; rw [if_neg H1, if_neg (by omega), if_pos (by omega)]); have HO2 := Lib.hid (fun W : World => checkOp_any (w := W) (p := p) (by omega) A n c); have c0 : W'.cell? ⟨b, 0, none⟩ = some (.int .i64 10) := by rw [← hk]; exact hk2.cell 0
      clear hk H1 H2 H3 H4 H5 H6 H7 H8 H9
      repeat' (first | ((with_reducible show Oper.wp _ _ _ _ _ _); apply ld_p; exact rfl; exact rfl; assumption; go_simp) | go_values | go_skip | go_guarded | go_step | go_upon)
      refine (HO2.out _).mono ?_; rintro e W3 ⟨rfl, hb⟩; dsimp only
      repeat' (first | go_values | go_skip | go_guarded | go_step | go_upon)
      go_ret; exact ⟨by rw [HE.out]; rfl, HB2.out.trans (hb.mono HB2.out.size)⟩
    have H10 := hk; clear hk; have HE := Lib.hid (show oneR p n = 1 by unfold oneR; rw [if_neg H1, if_neg (by omega), if_neg (by omega)]); have c0 : W'.cell? ⟨b, 0, none⟩ = some (.int .i64 p.kind) := hk2.cell 0; have e1 : (p.kind == 1) = false := by simpa using H1
    have e2 : (p.kind == 2) = false := by simpa using H2
    have e3 : (p.kind == 3) = false := by simpa using H3
    have e4 : (p.kind == 4) = false := by simpa using H4
    have e5 : (p.kind == 5) = false := by simpa using H5
    have e6 : (p.kind == 6) = false := by simpa using H6
    have e7 : (p.kind == 7) = false := by simpa using H7
    have e8 : (p.kind == 8) = false := by simpa using H8
    have e9 : (p.kind == 9) = false := by simpa using H9
    have e10 : (p.kind == 10) = false := by simpa using H10
    clear H1 H2 H3 H4 H5 H6 H7 H8 H9 H10
    repeat' (first | go_values | go_skip | go_guarded | go_step | go_upon)
    go_ret; exact ⟨by rw [HE.out]; rfl, HB2.out⟩
theorem checkOne_any {w : World} (HV : Val w) (p : Pay) (A : Option Addr) (n c : Nat) (ht : p.vt.size ≤ 140737488355328) :
    Calls Tryz.prog 39 #[.agg (ec p (.slice A n c)).toArray] w fun x W => x = .returned (.int .i64 (oneE p n)) ∧ Below w.heap.size w W := by
  unfold oneE
  cases hal : alikeB (othP p) (kp p.kind) (othN p n) 0 with
  | false => rw [if_pos rfl]; exact one_odd HV p A n c ht hal
  | true => rw [if_neg (by decide)]; exact one_good HV p A n c ht hal
end Go.Proofs.YtlaiocdnddnnaaaGreatDoor
