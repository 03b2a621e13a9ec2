/- ptg.size, hasSheet, hasArea, node, constant, parseSign, by their contracts. No condition. -/
import Derived.Test.YtlaiocdnddnnaaaGreatDoorDr
import Derived.Test.YtlaiocdnddnnaaaGreatDoorPs0
set_option linter.unusedVariables false
set_option linter.unusedSimpArgs false
namespace Go.Proofs.YtlaiocdnddnnaaaGreatDoor
open Go.RowKit
def tkV (g : Got) : List Value := tc g.pay (.slice none 0 0) g.takes
theorem size_any12 {w : World} (m : Int) : Calls Tryz.prog 105 #[.int .i64 m] w fun e W => e = .returned (.int .i64 (szT m)) ∧ W = w := by
  by_cases h0 : m = 31
  · subst h0; have HF := Lib.hid (show szT 31 = szT 31 from rfl); go_enter Tryz.func105, Tryz.ntmps105; go_wp2; go_ret; exact ⟨rfl, rfl⟩
  by_cases h1 : m = 29
  · subst h1; have HF := Lib.hid (show szT 29 = szT 29 from rfl); go_enter Tryz.func105, Tryz.ntmps105; go_wp2; go_ret; exact ⟨rfl, rfl⟩
  by_cases h2 : m = 28
  · subst h2; have HF := Lib.hid (show szT 28 = szT 28 from rfl); go_enter Tryz.func105, Tryz.ntmps105; go_wp2; go_ret; exact ⟨rfl, rfl⟩
  by_cases h3 : m = 36
  · subst h3; have HF := Lib.hid (show szT 36 = szT 36 from rfl); go_enter Tryz.func105, Tryz.ntmps105; go_wp2; go_ret; exact ⟨rfl, rfl⟩
  by_cases h4 : m = 37
  · subst h4; have HF := Lib.hid (show szT 37 = szT 37 from rfl); go_enter Tryz.func105, Tryz.ntmps105; go_wp2; go_ret; exact ⟨rfl, rfl⟩
  by_cases h5 : m = 58
  · subst h5; have HF := Lib.hid (show szT 58 = szT 58 from rfl); go_enter Tryz.func105, Tryz.ntmps105; go_wp2; go_ret; exact ⟨rfl, rfl⟩
  by_cases h6 : m = 59
  · subst h6; have HF := Lib.hid (show szT 59 = szT 59 from rfl); go_enter Tryz.func105, Tryz.ntmps105; go_wp2; go_ret; exact ⟨rfl, rfl⟩
  by_cases h7 : m = 35
  · subst h7; have HF := Lib.hid (show szT 35 = szT 35 from rfl); go_enter Tryz.func105, Tryz.ntmps105; go_wp2; go_ret; exact ⟨rfl, rfl⟩
  by_cases h8 : m = 34
  · subst h8; have HF := Lib.hid (show szT 34 = szT 34 from rfl); go_enter Tryz.func105, Tryz.ntmps105; go_wp2; go_ret; exact ⟨rfl, rfl⟩
  have g0 : (m == 31) = false := by rw [beq_eq_false_iff_ne]; exact h0
  have g1 : (m == 29) = false := by rw [beq_eq_false_iff_ne]; exact h1
  have g2 : (m == 28) = false := by rw [beq_eq_false_iff_ne]; exact h2
  have g3 : (m == 36) = false := by rw [beq_eq_false_iff_ne]; exact h3
  have g4 : (m == 37) = false := by rw [beq_eq_false_iff_ne]; exact h4
  have g5 : (m == 58) = false := by rw [beq_eq_false_iff_ne]; exact h5
  have g6 : (m == 59) = false := by rw [beq_eq_false_iff_ne]; exact h6
  have g7 : (m == 35) = false := by rw [beq_eq_false_iff_ne]; exact h7
  have g8 : (m == 34) = false := by rw [beq_eq_false_iff_ne]; exact h8
  have HF := Lib.hid (show szT m = 0 by unfold szT; rw [if_neg h0, if_neg (by omega), if_neg h3, if_neg h4, if_neg h5, if_neg h6, if_neg (by omega)]); clear h0 h1 h2 h3 h4 h5 h6 h7 h8; go_enter Tryz.func105, Tryz.ntmps105; go_wp2; go_ret; exact ⟨by rw [HF.out]; rfl, rfl⟩
theorem hasSheet_any {w : World} (k : Int) : Calls Tryz.prog 72 #[.int .i64 k] w fun e W => e = .returned (.bool (hasS k)) ∧ W = w := by
  by_cases h0 : k = 4
  · subst h0; go_enter Tryz.func72, Tryz.ntmps72; go_wp2; go_ret; exact ⟨rfl, rfl⟩
  by_cases h1 : k = 5
  · subst h1; go_enter Tryz.func72, Tryz.ntmps72; go_wp2; go_ret; exact ⟨rfl, rfl⟩
  have g0 : (k == 4) = false := by rw [beq_eq_false_iff_ne]; exact h0
  have g1 : (k == 5) = false := by rw [beq_eq_false_iff_ne]; exact h1
  have HF := Lib.hid (show hasS k = false by simp [hasS, h0, h1]); clear h0 h1; go_enter Tryz.func72, Tryz.ntmps72; go_wp2; go_ret; exact ⟨by rw [HF.out]; rfl, rfl⟩
theorem hasArea_any {w : World} (k : Int) : Calls Tryz.prog 74 #[.int .i64 k] w fun e W => e = .returned (.bool (hasA k)) ∧ W = w := by
  by_cases h0 : k = 3
  · subst h0; go_enter Tryz.func74, Tryz.ntmps74; go_wp2; go_ret; exact ⟨rfl, rfl⟩
  by_cases h1 : k = 5
  · subst h1; go_enter Tryz.func74, Tryz.ntmps74; go_wp2; go_ret; exact ⟨rfl, rfl⟩
  have g0 : (k == 3) = false := by rw [beq_eq_false_iff_ne]; exact h0
  have g1 : (k == 5) = false := by rw [beq_eq_false_iff_ne]; exact h1
  have HF := Lib.hid (show hasA k = false by simp [hasA, h0, h1]); clear h0 h1; go_enter Tryz.func74, Tryz.ntmps74; go_wp2; go_ret; exact ⟨by rw [HF.out]; rfl, rfl⟩
set_option maxRecDepth 20000 in
set_option maxHeartbeats 4000000 in
theorem node_any (w : World) (k p : Int) (t : Nat) : Calls Tryz.prog 126 #[.int .i64 k, .int .i64 p, .int .i64 t] w fun e W => e = .returned (.agg (tc (tOp k p) (.slice none 0 0) t).toArray) ∧ Below w.heap.size w W := by
  have HB : Hid (BX w [] w) := Lib.hid (BX.start w); go_enter Tryz.func126, Tryz.ntmps126
  repeat' (first | ((with_reducible show Oper.wp _ _ _ _ _ _); (first | (with_reducible refine is_al 144 rfl ?_; refine al_g HB 144 (tc zp (.slice none 0 0) 0) (by kernel_rfl) ?_; clear HB; intro g0 W HB; go_simp) | with_reducible refine stop_bd rfl ?_)) | go_values | go_skip | go_guarded | go_step | go_upon)
  refine Lib.hid ?_; refine wp_b (v := .agg (ec (tOp k p) (.slice none 0 0)).toArray) (by kernel_rfl) ?_; go_simp
  repeat' (first | ((with_reducible show Oper.wp _ _ _ _ _ _); with_reducible refine stop_bd rfl ?_) | go_values | go_skip | go_guarded | go_step | go_upon)
  refine Lib.hid ?_; refine wp_b (v := .agg (tc (tOp k p) (.slice none 0 0) t).toArray) (by kernel_rfl) ?_; go_simp
  repeat' (first | ((with_reducible show Oper.wp _ _ _ _ _ _); with_reducible refine is_st 144 _ _ rfl ?_; refine st_tc 0 HB rfl _ _ rfl rfl rfl ?_; clear HB; intro W HB; dsimp only [List.set] at HB; go_simp) | go_values | go_skip | go_guarded | go_step | go_upon)
  exact bodyPost_ret (res_t rfl 0 HB rfl rfl) rfl ⟨rfl, HB.out.bel⟩
def vlP (k m s : Int) (t : ByteArray) (b : Bool) (e : Int) : Pay := { zp with kind := 1, vk := k, vm := m, vs := s, vt := t, vb := b, ve := e }
set_option maxRecDepth 20000 in
set_option maxHeartbeats 4000000 in
theorem constant_any (w : World) (k m s : Int) (t : ByteArray) (b : Bool) (e : Int) : Calls Tryz.prog 120 #[.agg #[.int .i64 k, .int .i64 m, .int .i64 s, .string t, .bool b, .int .i64 e]] w fun x W => x = .returned (.agg (tc (vlP k m s t b e) (.slice none 0 0) (0 : Nat)).toArray) ∧ Below w.heap.size w W := by
  have HB : Hid (BX w [] w) := Lib.hid (BX.start w); go_enter Tryz.func120, Tryz.ntmps120
  repeat' (first | ((with_reducible show Oper.wp _ _ _ _ _ _); with_reducible refine stop_bx _ rfl ?_) | go_values | go_skip | go_guarded | go_step | go_upon)
  refine Lib.hid ?_; refine al_g HB 41 (vl k m s t b e) (by kernel_rfl) ?_; clear HB
  (first | (have _t : Nat := g10; clear _t; intro g11 W HB) | (have _t : Nat := g9; clear _t; intro g10 W HB) | (have _t : Nat := g8; clear _t; intro g9 W HB) | (have _t : Nat := g7; clear _t; intro g8 W HB) | (have _t : Nat := g6; clear _t; intro g7 W HB) | (have _t : Nat := g5; clear _t; intro g6 W HB) | (have _t : Nat := g4; clear _t; intro g5 W HB) | (have _t : Nat := g3; clear _t; intro g4 W HB) | (have _t : Nat := g2; clear _t; intro g3 W HB) | (have _t : Nat := g1; clear _t; intro g2 W HB) | (have _t : Nat := g0; clear _t; intro g1 W HB) | intro g0 W HB)
  go_simp
  repeat' (first | ((with_reducible show Oper.wp _ _ _ _ _ _); (first | (with_reducible refine is_al 144 rfl ?_; refine al_g HB 144 (tc zp (.slice none 0 0) 0) (by kernel_rfl) ?_; clear HB; intro g1 W HB; go_simp) | (with_reducible refine is_ld 41 _ rfl ?_; refine ld_vl 1 HB rfl _ rfl rfl ?_; go_simp) | with_reducible refine stop_bd rfl ?_)) | go_values | go_skip | go_guarded | go_step | go_upon)
  refine Lib.hid ?_; refine wp_b (v := .agg (ec (vlP k m s t b e) (.slice none 0 0)).toArray) (by kernel_rfl) ?_; go_simp
  repeat' (first | ((with_reducible show Oper.wp _ _ _ _ _ _); with_reducible refine stop_bd rfl ?_) | go_values | go_skip | go_guarded | go_step | go_upon)
  refine Lib.hid ?_; refine wp_b (v := .agg (tc (vlP k m s t b e) (.slice none 0 0) (0 : Nat)).toArray) (by kernel_rfl) ?_; go_simp
  repeat' (first | ((with_reducible show Oper.wp _ _ _ _ _ _); with_reducible refine is_st 144 _ _ rfl ?_; refine st_tc 0 HB rfl _ _ rfl rfl rfl ?_; clear HB; intro W HB; dsimp only [List.set] at HB; go_simp) | go_values | go_skip | go_guarded | go_step | go_upon)
  exact bodyPost_ret (res_t rfl 0 HB rfl rfl) rfl ⟨rfl, HB.out.bel⟩
set_option maxRecDepth 20000 in
set_option maxHeartbeats 4000000 in
theorem parseSign_any (w : World) (m : Int) (hm : 0 ≤ m ∧ m < 256) : Calls Tryz.prog 127 #[.int .i64 m] w fun e W => e = .returned (.tuple #[.agg (tkV (sgT m)).toArray, .int .i64 (sgT m).err]) ∧ Below w.heap.size w W := by
  have HB : Hid (BX w [] w) := Lib.hid (BX.start w)
  by_cases h0 : m = 19
  · subst h0; go_enter Tryz.func127, Tryz.ntmps127
    repeat' (first | ((with_reducible show Oper.wp _ _ _ _ _ _); with_reducible refine is_al 144 rfl ?_; refine al_g HB 144 (tc zp (.slice none 0 0) 0) (by kernel_rfl) ?_; clear HB; intro g0 W HB; go_simp) | go_values | go_skip | go_guarded | go_step | go_upon)
    refine (node_any W 7 1 1).mono ?_; rintro e W1 ⟨rfl, hb⟩; have HB := Lib.hid (HB.out.call hb); clear hb; dsimp only
    repeat' (first | ((with_reducible show Oper.wp _ _ _ _ _ _); with_reducible refine is_st 144 _ _ rfl ?_; refine st_tc 0 HB rfl _ _ rfl rfl rfl ?_; clear HB; intro W HB; dsimp only [List.set] at HB; go_simp) | go_values | go_skip | go_guarded | go_step | go_upon)
    exact bodyPost_ret (res_tn rfl 0 HB rfl rfl rfl) rfl ⟨rfl, HB.out.bel⟩
  by_cases h1 : m = 18
  · subst h1; go_enter Tryz.func127, Tryz.ntmps127
    repeat' (first | ((with_reducible show Oper.wp _ _ _ _ _ _); with_reducible refine is_al 144 rfl ?_; refine al_g HB 144 (tc zp (.slice none 0 0) 0) (by kernel_rfl) ?_; clear HB; intro g0 W HB; go_simp) | go_values | go_skip | go_guarded | go_step | go_upon)
    refine (node_any W 7 2 1).mono ?_; rintro e W1 ⟨rfl, hb⟩; have HB := Lib.hid (HB.out.call hb); clear hb; dsimp only
    repeat' (first | ((with_reducible show Oper.wp _ _ _ _ _ _); with_reducible refine is_st 144 _ _ rfl ?_; refine st_tc 0 HB rfl _ _ rfl rfl rfl ?_; clear HB; intro W HB; dsimp only [List.set] at HB; go_simp) | go_values | go_skip | go_guarded | go_step | go_upon)
    exact bodyPost_ret (res_tn rfl 0 HB rfl rfl rfl) rfl ⟨rfl, HB.out.bel⟩
  by_cases h2 : m = 20
  · subst h2; go_enter Tryz.func127, Tryz.ntmps127
    repeat' (first | ((with_reducible show Oper.wp _ _ _ _ _ _); with_reducible refine is_al 144 rfl ?_; refine al_g HB 144 (tc zp (.slice none 0 0) 0) (by kernel_rfl) ?_; clear HB; intro g0 W HB; go_simp) | go_values | go_skip | go_guarded | go_step | go_upon)
    refine (node_any W 7 3 1).mono ?_; rintro e W1 ⟨rfl, hb⟩; have HB := Lib.hid (HB.out.call hb); clear hb; dsimp only
    repeat' (first | ((with_reducible show Oper.wp _ _ _ _ _ _); with_reducible refine is_st 144 _ _ rfl ?_; refine st_tc 0 HB rfl _ _ rfl rfl rfl ?_; clear HB; intro W HB; dsimp only [List.set] at HB; go_simp) | go_values | go_skip | go_guarded | go_step | go_upon)
    exact bodyPost_ret (res_tn rfl 0 HB rfl rfl rfl) rfl ⟨rfl, HB.out.bel⟩
  by_cases h3 : m = 21
  · subst h3; go_enter Tryz.func127, Tryz.ntmps127
    repeat' (first | ((with_reducible show Oper.wp _ _ _ _ _ _); with_reducible refine is_al 144 rfl ?_; refine al_g HB 144 (tc zp (.slice none 0 0) 0) (by kernel_rfl) ?_; clear HB; intro g0 W HB; go_simp) | go_values | go_skip | go_guarded | go_step | go_upon)
    refine (node_any W 10 0 1).mono ?_; rintro e W1 ⟨rfl, hb⟩; have HB := Lib.hid (HB.out.call hb); clear hb; dsimp only
    repeat' (first | ((with_reducible show Oper.wp _ _ _ _ _ _); with_reducible refine is_st 144 _ _ rfl ?_; refine st_tc 0 HB rfl _ _ rfl rfl rfl ?_; clear HB; intro W HB; dsimp only [List.set] at HB; go_simp) | go_values | go_skip | go_guarded | go_step | go_upon)
    exact bodyPost_ret (res_tn rfl 0 HB rfl rfl rfl) rfl ⟨rfl, HB.out.bel⟩
  have g0 : (m == 19) = false := by rw [beq_eq_false_iff_ne]; exact h0
  have g1 : (m == 18) = false := by rw [beq_eq_false_iff_ne]; exact h1
  have g2 : (m == 20) = false := by rw [beq_eq_false_iff_ne]; exact h2
  have g3 : (m == 21) = false := by rw [beq_eq_false_iff_ne]; exact h3
  obtain ⟨hm0, hm1⟩ := hm
  by_cases h4 : m - 2 < 1
  · have HF := Lib.hid (show sgT m = ⟨2, zp, 0⟩ by unfold sgT; rw [if_neg h0, if_neg h1, if_neg h2, if_neg h3]; rw [if_pos (.inl h4)]); have h4' : m - 2 < 1 := h4; clear h0 h1 h2 h3; go_enter Tryz.func127, Tryz.ntmps127
    repeat' (first | ((with_reducible show Oper.wp _ _ _ _ _ _); (first | (with_reducible refine is_al 144 rfl ?_; refine al_g HB 144 (tc zp (.slice none 0 0) 0) (by kernel_rfl) ?_; clear HB; intro g0 W HB; go_simp) | with_reducible refine stop_bd rfl ?_)) | go_values | go_skip | go_guarded | go_step | go_upon)
    refine Lib.hid ?_; refine wp_b (v := .agg (tc zp (.slice none 0 0) 0).toArray) (by kernel_rfl) ?_; go_simp
    repeat' (first | ((with_reducible show Oper.wp _ _ _ _ _ _); with_reducible refine is_st 144 _ _ rfl ?_; refine st_tc 0 HB rfl _ _ rfl rfl rfl ?_; clear HB; intro W HB; dsimp only [List.set] at HB; go_simp) | go_values | go_skip | go_guarded | go_step | go_upon)
    rw [HF.out]; exact bodyPost_ret (res_tn rfl 0 HB rfl rfl rfl) rfl ⟨rfl, HB.out.bel⟩
  · by_cases h5 : 12 < m - 2
    · have HF := Lib.hid (show sgT m = ⟨2, zp, 0⟩ by unfold sgT; rw [if_neg h0, if_neg h1, if_neg h2, if_neg h3]; rw [if_pos (.inr h5)]); clear h0 h1 h2 h3; go_enter Tryz.func127, Tryz.ntmps127
      repeat' (first | ((with_reducible show Oper.wp _ _ _ _ _ _); (first | (with_reducible refine is_al 144 rfl ?_; refine al_g HB 144 (tc zp (.slice none 0 0) 0) (by kernel_rfl) ?_; clear HB; intro g0 W HB; go_simp) | with_reducible refine stop_bd rfl ?_)) | go_values | go_skip | go_guarded | go_step | go_upon)
      refine Lib.hid ?_; refine wp_b (v := .agg (tc zp (.slice none 0 0) 0).toArray) (by kernel_rfl) ?_; go_simp
      repeat' (first | ((with_reducible show Oper.wp _ _ _ _ _ _); with_reducible refine is_st 144 _ _ rfl ?_; refine st_tc 0 HB rfl _ _ rfl rfl rfl ?_; clear HB; intro W HB; dsimp only [List.set] at HB; go_simp) | go_values | go_skip | go_guarded | go_step | go_upon)
      rw [HF.out]; exact bodyPost_ret (res_tn rfl 0 HB rfl rfl rfl) rfl ⟨rfl, HB.out.bel⟩
    · have HF := Lib.hid (show sgT m = ⟨0, tOp 8 (m - 2), 2⟩ by unfold sgT; rw [if_neg h0, if_neg h1, if_neg h2, if_neg h3]; rw [if_neg (by omega)]); clear h0 h1 h2 h3; go_enter Tryz.func127, Tryz.ntmps127
      repeat' (first | ((with_reducible show Oper.wp _ _ _ _ _ _); with_reducible refine is_al 144 rfl ?_; refine al_g HB 144 (tc zp (.slice none 0 0) 0) (by kernel_rfl) ?_; clear HB; intro g0 W HB; go_simp) | go_values | go_skip | go_guarded | go_step | go_upon)
      refine (node_any W 8 (m - 2) 2).mono ?_; rintro e W1 ⟨rfl, hb⟩; have HB := Lib.hid (HB.out.call hb); clear hb; dsimp only
      repeat' (first | ((with_reducible show Oper.wp _ _ _ _ _ _); with_reducible refine is_st 144 _ _ rfl ?_; refine st_tc 0 HB rfl _ _ rfl rfl rfl ?_; clear HB; intro W HB; dsimp only [List.set] at HB; go_simp) | go_values | go_skip | go_guarded | go_step | go_upon)
      rw [HF.out]; exact bodyPost_ret (res_tn rfl 0 HB rfl rfl rfl) rfl ⟨rfl, HB.out.bel⟩
end Go.Proofs.YtlaiocdnddnnaaaGreatDoor
