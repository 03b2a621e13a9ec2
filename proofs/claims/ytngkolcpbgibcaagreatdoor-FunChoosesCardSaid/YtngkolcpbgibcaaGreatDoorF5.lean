/- fun's choices by their contracts. Condition: texts are not too long. -/
import Derived.Test.YtngkolcpbgibcaaGreatDoorF4
set_option linter.unusedVariables false
set_option linter.unusedSimpArgs false
namespace Go.Proofs.YtngkolcpbgibcaaGreatDoor
open Go.RowKit
def unlessX (x : VX) (y : Bool × List VX) : VX := if x.kind = 4 then onlyX y else x
set_option maxRecDepth 20000 in
set_option maxHeartbeats 4000000 in
theorem unless_any {w : World} {x : VX} {y : Bool × List VX} {A : Option Addr} {c : Nat} (h : RowF argF w (· < w.heap.size) A 2 [(false, [x]), y]) :
    Calls Tryz.prog 47 #[.slice A 2 c] w fun e W => e = .returned (.agg (vc (unlessX x y)).toArray) ∧ Below w.heap.size w W := by
  have HB := Lib.hid (BX.start w); obtain ⟨aa, rfl, hall⟩ := args_all h (by simp); obtain ⟨A1, c1, h0⟩ := hall 0 _ rfl; have HR := Lib.hid h0; obtain ⟨a1, rfl, h0c, h0v⟩ := h0.one; have H0 := Lib.hid (And.intro h0c h0v); obtain ⟨A2, c2, h1⟩ := hall 1 y rfl; have H1 := Lib.hid h1; clear h0 h0c h0v h hall h1; unfold unlessX
  by_cases hk : x.kind = 4
  · rw [if_pos hk]; have h4 : (x.kind == 4) = true := by rw [hk]; rfl
    clear hk; go_enter Tryz.func47, Tryz.ntmps47
    repeat' (first | ((with_reducible show Oper.wp _ _ _ _ _ _); (first | (refine al_v HB rfl ?_; clear HB; intro g0 W HB; go_simp) | refine stop_ld (ty := 53) _ rfl ?_)) | go_values | go_skip | go_guarded | go_step | go_upon)
    refine Lib.hid ?_; refine lfm_vals _ rfl rfl (H0.out.1 _ HB.out.bel 1 _ rfl) ?_; go_simp
    repeat' (first | ((with_reducible show Oper.wp _ _ _ _ _ _); refine stop_ld (ty := 3) _ rfl ?_) | go_values | go_skip | go_guarded | go_step | go_upon)
    refine Lib.hid ?_; refine lfm_int _ rfl rfl (H0.out.2 _ HB.out.bel 0 _ (vc_kind x)) ?_; go_simp
    repeat' (first | ((with_reducible show Oper.wp _ _ _ _ _ _); refine stop_ld (ty := 55) _ rfl ?_) | go_values | go_skip | go_guarded | go_step | go_upon)
    refine Lib.hid ?_; refine ldm_a y.1 A2 y.2.length c2 _ rfl rfl (H1.out.below HB.out.bel).cell ?_; go_simp
    repeat' (first | go_values | go_skip | go_guarded | go_step | go_upon)
    refine (only_any y (H1.out.below HB.out.bel).row).mono ?_; rintro e W1 ⟨rfl, hb⟩; have HB := Lib.hid (HB.out.call hb); clear hb; dsimp only
    repeat' (first | ((with_reducible show Oper.wp _ _ _ _ _ _); refine st_v 0 HB rfl _ _ rfl rfl rfl ?_; clear HB; intro W HB; dsimp only [List.set] at HB; go_simp) | go_values | go_skip | go_guarded | go_step | go_upon)
    exact bodyPost_ret (res_v rfl HB (i := 0) rfl rfl) rfl ⟨rfl, HB.out.bel⟩
  · rw [if_neg hk]; have h4 : (x.kind == 4) = false := by rw [beq_eq_false_iff_ne]; exact hk
    clear hk; go_enter Tryz.func47, Tryz.ntmps47
    repeat' (first | ((with_reducible show Oper.wp _ _ _ _ _ _); (first | (refine al_v HB rfl ?_; clear HB; intro g0 W HB; go_simp) | refine stop_ld (ty := 53) _ rfl ?_)) | go_values | go_skip | go_guarded | go_step | go_upon)
    refine Lib.hid ?_; refine lfm_vals _ rfl rfl (H0.out.1 _ HB.out.bel 1 _ rfl) ?_; go_simp
    repeat' (first | ((with_reducible show Oper.wp _ _ _ _ _ _); refine stop_ld (ty := 3) _ rfl ?_) | go_values | go_skip | go_guarded | go_step | go_upon)
    refine Lib.hid ?_; refine lfm_int _ rfl rfl (H0.out.2 _ HB.out.bel 0 _ (vc_kind x)) ?_; go_simp
    repeat' (first | ((with_reducible show Oper.wp _ _ _ _ _ _); refine stop_ld (ty := 55) _ rfl ?_) | go_values | go_skip | go_guarded | go_step | go_upon)
    refine Lib.hid ?_; refine ldm_a false (some a1) 1 c1 _ rfl rfl (HR.out.below HB.out.bel).cell ?_; go_simp
    repeat' (first | go_values | go_skip | go_guarded | go_step | go_upon)
    refine (only_any (false, [x]) (HR.out.below HB.out.bel).row).mono ?_; rintro e W1 ⟨rfl, hb⟩; have HB := Lib.hid (HB.out.call hb); clear hb; dsimp only
    repeat' (first | ((with_reducible show Oper.wp _ _ _ _ _ _); refine st_v 0 HB rfl _ _ rfl rfl rfl ?_; clear HB; intro W HB; dsimp only [List.set] at HB; go_simp) | go_values | go_skip | go_guarded | go_step | go_upon)
    exact bodyPost_ret (res_v rfl HB (i := 0) rfl rfl) rfl ⟨rfl, HB.out.bel⟩
def chooseX (x : VX) (r : List (Bool × List VX)) : VX :=
  match whX x 1 with
  | .no y => y
  | .ok n => if (r.length : Int) < n then .err 15 else onlyX (r.getD (n.toNat - 1) (true, []))
set_option maxRecDepth 20000 in
set_option maxHeartbeats 4000000 in
theorem choose_any {w : World} {x : VX} (hs : shortX 100000000 x) {r : List (Bool × List VX)} (hr : r.length ≤ 1000000) {A : Option Addr} {c : Nat} (h : RowF argF w (· < w.heap.size) A ((false, [x]) :: r).length ((false, [x]) :: r)) :
    Calls Tryz.prog 48 #[.slice A ((false, [x]) :: r).length c] w fun e W => e = .returned (.agg (vc (chooseX x r)).toArray) ∧ Below w.heap.size w W := by
  have HB := Lib.hid (BX.start w); obtain ⟨aa, rfl, hall⟩ := args_all h (by simp); obtain ⟨A1, c1, h0⟩ := hall 0 _ rfl; obtain ⟨a1, rfl, h0c, h0v⟩ := h0.one; have H0 := Lib.hid (And.intro h0c h0v); have HW := Lib.hid (fun W : World => whole_any (w := W) hs 1); clear h0 h0c h0v h; unfold chooseX; have hl : ((false, [x]) :: r).length = r.length + 1 := rfl; rw [hl]
  cases hw : whX x 1 with
  | no y =>
    rw [hw] at HW; simp only [whV] at HW; clear hw hall hl; go_enter Tryz.func48, Tryz.ntmps48
    repeat' (first | ((with_reducible show Oper.wp _ _ _ _ _ _); (first | (refine al_v HB rfl ?_; clear HB; intro g0 W HB; go_simp) | refine stop_ld (ty := 53) _ rfl ?_)) | go_values | go_skip | go_guarded | go_step | go_upon)
    refine Lib.hid ?_; refine lfm_vals _ rfl rfl (H0.out.1 _ HB.out.bel 1 _ rfl) ?_; go_simp
    repeat' (first | ((with_reducible show Oper.wp _ _ _ _ _ _); refine stop_ld (ty := 32) _ rfl ?_) | go_values | go_skip | go_guarded | go_step | go_upon)
    refine Lib.hid ?_; refine ldm_v x _ rfl rfl (H0.out.2 _ HB.out.bel) ?_; go_simp
    repeat' (first | go_values | go_skip | go_guarded | go_step | go_upon)
    refine (HW.out _).mono ?_; rintro e W1 ⟨rfl, hb⟩; have HB := Lib.hid (HB.out.call hb); clear hb; dsimp only
    repeat' (first | ((with_reducible show Oper.wp _ _ _ _ _ _); (first | (refine al_v HB rfl ?_; clear HB; intro g1 W HB; go_simp) | (refine ld_v 0 HB rfl _ rfl rfl ?_; go_simp) | ((first | refine st_v 0 HB rfl _ _ rfl rfl rfl ?_ | refine st_v 1 HB rfl _ _ rfl rfl rfl ?_); clear HB; intro W HB; dsimp only [List.set] at HB; go_simp))) | go_values | go_skip | go_guarded | go_step | go_upon)
    exact bodyPost_ret (res_v rfl HB (i := 1) rfl rfl) rfl ⟨rfl, HB.out.bel⟩
  | ok n =>
    have hn1 : 1 ≤ n := by
      unfold whX at hw
      cases hx : numX x with
      | no y => rw [hx] at hw; cases hw
      | ok m s =>
        rw [hx] at hw; simp only [whN] at hw
        split at hw
        · injection hw with hw; omega
        · cases hw
    rw [hw] at HW; simp only [whV] at HW; clear hw; dsimp only
    by_cases hb : (r.length : Int) < n
    · rw [if_pos hb]; have hge : ((r.length : Int) + 1) ≤ n := by omega
      clear hall hb hn1 hl; go_enter Tryz.func48, Tryz.ntmps48
      repeat' (first | ((with_reducible show Oper.wp _ _ _ _ _ _); (first | (refine al_v HB rfl ?_; clear HB; intro g0 W HB; go_simp) | refine stop_ld (ty := 53) _ rfl ?_)) | go_values | go_skip | go_guarded | go_step | go_upon)
      refine Lib.hid ?_; refine lfm_vals _ rfl rfl (H0.out.1 _ HB.out.bel 1 _ rfl) ?_; go_simp
      repeat' (first | ((with_reducible show Oper.wp _ _ _ _ _ _); refine stop_ld (ty := 32) _ rfl ?_) | go_values | go_skip | go_guarded | go_step | go_upon)
      refine Lib.hid ?_; refine ldm_v x _ rfl rfl (H0.out.2 _ HB.out.bel) ?_; go_simp
      repeat' (first | go_values | go_skip | go_guarded | go_step | go_upon)
      refine (HW.out _).mono ?_; rintro e W1 ⟨rfl, hb⟩; have HB := Lib.hid (HB.out.call hb); clear hb; dsimp only
      repeat' (first | ((with_reducible show Oper.wp _ _ _ _ _ _); (first | (refine al_v HB rfl ?_; clear HB; intro g1 W HB; go_simp) | (refine st_v 0 HB rfl _ _ rfl rfl rfl ?_; clear HB; intro W HB; dsimp only [List.set] at HB; go_simp))) | go_values | go_skip | go_guarded | go_step | go_upon)
      refine (fFault 15).mono ?_; rintro e W1 ⟨rfl, hb⟩; have HB := Lib.hid (HB.out.call hb); clear hb; dsimp only
      repeat' (first | ((with_reducible show Oper.wp _ _ _ _ _ _); refine st_v 1 HB rfl _ _ rfl rfl rfl ?_; clear HB; intro W HB; dsimp only [List.set] at HB; go_simp) | go_values | go_skip | go_guarded | go_step | go_upon)
      exact bodyPost_ret (res_v rfl HB (i := 1) rfl rfl) rfl ⟨rfl, HB.out.bel⟩
    · rw [if_neg hb]; obtain ⟨k, rfl⟩ : ∃ k : Nat, n = ((k + 1 : Nat) : Int) := ⟨n.toNat - 1, by omega⟩
      have hk : k < r.length := by omega
      obtain ⟨y, hy⟩ : ∃ y, r[k]? = some y := ⟨_, List.getElem?_eq_getElem hk⟩
      rw [show r.getD (((k + 1 : Nat) : Int).toNat - 1) (true, []) = y by rw [show ((k + 1 : Nat) : Int).toNat - 1 = k by omega, List.getD_eq_getElem?_getD, hy]; rfl]; obtain ⟨A2, c2, h1⟩ := hall (k + 1) y (by simpa using hy); have H1 := Lib.hid h1; obtain ⟨j, hj⟩ : ∃ j, j = k + 1 := ⟨_, rfl⟩
      rw [← hj] at H1 HW; have hj1 : j ≤ r.length := by omega
      have hlt : ¬ ((r.length : Int) + 1) ≤ (j : Int) := by omega
      have hlt2 : (j : Int) < (r.length : Int) + 1 := by omega
      have hj0 : (0 : Int) ≤ (j : Int) := by omega
      have hj3 : j < r.length + 1 := by omega
      clear hall hb hn1 hy h1 hj hk hl; go_enter Tryz.func48, Tryz.ntmps48
      repeat' (first | ((with_reducible show Oper.wp _ _ _ _ _ _); (first | (refine al_v HB rfl ?_; clear HB; intro g0 W HB; go_simp) | refine stop_ld (ty := 53) _ rfl ?_)) | go_values | go_skip | go_guarded | go_step | go_upon)
      refine Lib.hid ?_; refine lfm_vals _ rfl rfl (H0.out.1 _ HB.out.bel 1 _ rfl) ?_; go_simp
      repeat' (first | ((with_reducible show Oper.wp _ _ _ _ _ _); refine stop_ld (ty := 32) _ rfl ?_) | go_values | go_skip | go_guarded | go_step | go_upon)
      refine Lib.hid ?_; refine ldm_v x _ rfl rfl (H0.out.2 _ HB.out.bel) ?_; go_simp
      repeat' (first | go_values | go_skip | go_guarded | go_step | go_upon)
      refine (HW.out _).mono ?_; rintro e W1 ⟨rfl, hb⟩; have HB := Lib.hid (HB.out.call hb); clear hb; dsimp only
      repeat' (first | ((with_reducible show Oper.wp _ _ _ _ _ _); (first | (refine al_v HB rfl ?_; clear HB; intro g1 W HB; go_simp) | (refine st_v 0 HB rfl _ _ rfl rfl rfl ?_; clear HB; intro W HB; dsimp only [List.set] at HB; go_simp) | refine stop_ld (ty := 55) _ rfl ?_)) | go_values | go_skip | go_guarded | go_step | go_upon)
      refine Lib.hid ?_; refine ldm_a y.1 A2 y.2.length c2 _ rfl rfl (H1.out.below HB.out.bel).cell ?_; go_simp
      repeat' (first | go_values | go_skip | go_guarded | go_step | go_upon)
      refine (only_any y (H1.out.below HB.out.bel).row).mono ?_; rintro e W1 ⟨rfl, hb⟩; have HB := Lib.hid (HB.out.call hb); clear hb; dsimp only
      repeat' (first | ((with_reducible show Oper.wp _ _ _ _ _ _); refine st_v 1 HB rfl _ _ rfl rfl rfl ?_; clear HB; intro W HB; dsimp only [List.set] at HB; go_simp) | go_values | go_skip | go_guarded | go_step | go_upon)
      exact bodyPost_ret (res_v rfl HB (i := 1) rfl rfl) rfl ⟨rfl, HB.out.bel⟩
end Go.Proofs.YtngkolcpbgibcaaGreatDoor
