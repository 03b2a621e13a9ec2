/- fun's reckoning functions by their contracts. Condition: numbers may be. -/
import Derived.Test.YtngkolcpbgibcaaGreatDoorF7
import Derived.Test.YtngkolcpbgibcaaGreatDoorD5
set_option linter.unusedVariables false
set_option linter.unusedSimpArgs false
namespace Go.Proofs.YtngkolcpbgibcaaGreatDoor
open Go.RowKit
def GdX (x : VX) : Prop := ∀ m s, numX x = .ok m s → Gd m s
def drV (r : DR) : Value := .tuple #[.agg (dc r.m (r.s : Nat)).toArray, .int .i64 (r.e : Nat)]
theorem add_r {m n : Int} {s t : Nat} (hx : Gd m s) (hy : Gd n t) (W : World) : Calls Tryz.prog 105 #[.agg (dc m s).toArray, .agg (dc n t).toArray] W fun e W' => e = .returned (drV (addD m s n t)) ∧ Below W.heap.size W W' := dadd_any hx hy
theorem sub_r {m n : Int} {s t : Nat} (hx : Gd m s) (hy : Gd n t) (W : World) : Calls Tryz.prog 34 #[.agg (dc m s).toArray, .agg (dc n t).toArray] W fun e W' => e = .returned (drV (subD m s n t)) ∧ Below W.heap.size W W' := dsub_any hx hy
theorem mul_r {m n : Int} {s t : Nat} (hx : Gd m s) (hy : Gd n t) (W : World) : Calls Tryz.prog 36 #[.agg (dc m s).toArray, .agg (dc n t).toArray] W fun e W' => e = .returned (drV (mulD m s n t)) ∧ Below W.heap.size W W' := mul_any hx hy
def divX (m : Int) (s : Nat) (n : Int) (t : Nat) : DR := if n = 0 then ⟨0, 0, 9⟩ else divD m s n t
theorem gd_zero : Gd 0 0 := ⟨by decide, by decide, by decide, .inl rfl⟩
theorem zero_s {n : Int} {t : Nat} (h : Gd n t) (hn : n = 0) : t = 0 := by
  rcases h.last with h | h
  · exact h
  · subst hn; exact absurd rfl h
theorem div_r {m n : Int} {s t : Nat} (hx : Gd m s) (hy : Gd n t) (W : World) : Calls Tryz.prog 35 #[.agg (dc m s).toArray, .agg (dc n t).toArray] W fun e W' => e = .returned (drV (divX m s n t)) ∧ Below W.heap.size W W' := by
  unfold divX
  by_cases hn : n = 0
  · rw [if_pos hn]; obtain rfl := zero_s hy hn; subst hn; exact divz_any hx
  · rw [if_neg hn]; exact div_any hx hy hn
theorem round_r {m p : Int} {s : Nat} (h : Gd m s) (W : World) : Calls Tryz.prog 203 #[.agg (dc m s).toArray, .int .i64 p] W fun e W' => e = .returned (drV (roundD m s p)) ∧ Below W.heap.size W W' := round_any h
theorem cmp_r {m n : Int} {s t : Nat} (hx : Gd m s) (hy : Gd n t) (W : World) : Calls Tryz.prog 33 #[.agg (dc m s).toArray, .agg (dc n t).toArray] W fun e W' => e = .returned (.int .i64 (cmp (val m s) (val n t))) ∧ Below W.heap.size W W' := compare_any hx hy
theorem gd_one {p : Nat} (hp : p ≤ 9) : Gd 1 p := ⟨by decide, by decide, hp, .inr (by decide)⟩
set_option maxRecDepth 20000 in
set_option maxHeartbeats 4000000 in
theorem scaled_any {w : World} {m : Int} {s p : Nat} (hx : Gd m s) (hp : p ≤ 9) :
    Calls Tryz.prog 202 #[.agg (dc m s).toArray, .int .i64 p] w fun e W => e = .returned (.tuple #[.int .i64 (divX m s 1 p).m, .int .i64 ((divX m s 1 p).e : Nat)]) ∧ Below w.heap.size w W := by
  have HB := Lib.hid (BX.start w); have HC := Lib.hid (div_r hx (gd_one hp)); generalize divX m s 1 p = r at *; simp only [drV] at HC; clear hx hp; go_enter Tryz.func202, Tryz.ntmps202
  repeat' (first | ((with_reducible show Oper.wp _ _ _ _ _ _); (first | (refine bx_d HB _ rfl rfl ?_; clear HB; intro g0 W HB; go_simp) | (refine ld_d 0 HB rfl _ rfl rfl ?_; go_simp) | (apply stop_bd; exact rfl))) | go_values | go_skip | go_guarded | go_step | go_upon)
  refine Lib.hid ?_; refine wp_b (v := .agg (dc 1 (p : Nat)).toArray) (by kernel_rfl) ?_; go_simp
  repeat' (first | go_values | go_skip | go_guarded | go_step | go_upon)
  refine (HC.out _).mono ?_; rintro e W1 ⟨rfl, hb⟩; have HB := Lib.hid (HB.out.call hb); clear hb; dsimp only
  repeat' (first | ((with_reducible show Oper.wp _ _ _ _ _ _); (first | (refine al_d HB rfl ?_; clear HB; intro g1 W HB; go_simp) | (refine st_d 0 HB rfl _ _ rfl rfl rfl ?_; clear HB; intro W HB; dsimp only [List.set] at HB; go_simp) | (refine lf_i64 0 HB rfl _ rfl rfl rfl ?_; go_simp))) | go_values | go_skip | go_guarded | go_step | go_upon)
  exact bodyPost_ret (v := .tuple #[.int .i64 r.m, .int .i64 (r.e : Nat)]) (by simp [results, Tryz.results202, go_sem]) rfl ⟨rfl, HB.out.bel⟩
def roundX (m : Int) (s : Nat) (n : Int) (t : Nat) : VX := if t = 0 then reckX (roundD m s n) else .err 36
set_option maxRecDepth 20000 in
set_option maxHeartbeats 4000000 in
theorem fRound_any {w : World} {m n : Int} {s t : Nat} (hx : Gd m s) :
    Calls Tryz.prog 178 #[.agg (dc m s).toArray, .agg (dc n t).toArray] w fun e W => e = .returned (.agg (vc (roundX m s n t)).toArray) ∧ Below w.heap.size w W := by
  have HB := Lib.hid (BX.start w); have HW : Hid (∀ W : World, Calls Tryz.prog 175 #[.agg (dc n t).toArray] W fun e W' => e = .returned (.bool (decide (t = 0))) ∧ Below W.heap.size W W') := Lib.hid fun W => isWhole_any n t; unfold roundX
  by_cases ht : t = 0
  · rw [if_pos ht]; rw [decide_eq_true ht] at HW; have HC := Lib.hid (round_r (p := n) hx); generalize roundD m s n = r at *; simp only [drV] at HC; clear hx ht; go_enter Tryz.func178, Tryz.ntmps178
    repeat' (first | ((with_reducible show Oper.wp _ _ _ _ _ _); (first | ((first | refine al_v HB rfl ?_ | refine bx_d HB _ rfl rfl ?_); clear HB; (first | (have _t : Nat := g1; clear _t; intro g2 W HB) | (have _t : Nat := g0; clear _t; intro g1 W HB) | intro g0 W HB); go_simp) | ((first | refine ld_d 1 HB rfl _ rfl rfl ?_ | refine lf_i64 1 HB rfl _ rfl rfl rfl ?_); go_simp))) | go_values | go_skip | go_guarded | go_step | go_upon)
    refine (HW.out _).mono ?_; rintro e W1 ⟨rfl, hb⟩; have HB := Lib.hid (HB.out.call hb); clear hb; dsimp only
    repeat' (first | ((with_reducible show Oper.wp _ _ _ _ _ _); (first | refine ld_d 2 HB rfl _ rfl rfl ?_ | refine lf_i64 1 HB rfl _ rfl rfl rfl ?_); go_simp) | go_values | go_skip | go_guarded | go_step | go_upon)
    refine (HC.out _).mono ?_; rintro e W1 ⟨rfl, hb⟩; have HB := Lib.hid (HB.out.call hb); clear hb; dsimp only
    repeat' (first | go_values | go_skip | go_guarded | go_step | go_upon)
    refine (reckoned_any r).mono ?_; rintro e W1 ⟨rfl, hb⟩; have HB := Lib.hid (HB.out.call hb); clear hb; dsimp only
    repeat' (first | ((with_reducible show Oper.wp _ _ _ _ _ _); refine st_v 0 HB rfl _ _ rfl rfl rfl ?_; clear HB; intro W HB; dsimp only [List.set] at HB; go_simp) | go_values | go_skip | go_guarded | go_step | go_upon)
    exact bodyPost_ret (res_v rfl HB (i := 0) rfl rfl) rfl ⟨rfl, HB.out.bel⟩
  · rw [if_neg ht]; rw [decide_eq_false ht] at HW; clear hx ht; go_enter Tryz.func178, Tryz.ntmps178
    repeat' (first | ((with_reducible show Oper.wp _ _ _ _ _ _); (first | ((first | refine al_v HB rfl ?_ | refine bx_d HB _ rfl rfl ?_); clear HB; (first | (have _t : Nat := g1; clear _t; intro g2 W HB) | (have _t : Nat := g0; clear _t; intro g1 W HB) | intro g0 W HB); go_simp) | ((first | refine ld_d 1 HB rfl _ rfl rfl ?_ | refine lf_i64 1 HB rfl _ rfl rfl rfl ?_); go_simp))) | go_values | go_skip | go_guarded | go_step | go_upon)
    refine (HW.out _).mono ?_; rintro e W1 ⟨rfl, hb⟩; have HB := Lib.hid (HB.out.call hb); clear hb; dsimp only
    repeat' (first | go_values | go_skip | go_guarded | go_step | go_upon)
    refine (fFault 36).mono ?_; rintro e W1 ⟨rfl, hb⟩; have HB := Lib.hid (HB.out.call hb); clear hb; dsimp only
    repeat' (first | ((with_reducible show Oper.wp _ _ _ _ _ _); refine st_v 0 HB rfl _ _ rfl rfl rfl ?_; clear HB; intro W HB; dsimp only [List.set] at HB; go_simp) | go_values | go_skip | go_guarded | go_step | go_upon)
    exact bodyPost_ret (res_v rfl HB (i := 0) rfl rfl) rfl ⟨rfl, HB.out.bel⟩
end Go.Proofs.YtngkolcpbgibcaaGreatDoor
