/- fun.modulo, ofTwoNumbers by their contracts. Condition: numbers may be. -/
import Derived.Test.YtngkolcpbgibcaaGreatDoorF8
set_option linter.unusedVariables false
set_option linter.unusedSimpArgs false
namespace Go.Proofs.YtngkolcpbgibcaaGreatDoor
open Go.RowKit
theorem tl_whole (v : Int) : tl v 0 = if -9223372036854775808 ≤ v ∧ v ≤ 9223372036854775807 then ⟨v, 0, 0⟩ else ⟨0, 0, 8⟩ := by
  unfold tl tlb; rw [show strip 0 v.natAbs = (v.natAbs, 0) from rfl]; dsimp only
  by_cases h : v < 0
  · rw [show most (decide (v < 0)) = 9223372036854775808 by simp [h, most], show sgn (decide (v < 0)) v.natAbs = v by simp [sgn, h]; omega]
    by_cases h2 : v.natAbs ≤ 9223372036854775808
    · rw [if_pos h2, if_pos (by omega)]
    · rw [if_neg h2, if_neg (by omega)]
  · rw [show most (decide (v < 0)) = 9223372036854775807 by simp [h, most], show sgn (decide (v < 0)) v.natAbs = v by simp [sgn, h]; omega]
    by_cases h2 : v.natAbs ≤ 9223372036854775807
    · rw [if_pos h2, if_pos (by omega)]
    · rw [if_neg h2, if_neg (by omega)]
theorem scaled_val {m : Int} {s p : Nat} (hs : s ≤ p) (hp : p ≤ 9) : divX m s 1 p = tl (m * 10 ^ (p - s)) 0 := by
  unfold divX; rw [if_neg (by decide)]; unfold divD; have e1 : quo (m.natAbs * 10 ^ (9 + p - s)) (1 : Int).natAbs = m.natAbs * 10 ^ (9 + p - s) := by simp [quo]; omega
  have e2 : sgn (decide (m < 0) != decide ((1 : Int) < 0)) (m.natAbs * 10 ^ (9 + p - s)) = m * 10 ^ (9 + p - s) := by
    unfold sgn
    by_cases h : m < 0
    · simp only [h, decide_true, show decide ((1 : Int) < 0) = false from rfl]; rw [if_pos (by rfl)]; push_cast; rw [show ((m.natAbs : Int)) = -m by omega, Int.neg_mul, Int.neg_neg]
    · simp only [h, decide_false, show decide ((1 : Int) < 0) = false from rfl]; rw [if_neg (by decide)]; push_cast; rw [show ((m.natAbs : Int)) = m by omega]
  rw [e1, e2, show 9 + p - s = (p - s) + 9 by omega, Int.pow_add, ← Int.mul_assoc]; generalize m * 10 ^ (p - s) = v; unfold tl; have hd : decide (v * 10 ^ 9 < 0) = decide (v < 0) := by rw [decide_eq_decide]; omega
  rw [hd]; unfold tlb; have : (v * 10 ^ 9).natAbs = v.natAbs * 10 ^ 9 := by rw [Int.natAbs_mul]; rfl
  rw [this, show (9 : Nat) = 0 + 9 from rfl, strip_up]
theorem scaled_ok {m : Int} {s p : Nat} (hs : s ≤ p) (hp : p ≤ 9) (he : (divX m s 1 p).e = 0) : (divX m s 1 p).m = m * 10 ^ (p - s) ∧ -9223372036854775808 ≤ m * 10 ^ (p - s) ∧ m * 10 ^ (p - s) ≤ 9223372036854775807 := by
  rw [scaled_val hs hp, tl_whole] at he ⊢; generalize m * 10 ^ (p - s) = v at *
  split at he
  · rename_i h
    rw [if_pos h]; exact ⟨rfl, h⟩
  · cases he
def modQ (a b : Int) : Int := if a.tmod b ≠ 0 ∧ decide (a.tmod b < 0) ≠ decide (b < 0) then a.tmod b + b else a.tmod b
def modX (m : Int) (s : Nat) (n : Int) (t : Nat) : VX :=
  if n = 0 then .err 7 else if (divX m s 1 (max s t)).e ≠ 0 then reckX ⟨0, 0, (divX m s 1 (max s t)).e⟩ else if (divX n t 1 (max s t)).e ≠ 0 then reckX ⟨0, 0, (divX n t 1 (max s t)).e⟩
  else .num (tl (modQ (divX m s 1 (max s t)).m (divX n t 1 (max s t)).m) (max s t)).m (tl (modQ (divX m s 1 (max s t)).m (divX n t 1 (max s t)).m) (max s t)).s
theorem tmod_bd {a b : Int} (hb : b ≠ 0) : -b.natAbs < a.tmod b ∧ a.tmod b < b.natAbs := by
  have h1 : (a.tmod b).natAbs = a.natAbs % b.natAbs := Int.natAbs_tmod a b; have h2 := Nat.mod_lt a.natAbs (show 0 < b.natAbs by omega); omega
theorem norm_r {m : Int} {s : Nat} (h0 : -9223372036854775808 ≤ m) (h1 : m ≤ 9223372036854775807) (hs : s ≤ 9) (W : World) :
    Calls Tryz.prog 31 #[.agg (dc m s).toArray] W fun e w' => e = .returned (.agg (dc (tl m s).m ((tl m s).s : Nat)).toArray) ∧ Below W.heap.size W w' := norm_any h0 h1 hs
set_option maxRecDepth 20000 in
set_option maxHeartbeats 4000000 in
theorem mod_zero {w : World} {m n : Int} {s t : Nat} (hn : (n == 0) = true) :
    Calls Tryz.prog 177 #[.agg (dc m s).toArray, .agg (dc n t).toArray] w fun e W => e = .returned (.agg (vc (.err 7)).toArray) ∧ Below w.heap.size w W := by
  have HB := Lib.hid (BX.start w); go_enter Tryz.func177, Tryz.ntmps177
  repeat' (first | ((with_reducible show Oper.wp _ _ _ _ _ _); (first | ((first | refine al_v HB rfl ?_ | refine bx_d HB _ rfl rfl ?_); clear HB; (first | (have _t : Nat := g1; clear _t; intro g2 W HB) | (have _t : Nat := g0; clear _t; intro g1 W HB) | intro g0 W HB); go_simp) | (refine lf_i64 1 HB rfl _ rfl rfl rfl ?_; go_simp))) | go_values | go_skip | go_guarded | go_step | go_upon)
  refine (fFault 7).mono ?_; rintro e W1 ⟨rfl, hb⟩; have HB := Lib.hid (HB.out.call hb); clear hb; dsimp only
  repeat' (first | ((with_reducible show Oper.wp _ _ _ _ _ _); refine st_v 0 HB rfl _ _ rfl rfl rfl ?_; clear HB; intro W HB; dsimp only [List.set] at HB; go_simp) | go_values | go_skip | go_guarded | go_step | go_upon)
  exact bodyPost_ret (res_v rfl HB (i := 0) rfl rfl) rfl ⟨rfl, HB.out.bel⟩
def Sc (d : List Value) (P a : Int) (e : Nat) : Prop := ∀ W : World, Calls Tryz.prog 202 #[.agg d.toArray, .int .i64 P] W fun x W' => x = .returned (.tuple #[.int .i64 a, .int .i64 (e : Nat)]) ∧ Below W.heap.size W W'
set_option maxRecDepth 20000 in
set_option maxHeartbeats 4000000 in
theorem mod_e1 {w : World} {m n P a : Int} {s t e : Nat} (hn : (n == 0) = false) (hmx : max (s : Int) (t : Int) = P) (H1 : Sc (dc m s) P a e) (he : (((e : Nat) : Int) != 0) = true) :
    Calls Tryz.prog 177 #[.agg (dc m s).toArray, .agg (dc n t).toArray] w fun x W => x = .returned (.agg (vc (reckX ⟨0, 0, e⟩)).toArray) ∧ Below w.heap.size w W := by
  have HB := Lib.hid (BX.start w); have H1 := Lib.hid H1; have HR : Hid (∀ W : World, Calls Tryz.prog 106 #[.agg (dc 0 (0 : Nat)).toArray, .int .i64 (e : Nat)] W fun x W' => x = .returned (.agg (vc (reckX ⟨0, 0, e⟩)).toArray) ∧ Below W.heap.size W W') := Lib.hid fun W => reckoned_any ⟨0, 0, e⟩; generalize reckX ⟨0, 0, e⟩ = R at *; go_enter Tryz.func177, Tryz.ntmps177
  repeat' (first | ((with_reducible show Oper.wp _ _ _ _ _ _); (first | ((first | refine al_v HB rfl ?_ | refine bx_d HB _ rfl rfl ?_); clear HB; (first | (have _t : Nat := g1; clear _t; intro g2 W HB) | (have _t : Nat := g0; clear _t; intro g1 W HB) | intro g0 W HB); go_simp) | ((first | refine ld_d 2 HB rfl _ rfl rfl ?_ | refine lf_int 1 HB rfl _ rfl rfl rfl ?_ | refine lf_int 2 HB rfl _ rfl rfl rfl ?_ | refine lf_i64 1 HB rfl _ rfl rfl rfl ?_); go_simp))) | go_values | go_skip | go_guarded | go_step | go_upon)
  refine (H1.out _).mono ?_; rintro e W1 ⟨rfl, hb⟩; have HB := Lib.hid (HB.out.call hb); clear hb; dsimp only
  repeat' (first | ((with_reducible show Oper.wp _ _ _ _ _ _); apply stop_bd; exact rfl) | go_values | go_skip | go_guarded | go_step | go_upon)
  refine Lib.hid ?_; refine wp_b (v := .agg (dc 0 (0 : Nat)).toArray) (by kernel_rfl) ?_; go_simp
  repeat' (first | go_values | go_skip | go_guarded | go_step | go_upon)
  refine (HR.out _).mono ?_; rintro e W1 ⟨rfl, hb⟩; have HB := Lib.hid (HB.out.call hb); clear hb; dsimp only
  repeat' (first | ((with_reducible show Oper.wp _ _ _ _ _ _); refine st_v 0 HB rfl _ _ rfl rfl rfl ?_; clear HB; intro W HB; dsimp only [List.set] at HB; go_simp) | go_values | go_skip | go_guarded | go_step | go_upon)
  exact bodyPost_ret (res_v rfl HB (i := 0) rfl rfl) rfl ⟨rfl, HB.out.bel⟩
set_option maxRecDepth 20000 in
set_option maxHeartbeats 4000000 in
theorem mod_e2 {w : World} {m n P a b : Int} {s t e : Nat} (hn : (n == 0) = false) (hmx : max (s : Int) (t : Int) = P) (H1 : Sc (dc m s) P a 0) (H2 : Sc (dc n t) P b e) (he : (((e : Nat) : Int) != 0) = true) :
    Calls Tryz.prog 177 #[.agg (dc m s).toArray, .agg (dc n t).toArray] w fun x W => x = .returned (.agg (vc (reckX ⟨0, 0, e⟩)).toArray) ∧ Below w.heap.size w W := by
  have HB := Lib.hid (BX.start w); have H1 := Lib.hid H1; have H2 := Lib.hid H2; have HR : Hid (∀ W : World, Calls Tryz.prog 106 #[.agg (dc 0 (0 : Nat)).toArray, .int .i64 (e : Nat)] W fun x W' => x = .returned (.agg (vc (reckX ⟨0, 0, e⟩)).toArray) ∧ Below W.heap.size W W') := Lib.hid fun W => reckoned_any ⟨0, 0, e⟩; generalize reckX ⟨0, 0, e⟩ = R at *; go_enter Tryz.func177, Tryz.ntmps177
  repeat' (first | ((with_reducible show Oper.wp _ _ _ _ _ _); (first | ((first | refine al_v HB rfl ?_ | refine bx_d HB _ rfl rfl ?_); clear HB; (first | (have _t : Nat := g1; clear _t; intro g2 W HB) | (have _t : Nat := g0; clear _t; intro g1 W HB) | intro g0 W HB); go_simp) | ((first | refine ld_d 2 HB rfl _ rfl rfl ?_ | refine lf_int 1 HB rfl _ rfl rfl rfl ?_ | refine lf_int 2 HB rfl _ rfl rfl rfl ?_ | refine lf_i64 1 HB rfl _ rfl rfl rfl ?_); go_simp))) | go_values | go_skip | go_guarded | go_step | go_upon)
  refine (H1.out _).mono ?_; rintro e W1 ⟨rfl, hb⟩; have HB := Lib.hid (HB.out.call hb); clear hb; dsimp only
  repeat' (first | ((with_reducible show Oper.wp _ _ _ _ _ _); refine ld_d 1 HB rfl _ rfl rfl ?_; go_simp) | go_values | go_skip | go_guarded | go_step | go_upon)
  refine (H2.out _).mono ?_; rintro e W1 ⟨rfl, hb⟩; have HB := Lib.hid (HB.out.call hb); clear hb; dsimp only
  repeat' (first | ((with_reducible show Oper.wp _ _ _ _ _ _); apply stop_bd; exact rfl) | go_values | go_skip | go_guarded | go_step | go_upon)
  refine Lib.hid ?_; refine wp_b (v := .agg (dc 0 (0 : Nat)).toArray) (by kernel_rfl) ?_; go_simp
  repeat' (first | go_values | go_skip | go_guarded | go_step | go_upon)
  refine (HR.out _).mono ?_; rintro e W1 ⟨rfl, hb⟩; have HB := Lib.hid (HB.out.call hb); clear hb; dsimp only
  repeat' (first | ((with_reducible show Oper.wp _ _ _ _ _ _); refine st_v 0 HB rfl _ _ rfl rfl rfl ?_; clear HB; intro W HB; dsimp only [List.set] at HB; go_simp) | go_values | go_skip | go_guarded | go_step | go_upon)
  exact bodyPost_ret (res_v rfl HB (i := 0) rfl rfl) rfl ⟨rfl, HB.out.bel⟩
set_option maxRecDepth 20000 in
set_option maxHeartbeats 4000000 in
theorem mod_ok {w : World} {m n a b M : Int} {s t p q : Nat} (hn : (n == 0) = false) (hmx : max (s : Int) (t : Int) = (p : Int)) (H1 : Sc (dc m s) p a 0) (H2 : Sc (dc n t) p b 0) (hb : ¬ b = 0) {Q : Int} (hQ : a.tmod b = Q) (hz : (Q != 0) = true) (hs : (decide (Q < 0) != decide (b < 0)) = true) (hl : -9223372036854775808 ≤ Q + b) (hu : Q + b ≤ 9223372036854775807)
    (HN : ∀ W : World, Calls Tryz.prog 31 #[.agg (dc (Q + b) p).toArray] W fun e w' => e = .returned (.agg (dc M q).toArray) ∧ Below W.heap.size W w') :
    Calls Tryz.prog 177 #[.agg (dc m s).toArray, .agg (dc n t).toArray] w fun x W => x = .returned (.agg (vc (.num M q)).toArray) ∧ Below w.heap.size w W := by
  have HB := Lib.hid (BX.start w); have H1 := Lib.hid H1; have H2 := Lib.hid H2; have HN := Lib.hid HN
  by_cases q1 : Q < 0
  · have q2 : ¬ b < 0 := fun h => by simp [q1, h] at hs
    have h1 : decide (Q < 0) = true := decide_eq_true q1; have h2 : decide (b < 0) = false := decide_eq_false q2; clear hs; go_enter Tryz.func177, Tryz.ntmps177
    repeat' (first | ((with_reducible show Oper.wp _ _ _ _ _ _); (first | ((first | refine al_v HB rfl ?_ | refine bx_d HB _ rfl rfl ?_); clear HB; (first | (have _t : Nat := g1; clear _t; intro g2 W HB) | (have _t : Nat := g0; clear _t; intro g1 W HB) | intro g0 W HB); go_simp) | ((first | refine ld_d 2 HB rfl _ rfl rfl ?_ | refine lf_int 1 HB rfl _ rfl rfl rfl ?_ | refine lf_int 2 HB rfl _ rfl rfl rfl ?_ | refine lf_i64 1 HB rfl _ rfl rfl rfl ?_); go_simp))) | go_values | go_skip | go_guarded | go_step | go_upon)
    refine (H1.out _).mono ?_; rintro e W1 ⟨rfl, hb⟩; have HB := Lib.hid (HB.out.call hb); clear hb; dsimp only
    repeat' (first | ((with_reducible show Oper.wp _ _ _ _ _ _); refine ld_d 1 HB rfl _ rfl rfl ?_; go_simp) | go_values | go_skip | go_guarded | go_step | go_upon)
    refine (H2.out _).mono ?_; rintro e W1 ⟨rfl, hb⟩; have HB := Lib.hid (HB.out.call hb); clear hb; dsimp only
    repeat' (first | ((with_reducible show Oper.wp _ _ _ _ _ _); apply stop_bd; exact rfl) | go_values | go_skip | go_guarded | go_step | go_upon)
    refine Lib.hid ?_; refine wp_b (v := .agg (dc (Q + b) (p : Nat)).toArray) (by kernel_rfl) ?_; go_simp
    repeat' (first | go_values | go_skip | go_guarded | go_step | go_upon)
    refine (HN.out _).mono ?_; rintro e W1 ⟨rfl, hb⟩; have HB := Lib.hid (HB.out.call hb); clear hb; dsimp only
    repeat' (first | go_values | go_skip | go_guarded | go_step | go_upon)
    refine (fNumber_any M q).mono ?_; rintro e W1 ⟨rfl, hb⟩; have HB := Lib.hid (HB.out.call hb); clear hb; dsimp only
    repeat' (first | ((with_reducible show Oper.wp _ _ _ _ _ _); refine st_v 0 HB rfl _ _ rfl rfl rfl ?_; clear HB; intro W HB; dsimp only [List.set] at HB; go_simp) | go_values | go_skip | go_guarded | go_step | go_upon)
    exact bodyPost_ret (res_v rfl HB (i := 0) rfl rfl) rfl ⟨rfl, HB.out.bel⟩
  · have q2 : b < 0 := by
      have : decide (b < 0) = true := by simpa [q1] using hs
      exact of_decide_eq_true this
    have h1 : decide (Q < 0) = false := decide_eq_false q1; have h2 : decide (b < 0) = true := decide_eq_true q2; clear hs; go_enter Tryz.func177, Tryz.ntmps177
    repeat' (first | ((with_reducible show Oper.wp _ _ _ _ _ _); (first | ((first | refine al_v HB rfl ?_ | refine bx_d HB _ rfl rfl ?_); clear HB; (first | (have _t : Nat := g1; clear _t; intro g2 W HB) | (have _t : Nat := g0; clear _t; intro g1 W HB) | intro g0 W HB); go_simp) | ((first | refine ld_d 2 HB rfl _ rfl rfl ?_ | refine lf_int 1 HB rfl _ rfl rfl rfl ?_ | refine lf_int 2 HB rfl _ rfl rfl rfl ?_ | refine lf_i64 1 HB rfl _ rfl rfl rfl ?_); go_simp))) | go_values | go_skip | go_guarded | go_step | go_upon)
    refine (H1.out _).mono ?_; rintro e W1 ⟨rfl, hb⟩; have HB := Lib.hid (HB.out.call hb); clear hb; dsimp only
    repeat' (first | ((with_reducible show Oper.wp _ _ _ _ _ _); refine ld_d 1 HB rfl _ rfl rfl ?_; go_simp) | go_values | go_skip | go_guarded | go_step | go_upon)
    refine (H2.out _).mono ?_; rintro e W1 ⟨rfl, hb⟩; have HB := Lib.hid (HB.out.call hb); clear hb; dsimp only
    repeat' (first | ((with_reducible show Oper.wp _ _ _ _ _ _); apply stop_bd; exact rfl) | go_values | go_skip | go_guarded | go_step | go_upon)
    refine Lib.hid ?_; refine wp_b (v := .agg (dc (Q + b) (p : Nat)).toArray) (by kernel_rfl) ?_; go_simp
    repeat' (first | go_values | go_skip | go_guarded | go_step | go_upon)
    refine (HN.out _).mono ?_; rintro e W1 ⟨rfl, hb⟩; have HB := Lib.hid (HB.out.call hb); clear hb; dsimp only
    repeat' (first | go_values | go_skip | go_guarded | go_step | go_upon)
    refine (fNumber_any M q).mono ?_; rintro e W1 ⟨rfl, hb⟩; have HB := Lib.hid (HB.out.call hb); clear hb; dsimp only
    repeat' (first | ((with_reducible show Oper.wp _ _ _ _ _ _); refine st_v 0 HB rfl _ _ rfl rfl rfl ?_; clear HB; intro W HB; dsimp only [List.set] at HB; go_simp) | go_values | go_skip | go_guarded | go_step | go_upon)
    exact bodyPost_ret (res_v rfl HB (i := 0) rfl rfl) rfl ⟨rfl, HB.out.bel⟩
set_option maxRecDepth 20000 in
set_option maxHeartbeats 4000000 in
theorem mod_pl {w : World} {m n a b M : Int} {s t p q : Nat} (hn : (n == 0) = false) (hmx : max (s : Int) (t : Int) = (p : Int)) (H1 : Sc (dc m s) p a 0) (H2 : Sc (dc n t) p b 0) (hb : ¬ b = 0) {Q : Int} (hQ : a.tmod b = Q) (hz : Q = 0 ∨ (decide (Q < 0) = decide (b < 0)))
    (HN : ∀ W : World, Calls Tryz.prog 31 #[.agg (dc Q p).toArray] W fun e w' => e = .returned (.agg (dc M q).toArray) ∧ Below W.heap.size W w') :
    Calls Tryz.prog 177 #[.agg (dc m s).toArray, .agg (dc n t).toArray] w fun x W => x = .returned (.agg (vc (.num M q)).toArray) ∧ Below w.heap.size w W := by
  have HB := Lib.hid (BX.start w); have H1 := Lib.hid H1; have H2 := Lib.hid H2; have HN := Lib.hid HN
  by_cases h0 : Q = 0
  · have hq : (Q != 0) = false := by rw [h0]; rfl
    clear hz h0; go_enter Tryz.func177, Tryz.ntmps177
    repeat' (first | ((with_reducible show Oper.wp _ _ _ _ _ _); (first | ((first | refine al_v HB rfl ?_ | refine bx_d HB _ rfl rfl ?_); clear HB; (first | (have _t : Nat := g1; clear _t; intro g2 W HB) | (have _t : Nat := g0; clear _t; intro g1 W HB) | intro g0 W HB); go_simp) | ((first | refine ld_d 2 HB rfl _ rfl rfl ?_ | refine lf_int 1 HB rfl _ rfl rfl rfl ?_ | refine lf_int 2 HB rfl _ rfl rfl rfl ?_ | refine lf_i64 1 HB rfl _ rfl rfl rfl ?_); go_simp))) | go_values | go_skip | go_guarded | go_step | go_upon)
    refine (H1.out _).mono ?_; rintro e W1 ⟨rfl, hb⟩; have HB := Lib.hid (HB.out.call hb); clear hb; dsimp only
    repeat' (first | ((with_reducible show Oper.wp _ _ _ _ _ _); refine ld_d 1 HB rfl _ rfl rfl ?_; go_simp) | go_values | go_skip | go_guarded | go_step | go_upon)
    refine (H2.out _).mono ?_; rintro e W1 ⟨rfl, hb⟩; have HB := Lib.hid (HB.out.call hb); clear hb; dsimp only
    repeat' (first | ((with_reducible show Oper.wp _ _ _ _ _ _); apply stop_bd; exact rfl) | go_values | go_skip | go_guarded | go_step | go_upon)
    refine Lib.hid ?_; refine wp_b (v := .agg (dc Q (p : Nat)).toArray) (by kernel_rfl) ?_; go_simp
    repeat' (first | go_values | go_skip | go_guarded | go_step | go_upon)
    refine (HN.out _).mono ?_; rintro e W1 ⟨rfl, hb⟩; have HB := Lib.hid (HB.out.call hb); clear hb; dsimp only
    repeat' (first | go_values | go_skip | go_guarded | go_step | go_upon)
    refine (fNumber_any M q).mono ?_; rintro e W1 ⟨rfl, hb⟩; have HB := Lib.hid (HB.out.call hb); clear hb; dsimp only
    repeat' (first | ((with_reducible show Oper.wp _ _ _ _ _ _); refine st_v 0 HB rfl _ _ rfl rfl rfl ?_; clear HB; intro W HB; dsimp only [List.set] at HB; go_simp) | go_values | go_skip | go_guarded | go_step | go_upon)
    exact bodyPost_ret (res_v rfl HB (i := 0) rfl rfl) rfl ⟨rfl, HB.out.bel⟩
  · have hq : (Q != 0) = true := by simpa using h0
    have hz : decide (Q < 0) = decide (b < 0) := by
      rcases hz with h | h
      · exact absurd h h0
      · exact h
    clear h0
    cases h1 : decide (Q < 0) with
    | true =>
      have h2 : decide (b < 0) = true := hz.symm.trans h1; clear hz; go_enter Tryz.func177, Tryz.ntmps177
      repeat' (first | ((with_reducible show Oper.wp _ _ _ _ _ _); (first | ((first | refine al_v HB rfl ?_ | refine bx_d HB _ rfl rfl ?_); clear HB; (first | (have _t : Nat := g1; clear _t; intro g2 W HB) | (have _t : Nat := g0; clear _t; intro g1 W HB) | intro g0 W HB); go_simp) | ((first | refine ld_d 2 HB rfl _ rfl rfl ?_ | refine lf_int 1 HB rfl _ rfl rfl rfl ?_ | refine lf_int 2 HB rfl _ rfl rfl rfl ?_ | refine lf_i64 1 HB rfl _ rfl rfl rfl ?_); go_simp))) | go_values | go_skip | go_guarded | go_step | go_upon)
      refine (H1.out _).mono ?_; rintro e W1 ⟨rfl, hb⟩; have HB := Lib.hid (HB.out.call hb); clear hb; dsimp only
      repeat' (first | ((with_reducible show Oper.wp _ _ _ _ _ _); refine ld_d 1 HB rfl _ rfl rfl ?_; go_simp) | go_values | go_skip | go_guarded | go_step | go_upon)
      refine (H2.out _).mono ?_; rintro e W1 ⟨rfl, hb⟩; have HB := Lib.hid (HB.out.call hb); clear hb; dsimp only
      repeat' (first | ((with_reducible show Oper.wp _ _ _ _ _ _); apply stop_bd; exact rfl) | go_values | go_skip | go_guarded | go_step | go_upon)
      refine Lib.hid ?_; refine wp_b (v := .agg (dc Q (p : Nat)).toArray) (by kernel_rfl) ?_; go_simp
      repeat' (first | go_values | go_skip | go_guarded | go_step | go_upon)
      refine (HN.out _).mono ?_; rintro e W1 ⟨rfl, hb⟩; have HB := Lib.hid (HB.out.call hb); clear hb; dsimp only
      repeat' (first | go_values | go_skip | go_guarded | go_step | go_upon)
      refine (fNumber_any M q).mono ?_; rintro e W1 ⟨rfl, hb⟩; have HB := Lib.hid (HB.out.call hb); clear hb; dsimp only
      repeat' (first | ((with_reducible show Oper.wp _ _ _ _ _ _); refine st_v 0 HB rfl _ _ rfl rfl rfl ?_; clear HB; intro W HB; dsimp only [List.set] at HB; go_simp) | go_values | go_skip | go_guarded | go_step | go_upon)
      exact bodyPost_ret (res_v rfl HB (i := 0) rfl rfl) rfl ⟨rfl, HB.out.bel⟩
    | false =>
      have h2 : decide (b < 0) = false := hz.symm.trans h1; clear hz; go_enter Tryz.func177, Tryz.ntmps177
      repeat' (first | ((with_reducible show Oper.wp _ _ _ _ _ _); (first | ((first | refine al_v HB rfl ?_ | refine bx_d HB _ rfl rfl ?_); clear HB; (first | (have _t : Nat := g1; clear _t; intro g2 W HB) | (have _t : Nat := g0; clear _t; intro g1 W HB) | intro g0 W HB); go_simp) | ((first | refine ld_d 2 HB rfl _ rfl rfl ?_ | refine lf_int 1 HB rfl _ rfl rfl rfl ?_ | refine lf_int 2 HB rfl _ rfl rfl rfl ?_ | refine lf_i64 1 HB rfl _ rfl rfl rfl ?_); go_simp))) | go_values | go_skip | go_guarded | go_step | go_upon)
      refine (H1.out _).mono ?_; rintro e W1 ⟨rfl, hb⟩; have HB := Lib.hid (HB.out.call hb); clear hb; dsimp only
      repeat' (first | ((with_reducible show Oper.wp _ _ _ _ _ _); refine ld_d 1 HB rfl _ rfl rfl ?_; go_simp) | go_values | go_skip | go_guarded | go_step | go_upon)
      refine (H2.out _).mono ?_; rintro e W1 ⟨rfl, hb⟩; have HB := Lib.hid (HB.out.call hb); clear hb; dsimp only
      repeat' (first | ((with_reducible show Oper.wp _ _ _ _ _ _); apply stop_bd; exact rfl) | go_values | go_skip | go_guarded | go_step | go_upon)
      refine Lib.hid ?_; refine wp_b (v := .agg (dc Q (p : Nat)).toArray) (by kernel_rfl) ?_; go_simp
      repeat' (first | go_values | go_skip | go_guarded | go_step | go_upon)
      refine (HN.out _).mono ?_; rintro e W1 ⟨rfl, hb⟩; have HB := Lib.hid (HB.out.call hb); clear hb; dsimp only
      repeat' (first | go_values | go_skip | go_guarded | go_step | go_upon)
      refine (fNumber_any M q).mono ?_; rintro e W1 ⟨rfl, hb⟩; have HB := Lib.hid (HB.out.call hb); clear hb; dsimp only
      repeat' (first | ((with_reducible show Oper.wp _ _ _ _ _ _); refine st_v 0 HB rfl _ _ rfl rfl rfl ?_; clear HB; intro W HB; dsimp only [List.set] at HB; go_simp) | go_values | go_skip | go_guarded | go_step | go_upon)
      exact bodyPost_ret (res_v rfl HB (i := 0) rfl rfl) rfl ⟨rfl, HB.out.bel⟩
end Go.Proofs.YtngkolcpbgibcaaGreatDoor
