/- cashbooklaw14.P, cashbooklaw9.N, cashbooklaw9.S, cashbooklaw14.known, by their contracts. utf8.ValidString keeps its contract. -/
import Derived.Test.YtkjiokepihmpfaaDoorSm14
set_option linter.unusedVariables false
set_option linter.unusedSimpArgs false
namespace Go.Proofs.YtkjiokepihmpfaaDoor
open Go.RowKit

set_option maxRecDepth 20000 in
set_option maxHeartbeats 4000000 in
theorem pl_any {w : World} (x y z : Int) : Calls Tryd.prog 9 #[.int .i64 x, .int .i64 y, .int .i64 z] w fun e W => e = .returned (.agg (plc ⟨x, y, z⟩).toArray) ∧ Below w.heap.size w W := by
  have HB : Hid (BX w [] w) := Lib.hid (BX.start w)
  go_enter Tryd.func9, Tryd.ntmps9
  repeat' (first | ((with_reducible show Oper.wp _ _ _ _ _ _); (first | (with_reducible refine is_al 40 rfl ?_; refine al_g HB 40 (plc ⟨0, 0, 0⟩) (by kernel_rfl) ?_) | (with_reducible refine is_al 32 rfl ?_; refine al_g HB 32 (vac blV) (by kernel_rfl) ?_) | (with_reducible refine is_al 28 rfl ?_; refine al_g HB 28 (enc 0 (.slice none 0 0) (.slice none 0 0)) (by kernel_rfl) ?_) | (with_reducible refine is_al 44 rfl ?_; refine al_g HB 44 (slc ⟨⟨0, 0, 0⟩, blV⟩) (by kernel_rfl) ?_)); clear HB; (first | (have _t : Nat := g10; clear _t; intro g11 W HB) | (have _t : Nat := g9; clear _t; intro g10 W HB) | (have _t : Nat := g8; clear _t; intro g9 W HB) | (have _t : Nat := g7; clear _t; intro g8 W HB) | (have _t : Nat := g6; clear _t; intro g7 W HB) | (have _t : Nat := g5; clear _t; intro g6 W HB) | (have _t : Nat := g4; clear _t; intro g5 W HB) | (have _t : Nat := g3; clear _t; intro g4 W HB) | (have _t : Nat := g2; clear _t; intro g3 W HB) | (have _t : Nat := g1; clear _t; intro g2 W HB) | (have _t : Nat := g0; clear _t; intro g1 W HB) | intro g0 W HB); go_simp) | ((with_reducible show Oper.wp _ _ _ _ _ _); with_reducible refine stop_st _ _ rfl ?_) | go_values | go_skip | go_guarded | go_step | go_upon)
  refine Lib.hid ?_
  refine st_pl (p := ⟨0, 0, 0⟩) (p2 := ⟨x, y, z⟩) 0 HB rfl _ _ rfl rfl rfl ?_
  clear HB
  intro W HB
  dsimp only [List.set] at HB
  go_simp
  repeat' (first | go_values | go_skip | go_guarded | go_step | go_upon)
  exact bodyPost_ret (res_g rtPl rfl (g := g0) rfl (HB.out.get (i := 0) rfl)) rfl ⟨rfl, HB.out.bel⟩
set_option maxRecDepth 20000 in
set_option maxHeartbeats 4000000 in
theorem dint_any {w : World} (n : Int) : Calls Tryd.prog 23 #[.int .i64 n] w fun e W => e = .returned (.agg (dcc n 0).toArray) ∧ Below w.heap.size w W := by
  have HB : Hid (BX w [] w) := Lib.hid (BX.start w)
  go_enter Tryd.func23, Tryd.ntmps23
  repeat' (first | ((with_reducible show Oper.wp _ _ _ _ _ _); with_reducible refine stop_al rfl ?_) | go_values | go_skip | go_guarded | go_step | go_upon)
  refine Lib.hid ?_
  refine al_g HB 30 (dcc 0 0) (by kernel_rfl) ?_
  clear HB
  intro g0 W HB
  go_simp
  repeat' (first | ((with_reducible show Oper.wp _ _ _ _ _ _); with_reducible refine stop_bd rfl ?_) | go_values | go_skip | go_guarded | go_step | go_upon)
  refine Lib.hid ?_
  refine wp_b (v := .agg (dcc n 0).toArray) (by kernel_rfl) ?_
  go_simp
  repeat' (first | ((with_reducible show Oper.wp _ _ _ _ _ _); with_reducible refine stop_st _ _ rfl ?_) | go_values | go_skip | go_guarded | go_step | go_upon)
  refine Lib.hid ?_
  refine st_g (cs := dcc 0 0) (vs := dcc n 0) (i := 0) rtDec (fun u hu => by simp only [dcc, List.mem_cons, List.not_mem_nil, or_false] at hu; rcases hu with rfl | rfl <;> rfl) HB rfl rfl _ _ rfl rfl rfl ?_
  clear HB
  intro W HB
  dsimp only [List.set] at HB
  go_simp
  repeat' (first | go_values | go_skip | go_guarded | go_step | go_upon)
  exact bodyPost_ret (res_g rtDec rfl (g := g0) rfl (HB.out.get (i := 0) rfl)) rfl ⟨rfl, HB.out.bel⟩
set_option maxRecDepth 20000 in
set_option maxHeartbeats 4000000 in
theorem ln_any {w : World} (n : Int) : Calls Tryd.prog 7 #[.int .i64 n] w fun e W => e = .returned (.agg (vac ⟨1, n, 0, ⟨#[]⟩, false, 0⟩).toArray) ∧ Below w.heap.size w W := by
  have HB : Hid (BX w [] w) := Lib.hid (BX.start w)
  go_enter Tryd.func7, Tryd.ntmps7
  repeat' (first | ((with_reducible show Oper.wp _ _ _ _ _ _); (first | (with_reducible refine is_al 40 rfl ?_; refine al_g HB 40 (plc ⟨0, 0, 0⟩) (by kernel_rfl) ?_) | (with_reducible refine is_al 32 rfl ?_; refine al_g HB 32 (vac blV) (by kernel_rfl) ?_) | (with_reducible refine is_al 28 rfl ?_; refine al_g HB 28 (enc 0 (.slice none 0 0) (.slice none 0 0)) (by kernel_rfl) ?_) | (with_reducible refine is_al 44 rfl ?_; refine al_g HB 44 (slc ⟨⟨0, 0, 0⟩, blV⟩) (by kernel_rfl) ?_)); clear HB; (first | (have _t : Nat := g10; clear _t; intro g11 W HB) | (have _t : Nat := g9; clear _t; intro g10 W HB) | (have _t : Nat := g8; clear _t; intro g9 W HB) | (have _t : Nat := g7; clear _t; intro g8 W HB) | (have _t : Nat := g6; clear _t; intro g7 W HB) | (have _t : Nat := g5; clear _t; intro g6 W HB) | (have _t : Nat := g4; clear _t; intro g5 W HB) | (have _t : Nat := g3; clear _t; intro g4 W HB) | (have _t : Nat := g2; clear _t; intro g3 W HB) | (have _t : Nat := g1; clear _t; intro g2 W HB) | (have _t : Nat := g0; clear _t; intro g1 W HB) | intro g0 W HB); go_simp) | go_values | go_skip | go_guarded | go_step | go_upon)
  refine (dint_any n).mono ?_
  rintro e W1 ⟨rfl, hb⟩
  replace HB := Lib.hid (HB.out.call hb)
  clear hb
  dsimp only
  repeat' (first | ((with_reducible show Oper.wp _ _ _ _ _ _); with_reducible refine stop_bd rfl ?_) | go_values | go_skip | go_guarded | go_step | go_upon)
  refine Lib.hid ?_
  refine wp_b (v := .agg (vac ⟨1, n, 0, ⟨#[]⟩, false, 0⟩).toArray) (by kernel_rfl) ?_
  go_simp
  repeat' (first | ((with_reducible show Oper.wp _ _ _ _ _ _); (first | (with_reducible refine is_st 40 _ _ rfl ?_; (first | refine st_pl 0 HB rfl _ _ rfl rfl rfl ?_ | refine st_pl 1 HB rfl _ _ rfl rfl rfl ?_ | refine st_pl 2 HB rfl _ _ rfl rfl rfl ?_ | refine st_pl 3 HB rfl _ _ rfl rfl rfl ?_ | refine st_pl 4 HB rfl _ _ rfl rfl rfl ?_ | refine st_pl 5 HB rfl _ _ rfl rfl rfl ?_)) | (with_reducible refine is_st 32 _ _ rfl ?_; (first | refine st_va 0 HB rfl _ _ rfl rfl rfl ?_ | refine st_va 1 HB rfl _ _ rfl rfl rfl ?_ | refine st_va 2 HB rfl _ _ rfl rfl rfl ?_ | refine st_va 3 HB rfl _ _ rfl rfl rfl ?_ | refine st_va 4 HB rfl _ _ rfl rfl rfl ?_ | refine st_va 5 HB rfl _ _ rfl rfl rfl ?_)) | (with_reducible refine is_st 28 _ _ rfl ?_; (first | refine st_en 0 HB rfl _ _ rfl rfl rfl ?_ | refine st_en 1 HB rfl _ _ rfl rfl rfl ?_ | refine st_en 2 HB rfl _ _ rfl rfl rfl ?_ | refine st_en 3 HB rfl _ _ rfl rfl rfl ?_ | refine st_en 4 HB rfl _ _ rfl rfl rfl ?_ | refine st_en 5 HB rfl _ _ rfl rfl rfl ?_)) | (with_reducible refine is_st 44 _ _ rfl ?_; (first | refine st_sl 0 HB rfl _ _ rfl rfl rfl ?_ | refine st_sl 1 HB rfl _ _ rfl rfl rfl ?_ | refine st_sl 2 HB rfl _ _ rfl rfl rfl ?_ | refine st_sl 3 HB rfl _ _ rfl rfl rfl ?_ | refine st_sl 4 HB rfl _ _ rfl rfl rfl ?_ | refine st_sl 5 HB rfl _ _ rfl rfl rfl ?_))); clear HB; intro W HB; dsimp only [List.set] at HB; go_simp) | go_values | go_skip | go_guarded | go_step | go_upon)
  exact bodyPost_ret (res_g rtVa rfl (g := g0) rfl (HB.out.get (i := 0) rfl)) rfl ⟨rfl, HB.out.bel⟩
set_option maxRecDepth 20000 in
set_option maxHeartbeats 4000000 in
theorem lt_any {w : World} (t : ByteArray) : Calls Tryd.prog 21 #[.string t] w fun e W => e = .returned (.agg (vac ⟨2, 0, 0, t, false, 0⟩).toArray) ∧ Below w.heap.size w W := by
  have HB : Hid (BX w [] w) := Lib.hid (BX.start w)
  go_enter Tryd.func21, Tryd.ntmps21
  repeat' (first | ((with_reducible show Oper.wp _ _ _ _ _ _); (first | (with_reducible refine is_al 40 rfl ?_; refine al_g HB 40 (plc ⟨0, 0, 0⟩) (by kernel_rfl) ?_) | (with_reducible refine is_al 32 rfl ?_; refine al_g HB 32 (vac blV) (by kernel_rfl) ?_) | (with_reducible refine is_al 28 rfl ?_; refine al_g HB 28 (enc 0 (.slice none 0 0) (.slice none 0 0)) (by kernel_rfl) ?_) | (with_reducible refine is_al 44 rfl ?_; refine al_g HB 44 (slc ⟨⟨0, 0, 0⟩, blV⟩) (by kernel_rfl) ?_)); clear HB; (first | (have _t : Nat := g10; clear _t; intro g11 W HB) | (have _t : Nat := g9; clear _t; intro g10 W HB) | (have _t : Nat := g8; clear _t; intro g9 W HB) | (have _t : Nat := g7; clear _t; intro g8 W HB) | (have _t : Nat := g6; clear _t; intro g7 W HB) | (have _t : Nat := g5; clear _t; intro g6 W HB) | (have _t : Nat := g4; clear _t; intro g5 W HB) | (have _t : Nat := g3; clear _t; intro g4 W HB) | (have _t : Nat := g2; clear _t; intro g3 W HB) | (have _t : Nat := g1; clear _t; intro g2 W HB) | (have _t : Nat := g0; clear _t; intro g1 W HB) | intro g0 W HB); go_simp) | ((with_reducible show Oper.wp _ _ _ _ _ _); with_reducible refine stop_bd rfl ?_) | go_values | go_skip | go_guarded | go_step | go_upon)
  refine Lib.hid ?_
  refine wp_b (v := .agg (vac ⟨2, 0, 0, t, false, 0⟩).toArray) (by kernel_rfl) ?_
  go_simp
  repeat' (first | ((with_reducible show Oper.wp _ _ _ _ _ _); (first | (with_reducible refine is_st 40 _ _ rfl ?_; (first | refine st_pl 0 HB rfl _ _ rfl rfl rfl ?_ | refine st_pl 1 HB rfl _ _ rfl rfl rfl ?_ | refine st_pl 2 HB rfl _ _ rfl rfl rfl ?_ | refine st_pl 3 HB rfl _ _ rfl rfl rfl ?_ | refine st_pl 4 HB rfl _ _ rfl rfl rfl ?_ | refine st_pl 5 HB rfl _ _ rfl rfl rfl ?_)) | (with_reducible refine is_st 32 _ _ rfl ?_; (first | refine st_va 0 HB rfl _ _ rfl rfl rfl ?_ | refine st_va 1 HB rfl _ _ rfl rfl rfl ?_ | refine st_va 2 HB rfl _ _ rfl rfl rfl ?_ | refine st_va 3 HB rfl _ _ rfl rfl rfl ?_ | refine st_va 4 HB rfl _ _ rfl rfl rfl ?_ | refine st_va 5 HB rfl _ _ rfl rfl rfl ?_)) | (with_reducible refine is_st 28 _ _ rfl ?_; (first | refine st_en 0 HB rfl _ _ rfl rfl rfl ?_ | refine st_en 1 HB rfl _ _ rfl rfl rfl ?_ | refine st_en 2 HB rfl _ _ rfl rfl rfl ?_ | refine st_en 3 HB rfl _ _ rfl rfl rfl ?_ | refine st_en 4 HB rfl _ _ rfl rfl rfl ?_ | refine st_en 5 HB rfl _ _ rfl rfl rfl ?_)) | (with_reducible refine is_st 44 _ _ rfl ?_; (first | refine st_sl 0 HB rfl _ _ rfl rfl rfl ?_ | refine st_sl 1 HB rfl _ _ rfl rfl rfl ?_ | refine st_sl 2 HB rfl _ _ rfl rfl rfl ?_ | refine st_sl 3 HB rfl _ _ rfl rfl rfl ?_ | refine st_sl 4 HB rfl _ _ rfl rfl rfl ?_ | refine st_sl 5 HB rfl _ _ rfl rfl rfl ?_))); clear HB; intro W HB; dsimp only [List.set] at HB; go_simp) | go_values | go_skip | go_guarded | go_step | go_upon)
  exact bodyPost_ret (res_g rtVa rfl (g := g0) rfl (HB.out.get (i := 0) rfl)) rfl ⟨rfl, HB.out.bel⟩
/-- What is alike is so told. -/
theorem run_eqpT {o : Oper} {a : Act} {W : World} {p q : Pl} (h : eqP p q = true) (x y : Operand) (ho : o.op = .binOp .eql 40 x y 40) (hx : a.eval x = .agg (plc p).toArray) (hy : a.eval y = .agg (plc q).toArray) : (execOp a.eval o).run Tryd.prog W = .ok (.value (.bool true)) W := by
  have := run_eqlp (W := W) x y ho hx hy
  rwa [h] at this
theorem run_eqvT {o : Oper} {a : Act} {W : World} {p q : Va} (h : eqV p q = true) (x y : Operand) (ho : o.op = .binOp .eql 32 x y 32) (hx : a.eval x = .agg (vac p).toArray) (hy : a.eval y = .agg (vac q).toArray) : (execOp a.eval o).run Tryd.prog W = .ok (.value (.bool true)) W := by
  have := run_eqlv (W := W) x y ho hx hy
  rwa [h] at this
/-- An Env of a row that lies below, no Names, in a box. -/
def EnvAt (W : World) (g : Nat) (N : Int) (R : List Sl) : Prop := ∃ (A : Option Addr) (c : Nat), Bk W g 28 (enc N (.slice A R.length c) (.slice none 0 0)).toArray ∧ R.length ≤ c ∧ Rd W W.heap.size 9 A R.length (rwc R)
theorem EnvAt.below {W W' : World} {g : Nat} {N : Int} {R : List Sl} (h : EnvAt W g N R) (hb : Below W.heap.size W W') : EnvAt W' g N R := by
  obtain ⟨A, c, hk, hc, hr⟩ := h
  exact ⟨A, c, hk.below hb hk.lt, hc, (hr.below hb).mono hb.size⟩
def vN (n : Int) : Va := ⟨1, n, 0, ⟨#[]⟩, false, 0⟩
def vT (l : List UInt8) : Va := ⟨2, 0, 0, ⟨l.toArray⟩, false, 0⟩
def sA : Sl := ⟨⟨1, 2, 3⟩, vN 5⟩
def sB : Sl := ⟨⟨0, 9, 9⟩, vT [120]⟩
theorem k_a : putR [] ⟨1, 2, 3⟩ (vN 5) = [sA] := by kernel_rfl
theorem k_b : putR [sA] ⟨0, 9, 9⟩ (vT [120]) = [sB, sA] := by kernel_rfl
theorem k_c : putR [sB, sA] ⟨1, 2, 3⟩ blV = [sB] := by kernel_rfl
theorem up_b : Up [sB, sA] := (ckL_up (N := 2) (q := none) (by kernel_rfl)).2.1
theorem up_a : Up [sA] := (ckL_up (N := 2) (q := none) (by kernel_rfl)).2.1
theorem up_c : Up [sB] := (ckL_up (N := 2) (q := none) (by kernel_rfl)).2.1
theorem up_0 : Up [] := (ckL_up (N := 2) (q := none) rfl).2.1
theorem own_rd {W : World} {base n k c : Nat} {e : TypeId} {A : Option Addr} {xs : List Value} (h : W.ownsRow base e k (.slice A n c) n xs) : Rd W W.heap.size k A n xs := by
  obtain ⟨A', c', e1, -, -, hr⟩ := own_form h
  injection e1 with e1
  subst e1
  exact hr.mono (by first | exact Nat.le_refl _ | simp)
set_option maxRecDepth 20000 in
set_option maxHeartbeats 4000000 in
theorem known14 {w : World} (HV : Val w) : Calls Tryd.prog 6 #[] w fun e W => e = .returned (.bool true) ∧ Below w.heap.size w W := by
  have HVV := Lib.hid HV
  clear HV
  have HB : Hid (BX w [] w) := Lib.hid (BX.start w)
  go_enter Tryd.func6, Tryd.ntmps6
  repeat' (first | ((with_reducible show Oper.wp _ _ _ _ _ _); with_reducible refine stop_bd rfl ?_) | go_values | go_skip | go_guarded | go_step | go_upon)
  refine Lib.hid ?_
  refine wp_b (v := .agg (enc 2 (.slice none 0 0) (.slice none 0 0)).toArray) (by kernel_rfl) ?_
  go_simp
  repeat' (first | ((with_reducible show Oper.wp _ _ _ _ _ _); (first | (with_reducible refine is_al 40 rfl ?_; refine al_g HB 40 (plc ⟨0, 0, 0⟩) (by kernel_rfl) ?_) | (with_reducible refine is_al 32 rfl ?_; refine al_g HB 32 (vac blV) (by kernel_rfl) ?_) | (with_reducible refine is_al 28 rfl ?_; refine al_g HB 28 (enc 0 (.slice none 0 0) (.slice none 0 0)) (by kernel_rfl) ?_) | (with_reducible refine is_al 44 rfl ?_; refine al_g HB 44 (slc ⟨⟨0, 0, 0⟩, blV⟩) (by kernel_rfl) ?_)); clear HB; (first | (have _t : Nat := g10; clear _t; intro g11 W HB) | (have _t : Nat := g9; clear _t; intro g10 W HB) | (have _t : Nat := g8; clear _t; intro g9 W HB) | (have _t : Nat := g7; clear _t; intro g8 W HB) | (have _t : Nat := g6; clear _t; intro g7 W HB) | (have _t : Nat := g5; clear _t; intro g6 W HB) | (have _t : Nat := g4; clear _t; intro g5 W HB) | (have _t : Nat := g3; clear _t; intro g4 W HB) | (have _t : Nat := g2; clear _t; intro g3 W HB) | (have _t : Nat := g1; clear _t; intro g2 W HB) | (have _t : Nat := g0; clear _t; intro g1 W HB) | intro g0 W HB); go_simp) | ((with_reducible show Oper.wp _ _ _ _ _ _); (first | (with_reducible refine is_st 40 _ _ rfl ?_; (first | refine st_pl 0 HB rfl _ _ rfl rfl rfl ?_ | refine st_pl 1 HB rfl _ _ rfl rfl rfl ?_ | refine st_pl 2 HB rfl _ _ rfl rfl rfl ?_ | refine st_pl 3 HB rfl _ _ rfl rfl rfl ?_ | refine st_pl 4 HB rfl _ _ rfl rfl rfl ?_ | refine st_pl 5 HB rfl _ _ rfl rfl rfl ?_)) | (with_reducible refine is_st 32 _ _ rfl ?_; (first | refine st_va 0 HB rfl _ _ rfl rfl rfl ?_ | refine st_va 1 HB rfl _ _ rfl rfl rfl ?_ | refine st_va 2 HB rfl _ _ rfl rfl rfl ?_ | refine st_va 3 HB rfl _ _ rfl rfl rfl ?_ | refine st_va 4 HB rfl _ _ rfl rfl rfl ?_ | refine st_va 5 HB rfl _ _ rfl rfl rfl ?_)) | (with_reducible refine is_st 28 _ _ rfl ?_; (first | refine st_en 0 HB rfl _ _ rfl rfl rfl ?_ | refine st_en 1 HB rfl _ _ rfl rfl rfl ?_ | refine st_en 2 HB rfl _ _ rfl rfl rfl ?_ | refine st_en 3 HB rfl _ _ rfl rfl rfl ?_ | refine st_en 4 HB rfl _ _ rfl rfl rfl ?_ | refine st_en 5 HB rfl _ _ rfl rfl rfl ?_)) | (with_reducible refine is_st 44 _ _ rfl ?_; (first | refine st_sl 0 HB rfl _ _ rfl rfl rfl ?_ | refine st_sl 1 HB rfl _ _ rfl rfl rfl ?_ | refine st_sl 2 HB rfl _ _ rfl rfl rfl ?_ | refine st_sl 3 HB rfl _ _ rfl rfl rfl ?_ | refine st_sl 4 HB rfl _ _ rfl rfl rfl ?_ | refine st_sl 5 HB rfl _ _ rfl rfl rfl ?_))); clear HB; intro W HB; dsimp only [List.set] at HB; go_simp) | go_values | go_skip | go_guarded | go_step | go_upon)
  have HE1 : Hid (EnvAt W g0 2 []) := Lib.hid ⟨none, 0, HB.out.get (i := 0) rfl, Nat.le_refl _, Rd.nil _ _ _ _⟩
  have HBW := Lib.hid HB.out.bel
  clear HB
  obtain ⟨W0, hW⟩ : ∃ W0, W0 = W := ⟨_, rfl⟩
  subst hW
  obtain ⟨g1, hg1⟩ : ∃ g1, g1 = g0 := ⟨_, rfl⟩
  subst hg1
  obtain ⟨A1, c1, hk1, hc1, hr1⟩ := HE1.out
  have HK := Lib.hid hk1
  have HP : Hid (∀ W : World, Below W0.heap.size W0 W → Calls Tryd.prog 8 #[.agg (enc 2 (.slice A1 0 c1) (.slice none 0 0)).toArray, .agg (plc ⟨1, 2, 3⟩).toArray, .agg (vac (vN 5)).toArray] W fun e W' => ∃ u, e = .returned u ∧ OwE W' w.heap.size 2 [sA] u ∧ Below W.heap.size W W') := Lib.hid fun W hb => by
    have := Put_any (L := []) (HVV.out.below (HBW.out.trans (hb.mono HBW.out.size))) ⟨1, 2, 3⟩ (vN 5) 2 (cn := 0) (hr1.below hb) hb.size (by decide) hc1 up_0 (by decide) (by kernel_rfl) (by kernel_rfl)
    rw [k_a] at this
    exact this.mono fun e W' ⟨u, h1, h2, h3⟩ => ⟨u, h1, h2.mono (Nat.le_trans HBW.out.size hb.size), h3⟩
  clear hk1 hc1 hr1
  refine wp_region_last 5 _ rfl (by kernel_rfl) rfl ?_
  simp only [List.take_succ_cons, List.take_zero]
  refine wpAny_phases (S := (fun _ W => Below W0.heap.size W0 W)) (E := (fun W W' => Below W.heap.size W W')) [] [(1, Is (.pointer (some ⟨g1, 0, none⟩)))] [(6, Is (.agg (enc 2 (.slice A1 0 c1) (.slice none 0 0)).toArray)), (7, Is (.agg (plc ⟨1, 2, 3⟩).toArray)), (8, Is (.agg (vac (vN 5)).toArray)), (9, (fun u W => OwE W w.heap.size 2 [sA] u)), (2, (fun u W => ∃ g, u = .pointer (some ⟨g, 0, none⟩) ∧ W0.heap.size ≤ g ∧ Bk W g 28 (enc 0 (.slice none 0 0) (.slice none 0 0)).toArray))]
    [.op [1] none, .op [] none, .op [] none, .op [6, 7, 8] none, .op [] none] ?_ ?_ ?_ ?_ ?_ ⟨stable_is _ _, stable_is _ _, stable_is _ _, stable_is _ _, (fun _ _ _ hb h => h.below hb), (fun _ _ _ hb h => by obtain ⟨g, h1, h2, h3⟩ := h; exact ⟨g, h1, h2, h3.below hb h3.lt⟩), trivial⟩ ?_ (Below.refl _ _).drew ?_ ?_
  · as_aux_lemma => kernel_rfl
  · as_aux_lemma => kernel_rfl
  · as_aux_lemma => kernel_rfl
  · as_aux_lemma => kernel_rfl
  · as_aux_lemma => kernel_rfl
  · exact ⟨rfl, trivial⟩
  · refine ⟨?_, ?_, ?_, ?_, ?_, trivial⟩
    · as_aux_lemma =>
        intro vals a W hS hL
        have e1 : a.tmps.getD 1 undef = .pointer (some ⟨g1, 0, none⟩) := hL.1
        clear hL
        refine lands_vB (run_ldg (cs := enc 2 (.slice A1 0 c1) (.slice none 0 0)) rtEnv (HK.out.below hS HK.out.lt) (.tmp 1) rfl e1) ?_
        exact ⟨⟨fun d hd => by injection hd with hd; subst hd; rfl, fun h => by cases h⟩, hS, Below.refl _ _⟩
    · as_aux_lemma =>
        intro vals a W hS hL
        clear hL
        go_simp
        refine (pl_any _ _ _).mono ?_
        rintro e W2 ⟨rfl, hb⟩
        exact ⟨_, rfl, ⟨fun d hd => by injection hd with hd; subst hd; rfl, fun h => by cases h⟩, hS.trans (hb.mono hS.size), hb⟩
    · as_aux_lemma =>
        intro vals a W hS hL
        clear hL
        go_simp
        refine (ln_any 5).mono ?_
        rintro e W2 ⟨rfl, hb⟩
        exact ⟨_, rfl, ⟨fun d hd => by injection hd with hd; subst hd; rfl, fun h => by cases h⟩, hS.trans (hb.mono hS.size), hb⟩
    · as_aux_lemma =>
        intro vals a W hS hL
        have e6 : a.tmps.getD 6 undef = .agg (enc 2 (.slice A1 0 c1) (.slice none 0 0)).toArray := hL.1
        have e7 : a.tmps.getD 7 undef = .agg (plc ⟨1, 2, 3⟩).toArray := hL.2.1
        have e8 : a.tmps.getD 8 undef = .agg (vac (vN 5)).toArray := hL.2.2.1
        clear hL
        rw [Array.getD_eq_getD_getElem?] at e6 e7 e8
        go_simp
        refine (HP.out W hS).mono ?_
        rintro e W2 ⟨u, rfl, ho, hb⟩
        exact ⟨_, rfl, ⟨fun d hd => by injection hd with hd; subst hd; exact ho, fun h => by cases h⟩, hS.trans (hb.mono hS.size), hb⟩
    · as_aux_lemma =>
        intro vals a W hS hL
        clear hL
        refine lands_vB (v := .pointer (some ⟨W.heap.size, 0, none⟩)) (w' := W.alloc (.cells (enc 0 (.slice none 0 0) (.slice none 0 0)).toArray 28)) (by kernel_rfl) ?_
        exact ⟨⟨fun d hd => by injection hd with hd; subst hd; exact ⟨_, rfl, hS.size, Bk.new _ _ _⟩, fun h => by cases h⟩, hS.alloc hS.size _, bel0 _ _⟩
  · intro a W vals hd hsz hT hF hv hP hS
    obtain rfl : vals = [] := List.eq_nil_of_length_eq_zero hv
    have e1 : a.tmps.getD 1 undef = .pointer (some ⟨g1, 0, none⟩) := hT 1 (by simp)
    obtain ⟨Au, cu, e9, hcu, ho⟩ : OwE W w.heap.size 2 [sA] (a.tmps.getD 9 undef) := hT 9 (by simp)
    obtain ⟨g2, e2, hg, hkb⟩ : ∃ g, a.tmps.getD 2 undef = .pointer (some ⟨g, 0, none⟩) ∧ W0.heap.size ≤ g ∧ Bk W g 28 (enc 0 (.slice none 0 0) (.slice none 0 0)).toArray := hT 2 (by simp)
    clear hT hF hP
    show Oper.wp _ _ _ _ _ _
    refine st_sub (.tmp 2) (.tmp 9) (vs := enc 2 (.slice Au 1 cu) (.slice none 0 0)) rfl e2 e9 rtEnv.size enc_one hkb (Nat.le_refl 3) ?_
    intro W2 hk hK hsz2
    have hb2 : Below W0.heap.size W0 W2 := hS.trans (hK.below (B := W0.heap.size) hS.size fun i hi e => by omega)
    have ho2 := hK.own ho fun i hi e => own_ne ho hkb (by decide) (by rw [hi, e])
    have hk2 : Bk W2 g2 28 (enc 2 (.slice Au 1 cu) (.slice none 0 0)).toArray := hk
    have HE2 : Hid (EnvAt W2 g2 2 [sA]) := Lib.hid ⟨Au, cu, hk2, hcu, own_rd ho2⟩
    have HB2 := Lib.hid (HBW.out.trans (hb2.mono HBW.out.size))
    have HX := Lib.hid hb2
    clear hk hK hk2 ho ho2 hkb hcu hS e9 hsz2 hb2 HBW
    dsimp only [Act.put]
    rw [act_lit 105 a hd hsz]
    obtain ⟨f, hf⟩ : ∃ f : Nat → Value, ∀ k, a.tmps.getD k undef = f k := ⟨_, fun _ => rfl⟩
    simp only [List.range, List.range.loop, List.map, e1, e2]
    simp only [hf]
    clear e1 e2 hsz hd hf
    repeat' (first | go_values | go_skip | go_guarded | go_step | go_upon)
    replace HE1 := Lib.hid (HE1.out.below HX.out)
    clear HX HK HP
    have HBW := HB2
    clear HB2
    obtain ⟨W0, hW⟩ : ∃ W0, W0 = W2 := ⟨_, rfl⟩
    subst hW
    obtain ⟨A1, c1, hk1, hc1, hr1⟩ := HE2.out
    have HK := Lib.hid hk1
    have HP : Hid (∀ W : World, Below W0.heap.size W0 W → Calls Tryd.prog 8 #[.agg (enc 2 (.slice A1 1 c1) (.slice none 0 0)).toArray, .agg (plc ⟨0, 9, 9⟩).toArray, .agg (vac (vT [120])).toArray] W fun e W' => ∃ u, e = .returned u ∧ OwE W' w.heap.size 2 [sB, sA] u ∧ Below W.heap.size W W') := Lib.hid fun W hb => by
      have := Put_any (L := [sA]) (HVV.out.below (HBW.out.trans (hb.mono HBW.out.size))) ⟨0, 9, 9⟩ (vT [120]) 2 (cn := 0) (hr1.below hb) hb.size (by decide) hc1 up_a (by decide) (by kernel_rfl) (by kernel_rfl)
      rw [k_b] at this
      exact this.mono fun e W' ⟨u, h1, h2, h3⟩ => ⟨u, h1, h2.mono (Nat.le_trans HBW.out.size hb.size), h3⟩
    clear hk1 hc1 hr1
    refine wp_region_last 5 _ rfl (by kernel_rfl) rfl ?_
    simp only [List.take_succ_cons, List.take_zero]
    refine wpAny_phases (S := (fun _ W => Below W0.heap.size W0 W)) (E := (fun W W' => Below W.heap.size W W')) [] [(1, Is (.pointer (some ⟨g1, 0, none⟩))), (2, Is (.pointer (some ⟨g2, 0, none⟩)))] [(10, Is (.agg (enc 2 (.slice A1 1 c1) (.slice none 0 0)).toArray)), (11, Is (.agg (plc ⟨0, 9, 9⟩).toArray)), (12, Is (.agg (vac (vT [120])).toArray)), (13, (fun u W => OwE W w.heap.size 2 [sB, sA] u)), (3, (fun u W => ∃ g, u = .pointer (some ⟨g, 0, none⟩) ∧ W0.heap.size ≤ g ∧ Bk W g 28 (enc 0 (.slice none 0 0) (.slice none 0 0)).toArray))]
      [.op [2] none, .op [] none, .op [] none, .op [10, 11, 12] none, .op [] none] ?_ ?_ ?_ ?_ ?_ ⟨stable_is _ _, stable_is _ _, stable_is _ _, stable_is _ _, stable_is _ _, (fun _ _ _ hb h => h.below hb), (fun _ _ _ hb h => by obtain ⟨g, h1, h2, h3⟩ := h; exact ⟨g, h1, h2, h3.below hb h3.lt⟩), trivial⟩ ?_ (Below.refl _ _).drew ?_ ?_
    · as_aux_lemma => kernel_rfl
    · as_aux_lemma => kernel_rfl
    · as_aux_lemma => kernel_rfl
    · as_aux_lemma => kernel_rfl
    · as_aux_lemma => kernel_rfl
    · exact ⟨rfl, rfl, trivial⟩
    · refine ⟨?_, ?_, ?_, ?_, ?_, trivial⟩
      · as_aux_lemma =>
          intro vals a W hS hL
          have e2 : a.tmps.getD 2 undef = .pointer (some ⟨g2, 0, none⟩) := hL.1
          clear hL
          refine lands_vB (run_ldg (cs := enc 2 (.slice A1 1 c1) (.slice none 0 0)) rtEnv (HK.out.below hS HK.out.lt) (.tmp 2) rfl e2) ?_
          exact ⟨⟨fun d hd => by injection hd with hd; subst hd; rfl, fun h => by cases h⟩, hS, Below.refl _ _⟩
      · as_aux_lemma =>
          intro vals a W hS hL
          clear hL
          go_simp
          refine (pl_any _ _ _).mono ?_
          rintro e W2 ⟨rfl, hb⟩
          exact ⟨_, rfl, ⟨fun d hd => by injection hd with hd; subst hd; rfl, fun h => by cases h⟩, hS.trans (hb.mono hS.size), hb⟩
      · as_aux_lemma =>
          intro vals a W hS hL
          clear hL
          go_simp
          refine (lt_any _).mono ?_
          rintro e W2 ⟨rfl, hb⟩
          exact ⟨_, rfl, ⟨fun d hd => by injection hd with hd; subst hd; rfl, fun h => by cases h⟩, hS.trans (hb.mono hS.size), hb⟩
      · as_aux_lemma =>
          intro vals a W hS hL
          have e10 : a.tmps.getD 10 undef = .agg (enc 2 (.slice A1 1 c1) (.slice none 0 0)).toArray := hL.1
          have e11 : a.tmps.getD 11 undef = .agg (plc ⟨0, 9, 9⟩).toArray := hL.2.1
          have e12 : a.tmps.getD 12 undef = .agg (vac (vT [120])).toArray := hL.2.2.1
          clear hL
          rw [Array.getD_eq_getD_getElem?] at e10 e11 e12
          go_simp
          refine (HP.out W hS).mono ?_
          rintro e W2 ⟨u, rfl, ho, hb⟩
          exact ⟨_, rfl, ⟨fun d hd => by injection hd with hd; subst hd; exact ho, fun h => by cases h⟩, hS.trans (hb.mono hS.size), hb⟩
      · as_aux_lemma =>
          intro vals a W hS hL
          clear hL
          refine lands_vB (v := .pointer (some ⟨W.heap.size, 0, none⟩)) (w' := W.alloc (.cells (enc 0 (.slice none 0 0) (.slice none 0 0)).toArray 28)) (by kernel_rfl) ?_
          exact ⟨⟨fun d hd => by injection hd with hd; subst hd; exact ⟨_, rfl, hS.size, Bk.new _ _ _⟩, fun h => by cases h⟩, hS.alloc hS.size _, bel0 _ _⟩
    · intro a W vals hd hsz hT hF hv hP hS
      obtain rfl : vals = [] := List.eq_nil_of_length_eq_zero hv
      have e1 : a.tmps.getD 1 undef = .pointer (some ⟨g1, 0, none⟩) := hT 1 (by simp)
      have e2 : a.tmps.getD 2 undef = .pointer (some ⟨g2, 0, none⟩) := hT 2 (by simp)
      obtain ⟨Au, cu, e13, hcu, ho⟩ : OwE W w.heap.size 2 [sB, sA] (a.tmps.getD 13 undef) := hT 13 (by simp)
      obtain ⟨g3, e3, hg, hkb⟩ : ∃ g, a.tmps.getD 3 undef = .pointer (some ⟨g, 0, none⟩) ∧ W0.heap.size ≤ g ∧ Bk W g 28 (enc 0 (.slice none 0 0) (.slice none 0 0)).toArray := hT 3 (by simp)
      clear hT hF hP
      show Oper.wp _ _ _ _ _ _
      refine st_sub (.tmp 3) (.tmp 13) (vs := enc 2 (.slice Au 2 cu) (.slice none 0 0)) rfl e3 e13 rtEnv.size enc_one hkb (Nat.le_refl 3) ?_
      intro W2 hk hK hsz2
      have hb2 : Below W0.heap.size W0 W2 := hS.trans (hK.below (B := W0.heap.size) hS.size fun i hi e => by omega)
      have ho2 := hK.own ho fun i hi e => own_ne ho hkb (by decide) (by rw [hi, e])
      have hk2 : Bk W2 g3 28 (enc 2 (.slice Au 2 cu) (.slice none 0 0)).toArray := hk
      have HE3 : Hid (EnvAt W2 g3 2 [sB, sA]) := Lib.hid ⟨Au, cu, hk2, hcu, own_rd ho2⟩
      have HB2 := Lib.hid (HBW.out.trans (hb2.mono HBW.out.size))
      have HX := Lib.hid hb2
      clear hk hK hk2 ho ho2 hkb hcu hS e13 hsz2 hb2 HBW
      dsimp only [Act.put]
      rw [act_lit 105 a hd hsz]
      obtain ⟨f, hf⟩ : ∃ f : Nat → Value, ∀ k, a.tmps.getD k undef = f k := ⟨_, fun _ => rfl⟩
      simp only [List.range, List.range.loop, List.map, e1, e2, e3]
      simp only [hf]
      clear e1 e2 e3 hsz hd hf
      repeat' (first | go_values | go_skip | go_guarded | go_step | go_upon)
      replace HE1 := Lib.hid (HE1.out.below HX.out)
      replace HE2 := Lib.hid (HE2.out.below HX.out)
      clear HX HK HP
      have HBW := HB2
      clear HB2
      obtain ⟨W0, hW⟩ : ∃ W0, W0 = W2 := ⟨_, rfl⟩
      subst hW
      obtain ⟨A1, c1, hk1, hc1, hr1⟩ := HE3.out
      have HK := Lib.hid hk1
      have HP : Hid (∀ W : World, Below W0.heap.size W0 W → Calls Tryd.prog 8 #[.agg (enc 2 (.slice A1 2 c1) (.slice none 0 0)).toArray, .agg (plc ⟨1, 2, 3⟩).toArray, .agg (vac blV).toArray] W fun e W' => ∃ u, e = .returned u ∧ OwE W' w.heap.size 2 [sB] u ∧ Below W.heap.size W W') := Lib.hid fun W hb => by
        have := Put_any (L := [sB, sA]) (HVV.out.below (HBW.out.trans (hb.mono HBW.out.size))) ⟨1, 2, 3⟩ blV 2 (cn := 0) (hr1.below hb) hb.size (by decide) hc1 up_b (by decide) (by kernel_rfl) (by kernel_rfl)
        rw [k_c] at this
        exact this.mono fun e W' ⟨u, h1, h2, h3⟩ => ⟨u, h1, h2.mono (Nat.le_trans HBW.out.size hb.size), h3⟩
      clear hk1 hc1 hr1
      refine wp_region_last 5 _ rfl (by kernel_rfl) rfl ?_
      simp only [List.take_succ_cons, List.take_zero]
      refine wpAny_phases (S := (fun _ W => Below W0.heap.size W0 W)) (E := (fun W W' => Below W.heap.size W W')) [] [(1, Is (.pointer (some ⟨g1, 0, none⟩))), (2, Is (.pointer (some ⟨g2, 0, none⟩))), (3, Is (.pointer (some ⟨g3, 0, none⟩)))] [(14, Is (.agg (enc 2 (.slice A1 2 c1) (.slice none 0 0)).toArray)), (15, Is (.agg (plc ⟨1, 2, 3⟩).toArray)), (16, Is (.agg (vac blV).toArray)), (17, (fun u W => OwE W w.heap.size 2 [sB] u)), (4, (fun u W => ∃ g, u = .pointer (some ⟨g, 0, none⟩) ∧ W0.heap.size ≤ g ∧ Bk W g 28 (enc 0 (.slice none 0 0) (.slice none 0 0)).toArray))]
        [.op [3] none, .op [] none, .op [] none, .op [14, 15, 16] none, .op [] none] ?_ ?_ ?_ ?_ ?_ ⟨stable_is _ _, stable_is _ _, stable_is _ _, stable_is _ _, stable_is _ _, stable_is _ _, (fun _ _ _ hb h => h.below hb), (fun _ _ _ hb h => by obtain ⟨g, h1, h2, h3⟩ := h; exact ⟨g, h1, h2, h3.below hb h3.lt⟩), trivial⟩ ?_ (Below.refl _ _).drew ?_ ?_
      · as_aux_lemma => kernel_rfl
      · as_aux_lemma => kernel_rfl
      · as_aux_lemma => kernel_rfl
      · as_aux_lemma => kernel_rfl
      · as_aux_lemma => kernel_rfl
      · exact ⟨rfl, rfl, rfl, trivial⟩
      · refine ⟨?_, ?_, ?_, ?_, ?_, trivial⟩
        · as_aux_lemma =>
            intro vals a W hS hL
            have e3 : a.tmps.getD 3 undef = .pointer (some ⟨g3, 0, none⟩) := hL.1
            clear hL
            refine lands_vB (run_ldg (cs := enc 2 (.slice A1 2 c1) (.slice none 0 0)) rtEnv (HK.out.below hS HK.out.lt) (.tmp 3) rfl e3) ?_
            exact ⟨⟨fun d hd => by injection hd with hd; subst hd; rfl, fun h => by cases h⟩, hS, Below.refl _ _⟩
        · as_aux_lemma =>
            intro vals a W hS hL
            clear hL
            go_simp
            refine (pl_any _ _ _).mono ?_
            rintro e W2 ⟨rfl, hb⟩
            exact ⟨_, rfl, ⟨fun d hd => by injection hd with hd; subst hd; rfl, fun h => by cases h⟩, hS.trans (hb.mono hS.size), hb⟩
        · as_aux_lemma =>
            intro vals a W hS hL
            clear hL
            refine lands_vB (v := .agg (vac blV).toArray) (w' := W) (by kernel_rfl) ?_
            exact ⟨⟨fun d hd => by injection hd with hd; subst hd; rfl, fun h => by cases h⟩, hS, Below.refl _ _⟩
        · as_aux_lemma =>
            intro vals a W hS hL
            have e14 : a.tmps.getD 14 undef = .agg (enc 2 (.slice A1 2 c1) (.slice none 0 0)).toArray := hL.1
            have e15 : a.tmps.getD 15 undef = .agg (plc ⟨1, 2, 3⟩).toArray := hL.2.1
            have e16 : a.tmps.getD 16 undef = .agg (vac blV).toArray := hL.2.2.1
            clear hL
            rw [Array.getD_eq_getD_getElem?] at e14 e15 e16
            go_simp
            refine (HP.out W hS).mono ?_
            rintro e W2 ⟨u, rfl, ho, hb⟩
            exact ⟨_, rfl, ⟨fun d hd => by injection hd with hd; subst hd; exact ho, fun h => by cases h⟩, hS.trans (hb.mono hS.size), hb⟩
        · as_aux_lemma =>
            intro vals a W hS hL
            clear hL
            refine lands_vB (v := .pointer (some ⟨W.heap.size, 0, none⟩)) (w' := W.alloc (.cells (enc 0 (.slice none 0 0) (.slice none 0 0)).toArray 28)) (by kernel_rfl) ?_
            exact ⟨⟨fun d hd => by injection hd with hd; subst hd; exact ⟨_, rfl, hS.size, Bk.new _ _ _⟩, fun h => by cases h⟩, hS.alloc hS.size _, bel0 _ _⟩
      · intro a W vals hd hsz hT hF hv hP hS
        obtain rfl : vals = [] := List.eq_nil_of_length_eq_zero hv
        have e1 : a.tmps.getD 1 undef = .pointer (some ⟨g1, 0, none⟩) := hT 1 (by simp)
        have e2 : a.tmps.getD 2 undef = .pointer (some ⟨g2, 0, none⟩) := hT 2 (by simp)
        have e3 : a.tmps.getD 3 undef = .pointer (some ⟨g3, 0, none⟩) := hT 3 (by simp)
        obtain ⟨Au, cu, e17, hcu, ho⟩ : OwE W w.heap.size 2 [sB] (a.tmps.getD 17 undef) := hT 17 (by simp)
        obtain ⟨g4, e4, hg, hkb⟩ : ∃ g, a.tmps.getD 4 undef = .pointer (some ⟨g, 0, none⟩) ∧ W0.heap.size ≤ g ∧ Bk W g 28 (enc 0 (.slice none 0 0) (.slice none 0 0)).toArray := hT 4 (by simp)
        clear hT hF hP
        show Oper.wp _ _ _ _ _ _
        refine st_sub (.tmp 4) (.tmp 17) (vs := enc 2 (.slice Au 1 cu) (.slice none 0 0)) rfl e4 e17 rtEnv.size enc_one hkb (Nat.le_refl 3) ?_
        intro W2 hk hK hsz2
        have hb2 : Below W0.heap.size W0 W2 := hS.trans (hK.below (B := W0.heap.size) hS.size fun i hi e => by omega)
        have ho2 := hK.own ho fun i hi e => own_ne ho hkb (by decide) (by rw [hi, e])
        have hk2 : Bk W2 g4 28 (enc 2 (.slice Au 1 cu) (.slice none 0 0)).toArray := hk
        have HE4 : Hid (EnvAt W2 g4 2 [sB]) := Lib.hid ⟨Au, cu, hk2, hcu, own_rd ho2⟩
        have HB2 := Lib.hid (HBW.out.trans (hb2.mono HBW.out.size))
        have HX := Lib.hid hb2
        clear hk hK hk2 ho ho2 hkb hcu hS e17 hsz2 hb2 HBW
        dsimp only [Act.put]
        rw [act_lit 105 a hd hsz]
        obtain ⟨f, hf⟩ : ∃ f : Nat → Value, ∀ k, a.tmps.getD k undef = f k := ⟨_, fun _ => rfl⟩
        simp only [List.range, List.range.loop, List.map, e1, e2, e3, e4]
        simp only [hf]
        clear e1 e2 e3 e4 hsz hd hf
        skip
        replace HE1 := Lib.hid (HE1.out.below HX.out)
        replace HE2 := Lib.hid (HE2.out.below HX.out)
        replace HE3 := Lib.hid (HE3.out.below HX.out)
        clear HX HK HP
        have HBW := HB2
        clear HB2
        obtain ⟨W0, hW⟩ : ∃ W0, W0 = W2 := ⟨_, rfl⟩
        subst hW
        obtain ⟨A1, c1, hk1, hc1, hr1⟩ := HE1.out
        obtain ⟨A2, c2, hk2, hc2, hr2⟩ := HE2.out
        obtain ⟨A3, c3, hk3, hc3, hr3⟩ := HE3.out
        obtain ⟨A4, c4, hk4, hc4, hr4⟩ := HE4.out
        obtain ⟨q, hq, hqc⟩ := rd_row hr3 (Nat.le_refl _) (x := sB) (i := 0) rfl
        subst hq
        have HQ : Hid (∀ W', Below W0.heap.size W0 W' → ∀ (j : Nat) (u : Value), (slc sB)[j]? = some u → W'.cell? (q.add j) = some u) := Lib.hid fun W' hb j u hj => by
          have := hqc W' hb j u hj
          rwa [Nat.zero_mul, Addr.add_zero'] at this
        have HK1 : Hid (Bk W0 g1 28 (enc 2 (.slice A1 0 c1) (.slice none 0 0)).toArray) := Lib.hid hk1
        have HK2 : Hid (Bk W0 g2 28 (enc 2 (.slice A2 1 c2) (.slice none 0 0)).toArray) := Lib.hid hk2
        have HK3 : Hid (Bk W0 g3 28 (enc 2 (.slice (some q) 2 c3) (.slice none 0 0)).toArray) := Lib.hid hk3
        have HK4 : Hid (Bk W0 g4 28 (enc 2 (.slice A4 1 c4) (.slice none 0 0)).toArray) := Lib.hid hk4
        have HG3a : Hid (∀ W : World, Below W0.heap.size W0 W → Calls Tryd.prog 10 #[.agg (enc 2 (.slice (some q) 2 c3) (.slice none 0 0)).toArray, .agg (plc ⟨1, 2, 3⟩).toArray] W fun e W' => e = .returned (.agg (vac (vN 5)).toArray) ∧ Below W.heap.size W W') := Lib.hid fun W hb => by
          have := Get_any (w := W) (L := [sB, sA]) ⟨1, 2, 3⟩ 2 (nn := 0) (cn := 0) (An := none) (hr3.below hb) hb.size (by decide) hc3 up_b
          rwa [show getL 2 [sB, sA] ⟨1, 2, 3⟩ = (vN 5) by kernel_rfl] at this
        have HG4 : Hid (∀ W : World, Below W0.heap.size W0 W → Calls Tryd.prog 10 #[.agg (enc 2 (.slice A4 1 c4) (.slice none 0 0)).toArray, .agg (plc ⟨1, 2, 3⟩).toArray] W fun e W' => e = .returned (.agg (vac blV).toArray) ∧ Below W.heap.size W W') := Lib.hid fun W hb => by
          have := Get_any (w := W) (L := [sB]) ⟨1, 2, 3⟩ 2 (nn := 0) (cn := 0) (An := none) (hr4.below hb) hb.size (by decide) hc4 up_c
          rwa [show getL 2 [sB] ⟨1, 2, 3⟩ = blV by kernel_rfl] at this
        have HG3b : Hid (∀ W : World, Below W0.heap.size W0 W → Calls Tryd.prog 10 #[.agg (enc 2 (.slice (some q) 2 c3) (.slice none 0 0)).toArray, .agg (plc ⟨2, 0, 0⟩).toArray] W fun e W' => e = .returned (.agg (vac reV).toArray) ∧ Below W.heap.size W W') := Lib.hid fun W hb => by
          have := Get_any (w := W) (L := [sB, sA]) ⟨2, 0, 0⟩ 2 (nn := 0) (cn := 0) (An := none) (hr3.below hb) hb.size (by decide) hc3 up_b
          rwa [show getL 2 [sB, sA] ⟨2, 0, 0⟩ = reV by kernel_rfl] at this
        have HC3 : Hid (∀ W : World, Below W0.heap.size W0 W → Calls Tryd.prog 11 #[.agg (enc 2 (.slice (some q) 2 c3) (.slice none 0 0)).toArray] W fun e W' => e = .returned (.int .i64 0) ∧ Below W.heap.size W W') := Lib.hid fun W hb => by
          have := ckN_any (HVV.out.below (HBW.out.trans (hb.mono HBW.out.size))) (L := [sB, sA]) 2 (cn := 0) (hr3.below hb) hb.size (by decide) hc3 (fun x hx => by simp only [List.mem_cons, List.not_mem_nil, or_false] at hx; rcases hx with rfl | rfl <;> decide)
          rwa [show ckN 2 [sB, sA] = 0 by kernel_rfl] at this
        have HC0 : Hid (∀ W : World, Below W0.heap.size W0 W → Calls Tryd.prog 11 #[.agg (enc 0 (.slice none 0 0) (.slice none 0 0)).toArray] W fun e W' => e = .returned (.int .i64 1) ∧ Below W.heap.size W W') := Lib.hid fun W hb => by
          have := ckN_any (HVV.out.below (HBW.out.trans (hb.mono HBW.out.size))) (L := []) (A := none) (B := 0) (c := 0) 0 (cn := 0) (Rd.nil _ _ _ _) (Nat.zero_le _) (by decide) (by decide) (fun x hx => by simp at hx)
          rwa [show ckN 0 [] = 1 by kernel_rfl] at this
        have HS3 : Hid (∀ W : World, Below W0.heap.size W0 W → Calls Tryd.prog 18 #[.agg (enc 2 (.slice (some q) 2 c3) (.slice none 0 0)).toArray, .agg (enc 2 (.slice (some q) 2 c3) (.slice none 0 0)).toArray] W fun e W' => e = .returned (.bool true) ∧ Below W.heap.size W W') := Lib.hid fun W hb => by
          have := sameN_any (w := W) (L := [sB, sA]) (M := [sB, sA]) 2 2 (cn := 0) (cn2 := 0) (hr3.below hb) (hr3.below hb) hb.size (by decide) (by decide) hc3 hc3
          rwa [show (decide ((2 : Int) = 2) && eqL [sB, sA] [sB, sA]) = true by kernel_rfl] at this
        have HS2 : Hid (∀ W : World, Below W0.heap.size W0 W → Calls Tryd.prog 18 #[.agg (enc 2 (.slice A2 1 c2) (.slice none 0 0)).toArray, .agg (enc 2 (.slice (some q) 2 c3) (.slice none 0 0)).toArray] W fun e W' => e = .returned (.bool false) ∧ Below W.heap.size W W') := Lib.hid fun W hb => by
          have := sameN_any (w := W) (L := [sA]) (M := [sB, sA]) 2 2 (cn := 0) (cn2 := 0) (hr2.below hb) (hr3.below hb) hb.size (by decide) (by decide) hc2 hc3
          rwa [show (decide ((2 : Int) = 2) && eqL [sA] [sB, sA]) = false by kernel_rfl] at this
        clear hk1 hk2 hk3 hk4 hc1 hc2 hc3 hc4 hr1 hr2 hr3 hr4 hqc HE1 HE2 HE3 HE4
        repeat' (first | ((with_reducible show Oper.wp _ _ _ _ _ _); (first | (with_reducible refine is_ld 25 _ rfl ?_; refine wp_b (run_lds HK1.out rfl _ rfl rfl) ?_) | (with_reducible refine is_ld 25 _ rfl ?_; refine wp_b (run_lds HK2.out rfl _ rfl rfl) ?_) | (with_reducible refine is_ld 25 _ rfl ?_; refine wp_b (run_lds HK3.out rfl _ rfl rfl) ?_) | (with_reducible refine is_ld 25 _ rfl ?_; refine wp_b (run_lds HK4.out rfl _ rfl rfl) ?_)); go_simp) | go_values | go_skip | go_guarded | go_step | go_upon)
        simp only [List.append]
        refine wp_region_phases (S := (fun _ W => Below W0.heap.size W0 W)) (E := (fun W W' => Below W.heap.size W W')) [] [(1, Is (.pointer (some ⟨g1, 0, none⟩))), (2, Is (.pointer (some ⟨g2, 0, none⟩))), (3, Is (.pointer (some ⟨g3, 0, none⟩))), (4, Is (.pointer (some ⟨g4, 0, none⟩)))] [(40, Is (.pointer (some ⟨g3, 1, none⟩))), (41, Is (.slice (some q) 2 c3)), (42, Is (.pointer (some q))), (43, Is (.pointer (some q))), (44, Is (.agg (plc sB.p).toArray)), (45, Is (.agg (plc ⟨0, 9, 9⟩).toArray)), (46, Is (.bool true)), (47, Is (.bool true)), (48, Is (.agg (enc 2 (.slice (some q) 2 c3) (.slice none 0 0)).toArray)), (49, Is (.agg (plc ⟨1, 2, 3⟩).toArray)), (50, Is (.agg (vac (vN 5)).toArray)), (51, Is (.agg (vac (vN 5)).toArray)), (52, Is (.bool true)), (53, Is (.bool true)), (54, Is (.bool true)), (55, Is (.agg (enc 2 (.slice A4 1 c4) (.slice none 0 0)).toArray)), (56, Is (.agg (plc ⟨1, 2, 3⟩).toArray)), (57, Is (.agg (vac blV).toArray)), (58, Is (.agg (vac blV).toArray)), (59, Is (.bool true)), (60, Is (.bool true)), (61, Is (.bool true)), (62, Is (.agg (enc 2 (.slice (some q) 2 c3) (.slice none 0 0)).toArray)), (63, Is (.agg (plc ⟨2, 0, 0⟩).toArray)), (64, Is (.agg (vac reV).toArray)), (65, Is (.agg (vac reV).toArray)), (66, Is (.bool true)), (67, Is (.bool true)), (68, Is (.bool true)), (69, Is (.agg (plc ⟨0, 9, 9⟩).toArray)), (70, Is (.agg (plc ⟨1, 0, 0⟩).toArray)), (71, Is (.bool true)), (72, Is (.bool true)), (73, Is (.bool true)), (74, Is (.agg (plc ⟨0, 1, 9⟩).toArray)), (75, Is (.agg (plc ⟨0, 2, 0⟩).toArray)), (76, Is (.bool true)), (77, Is (.bool true)), (78, Is (.bool true)), (79, Is (.agg (plc ⟨0, 1, 1⟩).toArray)), (80, Is (.agg (plc ⟨0, 1, 1⟩).toArray)), (81, Is (.bool false)), (82, Is (.bool true)), (83, Is (.bool true)), (84, Is (.bool true)), (85, Is (.agg (enc 2 (.slice (some q) 2 c3) (.slice none 0 0)).toArray)), (86, Is (.int .i64 0)), (87, Is (.bool true)), (88, Is (.bool true)), (89, Is (.bool true)), (90, Is (.agg (enc 0 (.slice none 0 0) (.slice none 0 0)).toArray)), (91, Is (.int .i64 1)), (92, Is (.bool true)), (93, Is (.bool true)), (94, Is (.bool true)), (95, Is (.agg (enc 2 (.slice (some q) 2 c3) (.slice none 0 0)).toArray)), (96, Is (.agg (enc 2 (.slice (some q) 2 c3) (.slice none 0 0)).toArray)), (97, Is (.bool true)), (98, Is (.bool true)), (99, Is (.bool true)), (100, Is (.agg (enc 2 (.slice A2 1 c2) (.slice none 0 0)).toArray)), (101, Is (.agg (enc 2 (.slice (some q) 2 c3) (.slice none 0 0)).toArray)), (102, Is (.bool false)), (103, Is (.bool true)), (104, Is (.bool true)), (0, Is (.bool true))]
          [.op [3] none, .op [40] none, .op [41] none, .op [42] none, .op [43] none, .op [] none, .op [44, 45] none, .op [46] none, .op [3, 47] (some (47, true)), .op [47] (some (47, true)), .op [48, 49, 47] (some (47, true)), .op [47] (some (47, true)), .op [50, 51, 47] (some (47, true)), .op [47, 52] none, .op [53] none, .op [4, 54] (some (54, true)), .op [54] (some (54, true)), .op [55, 56, 54] (some (54, true)), .op [54] (some (54, true)), .op [57, 58, 54] (some (54, true)), .op [54, 59] none, .op [60] none, .op [3, 61] (some (61, true)), .op [61] (some (61, true)), .op [62, 63, 61] (some (61, true)), .op [61] (some (61, true)), .op [64, 65, 61] (some (61, true)), .op [61, 66] none, .op [67] none, .op [68] (some (68, true)), .op [68] (some (68, true)), .op [69, 70, 68] (some (68, true)), .op [68, 71] none, .op [72] none, .op [73] (some (73, true)), .op [73] (some (73, true)), .op [74, 75, 73] (some (73, true)), .op [73, 76] none, .op [77] none, .op [78] (some (78, true)), .op [78] (some (78, true)), .op [79, 80, 78] (some (78, true)), .op [81, 78] (some (78, true)), .op [78, 82] none, .op [83] none, .op [3, 84] (some (84, true)), .op [85, 84] (some (84, true)), .op [86, 84] (some (84, true)), .op [84, 87] none, .op [88] none, .op [89] (some (89, true)), .op [90, 89] (some (89, true)), .op [91, 89] (some (89, true)), .op [89, 92] none, .op [93] none, .op [3, 94] (some (94, true)), .op [3, 94] (some (94, true)), .op [95, 96, 94] (some (94, true)), .op [94, 97] none, .op [98] none, .op [2, 99] (some (99, true)), .op [3, 99] (some (99, true)), .op [100, 101, 99] (some (99, true)), .op [102, 99] (some (99, true)), .op [99, 103] none, .op [104] none] (by as_aux_lemma => kernel_rfl) ?_ ?_ ?_ ?_ ?_ ⟨stable_is _ _, stable_is _ _, stable_is _ _, stable_is _ _, stable_is _ _, stable_is _ _, stable_is _ _, stable_is _ _, stable_is _ _, stable_is _ _, stable_is _ _, stable_is _ _, stable_is _ _, stable_is _ _, stable_is _ _, stable_is _ _, stable_is _ _, stable_is _ _, stable_is _ _, stable_is _ _, stable_is _ _, stable_is _ _, stable_is _ _, stable_is _ _, stable_is _ _, stable_is _ _, stable_is _ _, stable_is _ _, stable_is _ _, stable_is _ _, stable_is _ _, stable_is _ _, stable_is _ _, stable_is _ _, stable_is _ _, stable_is _ _, stable_is _ _, stable_is _ _, stable_is _ _, stable_is _ _, stable_is _ _, stable_is _ _, stable_is _ _, stable_is _ _, stable_is _ _, stable_is _ _, stable_is _ _, stable_is _ _, stable_is _ _, stable_is _ _, stable_is _ _, stable_is _ _, stable_is _ _, stable_is _ _, stable_is _ _, stable_is _ _, stable_is _ _, stable_is _ _, stable_is _ _, stable_is _ _, stable_is _ _, stable_is _ _, stable_is _ _, stable_is _ _, stable_is _ _, stable_is _ _, stable_is _ _, stable_is _ _, stable_is _ _, stable_is _ _, trivial⟩ ?_ (Below.refl _ _).drew ?_ ?_
        · as_aux_lemma => kernel_rfl
        · as_aux_lemma => kernel_rfl
        · as_aux_lemma => kernel_rfl
        · as_aux_lemma => kernel_rfl
        · as_aux_lemma => kernel_rfl
        · exact ⟨rfl, rfl, rfl, rfl, trivial⟩
        · refine ⟨?_, ?_, ?_, ?_, ?_, ?_, ?_, ?_, ?_, ?_, ?_, ?_, ?_, ?_, ?_, ?_, ?_, ?_, ?_, ?_, ?_, ?_, ?_, ?_, ?_, ?_, ?_, ?_, ?_, ?_, ?_, ?_, ?_, ?_, ?_, ?_, ?_, ?_, ?_, ?_, ?_, ?_, ?_, ?_, ?_, ?_, ?_, ?_, ?_, ?_, ?_, ?_, ?_, ?_, ?_, ?_, ?_, ?_, ?_, ?_, ?_, ?_, ?_, ?_, ?_, ?_, trivial⟩
          · as_aux_lemma =>
              intro vals a W hS hL
              have e3 : a.tmps.getD 3 undef = .pointer (some ⟨g3, 0, none⟩) := hL.1
              clear hL
              go_simp
              exact ⟨⟨fun d hd => by injection hd with hd; subst hd; rfl, fun h => by cases h⟩, hS, (Below.refl _ _)⟩
          · as_aux_lemma =>
              intro vals a W hS hL
              have e40 : a.tmps.getD 40 undef = .pointer (some ⟨g3, 1, none⟩) := hL.1
              clear hL
              refine lands_vB (run_lds (HK3.out.below hS HK3.out.lt) rfl (.tmp 40) rfl e40) ?_
              exact ⟨⟨fun d hd => by injection hd with hd; subst hd; rfl, fun h => by cases h⟩, hS, Below.refl _ _⟩
          · as_aux_lemma =>
              intro vals a W hS hL
              have e41 : a.tmps.getD 41 undef = .slice (some q) 2 c3 := hL.1
              clear hL
              go_simp
              exact ⟨⟨fun d hd => by injection hd with hd; subst hd; rfl, fun h => by cases h⟩, hS, (Below.refl _ _)⟩
          · as_aux_lemma =>
              intro vals a W hS hL
              have e42 : a.tmps.getD 42 undef = .pointer (some q) := hL.1
              clear hL
              go_simp
              exact ⟨⟨fun d hd => by injection hd with hd; subst hd; rfl, fun h => by cases h⟩, hS, (Below.refl _ _)⟩
          · as_aux_lemma =>
              intro vals a W hS hL
              have e43 : a.tmps.getD 43 undef = .pointer (some q) := hL.1
              clear hL
              refine lands_vB (run_ldmB (cs := plc sB.p) rtPl (fun j u hj => ?_) (.tmp 43) rfl e43) ?_
              · exact HQ.out _ hS j u (by have := sl_p sB j u hj; rwa [Nat.zero_add] at this)
              exact ⟨⟨fun d hd => by injection hd with hd; subst hd; rfl, fun h => by cases h⟩, hS, Below.refl _ _⟩
          · as_aux_lemma =>
              intro vals a W hS hL
              clear hL
              go_simp
              refine (pl_any _ _ _).mono ?_
              rintro e W2 ⟨rfl, hb⟩
              exact ⟨_, rfl, ⟨fun d hd => by injection hd with hd; subst hd; rfl, fun h => by cases h⟩, hS.trans (hb.mono hS.size), hb⟩
          · as_aux_lemma =>
              intro vals a W hS hL
              have e44 : a.tmps.getD 44 undef = .agg (plc sB.p).toArray := hL.1
              have e45 : a.tmps.getD 45 undef = .agg (plc ⟨0, 9, 9⟩).toArray := hL.2.1
              clear hL
              refine lands_vB (run_eqpT (p := sB.p) (q := ⟨0, 9, 9⟩) (by kernel_rfl) (.tmp 44) (.tmp 45) rfl e44 e45) ?_
              exact ⟨⟨fun d hd => by injection hd with hd; subst hd; rfl, fun h => by cases h⟩, hS, Below.refl _ _⟩
          · as_aux_lemma =>
              intro vals a W hS hL
              have e46 : a.tmps.getD 46 undef = .bool true := hL.1
              clear hL
              go_simp
              exact ⟨⟨fun d hd => by injection hd with hd; subst hd; rfl, fun h => by cases h⟩, hS, (Below.refl _ _)⟩
          · as_aux_lemma =>
              intro vals a W hS hL
              have e3 : a.tmps.getD 3 undef = .pointer (some ⟨g3, 0, none⟩) := hL.1
              have e47 : a.tmps.getD 47 undef = .bool true := hL.2.1
              clear hL
              refine ⟨true, e47, ?_⟩
              rw [if_pos rfl]
              refine lands_vB (run_ldg (cs := enc 2 (.slice (some q) 2 c3) (.slice none 0 0)) rtEnv (HK3.out.below hS HK3.out.lt) (.tmp 3) rfl e3) ?_
              exact ⟨⟨fun d hd => by injection hd with hd; subst hd; rfl, fun h => by cases h⟩, hS, Below.refl _ _⟩
          · as_aux_lemma =>
              intro vals a W hS hL
              have e47 : a.tmps.getD 47 undef = .bool true := hL.1
              clear hL
              refine ⟨true, e47, ?_⟩
              rw [if_pos rfl]
              go_simp
              refine (pl_any _ _ _).mono ?_
              rintro e W2 ⟨rfl, hb⟩
              exact ⟨_, rfl, ⟨fun d hd => by injection hd with hd; subst hd; rfl, fun h => by cases h⟩, hS.trans (hb.mono hS.size), hb⟩
          · as_aux_lemma =>
              intro vals a W hS hL
              have e48 : a.tmps.getD 48 undef = .agg (enc 2 (.slice (some q) 2 c3) (.slice none 0 0)).toArray := hL.1
              have e49 : a.tmps.getD 49 undef = .agg (plc ⟨1, 2, 3⟩).toArray := hL.2.1
              have e47 : a.tmps.getD 47 undef = .bool true := hL.2.2.1
              clear hL
              refine ⟨true, e47, ?_⟩
              rw [if_pos rfl]
              rw [Array.getD_eq_getD_getElem?] at e48 e49
              go_simp
              refine (HG3a.out W hS).mono ?_
              rintro e W2 ⟨rfl, hb⟩
              exact ⟨_, rfl, ⟨fun d hd => by injection hd with hd; subst hd; rfl, fun h => by cases h⟩, hS.trans (hb.mono hS.size), hb⟩
          · as_aux_lemma =>
              intro vals a W hS hL
              have e47 : a.tmps.getD 47 undef = .bool true := hL.1
              clear hL
              refine ⟨true, e47, ?_⟩
              rw [if_pos rfl]
              go_simp
              refine (ln_any 5).mono ?_
              rintro e W2 ⟨rfl, hb⟩
              exact ⟨_, rfl, ⟨fun d hd => by injection hd with hd; subst hd; rfl, fun h => by cases h⟩, hS.trans (hb.mono hS.size), hb⟩
          · as_aux_lemma =>
              intro vals a W hS hL
              have e50 : a.tmps.getD 50 undef = .agg (vac (vN 5)).toArray := hL.1
              have e51 : a.tmps.getD 51 undef = .agg (vac (vN 5)).toArray := hL.2.1
              have e47 : a.tmps.getD 47 undef = .bool true := hL.2.2.1
              clear hL
              refine ⟨true, e47, ?_⟩
              rw [if_pos rfl]
              refine lands_vB (run_eqvT (p := (vN 5)) (q := (vN 5)) (by kernel_rfl) (.tmp 50) (.tmp 51) rfl e50 e51) ?_
              exact ⟨⟨fun d hd => by injection hd with hd; subst hd; rfl, fun h => by cases h⟩, hS, Below.refl _ _⟩
          · as_aux_lemma =>
              intro vals a W hS hL
              have e47 : a.tmps.getD 47 undef = .bool true := hL.1
              have e52 : a.tmps.getD 52 undef = .bool true := hL.2.1
              clear hL
              go_simp
              exact ⟨⟨fun d hd => by injection hd with hd; subst hd; rfl, fun h => by cases h⟩, hS, (Below.refl _ _)⟩
          · as_aux_lemma =>
              intro vals a W hS hL
              have e53 : a.tmps.getD 53 undef = .bool true := hL.1
              clear hL
              go_simp
              exact ⟨⟨fun d hd => by injection hd with hd; subst hd; rfl, fun h => by cases h⟩, hS, (Below.refl _ _)⟩
          · as_aux_lemma =>
              intro vals a W hS hL
              have e4 : a.tmps.getD 4 undef = .pointer (some ⟨g4, 0, none⟩) := hL.1
              have e54 : a.tmps.getD 54 undef = .bool true := hL.2.1
              clear hL
              refine ⟨true, e54, ?_⟩
              rw [if_pos rfl]
              refine lands_vB (run_ldg (cs := enc 2 (.slice A4 1 c4) (.slice none 0 0)) rtEnv (HK4.out.below hS HK4.out.lt) (.tmp 4) rfl e4) ?_
              exact ⟨⟨fun d hd => by injection hd with hd; subst hd; rfl, fun h => by cases h⟩, hS, Below.refl _ _⟩
          · as_aux_lemma =>
              intro vals a W hS hL
              have e54 : a.tmps.getD 54 undef = .bool true := hL.1
              clear hL
              refine ⟨true, e54, ?_⟩
              rw [if_pos rfl]
              go_simp
              refine (pl_any _ _ _).mono ?_
              rintro e W2 ⟨rfl, hb⟩
              exact ⟨_, rfl, ⟨fun d hd => by injection hd with hd; subst hd; rfl, fun h => by cases h⟩, hS.trans (hb.mono hS.size), hb⟩
          · as_aux_lemma =>
              intro vals a W hS hL
              have e55 : a.tmps.getD 55 undef = .agg (enc 2 (.slice A4 1 c4) (.slice none 0 0)).toArray := hL.1
              have e56 : a.tmps.getD 56 undef = .agg (plc ⟨1, 2, 3⟩).toArray := hL.2.1
              have e54 : a.tmps.getD 54 undef = .bool true := hL.2.2.1
              clear hL
              refine ⟨true, e54, ?_⟩
              rw [if_pos rfl]
              rw [Array.getD_eq_getD_getElem?] at e55 e56
              go_simp
              refine (HG4.out W hS).mono ?_
              rintro e W2 ⟨rfl, hb⟩
              exact ⟨_, rfl, ⟨fun d hd => by injection hd with hd; subst hd; rfl, fun h => by cases h⟩, hS.trans (hb.mono hS.size), hb⟩
          · as_aux_lemma =>
              intro vals a W hS hL
              have e54 : a.tmps.getD 54 undef = .bool true := hL.1
              clear hL
              refine ⟨true, e54, ?_⟩
              rw [if_pos rfl]
              refine lands_vB (v := .agg (vac blV).toArray) (w' := W) (by kernel_rfl) ?_
              exact ⟨⟨fun d hd => by injection hd with hd; subst hd; rfl, fun h => by cases h⟩, hS, Below.refl _ _⟩
          · as_aux_lemma =>
              intro vals a W hS hL
              have e57 : a.tmps.getD 57 undef = .agg (vac blV).toArray := hL.1
              have e58 : a.tmps.getD 58 undef = .agg (vac blV).toArray := hL.2.1
              have e54 : a.tmps.getD 54 undef = .bool true := hL.2.2.1
              clear hL
              refine ⟨true, e54, ?_⟩
              rw [if_pos rfl]
              refine lands_vB (run_eqvT (p := blV) (q := blV) (by kernel_rfl) (.tmp 57) (.tmp 58) rfl e57 e58) ?_
              exact ⟨⟨fun d hd => by injection hd with hd; subst hd; rfl, fun h => by cases h⟩, hS, Below.refl _ _⟩
          · as_aux_lemma =>
              intro vals a W hS hL
              have e54 : a.tmps.getD 54 undef = .bool true := hL.1
              have e59 : a.tmps.getD 59 undef = .bool true := hL.2.1
              clear hL
              go_simp
              exact ⟨⟨fun d hd => by injection hd with hd; subst hd; rfl, fun h => by cases h⟩, hS, (Below.refl _ _)⟩
          · as_aux_lemma =>
              intro vals a W hS hL
              have e60 : a.tmps.getD 60 undef = .bool true := hL.1
              clear hL
              go_simp
              exact ⟨⟨fun d hd => by injection hd with hd; subst hd; rfl, fun h => by cases h⟩, hS, (Below.refl _ _)⟩
          · as_aux_lemma =>
              intro vals a W hS hL
              have e3 : a.tmps.getD 3 undef = .pointer (some ⟨g3, 0, none⟩) := hL.1
              have e61 : a.tmps.getD 61 undef = .bool true := hL.2.1
              clear hL
              refine ⟨true, e61, ?_⟩
              rw [if_pos rfl]
              refine lands_vB (run_ldg (cs := enc 2 (.slice (some q) 2 c3) (.slice none 0 0)) rtEnv (HK3.out.below hS HK3.out.lt) (.tmp 3) rfl e3) ?_
              exact ⟨⟨fun d hd => by injection hd with hd; subst hd; rfl, fun h => by cases h⟩, hS, Below.refl _ _⟩
          · as_aux_lemma =>
              intro vals a W hS hL
              have e61 : a.tmps.getD 61 undef = .bool true := hL.1
              clear hL
              refine ⟨true, e61, ?_⟩
              rw [if_pos rfl]
              go_simp
              refine (pl_any _ _ _).mono ?_
              rintro e W2 ⟨rfl, hb⟩
              exact ⟨_, rfl, ⟨fun d hd => by injection hd with hd; subst hd; rfl, fun h => by cases h⟩, hS.trans (hb.mono hS.size), hb⟩
          · as_aux_lemma =>
              intro vals a W hS hL
              have e62 : a.tmps.getD 62 undef = .agg (enc 2 (.slice (some q) 2 c3) (.slice none 0 0)).toArray := hL.1
              have e63 : a.tmps.getD 63 undef = .agg (plc ⟨2, 0, 0⟩).toArray := hL.2.1
              have e61 : a.tmps.getD 61 undef = .bool true := hL.2.2.1
              clear hL
              refine ⟨true, e61, ?_⟩
              rw [if_pos rfl]
              rw [Array.getD_eq_getD_getElem?] at e62 e63
              go_simp
              refine (HG3b.out W hS).mono ?_
              rintro e W2 ⟨rfl, hb⟩
              exact ⟨_, rfl, ⟨fun d hd => by injection hd with hd; subst hd; rfl, fun h => by cases h⟩, hS.trans (hb.mono hS.size), hb⟩
          · as_aux_lemma =>
              intro vals a W hS hL
              have e61 : a.tmps.getD 61 undef = .bool true := hL.1
              clear hL
              refine ⟨true, e61, ?_⟩
              rw [if_pos rfl]
              go_simp
              refine (fault14 23).mono ?_
              rintro e W2 ⟨rfl, hb⟩
              exact ⟨_, rfl, ⟨fun d hd => by injection hd with hd; subst hd; rfl, fun h => by cases h⟩, hS.trans (hb.mono hS.size), hb⟩
          · as_aux_lemma =>
              intro vals a W hS hL
              have e64 : a.tmps.getD 64 undef = .agg (vac reV).toArray := hL.1
              have e65 : a.tmps.getD 65 undef = .agg (vac reV).toArray := hL.2.1
              have e61 : a.tmps.getD 61 undef = .bool true := hL.2.2.1
              clear hL
              refine ⟨true, e61, ?_⟩
              rw [if_pos rfl]
              refine lands_vB (run_eqvT (p := reV) (q := reV) (by kernel_rfl) (.tmp 64) (.tmp 65) rfl e64 e65) ?_
              exact ⟨⟨fun d hd => by injection hd with hd; subst hd; rfl, fun h => by cases h⟩, hS, Below.refl _ _⟩
          · as_aux_lemma =>
              intro vals a W hS hL
              have e61 : a.tmps.getD 61 undef = .bool true := hL.1
              have e66 : a.tmps.getD 66 undef = .bool true := hL.2.1
              clear hL
              go_simp
              exact ⟨⟨fun d hd => by injection hd with hd; subst hd; rfl, fun h => by cases h⟩, hS, (Below.refl _ _)⟩
          · as_aux_lemma =>
              intro vals a W hS hL
              have e67 : a.tmps.getD 67 undef = .bool true := hL.1
              clear hL
              go_simp
              exact ⟨⟨fun d hd => by injection hd with hd; subst hd; rfl, fun h => by cases h⟩, hS, (Below.refl _ _)⟩
          · as_aux_lemma =>
              intro vals a W hS hL
              have e68 : a.tmps.getD 68 undef = .bool true := hL.1
              clear hL
              refine ⟨true, e68, ?_⟩
              rw [if_pos rfl]
              go_simp
              refine (pl_any _ _ _).mono ?_
              rintro e W2 ⟨rfl, hb⟩
              exact ⟨_, rfl, ⟨fun d hd => by injection hd with hd; subst hd; rfl, fun h => by cases h⟩, hS.trans (hb.mono hS.size), hb⟩
          · as_aux_lemma =>
              intro vals a W hS hL
              have e68 : a.tmps.getD 68 undef = .bool true := hL.1
              clear hL
              refine ⟨true, e68, ?_⟩
              rw [if_pos rfl]
              go_simp
              refine (pl_any _ _ _).mono ?_
              rintro e W2 ⟨rfl, hb⟩
              exact ⟨_, rfl, ⟨fun d hd => by injection hd with hd; subst hd; rfl, fun h => by cases h⟩, hS.trans (hb.mono hS.size), hb⟩
          · as_aux_lemma =>
              intro vals a W hS hL
              have e69 : a.tmps.getD 69 undef = .agg (plc ⟨0, 9, 9⟩).toArray := hL.1
              have e70 : a.tmps.getD 70 undef = .agg (plc ⟨1, 0, 0⟩).toArray := hL.2.1
              have e68 : a.tmps.getD 68 undef = .bool true := hL.2.2.1
              clear hL
              refine ⟨true, e68, ?_⟩
              rw [if_pos rfl]
              rw [Array.getD_eq_getD_getElem?] at e69 e70
              go_simp
              refine ((show lsP ⟨0, 9, 9⟩ ⟨1, 0, 0⟩ = true by kernel_rfl) ▸ ls_any ⟨0, 9, 9⟩ ⟨1, 0, 0⟩).mono ?_
              rintro e W2 ⟨rfl, hb⟩
              exact ⟨_, rfl, ⟨fun d hd => by injection hd with hd; subst hd; rfl, fun h => by cases h⟩, hS.trans (hb.mono hS.size), hb⟩
          · as_aux_lemma =>
              intro vals a W hS hL
              have e68 : a.tmps.getD 68 undef = .bool true := hL.1
              have e71 : a.tmps.getD 71 undef = .bool true := hL.2.1
              clear hL
              go_simp
              exact ⟨⟨fun d hd => by injection hd with hd; subst hd; rfl, fun h => by cases h⟩, hS, (Below.refl _ _)⟩
          · as_aux_lemma =>
              intro vals a W hS hL
              have e72 : a.tmps.getD 72 undef = .bool true := hL.1
              clear hL
              go_simp
              exact ⟨⟨fun d hd => by injection hd with hd; subst hd; rfl, fun h => by cases h⟩, hS, (Below.refl _ _)⟩
          · as_aux_lemma =>
              intro vals a W hS hL
              have e73 : a.tmps.getD 73 undef = .bool true := hL.1
              clear hL
              refine ⟨true, e73, ?_⟩
              rw [if_pos rfl]
              go_simp
              refine (pl_any _ _ _).mono ?_
              rintro e W2 ⟨rfl, hb⟩
              exact ⟨_, rfl, ⟨fun d hd => by injection hd with hd; subst hd; rfl, fun h => by cases h⟩, hS.trans (hb.mono hS.size), hb⟩
          · as_aux_lemma =>
              intro vals a W hS hL
              have e73 : a.tmps.getD 73 undef = .bool true := hL.1
              clear hL
              refine ⟨true, e73, ?_⟩
              rw [if_pos rfl]
              go_simp
              refine (pl_any _ _ _).mono ?_
              rintro e W2 ⟨rfl, hb⟩
              exact ⟨_, rfl, ⟨fun d hd => by injection hd with hd; subst hd; rfl, fun h => by cases h⟩, hS.trans (hb.mono hS.size), hb⟩
          · as_aux_lemma =>
              intro vals a W hS hL
              have e74 : a.tmps.getD 74 undef = .agg (plc ⟨0, 1, 9⟩).toArray := hL.1
              have e75 : a.tmps.getD 75 undef = .agg (plc ⟨0, 2, 0⟩).toArray := hL.2.1
              have e73 : a.tmps.getD 73 undef = .bool true := hL.2.2.1
              clear hL
              refine ⟨true, e73, ?_⟩
              rw [if_pos rfl]
              rw [Array.getD_eq_getD_getElem?] at e74 e75
              go_simp
              refine ((show lsP ⟨0, 1, 9⟩ ⟨0, 2, 0⟩ = true by kernel_rfl) ▸ ls_any ⟨0, 1, 9⟩ ⟨0, 2, 0⟩).mono ?_
              rintro e W2 ⟨rfl, hb⟩
              exact ⟨_, rfl, ⟨fun d hd => by injection hd with hd; subst hd; rfl, fun h => by cases h⟩, hS.trans (hb.mono hS.size), hb⟩
          · as_aux_lemma =>
              intro vals a W hS hL
              have e73 : a.tmps.getD 73 undef = .bool true := hL.1
              have e76 : a.tmps.getD 76 undef = .bool true := hL.2.1
              clear hL
              go_simp
              exact ⟨⟨fun d hd => by injection hd with hd; subst hd; rfl, fun h => by cases h⟩, hS, (Below.refl _ _)⟩
          · as_aux_lemma =>
              intro vals a W hS hL
              have e77 : a.tmps.getD 77 undef = .bool true := hL.1
              clear hL
              go_simp
              exact ⟨⟨fun d hd => by injection hd with hd; subst hd; rfl, fun h => by cases h⟩, hS, (Below.refl _ _)⟩
          · as_aux_lemma =>
              intro vals a W hS hL
              have e78 : a.tmps.getD 78 undef = .bool true := hL.1
              clear hL
              refine ⟨true, e78, ?_⟩
              rw [if_pos rfl]
              go_simp
              refine (pl_any _ _ _).mono ?_
              rintro e W2 ⟨rfl, hb⟩
              exact ⟨_, rfl, ⟨fun d hd => by injection hd with hd; subst hd; rfl, fun h => by cases h⟩, hS.trans (hb.mono hS.size), hb⟩
          · as_aux_lemma =>
              intro vals a W hS hL
              have e78 : a.tmps.getD 78 undef = .bool true := hL.1
              clear hL
              refine ⟨true, e78, ?_⟩
              rw [if_pos rfl]
              go_simp
              refine (pl_any _ _ _).mono ?_
              rintro e W2 ⟨rfl, hb⟩
              exact ⟨_, rfl, ⟨fun d hd => by injection hd with hd; subst hd; rfl, fun h => by cases h⟩, hS.trans (hb.mono hS.size), hb⟩
          · as_aux_lemma =>
              intro vals a W hS hL
              have e79 : a.tmps.getD 79 undef = .agg (plc ⟨0, 1, 1⟩).toArray := hL.1
              have e80 : a.tmps.getD 80 undef = .agg (plc ⟨0, 1, 1⟩).toArray := hL.2.1
              have e78 : a.tmps.getD 78 undef = .bool true := hL.2.2.1
              clear hL
              refine ⟨true, e78, ?_⟩
              rw [if_pos rfl]
              rw [Array.getD_eq_getD_getElem?] at e79 e80
              go_simp
              refine ((show lsP ⟨0, 1, 1⟩ ⟨0, 1, 1⟩ = false by kernel_rfl) ▸ ls_any ⟨0, 1, 1⟩ ⟨0, 1, 1⟩).mono ?_
              rintro e W2 ⟨rfl, hb⟩
              exact ⟨_, rfl, ⟨fun d hd => by injection hd with hd; subst hd; rfl, fun h => by cases h⟩, hS.trans (hb.mono hS.size), hb⟩
          · as_aux_lemma =>
              intro vals a W hS hL
              have e81 : a.tmps.getD 81 undef = .bool false := hL.1
              have e78 : a.tmps.getD 78 undef = .bool true := hL.2.1
              clear hL
              refine ⟨true, e78, ?_⟩
              rw [if_pos rfl]
              go_simp
              exact ⟨⟨fun d hd => by injection hd with hd; subst hd; rfl, fun h => by cases h⟩, hS, (Below.refl _ _)⟩
          · as_aux_lemma =>
              intro vals a W hS hL
              have e78 : a.tmps.getD 78 undef = .bool true := hL.1
              have e82 : a.tmps.getD 82 undef = .bool true := hL.2.1
              clear hL
              go_simp
              exact ⟨⟨fun d hd => by injection hd with hd; subst hd; rfl, fun h => by cases h⟩, hS, (Below.refl _ _)⟩
          · as_aux_lemma =>
              intro vals a W hS hL
              have e83 : a.tmps.getD 83 undef = .bool true := hL.1
              clear hL
              go_simp
              exact ⟨⟨fun d hd => by injection hd with hd; subst hd; rfl, fun h => by cases h⟩, hS, (Below.refl _ _)⟩
          · as_aux_lemma =>
              intro vals a W hS hL
              have e3 : a.tmps.getD 3 undef = .pointer (some ⟨g3, 0, none⟩) := hL.1
              have e84 : a.tmps.getD 84 undef = .bool true := hL.2.1
              clear hL
              refine ⟨true, e84, ?_⟩
              rw [if_pos rfl]
              refine lands_vB (run_ldg (cs := enc 2 (.slice (some q) 2 c3) (.slice none 0 0)) rtEnv (HK3.out.below hS HK3.out.lt) (.tmp 3) rfl e3) ?_
              exact ⟨⟨fun d hd => by injection hd with hd; subst hd; rfl, fun h => by cases h⟩, hS, Below.refl _ _⟩
          · as_aux_lemma =>
              intro vals a W hS hL
              have e85 : a.tmps.getD 85 undef = .agg (enc 2 (.slice (some q) 2 c3) (.slice none 0 0)).toArray := hL.1
              have e84 : a.tmps.getD 84 undef = .bool true := hL.2.1
              clear hL
              refine ⟨true, e84, ?_⟩
              rw [if_pos rfl]
              rw [Array.getD_eq_getD_getElem?] at e85
              go_simp
              refine (HC3.out W hS).mono ?_
              rintro e W2 ⟨rfl, hb⟩
              exact ⟨_, rfl, ⟨fun d hd => by injection hd with hd; subst hd; rfl, fun h => by cases h⟩, hS.trans (hb.mono hS.size), hb⟩
          · as_aux_lemma =>
              intro vals a W hS hL
              have e86 : a.tmps.getD 86 undef = .int .i64 0 := hL.1
              have e84 : a.tmps.getD 84 undef = .bool true := hL.2.1
              clear hL
              refine ⟨true, e84, ?_⟩
              rw [if_pos rfl]
              go_simp
              exact ⟨⟨fun d hd => by injection hd with hd; subst hd; rfl, fun h => by cases h⟩, hS, (Below.refl _ _)⟩
          · as_aux_lemma =>
              intro vals a W hS hL
              have e84 : a.tmps.getD 84 undef = .bool true := hL.1
              have e87 : a.tmps.getD 87 undef = .bool true := hL.2.1
              clear hL
              go_simp
              exact ⟨⟨fun d hd => by injection hd with hd; subst hd; rfl, fun h => by cases h⟩, hS, (Below.refl _ _)⟩
          · as_aux_lemma =>
              intro vals a W hS hL
              have e88 : a.tmps.getD 88 undef = .bool true := hL.1
              clear hL
              go_simp
              exact ⟨⟨fun d hd => by injection hd with hd; subst hd; rfl, fun h => by cases h⟩, hS, (Below.refl _ _)⟩
          · as_aux_lemma =>
              intro vals a W hS hL
              have e89 : a.tmps.getD 89 undef = .bool true := hL.1
              clear hL
              refine ⟨true, e89, ?_⟩
              rw [if_pos rfl]
              refine lands_vB (v := .agg (enc 0 (.slice none 0 0) (.slice none 0 0)).toArray) (w' := W) (by kernel_rfl) ?_
              exact ⟨⟨fun d hd => by injection hd with hd; subst hd; rfl, fun h => by cases h⟩, hS, Below.refl _ _⟩
          · as_aux_lemma =>
              intro vals a W hS hL
              have e90 : a.tmps.getD 90 undef = .agg (enc 0 (.slice none 0 0) (.slice none 0 0)).toArray := hL.1
              have e89 : a.tmps.getD 89 undef = .bool true := hL.2.1
              clear hL
              refine ⟨true, e89, ?_⟩
              rw [if_pos rfl]
              rw [Array.getD_eq_getD_getElem?] at e90
              go_simp
              refine (HC0.out W hS).mono ?_
              rintro e W2 ⟨rfl, hb⟩
              exact ⟨_, rfl, ⟨fun d hd => by injection hd with hd; subst hd; rfl, fun h => by cases h⟩, hS.trans (hb.mono hS.size), hb⟩
          · as_aux_lemma =>
              intro vals a W hS hL
              have e91 : a.tmps.getD 91 undef = .int .i64 1 := hL.1
              have e89 : a.tmps.getD 89 undef = .bool true := hL.2.1
              clear hL
              refine ⟨true, e89, ?_⟩
              rw [if_pos rfl]
              go_simp
              exact ⟨⟨fun d hd => by injection hd with hd; subst hd; rfl, fun h => by cases h⟩, hS, (Below.refl _ _)⟩
          · as_aux_lemma =>
              intro vals a W hS hL
              have e89 : a.tmps.getD 89 undef = .bool true := hL.1
              have e92 : a.tmps.getD 92 undef = .bool true := hL.2.1
              clear hL
              go_simp
              exact ⟨⟨fun d hd => by injection hd with hd; subst hd; rfl, fun h => by cases h⟩, hS, (Below.refl _ _)⟩
          · as_aux_lemma =>
              intro vals a W hS hL
              have e93 : a.tmps.getD 93 undef = .bool true := hL.1
              clear hL
              go_simp
              exact ⟨⟨fun d hd => by injection hd with hd; subst hd; rfl, fun h => by cases h⟩, hS, (Below.refl _ _)⟩
          · as_aux_lemma =>
              intro vals a W hS hL
              have e3 : a.tmps.getD 3 undef = .pointer (some ⟨g3, 0, none⟩) := hL.1
              have e94 : a.tmps.getD 94 undef = .bool true := hL.2.1
              clear hL
              refine ⟨true, e94, ?_⟩
              rw [if_pos rfl]
              refine lands_vB (run_ldg (cs := enc 2 (.slice (some q) 2 c3) (.slice none 0 0)) rtEnv (HK3.out.below hS HK3.out.lt) (.tmp 3) rfl e3) ?_
              exact ⟨⟨fun d hd => by injection hd with hd; subst hd; rfl, fun h => by cases h⟩, hS, Below.refl _ _⟩
          · as_aux_lemma =>
              intro vals a W hS hL
              have e3 : a.tmps.getD 3 undef = .pointer (some ⟨g3, 0, none⟩) := hL.1
              have e94 : a.tmps.getD 94 undef = .bool true := hL.2.1
              clear hL
              refine ⟨true, e94, ?_⟩
              rw [if_pos rfl]
              refine lands_vB (run_ldg (cs := enc 2 (.slice (some q) 2 c3) (.slice none 0 0)) rtEnv (HK3.out.below hS HK3.out.lt) (.tmp 3) rfl e3) ?_
              exact ⟨⟨fun d hd => by injection hd with hd; subst hd; rfl, fun h => by cases h⟩, hS, Below.refl _ _⟩
          · as_aux_lemma =>
              intro vals a W hS hL
              have e95 : a.tmps.getD 95 undef = .agg (enc 2 (.slice (some q) 2 c3) (.slice none 0 0)).toArray := hL.1
              have e96 : a.tmps.getD 96 undef = .agg (enc 2 (.slice (some q) 2 c3) (.slice none 0 0)).toArray := hL.2.1
              have e94 : a.tmps.getD 94 undef = .bool true := hL.2.2.1
              clear hL
              refine ⟨true, e94, ?_⟩
              rw [if_pos rfl]
              rw [Array.getD_eq_getD_getElem?] at e95 e96
              go_simp
              refine (HS3.out W hS).mono ?_
              rintro e W2 ⟨rfl, hb⟩
              exact ⟨_, rfl, ⟨fun d hd => by injection hd with hd; subst hd; rfl, fun h => by cases h⟩, hS.trans (hb.mono hS.size), hb⟩
          · as_aux_lemma =>
              intro vals a W hS hL
              have e94 : a.tmps.getD 94 undef = .bool true := hL.1
              have e97 : a.tmps.getD 97 undef = .bool true := hL.2.1
              clear hL
              go_simp
              exact ⟨⟨fun d hd => by injection hd with hd; subst hd; rfl, fun h => by cases h⟩, hS, (Below.refl _ _)⟩
          · as_aux_lemma =>
              intro vals a W hS hL
              have e98 : a.tmps.getD 98 undef = .bool true := hL.1
              clear hL
              go_simp
              exact ⟨⟨fun d hd => by injection hd with hd; subst hd; rfl, fun h => by cases h⟩, hS, (Below.refl _ _)⟩
          · as_aux_lemma =>
              intro vals a W hS hL
              have e2 : a.tmps.getD 2 undef = .pointer (some ⟨g2, 0, none⟩) := hL.1
              have e99 : a.tmps.getD 99 undef = .bool true := hL.2.1
              clear hL
              refine ⟨true, e99, ?_⟩
              rw [if_pos rfl]
              refine lands_vB (run_ldg (cs := enc 2 (.slice A2 1 c2) (.slice none 0 0)) rtEnv (HK2.out.below hS HK2.out.lt) (.tmp 2) rfl e2) ?_
              exact ⟨⟨fun d hd => by injection hd with hd; subst hd; rfl, fun h => by cases h⟩, hS, Below.refl _ _⟩
          · as_aux_lemma =>
              intro vals a W hS hL
              have e3 : a.tmps.getD 3 undef = .pointer (some ⟨g3, 0, none⟩) := hL.1
              have e99 : a.tmps.getD 99 undef = .bool true := hL.2.1
              clear hL
              refine ⟨true, e99, ?_⟩
              rw [if_pos rfl]
              refine lands_vB (run_ldg (cs := enc 2 (.slice (some q) 2 c3) (.slice none 0 0)) rtEnv (HK3.out.below hS HK3.out.lt) (.tmp 3) rfl e3) ?_
              exact ⟨⟨fun d hd => by injection hd with hd; subst hd; rfl, fun h => by cases h⟩, hS, Below.refl _ _⟩
          · as_aux_lemma =>
              intro vals a W hS hL
              have e100 : a.tmps.getD 100 undef = .agg (enc 2 (.slice A2 1 c2) (.slice none 0 0)).toArray := hL.1
              have e101 : a.tmps.getD 101 undef = .agg (enc 2 (.slice (some q) 2 c3) (.slice none 0 0)).toArray := hL.2.1
              have e99 : a.tmps.getD 99 undef = .bool true := hL.2.2.1
              clear hL
              refine ⟨true, e99, ?_⟩
              rw [if_pos rfl]
              rw [Array.getD_eq_getD_getElem?] at e100 e101
              go_simp
              refine (HS2.out W hS).mono ?_
              rintro e W2 ⟨rfl, hb⟩
              exact ⟨_, rfl, ⟨fun d hd => by injection hd with hd; subst hd; rfl, fun h => by cases h⟩, hS.trans (hb.mono hS.size), hb⟩
          · as_aux_lemma =>
              intro vals a W hS hL
              have e102 : a.tmps.getD 102 undef = .bool false := hL.1
              have e99 : a.tmps.getD 99 undef = .bool true := hL.2.1
              clear hL
              refine ⟨true, e99, ?_⟩
              rw [if_pos rfl]
              go_simp
              exact ⟨⟨fun d hd => by injection hd with hd; subst hd; rfl, fun h => by cases h⟩, hS, (Below.refl _ _)⟩
          · as_aux_lemma =>
              intro vals a W hS hL
              have e99 : a.tmps.getD 99 undef = .bool true := hL.1
              have e103 : a.tmps.getD 103 undef = .bool true := hL.2.1
              clear hL
              go_simp
              exact ⟨⟨fun d hd => by injection hd with hd; subst hd; rfl, fun h => by cases h⟩, hS, (Below.refl _ _)⟩
          · as_aux_lemma =>
              intro vals a W hS hL
              have e104 : a.tmps.getD 104 undef = .bool true := hL.1
              clear hL
              go_simp
              exact ⟨⟨fun d hd => by injection hd with hd; subst hd; rfl, fun h => by cases h⟩, hS, (Below.refl _ _)⟩
        · intro a W vals hd hsz hT hF hv hP hS
          obtain rfl : vals = [] := List.eq_nil_of_length_eq_zero hv
          have e0 : a.tmps.getD 0 undef = .bool true := hT 0 (by simp)
          clear hT hF hP
          rw [act_lit 105 a hd hsz]
          simp only [List.range, List.range.loop, List.map, e0]
          clear e0 hsz hd
          repeat' (first | go_values | go_skip | go_guarded | go_step | go_upon)
          exact bodyPost_ret (v := .bool true) (by simp [results, Tryd.results6, go_sem]) rfl ⟨rfl, HBW.out.trans (hS.mono HBW.out.size)⟩
end Go.Proofs.YtkjiokepihmpfaaDoor

