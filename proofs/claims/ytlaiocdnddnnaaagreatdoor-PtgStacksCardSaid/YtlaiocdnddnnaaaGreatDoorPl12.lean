/- ptg.parsePlace, by their contracts. Condition: the bytes read as such, and are enough. -/
import Derived.Test.YtlaiocdnddnnaaaGreatDoorPb12
set_option linter.unusedVariables false
set_option linter.unusedSimpArgs false
namespace Go.Proofs.YtlaiocdnddnnaaaGreatDoor
open Go.RowKit
def PlOk (w : World) (g : Got) (e : Ending) (W : World) : Prop := ∃ q : Pay, e = .returned (.tuple #[.agg (tc q (.slice none 0 0) (0 : Nat)).toArray, .int .i64 g.err]) ∧ (g.err = 0 → g.pay = q ∧ g.takes = 0) ∧ Below w.heap.size w W
def RfC (A : Option Addr) (n c B : Nat) (l : List UInt8) (i j : Nat) (V : List Value) (E : Int) : Prop := ∀ W : World, Rd W B 1 A n (l.map bv) → B ≤ W.heap.size → Calls Tryz.prog 134 #[.agg #[.slice A n c, .int .i64 i]] W fun e W' => e = .returned (.tuple #[.agg V.toArray, .agg (cu A n c j).toArray, .int .i64 E]) ∧ Below W.heap.size W W'
def U8C (A : Option Addr) (n c B : Nat) (l : List UInt8) (i j : Nat) (V : Int) : Prop := ∀ W : World, Rd W B 1 A n (l.map bv) → B ≤ W.heap.size → Calls Tryz.prog 102 #[.agg #[.slice A n c, .int .i64 i]] W fun e W' => e = .returned (.tuple #[.int .i64 V, .agg #[.slice A n c, .int .i64 j], .int .i64 0]) ∧ Below W.heap.size W W'
section
variable {w : World} {A : Option Addr} {n c B i j j' m r1 c1 r2 c2 : Nat} {l : List UInt8}
set_option maxRecDepth 20000 in
set_option maxHeartbeats 4000000 in
theorem place_2_0 (HH : Hid (Rd w B 1 A n (l.map bv) ∧ B ≤ w.heap.size)) {sv r1 c1 r2 c2 : Int} {x1 y1 x2 y2 : Bool} (H1 : Hid (RfC A n c B l i j (rc r1 c1 x1 y1) 0)) :
    Calls Tryz.prog 124 #[.int .i64 2, .agg #[.slice A n c, .int .i64 i]] w fun e W => e = .returned (.tuple #[.agg (tc ({ zp with kind := 2, r1 := r1, c1 := c1, x1 := x1, y1 := y1 }) (.slice none 0 0) (0 : Nat)).toArray, .int .i64 0]) ∧ Below w.heap.size w W := by
  have HB : Hid (BX w [] w) := Lib.hid (BX.start w); go_enter Tryz.func124, Tryz.ntmps124
  repeat' (first | ((with_reducible show Oper.wp _ _ _ _ _ _); with_reducible refine stop_bx _ rfl ?_) | go_values | go_skip | go_guarded | go_step | go_upon)
  refine Lib.hid ?_; refine al_g HB 82 (cu A n c i) (by kernel_rfl) ?_; clear HB
  (first | (have _t : Nat := g10; clear _t; intro g11 W HB) | (have _t : Nat := g9; clear _t; intro g10 W HB) | (have _t : Nat := g8; clear _t; intro g9 W HB) | (have _t : Nat := g7; clear _t; intro g8 W HB) | (have _t : Nat := g6; clear _t; intro g7 W HB) | (have _t : Nat := g5; clear _t; intro g6 W HB) | (have _t : Nat := g4; clear _t; intro g5 W HB) | (have _t : Nat := g3; clear _t; intro g4 W HB) | (have _t : Nat := g2; clear _t; intro g3 W HB) | (have _t : Nat := g1; clear _t; intro g2 W HB) | (have _t : Nat := g0; clear _t; intro g1 W HB) | intro g0 W HB)
  go_simp
  repeat' (first | ((with_reducible show Oper.wp _ _ _ _ _ _); (first | (with_reducible refine is_al 144 rfl ?_; refine al_g HB 144 (tc zp (.slice none 0 0) 0) (by kernel_rfl) ?_; clear HB; intro g1 W HB; go_simp) | with_reducible refine stop_bd rfl ?_)) | go_values | go_skip | go_guarded | go_step | go_upon)
  refine Lib.hid ?_; refine wp_b (v := .agg (ec ({ zp with kind := 2 }) (.slice none 0 0)).toArray) (by kernel_rfl) ?_; go_simp
  repeat' (first | ((with_reducible show Oper.wp _ _ _ _ _ _); (first | (with_reducible refine is_al 47 rfl ?_; refine al_g HB 47 (ec zp (.slice none 0 0)) (by kernel_rfl) ?_; clear HB; intro g2 W HB; go_simp) | (with_reducible refine is_st 47 _ _ rfl ?_; refine st_ec 0 HB rfl _ _ rfl rfl rfl ?_; clear HB; intro W HB; dsimp only [List.set] at HB; go_simp))) | go_values | go_skip | go_guarded | go_step | go_upon)
  refine (hasSheet_any 2).mono ?_; rintro e W1 ⟨rfl, rfl⟩; dsimp only
  repeat' (first | ((with_reducible show Oper.wp _ _ _ _ _ _); with_reducible refine is_ld 82 _ rfl ?_; refine ld_cu 2 HB rfl _ rfl rfl ?_; go_simp) | go_values | go_skip | go_guarded | go_step | go_upon)
  refine (H1.out _ (HH.out.1.belowMono HB.out.bel HH.out.2) (Nat.le_trans HH.out.2 HB.out.bel.size)).mono ?_; rintro e W1 ⟨rfl, hb⟩; have HB := Lib.hid (HB.out.call hb); clear hb; dsimp only
  repeat' (first | ((with_reducible show Oper.wp _ _ _ _ _ _); with_reducible refine stop_st _ _ rfl ?_) | go_values | go_skip | go_guarded | go_step | go_upon)
  refine Lib.hid ?_; refine ss_g (i := 0) (vs := rc r1 c1 x1 y1) (off := 7) rtRef rc_one HB rfl (Nat.le_of_ble_eq_true rfl) _ _ rfl rfl rfl (ds := ec ({ zp with kind := 2, r1 := r1, c1 := c1, x1 := x1, y1 := y1 }) (.slice none 0 0)) rfl ?_; clear HB; intro W HB; dsimp only [List.set] at HB; go_simp
  repeat' (first | ((with_reducible show Oper.wp _ _ _ _ _ _); with_reducible refine is_st 82 _ _ rfl ?_; refine st_cu 2 HB rfl _ _ rfl rfl rfl ?_; clear HB; intro W HB; dsimp only [List.set] at HB; go_simp) | go_values | go_skip | go_guarded | go_step | go_upon)
  refine (hasArea_any 2).mono ?_; rintro e W1 ⟨rfl, rfl⟩; dsimp only
  repeat' (first | ((with_reducible show Oper.wp _ _ _ _ _ _); (first | (with_reducible refine is_ld 47 _ rfl ?_; refine ld_ec 0 HB rfl _ rfl rfl ?_; go_simp) | with_reducible refine stop_bd rfl ?_)) | go_values | go_skip | go_guarded | go_step | go_upon)
  refine Lib.hid ?_; refine wp_b (v := .agg (tc ({ zp with kind := 2, r1 := r1, c1 := c1, x1 := x1, y1 := y1 }) (.slice none 0 0) (0 : Nat)).toArray) (by kernel_rfl) ?_; go_simp
  repeat' (first | ((with_reducible show Oper.wp _ _ _ _ _ _); with_reducible refine is_st 144 _ _ rfl ?_; refine st_tc 1 HB rfl _ _ rfl rfl rfl ?_; clear HB; intro W HB; dsimp only [List.set] at HB; go_simp) | go_values | go_skip | go_guarded | go_step | go_upon)
  exact bodyPost_ret (res_tn rfl 1 HB rfl rfl rfl) rfl ⟨rfl, HB.out.bel⟩
set_option maxRecDepth 20000 in
set_option maxHeartbeats 4000000 in
theorem place_2_1 (HH : Hid (Rd w B 1 A n (l.map bv) ∧ B ≤ w.heap.size)) {sv r1 c1 r2 c2 : Int} {x1 y1 x2 y2 : Bool} (H1 : Hid (RfC A n c B l i j (rc 0 0 false false) 2)) :
    Calls Tryz.prog 124 #[.int .i64 2, .agg #[.slice A n c, .int .i64 i]] w fun e W => e = .returned (.tuple #[.agg (tc ({ zp with kind := 2 }) (.slice none 0 0) (0 : Nat)).toArray, .int .i64 2]) ∧ Below w.heap.size w W := by
  have HB : Hid (BX w [] w) := Lib.hid (BX.start w); go_enter Tryz.func124, Tryz.ntmps124
  repeat' (first | ((with_reducible show Oper.wp _ _ _ _ _ _); with_reducible refine stop_bx _ rfl ?_) | go_values | go_skip | go_guarded | go_step | go_upon)
  refine Lib.hid ?_; refine al_g HB 82 (cu A n c i) (by kernel_rfl) ?_; clear HB
  (first | (have _t : Nat := g10; clear _t; intro g11 W HB) | (have _t : Nat := g9; clear _t; intro g10 W HB) | (have _t : Nat := g8; clear _t; intro g9 W HB) | (have _t : Nat := g7; clear _t; intro g8 W HB) | (have _t : Nat := g6; clear _t; intro g7 W HB) | (have _t : Nat := g5; clear _t; intro g6 W HB) | (have _t : Nat := g4; clear _t; intro g5 W HB) | (have _t : Nat := g3; clear _t; intro g4 W HB) | (have _t : Nat := g2; clear _t; intro g3 W HB) | (have _t : Nat := g1; clear _t; intro g2 W HB) | (have _t : Nat := g0; clear _t; intro g1 W HB) | intro g0 W HB)
  go_simp
  repeat' (first | ((with_reducible show Oper.wp _ _ _ _ _ _); (first | (with_reducible refine is_al 144 rfl ?_; refine al_g HB 144 (tc zp (.slice none 0 0) 0) (by kernel_rfl) ?_; clear HB; intro g1 W HB; go_simp) | with_reducible refine stop_bd rfl ?_)) | go_values | go_skip | go_guarded | go_step | go_upon)
  refine Lib.hid ?_; refine wp_b (v := .agg (ec ({ zp with kind := 2 }) (.slice none 0 0)).toArray) (by kernel_rfl) ?_; go_simp
  repeat' (first | ((with_reducible show Oper.wp _ _ _ _ _ _); (first | (with_reducible refine is_al 47 rfl ?_; refine al_g HB 47 (ec zp (.slice none 0 0)) (by kernel_rfl) ?_; clear HB; intro g2 W HB; go_simp) | (with_reducible refine is_st 47 _ _ rfl ?_; refine st_ec 0 HB rfl _ _ rfl rfl rfl ?_; clear HB; intro W HB; dsimp only [List.set] at HB; go_simp))) | go_values | go_skip | go_guarded | go_step | go_upon)
  refine (hasSheet_any 2).mono ?_; rintro e W1 ⟨rfl, rfl⟩; dsimp only
  repeat' (first | ((with_reducible show Oper.wp _ _ _ _ _ _); with_reducible refine is_ld 82 _ rfl ?_; refine ld_cu 2 HB rfl _ rfl rfl ?_; go_simp) | go_values | go_skip | go_guarded | go_step | go_upon)
  refine (H1.out _ (HH.out.1.belowMono HB.out.bel HH.out.2) (Nat.le_trans HH.out.2 HB.out.bel.size)).mono ?_; rintro e W1 ⟨rfl, hb⟩; have HB := Lib.hid (HB.out.call hb); clear hb; dsimp only
  repeat' (first | ((with_reducible show Oper.wp _ _ _ _ _ _); with_reducible refine stop_st _ _ rfl ?_) | go_values | go_skip | go_guarded | go_step | go_upon)
  refine Lib.hid ?_; refine ss_g (i := 0) (vs := rc 0 0 false false) (off := 7) rtRef rc_one HB rfl (Nat.le_of_ble_eq_true rfl) _ _ rfl rfl rfl (ds := ec ({ zp with kind := 2 }) (.slice none 0 0)) rfl ?_; clear HB; intro W HB; dsimp only [List.set] at HB; go_simp
  repeat' (first | ((with_reducible show Oper.wp _ _ _ _ _ _); (first | (with_reducible refine is_ld 47 _ rfl ?_; refine ld_ec 0 HB rfl _ rfl rfl ?_; go_simp) | (with_reducible refine is_st 82 _ _ rfl ?_; refine st_cu 2 HB rfl _ _ rfl rfl rfl ?_; clear HB; intro W HB; dsimp only [List.set] at HB; go_simp) | with_reducible refine stop_bd rfl ?_)) | go_values | go_skip | go_guarded | go_step | go_upon)
  refine Lib.hid ?_; refine wp_b (v := .agg (tc ({ zp with kind := 2 }) (.slice none 0 0) (0 : Nat)).toArray) (by kernel_rfl) ?_; go_simp
  repeat' (first | ((with_reducible show Oper.wp _ _ _ _ _ _); with_reducible refine is_st 144 _ _ rfl ?_; refine st_tc 1 HB rfl _ _ rfl rfl rfl ?_; clear HB; intro W HB; dsimp only [List.set] at HB; go_simp) | go_values | go_skip | go_guarded | go_step | go_upon)
  exact bodyPost_ret (res_tn rfl 1 HB rfl rfl rfl) rfl ⟨rfl, HB.out.bel⟩
set_option maxRecDepth 20000 in
set_option maxHeartbeats 4000000 in
theorem place_3_0 (HH : Hid (Rd w B 1 A n (l.map bv) ∧ B ≤ w.heap.size)) {sv r1 c1 r2 c2 : Int} {x1 y1 x2 y2 : Bool} (H1 : Hid (RfC A n c B l i j (rc r1 c1 x1 y1) 0)) (H2 : Hid (RfC A n c B l j j' (rc r2 c2 x2 y2) 0)) :
    Calls Tryz.prog 124 #[.int .i64 3, .agg #[.slice A n c, .int .i64 i]] w fun e W => e = .returned (.tuple #[.agg (tc ({ zp with kind := 3, r1 := r1, c1 := c1, x1 := x1, y1 := y1, r2 := r2, c2 := c2, x2 := x2, y2 := y2 }) (.slice none 0 0) (0 : Nat)).toArray, .int .i64 0]) ∧ Below w.heap.size w W := by
  have HB : Hid (BX w [] w) := Lib.hid (BX.start w); go_enter Tryz.func124, Tryz.ntmps124
  repeat' (first | ((with_reducible show Oper.wp _ _ _ _ _ _); with_reducible refine stop_bx _ rfl ?_) | go_values | go_skip | go_guarded | go_step | go_upon)
  refine Lib.hid ?_; refine al_g HB 82 (cu A n c i) (by kernel_rfl) ?_; clear HB
  (first | (have _t : Nat := g10; clear _t; intro g11 W HB) | (have _t : Nat := g9; clear _t; intro g10 W HB) | (have _t : Nat := g8; clear _t; intro g9 W HB) | (have _t : Nat := g7; clear _t; intro g8 W HB) | (have _t : Nat := g6; clear _t; intro g7 W HB) | (have _t : Nat := g5; clear _t; intro g6 W HB) | (have _t : Nat := g4; clear _t; intro g5 W HB) | (have _t : Nat := g3; clear _t; intro g4 W HB) | (have _t : Nat := g2; clear _t; intro g3 W HB) | (have _t : Nat := g1; clear _t; intro g2 W HB) | (have _t : Nat := g0; clear _t; intro g1 W HB) | intro g0 W HB)
  go_simp
  repeat' (first | ((with_reducible show Oper.wp _ _ _ _ _ _); (first | (with_reducible refine is_al 144 rfl ?_; refine al_g HB 144 (tc zp (.slice none 0 0) 0) (by kernel_rfl) ?_; clear HB; intro g1 W HB; go_simp) | with_reducible refine stop_bd rfl ?_)) | go_values | go_skip | go_guarded | go_step | go_upon)
  refine Lib.hid ?_; refine wp_b (v := .agg (ec ({ zp with kind := 3 }) (.slice none 0 0)).toArray) (by kernel_rfl) ?_; go_simp
  repeat' (first | ((with_reducible show Oper.wp _ _ _ _ _ _); (first | (with_reducible refine is_al 47 rfl ?_; refine al_g HB 47 (ec zp (.slice none 0 0)) (by kernel_rfl) ?_; clear HB; intro g2 W HB; go_simp) | (with_reducible refine is_st 47 _ _ rfl ?_; refine st_ec 0 HB rfl _ _ rfl rfl rfl ?_; clear HB; intro W HB; dsimp only [List.set] at HB; go_simp))) | go_values | go_skip | go_guarded | go_step | go_upon)
  refine (hasSheet_any 3).mono ?_; rintro e W1 ⟨rfl, rfl⟩; dsimp only
  repeat' (first | ((with_reducible show Oper.wp _ _ _ _ _ _); with_reducible refine is_ld 82 _ rfl ?_; refine ld_cu 2 HB rfl _ rfl rfl ?_; go_simp) | go_values | go_skip | go_guarded | go_step | go_upon)
  refine (H1.out _ (HH.out.1.belowMono HB.out.bel HH.out.2) (Nat.le_trans HH.out.2 HB.out.bel.size)).mono ?_; rintro e W1 ⟨rfl, hb⟩; have HB := Lib.hid (HB.out.call hb); clear hb; dsimp only
  repeat' (first | ((with_reducible show Oper.wp _ _ _ _ _ _); with_reducible refine stop_st _ _ rfl ?_) | go_values | go_skip | go_guarded | go_step | go_upon)
  refine Lib.hid ?_; refine ss_g (i := 0) (vs := rc r1 c1 x1 y1) (off := 7) rtRef rc_one HB rfl (Nat.le_of_ble_eq_true rfl) _ _ rfl rfl rfl (ds := ec ({ zp with kind := 3, r1 := r1, c1 := c1, x1 := x1, y1 := y1 }) (.slice none 0 0)) rfl ?_; clear HB; intro W HB; dsimp only [List.set] at HB; go_simp
  repeat' (first | ((with_reducible show Oper.wp _ _ _ _ _ _); with_reducible refine is_st 82 _ _ rfl ?_; refine st_cu 2 HB rfl _ _ rfl rfl rfl ?_; clear HB; intro W HB; dsimp only [List.set] at HB; go_simp) | go_values | go_skip | go_guarded | go_step | go_upon)
  refine (hasArea_any 3).mono ?_; rintro e W1 ⟨rfl, rfl⟩; dsimp only
  repeat' (first | ((with_reducible show Oper.wp _ _ _ _ _ _); with_reducible refine is_ld 82 _ rfl ?_; refine ld_cu 2 HB rfl _ rfl rfl ?_; go_simp) | go_values | go_skip | go_guarded | go_step | go_upon)
  refine (H2.out _ (HH.out.1.belowMono HB.out.bel HH.out.2) (Nat.le_trans HH.out.2 HB.out.bel.size)).mono ?_; rintro e W1 ⟨rfl, hb⟩; have HB := Lib.hid (HB.out.call hb); clear hb; dsimp only
  repeat' (first | ((with_reducible show Oper.wp _ _ _ _ _ _); with_reducible refine stop_st _ _ rfl ?_) | go_values | go_skip | go_guarded | go_step | go_upon)
  refine Lib.hid ?_; refine ss_g (i := 0) (vs := rc r2 c2 x2 y2) (off := 11) rtRef rc_one HB rfl (Nat.le_of_ble_eq_true rfl) _ _ rfl rfl rfl (ds := ec ({ zp with kind := 3, r1 := r1, c1 := c1, x1 := x1, y1 := y1, r2 := r2, c2 := c2, x2 := x2, y2 := y2 }) (.slice none 0 0)) rfl ?_; clear HB; intro W HB; dsimp only [List.set] at HB; go_simp
  repeat' (first | ((with_reducible show Oper.wp _ _ _ _ _ _); (first | (with_reducible refine is_ld 47 _ rfl ?_; refine ld_ec 0 HB rfl _ rfl rfl ?_; go_simp) | with_reducible refine stop_bd rfl ?_)) | go_values | go_skip | go_guarded | go_step | go_upon)
  refine Lib.hid ?_; refine wp_b (v := .agg (tc ({ zp with kind := 3, r1 := r1, c1 := c1, x1 := x1, y1 := y1, r2 := r2, c2 := c2, x2 := x2, y2 := y2 }) (.slice none 0 0) (0 : Nat)).toArray) (by kernel_rfl) ?_; go_simp
  repeat' (first | ((with_reducible show Oper.wp _ _ _ _ _ _); with_reducible refine is_st 144 _ _ rfl ?_; refine st_tc 1 HB rfl _ _ rfl rfl rfl ?_; clear HB; intro W HB; dsimp only [List.set] at HB; go_simp) | go_values | go_skip | go_guarded | go_step | go_upon)
  exact bodyPost_ret (res_tn rfl 1 HB rfl rfl rfl) rfl ⟨rfl, HB.out.bel⟩
set_option maxRecDepth 20000 in
set_option maxHeartbeats 4000000 in
theorem place_3_1 (HH : Hid (Rd w B 1 A n (l.map bv) ∧ B ≤ w.heap.size)) {sv r1 c1 r2 c2 : Int} {x1 y1 x2 y2 : Bool} (H1 : Hid (RfC A n c B l i j (rc 0 0 false false) 2)) :
    Calls Tryz.prog 124 #[.int .i64 3, .agg #[.slice A n c, .int .i64 i]] w fun e W => e = .returned (.tuple #[.agg (tc ({ zp with kind := 3 }) (.slice none 0 0) (0 : Nat)).toArray, .int .i64 2]) ∧ Below w.heap.size w W := by
  have HB : Hid (BX w [] w) := Lib.hid (BX.start w); go_enter Tryz.func124, Tryz.ntmps124
  repeat' (first | ((with_reducible show Oper.wp _ _ _ _ _ _); with_reducible refine stop_bx _ rfl ?_) | go_values | go_skip | go_guarded | go_step | go_upon)
  refine Lib.hid ?_; refine al_g HB 82 (cu A n c i) (by kernel_rfl) ?_; clear HB
  (first | (have _t : Nat := g10; clear _t; intro g11 W HB) | (have _t : Nat := g9; clear _t; intro g10 W HB) | (have _t : Nat := g8; clear _t; intro g9 W HB) | (have _t : Nat := g7; clear _t; intro g8 W HB) | (have _t : Nat := g6; clear _t; intro g7 W HB) | (have _t : Nat := g5; clear _t; intro g6 W HB) | (have _t : Nat := g4; clear _t; intro g5 W HB) | (have _t : Nat := g3; clear _t; intro g4 W HB) | (have _t : Nat := g2; clear _t; intro g3 W HB) | (have _t : Nat := g1; clear _t; intro g2 W HB) | (have _t : Nat := g0; clear _t; intro g1 W HB) | intro g0 W HB)
  go_simp
  repeat' (first | ((with_reducible show Oper.wp _ _ _ _ _ _); (first | (with_reducible refine is_al 144 rfl ?_; refine al_g HB 144 (tc zp (.slice none 0 0) 0) (by kernel_rfl) ?_; clear HB; intro g1 W HB; go_simp) | with_reducible refine stop_bd rfl ?_)) | go_values | go_skip | go_guarded | go_step | go_upon)
  refine Lib.hid ?_; refine wp_b (v := .agg (ec ({ zp with kind := 3 }) (.slice none 0 0)).toArray) (by kernel_rfl) ?_; go_simp
  repeat' (first | ((with_reducible show Oper.wp _ _ _ _ _ _); (first | (with_reducible refine is_al 47 rfl ?_; refine al_g HB 47 (ec zp (.slice none 0 0)) (by kernel_rfl) ?_; clear HB; intro g2 W HB; go_simp) | (with_reducible refine is_st 47 _ _ rfl ?_; refine st_ec 0 HB rfl _ _ rfl rfl rfl ?_; clear HB; intro W HB; dsimp only [List.set] at HB; go_simp))) | go_values | go_skip | go_guarded | go_step | go_upon)
  refine (hasSheet_any 3).mono ?_; rintro e W1 ⟨rfl, rfl⟩; dsimp only
  repeat' (first | ((with_reducible show Oper.wp _ _ _ _ _ _); with_reducible refine is_ld 82 _ rfl ?_; refine ld_cu 2 HB rfl _ rfl rfl ?_; go_simp) | go_values | go_skip | go_guarded | go_step | go_upon)
  refine (H1.out _ (HH.out.1.belowMono HB.out.bel HH.out.2) (Nat.le_trans HH.out.2 HB.out.bel.size)).mono ?_; rintro e W1 ⟨rfl, hb⟩; have HB := Lib.hid (HB.out.call hb); clear hb; dsimp only
  repeat' (first | ((with_reducible show Oper.wp _ _ _ _ _ _); with_reducible refine stop_st _ _ rfl ?_) | go_values | go_skip | go_guarded | go_step | go_upon)
  refine Lib.hid ?_; refine ss_g (i := 0) (vs := rc 0 0 false false) (off := 7) rtRef rc_one HB rfl (Nat.le_of_ble_eq_true rfl) _ _ rfl rfl rfl (ds := ec ({ zp with kind := 3 }) (.slice none 0 0)) rfl ?_; clear HB; intro W HB; dsimp only [List.set] at HB; go_simp
  repeat' (first | ((with_reducible show Oper.wp _ _ _ _ _ _); (first | (with_reducible refine is_ld 47 _ rfl ?_; refine ld_ec 0 HB rfl _ rfl rfl ?_; go_simp) | (with_reducible refine is_st 82 _ _ rfl ?_; refine st_cu 2 HB rfl _ _ rfl rfl rfl ?_; clear HB; intro W HB; dsimp only [List.set] at HB; go_simp) | with_reducible refine stop_bd rfl ?_)) | go_values | go_skip | go_guarded | go_step | go_upon)
  refine Lib.hid ?_; refine wp_b (v := .agg (tc ({ zp with kind := 3 }) (.slice none 0 0) (0 : Nat)).toArray) (by kernel_rfl) ?_; go_simp
  repeat' (first | ((with_reducible show Oper.wp _ _ _ _ _ _); with_reducible refine is_st 144 _ _ rfl ?_; refine st_tc 1 HB rfl _ _ rfl rfl rfl ?_; clear HB; intro W HB; dsimp only [List.set] at HB; go_simp) | go_values | go_skip | go_guarded | go_step | go_upon)
  exact bodyPost_ret (res_tn rfl 1 HB rfl rfl rfl) rfl ⟨rfl, HB.out.bel⟩
set_option maxRecDepth 20000 in
set_option maxHeartbeats 4000000 in
theorem place_3_2 (HH : Hid (Rd w B 1 A n (l.map bv) ∧ B ≤ w.heap.size)) {sv r1 c1 r2 c2 : Int} {x1 y1 x2 y2 : Bool} (H1 : Hid (RfC A n c B l i j (rc r1 c1 x1 y1) 0)) (H2 : Hid (RfC A n c B l j j' (rc 0 0 false false) 2)) :
    Calls Tryz.prog 124 #[.int .i64 3, .agg #[.slice A n c, .int .i64 i]] w fun e W => e = .returned (.tuple #[.agg (tc ({ zp with kind := 3, r1 := r1, c1 := c1, x1 := x1, y1 := y1 }) (.slice none 0 0) (0 : Nat)).toArray, .int .i64 2]) ∧ Below w.heap.size w W := by
  have HB : Hid (BX w [] w) := Lib.hid (BX.start w); go_enter Tryz.func124, Tryz.ntmps124
  repeat' (first | ((with_reducible show Oper.wp _ _ _ _ _ _); with_reducible refine stop_bx _ rfl ?_) | go_values | go_skip | go_guarded | go_step | go_upon)
  refine Lib.hid ?_; refine al_g HB 82 (cu A n c i) (by kernel_rfl) ?_; clear HB
  (first | (have _t : Nat := g10; clear _t; intro g11 W HB) | (have _t : Nat := g9; clear _t; intro g10 W HB) | (have _t : Nat := g8; clear _t; intro g9 W HB) | (have _t : Nat := g7; clear _t; intro g8 W HB) | (have _t : Nat := g6; clear _t; intro g7 W HB) | (have _t : Nat := g5; clear _t; intro g6 W HB) | (have _t : Nat := g4; clear _t; intro g5 W HB) | (have _t : Nat := g3; clear _t; intro g4 W HB) | (have _t : Nat := g2; clear _t; intro g3 W HB) | (have _t : Nat := g1; clear _t; intro g2 W HB) | (have _t : Nat := g0; clear _t; intro g1 W HB) | intro g0 W HB)
  go_simp
  repeat' (first | ((with_reducible show Oper.wp _ _ _ _ _ _); (first | (with_reducible refine is_al 144 rfl ?_; refine al_g HB 144 (tc zp (.slice none 0 0) 0) (by kernel_rfl) ?_; clear HB; intro g1 W HB; go_simp) | with_reducible refine stop_bd rfl ?_)) | go_values | go_skip | go_guarded | go_step | go_upon)
  refine Lib.hid ?_; refine wp_b (v := .agg (ec ({ zp with kind := 3 }) (.slice none 0 0)).toArray) (by kernel_rfl) ?_; go_simp
  repeat' (first | ((with_reducible show Oper.wp _ _ _ _ _ _); (first | (with_reducible refine is_al 47 rfl ?_; refine al_g HB 47 (ec zp (.slice none 0 0)) (by kernel_rfl) ?_; clear HB; intro g2 W HB; go_simp) | (with_reducible refine is_st 47 _ _ rfl ?_; refine st_ec 0 HB rfl _ _ rfl rfl rfl ?_; clear HB; intro W HB; dsimp only [List.set] at HB; go_simp))) | go_values | go_skip | go_guarded | go_step | go_upon)
  refine (hasSheet_any 3).mono ?_; rintro e W1 ⟨rfl, rfl⟩; dsimp only
  repeat' (first | ((with_reducible show Oper.wp _ _ _ _ _ _); with_reducible refine is_ld 82 _ rfl ?_; refine ld_cu 2 HB rfl _ rfl rfl ?_; go_simp) | go_values | go_skip | go_guarded | go_step | go_upon)
  refine (H1.out _ (HH.out.1.belowMono HB.out.bel HH.out.2) (Nat.le_trans HH.out.2 HB.out.bel.size)).mono ?_; rintro e W1 ⟨rfl, hb⟩; have HB := Lib.hid (HB.out.call hb); clear hb; dsimp only
  repeat' (first | ((with_reducible show Oper.wp _ _ _ _ _ _); with_reducible refine stop_st _ _ rfl ?_) | go_values | go_skip | go_guarded | go_step | go_upon)
  refine Lib.hid ?_; refine ss_g (i := 0) (vs := rc r1 c1 x1 y1) (off := 7) rtRef rc_one HB rfl (Nat.le_of_ble_eq_true rfl) _ _ rfl rfl rfl (ds := ec ({ zp with kind := 3, r1 := r1, c1 := c1, x1 := x1, y1 := y1 }) (.slice none 0 0)) rfl ?_; clear HB; intro W HB; dsimp only [List.set] at HB; go_simp
  repeat' (first | ((with_reducible show Oper.wp _ _ _ _ _ _); with_reducible refine is_st 82 _ _ rfl ?_; refine st_cu 2 HB rfl _ _ rfl rfl rfl ?_; clear HB; intro W HB; dsimp only [List.set] at HB; go_simp) | go_values | go_skip | go_guarded | go_step | go_upon)
  refine (hasArea_any 3).mono ?_; rintro e W1 ⟨rfl, rfl⟩; dsimp only
  repeat' (first | ((with_reducible show Oper.wp _ _ _ _ _ _); with_reducible refine is_ld 82 _ rfl ?_; refine ld_cu 2 HB rfl _ rfl rfl ?_; go_simp) | go_values | go_skip | go_guarded | go_step | go_upon)
  refine (H2.out _ (HH.out.1.belowMono HB.out.bel HH.out.2) (Nat.le_trans HH.out.2 HB.out.bel.size)).mono ?_; rintro e W1 ⟨rfl, hb⟩; have HB := Lib.hid (HB.out.call hb); clear hb; dsimp only
  repeat' (first | ((with_reducible show Oper.wp _ _ _ _ _ _); with_reducible refine stop_st _ _ rfl ?_) | go_values | go_skip | go_guarded | go_step | go_upon)
  refine Lib.hid ?_; refine ss_g (i := 0) (vs := rc 0 0 false false) (off := 11) rtRef rc_one HB rfl (Nat.le_of_ble_eq_true rfl) _ _ rfl rfl rfl (ds := ec ({ zp with kind := 3, r1 := r1, c1 := c1, x1 := x1, y1 := y1 }) (.slice none 0 0)) rfl ?_; clear HB; intro W HB; dsimp only [List.set] at HB; go_simp
  repeat' (first | ((with_reducible show Oper.wp _ _ _ _ _ _); (first | (with_reducible refine is_ld 47 _ rfl ?_; refine ld_ec 0 HB rfl _ rfl rfl ?_; go_simp) | with_reducible refine stop_bd rfl ?_)) | go_values | go_skip | go_guarded | go_step | go_upon)
  refine Lib.hid ?_; refine wp_b (v := .agg (tc ({ zp with kind := 3, r1 := r1, c1 := c1, x1 := x1, y1 := y1 }) (.slice none 0 0) (0 : Nat)).toArray) (by kernel_rfl) ?_; go_simp
  repeat' (first | ((with_reducible show Oper.wp _ _ _ _ _ _); with_reducible refine is_st 144 _ _ rfl ?_; refine st_tc 1 HB rfl _ _ rfl rfl rfl ?_; clear HB; intro W HB; dsimp only [List.set] at HB; go_simp) | go_values | go_skip | go_guarded | go_step | go_upon)
  exact bodyPost_ret (res_tn rfl 1 HB rfl rfl rfl) rfl ⟨rfl, HB.out.bel⟩
set_option maxRecDepth 20000 in
set_option maxHeartbeats 4000000 in
theorem place_4_0 (HH : Hid (Rd w B 1 A n (l.map bv) ∧ B ≤ w.heap.size)) {sv r1 c1 r2 c2 : Int} {x1 y1 x2 y2 : Bool} (HS : Hid (U8C A n c B l m i sv)) (H1 : Hid (RfC A n c B l i j (rc r1 c1 x1 y1) 0)) :
    Calls Tryz.prog 124 #[.int .i64 4, .agg #[.slice A n c, .int .i64 m]] w fun e W => e = .returned (.tuple #[.agg (tc ({ zp with kind := 4, sheet := sv, r1 := r1, c1 := c1, x1 := x1, y1 := y1 }) (.slice none 0 0) (0 : Nat)).toArray, .int .i64 0]) ∧ Below w.heap.size w W := by
  have HB : Hid (BX w [] w) := Lib.hid (BX.start w); go_enter Tryz.func124, Tryz.ntmps124
  repeat' (first | ((with_reducible show Oper.wp _ _ _ _ _ _); with_reducible refine stop_bx _ rfl ?_) | go_values | go_skip | go_guarded | go_step | go_upon)
  refine Lib.hid ?_; refine al_g HB 82 (cu A n c m) (by kernel_rfl) ?_; clear HB
  (first | (have _t : Nat := g10; clear _t; intro g11 W HB) | (have _t : Nat := g9; clear _t; intro g10 W HB) | (have _t : Nat := g8; clear _t; intro g9 W HB) | (have _t : Nat := g7; clear _t; intro g8 W HB) | (have _t : Nat := g6; clear _t; intro g7 W HB) | (have _t : Nat := g5; clear _t; intro g6 W HB) | (have _t : Nat := g4; clear _t; intro g5 W HB) | (have _t : Nat := g3; clear _t; intro g4 W HB) | (have _t : Nat := g2; clear _t; intro g3 W HB) | (have _t : Nat := g1; clear _t; intro g2 W HB) | (have _t : Nat := g0; clear _t; intro g1 W HB) | intro g0 W HB)
  go_simp
  repeat' (first | ((with_reducible show Oper.wp _ _ _ _ _ _); (first | (with_reducible refine is_al 144 rfl ?_; refine al_g HB 144 (tc zp (.slice none 0 0) 0) (by kernel_rfl) ?_; clear HB; intro g1 W HB; go_simp) | with_reducible refine stop_bd rfl ?_)) | go_values | go_skip | go_guarded | go_step | go_upon)
  refine Lib.hid ?_; refine wp_b (v := .agg (ec ({ zp with kind := 4 }) (.slice none 0 0)).toArray) (by kernel_rfl) ?_; go_simp
  repeat' (first | ((with_reducible show Oper.wp _ _ _ _ _ _); (first | (with_reducible refine is_al 47 rfl ?_; refine al_g HB 47 (ec zp (.slice none 0 0)) (by kernel_rfl) ?_; clear HB; intro g2 W HB; go_simp) | (with_reducible refine is_st 47 _ _ rfl ?_; refine st_ec 0 HB rfl _ _ rfl rfl rfl ?_; clear HB; intro W HB; dsimp only [List.set] at HB; go_simp))) | go_values | go_skip | go_guarded | go_step | go_upon)
  refine (hasSheet_any 4).mono ?_; rintro e W1 ⟨rfl, rfl⟩; dsimp only
  repeat' (first | ((with_reducible show Oper.wp _ _ _ _ _ _); with_reducible refine is_ld 82 _ rfl ?_; refine ld_cu 2 HB rfl _ rfl rfl ?_; go_simp) | go_values | go_skip | go_guarded | go_step | go_upon)
  refine (HS.out _ (HH.out.1.belowMono HB.out.bel HH.out.2) (Nat.le_trans HH.out.2 HB.out.bel.size)).mono ?_; rintro e W1 ⟨rfl, hb⟩; have HB := Lib.hid (HB.out.call hb); clear hb; dsimp only
  repeat' (first | ((with_reducible show Oper.wp _ _ _ _ _ _); with_reducible refine stop_st _ _ rfl ?_) | go_values | go_skip | go_guarded | go_step | go_upon)
  refine Lib.hid ?_; refine sf_int 0 HB rfl _ _ rfl rfl rfl rfl (ds := ec ({ zp with kind := 4, sheet := sv }) (.slice none 0 0)) rfl ?_; clear HB; intro W HB; dsimp only [List.set] at HB; go_simp
  repeat' (first | ((with_reducible show Oper.wp _ _ _ _ _ _); (first | (with_reducible refine is_ld 82 _ rfl ?_; refine ld_cu 2 HB rfl _ rfl rfl ?_; go_simp) | (with_reducible refine is_st 82 _ _ rfl ?_; refine st_cu 2 HB rfl _ _ rfl rfl rfl ?_; clear HB; intro W HB; dsimp only [List.set] at HB; go_simp))) | go_values | go_skip | go_guarded | go_step | go_upon)
  refine (H1.out _ (HH.out.1.belowMono HB.out.bel HH.out.2) (Nat.le_trans HH.out.2 HB.out.bel.size)).mono ?_; rintro e W1 ⟨rfl, hb⟩; have HB := Lib.hid (HB.out.call hb); clear hb; dsimp only
  repeat' (first | ((with_reducible show Oper.wp _ _ _ _ _ _); with_reducible refine stop_st _ _ rfl ?_) | go_values | go_skip | go_guarded | go_step | go_upon)
  refine Lib.hid ?_; refine ss_g (i := 0) (vs := rc r1 c1 x1 y1) (off := 7) rtRef rc_one HB rfl (Nat.le_of_ble_eq_true rfl) _ _ rfl rfl rfl (ds := ec ({ zp with kind := 4, sheet := sv, r1 := r1, c1 := c1, x1 := x1, y1 := y1 }) (.slice none 0 0)) rfl ?_; clear HB; intro W HB; dsimp only [List.set] at HB; go_simp
  repeat' (first | ((with_reducible show Oper.wp _ _ _ _ _ _); with_reducible refine is_st 82 _ _ rfl ?_; refine st_cu 2 HB rfl _ _ rfl rfl rfl ?_; clear HB; intro W HB; dsimp only [List.set] at HB; go_simp) | go_values | go_skip | go_guarded | go_step | go_upon)
  refine (hasArea_any 4).mono ?_; rintro e W1 ⟨rfl, rfl⟩; dsimp only
  repeat' (first | ((with_reducible show Oper.wp _ _ _ _ _ _); (first | (with_reducible refine is_ld 47 _ rfl ?_; refine ld_ec 0 HB rfl _ rfl rfl ?_; go_simp) | with_reducible refine stop_bd rfl ?_)) | go_values | go_skip | go_guarded | go_step | go_upon)
  refine Lib.hid ?_; refine wp_b (v := .agg (tc ({ zp with kind := 4, sheet := sv, r1 := r1, c1 := c1, x1 := x1, y1 := y1 }) (.slice none 0 0) (0 : Nat)).toArray) (by kernel_rfl) ?_; go_simp
  repeat' (first | ((with_reducible show Oper.wp _ _ _ _ _ _); with_reducible refine is_st 144 _ _ rfl ?_; refine st_tc 1 HB rfl _ _ rfl rfl rfl ?_; clear HB; intro W HB; dsimp only [List.set] at HB; go_simp) | go_values | go_skip | go_guarded | go_step | go_upon)
  exact bodyPost_ret (res_tn rfl 1 HB rfl rfl rfl) rfl ⟨rfl, HB.out.bel⟩
set_option maxRecDepth 20000 in
set_option maxHeartbeats 4000000 in
theorem place_4_1 (HH : Hid (Rd w B 1 A n (l.map bv) ∧ B ≤ w.heap.size)) {sv r1 c1 r2 c2 : Int} {x1 y1 x2 y2 : Bool} (HS : Hid (U8C A n c B l m i sv)) (H1 : Hid (RfC A n c B l i j (rc 0 0 false false) 2)) :
    Calls Tryz.prog 124 #[.int .i64 4, .agg #[.slice A n c, .int .i64 m]] w fun e W => e = .returned (.tuple #[.agg (tc ({ zp with kind := 4, sheet := sv }) (.slice none 0 0) (0 : Nat)).toArray, .int .i64 2]) ∧ Below w.heap.size w W := by
  have HB : Hid (BX w [] w) := Lib.hid (BX.start w); go_enter Tryz.func124, Tryz.ntmps124
  repeat' (first | ((with_reducible show Oper.wp _ _ _ _ _ _); with_reducible refine stop_bx _ rfl ?_) | go_values | go_skip | go_guarded | go_step | go_upon)
  refine Lib.hid ?_; refine al_g HB 82 (cu A n c m) (by kernel_rfl) ?_; clear HB
  (first | (have _t : Nat := g10; clear _t; intro g11 W HB) | (have _t : Nat := g9; clear _t; intro g10 W HB) | (have _t : Nat := g8; clear _t; intro g9 W HB) | (have _t : Nat := g7; clear _t; intro g8 W HB) | (have _t : Nat := g6; clear _t; intro g7 W HB) | (have _t : Nat := g5; clear _t; intro g6 W HB) | (have _t : Nat := g4; clear _t; intro g5 W HB) | (have _t : Nat := g3; clear _t; intro g4 W HB) | (have _t : Nat := g2; clear _t; intro g3 W HB) | (have _t : Nat := g1; clear _t; intro g2 W HB) | (have _t : Nat := g0; clear _t; intro g1 W HB) | intro g0 W HB)
  go_simp
  repeat' (first | ((with_reducible show Oper.wp _ _ _ _ _ _); (first | (with_reducible refine is_al 144 rfl ?_; refine al_g HB 144 (tc zp (.slice none 0 0) 0) (by kernel_rfl) ?_; clear HB; intro g1 W HB; go_simp) | with_reducible refine stop_bd rfl ?_)) | go_values | go_skip | go_guarded | go_step | go_upon)
  refine Lib.hid ?_; refine wp_b (v := .agg (ec ({ zp with kind := 4 }) (.slice none 0 0)).toArray) (by kernel_rfl) ?_; go_simp
  repeat' (first | ((with_reducible show Oper.wp _ _ _ _ _ _); (first | (with_reducible refine is_al 47 rfl ?_; refine al_g HB 47 (ec zp (.slice none 0 0)) (by kernel_rfl) ?_; clear HB; intro g2 W HB; go_simp) | (with_reducible refine is_st 47 _ _ rfl ?_; refine st_ec 0 HB rfl _ _ rfl rfl rfl ?_; clear HB; intro W HB; dsimp only [List.set] at HB; go_simp))) | go_values | go_skip | go_guarded | go_step | go_upon)
  refine (hasSheet_any 4).mono ?_; rintro e W1 ⟨rfl, rfl⟩; dsimp only
  repeat' (first | ((with_reducible show Oper.wp _ _ _ _ _ _); with_reducible refine is_ld 82 _ rfl ?_; refine ld_cu 2 HB rfl _ rfl rfl ?_; go_simp) | go_values | go_skip | go_guarded | go_step | go_upon)
  refine (HS.out _ (HH.out.1.belowMono HB.out.bel HH.out.2) (Nat.le_trans HH.out.2 HB.out.bel.size)).mono ?_; rintro e W1 ⟨rfl, hb⟩; have HB := Lib.hid (HB.out.call hb); clear hb; dsimp only
  repeat' (first | ((with_reducible show Oper.wp _ _ _ _ _ _); with_reducible refine stop_st _ _ rfl ?_) | go_values | go_skip | go_guarded | go_step | go_upon)
  refine Lib.hid ?_; refine sf_int 0 HB rfl _ _ rfl rfl rfl rfl (ds := ec ({ zp with kind := 4, sheet := sv }) (.slice none 0 0)) rfl ?_; clear HB; intro W HB; dsimp only [List.set] at HB; go_simp
  repeat' (first | ((with_reducible show Oper.wp _ _ _ _ _ _); (first | (with_reducible refine is_ld 82 _ rfl ?_; refine ld_cu 2 HB rfl _ rfl rfl ?_; go_simp) | (with_reducible refine is_st 82 _ _ rfl ?_; refine st_cu 2 HB rfl _ _ rfl rfl rfl ?_; clear HB; intro W HB; dsimp only [List.set] at HB; go_simp))) | go_values | go_skip | go_guarded | go_step | go_upon)
  refine (H1.out _ (HH.out.1.belowMono HB.out.bel HH.out.2) (Nat.le_trans HH.out.2 HB.out.bel.size)).mono ?_; rintro e W1 ⟨rfl, hb⟩; have HB := Lib.hid (HB.out.call hb); clear hb; dsimp only
  repeat' (first | ((with_reducible show Oper.wp _ _ _ _ _ _); with_reducible refine stop_st _ _ rfl ?_) | go_values | go_skip | go_guarded | go_step | go_upon)
  refine Lib.hid ?_; refine ss_g (i := 0) (vs := rc 0 0 false false) (off := 7) rtRef rc_one HB rfl (Nat.le_of_ble_eq_true rfl) _ _ rfl rfl rfl (ds := ec ({ zp with kind := 4, sheet := sv }) (.slice none 0 0)) rfl ?_; clear HB; intro W HB; dsimp only [List.set] at HB; go_simp
  repeat' (first | ((with_reducible show Oper.wp _ _ _ _ _ _); (first | (with_reducible refine is_ld 47 _ rfl ?_; refine ld_ec 0 HB rfl _ rfl rfl ?_; go_simp) | (with_reducible refine is_st 82 _ _ rfl ?_; refine st_cu 2 HB rfl _ _ rfl rfl rfl ?_; clear HB; intro W HB; dsimp only [List.set] at HB; go_simp) | with_reducible refine stop_bd rfl ?_)) | go_values | go_skip | go_guarded | go_step | go_upon)
  refine Lib.hid ?_; refine wp_b (v := .agg (tc ({ zp with kind := 4, sheet := sv }) (.slice none 0 0) (0 : Nat)).toArray) (by kernel_rfl) ?_; go_simp
  repeat' (first | ((with_reducible show Oper.wp _ _ _ _ _ _); with_reducible refine is_st 144 _ _ rfl ?_; refine st_tc 1 HB rfl _ _ rfl rfl rfl ?_; clear HB; intro W HB; dsimp only [List.set] at HB; go_simp) | go_values | go_skip | go_guarded | go_step | go_upon)
  exact bodyPost_ret (res_tn rfl 1 HB rfl rfl rfl) rfl ⟨rfl, HB.out.bel⟩
set_option maxRecDepth 20000 in
set_option maxHeartbeats 4000000 in
theorem place_5_0 (HH : Hid (Rd w B 1 A n (l.map bv) ∧ B ≤ w.heap.size)) {sv r1 c1 r2 c2 : Int} {x1 y1 x2 y2 : Bool} (HS : Hid (U8C A n c B l m i sv)) (H1 : Hid (RfC A n c B l i j (rc r1 c1 x1 y1) 0)) (H2 : Hid (RfC A n c B l j j' (rc r2 c2 x2 y2) 0)) :
    Calls Tryz.prog 124 #[.int .i64 5, .agg #[.slice A n c, .int .i64 m]] w fun e W => e = .returned (.tuple #[.agg (tc ({ zp with kind := 5, sheet := sv, r1 := r1, c1 := c1, x1 := x1, y1 := y1, r2 := r2, c2 := c2, x2 := x2, y2 := y2 }) (.slice none 0 0) (0 : Nat)).toArray, .int .i64 0]) ∧ Below w.heap.size w W := by
  have HB : Hid (BX w [] w) := Lib.hid (BX.start w); go_enter Tryz.func124, Tryz.ntmps124
  repeat' (first | ((with_reducible show Oper.wp _ _ _ _ _ _); with_reducible refine stop_bx _ rfl ?_) | go_values | go_skip | go_guarded | go_step | go_upon)
  refine Lib.hid ?_; refine al_g HB 82 (cu A n c m) (by kernel_rfl) ?_; clear HB
  (first | (have _t : Nat := g10; clear _t; intro g11 W HB) | (have _t : Nat := g9; clear _t; intro g10 W HB) | (have _t : Nat := g8; clear _t; intro g9 W HB) | (have _t : Nat := g7; clear _t; intro g8 W HB) | (have _t : Nat := g6; clear _t; intro g7 W HB) | (have _t : Nat := g5; clear _t; intro g6 W HB) | (have _t : Nat := g4; clear _t; intro g5 W HB) | (have _t : Nat := g3; clear _t; intro g4 W HB) | (have _t : Nat := g2; clear _t; intro g3 W HB) | (have _t : Nat := g1; clear _t; intro g2 W HB) | (have _t : Nat := g0; clear _t; intro g1 W HB) | intro g0 W HB)
  go_simp
  repeat' (first | ((with_reducible show Oper.wp _ _ _ _ _ _); (first | (with_reducible refine is_al 144 rfl ?_; refine al_g HB 144 (tc zp (.slice none 0 0) 0) (by kernel_rfl) ?_; clear HB; intro g1 W HB; go_simp) | with_reducible refine stop_bd rfl ?_)) | go_values | go_skip | go_guarded | go_step | go_upon)
  refine Lib.hid ?_; refine wp_b (v := .agg (ec ({ zp with kind := 5 }) (.slice none 0 0)).toArray) (by kernel_rfl) ?_; go_simp
  repeat' (first | ((with_reducible show Oper.wp _ _ _ _ _ _); (first | (with_reducible refine is_al 47 rfl ?_; refine al_g HB 47 (ec zp (.slice none 0 0)) (by kernel_rfl) ?_; clear HB; intro g2 W HB; go_simp) | (with_reducible refine is_st 47 _ _ rfl ?_; refine st_ec 0 HB rfl _ _ rfl rfl rfl ?_; clear HB; intro W HB; dsimp only [List.set] at HB; go_simp))) | go_values | go_skip | go_guarded | go_step | go_upon)
  refine (hasSheet_any 5).mono ?_; rintro e W1 ⟨rfl, rfl⟩; dsimp only
  repeat' (first | ((with_reducible show Oper.wp _ _ _ _ _ _); with_reducible refine is_ld 82 _ rfl ?_; refine ld_cu 2 HB rfl _ rfl rfl ?_; go_simp) | go_values | go_skip | go_guarded | go_step | go_upon)
  refine (HS.out _ (HH.out.1.belowMono HB.out.bel HH.out.2) (Nat.le_trans HH.out.2 HB.out.bel.size)).mono ?_; rintro e W1 ⟨rfl, hb⟩; have HB := Lib.hid (HB.out.call hb); clear hb; dsimp only
  repeat' (first | ((with_reducible show Oper.wp _ _ _ _ _ _); with_reducible refine stop_st _ _ rfl ?_) | go_values | go_skip | go_guarded | go_step | go_upon)
  refine Lib.hid ?_; refine sf_int 0 HB rfl _ _ rfl rfl rfl rfl (ds := ec ({ zp with kind := 5, sheet := sv }) (.slice none 0 0)) rfl ?_; clear HB; intro W HB; dsimp only [List.set] at HB; go_simp
  repeat' (first | ((with_reducible show Oper.wp _ _ _ _ _ _); (first | (with_reducible refine is_ld 82 _ rfl ?_; refine ld_cu 2 HB rfl _ rfl rfl ?_; go_simp) | (with_reducible refine is_st 82 _ _ rfl ?_; refine st_cu 2 HB rfl _ _ rfl rfl rfl ?_; clear HB; intro W HB; dsimp only [List.set] at HB; go_simp))) | go_values | go_skip | go_guarded | go_step | go_upon)
  refine (H1.out _ (HH.out.1.belowMono HB.out.bel HH.out.2) (Nat.le_trans HH.out.2 HB.out.bel.size)).mono ?_; rintro e W1 ⟨rfl, hb⟩; have HB := Lib.hid (HB.out.call hb); clear hb; dsimp only
  repeat' (first | ((with_reducible show Oper.wp _ _ _ _ _ _); with_reducible refine stop_st _ _ rfl ?_) | go_values | go_skip | go_guarded | go_step | go_upon)
  refine Lib.hid ?_; refine ss_g (i := 0) (vs := rc r1 c1 x1 y1) (off := 7) rtRef rc_one HB rfl (Nat.le_of_ble_eq_true rfl) _ _ rfl rfl rfl (ds := ec ({ zp with kind := 5, sheet := sv, r1 := r1, c1 := c1, x1 := x1, y1 := y1 }) (.slice none 0 0)) rfl ?_; clear HB; intro W HB; dsimp only [List.set] at HB; go_simp
  repeat' (first | ((with_reducible show Oper.wp _ _ _ _ _ _); with_reducible refine is_st 82 _ _ rfl ?_; refine st_cu 2 HB rfl _ _ rfl rfl rfl ?_; clear HB; intro W HB; dsimp only [List.set] at HB; go_simp) | go_values | go_skip | go_guarded | go_step | go_upon)
  refine (hasArea_any 5).mono ?_; rintro e W1 ⟨rfl, rfl⟩; dsimp only
  repeat' (first | ((with_reducible show Oper.wp _ _ _ _ _ _); with_reducible refine is_ld 82 _ rfl ?_; refine ld_cu 2 HB rfl _ rfl rfl ?_; go_simp) | go_values | go_skip | go_guarded | go_step | go_upon)
  refine (H2.out _ (HH.out.1.belowMono HB.out.bel HH.out.2) (Nat.le_trans HH.out.2 HB.out.bel.size)).mono ?_; rintro e W1 ⟨rfl, hb⟩; have HB := Lib.hid (HB.out.call hb); clear hb; dsimp only
  repeat' (first | ((with_reducible show Oper.wp _ _ _ _ _ _); with_reducible refine stop_st _ _ rfl ?_) | go_values | go_skip | go_guarded | go_step | go_upon)
  refine Lib.hid ?_; refine ss_g (i := 0) (vs := rc r2 c2 x2 y2) (off := 11) rtRef rc_one HB rfl (Nat.le_of_ble_eq_true rfl) _ _ rfl rfl rfl (ds := ec ({ zp with kind := 5, sheet := sv, r1 := r1, c1 := c1, x1 := x1, y1 := y1, r2 := r2, c2 := c2, x2 := x2, y2 := y2 }) (.slice none 0 0)) rfl ?_; clear HB; intro W HB; dsimp only [List.set] at HB; go_simp
  repeat' (first | ((with_reducible show Oper.wp _ _ _ _ _ _); (first | (with_reducible refine is_ld 47 _ rfl ?_; refine ld_ec 0 HB rfl _ rfl rfl ?_; go_simp) | with_reducible refine stop_bd rfl ?_)) | go_values | go_skip | go_guarded | go_step | go_upon)
  refine Lib.hid ?_; refine wp_b (v := .agg (tc ({ zp with kind := 5, sheet := sv, r1 := r1, c1 := c1, x1 := x1, y1 := y1, r2 := r2, c2 := c2, x2 := x2, y2 := y2 }) (.slice none 0 0) (0 : Nat)).toArray) (by kernel_rfl) ?_; go_simp
  repeat' (first | ((with_reducible show Oper.wp _ _ _ _ _ _); with_reducible refine is_st 144 _ _ rfl ?_; refine st_tc 1 HB rfl _ _ rfl rfl rfl ?_; clear HB; intro W HB; dsimp only [List.set] at HB; go_simp) | go_values | go_skip | go_guarded | go_step | go_upon)
  exact bodyPost_ret (res_tn rfl 1 HB rfl rfl rfl) rfl ⟨rfl, HB.out.bel⟩
set_option maxRecDepth 20000 in
set_option maxHeartbeats 4000000 in
theorem place_5_1 (HH : Hid (Rd w B 1 A n (l.map bv) ∧ B ≤ w.heap.size)) {sv r1 c1 r2 c2 : Int} {x1 y1 x2 y2 : Bool} (HS : Hid (U8C A n c B l m i sv)) (H1 : Hid (RfC A n c B l i j (rc 0 0 false false) 2)) :
    Calls Tryz.prog 124 #[.int .i64 5, .agg #[.slice A n c, .int .i64 m]] w fun e W => e = .returned (.tuple #[.agg (tc ({ zp with kind := 5, sheet := sv }) (.slice none 0 0) (0 : Nat)).toArray, .int .i64 2]) ∧ Below w.heap.size w W := by
  have HB : Hid (BX w [] w) := Lib.hid (BX.start w); go_enter Tryz.func124, Tryz.ntmps124
  repeat' (first | ((with_reducible show Oper.wp _ _ _ _ _ _); with_reducible refine stop_bx _ rfl ?_) | go_values | go_skip | go_guarded | go_step | go_upon)
  refine Lib.hid ?_; refine al_g HB 82 (cu A n c m) (by kernel_rfl) ?_; clear HB
  (first | (have _t : Nat := g10; clear _t; intro g11 W HB) | (have _t : Nat := g9; clear _t; intro g10 W HB) | (have _t : Nat := g8; clear _t; intro g9 W HB) | (have _t : Nat := g7; clear _t; intro g8 W HB) | (have _t : Nat := g6; clear _t; intro g7 W HB) | (have _t : Nat := g5; clear _t; intro g6 W HB) | (have _t : Nat := g4; clear _t; intro g5 W HB) | (have _t : Nat := g3; clear _t; intro g4 W HB) | (have _t : Nat := g2; clear _t; intro g3 W HB) | (have _t : Nat := g1; clear _t; intro g2 W HB) | (have _t : Nat := g0; clear _t; intro g1 W HB) | intro g0 W HB)
  go_simp
  repeat' (first | ((with_reducible show Oper.wp _ _ _ _ _ _); (first | (with_reducible refine is_al 144 rfl ?_; refine al_g HB 144 (tc zp (.slice none 0 0) 0) (by kernel_rfl) ?_; clear HB; intro g1 W HB; go_simp) | with_reducible refine stop_bd rfl ?_)) | go_values | go_skip | go_guarded | go_step | go_upon)
  refine Lib.hid ?_; refine wp_b (v := .agg (ec ({ zp with kind := 5 }) (.slice none 0 0)).toArray) (by kernel_rfl) ?_; go_simp
  repeat' (first | ((with_reducible show Oper.wp _ _ _ _ _ _); (first | (with_reducible refine is_al 47 rfl ?_; refine al_g HB 47 (ec zp (.slice none 0 0)) (by kernel_rfl) ?_; clear HB; intro g2 W HB; go_simp) | (with_reducible refine is_st 47 _ _ rfl ?_; refine st_ec 0 HB rfl _ _ rfl rfl rfl ?_; clear HB; intro W HB; dsimp only [List.set] at HB; go_simp))) | go_values | go_skip | go_guarded | go_step | go_upon)
  refine (hasSheet_any 5).mono ?_; rintro e W1 ⟨rfl, rfl⟩; dsimp only
  repeat' (first | ((with_reducible show Oper.wp _ _ _ _ _ _); with_reducible refine is_ld 82 _ rfl ?_; refine ld_cu 2 HB rfl _ rfl rfl ?_; go_simp) | go_values | go_skip | go_guarded | go_step | go_upon)
  refine (HS.out _ (HH.out.1.belowMono HB.out.bel HH.out.2) (Nat.le_trans HH.out.2 HB.out.bel.size)).mono ?_; rintro e W1 ⟨rfl, hb⟩; have HB := Lib.hid (HB.out.call hb); clear hb; dsimp only
  repeat' (first | ((with_reducible show Oper.wp _ _ _ _ _ _); with_reducible refine stop_st _ _ rfl ?_) | go_values | go_skip | go_guarded | go_step | go_upon)
  refine Lib.hid ?_; refine sf_int 0 HB rfl _ _ rfl rfl rfl rfl (ds := ec ({ zp with kind := 5, sheet := sv }) (.slice none 0 0)) rfl ?_; clear HB; intro W HB; dsimp only [List.set] at HB; go_simp
  repeat' (first | ((with_reducible show Oper.wp _ _ _ _ _ _); (first | (with_reducible refine is_ld 82 _ rfl ?_; refine ld_cu 2 HB rfl _ rfl rfl ?_; go_simp) | (with_reducible refine is_st 82 _ _ rfl ?_; refine st_cu 2 HB rfl _ _ rfl rfl rfl ?_; clear HB; intro W HB; dsimp only [List.set] at HB; go_simp))) | go_values | go_skip | go_guarded | go_step | go_upon)
  refine (H1.out _ (HH.out.1.belowMono HB.out.bel HH.out.2) (Nat.le_trans HH.out.2 HB.out.bel.size)).mono ?_; rintro e W1 ⟨rfl, hb⟩; have HB := Lib.hid (HB.out.call hb); clear hb; dsimp only
  repeat' (first | ((with_reducible show Oper.wp _ _ _ _ _ _); with_reducible refine stop_st _ _ rfl ?_) | go_values | go_skip | go_guarded | go_step | go_upon)
  refine Lib.hid ?_; refine ss_g (i := 0) (vs := rc 0 0 false false) (off := 7) rtRef rc_one HB rfl (Nat.le_of_ble_eq_true rfl) _ _ rfl rfl rfl (ds := ec ({ zp with kind := 5, sheet := sv }) (.slice none 0 0)) rfl ?_; clear HB; intro W HB; dsimp only [List.set] at HB; go_simp
  repeat' (first | ((with_reducible show Oper.wp _ _ _ _ _ _); (first | (with_reducible refine is_ld 47 _ rfl ?_; refine ld_ec 0 HB rfl _ rfl rfl ?_; go_simp) | (with_reducible refine is_st 82 _ _ rfl ?_; refine st_cu 2 HB rfl _ _ rfl rfl rfl ?_; clear HB; intro W HB; dsimp only [List.set] at HB; go_simp) | with_reducible refine stop_bd rfl ?_)) | go_values | go_skip | go_guarded | go_step | go_upon)
  refine Lib.hid ?_; refine wp_b (v := .agg (tc ({ zp with kind := 5, sheet := sv }) (.slice none 0 0) (0 : Nat)).toArray) (by kernel_rfl) ?_; go_simp
  repeat' (first | ((with_reducible show Oper.wp _ _ _ _ _ _); with_reducible refine is_st 144 _ _ rfl ?_; refine st_tc 1 HB rfl _ _ rfl rfl rfl ?_; clear HB; intro W HB; dsimp only [List.set] at HB; go_simp) | go_values | go_skip | go_guarded | go_step | go_upon)
  exact bodyPost_ret (res_tn rfl 1 HB rfl rfl rfl) rfl ⟨rfl, HB.out.bel⟩
set_option maxRecDepth 20000 in
set_option maxHeartbeats 4000000 in
theorem place_5_2 (HH : Hid (Rd w B 1 A n (l.map bv) ∧ B ≤ w.heap.size)) {sv r1 c1 r2 c2 : Int} {x1 y1 x2 y2 : Bool} (HS : Hid (U8C A n c B l m i sv)) (H1 : Hid (RfC A n c B l i j (rc r1 c1 x1 y1) 0)) (H2 : Hid (RfC A n c B l j j' (rc 0 0 false false) 2)) :
    Calls Tryz.prog 124 #[.int .i64 5, .agg #[.slice A n c, .int .i64 m]] w fun e W => e = .returned (.tuple #[.agg (tc ({ zp with kind := 5, sheet := sv, r1 := r1, c1 := c1, x1 := x1, y1 := y1 }) (.slice none 0 0) (0 : Nat)).toArray, .int .i64 2]) ∧ Below w.heap.size w W := by
  have HB : Hid (BX w [] w) := Lib.hid (BX.start w); go_enter Tryz.func124, Tryz.ntmps124
  repeat' (first | ((with_reducible show Oper.wp _ _ _ _ _ _); with_reducible refine stop_bx _ rfl ?_) | go_values | go_skip | go_guarded | go_step | go_upon)
  refine Lib.hid ?_; refine al_g HB 82 (cu A n c m) (by kernel_rfl) ?_; clear HB
  (first | (have _t : Nat := g10; clear _t; intro g11 W HB) | (have _t : Nat := g9; clear _t; intro g10 W HB) | (have _t : Nat := g8; clear _t; intro g9 W HB) | (have _t : Nat := g7; clear _t; intro g8 W HB) | (have _t : Nat := g6; clear _t; intro g7 W HB) | (have _t : Nat := g5; clear _t; intro g6 W HB) | (have _t : Nat := g4; clear _t; intro g5 W HB) | (have _t : Nat := g3; clear _t; intro g4 W HB) | (have _t : Nat := g2; clear _t; intro g3 W HB) | (have _t : Nat := g1; clear _t; intro g2 W HB) | (have _t : Nat := g0; clear _t; intro g1 W HB) | intro g0 W HB)
  go_simp
  repeat' (first | ((with_reducible show Oper.wp _ _ _ _ _ _); (first | (with_reducible refine is_al 144 rfl ?_; refine al_g HB 144 (tc zp (.slice none 0 0) 0) (by kernel_rfl) ?_; clear HB; intro g1 W HB; go_simp) | with_reducible refine stop_bd rfl ?_)) | go_values | go_skip | go_guarded | go_step | go_upon)
  refine Lib.hid ?_; refine wp_b (v := .agg (ec ({ zp with kind := 5 }) (.slice none 0 0)).toArray) (by kernel_rfl) ?_; go_simp
  repeat' (first | ((with_reducible show Oper.wp _ _ _ _ _ _); (first | (with_reducible refine is_al 47 rfl ?_; refine al_g HB 47 (ec zp (.slice none 0 0)) (by kernel_rfl) ?_; clear HB; intro g2 W HB; go_simp) | (with_reducible refine is_st 47 _ _ rfl ?_; refine st_ec 0 HB rfl _ _ rfl rfl rfl ?_; clear HB; intro W HB; dsimp only [List.set] at HB; go_simp))) | go_values | go_skip | go_guarded | go_step | go_upon)
  refine (hasSheet_any 5).mono ?_; rintro e W1 ⟨rfl, rfl⟩; dsimp only
  repeat' (first | ((with_reducible show Oper.wp _ _ _ _ _ _); with_reducible refine is_ld 82 _ rfl ?_; refine ld_cu 2 HB rfl _ rfl rfl ?_; go_simp) | go_values | go_skip | go_guarded | go_step | go_upon)
  refine (HS.out _ (HH.out.1.belowMono HB.out.bel HH.out.2) (Nat.le_trans HH.out.2 HB.out.bel.size)).mono ?_; rintro e W1 ⟨rfl, hb⟩; have HB := Lib.hid (HB.out.call hb); clear hb; dsimp only
  repeat' (first | ((with_reducible show Oper.wp _ _ _ _ _ _); with_reducible refine stop_st _ _ rfl ?_) | go_values | go_skip | go_guarded | go_step | go_upon)
  refine Lib.hid ?_; refine sf_int 0 HB rfl _ _ rfl rfl rfl rfl (ds := ec ({ zp with kind := 5, sheet := sv }) (.slice none 0 0)) rfl ?_; clear HB; intro W HB; dsimp only [List.set] at HB; go_simp
  repeat' (first | ((with_reducible show Oper.wp _ _ _ _ _ _); (first | (with_reducible refine is_ld 82 _ rfl ?_; refine ld_cu 2 HB rfl _ rfl rfl ?_; go_simp) | (with_reducible refine is_st 82 _ _ rfl ?_; refine st_cu 2 HB rfl _ _ rfl rfl rfl ?_; clear HB; intro W HB; dsimp only [List.set] at HB; go_simp))) | go_values | go_skip | go_guarded | go_step | go_upon)
  refine (H1.out _ (HH.out.1.belowMono HB.out.bel HH.out.2) (Nat.le_trans HH.out.2 HB.out.bel.size)).mono ?_; rintro e W1 ⟨rfl, hb⟩; have HB := Lib.hid (HB.out.call hb); clear hb; dsimp only
  repeat' (first | ((with_reducible show Oper.wp _ _ _ _ _ _); with_reducible refine stop_st _ _ rfl ?_) | go_values | go_skip | go_guarded | go_step | go_upon)
  refine Lib.hid ?_; refine ss_g (i := 0) (vs := rc r1 c1 x1 y1) (off := 7) rtRef rc_one HB rfl (Nat.le_of_ble_eq_true rfl) _ _ rfl rfl rfl (ds := ec ({ zp with kind := 5, sheet := sv, r1 := r1, c1 := c1, x1 := x1, y1 := y1 }) (.slice none 0 0)) rfl ?_; clear HB; intro W HB; dsimp only [List.set] at HB; go_simp
  repeat' (first | ((with_reducible show Oper.wp _ _ _ _ _ _); with_reducible refine is_st 82 _ _ rfl ?_; refine st_cu 2 HB rfl _ _ rfl rfl rfl ?_; clear HB; intro W HB; dsimp only [List.set] at HB; go_simp) | go_values | go_skip | go_guarded | go_step | go_upon)
  refine (hasArea_any 5).mono ?_; rintro e W1 ⟨rfl, rfl⟩; dsimp only
  repeat' (first | ((with_reducible show Oper.wp _ _ _ _ _ _); with_reducible refine is_ld 82 _ rfl ?_; refine ld_cu 2 HB rfl _ rfl rfl ?_; go_simp) | go_values | go_skip | go_guarded | go_step | go_upon)
  refine (H2.out _ (HH.out.1.belowMono HB.out.bel HH.out.2) (Nat.le_trans HH.out.2 HB.out.bel.size)).mono ?_; rintro e W1 ⟨rfl, hb⟩; have HB := Lib.hid (HB.out.call hb); clear hb; dsimp only
  repeat' (first | ((with_reducible show Oper.wp _ _ _ _ _ _); with_reducible refine stop_st _ _ rfl ?_) | go_values | go_skip | go_guarded | go_step | go_upon)
  refine Lib.hid ?_; refine ss_g (i := 0) (vs := rc 0 0 false false) (off := 11) rtRef rc_one HB rfl (Nat.le_of_ble_eq_true rfl) _ _ rfl rfl rfl (ds := ec ({ zp with kind := 5, sheet := sv, r1 := r1, c1 := c1, x1 := x1, y1 := y1 }) (.slice none 0 0)) rfl ?_; clear HB; intro W HB; dsimp only [List.set] at HB; go_simp
  repeat' (first | ((with_reducible show Oper.wp _ _ _ _ _ _); (first | (with_reducible refine is_ld 47 _ rfl ?_; refine ld_ec 0 HB rfl _ rfl rfl ?_; go_simp) | with_reducible refine stop_bd rfl ?_)) | go_values | go_skip | go_guarded | go_step | go_upon)
  refine Lib.hid ?_; refine wp_b (v := .agg (tc ({ zp with kind := 5, sheet := sv, r1 := r1, c1 := c1, x1 := x1, y1 := y1 }) (.slice none 0 0) (0 : Nat)).toArray) (by kernel_rfl) ?_; go_simp
  repeat' (first | ((with_reducible show Oper.wp _ _ _ _ _ _); with_reducible refine is_st 144 _ _ rfl ?_; refine st_tc 1 HB rfl _ _ rfl rfl rfl ?_; clear HB; intro W HB; dsimp only [List.set] at HB; go_simp) | go_values | go_skip | go_guarded | go_step | go_upon)
  exact bodyPost_ret (res_tn rfl 1 HB rfl rfl rfl) rfl ⟨rfl, HB.out.bel⟩
end
end Go.Proofs.YtlaiocdnddnnaaaGreatDoor
