/- fun.Apply by its contract, by what it calls. Condition: what it calls keeps its contract. -/
import Derived.Test.YtngkolcpbgibcaaGreatDoorH5
import Derived.Test.YtngkolcpbgibcaaGreatDoorPhI
set_option linter.unusedVariables false
set_option linter.unusedSimpArgs false
namespace Go.Proofs.YtngkolcpbgibcaaGreatDoor
open Go.RowKit
set_option maxRecDepth 20000 in
set_option maxHeartbeats 8000000 in
theorem apply_no {w : World} {op : Int} {A : Option Addr} {n c : Nat} (HTk : ∀ W, Below w.heap.size w W → Calls Tryz.prog 40 #[.int .i64 op, .slice A n c] W fun e W' => e = .returned (.bool false) ∧ Below W.heap.size W W') :
    Calls Tryz.prog 14 #[.int .i64 op, .slice A n c] w fun e W => e = .returned (.agg (vc (.err 15)).toArray) ∧ Below w.heap.size w W := by
  have HT := Lib.hid HTk; have HB := Lib.hid (BX.start w); clear HTk; go_enter Tryz.func14, Tryz.ntmps14
  repeat' (first | ((with_reducible show Oper.wp _ _ _ _ _ _); refine al_v HB rfl ?_; clear HB; intro g0 W HB; go_simp) | go_values | go_skip | go_guarded | go_step | go_upon)
  refine (HT.out _ HB.out.bel).mono ?_; rintro e W1 ⟨rfl, hb⟩; have HB := Lib.hid (HB.out.call hb); clear hb; dsimp only
  repeat' (first | go_values | go_skip | go_guarded | go_step | go_upon)
  refine (fFault 15).mono ?_; rintro e W1 ⟨rfl, hb⟩; have HB := Lib.hid (HB.out.call hb); clear hb; dsimp only
  repeat' (first | ((with_reducible show Oper.wp _ _ _ _ _ _); refine st_v 0 HB rfl _ _ rfl rfl rfl ?_; clear HB; intro W HB; dsimp only [List.set] at HB; go_simp) | go_values | go_skip | go_guarded | go_step | go_upon)
  exact bodyPost_ret (res_v rfl HB (i := 0) rfl rfl) rfl ⟨rfl, HB.out.bel⟩
set_option maxRecDepth 20000 in
set_option maxHeartbeats 8000000 in
theorem apply_0 {w : World} {A : Option Addr} {n c : Nat} {r : VX} (HTk : ∀ W, Below w.heap.size w W → Calls Tryz.prog 40 #[.int .i64 0, .slice A n c] W fun e W' => e = .returned (.bool true) ∧ Below W.heap.size W W')
    (HC : ∀ W, Below w.heap.size w W → Calls Tryz.prog 41 #[.int .i64 0, .slice A n c] W fun e W' => e = .returned (.agg (vc r).toArray) ∧ Below W.heap.size W W') :
    Calls Tryz.prog 14 #[.int .i64 0, .slice A n c] w fun e W => e = .returned (.agg (vc r).toArray) ∧ Below w.heap.size w W := by
  have HT := Lib.hid HTk; have HC := Lib.hid HC; have HB := Lib.hid (BX.start w); clear HTk; go_enter Tryz.func14, Tryz.ntmps14
  repeat' (first | ((with_reducible show Oper.wp _ _ _ _ _ _); refine al_v HB rfl ?_; clear HB; intro g0 W HB; go_simp) | go_values | go_skip | go_guarded | go_step | go_upon)
  refine (HT.out _ HB.out.bel).mono ?_; rintro e W1 ⟨rfl, hb⟩; have HB := Lib.hid (HB.out.call hb); clear hb; dsimp only
  repeat' (first | go_values | go_skip | go_guarded | go_step | go_upon)
  refine (HC.out _ HB.out.bel).mono ?_; rintro e W1 ⟨rfl, hb⟩; have HB := Lib.hid (HB.out.call hb); clear hb; dsimp only
  repeat' (first | ((with_reducible show Oper.wp _ _ _ _ _ _); refine st_v 0 HB rfl _ _ rfl rfl rfl ?_; clear HB; intro W HB; dsimp only [List.set] at HB; go_simp) | go_values | go_skip | go_guarded | go_step | go_upon)
  exact bodyPost_ret (res_v rfl HB (i := 0) rfl rfl) rfl ⟨rfl, HB.out.bel⟩
set_option maxRecDepth 20000 in
set_option maxHeartbeats 8000000 in
theorem apply_4 {w : World} {A : Option Addr} {n c : Nat} {r : VX} (HTk : ∀ W, Below w.heap.size w W → Calls Tryz.prog 40 #[.int .i64 4, .slice A n c] W fun e W' => e = .returned (.bool true) ∧ Below W.heap.size W W')
    (HC : ∀ W, Below w.heap.size w W → Calls Tryz.prog 41 #[.int .i64 4, .slice A n c] W fun e W' => e = .returned (.agg (vc r).toArray) ∧ Below W.heap.size W W') :
    Calls Tryz.prog 14 #[.int .i64 4, .slice A n c] w fun e W => e = .returned (.agg (vc r).toArray) ∧ Below w.heap.size w W := by
  have HT := Lib.hid HTk; have HC := Lib.hid HC; have HB := Lib.hid (BX.start w); clear HTk; go_enter Tryz.func14, Tryz.ntmps14
  repeat' (first | ((with_reducible show Oper.wp _ _ _ _ _ _); refine al_v HB rfl ?_; clear HB; intro g0 W HB; go_simp) | go_values | go_skip | go_guarded | go_step | go_upon)
  refine (HT.out _ HB.out.bel).mono ?_; rintro e W1 ⟨rfl, hb⟩; have HB := Lib.hid (HB.out.call hb); clear hb; dsimp only
  repeat' (first | go_values | go_skip | go_guarded | go_step | go_upon)
  refine (HC.out _ HB.out.bel).mono ?_; rintro e W1 ⟨rfl, hb⟩; have HB := Lib.hid (HB.out.call hb); clear hb; dsimp only
  repeat' (first | ((with_reducible show Oper.wp _ _ _ _ _ _); refine st_v 0 HB rfl _ _ rfl rfl rfl ?_; clear HB; intro W HB; dsimp only [List.set] at HB; go_simp) | go_values | go_skip | go_guarded | go_step | go_upon)
  exact bodyPost_ret (res_v rfl HB (i := 0) rfl rfl) rfl ⟨rfl, HB.out.bel⟩
set_option maxRecDepth 20000 in
set_option maxHeartbeats 8000000 in
theorem apply_1 {w : World} {A : Option Addr} {n c : Nat} {r : VX} (HTk : ∀ W, Below w.heap.size w W → Calls Tryz.prog 40 #[.int .i64 1, .slice A n c] W fun e W' => e = .returned (.bool true) ∧ Below W.heap.size W W')
    (HC : ∀ W, Below w.heap.size w W → Calls Tryz.prog 42 #[.slice A n c, .int .i64 (-1)] W fun e W' => e = .returned (.agg (vc r).toArray) ∧ Below W.heap.size W W') :
    Calls Tryz.prog 14 #[.int .i64 1, .slice A n c] w fun e W => e = .returned (.agg (vc r).toArray) ∧ Below w.heap.size w W := by
  have HT := Lib.hid HTk; have HC := Lib.hid HC; have HB := Lib.hid (BX.start w); clear HTk; go_enter Tryz.func14, Tryz.ntmps14
  repeat' (first | ((with_reducible show Oper.wp _ _ _ _ _ _); refine al_v HB rfl ?_; clear HB; intro g0 W HB; go_simp) | go_values | go_skip | go_guarded | go_step | go_upon)
  refine (HT.out _ HB.out.bel).mono ?_; rintro e W1 ⟨rfl, hb⟩; have HB := Lib.hid (HB.out.call hb); clear hb; dsimp only
  repeat' (first | go_values | go_skip | go_guarded | go_step | go_upon)
  refine (HC.out _ HB.out.bel).mono ?_; rintro e W1 ⟨rfl, hb⟩; have HB := Lib.hid (HB.out.call hb); clear hb; dsimp only
  repeat' (first | ((with_reducible show Oper.wp _ _ _ _ _ _); refine st_v 0 HB rfl _ _ rfl rfl rfl ?_; clear HB; intro W HB; dsimp only [List.set] at HB; go_simp) | go_values | go_skip | go_guarded | go_step | go_upon)
  exact bodyPost_ret (res_v rfl HB (i := 0) rfl rfl) rfl ⟨rfl, HB.out.bel⟩
set_option maxRecDepth 20000 in
set_option maxHeartbeats 8000000 in
theorem apply_2 {w : World} {A : Option Addr} {n c : Nat} {r : VX} (HTk : ∀ W, Below w.heap.size w W → Calls Tryz.prog 40 #[.int .i64 2, .slice A n c] W fun e W' => e = .returned (.bool true) ∧ Below W.heap.size W W')
    (HC : ∀ W, Below w.heap.size w W → Calls Tryz.prog 42 #[.slice A n c, .int .i64 1] W fun e W' => e = .returned (.agg (vc r).toArray) ∧ Below W.heap.size W W') :
    Calls Tryz.prog 14 #[.int .i64 2, .slice A n c] w fun e W => e = .returned (.agg (vc r).toArray) ∧ Below w.heap.size w W := by
  have HT := Lib.hid HTk; have HC := Lib.hid HC; have HB := Lib.hid (BX.start w); clear HTk; go_enter Tryz.func14, Tryz.ntmps14
  repeat' (first | ((with_reducible show Oper.wp _ _ _ _ _ _); refine al_v HB rfl ?_; clear HB; intro g0 W HB; go_simp) | go_values | go_skip | go_guarded | go_step | go_upon)
  refine (HT.out _ HB.out.bel).mono ?_; rintro e W1 ⟨rfl, hb⟩; have HB := Lib.hid (HB.out.call hb); clear hb; dsimp only
  repeat' (first | go_values | go_skip | go_guarded | go_step | go_upon)
  refine (HC.out _ HB.out.bel).mono ?_; rintro e W1 ⟨rfl, hb⟩; have HB := Lib.hid (HB.out.call hb); clear hb; dsimp only
  repeat' (first | ((with_reducible show Oper.wp _ _ _ _ _ _); refine st_v 0 HB rfl _ _ rfl rfl rfl ?_; clear HB; intro W HB; dsimp only [List.set] at HB; go_simp) | go_values | go_skip | go_guarded | go_step | go_upon)
  exact bodyPost_ret (res_v rfl HB (i := 0) rfl rfl) rfl ⟨rfl, HB.out.bel⟩
set_option maxRecDepth 20000 in
set_option maxHeartbeats 8000000 in
theorem apply_3 {w : World} {A : Option Addr} {n c : Nat} {r : VX} (HTk : ∀ W, Below w.heap.size w W → Calls Tryz.prog 40 #[.int .i64 3, .slice A n c] W fun e W' => e = .returned (.bool true) ∧ Below W.heap.size W W')
    (HC : ∀ W, Below w.heap.size w W → Calls Tryz.prog 43 #[.slice A n c] W fun e W' => e = .returned (.agg (vc r).toArray) ∧ Below W.heap.size W W') :
    Calls Tryz.prog 14 #[.int .i64 3, .slice A n c] w fun e W => e = .returned (.agg (vc r).toArray) ∧ Below w.heap.size w W := by
  have HT := Lib.hid HTk; have HC := Lib.hid HC; have HB := Lib.hid (BX.start w); clear HTk; go_enter Tryz.func14, Tryz.ntmps14
  repeat' (first | ((with_reducible show Oper.wp _ _ _ _ _ _); refine al_v HB rfl ?_; clear HB; intro g0 W HB; go_simp) | go_values | go_skip | go_guarded | go_step | go_upon)
  refine (HT.out _ HB.out.bel).mono ?_; rintro e W1 ⟨rfl, hb⟩; have HB := Lib.hid (HB.out.call hb); clear hb; dsimp only
  repeat' (first | go_values | go_skip | go_guarded | go_step | go_upon)
  refine (HC.out _ HB.out.bel).mono ?_; rintro e W1 ⟨rfl, hb⟩; have HB := Lib.hid (HB.out.call hb); clear hb; dsimp only
  repeat' (first | ((with_reducible show Oper.wp _ _ _ _ _ _); refine st_v 0 HB rfl _ _ rfl rfl rfl ?_; clear HB; intro W HB; dsimp only [List.set] at HB; go_simp) | go_values | go_skip | go_guarded | go_step | go_upon)
  exact bodyPost_ret (res_v rfl HB (i := 0) rfl rfl) rfl ⟨rfl, HB.out.bel⟩
end Go.Proofs.YtngkolcpbgibcaaGreatDoor
