/- fun.takes of which one is chosen, by its contract. Condition: the table is laid. -/
import Derived.Test.YtngkolcpbgibcaaGreatDoorH2
set_option linter.unusedVariables false
set_option linter.unusedSimpArgs false
namespace Go.Proofs.YtngkolcpbgibcaaGreatDoor
open Go.RowKit
set_option maxRecDepth 20000 in
set_option maxHeartbeats 8000000 in
theorem takes_10_w {w : World} {n : Nat} {lo hi : Int} (c1 : w.cell? ⟨0, n * 3 + 1, none⟩ = some (.int .i64 lo)) (c2 : w.cell? ⟨0, n * 3 + 2, none⟩ = some (.int .i64 hi))
    (HI : Hid (∀ W : World, Calls Tryz.prog 81 #[.int .i64 n] W fun e W' => e = .returned (.bool true) ∧ W' = W)) (hn1 : (n : Int) < 30) {A : Option Addr} {c : Nat} (hk : n = 10) {y : Bool × List VX} {r : List (Bool × List VX)} (hr : r.length ≤ 1000000) (h : RowF argF w (· < w.heap.size) A (y :: r).length (y :: r)) (hlo : ¬ ((r.length : Int) + 1) < lo) (hhi : ¬ hi < ((r.length : Int) + 1)) :
    Calls Tryz.prog 40 #[.int .i64 n, .slice A (r.length + 1) c] w fun e W => e = .returned (.bool (oneB y.1 y.2.length)) ∧ Below w.heap.size w W := by
  have hn0 : (0 : Int) ≤ (n : Int) := by omega
  have hn2 : n < 30 := by omega
  have HB := Lib.hid (BX.start w); obtain ⟨aa, rfl, hall⟩ := args_all h (by simp); obtain ⟨A1, c4, hA⟩ := hall 0 y rfl; have HA := Lib.hid hA; clear hall hA h; subst hk; go_enter Tryz.func40, Tryz.ntmps40
  repeat' (first | go_values | go_skip | go_guarded | go_step | go_upon)
  refine (HI.out _).mono ?_; rintro e W1 ⟨rfl, hw⟩; have hw := hw.symm; subst hw; dsimp only
  repeat' (first | ((with_reducible show Oper.wp _ _ _ _ _ _); refine stop_ld (ty := 3) _ rfl ?_) | go_values | go_skip | go_guarded | go_step | go_upon)
  refine Lib.hid ?_; refine lfm_int _ rfl rfl c1 ?_; go_simp
  repeat' (first | ((with_reducible show Oper.wp _ _ _ _ _ _); refine stop_ld (ty := 3) _ rfl ?_) | go_values | go_skip | go_guarded | go_step | go_upon)
  refine Lib.hid ?_; refine lfm_int _ rfl rfl c2 ?_; go_simp
  repeat' (first | ((with_reducible show Oper.wp _ _ _ _ _ _); refine stop_ld (ty := 55) _ rfl ?_) | go_values | go_skip | go_guarded | go_step | go_upon)
  refine Lib.hid ?_; refine ldm_a y.1 A1 y.2.length c4 _ rfl rfl (HA.out.below HB.out.bel).cell ?_; go_simp
  repeat' (first | go_values | go_skip | go_guarded | go_step | go_upon)
  refine (isOne_any y.1 A1 y.2.length c4).mono ?_; rintro e W1 ⟨rfl, hb⟩; have HB := Lib.hid (HB.out.call hb); clear hb; dsimp only
  repeat' (first | go_values | go_skip | go_guarded | go_step | go_upon)
  go_ret; exact ⟨rfl, HB.out.bel⟩
set_option maxRecDepth 20000 in
set_option maxHeartbeats 8000000 in
theorem takes_23_w {w : World} {n : Nat} {lo hi : Int} (c1 : w.cell? ⟨0, n * 3 + 1, none⟩ = some (.int .i64 lo)) (c2 : w.cell? ⟨0, n * 3 + 2, none⟩ = some (.int .i64 hi))
    (HI : Hid (∀ W : World, Calls Tryz.prog 81 #[.int .i64 n] W fun e W' => e = .returned (.bool true) ∧ W' = W)) (hn1 : (n : Int) < 30) {A : Option Addr} {c : Nat} (hk : n = 23) {y : Bool × List VX} {r : List (Bool × List VX)} (hr : r.length ≤ 1000000) (h : RowF argF w (· < w.heap.size) A (y :: r).length (y :: r)) (hlo : ¬ ((r.length : Int) + 1) < lo) (hhi : ¬ hi < ((r.length : Int) + 1)) :
    Calls Tryz.prog 40 #[.int .i64 n, .slice A (r.length + 1) c] w fun e W => e = .returned (.bool (oneB y.1 y.2.length)) ∧ Below w.heap.size w W := by
  have hn0 : (0 : Int) ≤ (n : Int) := by omega
  have hn2 : n < 30 := by omega
  have HB := Lib.hid (BX.start w); obtain ⟨aa, rfl, hall⟩ := args_all h (by simp); obtain ⟨A1, c4, hA⟩ := hall 0 y rfl; have HA := Lib.hid hA; clear hall hA h; subst hk; go_enter Tryz.func40, Tryz.ntmps40
  repeat' (first | go_values | go_skip | go_guarded | go_step | go_upon)
  refine (HI.out _).mono ?_; rintro e W1 ⟨rfl, hw⟩; have hw := hw.symm; subst hw; dsimp only
  repeat' (first | ((with_reducible show Oper.wp _ _ _ _ _ _); refine stop_ld (ty := 3) _ rfl ?_) | go_values | go_skip | go_guarded | go_step | go_upon)
  refine Lib.hid ?_; refine lfm_int _ rfl rfl c1 ?_; go_simp
  repeat' (first | ((with_reducible show Oper.wp _ _ _ _ _ _); refine stop_ld (ty := 3) _ rfl ?_) | go_values | go_skip | go_guarded | go_step | go_upon)
  refine Lib.hid ?_; refine lfm_int _ rfl rfl c2 ?_; go_simp
  repeat' (first | ((with_reducible show Oper.wp _ _ _ _ _ _); refine stop_ld (ty := 55) _ rfl ?_) | go_values | go_skip | go_guarded | go_step | go_upon)
  refine Lib.hid ?_; refine ldm_a y.1 A1 y.2.length c4 _ rfl rfl (HA.out.below HB.out.bel).cell ?_; go_simp
  repeat' (first | go_values | go_skip | go_guarded | go_step | go_upon)
  refine (isOne_any y.1 A1 y.2.length c4).mono ?_; rintro e W1 ⟨rfl, hb⟩; have HB := Lib.hid (HB.out.call hb); clear hb; dsimp only
  repeat' (first | go_values | go_skip | go_guarded | go_step | go_upon)
  go_ret; exact ⟨rfl, HB.out.bel⟩
set_option maxRecDepth 20000 in
set_option maxHeartbeats 8000000 in
theorem takes_25_w {w : World} {n : Nat} {lo hi : Int} (c1 : w.cell? ⟨0, n * 3 + 1, none⟩ = some (.int .i64 lo)) (c2 : w.cell? ⟨0, n * 3 + 2, none⟩ = some (.int .i64 hi))
    (HI : Hid (∀ W : World, Calls Tryz.prog 81 #[.int .i64 n] W fun e W' => e = .returned (.bool true) ∧ W' = W)) (hn1 : (n : Int) < 30) {A : Option Addr} {c : Nat} (hk : n = 25) {y : Bool × List VX} {r : List (Bool × List VX)} (hr : r.length ≤ 1000000) (h : RowF argF w (· < w.heap.size) A (y :: r).length (y :: r)) (hlo : ¬ ((r.length : Int) + 1) < lo) (hhi : ¬ hi < ((r.length : Int) + 1)) :
    Calls Tryz.prog 40 #[.int .i64 n, .slice A (r.length + 1) c] w fun e W => e = .returned (.bool (oneB y.1 y.2.length)) ∧ Below w.heap.size w W := by
  have hn0 : (0 : Int) ≤ (n : Int) := by omega
  have hn2 : n < 30 := by omega
  have HB := Lib.hid (BX.start w); obtain ⟨aa, rfl, hall⟩ := args_all h (by simp); obtain ⟨A1, c4, hA⟩ := hall 0 y rfl; have HA := Lib.hid hA; clear hall hA h; subst hk; go_enter Tryz.func40, Tryz.ntmps40
  repeat' (first | go_values | go_skip | go_guarded | go_step | go_upon)
  refine (HI.out _).mono ?_; rintro e W1 ⟨rfl, hw⟩; have hw := hw.symm; subst hw; dsimp only
  repeat' (first | ((with_reducible show Oper.wp _ _ _ _ _ _); refine stop_ld (ty := 3) _ rfl ?_) | go_values | go_skip | go_guarded | go_step | go_upon)
  refine Lib.hid ?_; refine lfm_int _ rfl rfl c1 ?_; go_simp
  repeat' (first | ((with_reducible show Oper.wp _ _ _ _ _ _); refine stop_ld (ty := 3) _ rfl ?_) | go_values | go_skip | go_guarded | go_step | go_upon)
  refine Lib.hid ?_; refine lfm_int _ rfl rfl c2 ?_; go_simp
  repeat' (first | ((with_reducible show Oper.wp _ _ _ _ _ _); refine stop_ld (ty := 55) _ rfl ?_) | go_values | go_skip | go_guarded | go_step | go_upon)
  refine Lib.hid ?_; refine ldm_a y.1 A1 y.2.length c4 _ rfl rfl (HA.out.below HB.out.bel).cell ?_; go_simp
  repeat' (first | go_values | go_skip | go_guarded | go_step | go_upon)
  refine (isOne_any y.1 A1 y.2.length c4).mono ?_; rintro e W1 ⟨rfl, hb⟩; have HB := Lib.hid (HB.out.call hb); clear hb; dsimp only
  repeat' (first | go_values | go_skip | go_guarded | go_step | go_upon)
  go_ret; exact ⟨rfl, HB.out.bel⟩
set_option maxRecDepth 20000 in
set_option maxHeartbeats 8000000 in
theorem takes_24_true {w : World} {n : Nat} {lo hi : Int} (c1 : w.cell? ⟨0, n * 3 + 1, none⟩ = some (.int .i64 lo)) (c2 : w.cell? ⟨0, n * 3 + 2, none⟩ = some (.int .i64 hi))
    (HI : Hid (∀ W : World, Calls Tryz.prog 81 #[.int .i64 n] W fun e W' => e = .returned (.bool true) ∧ W' = W)) (hn1 : (n : Int) < 30) {A : Option Addr} {c : Nat} (hk : n = 24) {y z : Bool × List VX} (hy : y.1 = true) (h : RowF argF w (· < w.heap.size) A 2 [y, z]) (hlo : ¬ (2 : Int) < lo) (hhi : ¬ hi < (2 : Int)) :
    Calls Tryz.prog 40 #[.int .i64 n, .slice A 2 c] w fun e W => e = .returned (.bool (oneB z.1 z.2.length)) ∧ Below w.heap.size w W := by
  have hn0 : (0 : Int) ≤ (n : Int) := by omega
  have hn2 : n < 30 := by omega
  have HB := Lib.hid (BX.start w); obtain ⟨aa, rfl, hall⟩ := args_all h (by simp); obtain ⟨A1, c4, hA⟩ := hall 0 y rfl; obtain ⟨A2, c5, hA2⟩ := hall 1 z rfl; have HA2 := Lib.hid hA2
  have HC0 : Hid (∀ W, Below w.heap.size w W → W.cell? (aa.add (0 * 2)) = some (.bool y.1)) := Lib.hid fun W hW => by
    have hc := (hA.below hW).cell 0 (.bool y.1) rfl
    rwa [addr00] at hc
  rw [hy] at HC0; clear hall hA hA2 h hy; subst hk; go_enter Tryz.func40, Tryz.ntmps40
  repeat' (first | go_values | go_skip | go_guarded | go_step | go_upon)
  refine (HI.out _).mono ?_; rintro e W1 ⟨rfl, hw⟩; have hw := hw.symm; subst hw; dsimp only
  repeat' (first | ((with_reducible show Oper.wp _ _ _ _ _ _); refine stop_ld (ty := 3) _ rfl ?_) | go_values | go_skip | go_guarded | go_step | go_upon)
  refine Lib.hid ?_; refine lfm_int _ rfl rfl c1 ?_; go_simp
  repeat' (first | ((with_reducible show Oper.wp _ _ _ _ _ _); refine stop_ld (ty := 3) _ rfl ?_) | go_values | go_skip | go_guarded | go_step | go_upon)
  refine Lib.hid ?_; refine lfm_int _ rfl rfl c2 ?_; go_simp
  repeat' (first | ((with_reducible show Oper.wp _ _ _ _ _ _); refine stop_ld (ty := 4) _ rfl ?_) | go_values | go_skip | go_guarded | go_step | go_upon)
  refine Lib.hid ?_; refine lfm_bool _ rfl rfl (HC0.out _ HB.out.bel) ?_; go_simp
  repeat' (first | ((with_reducible show Oper.wp _ _ _ _ _ _); refine stop_ld (ty := 55) _ rfl ?_) | go_values | go_skip | go_guarded | go_step | go_upon)
  refine Lib.hid ?_; refine ldm_a z.1 A2 z.2.length c5 _ rfl rfl (HA2.out.below HB.out.bel).cell ?_; go_simp
  repeat' (first | go_values | go_skip | go_guarded | go_step | go_upon)
  refine (isOne_any z.1 A2 z.2.length c5).mono ?_; rintro e W1 ⟨rfl, hb⟩; have HB := Lib.hid (HB.out.call hb); clear hb; dsimp only
  repeat' (first | go_values | go_skip | go_guarded | go_step | go_upon)
  go_ret; exact ⟨rfl, HB.out.bel⟩
set_option maxRecDepth 20000 in
set_option maxHeartbeats 8000000 in
theorem takes_24_false {w : World} {n : Nat} {lo hi : Int} (c1 : w.cell? ⟨0, n * 3 + 1, none⟩ = some (.int .i64 lo)) (c2 : w.cell? ⟨0, n * 3 + 2, none⟩ = some (.int .i64 hi))
    (HI : Hid (∀ W : World, Calls Tryz.prog 81 #[.int .i64 n] W fun e W' => e = .returned (.bool true) ∧ W' = W)) (hn1 : (n : Int) < 30) {A : Option Addr} {c : Nat} (hk : n = 24) {y z : Bool × List VX} (hy : y.1 = false) (h : RowF argF w (· < w.heap.size) A 2 [y, z]) (hlo : ¬ (2 : Int) < lo) (hhi : ¬ hi < (2 : Int)) :
    Calls Tryz.prog 40 #[.int .i64 n, .slice A 2 c] w fun e W => e = .returned (.bool false) ∧ Below w.heap.size w W := by
  have hn0 : (0 : Int) ≤ (n : Int) := by omega
  have hn2 : n < 30 := by omega
  have HB := Lib.hid (BX.start w); obtain ⟨aa, rfl, hall⟩ := args_all h (by simp); obtain ⟨A1, c4, hA⟩ := hall 0 y rfl; obtain ⟨A2, c5, hA2⟩ := hall 1 z rfl; have HA2 := Lib.hid hA2
  have HC0 : Hid (∀ W, Below w.heap.size w W → W.cell? (aa.add (0 * 2)) = some (.bool y.1)) := Lib.hid fun W hW => by
    have hc := (hA.below hW).cell 0 (.bool y.1) rfl
    rwa [addr00] at hc
  rw [hy] at HC0; clear hall hA hA2 h hy; subst hk; go_enter Tryz.func40, Tryz.ntmps40
  repeat' (first | go_values | go_skip | go_guarded | go_step | go_upon)
  refine (HI.out _).mono ?_; rintro e W1 ⟨rfl, hw⟩; have hw := hw.symm; subst hw; dsimp only
  repeat' (first | ((with_reducible show Oper.wp _ _ _ _ _ _); refine stop_ld (ty := 3) _ rfl ?_) | go_values | go_skip | go_guarded | go_step | go_upon)
  refine Lib.hid ?_; refine lfm_int _ rfl rfl c1 ?_; go_simp
  repeat' (first | ((with_reducible show Oper.wp _ _ _ _ _ _); refine stop_ld (ty := 3) _ rfl ?_) | go_values | go_skip | go_guarded | go_step | go_upon)
  refine Lib.hid ?_; refine lfm_int _ rfl rfl c2 ?_; go_simp
  repeat' (first | ((with_reducible show Oper.wp _ _ _ _ _ _); refine stop_ld (ty := 4) _ rfl ?_) | go_values | go_skip | go_guarded | go_step | go_upon)
  refine Lib.hid ?_; refine lfm_bool _ rfl rfl (HC0.out _ HB.out.bel) ?_; go_simp
  repeat' (first | go_values | go_skip | go_guarded | go_step | go_upon)
  go_ret; exact ⟨rfl, HB.out.bel⟩
end Go.Proofs.YtngkolcpbgibcaaGreatDoor
