/- cmp.Compare, cmp.Or, env.Less, env.isPlace, by their contracts. No condition. -/
import Derived.Test.YtkjiokepihmpfaaDoorEb14
import Derived.Test.YtkjiokepihmpfaaDoorGd
set_option linter.unusedVariables false
set_option linter.unusedSimpArgs false
namespace Go.Proofs.YtkjiokepihmpfaaDoor
open Go.RowKit

theorem nan_int {w : World} {x : Int} : Calls Tryd.prog 74 #[.int .i64 x] w fun e w' => e = .returned (.bool false) ∧ w' = w := by
  go_enter Tryd.func74, Tryd.ntmps74
  go_wp2
  go_ret
  exact ⟨rfl, rfl⟩
theorem cm_any {w : World} (x y : Int) : Calls Tryd.prog 49 #[.int .i64 x, .int .i64 y] w fun e w' => e = .returned (.int .i64 (cm x y)) ∧ w' = w := by
  have HN := Lib.hid (fun (W : World) (z : Int) => nan_int (w := W) (x := z))
  obtain ⟨c, hc⟩ : ∃ c, cm x y = c := ⟨_, rfl⟩
  have HC := Lib.hid hc
  rw [hc]
  clear hc
  rcases Int.lt_trichotomy x y with h | h | h
  · obtain rfl : c = -1 := by rw [← HC.out]; unfold cm; rw [if_pos h]
    go_enter Tryd.func49, Tryd.ntmps49
    go_wp2_with fail
    refine (HN.out _ _).mono ?_
    rintro e w1 ⟨rfl, rfl⟩
    go_wp2_with fail
    refine (HN.out _ _).mono ?_
    rintro e w1 ⟨rfl, rfl⟩
    go_wp2
    go_ret
    exact ⟨rfl, rfl⟩
  · subst h
    obtain rfl : c = 0 := by rw [← HC.out]; unfold cm; simp
    go_enter Tryd.func49, Tryd.ntmps49
    go_wp2_with fail
    refine (HN.out _ _).mono ?_
    rintro e w1 ⟨rfl, rfl⟩
    go_wp2_with fail
    refine (HN.out _ _).mono ?_
    rintro e w1 ⟨rfl, rfl⟩
    go_wp2
    go_ret
    exact ⟨rfl, rfl⟩
  · have h' : ¬ x < y := by omega
    obtain rfl : c = 1 := by rw [← HC.out]; unfold cm; rw [if_neg h', if_pos (by omega)]
    go_enter Tryd.func49, Tryd.ntmps49
    go_wp2_with fail
    refine (HN.out _ _).mono ?_
    rintro e w1 ⟨rfl, rfl⟩
    go_wp2_with fail
    refine (HN.out _ _).mono ?_
    rintro e w1 ⟨rfl, rfl⟩
    go_wp2
    go_ret
    exact ⟨rfl, rfl⟩
theorem or_any {w : World} (h : Nat) (x y z : Int) (hk : Bk w h 3 ([.int .i64 x, .int .i64 y, .int .i64 z] : List Value).toArray) : Calls Tryd.prog 48 #[.slice (some ⟨h, 0, none⟩) 3 3] w fun e w' => e = .returned (.int .i64 (or3 x y z)) ∧ w' = w := by
  have c0 : w.cell? ⟨h, 0, none⟩ = some (.int .i64 x) := by rw [hk.cell]; rfl
  have c1 : w.cell? ⟨h, 1, none⟩ = some (.int .i64 y) := by rw [hk.cell]; rfl
  have c2 : w.cell? ⟨h, 2, none⟩ = some (.int .i64 z) := by rw [hk.cell]; rfl
  clear hk
  obtain ⟨c, hc⟩ : ∃ c, or3 x y z = c := ⟨_, rfl⟩
  have HC := Lib.hid hc
  rw [hc]
  clear hc
  go_enter Tryd.func48, Tryd.ntmps48
  go_wp2
  go_loopw [2, 5, 8] (fun r v i wr => ∃ n : Nat, i = .int .i64 n ∧ n ≤ 3 ∧ r = .int .i64 0 ∧ wr = w ∧ (0 < n → x = 0) ∧ (1 < n → y = 0) ∧ (2 < n → z = 0)) (fun _ _ i _ => 3 - (intOf i).toNat)
  case atStart => exact ⟨0, rfl, by omega, rfl, rfl, by omega, by omega, by omega⟩
  case round =>
    obtain ⟨n, rfl, hn, rfl, rfl, h0, h1, h2⟩ := hrel
    have hn' : n = 0 ∨ n = 1 ∨ n = 2 ∨ n = 3 := by omega
    rcases hn' with rfl | rfl | rfl | rfl
    · by_cases hx : x = 0
      · have hx' : (x != 0) = false := by rw [hx]; rfl
        go_wp2
        go_roundw
        case rel => exact ⟨1, rfl, by omega, rfl, trivial, by intro _; exact hx, by omega, by omega⟩
        case measure => simp [intOf]
      · have hc : c = x := by rw [← HC.out]; unfold or3; rw [if_pos hx]
        subst hc
        go_wp2
        go_ret
        exact ⟨rfl, rfl⟩
    · by_cases hx : y = 0
      · have hx' : (y != 0) = false := by rw [hx]; rfl
        go_wp2
        go_roundw
        case rel => exact ⟨2, rfl, by omega, rfl, trivial, by intro _; exact h0 (by omega), by intro _; exact hx, by omega⟩
        case measure => simp [intOf]
      · have hc : c = y := by rw [← HC.out]; unfold or3; rw [if_neg (by simp [h0 (by omega)]), if_pos hx]
        subst hc
        go_wp2
        go_ret
        exact ⟨rfl, rfl⟩
    · by_cases hx : z = 0
      · have hx' : (z != 0) = false := by rw [hx]; rfl
        go_wp2
        go_roundw
        case rel => exact ⟨3, rfl, by omega, rfl, trivial, by intro _; exact h0 (by omega), by intro _; exact h1 (by omega), by intro _; exact hx⟩
        case measure => simp [intOf]
      · have hc : c = z := by rw [← HC.out]; unfold or3; rw [if_neg (by simp [h0 (by omega)]), if_neg (by simp [h1 (by omega)])]
        subst hc
        go_wp2
        go_ret
        exact ⟨rfl, rfl⟩
    · have hc : c = 0 := by rw [← HC.out]; unfold or3; rw [h0 (by omega), h1 (by omega), h2 (by omega)]; rfl
      subst hc
      go_wp2
      go_ret
      exact ⟨rfl, rfl⟩
set_option maxRecDepth 20000 in
set_option maxHeartbeats 4000000 in
theorem ls_any {w : World} (p q : Pl) : Calls Tryd.prog 20 #[.agg (plc p).toArray, .agg (plc q).toArray] w fun e W => e = .returned (.bool (lsP p q)) ∧ Below w.heap.size w W := by
  rw [← or3_ls]
  have HB : Hid (BX w [] w) := Lib.hid (BX.start w)
  go_enter Tryd.func20, Tryd.ntmps20
  repeat' (first | ((with_reducible show Oper.wp _ _ _ _ _ _); (first | (with_reducible refine is_bx 40 _ rfl ?_; refine bx_pl HB _ rfl rfl ?_) | (with_reducible refine is_bx 32 _ rfl ?_; refine bx_va HB _ rfl rfl ?_) | (with_reducible refine is_bx 28 _ rfl ?_; refine bx_en HB _ rfl rfl ?_) | (with_reducible refine is_bx 44 _ rfl ?_; refine bx_sl HB _ rfl rfl ?_)); clear HB; (first | (have _t : Nat := g10; clear _t; intro g11 W HB) | (have _t : Nat := g9; clear _t; intro g10 W HB) | (have _t : Nat := g8; clear _t; intro g9 W HB) | (have _t : Nat := g7; clear _t; intro g8 W HB) | (have _t : Nat := g6; clear _t; intro g7 W HB) | (have _t : Nat := g5; clear _t; intro g6 W HB) | (have _t : Nat := g4; clear _t; intro g5 W HB) | (have _t : Nat := g3; clear _t; intro g4 W HB) | (have _t : Nat := g2; clear _t; intro g3 W HB) | (have _t : Nat := g1; clear _t; intro g2 W HB) | (have _t : Nat := g0; clear _t; intro g1 W HB) | intro g0 W HB); go_simp) | go_values | go_skip | go_guarded | go_step | go_upon)
  have HK0 := Lib.hid (HB.out.get (i := 1) rfl)
  have HK1 := Lib.hid (HB.out.get (i := 0) rfl)
  obtain ⟨W0, hW⟩ : ∃ W0, W0 = W := ⟨_, rfl⟩
  subst hW
  refine wp_region_phases (S := (fun _ W => Below W0.heap.size W0 W)) (E := (fun W W' => Below W.heap.size W W')) [] [(2, Is (.pointer (some ⟨g0, 0, none⟩))), (3, Is (.pointer (some ⟨g1, 0, none⟩)))] [(5, Is (.pointer (some ⟨g0, 0, none⟩))), (6, Is (.int .i64 p.s)), (7, Is (.pointer (some ⟨g1, 0, none⟩))), (8, Is (.int .i64 q.s)), (9, Is (.int .i64 (cm p.s q.s))), (10, Is (.pointer (some ⟨g0, 1, none⟩))), (11, Is (.pointer (some ⟨g0, 1, none⟩))), (12, Is (.int .i64 p.r)), (13, Is (.pointer (some ⟨g1, 1, none⟩))), (14, Is (.pointer (some ⟨g1, 1, none⟩))), (15, Is (.int .i64 q.r)), (16, Is (.int .i64 (cm p.r q.r))), (17, Is (.pointer (some ⟨g0, 1, none⟩))), (18, Is (.pointer (some ⟨g0, 2, none⟩))), (19, Is (.int .i64 p.c)), (20, Is (.pointer (some ⟨g1, 1, none⟩))), (21, Is (.pointer (some ⟨g1, 2, none⟩))), (22, Is (.int .i64 q.c)), (23, Is (.int .i64 (cm p.c q.c))), (24, (fun u W => ∃ h, u = .slice (some ⟨h, 0, none⟩) 3 3 ∧ Bk W h 3 ([.int .i64 (cm p.s q.s), .int .i64 (cm p.r q.r), .int .i64 (cm p.c q.c)] : List Value).toArray)), (25, Is (.int .i64 (or3 (cm p.s q.s) (cm p.r q.r) (cm p.c q.c)))), (26, Is (.bool (decide (or3 (cm p.s q.s) (cm p.r q.r) (cm p.c q.c) < 0)))), (4, Is (.bool (decide (or3 (cm p.s q.s) (cm p.r q.r) (cm p.c q.c) < 0))))]
    [.op [2] none, .op [5] none, .op [3] none, .op [7] none, .op [6, 8] none, .op [2] none, .op [10] none, .op [11] none, .op [3] none, .op [13] none, .op [14] none, .op [12, 15] none, .op [2] none, .op [17] none, .op [18] none, .op [3] none, .op [20] none, .op [21] none, .op [19, 22] none, .op [9, 16, 23] none, .op [24] none, .op [25] none, .op [26] none] (by as_aux_lemma => kernel_rfl) ?_ ?_ ?_ ?_ ?_ ⟨stable_is _ _, stable_is _ _, stable_is _ _, stable_is _ _, stable_is _ _, stable_is _ _, stable_is _ _, stable_is _ _, stable_is _ _, stable_is _ _, stable_is _ _, stable_is _ _, stable_is _ _, stable_is _ _, stable_is _ _, stable_is _ _, stable_is _ _, stable_is _ _, stable_is _ _, stable_is _ _, stable_is _ _, (fun _ _ _ hb h => by obtain ⟨A, h1, h2⟩ := h; exact ⟨A, h1, h2.below hb h2.lt⟩), stable_is _ _, stable_is _ _, stable_is _ _, trivial⟩ ?_ (Below.refl _ _).drew ?_ ?_
  · as_aux_lemma => kernel_rfl
  · as_aux_lemma => kernel_rfl
  · as_aux_lemma => kernel_rfl
  · as_aux_lemma => kernel_rfl
  · as_aux_lemma => kernel_rfl
  · exact ⟨rfl, rfl, trivial⟩
  · refine ⟨?_, ?_, ?_, ?_, ?_, ?_, ?_, ?_, ?_, ?_, ?_, ?_, ?_, ?_, ?_, ?_, ?_, ?_, ?_, ?_, ?_, ?_, ?_, trivial⟩
    · as_aux_lemma =>
        intro vals a W hS hL
        have e2 : a.tmps.getD 2 undef = .pointer (some ⟨g0, 0, none⟩) := hL.1
        clear hL
        go_simp
        exact ⟨⟨fun d hd => by injection hd with hd; subst hd; rfl, fun h => by cases h⟩, hS, (Below.refl _ _)⟩
    · as_aux_lemma =>
        intro vals a W hS hL
        have e5 : a.tmps.getD 5 undef = .pointer (some ⟨g0, 0, none⟩) := hL.1
        clear hL
        refine lands_vB (run_ldi (z := p.s) (HK0.out.below hS HK0.out.lt) rfl (.tmp 5) rfl e5) ?_
        exact ⟨⟨fun d hd => by injection hd with hd; subst hd; rfl, fun h => by cases h⟩, hS, Below.refl _ _⟩
    · as_aux_lemma =>
        intro vals a W hS hL
        have e3 : a.tmps.getD 3 undef = .pointer (some ⟨g1, 0, none⟩) := hL.1
        clear hL
        go_simp
        exact ⟨⟨fun d hd => by injection hd with hd; subst hd; rfl, fun h => by cases h⟩, hS, (Below.refl _ _)⟩
    · as_aux_lemma =>
        intro vals a W hS hL
        have e7 : a.tmps.getD 7 undef = .pointer (some ⟨g1, 0, none⟩) := hL.1
        clear hL
        refine lands_vB (run_ldi (z := q.s) (HK1.out.below hS HK1.out.lt) rfl (.tmp 7) rfl e7) ?_
        exact ⟨⟨fun d hd => by injection hd with hd; subst hd; rfl, fun h => by cases h⟩, hS, Below.refl _ _⟩
    · as_aux_lemma =>
        intro vals a W hS hL
        have e6 : a.tmps.getD 6 undef = .int .i64 p.s := hL.1
        have e8 : a.tmps.getD 8 undef = .int .i64 q.s := hL.2.1
        clear hL
        go_simp
        refine (cm_any _ _).mono ?_
        rintro e W2 ⟨rfl, rfl⟩
        exact ⟨_, rfl, ⟨fun d hd => by injection hd with hd; subst hd; rfl, fun h => by cases h⟩, hS, Below.refl _ _⟩
    · as_aux_lemma =>
        intro vals a W hS hL
        have e2 : a.tmps.getD 2 undef = .pointer (some ⟨g0, 0, none⟩) := hL.1
        clear hL
        go_simp
        exact ⟨⟨fun d hd => by injection hd with hd; subst hd; rfl, fun h => by cases h⟩, hS, (Below.refl _ _)⟩
    · as_aux_lemma =>
        intro vals a W hS hL
        have e10 : a.tmps.getD 10 undef = .pointer (some ⟨g0, 1, none⟩) := hL.1
        clear hL
        go_simp
        exact ⟨⟨fun d hd => by injection hd with hd; subst hd; rfl, fun h => by cases h⟩, hS, (Below.refl _ _)⟩
    · as_aux_lemma =>
        intro vals a W hS hL
        have e11 : a.tmps.getD 11 undef = .pointer (some ⟨g0, 1, none⟩) := hL.1
        clear hL
        refine lands_vB (run_ldi (z := p.r) (HK0.out.below hS HK0.out.lt) rfl (.tmp 11) rfl e11) ?_
        exact ⟨⟨fun d hd => by injection hd with hd; subst hd; rfl, fun h => by cases h⟩, hS, Below.refl _ _⟩
    · as_aux_lemma =>
        intro vals a W hS hL
        have e3 : a.tmps.getD 3 undef = .pointer (some ⟨g1, 0, none⟩) := hL.1
        clear hL
        go_simp
        exact ⟨⟨fun d hd => by injection hd with hd; subst hd; rfl, fun h => by cases h⟩, hS, (Below.refl _ _)⟩
    · as_aux_lemma =>
        intro vals a W hS hL
        have e13 : a.tmps.getD 13 undef = .pointer (some ⟨g1, 1, none⟩) := hL.1
        clear hL
        go_simp
        exact ⟨⟨fun d hd => by injection hd with hd; subst hd; rfl, fun h => by cases h⟩, hS, (Below.refl _ _)⟩
    · as_aux_lemma =>
        intro vals a W hS hL
        have e14 : a.tmps.getD 14 undef = .pointer (some ⟨g1, 1, none⟩) := hL.1
        clear hL
        refine lands_vB (run_ldi (z := q.r) (HK1.out.below hS HK1.out.lt) rfl (.tmp 14) rfl e14) ?_
        exact ⟨⟨fun d hd => by injection hd with hd; subst hd; rfl, fun h => by cases h⟩, hS, Below.refl _ _⟩
    · as_aux_lemma =>
        intro vals a W hS hL
        have e12 : a.tmps.getD 12 undef = .int .i64 p.r := hL.1
        have e15 : a.tmps.getD 15 undef = .int .i64 q.r := hL.2.1
        clear hL
        go_simp
        refine (cm_any _ _).mono ?_
        rintro e W2 ⟨rfl, rfl⟩
        exact ⟨_, rfl, ⟨fun d hd => by injection hd with hd; subst hd; rfl, fun h => by cases h⟩, hS, Below.refl _ _⟩
    · as_aux_lemma =>
        intro vals a W hS hL
        have e2 : a.tmps.getD 2 undef = .pointer (some ⟨g0, 0, none⟩) := hL.1
        clear hL
        go_simp
        exact ⟨⟨fun d hd => by injection hd with hd; subst hd; rfl, fun h => by cases h⟩, hS, (Below.refl _ _)⟩
    · as_aux_lemma =>
        intro vals a W hS hL
        have e17 : a.tmps.getD 17 undef = .pointer (some ⟨g0, 1, none⟩) := hL.1
        clear hL
        go_simp
        exact ⟨⟨fun d hd => by injection hd with hd; subst hd; rfl, fun h => by cases h⟩, hS, (Below.refl _ _)⟩
    · as_aux_lemma =>
        intro vals a W hS hL
        have e18 : a.tmps.getD 18 undef = .pointer (some ⟨g0, 2, none⟩) := hL.1
        clear hL
        refine lands_vB (run_ldi (z := p.c) (HK0.out.below hS HK0.out.lt) rfl (.tmp 18) rfl e18) ?_
        exact ⟨⟨fun d hd => by injection hd with hd; subst hd; rfl, fun h => by cases h⟩, hS, Below.refl _ _⟩
    · as_aux_lemma =>
        intro vals a W hS hL
        have e3 : a.tmps.getD 3 undef = .pointer (some ⟨g1, 0, none⟩) := hL.1
        clear hL
        go_simp
        exact ⟨⟨fun d hd => by injection hd with hd; subst hd; rfl, fun h => by cases h⟩, hS, (Below.refl _ _)⟩
    · as_aux_lemma =>
        intro vals a W hS hL
        have e20 : a.tmps.getD 20 undef = .pointer (some ⟨g1, 1, none⟩) := hL.1
        clear hL
        go_simp
        exact ⟨⟨fun d hd => by injection hd with hd; subst hd; rfl, fun h => by cases h⟩, hS, (Below.refl _ _)⟩
    · as_aux_lemma =>
        intro vals a W hS hL
        have e21 : a.tmps.getD 21 undef = .pointer (some ⟨g1, 2, none⟩) := hL.1
        clear hL
        refine lands_vB (run_ldi (z := q.c) (HK1.out.below hS HK1.out.lt) rfl (.tmp 21) rfl e21) ?_
        exact ⟨⟨fun d hd => by injection hd with hd; subst hd; rfl, fun h => by cases h⟩, hS, Below.refl _ _⟩
    · as_aux_lemma =>
        intro vals a W hS hL
        have e19 : a.tmps.getD 19 undef = .int .i64 p.c := hL.1
        have e22 : a.tmps.getD 22 undef = .int .i64 q.c := hL.2.1
        clear hL
        go_simp
        refine (cm_any _ _).mono ?_
        rintro e W2 ⟨rfl, rfl⟩
        exact ⟨_, rfl, ⟨fun d hd => by injection hd with hd; subst hd; rfl, fun h => by cases h⟩, hS, Below.refl _ _⟩
    · as_aux_lemma =>
        intro vals a W hS hL
        have e9 : a.tmps.getD 9 undef = .int .i64 (cm p.s q.s) := hL.1
        have e16 : a.tmps.getD 16 undef = .int .i64 (cm p.r q.r) := hL.2.1
        have e23 : a.tmps.getD 23 undef = .int .i64 (cm p.c q.c) := hL.2.2.1
        clear hL
        rw [Array.getD_eq_getD_getElem?] at e9 e16 e23
        go_simp
        exact ⟨⟨fun d hd => by injection hd with hd; subst hd; exact ⟨_, rfl, Bk.new _ _ _⟩, fun h => by cases h⟩, hS.alloc hS.size _, bel0 _ _⟩
    · as_aux_lemma =>
        intro vals a W hS hL
        have e24 := hL.1
        clear hL
        obtain ⟨h, e24, hk⟩ := e24
        rw [Array.getD_eq_getD_getElem?] at e24
        go_simp
        refine (or_any h _ _ _ hk).mono ?_
        rintro e W2 ⟨rfl, rfl⟩
        exact ⟨_, rfl, ⟨fun d hd => by injection hd with hd; subst hd; rfl, fun h => by cases h⟩, hS, Below.refl _ _⟩
    · as_aux_lemma =>
        intro vals a W hS hL
        have e25 : a.tmps.getD 25 undef = .int .i64 (or3 (cm p.s q.s) (cm p.r q.r) (cm p.c q.c)) := hL.1
        clear hL
        go_simp
        exact ⟨⟨fun d hd => by injection hd with hd; subst hd; rfl, fun h => by cases h⟩, hS, (Below.refl _ _)⟩
    · as_aux_lemma =>
        intro vals a W hS hL
        have e26 : a.tmps.getD 26 undef = .bool (decide (or3 (cm p.s q.s) (cm p.r q.r) (cm p.c q.c) < 0)) := hL.1
        clear hL
        go_simp
        exact ⟨⟨fun d hd => by injection hd with hd; subst hd; rfl, fun h => by cases h⟩, hS, (Below.refl _ _)⟩
  · intro a W vals hd hsz hT hF hv hP hS
    obtain rfl : vals = [] := List.eq_nil_of_length_eq_zero hv
    have e4 : a.tmps.getD 4 undef = .bool (decide (or3 (cm p.s q.s) (cm p.r q.r) (cm p.c q.c) < 0)) := hT 4 (by simp)
    clear hT hF hP
    rw [act_lit 27 a hd hsz]
    simp only [List.range, List.range.loop, List.map, e4]
    clear e4 hsz hd
    replace HB := Lib.hid (HB.out.call hS)
    repeat' (first | go_values | go_skip | go_guarded | go_step | go_upon)
    exact bodyPost_ret (v := .bool (decide (or3 (cm p.s q.s) (cm p.r q.r) (cm p.c q.c) < 0))) (by simp [results, Tryd.results20, go_sem]) rfl ⟨rfl, HB.out.bel⟩
end Go.Proofs.YtkjiokepihmpfaaDoor

