/- ptg.parse, by their contracts. Condition: the bytes read as such, and are enough. -/
import Derived.Test.YtlaiocdnddnnaaaGreatDoorPm12
set_option linter.unusedVariables false
set_option linter.unusedSimpArgs false
namespace Go.Proofs.YtlaiocdnddnnaaaGreatDoor
open Go.RowKit
def PaOk (w : World) (g : Got) (e : Ending) (W : World) : Prop := ∃ q : Got, e = .returned (.tuple #[.agg (tkV q).toArray, .int .i64 g.err]) ∧ (g.err = 0 → q.pay = g.pay ∧ q.takes = g.takes) ∧ Below w.heap.size w W
theorem pfault_any {w : World} (e : Int) : Calls Tryz.prog 123 #[.int .i64 e] w fun x w' => x = .returned (.agg #[.int .i64 4, .int .i64 0, .int .i64 0, .string ⟨#[]⟩, .bool false, .int .i64 e]) ∧ Below w.heap.size w w' := by
  go_enter Tryz.func123, Tryz.ntmps123; go_wp2; exact bodyPost_ret (v := .agg #[.int .i64 4, .int .i64 0, .int .i64 0, .string ⟨#[]⟩, .bool false, .int .i64 e]) (by simp [results, Tryz.results123, go_sem]) rfl ⟨rfl, bel0 _ _⟩
section
variable {w : World} {A : Option Addr} {n c B i : Nat} {l : List UInt8}
set_option maxRecDepth 20000 in
set_option maxHeartbeats 4000000 in
theorem parse_31 (h : Rd w B 1 A n (l.map bv)) (hnc : n ≤ c) (hn : n ≤ 1000000000) (hB : B ≤ w.heap.size) (hi : i + 9 ≤ n) : Calls Tryz.prog 106 #[.int .i64 31, .agg #[.slice A n c, .int .i64 i]] w (PaOk w (⟨0, tNum (ti8 l i) (tu1 l (i + 8)), 0⟩)) := by
  have HH := Lib.hid (And.intro h hB); have H1 := Lib.hid (fun (W : World) (hr : Rd W B 1 A n (l.map bv)) (hw : B ≤ W.heap.size) => i64_at (j := i + 8) hr hnc hn hw rfl (by omega)); have H2 : Hid (U8C A n c B l (i + 8) (i + 8 + 1) (tu1 l (i + 8))) := Lib.hid (u8c hnc hn (by omega)); generalize ti8 l i = m at *; generalize tu1 l (i + 8) = sc at *; generalize i + 8 + 1 = j' at *; generalize i + 8 = j at *; clear hnc hn hi; clear h hB; have HB : Hid (BX w [] w) := Lib.hid (BX.start w); go_enter Tryz.func106, Tryz.ntmps106
  repeat' (first | ((with_reducible show Oper.wp _ _ _ _ _ _); with_reducible refine stop_bx _ rfl ?_) | go_values | go_skip | go_guarded | go_step | go_upon)
  refine Lib.hid ?_; refine al_g HB 82 (cu A n c i) (by kernel_rfl) ?_; clear HB
  (first | (have _t : Nat := g10; clear _t; intro g11 W HB) | (have _t : Nat := g9; clear _t; intro g10 W HB) | (have _t : Nat := g8; clear _t; intro g9 W HB) | (have _t : Nat := g7; clear _t; intro g8 W HB) | (have _t : Nat := g6; clear _t; intro g7 W HB) | (have _t : Nat := g5; clear _t; intro g6 W HB) | (have _t : Nat := g4; clear _t; intro g5 W HB) | (have _t : Nat := g3; clear _t; intro g4 W HB) | (have _t : Nat := g2; clear _t; intro g3 W HB) | (have _t : Nat := g1; clear _t; intro g2 W HB) | (have _t : Nat := g0; clear _t; intro g1 W HB) | intro g0 W HB)
  go_simp
  repeat' (first | ((with_reducible show Oper.wp _ _ _ _ _ _); (first | (with_reducible refine is_al 144 rfl ?_; refine al_g HB 144 (tc zp (.slice none 0 0) 0) (by kernel_rfl) ?_; clear HB; intro g1 W HB; go_simp) | (with_reducible refine is_ld 82 _ rfl ?_; refine ld_cu 1 HB rfl _ rfl rfl ?_; go_simp))) | go_values | go_skip | go_guarded | go_step | go_upon)
  refine (parseNum_at (B := B) (l := l) (Lib.hid ⟨HH.out.1.belowMono HB.out.bel HH.out.2, Nat.le_trans HH.out.2 HB.out.bel.size⟩) H1 H2).mono ?_; rintro e W1 ⟨rfl, hb⟩; have HB := Lib.hid (HB.out.call hb); clear hb; dsimp only
  repeat' (first | ((with_reducible show Oper.wp _ _ _ _ _ _); with_reducible refine is_st 144 _ _ rfl ?_; refine st_tc 0 HB rfl _ _ rfl rfl rfl ?_; clear HB; intro W HB; dsimp only [List.set] at HB; go_simp) | go_values | go_skip | go_guarded | go_step | go_upon)
  exact bodyPost_ret (res_tn rfl 0 HB rfl rfl rfl) rfl ⟨⟨0, tNum m sc, 0⟩, rfl, fun _ => ⟨rfl, rfl⟩, HB.out.bel⟩
set_option maxRecDepth 20000 in
set_option maxHeartbeats 4000000 in
theorem parse_29 (h : Rd w B 1 A n (l.map bv)) (hnc : n ≤ c) (hn : n ≤ 1000000000) (hB : B ≤ w.heap.size) (hi : i + 1 ≤ n) : Calls Tryz.prog 106 #[.int .i64 29, .agg #[.slice A n c, .int .i64 i]] w (PaOk w (if 1 < tu1 l i then ⟨2, zp, 0⟩ else ⟨0, tBool (decide (tu1 l i = 1)), 0⟩)) := by
  have HH := Lib.hid (And.intro h hB); have H1 : Hid (U8C A n c B l i (i + 1) (tu1 l i)) := Lib.hid (u8c hnc hn (by omega)); have HV := Lib.hid (tu1_bd l i); generalize tu1 l i = v at *; generalize i + 1 = j at *; clear hnc hn hi; clear h hB
  by_cases h1 : 1 < v
  · rw [if_pos h1]; have HB : Hid (BX w [] w) := Lib.hid (BX.start w); go_enter Tryz.func106, Tryz.ntmps106
    repeat' (first | ((with_reducible show Oper.wp _ _ _ _ _ _); with_reducible refine stop_bx _ rfl ?_) | go_values | go_skip | go_guarded | go_step | go_upon)
    refine Lib.hid ?_; refine al_g HB 82 (cu A n c i) (by kernel_rfl) ?_; clear HB
    (first | (have _t : Nat := g10; clear _t; intro g11 W HB) | (have _t : Nat := g9; clear _t; intro g10 W HB) | (have _t : Nat := g8; clear _t; intro g9 W HB) | (have _t : Nat := g7; clear _t; intro g8 W HB) | (have _t : Nat := g6; clear _t; intro g7 W HB) | (have _t : Nat := g5; clear _t; intro g6 W HB) | (have _t : Nat := g4; clear _t; intro g5 W HB) | (have _t : Nat := g3; clear _t; intro g4 W HB) | (have _t : Nat := g2; clear _t; intro g3 W HB) | (have _t : Nat := g1; clear _t; intro g2 W HB) | (have _t : Nat := g0; clear _t; intro g1 W HB) | intro g0 W HB)
    go_simp
    repeat' (first | ((with_reducible show Oper.wp _ _ _ _ _ _); (first | (with_reducible refine is_al 144 rfl ?_; refine al_g HB 144 (tc zp (.slice none 0 0) 0) (by kernel_rfl) ?_; clear HB; intro g1 W HB; go_simp) | (with_reducible refine is_ld 82 _ rfl ?_; refine ld_cu 1 HB rfl _ rfl rfl ?_; go_simp))) | go_values | go_skip | go_guarded | go_step | go_upon)
    refine (parseBool_at (B := B) (l := l) (Lib.hid ⟨HH.out.1.belowMono HB.out.bel HH.out.2, Nat.le_trans HH.out.2 HB.out.bel.size⟩) H1 HV.out).mono ?_; rintro e W1 ⟨rfl, hb⟩; have HB := Lib.hid (HB.out.call hb); clear hb; dsimp only; rw [if_pos h1, if_pos h1]
    repeat' (first | ((with_reducible show Oper.wp _ _ _ _ _ _); with_reducible refine is_st 144 _ _ rfl ?_; refine st_tc 0 HB rfl _ _ rfl rfl rfl ?_; clear HB; intro W HB; dsimp only [List.set] at HB; go_simp) | go_values | go_skip | go_guarded | go_step | go_upon)
    exact bodyPost_ret (res_tn rfl 0 HB rfl rfl rfl) rfl ⟨⟨2, zp, 0⟩, rfl, fun h => (by cases h), HB.out.bel⟩
  · rw [if_neg h1]; have HB : Hid (BX w [] w) := Lib.hid (BX.start w); go_enter Tryz.func106, Tryz.ntmps106
    repeat' (first | ((with_reducible show Oper.wp _ _ _ _ _ _); with_reducible refine stop_bx _ rfl ?_) | go_values | go_skip | go_guarded | go_step | go_upon)
    refine Lib.hid ?_; refine al_g HB 82 (cu A n c i) (by kernel_rfl) ?_; clear HB
    (first | (have _t : Nat := g10; clear _t; intro g11 W HB) | (have _t : Nat := g9; clear _t; intro g10 W HB) | (have _t : Nat := g8; clear _t; intro g9 W HB) | (have _t : Nat := g7; clear _t; intro g8 W HB) | (have _t : Nat := g6; clear _t; intro g7 W HB) | (have _t : Nat := g5; clear _t; intro g6 W HB) | (have _t : Nat := g4; clear _t; intro g5 W HB) | (have _t : Nat := g3; clear _t; intro g4 W HB) | (have _t : Nat := g2; clear _t; intro g3 W HB) | (have _t : Nat := g1; clear _t; intro g2 W HB) | (have _t : Nat := g0; clear _t; intro g1 W HB) | intro g0 W HB)
    go_simp
    repeat' (first | ((with_reducible show Oper.wp _ _ _ _ _ _); (first | (with_reducible refine is_al 144 rfl ?_; refine al_g HB 144 (tc zp (.slice none 0 0) 0) (by kernel_rfl) ?_; clear HB; intro g1 W HB; go_simp) | (with_reducible refine is_ld 82 _ rfl ?_; refine ld_cu 1 HB rfl _ rfl rfl ?_; go_simp))) | go_values | go_skip | go_guarded | go_step | go_upon)
    refine (parseBool_at (B := B) (l := l) (Lib.hid ⟨HH.out.1.belowMono HB.out.bel HH.out.2, Nat.le_trans HH.out.2 HB.out.bel.size⟩) H1 HV.out).mono ?_; rintro e W1 ⟨rfl, hb⟩; have HB := Lib.hid (HB.out.call hb); clear hb; dsimp only; rw [if_neg h1, if_neg h1]
    repeat' (first | ((with_reducible show Oper.wp _ _ _ _ _ _); with_reducible refine is_st 144 _ _ rfl ?_; refine st_tc 0 HB rfl _ _ rfl rfl rfl ?_; clear HB; intro W HB; dsimp only [List.set] at HB; go_simp) | go_values | go_skip | go_guarded | go_step | go_upon)
    exact bodyPost_ret (res_tn rfl 0 HB rfl rfl rfl) rfl ⟨⟨0, tBool (decide (v = 1)), 0⟩, rfl, fun _ => ⟨rfl, rfl⟩, HB.out.bel⟩
set_option maxRecDepth 20000 in
set_option maxHeartbeats 4000000 in
theorem parse_28 (h : Rd w B 1 A n (l.map bv)) (hnc : n ≤ c) (hn : n ≤ 1000000000) (hB : B ≤ w.heap.size) (hi : i + 1 ≤ n) : Calls Tryz.prog 106 #[.int .i64 28, .agg #[.slice A n c, .int .i64 i]] w (PaOk w (⟨0, tErr (tu1 l i), 0⟩)) := by
  have HH := Lib.hid (And.intro h hB); have H1 : Hid (U8C A n c B l i (i + 1) (tu1 l i)) := Lib.hid (u8c hnc hn (by omega)); generalize tu1 l i = v at *; generalize i + 1 = j at *; clear hnc hn hi; clear h hB; have HB : Hid (BX w [] w) := Lib.hid (BX.start w); go_enter Tryz.func106, Tryz.ntmps106
  repeat' (first | ((with_reducible show Oper.wp _ _ _ _ _ _); with_reducible refine stop_bx _ rfl ?_) | go_values | go_skip | go_guarded | go_step | go_upon)
  refine Lib.hid ?_; refine al_g HB 82 (cu A n c i) (by kernel_rfl) ?_; clear HB
  (first | (have _t : Nat := g10; clear _t; intro g11 W HB) | (have _t : Nat := g9; clear _t; intro g10 W HB) | (have _t : Nat := g8; clear _t; intro g9 W HB) | (have _t : Nat := g7; clear _t; intro g8 W HB) | (have _t : Nat := g6; clear _t; intro g7 W HB) | (have _t : Nat := g5; clear _t; intro g6 W HB) | (have _t : Nat := g4; clear _t; intro g5 W HB) | (have _t : Nat := g3; clear _t; intro g4 W HB) | (have _t : Nat := g2; clear _t; intro g3 W HB) | (have _t : Nat := g1; clear _t; intro g2 W HB) | (have _t : Nat := g0; clear _t; intro g1 W HB) | intro g0 W HB)
  go_simp
  repeat' (first | ((with_reducible show Oper.wp _ _ _ _ _ _); (first | (with_reducible refine is_al 144 rfl ?_; refine al_g HB 144 (tc zp (.slice none 0 0) 0) (by kernel_rfl) ?_; clear HB; intro g1 W HB; go_simp) | (with_reducible refine is_ld 82 _ rfl ?_; refine ld_cu 1 HB rfl _ rfl rfl ?_; go_simp))) | go_values | go_skip | go_guarded | go_step | go_upon)
  refine (H1.out _ (HH.out.1.belowMono HB.out.bel HH.out.2) (Nat.le_trans HH.out.2 HB.out.bel.size)).mono ?_; rintro e W1 ⟨rfl, hb⟩; have HB := Lib.hid (HB.out.call hb); clear hb; dsimp only
  repeat' (first | ((with_reducible show Oper.wp _ _ _ _ _ _); (first | (with_reducible refine is_al 82 rfl ?_; refine al_g HB 82 (cu none 0 0 0) (by kernel_rfl) ?_; clear HB; intro g2 W HB; go_simp) | (with_reducible refine is_st 82 _ _ rfl ?_; refine st_cu 0 HB rfl _ _ rfl rfl rfl ?_; clear HB; intro W HB; dsimp only [List.set] at HB; go_simp))) | go_values | go_skip | go_guarded | go_step | go_upon)
  refine (pfault_any v).mono ?_; rintro e W1 ⟨rfl, hb⟩; have HB := Lib.hid (HB.out.call hb); clear hb; dsimp only
  repeat' (first | go_values | go_skip | go_guarded | go_step | go_upon)
  refine (constant_any _ 4 0 0 ⟨#[]⟩ false v).mono ?_; rintro e W1 ⟨rfl, hb⟩; have HB := Lib.hid (HB.out.call hb); clear hb; dsimp only
  repeat' (first | ((with_reducible show Oper.wp _ _ _ _ _ _); with_reducible refine is_st 144 _ _ rfl ?_; refine st_tc 1 HB rfl _ _ rfl rfl rfl ?_; clear HB; intro W HB; dsimp only [List.set] at HB; go_simp) | go_values | go_skip | go_guarded | go_step | go_upon)
  exact bodyPost_ret (res_tn rfl 1 HB rfl rfl rfl) rfl ⟨⟨0, tErr v, 0⟩, rfl, fun _ => ⟨rfl, rfl⟩, HB.out.bel⟩
set_option maxRecDepth 20000 in
set_option maxHeartbeats 4000000 in
theorem parse_36 (h : Rd w B 1 A n (l.map bv)) (hnc : n ≤ c) (hn : n ≤ 1000000000) (hB : B ≤ w.heap.size) (hi : i + 4 ≤ n) : Calls Tryz.prog 106 #[.int .i64 36, .agg #[.slice A n c, .int .i64 i]] w (PaOk w (plT 2 l i)) := by
  have HH := Lib.hid (And.intro h hB); have H1 : Hid (∀ W : World, Rd W B 1 A n (l.map bv) → B ≤ W.heap.size → Calls Tryz.prog 124 #[.int .i64 2, .agg #[.slice A n c, .int .i64 i]] W (PlOk W (plT 2 l i))) := Lib.hid fun W hr hw => place_2 hr hnc hn hw hi; generalize plT 2 l i = g at *; clear hnc hn hi; clear h hB; have HB : Hid (BX w [] w) := Lib.hid (BX.start w); go_enter Tryz.func106, Tryz.ntmps106
  repeat' (first | ((with_reducible show Oper.wp _ _ _ _ _ _); with_reducible refine stop_bx _ rfl ?_) | go_values | go_skip | go_guarded | go_step | go_upon)
  refine Lib.hid ?_; refine al_g HB 82 (cu A n c i) (by kernel_rfl) ?_; clear HB
  (first | (have _t : Nat := g10; clear _t; intro g11 W HB) | (have _t : Nat := g9; clear _t; intro g10 W HB) | (have _t : Nat := g8; clear _t; intro g9 W HB) | (have _t : Nat := g7; clear _t; intro g8 W HB) | (have _t : Nat := g6; clear _t; intro g7 W HB) | (have _t : Nat := g5; clear _t; intro g6 W HB) | (have _t : Nat := g4; clear _t; intro g5 W HB) | (have _t : Nat := g3; clear _t; intro g4 W HB) | (have _t : Nat := g2; clear _t; intro g3 W HB) | (have _t : Nat := g1; clear _t; intro g2 W HB) | (have _t : Nat := g0; clear _t; intro g1 W HB) | intro g0 W HB)
  go_simp
  repeat' (first | ((with_reducible show Oper.wp _ _ _ _ _ _); (first | (with_reducible refine is_al 144 rfl ?_; refine al_g HB 144 (tc zp (.slice none 0 0) 0) (by kernel_rfl) ?_; clear HB; intro g1 W HB; go_simp) | (with_reducible refine is_ld 82 _ rfl ?_; refine ld_cu 1 HB rfl _ rfl rfl ?_; go_simp))) | go_values | go_skip | go_guarded | go_step | go_upon)
  refine (H1.out _ (HH.out.1.belowMono HB.out.bel HH.out.2) (Nat.le_trans HH.out.2 HB.out.bel.size)).mono ?_; rintro e W1 ⟨q, rfl, hq, hb⟩; have HB := Lib.hid (HB.out.call hb); have HQ := Lib.hid hq; clear hb hq; dsimp only
  repeat' (first | ((with_reducible show Oper.wp _ _ _ _ _ _); with_reducible refine is_st 144 _ _ rfl ?_; refine st_tc 0 HB rfl _ _ rfl rfl rfl ?_; clear HB; intro W HB; dsimp only [List.set] at HB; go_simp) | go_values | go_skip | go_guarded | go_step | go_upon)
  exact bodyPost_ret (res_tn rfl 0 HB rfl rfl rfl) rfl ⟨⟨0, q, 0⟩, rfl, fun h => ⟨(HQ.out h).1.symm, (HQ.out h).2.symm⟩, HB.out.bel⟩
set_option maxRecDepth 20000 in
set_option maxHeartbeats 4000000 in
theorem parse_37 (h : Rd w B 1 A n (l.map bv)) (hnc : n ≤ c) (hn : n ≤ 1000000000) (hB : B ≤ w.heap.size) (hi : i + 8 ≤ n) : Calls Tryz.prog 106 #[.int .i64 37, .agg #[.slice A n c, .int .i64 i]] w (PaOk w (plT 3 l i)) := by
  have HH := Lib.hid (And.intro h hB); have H1 : Hid (∀ W : World, Rd W B 1 A n (l.map bv) → B ≤ W.heap.size → Calls Tryz.prog 124 #[.int .i64 3, .agg #[.slice A n c, .int .i64 i]] W (PlOk W (plT 3 l i))) := Lib.hid fun W hr hw => place_3 hr hnc hn hw hi; generalize plT 3 l i = g at *; clear hnc hn hi; clear h hB; have HB : Hid (BX w [] w) := Lib.hid (BX.start w); go_enter Tryz.func106, Tryz.ntmps106
  repeat' (first | ((with_reducible show Oper.wp _ _ _ _ _ _); with_reducible refine stop_bx _ rfl ?_) | go_values | go_skip | go_guarded | go_step | go_upon)
  refine Lib.hid ?_; refine al_g HB 82 (cu A n c i) (by kernel_rfl) ?_; clear HB
  (first | (have _t : Nat := g10; clear _t; intro g11 W HB) | (have _t : Nat := g9; clear _t; intro g10 W HB) | (have _t : Nat := g8; clear _t; intro g9 W HB) | (have _t : Nat := g7; clear _t; intro g8 W HB) | (have _t : Nat := g6; clear _t; intro g7 W HB) | (have _t : Nat := g5; clear _t; intro g6 W HB) | (have _t : Nat := g4; clear _t; intro g5 W HB) | (have _t : Nat := g3; clear _t; intro g4 W HB) | (have _t : Nat := g2; clear _t; intro g3 W HB) | (have _t : Nat := g1; clear _t; intro g2 W HB) | (have _t : Nat := g0; clear _t; intro g1 W HB) | intro g0 W HB)
  go_simp
  repeat' (first | ((with_reducible show Oper.wp _ _ _ _ _ _); (first | (with_reducible refine is_al 144 rfl ?_; refine al_g HB 144 (tc zp (.slice none 0 0) 0) (by kernel_rfl) ?_; clear HB; intro g1 W HB; go_simp) | (with_reducible refine is_ld 82 _ rfl ?_; refine ld_cu 1 HB rfl _ rfl rfl ?_; go_simp))) | go_values | go_skip | go_guarded | go_step | go_upon)
  refine (H1.out _ (HH.out.1.belowMono HB.out.bel HH.out.2) (Nat.le_trans HH.out.2 HB.out.bel.size)).mono ?_; rintro e W1 ⟨q, rfl, hq, hb⟩; have HB := Lib.hid (HB.out.call hb); have HQ := Lib.hid hq; clear hb hq; dsimp only
  repeat' (first | ((with_reducible show Oper.wp _ _ _ _ _ _); with_reducible refine is_st 144 _ _ rfl ?_; refine st_tc 0 HB rfl _ _ rfl rfl rfl ?_; clear HB; intro W HB; dsimp only [List.set] at HB; go_simp) | go_values | go_skip | go_guarded | go_step | go_upon)
  exact bodyPost_ret (res_tn rfl 0 HB rfl rfl rfl) rfl ⟨⟨0, q, 0⟩, rfl, fun h => ⟨(HQ.out h).1.symm, (HQ.out h).2.symm⟩, HB.out.bel⟩
set_option maxRecDepth 20000 in
set_option maxHeartbeats 4000000 in
theorem parse_58 (h : Rd w B 1 A n (l.map bv)) (hnc : n ≤ c) (hn : n ≤ 1000000000) (hB : B ≤ w.heap.size) (hi : i + 5 ≤ n) : Calls Tryz.prog 106 #[.int .i64 58, .agg #[.slice A n c, .int .i64 i]] w (PaOk w (plT 4 l i)) := by
  have HH := Lib.hid (And.intro h hB); have H1 : Hid (∀ W : World, Rd W B 1 A n (l.map bv) → B ≤ W.heap.size → Calls Tryz.prog 124 #[.int .i64 4, .agg #[.slice A n c, .int .i64 i]] W (PlOk W (plT 4 l i))) := Lib.hid fun W hr hw => place_4 hr hnc hn hw hi; generalize plT 4 l i = g at *; clear hnc hn hi; clear h hB; have HB : Hid (BX w [] w) := Lib.hid (BX.start w); go_enter Tryz.func106, Tryz.ntmps106
  repeat' (first | ((with_reducible show Oper.wp _ _ _ _ _ _); with_reducible refine stop_bx _ rfl ?_) | go_values | go_skip | go_guarded | go_step | go_upon)
  refine Lib.hid ?_; refine al_g HB 82 (cu A n c i) (by kernel_rfl) ?_; clear HB
  (first | (have _t : Nat := g10; clear _t; intro g11 W HB) | (have _t : Nat := g9; clear _t; intro g10 W HB) | (have _t : Nat := g8; clear _t; intro g9 W HB) | (have _t : Nat := g7; clear _t; intro g8 W HB) | (have _t : Nat := g6; clear _t; intro g7 W HB) | (have _t : Nat := g5; clear _t; intro g6 W HB) | (have _t : Nat := g4; clear _t; intro g5 W HB) | (have _t : Nat := g3; clear _t; intro g4 W HB) | (have _t : Nat := g2; clear _t; intro g3 W HB) | (have _t : Nat := g1; clear _t; intro g2 W HB) | (have _t : Nat := g0; clear _t; intro g1 W HB) | intro g0 W HB)
  go_simp
  repeat' (first | ((with_reducible show Oper.wp _ _ _ _ _ _); (first | (with_reducible refine is_al 144 rfl ?_; refine al_g HB 144 (tc zp (.slice none 0 0) 0) (by kernel_rfl) ?_; clear HB; intro g1 W HB; go_simp) | (with_reducible refine is_ld 82 _ rfl ?_; refine ld_cu 1 HB rfl _ rfl rfl ?_; go_simp))) | go_values | go_skip | go_guarded | go_step | go_upon)
  refine (H1.out _ (HH.out.1.belowMono HB.out.bel HH.out.2) (Nat.le_trans HH.out.2 HB.out.bel.size)).mono ?_; rintro e W1 ⟨q, rfl, hq, hb⟩; have HB := Lib.hid (HB.out.call hb); have HQ := Lib.hid hq; clear hb hq; dsimp only
  repeat' (first | ((with_reducible show Oper.wp _ _ _ _ _ _); with_reducible refine is_st 144 _ _ rfl ?_; refine st_tc 0 HB rfl _ _ rfl rfl rfl ?_; clear HB; intro W HB; dsimp only [List.set] at HB; go_simp) | go_values | go_skip | go_guarded | go_step | go_upon)
  exact bodyPost_ret (res_tn rfl 0 HB rfl rfl rfl) rfl ⟨⟨0, q, 0⟩, rfl, fun h => ⟨(HQ.out h).1.symm, (HQ.out h).2.symm⟩, HB.out.bel⟩
set_option maxRecDepth 20000 in
set_option maxHeartbeats 4000000 in
theorem parse_59 (h : Rd w B 1 A n (l.map bv)) (hnc : n ≤ c) (hn : n ≤ 1000000000) (hB : B ≤ w.heap.size) (hi : i + 9 ≤ n) : Calls Tryz.prog 106 #[.int .i64 59, .agg #[.slice A n c, .int .i64 i]] w (PaOk w (plT 5 l i)) := by
  have HH := Lib.hid (And.intro h hB); have H1 : Hid (∀ W : World, Rd W B 1 A n (l.map bv) → B ≤ W.heap.size → Calls Tryz.prog 124 #[.int .i64 5, .agg #[.slice A n c, .int .i64 i]] W (PlOk W (plT 5 l i))) := Lib.hid fun W hr hw => place_5 hr hnc hn hw hi; generalize plT 5 l i = g at *; clear hnc hn hi; clear h hB; have HB : Hid (BX w [] w) := Lib.hid (BX.start w); go_enter Tryz.func106, Tryz.ntmps106
  repeat' (first | ((with_reducible show Oper.wp _ _ _ _ _ _); with_reducible refine stop_bx _ rfl ?_) | go_values | go_skip | go_guarded | go_step | go_upon)
  refine Lib.hid ?_; refine al_g HB 82 (cu A n c i) (by kernel_rfl) ?_; clear HB
  (first | (have _t : Nat := g10; clear _t; intro g11 W HB) | (have _t : Nat := g9; clear _t; intro g10 W HB) | (have _t : Nat := g8; clear _t; intro g9 W HB) | (have _t : Nat := g7; clear _t; intro g8 W HB) | (have _t : Nat := g6; clear _t; intro g7 W HB) | (have _t : Nat := g5; clear _t; intro g6 W HB) | (have _t : Nat := g4; clear _t; intro g5 W HB) | (have _t : Nat := g3; clear _t; intro g4 W HB) | (have _t : Nat := g2; clear _t; intro g3 W HB) | (have _t : Nat := g1; clear _t; intro g2 W HB) | (have _t : Nat := g0; clear _t; intro g1 W HB) | intro g0 W HB)
  go_simp
  repeat' (first | ((with_reducible show Oper.wp _ _ _ _ _ _); (first | (with_reducible refine is_al 144 rfl ?_; refine al_g HB 144 (tc zp (.slice none 0 0) 0) (by kernel_rfl) ?_; clear HB; intro g1 W HB; go_simp) | (with_reducible refine is_ld 82 _ rfl ?_; refine ld_cu 1 HB rfl _ rfl rfl ?_; go_simp))) | go_values | go_skip | go_guarded | go_step | go_upon)
  refine (H1.out _ (HH.out.1.belowMono HB.out.bel HH.out.2) (Nat.le_trans HH.out.2 HB.out.bel.size)).mono ?_; rintro e W1 ⟨q, rfl, hq, hb⟩; have HB := Lib.hid (HB.out.call hb); have HQ := Lib.hid hq; clear hb hq; dsimp only
  repeat' (first | ((with_reducible show Oper.wp _ _ _ _ _ _); with_reducible refine is_st 144 _ _ rfl ?_; refine st_tc 0 HB rfl _ _ rfl rfl rfl ?_; clear HB; intro W HB; dsimp only [List.set] at HB; go_simp) | go_values | go_skip | go_guarded | go_step | go_upon)
  exact bodyPost_ret (res_tn rfl 0 HB rfl rfl rfl) rfl ⟨⟨0, q, 0⟩, rfl, fun h => ⟨(HQ.out h).1.symm, (HQ.out h).2.symm⟩, HB.out.bel⟩
set_option maxRecDepth 20000 in
set_option maxHeartbeats 4000000 in
theorem parse_35 (h : Rd w B 1 A n (l.map bv)) (hnc : n ≤ c) (hn : n ≤ 1000000000) (hB : B ≤ w.heap.size) (hi : i + 2 ≤ n) : Calls Tryz.prog 106 #[.int .i64 35, .agg #[.slice A n c, .int .i64 i]] w (PaOk w (⟨0, tOp 6 (tu2 l i), 0⟩)) := by
  have HH := Lib.hid (And.intro h hB); have H1 := Lib.hid (fun (W : World) (hr : Rd W B 1 A n (l.map bv)) (hw : B ≤ W.heap.size) => u16_at (j := i + 2) hr hnc hn hw rfl hi); generalize tu2 l i = v at *; generalize i + 2 = j at *; clear hnc hn hi; clear h hB; have HB : Hid (BX w [] w) := Lib.hid (BX.start w); go_enter Tryz.func106, Tryz.ntmps106
  repeat' (first | ((with_reducible show Oper.wp _ _ _ _ _ _); with_reducible refine stop_bx _ rfl ?_) | go_values | go_skip | go_guarded | go_step | go_upon)
  refine Lib.hid ?_; refine al_g HB 82 (cu A n c i) (by kernel_rfl) ?_; clear HB
  (first | (have _t : Nat := g10; clear _t; intro g11 W HB) | (have _t : Nat := g9; clear _t; intro g10 W HB) | (have _t : Nat := g8; clear _t; intro g9 W HB) | (have _t : Nat := g7; clear _t; intro g8 W HB) | (have _t : Nat := g6; clear _t; intro g7 W HB) | (have _t : Nat := g5; clear _t; intro g6 W HB) | (have _t : Nat := g4; clear _t; intro g5 W HB) | (have _t : Nat := g3; clear _t; intro g4 W HB) | (have _t : Nat := g2; clear _t; intro g3 W HB) | (have _t : Nat := g1; clear _t; intro g2 W HB) | (have _t : Nat := g0; clear _t; intro g1 W HB) | intro g0 W HB)
  go_simp
  repeat' (first | ((with_reducible show Oper.wp _ _ _ _ _ _); (first | (with_reducible refine is_al 144 rfl ?_; refine al_g HB 144 (tc zp (.slice none 0 0) 0) (by kernel_rfl) ?_; clear HB; intro g1 W HB; go_simp) | (with_reducible refine is_ld 82 _ rfl ?_; refine ld_cu 1 HB rfl _ rfl rfl ?_; go_simp))) | go_values | go_skip | go_guarded | go_step | go_upon)
  refine (H1.out _ (HH.out.1.belowMono HB.out.bel HH.out.2) (Nat.le_trans HH.out.2 HB.out.bel.size)).mono ?_; rintro e W1 ⟨rfl, hb⟩; have HB := Lib.hid (HB.out.call hb); clear hb; dsimp only
  repeat' (first | ((with_reducible show Oper.wp _ _ _ _ _ _); (first | (with_reducible refine is_al 82 rfl ?_; refine al_g HB 82 (cu none 0 0 0) (by kernel_rfl) ?_; clear HB; intro g2 W HB; go_simp) | (with_reducible refine is_st 82 _ _ rfl ?_; refine st_cu 0 HB rfl _ _ rfl rfl rfl ?_; clear HB; intro W HB; dsimp only [List.set] at HB; go_simp))) | go_values | go_skip | go_guarded | go_step | go_upon)
  refine (node_any _ 6 v 0).mono ?_; rintro e W1 ⟨rfl, hb⟩; have HB := Lib.hid (HB.out.call hb); clear hb; dsimp only
  repeat' (first | ((with_reducible show Oper.wp _ _ _ _ _ _); with_reducible refine is_st 144 _ _ rfl ?_; refine st_tc 1 HB rfl _ _ rfl rfl rfl ?_; clear HB; intro W HB; dsimp only [List.set] at HB; go_simp) | go_values | go_skip | go_guarded | go_step | go_upon)
  exact bodyPost_ret (res_tn rfl 1 HB rfl rfl rfl) rfl ⟨⟨0, tOp 6 v, 0⟩, rfl, fun _ => ⟨rfl, rfl⟩, HB.out.bel⟩
set_option maxRecDepth 20000 in
set_option maxHeartbeats 4000000 in
theorem parse_34 (h : Rd w B 1 A n (l.map bv)) (hnc : n ≤ c) (hn : n ≤ 1000000000) (hB : B ≤ w.heap.size) (hi : i + 2 ≤ n) : Calls Tryz.prog 106 #[.int .i64 34, .agg #[.slice A n c, .int .i64 i]] w (PaOk w (⟨0, tOp 9 (tu1 l (i + 1)), (tu1 l i).toNat⟩)) := by
  have HH := Lib.hid (And.intro h hB); have H1 : Hid (U8C A n c B l i (i + 1) (tu1 l i)) := Lib.hid (u8c hnc hn (by omega)); have H2 : Hid (U8C A n c B l (i + 1) ((i + 1) + 1) (tu1 l (i + 1))) := Lib.hid (u8c hnc hn (by omega)); obtain ⟨v, hv⟩ : ∃ v : Nat, tu1 l i = v := ⟨(tu1 l i).toNat, by have := tu1_bd l i; omega⟩
  rw [hv] at H1 ⊢; generalize tu1 l (i + 1) = u at *; generalize i + 1 + 1 = j' at *; generalize i + 1 = j at *; clear hnc hn hi hv; clear h hB; have HB : Hid (BX w [] w) := Lib.hid (BX.start w); go_enter Tryz.func106, Tryz.ntmps106
  repeat' (first | ((with_reducible show Oper.wp _ _ _ _ _ _); with_reducible refine stop_bx _ rfl ?_) | go_values | go_skip | go_guarded | go_step | go_upon)
  refine Lib.hid ?_; refine al_g HB 82 (cu A n c i) (by kernel_rfl) ?_; clear HB
  (first | (have _t : Nat := g10; clear _t; intro g11 W HB) | (have _t : Nat := g9; clear _t; intro g10 W HB) | (have _t : Nat := g8; clear _t; intro g9 W HB) | (have _t : Nat := g7; clear _t; intro g8 W HB) | (have _t : Nat := g6; clear _t; intro g7 W HB) | (have _t : Nat := g5; clear _t; intro g6 W HB) | (have _t : Nat := g4; clear _t; intro g5 W HB) | (have _t : Nat := g3; clear _t; intro g4 W HB) | (have _t : Nat := g2; clear _t; intro g3 W HB) | (have _t : Nat := g1; clear _t; intro g2 W HB) | (have _t : Nat := g0; clear _t; intro g1 W HB) | intro g0 W HB)
  go_simp
  repeat' (first | ((with_reducible show Oper.wp _ _ _ _ _ _); (first | (with_reducible refine is_al 144 rfl ?_; refine al_g HB 144 (tc zp (.slice none 0 0) 0) (by kernel_rfl) ?_; clear HB; intro g1 W HB; go_simp) | (with_reducible refine is_ld 82 _ rfl ?_; refine ld_cu 1 HB rfl _ rfl rfl ?_; go_simp))) | go_values | go_skip | go_guarded | go_step | go_upon)
  refine (H1.out _ (HH.out.1.belowMono HB.out.bel HH.out.2) (Nat.le_trans HH.out.2 HB.out.bel.size)).mono ?_; rintro e W1 ⟨rfl, hb⟩; have HB := Lib.hid (HB.out.call hb); clear hb; dsimp only
  repeat' (first | ((with_reducible show Oper.wp _ _ _ _ _ _); (first | (with_reducible refine is_al 82 rfl ?_; refine al_g HB 82 (cu none 0 0 0) (by kernel_rfl) ?_; clear HB; intro g2 W HB; go_simp) | (with_reducible refine is_ld 82 _ rfl ?_; refine ld_cu 0 HB rfl _ rfl rfl ?_; go_simp) | (with_reducible refine is_st 82 _ _ rfl ?_; refine st_cu 0 HB rfl _ _ rfl rfl rfl ?_; clear HB; intro W HB; dsimp only [List.set] at HB; go_simp))) | go_values | go_skip | go_guarded | go_step | go_upon)
  refine (H2.out _ (HH.out.1.belowMono HB.out.bel HH.out.2) (Nat.le_trans HH.out.2 HB.out.bel.size)).mono ?_; rintro e W1 ⟨rfl, hb⟩; have HB := Lib.hid (HB.out.call hb); clear hb; dsimp only
  repeat' (first | ((with_reducible show Oper.wp _ _ _ _ _ _); (first | (with_reducible refine is_al 82 rfl ?_; refine al_g HB 82 (cu none 0 0 0) (by kernel_rfl) ?_; clear HB; intro g3 W HB; go_simp) | (with_reducible refine is_st 82 _ _ rfl ?_; refine st_cu 0 HB rfl _ _ rfl rfl rfl ?_; clear HB; intro W HB; dsimp only [List.set] at HB; go_simp))) | go_values | go_skip | go_guarded | go_step | go_upon)
  refine (node_any _ 9 u v).mono ?_; rintro e W1 ⟨rfl, hb⟩; have HB := Lib.hid (HB.out.call hb); clear hb; dsimp only
  repeat' (first | ((with_reducible show Oper.wp _ _ _ _ _ _); with_reducible refine is_st 144 _ _ rfl ?_; refine st_tc 2 HB rfl _ _ rfl rfl rfl ?_; clear HB; intro W HB; dsimp only [List.set] at HB; go_simp) | go_values | go_skip | go_guarded | go_step | go_upon)
  exact bodyPost_ret (res_tn rfl 2 HB rfl rfl rfl) rfl ⟨⟨0, tOp 9 u, v⟩, rfl, fun _ => ⟨rfl, rfl⟩, HB.out.bel⟩
set_option maxRecDepth 20000 in
set_option maxHeartbeats 4000000 in
theorem parse_sign (h : Rd w B 1 A n (l.map bv)) (hnc : n ≤ c) (hn : n ≤ 1000000000) (hB : B ≤ w.heap.size) {m : Int} (hm : 0 ≤ m ∧ m < 256) (h0 : ¬ m = 31) (h1 : ¬ m = 29) (h2 : ¬ m = 28) (h3 : ¬ m = 36) (h4 : ¬ m = 37) (h5 : ¬ m = 58) (h6 : ¬ m = 59) (h7 : ¬ m = 35) (h8 : ¬ m = 34) : Calls Tryz.prog 106 #[.int .i64 m, .agg #[.slice A n c, .int .i64 i]] w (PaOk w (sgT m)) := by
  have HM := Lib.hid hm; have g0 : (m == 31) = false := by rw [beq_eq_false_iff_ne]; exact h0
  have g1 : (m == 29) = false := by rw [beq_eq_false_iff_ne]; exact h1
  have g2 : (m == 28) = false := by rw [beq_eq_false_iff_ne]; exact h2
  have g3 : (m == 36) = false := by rw [beq_eq_false_iff_ne]; exact h3
  have g4 : (m == 37) = false := by rw [beq_eq_false_iff_ne]; exact h4
  have g5 : (m == 58) = false := by rw [beq_eq_false_iff_ne]; exact h5
  have g6 : (m == 59) = false := by rw [beq_eq_false_iff_ne]; exact h6
  have g7 : (m == 35) = false := by rw [beq_eq_false_iff_ne]; exact h7
  have g8 : (m == 34) = false := by rw [beq_eq_false_iff_ne]; exact h8
  clear hm h hnc hn hB h0 h1 h2 h3 h4 h5 h6 h7 h8; have HB : Hid (BX w [] w) := Lib.hid (BX.start w); go_enter Tryz.func106, Tryz.ntmps106
  repeat' (first | ((with_reducible show Oper.wp _ _ _ _ _ _); with_reducible refine stop_bx _ rfl ?_) | go_values | go_skip | go_guarded | go_step | go_upon)
  refine Lib.hid ?_; refine al_g HB 82 (cu A n c i) (by kernel_rfl) ?_; clear HB
  (first | (have _t : Nat := g10; clear _t; intro g11 W HB) | (have _t : Nat := g9; clear _t; intro g10 W HB) | (have _t : Nat := g8; clear _t; intro g9 W HB) | (have _t : Nat := g7; clear _t; intro g8 W HB) | (have _t : Nat := g6; clear _t; intro g7 W HB) | (have _t : Nat := g5; clear _t; intro g6 W HB) | (have _t : Nat := g4; clear _t; intro g5 W HB) | (have _t : Nat := g3; clear _t; intro g4 W HB) | (have _t : Nat := g2; clear _t; intro g3 W HB) | (have _t : Nat := g1; clear _t; intro g2 W HB) | (have _t : Nat := g0; clear _t; intro g1 W HB) | intro g0 W HB)
  go_simp
  repeat' (first | ((with_reducible show Oper.wp _ _ _ _ _ _); with_reducible refine is_al 144 rfl ?_; refine al_g HB 144 (tc zp (.slice none 0 0) 0) (by kernel_rfl) ?_; clear HB; intro g1 W HB; go_simp) | go_values | go_skip | go_guarded | go_step | go_upon)
  refine (parseSign_any _ m HM.out).mono ?_; rintro e W1 ⟨rfl, hb⟩; have HB := Lib.hid (HB.out.call hb); clear hb; dsimp only
  repeat' (first | ((with_reducible show Oper.wp _ _ _ _ _ _); with_reducible refine is_st 144 _ _ rfl ?_; refine st_tc 0 HB rfl _ _ rfl rfl rfl ?_; clear HB; intro W HB; dsimp only [List.set] at HB; go_simp) | go_values | go_skip | go_guarded | go_step | go_upon)
  generalize sgT m = g at *; exact bodyPost_ret (res_tn rfl 0 HB rfl rfl rfl) rfl ⟨g, rfl, fun _ => ⟨rfl, rfl⟩, HB.out.bel⟩
theorem parse_any (h : Rd w B 1 A n (l.map bv)) (hnc : n ≤ c) (hn : n ≤ 1000000000) (hB : B ≤ w.heap.size) {m : Int} (hm : 0 ≤ m ∧ m < 256) (hi : (i : Int) + szT m ≤ n) : Calls Tryz.prog 106 #[.int .i64 m, .agg #[.slice A n c, .int .i64 i]] w (PaOk w (paT m l i)) := by
  by_cases h31 : m = 31
  · subst h31; exact parse_31 h hnc hn hB (by have : szT 31 = 9 := rfl; omega)
  by_cases h29 : m = 29
  · subst h29; exact parse_29 h hnc hn hB (by have : szT 29 = 1 := rfl; omega)
  by_cases h28 : m = 28
  · subst h28; exact parse_28 h hnc hn hB (by have : szT 28 = 1 := rfl; omega)
  by_cases h36 : m = 36
  · subst h36; exact parse_36 h hnc hn hB (by have : szT 36 = 4 := rfl; omega)
  by_cases h37 : m = 37
  · subst h37; exact parse_37 h hnc hn hB (by have : szT 37 = 8 := rfl; omega)
  by_cases h58 : m = 58
  · subst h58; exact parse_58 h hnc hn hB (by have : szT 58 = 5 := rfl; omega)
  by_cases h59 : m = 59
  · subst h59; exact parse_59 h hnc hn hB (by have : szT 59 = 9 := rfl; omega)
  by_cases h35 : m = 35
  · subst h35; exact parse_35 h hnc hn hB (by have : szT 35 = 2 := rfl; omega)
  by_cases h34 : m = 34
  · subst h34; exact parse_34 h hnc hn hB (by have : szT 34 = 2 := rfl; omega)
  unfold paT; rw [if_neg h31, if_neg h29, if_neg h28, if_neg h36, if_neg h37, if_neg h58, if_neg h59, if_neg h35, if_neg h34]; exact parse_sign h hnc hn hB hm h31 h29 h28 h36 h37 h58 h59 h35 h34
end
end Go.Proofs.YtlaiocdnddnnaaaGreatDoor
