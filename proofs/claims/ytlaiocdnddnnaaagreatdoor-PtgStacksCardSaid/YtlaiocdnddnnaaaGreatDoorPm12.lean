/- ptg.parsePlace, parseNum, parseBool, val.Fault, by their contracts. Condition: the bytes read as such, and are enough. -/
import Derived.Test.YtlaiocdnddnnaaaGreatDoorPl12
import Derived.Test.YtlaiocdnddnnaaaGreatDoorV0
set_option linter.unusedVariables false
set_option linter.unusedSimpArgs false
namespace Go.Proofs.YtlaiocdnddnnaaaGreatDoor
open Go.RowKit
theorem rfE_two {l : List UInt8} {i : Nat} (h : ¬ rfE l i = 0) : rfE l i = 2 := by
  unfold rfE at *
  split at h
  · rename_i h2; rw [if_pos h2]
  · exact absurd rfl h
section
variable {w : World} {B n c i : Nat} {A : Option Addr} {l : List UInt8}
theorem rfc_ok (hnc : n ≤ c) (hn : n ≤ 1000000000) (hi : i + 4 ≤ n) (h : rfE l i = 0) : RfC A n c B l i (i + 4) (rc (tu2 l i) (tu1 l (i + 2)) (oddB (tu1 l (i + 3))) (twoB (tu1 l (i + 3)))) 0 := fun W hr hw => by
  have := parseRef_any hr hnc hn hw hi; rw [rfV, if_pos h, h] at this; exact this
theorem rfc_no (hnc : n ≤ c) (hn : n ≤ 1000000000) (hi : i + 4 ≤ n) (h : ¬ rfE l i = 0) : RfC A n c B l i (i + 4) (rc 0 0 false false) 2 := fun W hr hw => by
  have := parseRef_any hr hnc hn hw hi; rw [rfV, if_neg h, rfE_two h] at this; exact this
theorem u8c (hnc : n ≤ c) (hn : n ≤ 1000000000) (hi : i + 1 ≤ n) : U8C A n c B l i (i + 1) (tu1 l i) := fun W hr hw => u8_at hr hnc hn hw rfl hi
theorem place_2 (h : Rd w B 1 A n (l.map bv)) (hnc : n ≤ c) (hn : n ≤ 1000000000) (hB : B ≤ w.heap.size) (hi : i + 4 ≤ n) : Calls Tryz.prog 124 #[.int .i64 2, .agg #[.slice A n c, .int .i64 i]] w (PlOk w (plT 2 l i)) := by
  by_cases r1 : rfE l i = 0
  · refine (place_2_0 (sv := 0) (r2 := 0) (c2 := 0) (x2 := false) (y2 := false) (Lib.hid ⟨h, hB⟩) (Lib.hid (rfc_ok hnc hn (by omega) r1)) ).mono ?_; rintro e W ⟨rfl, hb⟩; have e : plT 2 l i = ⟨0, { zp with kind := 2, r1 := tu2 l i, c1 := tu1 l (i + 2), x1 := oddB (tu1 l (i + 3)), y1 := twoB (tu1 l (i + 3)) }, 0⟩ := by simp only [plT, show hasS 2 = false from rfl, show hasA 2 = false from rfl, r1, if_true, Bool.false_eq_true, if_false] <;> rfl
    rw [e]; exact ⟨_, rfl, fun _ => ⟨rfl, rfl⟩, hb⟩
  · refine (place_2_1 (sv := 0) (r1 := 0) (c1 := 0) (x1 := false) (y1 := false) (r2 := 0) (c2 := 0) (x2 := false) (y2 := false) (Lib.hid ⟨h, hB⟩) (Lib.hid (rfc_no hnc hn (by omega) r1)) ).mono ?_; rintro e W ⟨rfl, hb⟩; have e : plT 2 l i = ⟨2, zp, 0⟩ := by simp only [plT, show hasS 2 = false from rfl, show hasA 2 = false from rfl, r1, if_true, Bool.false_eq_true, if_false]
    rw [e]; exact ⟨_, rfl, fun h => (by cases h), hb⟩
theorem place_3 (h : Rd w B 1 A n (l.map bv)) (hnc : n ≤ c) (hn : n ≤ 1000000000) (hB : B ≤ w.heap.size) (hi : i + 8 ≤ n) : Calls Tryz.prog 124 #[.int .i64 3, .agg #[.slice A n c, .int .i64 i]] w (PlOk w (plT 3 l i)) := by
  by_cases r1 : rfE l i = 0
  · by_cases r2 : rfE l (i + 4) = 0
    · refine (place_3_0 (sv := 0) (Lib.hid ⟨h, hB⟩) (Lib.hid (rfc_ok hnc hn (by omega) r1)) (Lib.hid (rfc_ok hnc hn (by omega) r2))).mono ?_; rintro e W ⟨rfl, hb⟩; have e : plT 3 l i = ⟨0, { zp with kind := 3, r1 := tu2 l i, c1 := tu1 l (i + 2), x1 := oddB (tu1 l (i + 3)), y1 := twoB (tu1 l (i + 3)), r2 := tu2 l (i + 4), c2 := tu1 l (i + 6), x2 := oddB (tu1 l (i + 7)), y2 := twoB (tu1 l (i + 7)) }, 0⟩ := by simp only [plT, show hasS 3 = false from rfl, show hasA 3 = true from rfl, r1, r2, if_true, Bool.false_eq_true, if_false] <;> rfl
      rw [e]; exact ⟨_, rfl, fun _ => ⟨rfl, rfl⟩, hb⟩
    · refine (place_3_2 (sv := 0) (r2 := 0) (c2 := 0) (x2 := false) (y2 := false) (Lib.hid ⟨h, hB⟩) (Lib.hid (rfc_ok hnc hn (by omega) r1)) (Lib.hid (rfc_no hnc hn (by omega) r2))).mono ?_; rintro e W ⟨rfl, hb⟩; have e : plT 3 l i = ⟨2, zp, 0⟩ := by simp only [plT, show hasS 3 = false from rfl, show hasA 3 = true from rfl, r1, r2, if_true, Bool.false_eq_true, if_false]
      rw [e]; exact ⟨_, rfl, fun h => (by cases h), hb⟩
  · refine (place_3_1 (sv := 0) (r1 := 0) (c1 := 0) (x1 := false) (y1 := false) (r2 := 0) (c2 := 0) (x2 := false) (y2 := false) (Lib.hid ⟨h, hB⟩) (Lib.hid (rfc_no hnc hn (by omega) r1)) ).mono ?_; rintro e W ⟨rfl, hb⟩; have e : plT 3 l i = ⟨2, zp, 0⟩ := by simp only [plT, show hasS 3 = false from rfl, show hasA 3 = true from rfl, r1, if_true, Bool.false_eq_true, if_false]
    rw [e]; exact ⟨_, rfl, fun h => (by cases h), hb⟩
theorem place_4 (h : Rd w B 1 A n (l.map bv)) (hnc : n ≤ c) (hn : n ≤ 1000000000) (hB : B ≤ w.heap.size) (hi : i + 5 ≤ n) : Calls Tryz.prog 124 #[.int .i64 4, .agg #[.slice A n c, .int .i64 i]] w (PlOk w (plT 4 l i)) := by
  by_cases r1 : rfE l (i + 1) = 0
  · refine (place_4_0 (r2 := 0) (c2 := 0) (x2 := false) (y2 := false) (Lib.hid ⟨h, hB⟩) (Lib.hid (u8c hnc hn (by omega))) (Lib.hid (rfc_ok hnc hn (by omega) r1)) ).mono ?_; rintro e W ⟨rfl, hb⟩; have e : plT 4 l i = ⟨0, { zp with kind := 4, sheet := tu1 l i, r1 := tu2 l (i + 1), c1 := tu1 l ((i + 1) + 2), x1 := oddB (tu1 l ((i + 1) + 3)), y1 := twoB (tu1 l ((i + 1) + 3)) }, 0⟩ := by simp only [plT, show hasS 4 = true from rfl, show hasA 4 = false from rfl, r1, if_true, Bool.false_eq_true, if_false] <;> rfl
    rw [e]; exact ⟨_, rfl, fun _ => ⟨rfl, rfl⟩, hb⟩
  · refine (place_4_1 (r1 := 0) (c1 := 0) (x1 := false) (y1 := false) (r2 := 0) (c2 := 0) (x2 := false) (y2 := false) (Lib.hid ⟨h, hB⟩) (Lib.hid (u8c hnc hn (by omega))) (Lib.hid (rfc_no hnc hn (by omega) r1)) ).mono ?_; rintro e W ⟨rfl, hb⟩; have e : plT 4 l i = ⟨2, zp, 0⟩ := by simp only [plT, show hasS 4 = true from rfl, show hasA 4 = false from rfl, r1, if_true, Bool.false_eq_true, if_false]
    rw [e]; exact ⟨_, rfl, fun h => (by cases h), hb⟩
theorem place_5 (h : Rd w B 1 A n (l.map bv)) (hnc : n ≤ c) (hn : n ≤ 1000000000) (hB : B ≤ w.heap.size) (hi : i + 9 ≤ n) : Calls Tryz.prog 124 #[.int .i64 5, .agg #[.slice A n c, .int .i64 i]] w (PlOk w (plT 5 l i)) := by
  by_cases r1 : rfE l (i + 1) = 0
  · by_cases r2 : rfE l ((i + 1) + 4) = 0
    · refine (place_5_0 (Lib.hid ⟨h, hB⟩) (Lib.hid (u8c hnc hn (by omega))) (Lib.hid (rfc_ok hnc hn (by omega) r1)) (Lib.hid (rfc_ok hnc hn (by omega) r2))).mono ?_; rintro e W ⟨rfl, hb⟩; have e : plT 5 l i = ⟨0, { zp with kind := 5, sheet := tu1 l i, r1 := tu2 l (i + 1), c1 := tu1 l ((i + 1) + 2), x1 := oddB (tu1 l ((i + 1) + 3)), y1 := twoB (tu1 l ((i + 1) + 3)), r2 := tu2 l ((i + 1) + 4), c2 := tu1 l ((i + 1) + 6), x2 := oddB (tu1 l ((i + 1) + 7)), y2 := twoB (tu1 l ((i + 1) + 7)) }, 0⟩ := by simp only [plT, show hasS 5 = true from rfl, show hasA 5 = true from rfl, r1, r2, if_true, Bool.false_eq_true, if_false] <;> rfl
      rw [e]; exact ⟨_, rfl, fun _ => ⟨rfl, rfl⟩, hb⟩
    · refine (place_5_2 (r2 := 0) (c2 := 0) (x2 := false) (y2 := false) (Lib.hid ⟨h, hB⟩) (Lib.hid (u8c hnc hn (by omega))) (Lib.hid (rfc_ok hnc hn (by omega) r1)) (Lib.hid (rfc_no hnc hn (by omega) r2))).mono ?_; rintro e W ⟨rfl, hb⟩; have e : plT 5 l i = ⟨2, zp, 0⟩ := by simp only [plT, show hasS 5 = true from rfl, show hasA 5 = true from rfl, r1, r2, if_true, Bool.false_eq_true, if_false]
      rw [e]; exact ⟨_, rfl, fun h => (by cases h), hb⟩
  · refine (place_5_1 (r1 := 0) (c1 := 0) (x1 := false) (y1 := false) (r2 := 0) (c2 := 0) (x2 := false) (y2 := false) (Lib.hid ⟨h, hB⟩) (Lib.hid (u8c hnc hn (by omega))) (Lib.hid (rfc_no hnc hn (by omega) r1)) ).mono ?_; rintro e W ⟨rfl, hb⟩; have e : plT 5 l i = ⟨2, zp, 0⟩ := by simp only [plT, show hasS 5 = true from rfl, show hasA 5 = true from rfl, r1, if_true, Bool.false_eq_true, if_false]
    rw [e]; exact ⟨_, rfl, fun h => (by cases h), hb⟩
end
set_option maxRecDepth 20000 in
set_option maxHeartbeats 4000000 in
theorem parseNum_at {w : World} {A : Option Addr} {n c B i j j' : Nat} {l : List UInt8} (HH : Hid (Rd w B 1 A n (l.map bv) ∧ B ≤ w.heap.size)) {m sc : Int}
    (H1 : Hid (∀ W : World, Rd W B 1 A n (l.map bv) → B ≤ W.heap.size → Calls Tryz.prog 133 #[.agg #[.slice A n c, .int .i64 i]] W fun e W' => e = .returned (.tuple #[.int .i64 m, .agg #[.slice A n c, .int .i64 j], .int .i64 0]) ∧ Below W.heap.size W W')) (H2 : Hid (U8C A n c B l j j' sc)) :
    Calls Tryz.prog 121 #[.agg #[.slice A n c, .int .i64 i]] w fun e W => e = .returned (.agg (tc (vlP 1 m sc ⟨#[]⟩ false 0) (.slice none 0 0) (0 : Nat)).toArray) ∧ Below w.heap.size w W := by
  have HB : Hid (BX w [] w) := Lib.hid (BX.start w); go_enter Tryz.func121, Tryz.ntmps121
  repeat' (first | ((with_reducible show Oper.wp _ _ _ _ _ _); with_reducible refine stop_bx _ rfl ?_) | go_values | go_skip | go_guarded | go_step | go_upon)
  refine Lib.hid ?_; refine al_g HB 82 (cu A n c i) (by kernel_rfl) ?_; clear HB
  (first | (have _t : Nat := g10; clear _t; intro g11 W HB) | (have _t : Nat := g9; clear _t; intro g10 W HB) | (have _t : Nat := g8; clear _t; intro g9 W HB) | (have _t : Nat := g7; clear _t; intro g8 W HB) | (have _t : Nat := g6; clear _t; intro g7 W HB) | (have _t : Nat := g5; clear _t; intro g6 W HB) | (have _t : Nat := g4; clear _t; intro g5 W HB) | (have _t : Nat := g3; clear _t; intro g4 W HB) | (have _t : Nat := g2; clear _t; intro g3 W HB) | (have _t : Nat := g1; clear _t; intro g2 W HB) | (have _t : Nat := g0; clear _t; intro g1 W HB) | intro g0 W HB)
  go_simp
  repeat' (first | ((with_reducible show Oper.wp _ _ _ _ _ _); (first | (with_reducible refine is_al 144 rfl ?_; refine al_g HB 144 (tc zp (.slice none 0 0) 0) (by kernel_rfl) ?_; clear HB; intro g1 W HB; go_simp) | (with_reducible refine is_ld 82 _ rfl ?_; refine ld_cu 1 HB rfl _ rfl rfl ?_; go_simp))) | go_values | go_skip | go_guarded | go_step | go_upon)
  refine (H1.out _ (HH.out.1.belowMono HB.out.bel HH.out.2) (Nat.le_trans HH.out.2 HB.out.bel.size)).mono ?_; rintro e W1 ⟨rfl, hb⟩; have HB := Lib.hid (HB.out.call hb); clear hb; dsimp only
  repeat' (first | ((with_reducible show Oper.wp _ _ _ _ _ _); (first | (with_reducible refine is_ld 82 _ rfl ?_; refine ld_cu 1 HB rfl _ rfl rfl ?_; go_simp) | (with_reducible refine is_st 82 _ _ rfl ?_; refine st_cu 1 HB rfl _ _ rfl rfl rfl ?_; clear HB; intro W HB; dsimp only [List.set] at HB; go_simp))) | go_values | go_skip | go_guarded | go_step | go_upon)
  refine (H2.out _ (HH.out.1.belowMono HB.out.bel HH.out.2) (Nat.le_trans HH.out.2 HB.out.bel.size)).mono ?_; rintro e W1 ⟨rfl, hb⟩; have HB := Lib.hid (HB.out.call hb); clear hb; dsimp only
  repeat' (first | ((with_reducible show Oper.wp _ _ _ _ _ _); (first | (with_reducible refine is_al 82 rfl ?_; refine al_g HB 82 (cu none 0 0 0) (by kernel_rfl) ?_; clear HB; intro g2 W HB; go_simp) | (with_reducible refine is_st 82 _ _ rfl ?_; refine st_cu 0 HB rfl _ _ rfl rfl rfl ?_; clear HB; intro W HB; dsimp only [List.set] at HB; go_simp) | with_reducible refine stop_bd rfl ?_)) | go_values | go_skip | go_guarded | go_step | go_upon)
  refine Lib.hid ?_; refine wp_b (v := .agg #[.int .i64 m, .int .i64 sc]) (by kernel_rfl) ?_; go_simp
  repeat' (first | ((with_reducible show Oper.wp _ _ _ _ _ _); with_reducible refine stop_bd rfl ?_) | go_values | go_skip | go_guarded | go_step | go_upon)
  refine Lib.hid ?_; refine wp_b (v := .agg #[.int .i64 1, .int .i64 m, .int .i64 sc, .string ⟨#[]⟩, .bool false, .int .i64 0]) (by kernel_rfl) ?_; go_simp
  repeat' (first | go_values | go_skip | go_guarded | go_step | go_upon)
  refine (constant_any _ 1 m sc ⟨#[]⟩ false 0).mono ?_; rintro e W1 ⟨rfl, hb⟩; have HB := Lib.hid (HB.out.call hb); clear hb; dsimp only
  repeat' (first | ((with_reducible show Oper.wp _ _ _ _ _ _); with_reducible refine is_st 144 _ _ rfl ?_; refine st_tc 1 HB rfl _ _ rfl rfl rfl ?_; clear HB; intro W HB; dsimp only [List.set] at HB; go_simp) | go_values | go_skip | go_guarded | go_step | go_upon)
  exact bodyPost_ret (res_t rfl 1 HB rfl rfl) rfl ⟨rfl, HB.out.bel⟩
set_option maxRecDepth 20000 in
set_option maxHeartbeats 4000000 in
theorem parseBool_at {w : World} {A : Option Addr} {n c B i j : Nat} {l : List UInt8} (HH : Hid (Rd w B 1 A n (l.map bv) ∧ B ≤ w.heap.size)) {v : Int} (H1 : Hid (U8C A n c B l i j v)) (hv : 0 ≤ v ∧ v < 256) :
    Calls Tryz.prog 122 #[.agg #[.slice A n c, .int .i64 i]] w fun e W => e = .returned (.tuple #[.agg (tc (if 1 < v then zp else tBool (decide (v = 1))) (.slice none 0 0) (0 : Nat)).toArray, .int .i64 (if 1 < v then 2 else 0)]) ∧ Below w.heap.size w W := by
  obtain ⟨v0, v1⟩ := hv
  by_cases h1 : 1 < v
  · rw [if_pos h1, if_pos h1]; have HB : Hid (BX w [] w) := Lib.hid (BX.start w); go_enter Tryz.func122, Tryz.ntmps122
    repeat' (first | ((with_reducible show Oper.wp _ _ _ _ _ _); with_reducible refine stop_bx _ rfl ?_) | go_values | go_skip | go_guarded | go_step | go_upon)
    refine Lib.hid ?_; refine al_g HB 82 (cu A n c i) (by kernel_rfl) ?_; clear HB
    (first | (have _t : Nat := g10; clear _t; intro g11 W HB) | (have _t : Nat := g9; clear _t; intro g10 W HB) | (have _t : Nat := g8; clear _t; intro g9 W HB) | (have _t : Nat := g7; clear _t; intro g8 W HB) | (have _t : Nat := g6; clear _t; intro g7 W HB) | (have _t : Nat := g5; clear _t; intro g6 W HB) | (have _t : Nat := g4; clear _t; intro g5 W HB) | (have _t : Nat := g3; clear _t; intro g4 W HB) | (have _t : Nat := g2; clear _t; intro g3 W HB) | (have _t : Nat := g1; clear _t; intro g2 W HB) | (have _t : Nat := g0; clear _t; intro g1 W HB) | intro g0 W HB)
    go_simp
    repeat' (first | ((with_reducible show Oper.wp _ _ _ _ _ _); (first | (with_reducible refine is_al 144 rfl ?_; refine al_g HB 144 (tc zp (.slice none 0 0) 0) (by kernel_rfl) ?_; clear HB; intro g1 W HB; go_simp) | (with_reducible refine is_ld 82 _ rfl ?_; refine ld_cu 1 HB rfl _ rfl rfl ?_; go_simp))) | go_values | go_skip | go_guarded | go_step | go_upon)
    refine (H1.out _ (HH.out.1.belowMono HB.out.bel HH.out.2) (Nat.le_trans HH.out.2 HB.out.bel.size)).mono ?_; rintro e W1 ⟨rfl, hb⟩; have HB := Lib.hid (HB.out.call hb); clear hb; dsimp only
    repeat' (first | ((with_reducible show Oper.wp _ _ _ _ _ _); (first | (with_reducible refine is_al 82 rfl ?_; refine al_g HB 82 (cu none 0 0 0) (by kernel_rfl) ?_; clear HB; intro g2 W HB; go_simp) | (with_reducible refine is_st 82 _ _ rfl ?_; refine st_cu 0 HB rfl _ _ rfl rfl rfl ?_; clear HB; intro W HB; dsimp only [List.set] at HB; go_simp) | with_reducible refine stop_bd rfl ?_)) | go_values | go_skip | go_guarded | go_step | go_upon)
    refine Lib.hid ?_; refine wp_b (v := .agg (tc zp (.slice none 0 0) (0 : Nat)).toArray) (by kernel_rfl) ?_; go_simp
    repeat' (first | ((with_reducible show Oper.wp _ _ _ _ _ _); with_reducible refine is_st 144 _ _ rfl ?_; refine st_tc 1 HB rfl _ _ rfl rfl rfl ?_; clear HB; intro W HB; dsimp only [List.set] at HB; go_simp) | go_values | go_skip | go_guarded | go_step | go_upon)
    exact bodyPost_ret (res_tn rfl 1 HB rfl rfl rfl) rfl ⟨rfl, HB.out.bel⟩
  · rw [if_neg h1, if_neg h1]; have h2 : v = 0 ∨ v = 1 := by omega
    clear v0 v1 h1
    rcases h2 with rfl | rfl
    · have HB : Hid (BX w [] w) := Lib.hid (BX.start w); go_enter Tryz.func122, Tryz.ntmps122
      repeat' (first | ((with_reducible show Oper.wp _ _ _ _ _ _); with_reducible refine stop_bx _ rfl ?_) | go_values | go_skip | go_guarded | go_step | go_upon)
      refine Lib.hid ?_; refine al_g HB 82 (cu A n c i) (by kernel_rfl) ?_; clear HB
      (first | (have _t : Nat := g10; clear _t; intro g11 W HB) | (have _t : Nat := g9; clear _t; intro g10 W HB) | (have _t : Nat := g8; clear _t; intro g9 W HB) | (have _t : Nat := g7; clear _t; intro g8 W HB) | (have _t : Nat := g6; clear _t; intro g7 W HB) | (have _t : Nat := g5; clear _t; intro g6 W HB) | (have _t : Nat := g4; clear _t; intro g5 W HB) | (have _t : Nat := g3; clear _t; intro g4 W HB) | (have _t : Nat := g2; clear _t; intro g3 W HB) | (have _t : Nat := g1; clear _t; intro g2 W HB) | (have _t : Nat := g0; clear _t; intro g1 W HB) | intro g0 W HB)
      go_simp
      repeat' (first | ((with_reducible show Oper.wp _ _ _ _ _ _); (first | (with_reducible refine is_al 144 rfl ?_; refine al_g HB 144 (tc zp (.slice none 0 0) 0) (by kernel_rfl) ?_; clear HB; intro g1 W HB; go_simp) | (with_reducible refine is_ld 82 _ rfl ?_; refine ld_cu 1 HB rfl _ rfl rfl ?_; go_simp))) | go_values | go_skip | go_guarded | go_step | go_upon)
      refine (H1.out _ (HH.out.1.belowMono HB.out.bel HH.out.2) (Nat.le_trans HH.out.2 HB.out.bel.size)).mono ?_; rintro e W1 ⟨rfl, hb⟩; have HB := Lib.hid (HB.out.call hb); clear hb; dsimp only
      repeat' (first | ((with_reducible show Oper.wp _ _ _ _ _ _); (first | (with_reducible refine is_al 82 rfl ?_; refine al_g HB 82 (cu none 0 0 0) (by kernel_rfl) ?_; clear HB; intro g2 W HB; go_simp) | (with_reducible refine is_st 82 _ _ rfl ?_; refine st_cu 0 HB rfl _ _ rfl rfl rfl ?_; clear HB; intro W HB; dsimp only [List.set] at HB; go_simp) | with_reducible refine stop_bd rfl ?_)) | go_values | go_skip | go_guarded | go_step | go_upon)
      refine Lib.hid ?_; refine wp_b (v := .agg #[.int .i64 3, .int .i64 0, .int .i64 0, .string ⟨#[]⟩, .bool false, .int .i64 0]) (by kernel_rfl) ?_; go_simp
      repeat' (first | go_values | go_skip | go_guarded | go_step | go_upon)
      refine (constant_any _ 3 0 0 ⟨#[]⟩ false 0).mono ?_; rintro e W1 ⟨rfl, hb⟩; have HB := Lib.hid (HB.out.call hb); clear hb; dsimp only
      repeat' (first | ((with_reducible show Oper.wp _ _ _ _ _ _); with_reducible refine is_st 144 _ _ rfl ?_; refine st_tc 1 HB rfl _ _ rfl rfl rfl ?_; clear HB; intro W HB; dsimp only [List.set] at HB; go_simp) | go_values | go_skip | go_guarded | go_step | go_upon)
      exact bodyPost_ret (res_tn rfl 1 HB rfl rfl rfl) rfl ⟨rfl, HB.out.bel⟩
    · have HB : Hid (BX w [] w) := Lib.hid (BX.start w); go_enter Tryz.func122, Tryz.ntmps122
      repeat' (first | ((with_reducible show Oper.wp _ _ _ _ _ _); with_reducible refine stop_bx _ rfl ?_) | go_values | go_skip | go_guarded | go_step | go_upon)
      refine Lib.hid ?_; refine al_g HB 82 (cu A n c i) (by kernel_rfl) ?_; clear HB
      (first | (have _t : Nat := g10; clear _t; intro g11 W HB) | (have _t : Nat := g9; clear _t; intro g10 W HB) | (have _t : Nat := g8; clear _t; intro g9 W HB) | (have _t : Nat := g7; clear _t; intro g8 W HB) | (have _t : Nat := g6; clear _t; intro g7 W HB) | (have _t : Nat := g5; clear _t; intro g6 W HB) | (have _t : Nat := g4; clear _t; intro g5 W HB) | (have _t : Nat := g3; clear _t; intro g4 W HB) | (have _t : Nat := g2; clear _t; intro g3 W HB) | (have _t : Nat := g1; clear _t; intro g2 W HB) | (have _t : Nat := g0; clear _t; intro g1 W HB) | intro g0 W HB)
      go_simp
      repeat' (first | ((with_reducible show Oper.wp _ _ _ _ _ _); (first | (with_reducible refine is_al 144 rfl ?_; refine al_g HB 144 (tc zp (.slice none 0 0) 0) (by kernel_rfl) ?_; clear HB; intro g1 W HB; go_simp) | (with_reducible refine is_ld 82 _ rfl ?_; refine ld_cu 1 HB rfl _ rfl rfl ?_; go_simp))) | go_values | go_skip | go_guarded | go_step | go_upon)
      refine (H1.out _ (HH.out.1.belowMono HB.out.bel HH.out.2) (Nat.le_trans HH.out.2 HB.out.bel.size)).mono ?_; rintro e W1 ⟨rfl, hb⟩; have HB := Lib.hid (HB.out.call hb); clear hb; dsimp only
      repeat' (first | ((with_reducible show Oper.wp _ _ _ _ _ _); (first | (with_reducible refine is_al 82 rfl ?_; refine al_g HB 82 (cu none 0 0 0) (by kernel_rfl) ?_; clear HB; intro g2 W HB; go_simp) | (with_reducible refine is_st 82 _ _ rfl ?_; refine st_cu 0 HB rfl _ _ rfl rfl rfl ?_; clear HB; intro W HB; dsimp only [List.set] at HB; go_simp) | with_reducible refine stop_bd rfl ?_)) | go_values | go_skip | go_guarded | go_step | go_upon)
      refine Lib.hid ?_; refine wp_b (v := .agg #[.int .i64 3, .int .i64 0, .int .i64 0, .string ⟨#[]⟩, .bool true, .int .i64 0]) (by kernel_rfl) ?_; go_simp
      repeat' (first | go_values | go_skip | go_guarded | go_step | go_upon)
      refine (constant_any _ 3 0 0 ⟨#[]⟩ true 0).mono ?_; rintro e W1 ⟨rfl, hb⟩; have HB := Lib.hid (HB.out.call hb); clear hb; dsimp only
      repeat' (first | ((with_reducible show Oper.wp _ _ _ _ _ _); with_reducible refine is_st 144 _ _ rfl ?_; refine st_tc 1 HB rfl _ _ rfl rfl rfl ?_; clear HB; intro W HB; dsimp only [List.set] at HB; go_simp) | go_values | go_skip | go_guarded | go_step | go_upon)
      exact bodyPost_ret (res_tn rfl 1 HB rfl rfl rfl) rfl ⟨rfl, HB.out.bel⟩
end Go.Proofs.YtlaiocdnddnnaaaGreatDoor
