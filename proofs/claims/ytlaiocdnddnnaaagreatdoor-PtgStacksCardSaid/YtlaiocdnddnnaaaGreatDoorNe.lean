/- cashbooklaw10's Num, At, Span, Bin, Call by their contracts. No condition. -/
/- cashbooklaw10.nest by its contract. Condition: not too many brackets. -/
import Derived.Test.YtlaiocdnddnnaaaGreatDoorOt
import Derived.Test.YtlaiocdnddnnaaaGreatDoorDc
import Derived.Test.YtlaiocdnddnnaaaGreatDoorRw
import Derived.Test.YtlaiocdnddnnaaaGreatDoorA8O
set_option linter.unusedVariables false
set_option linter.unusedSimpArgs false
namespace Go.Proofs.YtlaiocdnddnnaaaGreatDoor
open Go.RowKit
def atP (r c : Int) : Pay := { zp with kind := 2, r1 := r, c1 := c }
def spanP (a b c : Int) : Pay := { zp with kind := 3, r1 := a, c1 := c, r2 := b, c2 := c }
def numP (n : Int) : Pay := { zp with kind := 1, vk := 1, vm := n }
def binP (o : Int) : Pay := { zp with kind := 8, op := o }
def callP (o : Int) : Pay := { zp with kind := 9, op := o }
def nameP (o : Int) : Pay := { zp with kind := 6, op := o }
set_option maxRecDepth 20000 in
theorem at_any {w : World} (r c : Int) : Calls Tryz.prog 21 #[.int .i64 r, .int .i64 c] w fun e W => e = .returned (.agg (ec (atP r c) (.slice none 0 0)).toArray) ∧ Below w.heap.size w W := by
  have hk1 : Bk (w.alloc (.cells #[.int .i64 0, .int .i64 0, .int .i64 0, .int .i64 0, .string ⟨#[]⟩, .bool false, .int .i64 0, .int .i64 0, .int .i64 0, .bool false, .bool false, .int .i64 0, .int .i64 0, .bool false, .bool false, .int .i64 0, .int .i64 0, .slice none 0 0] 47)) w.heap.size 47 (ec zp (.slice none 0 0)).toArray := Bk.new _ _ _; go_enter Tryz.func21, Tryz.ntmps21
  repeat' (first | ((with_reducible show Oper.wp _ _ _ _ _ _); apply stop_b; exact rfl) | go_values | go_skip | go_guarded | go_step | go_upon)
  refine Lib.hid ?_; refine wp_b (v := .agg (ec (atP r c) (.slice none 0 0)).toArray) (by kernel_rfl) ?_; go_simp
  repeat' (first | ((with_reducible show Oper.wp _ _ _ _ _ _); apply stop_s; exact rfl) | go_values | go_skip | go_guarded | go_step | go_upon)
  refine Lib.hid ?_; apply st_p
  · exact rfl
  · exact rfl
  · exact rfl
  · assumption
  · exact rfl
  intro W2 hm2 hK2 hz; go_simp
  repeat' (first | go_values | go_skip | go_guarded | go_step | go_upon)
  refine bodyPost_ret (res_one rfl rfl hm2 rfl) rfl ⟨rfl, ?_⟩; exact made_box hK2
def AtV (W : World) (p : Pay) (ks : List Tr) (v : Value) : Prop := ∃ A c, v = .agg (ec p (.slice A ks.length c)).toArray ∧ AtT W p ks A c
theorem AtV.below {W W' : World} {p : Pay} {ks : List Tr} {v : Value} (h : AtV W p ks v) (hb : Below W.heap.size W W') : AtV W' p ks v := by
  obtain ⟨A, c, h1, h2⟩ := h; exact ⟨A, c, h1, h2.below hb⟩
set_option maxRecDepth 20000 in
theorem lawN_any {w : World} (n : Int) : Calls Tryz.prog 36 #[.int .i64 n] w fun e W => e = .returned (.agg #[.int .i64 1, .int .i64 n, .int .i64 0, .string ⟨#[]⟩, .bool false, .int .i64 0]) ∧ Below w.heap.size w W := by
  go_enter Tryz.func36, Tryz.ntmps36
  go_wp2_with fail
  refine int_any.mono ?_; rintro e W ⟨rfl, hb⟩; have hk := (Bk.new w 41 #[.int .i64 0, .int .i64 0, .int .i64 0, .string ⟨#[]⟩, .bool false, .int .i64 0]).below hb (by simp); have c0 := hk.cell 0; have c1 := hk.cell 1; have c2 := hk.cell 2; have c3 := hk.cell 3; have c4 := hk.cell 4; have c5 := hk.cell 5; have z0 := hk.frozen 0; have z1 := hk.frozen 1; have z2 := hk.frozen 2; have z3 := hk.frozen 3; have z4 := hk.frozen 4; have z5 := hk.frozen 5; have hbel := (bel0 w (.cells #[.int .i64 0, .int .i64 0, .int .i64 0, .string ⟨#[]⟩, .bool false, .int .i64 0] 41)).trans (hb.mono (by simp)); have HBEL := Lib.hid hbel; clear hk hb hbel; dsimp only; go_wp2; refine bodyPost_ret (v := .agg #[.int .i64 1, .int .i64 n, .int .i64 0, .string ⟨#[]⟩, .bool false, .int .i64 0]) (by simp [results, Tryz.results36, go_sem, c0, c1, c2, c3, c4, c5]) rfl ⟨rfl, ?_⟩; exact HBEL.out.trans (((((((Below.refl w.heap.size W).setCell (p := ⟨w.heap.size, 0, none⟩) (Nat.le_refl _) _).setCell (p := ⟨w.heap.size, 1, none⟩) (Nat.le_refl _) _).setCell (p := ⟨w.heap.size, 2, none⟩) (Nat.le_refl _) _).setCell (p := ⟨w.heap.size, 3, none⟩) (Nat.le_refl _) _).setCell (p := ⟨w.heap.size, 4, none⟩) (Nat.le_refl _) _).setCell (p := ⟨w.heap.size, 5, none⟩) (Nat.le_refl _) _)
set_option maxRecDepth 20000 in
theorem num_any {w : World} (n : Int) : Calls Tryz.prog 22 #[.int .i64 n] w fun e W => e = .returned (.agg (ec (numP n) (.slice none 0 0)).toArray) ∧ Below w.heap.size w W := by
  have hb1 := bel0 w (.cells #[.int .i64 0, .int .i64 0, .int .i64 0, .int .i64 0, .string ⟨#[]⟩, .bool false, .int .i64 0, .int .i64 0, .int .i64 0, .bool false, .bool false, .int .i64 0, .int .i64 0, .bool false, .bool false, .int .i64 0, .int .i64 0, .slice none 0 0] 47); have hk0 : Bk (w.alloc (.cells #[.int .i64 0, .int .i64 0, .int .i64 0, .int .i64 0, .string ⟨#[]⟩, .bool false, .int .i64 0, .int .i64 0, .int .i64 0, .bool false, .bool false, .int .i64 0, .int .i64 0, .bool false, .bool false, .int .i64 0, .int .i64 0, .slice none 0 0] 47)) w.heap.size 47 (ec zp (.slice none 0 0)).toArray := Bk.new _ _ _; have HB := Lib.hid (And.intro hb1 hk0); clear hb1 hk0; go_enter Tryz.func22, Tryz.ntmps22
  repeat' (first | go_values | go_skip | go_guarded | go_step | go_upon)
  refine (lawN_any n).mono ?_; rintro e W ⟨rfl, hb⟩; have hk1 := HB.out.2.below hb HB.out.2.lt; have hbw := HB.out.1.trans (hb.mono HB.out.1.size); clear hb; dsimp only
  repeat' (first | ((with_reducible show Oper.wp _ _ _ _ _ _); apply stop_b; exact rfl) | go_values | go_skip | go_guarded | go_step | go_upon)
  refine Lib.hid ?_; refine wp_b (v := .agg (ec (numP n) (.slice none 0 0)).toArray) (by kernel_rfl) ?_; go_simp
  repeat' (first | ((with_reducible show Oper.wp _ _ _ _ _ _); apply stop_s; exact rfl) | go_values | go_skip | go_guarded | go_step | go_upon)
  refine Lib.hid ?_; apply st_p
  · exact rfl
  · exact rfl
  · exact rfl
  · assumption
  · exact rfl
  intro W2 hm2 hK2 hz; go_simp
  repeat' (first | go_values | go_skip | go_guarded | go_step | go_upon)
  refine bodyPost_ret (res_one rfl rfl hm2 rfl) rfl ⟨rfl, ?_⟩; exact hbw.trans (hK2.below (B := w.heap.size) hbw.size fun i hi e => by omega)
theorem row_two {W : World} {F : Nat → Prop} {g c1 c2 : Nat} {p q : Pay} {ks ms : List Tr} {A1 A2 : Option Addr} (hk : Bk W g 47 (ec p (.slice A1 ks.length c1) ++ ec q (.slice A2 ms.length c2)).toArray) (hg : F g) (hc1 : ks.length ≤ c1) (hc2 : ms.length ≤ c2) (hr1 : RowF treeF W F A1 ks.length ks) (hr2 : RowF treeF W F A2 ms.length ms) :
    RowF treeF W F (some ⟨g, 0, none⟩) [Tr.mk p ks, .mk q ms].length [.mk p ks, .mk q ms] := by
  refine ⟨rfl, fun _ => ⟨_, rfl, hg, fun i t hi => ?_⟩⟩
  match i, hi with
  | 0, hi =>
    simp only [List.getElem?_cons_zero, Option.some.injEq] at hi; subst hi; refine ⟨ec p (.slice A1 ks.length c1), tree_mk.2 ⟨A1, c1, rfl, hc1, hr1⟩, fun j u hu => ?_⟩; rw [show 0 * treeF.k + j = j by simp, addr_zero, hk.cell]; have hj : j < 18 := (List.getElem?_eq_some_iff.1 hu).1; rw [List.getElem?_toArray, List.getElem?_append_left (by rw [ec_len]; exact hj)]; exact hu
  | 1, hi =>
    simp only [List.getElem?_cons_succ, List.getElem?_cons_zero, Option.some.injEq] at hi; subst hi; refine ⟨ec q (.slice A2 ms.length c2), tree_mk.2 ⟨A2, c2, rfl, hc2, hr2⟩, fun j u hu => ?_⟩; rw [show 1 * treeF.k + j = 18 + j by simp [treeF], addr_zero, hk.cell, List.getElem?_toArray, List.getElem?_append_right (by rw [ec_len]; omega), ec_len, Nat.add_sub_cancel_left]; exact hu
theorem size2 (w : World) (o o' : Obj) : ((w.alloc o).alloc o').heap.size = w.heap.size + 2 := by simp
set_option maxRecDepth 20000 in
theorem bin_any {w : World} (o : Int) {p q : Pay} {ks ms : List Tr} {v1 v2 : Value} (h1 : AtV w p ks v1) (h2 : AtV w q ms v2) : Calls Tryz.prog 18 #[.int .i64 o, v1, v2] w fun e W => ∃ v, e = .returned v ∧ AtV W (binP o) [.mk p ks, .mk q ms] v ∧ Below w.heap.size w W := by
  obtain ⟨A1, c1, rfl, h1⟩ := h1; obtain ⟨A2, c2, rfl, h2⟩ := h2; obtain ⟨w3, hw3⟩ : ∃ w3, w3 = ((w.alloc (.cells (ec p (.slice A1 ks.length c1)).toArray 47)).alloc (.cells (ec q (.slice A2 ms.length c2)).toArray 47)).alloc (.cells #[.int .i64 0, .int .i64 0, .int .i64 0, .int .i64 0, .string ⟨#[]⟩, .bool false, .int .i64 0, .int .i64 0, .int .i64 0, .bool false, .bool false, .int .i64 0, .int .i64 0, .bool false, .bool false, .int .i64 0, .int .i64 0, .slice none 0 0] 47) := ⟨_, rfl⟩
  have hb3 : Below w.heap.size w w3 := by rw [hw3]; exact bel2 _ _ _ _
  have hz3 : w3.heap.size = w.heap.size + 3 := by rw [hw3]; exact size3 _ _ _ _
  have hka : Bk w3 w.heap.size 47 (ec p (.slice A1 ks.length c1)).toArray := by rw [hw3]; exact ((Bk.new w _ _).alloc _).alloc _
  have hkb : Bk w3 (w.heap.size + 1) 47 (ec q (.slice A2 ms.length c2)).toArray := by
    have hz : (w.alloc (.cells (ec p (.slice A1 ks.length c1)).toArray 47)).heap.size = w.heap.size + 1 := by simp
    rw [hw3, ← hz]; exact (Bk.new _ _ _).alloc _
  have hkc : Bk w3 (w.heap.size + 2) 47 (ec zp (.slice none 0 0)).toArray := by
    rw [hw3, ← size2 w (.cells (ec p (.slice A1 ks.length c1)).toArray 47) (.cells (ec q (.slice A2 ms.length c2)).toArray 47)]; exact Bk.new _ _ _
  have HX := Lib.hid (And.intro hw3 (And.intro hb3 (And.intro hz3 (And.intro hka (And.intro hkb (And.intro hkc (And.intro h1 h2))))))); clear hw3 hb3 hz3 hka hkb hkc h1 h2; go_enter Tryz.func18, Tryz.ntmps18
  repeat' (first | ((with_reducible show Oper.wp _ _ _ _ _ _); apply stop_p; exact rfl) | go_values | go_skip | go_guarded | go_step | go_upon)
  obtain ⟨hw3, hb3, hz3, hka, hkb, hkc, h1, h2⟩ := HX.out; rw [← hw3]; clear hw3 hb3 hz3 hkc h1 h2; refine Lib.hid ?_; apply ld_p
  · exact rfl
  · exact rfl
  · exact hka
  go_simp
  repeat' (first | ((with_reducible show Oper.wp _ _ _ _ _ _); apply ld_p; exact rfl; exact rfl; assumption; go_simp) | ((with_reducible show Oper.wp _ _ _ _ _ _); apply stop_bs; exact rfl) | go_values | go_skip | go_guarded | go_step | go_upon)
  refine Lib.hid ?_; refine wp_v (v := .slice (some ⟨w3.heap.size, 0, none⟩) 2 2) (W' := w3.alloc (.cells (ec p (.slice A1 ks.length c1) ++ ec q (.slice A2 ms.length c2)).toArray 47)) (by kernel_rfl) ?_; obtain ⟨hw3, hb3, hz3, -, -, hkc, h1, h2⟩ := HX.out; have hb4 := bel0 w3 (.cells (ec p (.slice A1 ks.length c1) ++ ec q (.slice A2 ms.length c2)).toArray 47); have hkn := Bk.new w3 47 (ec p (.slice A1 ks.length c1) ++ ec q (.slice A2 ms.length c2)).toArray; have hk4 := hkc.below hb4 hkc.lt; have hz4 : (w3.alloc (.cells (ec p (.slice A1 ks.length c1) ++ ec q (.slice A2 ms.length c2)).toArray 47)).heap.size = w3.heap.size + 1 := by simp
  have HY := Lib.hid (And.intro hb3 (And.intro hz3 (And.intro hb4 (And.intro hkn (And.intro hz4 (And.intro h1 h2)))))); clear hw3 hb3 hz3 hkc h1 h2 hb4 hkn hz4 hka hkb HX; generalize w3.alloc (.cells (ec p (.slice A1 ks.length c1) ++ ec q (.slice A2 ms.length c2)).toArray 47) = w4 at *; go_simp
  repeat' (first | ((with_reducible show Oper.wp _ _ _ _ _ _); apply stop_b; exact rfl) | go_values | go_skip | go_guarded | go_step | go_upon)
  refine Lib.hid ?_; refine wp_b (v := .agg (ec (binP o) (.slice (some ⟨w3.heap.size, 0, none⟩) 2 2)).toArray) (by kernel_rfl) ?_; go_simp
  repeat' (first | ((with_reducible show Oper.wp _ _ _ _ _ _); apply stop_s; exact rfl) | go_values | go_skip | go_guarded | go_step | go_upon)
  refine Lib.hid ?_; apply st_p
  · exact rfl
  · exact rfl
  · exact rfl
  · assumption
  · exact rfl
  intro W2 hm2 hK2 hz; go_simp
  repeat' (first | go_values | go_skip | go_guarded | go_step | go_upon)
  refine bodyPost_ret (res_one rfl rfl hm2 rfl) rfl ?_; obtain ⟨hb3, hz3, hb4, hkn, hz4, h1, h2⟩ := HY.out; have hb24 : Below w.heap.size w W2 := hb3.trans ((hb4.mono hb3.size).trans (hK2.below (B := w.heap.size) (by omega) fun i hi e => by omega)); have hkn2 := hK2.bk hkn (by omega); refine ⟨_, rfl, ⟨_, 2, rfl, Nat.le_refl _, row_two hkn2 (by have := hK2.size; omega) h1.1 h2.1 ?_ ?_⟩, hb24⟩
  · exact (h1.2.below hb24 (Nat.le_refl _)).mono hb24.size
  · exact (h2.2.below hb24 (Nat.le_refl _)).mono hb24.size
end Go.Proofs.YtlaiocdnddnnaaaGreatDoor
namespace Go.Proofs.YtlaiocdnddnnaaaGreatDoor
open Go.RowKit
end Go.Proofs.YtlaiocdnddnnaaaGreatDoor
