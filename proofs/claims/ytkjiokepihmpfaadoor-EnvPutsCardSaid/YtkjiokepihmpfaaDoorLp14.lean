/- EnvPuts, by their contracts. utf8.ValidString keeps its contract. -/
import Derived.Test.YtkjiokepihmpfaaDoorRh14
import Derived.Test.YtkjiokepihmpfaaDoorBytes
set_option linter.unusedVariables false
set_option linter.unusedSimpArgs false
namespace Go.Proofs.YtkjiokepihmpfaaDoor
open Go.RowKit

theorem run_neqvF {o : Oper} {a : Act} {W : World} {p q : Va} (h : eqV p q = true) (x y : Operand) (ho : o.op = .binOp .neq 32 x y 32) (hx : a.eval x = .agg (vac p).toArray) (hy : a.eval y = .agg (vac q).toArray) : (execOp a.eval o).run Tryd.prog W = .ok (.value (.bool false)) W := by
  have := run_neqv (W := W) x y ho hx hy
  rwa [h] at this
theorem run_neqpF {o : Oper} {a : Act} {W : World} {p q : Pl} (h : eqP p q = true) (x y : Operand) (ho : o.op = .binOp .neq 40 x y 40) (hx : a.eval x = .agg (plc p).toArray) (hy : a.eval y = .agg (plc q).toArray) : (execOp a.eval o).run Tryd.prog W = .ok (.value (.bool false)) W := by
  have := run_neqp (W := W) x y ho hx hy
  rwa [h] at this
theorem rt64 : RowT 33 384 := ⟨⟨_, Tryd.underlying33, rfl⟩, by kernel_rfl⟩
def OkH (h : Nat → Va) : Prop := ∀ k, ((h k).k = 0 → h k = blV) ∧ ckW (h k) = 0 ∧ (h k).t.size ≤ 140737488355328
theorem OkH.ck {h : Nat → Va} (ho : OkH h) : ckN 3 (rowH h) = 0 := by
  have hl := rowA_len h 0 48
  unfold ckN
  rw [if_neg (by omega), if_neg (by show ¬ 4096 < (rowA h 0 48).length; omega)]
  refine ckL_ok (fun x hx => ?_) (up_H h) fun x _ => rfl
  obtain ⟨k, -, hk, rfl, h0⟩ := rowA_mem hx
  unfold cks
  rw [if_pos (gdP_pk (by omega)), if_pos (ho k).2.1, if_neg h0]
theorem vN_ok (z : Int) : ckW (vN z) = 0 := by
  unfold ckW vN ckV
  rw [if_pos rfl, if_pos ⟨by rw [ByteArray.toList_eq], rfl, rfl⟩]
  unfold ckE
  exact if_neg (by simp)
set_option maxRecDepth 20000 in
set_option maxHeartbeats 4000000 in
theorem putsLaw_any {w : World} (HV : Val w) {B n0 n1 c0 c1 : Nat} {A0 A1 : Option Addr} {l : List UInt8} {zs : List Int} (h0 : Rd w B 1 A0 n0 (l.map bv)) (h1 : Rd w B 1 A1 n1 (zs.map (Value.int .i16))) (hz : ∀ z ∈ zs, -32768 ≤ z ∧ z ≤ 32767) (hB : B ≤ w.heap.size) :
    Calls Tryd.prog 3 #[.slice A0 n0 c0, .slice A1 n1 c1] w fun e W => e = .returned (.bool true) ∧ Below w.heap.size w W := by
  have HVV := Lib.hid HV
  have HR0 := Lib.hid (h0.mono hB)
  have HR1 := Lib.hid (h1.mono hB)
  have HZ := Lib.hid hz
  clear HV h0 h1 hz hB
  by_cases hn0 : 60 < n0
  · have hn0' : (n0 : Int) > 60 := by omega
    have HB : Hid (BX w [] w) := Lib.hid (BX.start w)
    go_enter Tryd.func3, Tryd.ntmps3
    repeat' (first | go_values | go_skip | go_guarded | go_step | go_upon)
    refine (known14 (HVV.out.below HB.out.bel)).mono ?_
    rintro e W1 ⟨rfl, hb⟩
    replace HB := Lib.hid (HB.out.call hb)
    clear hb
    dsimp only
    repeat' (first | go_values | go_skip | go_guarded | go_step | go_upon)
    exact bodyPost_ret (v := .bool true) (by simp [results, Tryd.results3, go_sem]) rfl ⟨rfl, HB.out.bel⟩
  have hn0' : ¬ (n0 : Int) > 60 := by omega
  by_cases hn1 : n1 < n0
  · have hn1' : (n1 : Int) < (n0 : Int) := by omega
    have HB : Hid (BX w [] w) := Lib.hid (BX.start w)
    go_enter Tryd.func3, Tryd.ntmps3
    repeat' (first | go_values | go_skip | go_guarded | go_step | go_upon)
    refine (known14 (HVV.out.below HB.out.bel)).mono ?_
    rintro e W1 ⟨rfl, hb⟩
    replace HB := Lib.hid (HB.out.call hb)
    clear hb
    dsimp only
    repeat' (first | go_values | go_skip | go_guarded | go_step | go_upon)
    exact bodyPost_ret (v := .bool true) (by simp [results, Tryd.results3, go_sem]) rfl ⟨rfl, HB.out.bel⟩
  have hn1' : ¬ (n1 : Int) < (n0 : Int) := by omega
  have HB : Hid (BX w [] w) := Lib.hid (BX.start w)
  go_enter Tryd.func3, Tryd.ntmps3
  repeat' (first | go_values | go_skip | go_guarded | go_step | go_upon)
  refine (known14 (HVV.out.below HB.out.bel)).mono ?_
  rintro e W1 ⟨rfl, hb⟩
  replace HB := Lib.hid (HB.out.call hb)
  clear hb
  dsimp only
  repeat' (first | ((with_reducible show Oper.wp _ _ _ _ _ _); with_reducible refine stop_bd rfl ?_) | go_values | go_skip | go_guarded | go_step | go_upon)
  refine Lib.hid ?_
  refine wp_b (v := .agg (enc 3 (.slice none 0 0) (.slice none 0 0)).toArray) (by kernel_rfl) ?_
  go_simp
  repeat' (first | ((with_reducible show Oper.wp _ _ _ _ _ _); (first | (with_reducible refine is_al 40 rfl ?_; refine al_g HB 40 (plc ⟨0, 0, 0⟩) (by kernel_rfl) ?_) | (with_reducible refine is_al 32 rfl ?_; refine al_g HB 32 (vac blV) (by kernel_rfl) ?_) | (with_reducible refine is_al 28 rfl ?_; refine al_g HB 28 (enc 0 (.slice none 0 0) (.slice none 0 0)) (by kernel_rfl) ?_) | (with_reducible refine is_al 44 rfl ?_; refine al_g HB 44 (slc ⟨⟨0, 0, 0⟩, blV⟩) (by kernel_rfl) ?_)); clear HB; (first | (have _t : Nat := g10; clear _t; intro g11 W HB) | (have _t : Nat := g9; clear _t; intro g10 W HB) | (have _t : Nat := g8; clear _t; intro g9 W HB) | (have _t : Nat := g7; clear _t; intro g8 W HB) | (have _t : Nat := g6; clear _t; intro g7 W HB) | (have _t : Nat := g5; clear _t; intro g6 W HB) | (have _t : Nat := g4; clear _t; intro g5 W HB) | (have _t : Nat := g3; clear _t; intro g4 W HB) | (have _t : Nat := g2; clear _t; intro g3 W HB) | (have _t : Nat := g1; clear _t; intro g2 W HB) | (have _t : Nat := g0; clear _t; intro g1 W HB) | intro g0 W HB); go_simp) | ((with_reducible show Oper.wp _ _ _ _ _ _); (first | (with_reducible refine is_st 40 _ _ rfl ?_; (first | refine st_pl 0 HB rfl _ _ rfl rfl rfl ?_ | refine st_pl 1 HB rfl _ _ rfl rfl rfl ?_ | refine st_pl 2 HB rfl _ _ rfl rfl rfl ?_ | refine st_pl 3 HB rfl _ _ rfl rfl rfl ?_ | refine st_pl 4 HB rfl _ _ rfl rfl rfl ?_ | refine st_pl 5 HB rfl _ _ rfl rfl rfl ?_)) | (with_reducible refine is_st 32 _ _ rfl ?_; (first | refine st_va 0 HB rfl _ _ rfl rfl rfl ?_ | refine st_va 1 HB rfl _ _ rfl rfl rfl ?_ | refine st_va 2 HB rfl _ _ rfl rfl rfl ?_ | refine st_va 3 HB rfl _ _ rfl rfl rfl ?_ | refine st_va 4 HB rfl _ _ rfl rfl rfl ?_ | refine st_va 5 HB rfl _ _ rfl rfl rfl ?_)) | (with_reducible refine is_st 28 _ _ rfl ?_; (first | refine st_en 0 HB rfl _ _ rfl rfl rfl ?_ | refine st_en 1 HB rfl _ _ rfl rfl rfl ?_ | refine st_en 2 HB rfl _ _ rfl rfl rfl ?_ | refine st_en 3 HB rfl _ _ rfl rfl rfl ?_ | refine st_en 4 HB rfl _ _ rfl rfl rfl ?_ | refine st_en 5 HB rfl _ _ rfl rfl rfl ?_)) | (with_reducible refine is_st 44 _ _ rfl ?_; (first | refine st_sl 0 HB rfl _ _ rfl rfl rfl ?_ | refine st_sl 1 HB rfl _ _ rfl rfl rfl ?_ | refine st_sl 2 HB rfl _ _ rfl rfl rfl ?_ | refine st_sl 3 HB rfl _ _ rfl rfl rfl ?_ | refine st_sl 4 HB rfl _ _ rfl rfl rfl ?_ | refine st_sl 5 HB rfl _ _ rfl rfl rfl ?_))); clear HB; intro W HB; dsimp only [List.set] at HB; go_simp) | ((with_reducible show Oper.wp _ _ _ _ _ _); with_reducible refine stop_al rfl ?_) | go_values | go_skip | go_guarded | go_step | go_upon)
  refine Lib.hid ?_
  refine al_g HB 33 (hsc (fun _ => blV) 64) (by kernel_rfl) ?_
  clear HB
  intro g6 W HB
  go_simp
  have HE0 : Hid (EnvAt W g0 3 (rowH fun _ => blV)) := Lib.hid ⟨none, 0, HB.out.get (i := 1) rfl, Nat.le_refl _, Rd.nil _ _ _ _⟩
  have HA0 : Hid (Bk W g6 33 (hsc (fun _ => blV) 64).toArray) := Lib.hid (HB.out.get (i := 0) rfl)
  have HBW := Lib.hid HB.out.bel
  have HLO := Lib.hid (And.intro (HB.out.lo (g0, 28, enc 3 (.slice none 0 0) (.slice none 0 0)) (by simp)) (And.intro (HB.out.lo (g6, 33, hsc (fun _ => blV) 64) (by simp)) (show ¬ g6 = g0 by have := HB.out.nd; simp at this; omega)))
  obtain ⟨g5, hg5⟩ : ∃ g5, g5 = g0 := ⟨_, rfl⟩
  subst hg5
  clear HB
  repeat' (first | go_values | go_skip | go_guarded | go_step | go_upon)
  go_loopw [7] (fun i wr => ∃ (j : Nat) (h : Nat → Va), i = .int .i64 j ∧ j ≤ n0 ∧ Hid (OkH h) ∧ Hid (EnvAt wr g5 3 (rowH h)) ∧ Hid (Bk wr g6 33 (hsc h 64).toArray) ∧ Hid (Below w.heap.size w wr)) (fun i _ => n0 - (intOf i).toNat)
  case atStart => exact ⟨0, fun _ => blV, rfl, Nat.zero_le _, Lib.hid (fun _ => ⟨fun _ => rfl, by kernel_rfl, (show (0 : Nat) ≤ 140737488355328 by decide)⟩), HE0, HA0, HBW⟩
  case round =>
    obtain ⟨j, h, rfl, hjn, HBl, HE, HAr, HBW⟩ := hrel
    by_cases hlt : j < n0
    · have hlt' : (j : Int) < (n0 : Int) := by omega
      have hj0 : (0 : Int) ≤ (j : Int) := by omega
      have hj1 : (j : Int) < (n1 : Int) := by omega
      have hjn1 : j < n1 := by omega
      have hj2 : j ≤ 100000 := by omega
      obtain ⟨a0, u0, rfl, -, hu0, hc0⟩ := HR0.out.cell hlt
      obtain ⟨a1, u1, rfl, hb1, hu1, hc1⟩ := HR1.out.cell hjn1
      obtain ⟨x, hx, rfl⟩ : ∃ x, l[j]? = some x ∧ u0 = bv x := by
        rw [List.getElem?_map] at hu0
        cases hl : l[j]? with
        | none => rw [hl] at hu0; cases hu0
        | some x => rw [hl] at hu0; exact ⟨x, rfl, by injection hu0 with h; exact h.symm⟩
      obtain ⟨z, hzz, rfl⟩ : ∃ z, zs[j]? = some z ∧ u1 = .int .i16 z := by
        rw [List.getElem?_map] at hu1
        cases hl : zs[j]? with
        | none => rw [hl] at hu1; cases hu1
        | some x => rw [hl] at hu1; exact ⟨x, rfl, by injection hu1 with h; exact h.symm⟩
      have hz2 := HZ.out z (List.mem_of_getElem? hzz)
      have hx0 : wr.cell? (a0.add j) = some (.int .u8 (x.toNat : Int)) := (HBW.out.cell (p := a0.add j) (World.block_lt_of_cell? w _ hc0)).trans hc0
      have hx1 : wr.cell? (a1.add j) = some (.int .i16 z) := (HBW.out.cell (p := a1.add j) (World.block_lt_of_cell? w _ hc1)).trans hc1
      obtain ⟨k, hk⟩ : ∃ k, k = x.toNat % 48 := ⟨_, rfl⟩
      have hkx : (x.toNat : Int) % 48 = (k : Int) := by omega
      have hk48 : k < 48 := by omega
      have hx8 : x.toNat ≤ 255 := by have := x.toNat_lt; omega
      have HBz := Lib.hid hz2
      clear hu0 hu1 hc0 hc1 hx hzz hk hb1
      have HB : Hid (BX wr [] wr) := Lib.hid (BX.start wr)
      repeat' (first | ((with_reducible show Oper.wp _ _ _ _ _ _); with_reducible refine stop_bd rfl ?_) | go_values | go_skip | go_guarded | go_step | go_upon)
      refine Lib.hid ?_
      refine wp_b (v := .agg (vac blV).toArray) (by kernel_rfl) ?_
      go_simp
      repeat' (first | ((with_reducible show Oper.wp _ _ _ _ _ _); with_reducible refine stop_al rfl ?_) | go_values | go_skip | go_guarded | go_step | go_upon)
      refine Lib.hid ?_
      refine al_g HB 32 (vac blV) (by kernel_rfl) ?_
      clear HB
      intro g9 W HB
      go_simp
      repeat' (first | ((with_reducible show Oper.wp _ _ _ _ _ _); with_reducible refine stop_st _ _ rfl ?_) | go_values | go_skip | go_guarded | go_step | go_upon)
      refine Lib.hid ?_
      refine st_va (p := blV) (p2 := blV) 0 HB rfl _ _ rfl rfl rfl ?_
      clear HB
      intro W HB
      dsimp only [List.set] at HB
      have hx1 : W.cell? (a1.add j) = some (.int .i16 z) := (HB.out.bel.cell (p := a1.add j) (World.block_lt_of_cell? _ _ hx1)).trans hx1
      go_simp
      by_cases hz0 : z = 0
      focus
        subst hz0
        repeat' (first | go_values | go_skip | go_guarded | go_step | go_upon)
        obtain ⟨X, hX⟩ : ∃ X, X = blV := ⟨_, rfl⟩
        rw [← hX] at HB
        have HXX : Hid (ckW X = 0 ∧ X.t.size ≤ 140737488355328 ∧ (X.k = 0 → X = blV)) := Lib.hid (by rw [hX]; exact ⟨by kernel_rfl, by decide, fun _ => rfl⟩)
        clear hX hx1 hx0 HBz
      rotate_left
      focus
        have fz : (z != 0) = true := by rw [bne_iff_ne]; exact hz0
        have hlo := HBz.out.1
        have hhi := HBz.out.2
        repeat' (first | go_values | go_skip | go_guarded | go_step | go_upon)
        refine (ln_any z).mono ?_
        rintro e W1 ⟨rfl, hb⟩
        replace HB := Lib.hid (HB.out.call hb)
        clear hb
        dsimp only
        repeat' (first | ((with_reducible show Oper.wp _ _ _ _ _ _); (first | (with_reducible refine is_st 40 _ _ rfl ?_; (first | refine st_pl 0 HB rfl _ _ rfl rfl rfl ?_ | refine st_pl 1 HB rfl _ _ rfl rfl rfl ?_ | refine st_pl 2 HB rfl _ _ rfl rfl rfl ?_ | refine st_pl 3 HB rfl _ _ rfl rfl rfl ?_ | refine st_pl 4 HB rfl _ _ rfl rfl rfl ?_ | refine st_pl 5 HB rfl _ _ rfl rfl rfl ?_)) | (with_reducible refine is_st 32 _ _ rfl ?_; (first | refine st_va 0 HB rfl _ _ rfl rfl rfl ?_ | refine st_va 1 HB rfl _ _ rfl rfl rfl ?_ | refine st_va 2 HB rfl _ _ rfl rfl rfl ?_ | refine st_va 3 HB rfl _ _ rfl rfl rfl ?_ | refine st_va 4 HB rfl _ _ rfl rfl rfl ?_ | refine st_va 5 HB rfl _ _ rfl rfl rfl ?_)) | (with_reducible refine is_st 28 _ _ rfl ?_; (first | refine st_en 0 HB rfl _ _ rfl rfl rfl ?_ | refine st_en 1 HB rfl _ _ rfl rfl rfl ?_ | refine st_en 2 HB rfl _ _ rfl rfl rfl ?_ | refine st_en 3 HB rfl _ _ rfl rfl rfl ?_ | refine st_en 4 HB rfl _ _ rfl rfl rfl ?_ | refine st_en 5 HB rfl _ _ rfl rfl rfl ?_)) | (with_reducible refine is_st 44 _ _ rfl ?_; (first | refine st_sl 0 HB rfl _ _ rfl rfl rfl ?_ | refine st_sl 1 HB rfl _ _ rfl rfl rfl ?_ | refine st_sl 2 HB rfl _ _ rfl rfl rfl ?_ | refine st_sl 3 HB rfl _ _ rfl rfl rfl ?_ | refine st_sl 4 HB rfl _ _ rfl rfl rfl ?_ | refine st_sl 5 HB rfl _ _ rfl rfl rfl ?_))); clear HB; intro W HB; dsimp only [List.set] at HB; go_simp) | go_values | go_skip | go_guarded | go_step | go_upon)
        obtain ⟨X, hX⟩ : ∃ X, X = (⟨1, z, 0, ⟨#[]⟩, false, 0⟩ : Va) := ⟨_, rfl⟩
        rw [← hX] at HB
        have HXX : Hid (ckW X = 0 ∧ X.t.size ≤ 140737488355328 ∧ (X.k = 0 → X = blV)) := Lib.hid (by rw [hX]; exact ⟨vN_ok z, (show (0 : Nat) ≤ 140737488355328 by decide), fun h => by cases h⟩)
        clear hX hx1 hx0 HBz hlo hhi fz hz0
      all_goals
        have HEb := Lib.hid (HE.out.below HB.out.bel)
        have HAb := Lib.hid (HAr.out.below HB.out.bel HAr.out.lt)
        have HBWb := Lib.hid (HBW.out.trans (HB.out.bel.mono HBW.out.size))
        have HG5 : Hid (g5 < wr.heap.size ∧ g6 < wr.heap.size) := Lib.hid ⟨by obtain ⟨_, _, h1, _⟩ := HE.out; exact h1.lt, HAr.out.lt⟩
        clear HE HAr
        obtain ⟨Ae, ce, hke, hce, hre⟩ := HEb.out
        have HP : Hid (∀ W' : World, Below W.heap.size W W' → Calls Tryd.prog 8 #[.agg (enc 3 (.slice Ae (rowH h).length ce) (.slice none 0 0)).toArray, .agg (plc (pk k)).toArray, .agg (vac X).toArray] W' fun e W2 => ∃ u, e = .returned u ∧ OwE W2 w.heap.size 3 (rowH (updH h k X)) u ∧ Below W'.heap.size W' W2) := Lib.hid fun W' hb => by
          have := Put_any (HVV.out.below (HBWb.out.trans (hb.mono HBWb.out.size))) (pk k) X 3 (cn := 0) (hre.below hb) hb.size (by have := rowA_len h 0 48; show (rowA h 0 48).length ≤ 100000; omega) hce (up_H h) HXX.out.2.1 (gdP_pk hk48) HXX.out.1
          rw [put_H h X hk48] at this
          exact this.mono fun e W2 ⟨u, h1, h2, h3⟩ => ⟨u, h1, h2.mono (Nat.le_trans HBWb.out.size hb.size), h3⟩
        obtain ⟨ne, hne⟩ : ∃ ne, ne = (rowH h).length := ⟨_, rfl⟩
        rw [← hne] at hke HP
        have HK5 := Lib.hid hke
        have HK9 := Lib.hid (HB.out.get (i := 0) rfl)
        have HGL := Lib.hid (HB.out.lo (g9, 32, vac X) (by simp))
        have HGs : Hid (¬ g9 = g5 ∧ ¬ g9 = g6) := Lib.hid (by have := HGL.out; have := HG5.out; omega)
        clear hke hce hre hne HB HEb
        have hk0 : (0 : Int) ≤ (k : Int) := by omega
        have hk63 : (k : Int) < 48 := by omega
        obtain ⟨W0, hW⟩ : ∃ W0, W0 = W := ⟨_, rfl⟩
        subst hW
        refine wp_region_last 11 _ rfl (by kernel_rfl) rfl ?_
        simp only [List.take_succ_cons, List.take_zero]
        refine wpAny_phases (S := (fun _ W => Below W0.heap.size W0 W)) (E := (fun W W' => Below W.heap.size W W')) [] [(0, Is (.slice (some a0) n0 c0)), (1, Is (.slice (some a1) n1 c1)), (2, Is (undef)), (3, Is (undef)), (4, Is (.bool false)), (5, Is (.pointer (some ⟨g5, 0, none⟩))), (6, Is (.pointer (some ⟨g6, 0, none⟩))), (7, Is (.int .i64 j)), (8, Is (.int .i64 k)), (9, Is (.pointer (some ⟨g9, 0, none⟩))), (10, Is (undef)), (11, Is (undef)), (12, Is (.bool true)), (13, Is (.bool false)), (14, Is (.slice (some a0) n0 c0)), (15, Is (.int .i64 n0)), (16, Is (.bool false)), (17, Is (.bool false)), (18, Is (.slice (some a1) n1 c1)), (19, Is (.int .i64 n1)), (20, Is (.slice (some a0) n0 c0)), (21, Is (.int .i64 n0)), (22, Is (.bool false)), (23, Is (.bool false)), (24, Is (.agg (enc 3 (.slice none 0 0) (.slice none 0 0)).toArray)), (63, Is (undef)), (64, Is (undef)), (65, Is (undef)), (66, Is (undef)), (67, Is (undef)), (68, Is (undef)), (69, Is (undef)), (70, Is (undef)), (71, Is (undef)), (72, Is (undef)), (73, Is (undef)), (74, Is (undef)), (75, Is (undef)), (76, Is (undef)), (77, Is (undef)), (78, Is (undef)), (79, Is (undef)), (80, Is (undef)), (81, Is (undef)), (82, Is (undef)), (83, Is (undef)), (84, Is (undef)), (85, Is (undef)), (86, Is (undef)), (87, Is (undef)), (88, Is (undef)), (89, Is (undef)), (90, Is (undef)), (91, Is (undef)), (92, Is (undef)), (93, Is (undef)), (94, Is (undef)), (95, Is (undef)), (96, Is (undef)), (97, Is (undef)), (98, Is (undef)), (99, Is (undef)), (100, Is (undef)), (101, Is (undef)), (102, Is (undef)), (103, Is (undef)), (104, Is (undef)), (105, Is (undef)), (106, Is (undef)), (107, Is (undef)), (108, Is (undef)), (109, Is (undef)), (110, Is (undef)), (111, Is (undef)), (112, Is (undef)), (113, Is (undef)), (114, Is (undef)), (115, Is (undef)), (116, Is (undef)), (117, Is (undef)), (118, Is (undef)), (119, Is (undef))] [(49, Is (.agg (enc 3 (.slice Ae ne ce) (.slice none 0 0)).toArray)), (50, Is (.int .i64 k)), (51, Is (.int .i64 ((k : Int) / 16))), (52, Is (.int .i64 k)), (53, Is (.int .i64 ((k : Int) / 4))), (54, Is (.int .i64 ((k : Int) / 4 % 4))), (55, Is (.int .i64 k)), (56, Is (.int .i64 ((k : Int) % 4))), (57, Is (.agg (plc (pk k)).toArray)), (58, Is (.agg (vac X).toArray)), (59, (fun u W => OwE W w.heap.size 3 (rowH (updH h k X)) u))]
          [.op [5] none, .op [8] none, .op [50] none, .op [8] none, .op [52] none, .op [53] none, .op [8] none, .op [55] none, .op [51, 54, 56] none, .op [9] none, .op [49, 57, 58] none] ?_ ?_ ?_ ?_ ?_ ⟨stable_is _ _, stable_is _ _, stable_is _ _, stable_is _ _, stable_is _ _, stable_is _ _, stable_is _ _, stable_is _ _, stable_is _ _, stable_is _ _, stable_is _ _, stable_is _ _, stable_is _ _, stable_is _ _, stable_is _ _, stable_is _ _, stable_is _ _, stable_is _ _, stable_is _ _, stable_is _ _, stable_is _ _, stable_is _ _, stable_is _ _, stable_is _ _, stable_is _ _, stable_is _ _, stable_is _ _, stable_is _ _, stable_is _ _, stable_is _ _, stable_is _ _, stable_is _ _, stable_is _ _, stable_is _ _, stable_is _ _, stable_is _ _, stable_is _ _, stable_is _ _, stable_is _ _, stable_is _ _, stable_is _ _, stable_is _ _, stable_is _ _, stable_is _ _, stable_is _ _, stable_is _ _, stable_is _ _, stable_is _ _, stable_is _ _, stable_is _ _, stable_is _ _, stable_is _ _, stable_is _ _, stable_is _ _, stable_is _ _, stable_is _ _, stable_is _ _, stable_is _ _, stable_is _ _, stable_is _ _, stable_is _ _, stable_is _ _, stable_is _ _, stable_is _ _, stable_is _ _, stable_is _ _, stable_is _ _, stable_is _ _, stable_is _ _, stable_is _ _, stable_is _ _, stable_is _ _, stable_is _ _, stable_is _ _, stable_is _ _, stable_is _ _, stable_is _ _, stable_is _ _, stable_is _ _, stable_is _ _, stable_is _ _, stable_is _ _, stable_is _ _, stable_is _ _, stable_is _ _, stable_is _ _, stable_is _ _, stable_is _ _, stable_is _ _, stable_is _ _, stable_is _ _, stable_is _ _, (fun _ _ _ hb h => h.below hb), trivial⟩ ?_ (Below.refl _ _).drew ?_ ?_
        · as_aux_lemma => kernel_rfl
        · as_aux_lemma => kernel_rfl
        · as_aux_lemma => kernel_rfl
        · as_aux_lemma => kernel_rfl
        · as_aux_lemma => kernel_rfl
        · exact ⟨rfl, rfl, rfl, rfl, rfl, rfl, rfl, rfl, rfl, rfl, rfl, rfl, rfl, rfl, rfl, rfl, rfl, rfl, rfl, rfl, rfl, rfl, rfl, rfl, rfl, rfl, rfl, rfl, rfl, rfl, rfl, rfl, rfl, rfl, rfl, rfl, rfl, rfl, rfl, rfl, rfl, rfl, rfl, rfl, rfl, rfl, rfl, rfl, rfl, rfl, rfl, rfl, rfl, rfl, rfl, rfl, rfl, rfl, rfl, rfl, rfl, rfl, rfl, rfl, rfl, rfl, rfl, rfl, rfl, rfl, rfl, rfl, rfl, rfl, rfl, rfl, rfl, rfl, rfl, rfl, rfl, rfl, trivial⟩
        · refine ⟨?_, ?_, ?_, ?_, ?_, ?_, ?_, ?_, ?_, ?_, ?_, trivial⟩
          · as_aux_lemma =>
              intro vals a W hS hL
              have e5 : a.tmps.getD 5 undef = .pointer (some ⟨g5, 0, none⟩) := hL.1
              clear hL
              refine lands_vB (run_ldg (cs := enc 3 (.slice Ae ne ce) (.slice none 0 0)) rtEnv (HK5.out.below hS HK5.out.lt) (.tmp 5) rfl e5) ?_
              exact ⟨⟨fun d hd => by injection hd with hd; subst hd; rfl, fun h => by cases h⟩, hS, Below.refl _ _⟩
          · as_aux_lemma =>
              intro vals a W hS hL
              have e8 : a.tmps.getD 8 undef = .int .i64 k := hL.1
              clear hL
              go_simp
              exact ⟨⟨fun d hd => by injection hd with hd; subst hd; rfl, fun h => by cases h⟩, hS, (Below.refl _ _)⟩
          · as_aux_lemma =>
              intro vals a W hS hL
              have e50 : a.tmps.getD 50 undef = .int .i64 k := hL.1
              clear hL
              have hw : IntKind.i64.wrap ((k : Int) / 16) = (k : Int) / 16 := IntWalk.i64_in _ (by omega)
              go_simp
              exact ⟨⟨fun d hd => by injection hd with hd; subst hd; rfl, fun h => by cases h⟩, hS, (Below.refl _ _)⟩
          · as_aux_lemma =>
              intro vals a W hS hL
              have e8 : a.tmps.getD 8 undef = .int .i64 k := hL.1
              clear hL
              go_simp
              exact ⟨⟨fun d hd => by injection hd with hd; subst hd; rfl, fun h => by cases h⟩, hS, (Below.refl _ _)⟩
          · as_aux_lemma =>
              intro vals a W hS hL
              have e52 : a.tmps.getD 52 undef = .int .i64 k := hL.1
              clear hL
              have hw : IntKind.i64.wrap ((k : Int) / 4) = (k : Int) / 4 := IntWalk.i64_in _ (by omega)
              go_simp
              exact ⟨⟨fun d hd => by injection hd with hd; subst hd; rfl, fun h => by cases h⟩, hS, (Below.refl _ _)⟩
          · as_aux_lemma =>
              intro vals a W hS hL
              have e53 : a.tmps.getD 53 undef = .int .i64 ((k : Int) / 4) := hL.1
              clear hL
              go_simp
              exact ⟨⟨fun d hd => by injection hd with hd; subst hd; rfl, fun h => by cases h⟩, hS, (Below.refl _ _)⟩
          · as_aux_lemma =>
              intro vals a W hS hL
              have e8 : a.tmps.getD 8 undef = .int .i64 k := hL.1
              clear hL
              go_simp
              exact ⟨⟨fun d hd => by injection hd with hd; subst hd; rfl, fun h => by cases h⟩, hS, (Below.refl _ _)⟩
          · as_aux_lemma =>
              intro vals a W hS hL
              have e55 : a.tmps.getD 55 undef = .int .i64 k := hL.1
              clear hL
              go_simp
              exact ⟨⟨fun d hd => by injection hd with hd; subst hd; rfl, fun h => by cases h⟩, hS, (Below.refl _ _)⟩
          · as_aux_lemma =>
              intro vals a W hS hL
              have e51 : a.tmps.getD 51 undef = .int .i64 ((k : Int) / 16) := hL.1
              have e54 : a.tmps.getD 54 undef = .int .i64 ((k : Int) / 4 % 4) := hL.2.1
              have e56 : a.tmps.getD 56 undef = .int .i64 ((k : Int) % 4) := hL.2.2.1
              clear hL
              rw [Array.getD_eq_getD_getElem?] at e51 e54 e56
              go_simp
              refine (pl_any ((k : Int) / 16) ((k : Int) / 4 % 4) ((k : Int) % 4)).mono ?_
              rintro e W2 ⟨rfl, hb⟩
              exact ⟨_, rfl, ⟨fun d hd => by injection hd with hd; subst hd; rfl, fun h => by cases h⟩, hS.trans (hb.mono hS.size), hb⟩
          · as_aux_lemma =>
              intro vals a W hS hL
              have e9 : a.tmps.getD 9 undef = .pointer (some ⟨g9, 0, none⟩) := hL.1
              clear hL
              refine lands_vB (run_ldg (cs := vac X) rtVa (HK9.out.below hS HK9.out.lt) (.tmp 9) rfl e9) ?_
              exact ⟨⟨fun d hd => by injection hd with hd; subst hd; rfl, fun h => by cases h⟩, hS, Below.refl _ _⟩
          · as_aux_lemma =>
              intro vals a W hS hL
              have e49 : a.tmps.getD 49 undef = .agg (enc 3 (.slice Ae ne ce) (.slice none 0 0)).toArray := hL.1
              have e57 : a.tmps.getD 57 undef = .agg (plc (pk k)).toArray := hL.2.1
              have e58 : a.tmps.getD 58 undef = .agg (vac X).toArray := hL.2.2.1
              clear hL
              rw [Array.getD_eq_getD_getElem?] at e49 e57 e58
              go_simp
              refine (HP.out W hS).mono ?_
              rintro e W2 ⟨u, rfl, ho, hb⟩
              exact ⟨_, rfl, ⟨fun d hd => by injection hd with hd; subst hd; exact ho, fun h => by cases h⟩, hS.trans (hb.mono hS.size), hb⟩
        · intro a W vals hd hsz hT hF hv hP hS
          obtain rfl : vals = [] := List.eq_nil_of_length_eq_zero hv
          have e0 : a.tmps.getD 0 undef = .slice (some a0) n0 c0 := hT 0 (by simp)
          have e1 : a.tmps.getD 1 undef = .slice (some a1) n1 c1 := hT 1 (by simp)
          have e2 : a.tmps.getD 2 undef = undef := hT 2 (by simp)
          have e3 : a.tmps.getD 3 undef = undef := hT 3 (by simp)
          have e4 : a.tmps.getD 4 undef = .bool false := hT 4 (by simp)
          have e5 : a.tmps.getD 5 undef = .pointer (some ⟨g5, 0, none⟩) := hT 5 (by simp)
          have e6 : a.tmps.getD 6 undef = .pointer (some ⟨g6, 0, none⟩) := hT 6 (by simp)
          have e7 : a.tmps.getD 7 undef = .int .i64 j := hT 7 (by simp)
          have e8 : a.tmps.getD 8 undef = .int .i64 k := hT 8 (by simp)
          have e9 : a.tmps.getD 9 undef = .pointer (some ⟨g9, 0, none⟩) := hT 9 (by simp)
          have e10 : a.tmps.getD 10 undef = undef := hT 10 (by simp)
          have e11 : a.tmps.getD 11 undef = undef := hT 11 (by simp)
          have e12 : a.tmps.getD 12 undef = .bool true := hT 12 (by simp)
          have e13 : a.tmps.getD 13 undef = .bool false := hT 13 (by simp)
          have e14 : a.tmps.getD 14 undef = .slice (some a0) n0 c0 := hT 14 (by simp)
          have e15 : a.tmps.getD 15 undef = .int .i64 n0 := hT 15 (by simp)
          have e16 : a.tmps.getD 16 undef = .bool false := hT 16 (by simp)
          have e17 : a.tmps.getD 17 undef = .bool false := hT 17 (by simp)
          have e18 : a.tmps.getD 18 undef = .slice (some a1) n1 c1 := hT 18 (by simp)
          have e19 : a.tmps.getD 19 undef = .int .i64 n1 := hT 19 (by simp)
          have e20 : a.tmps.getD 20 undef = .slice (some a0) n0 c0 := hT 20 (by simp)
          have e21 : a.tmps.getD 21 undef = .int .i64 n0 := hT 21 (by simp)
          have e22 : a.tmps.getD 22 undef = .bool false := hT 22 (by simp)
          have e23 : a.tmps.getD 23 undef = .bool false := hT 23 (by simp)
          have e24 : a.tmps.getD 24 undef = .agg (enc 3 (.slice none 0 0) (.slice none 0 0)).toArray := hT 24 (by simp)
          have e63 : a.tmps.getD 63 undef = undef := hT 63 (by simp)
          have e64 : a.tmps.getD 64 undef = undef := hT 64 (by simp)
          have e65 : a.tmps.getD 65 undef = undef := hT 65 (by simp)
          have e66 : a.tmps.getD 66 undef = undef := hT 66 (by simp)
          have e67 : a.tmps.getD 67 undef = undef := hT 67 (by simp)
          have e68 : a.tmps.getD 68 undef = undef := hT 68 (by simp)
          have e69 : a.tmps.getD 69 undef = undef := hT 69 (by simp)
          have e70 : a.tmps.getD 70 undef = undef := hT 70 (by simp)
          have e71 : a.tmps.getD 71 undef = undef := hT 71 (by simp)
          have e72 : a.tmps.getD 72 undef = undef := hT 72 (by simp)
          have e73 : a.tmps.getD 73 undef = undef := hT 73 (by simp)
          have e74 : a.tmps.getD 74 undef = undef := hT 74 (by simp)
          have e75 : a.tmps.getD 75 undef = undef := hT 75 (by simp)
          have e76 : a.tmps.getD 76 undef = undef := hT 76 (by simp)
          have e77 : a.tmps.getD 77 undef = undef := hT 77 (by simp)
          have e78 : a.tmps.getD 78 undef = undef := hT 78 (by simp)
          have e79 : a.tmps.getD 79 undef = undef := hT 79 (by simp)
          have e80 : a.tmps.getD 80 undef = undef := hT 80 (by simp)
          have e81 : a.tmps.getD 81 undef = undef := hT 81 (by simp)
          have e82 : a.tmps.getD 82 undef = undef := hT 82 (by simp)
          have e83 : a.tmps.getD 83 undef = undef := hT 83 (by simp)
          have e84 : a.tmps.getD 84 undef = undef := hT 84 (by simp)
          have e85 : a.tmps.getD 85 undef = undef := hT 85 (by simp)
          have e86 : a.tmps.getD 86 undef = undef := hT 86 (by simp)
          have e87 : a.tmps.getD 87 undef = undef := hT 87 (by simp)
          have e88 : a.tmps.getD 88 undef = undef := hT 88 (by simp)
          have e89 : a.tmps.getD 89 undef = undef := hT 89 (by simp)
          have e90 : a.tmps.getD 90 undef = undef := hT 90 (by simp)
          have e91 : a.tmps.getD 91 undef = undef := hT 91 (by simp)
          have e92 : a.tmps.getD 92 undef = undef := hT 92 (by simp)
          have e93 : a.tmps.getD 93 undef = undef := hT 93 (by simp)
          have e94 : a.tmps.getD 94 undef = undef := hT 94 (by simp)
          have e95 : a.tmps.getD 95 undef = undef := hT 95 (by simp)
          have e96 : a.tmps.getD 96 undef = undef := hT 96 (by simp)
          have e97 : a.tmps.getD 97 undef = undef := hT 97 (by simp)
          have e98 : a.tmps.getD 98 undef = undef := hT 98 (by simp)
          have e99 : a.tmps.getD 99 undef = undef := hT 99 (by simp)
          have e100 : a.tmps.getD 100 undef = undef := hT 100 (by simp)
          have e101 : a.tmps.getD 101 undef = undef := hT 101 (by simp)
          have e102 : a.tmps.getD 102 undef = undef := hT 102 (by simp)
          have e103 : a.tmps.getD 103 undef = undef := hT 103 (by simp)
          have e104 : a.tmps.getD 104 undef = undef := hT 104 (by simp)
          have e105 : a.tmps.getD 105 undef = undef := hT 105 (by simp)
          have e106 : a.tmps.getD 106 undef = undef := hT 106 (by simp)
          have e107 : a.tmps.getD 107 undef = undef := hT 107 (by simp)
          have e108 : a.tmps.getD 108 undef = undef := hT 108 (by simp)
          have e109 : a.tmps.getD 109 undef = undef := hT 109 (by simp)
          have e110 : a.tmps.getD 110 undef = undef := hT 110 (by simp)
          have e111 : a.tmps.getD 111 undef = undef := hT 111 (by simp)
          have e112 : a.tmps.getD 112 undef = undef := hT 112 (by simp)
          have e113 : a.tmps.getD 113 undef = undef := hT 113 (by simp)
          have e114 : a.tmps.getD 114 undef = undef := hT 114 (by simp)
          have e115 : a.tmps.getD 115 undef = undef := hT 115 (by simp)
          have e116 : a.tmps.getD 116 undef = undef := hT 116 (by simp)
          have e117 : a.tmps.getD 117 undef = undef := hT 117 (by simp)
          have e118 : a.tmps.getD 118 undef = undef := hT 118 (by simp)
          have e119 : a.tmps.getD 119 undef = undef := hT 119 (by simp)
          obtain ⟨Au, cu, e59, hcu, ho⟩ : OwE W w.heap.size 3 (rowH (updH h k X)) (a.tmps.getD 59 undef) := hT 59 (by simp)
          clear hT hF hP
          show Oper.wp _ _ _ _ _ _
          refine st_sub (.tmp 5) (.tmp 59) (vs := enc 3 (.slice Au (rowH (updH h k X)).length cu) (.slice none 0 0)) rfl e5 e59 rtEnv.size enc_one (HK5.out.below hS HK5.out.lt) (Nat.le_refl 3) ?_
          intro W2 hk hK hsz2
          have hlo := HLO.out
          have hb2 : Below w.heap.size w W2 := (HBWb.out.trans (hS.mono HBWb.out.size)).trans (hK.below (B := w.heap.size) (Nat.le_trans HBWb.out.size hS.size) fun i hi e => by omega)
          have ho2 := hK.own ho fun i hi e => own_ne ho (HK5.out.below hS HK5.out.lt) (by decide) (by rw [hi, e])
          have hk2 : Bk W2 g5 28 (enc 3 (.slice Au (rowH (updH h k X)).length cu) (.slice none 0 0)).toArray := hk
          have ha2 := hK.bk (HAb.out.below hS HAb.out.lt) hlo.2.2
          have h92 := hK.bk (HK9.out.below hS HK9.out.lt) HGs.out.1
          have HE2 := Lib.hid (And.intro hk2 (And.intro hcu ho2))
          have HA2 := Lib.hid ha2
          have H92 := Lib.hid h92
          have HB2 := Lib.hid hb2
          clear hk hK hk2 ho ho2 hcu ha2 h92 hS e59 hsz2 hb2 hlo HAb HBWb HK5 HK9 HP
          dsimp only [Act.put]
          rw [act_lit 120 a hd hsz]
          obtain ⟨f, hf⟩ : ∃ f : Nat → Value, ∀ k, a.tmps.getD k undef = f k := ⟨_, fun _ => rfl⟩
          simp only [List.range, List.range.loop, List.map, e0, e1, e2, e3, e4, e5, e6, e7, e8, e9, e10, e11, e12, e13, e14, e15, e16, e17, e18, e19, e20, e21, e22, e23, e24, e63, e64, e65, e66, e67, e68, e69, e70, e71, e72, e73, e74, e75, e76, e77, e78, e79, e80, e81, e82, e83, e84, e85, e86, e87, e88, e89, e90, e91, e92, e93, e94, e95, e96, e97, e98, e99, e100, e101, e102, e103, e104, e105, e106, e107, e108, e109, e110, e111, e112, e113, e114, e115, e116, e117, e118, e119]
          simp only [hf]
          clear e0 e1 e2 e3 e4 e5 e6 e7 e8 e9 e10 e11 e12 e13 e14 e15 e16 e17 e18 e19 e20 e21 e22 e23 e24 e63 e64 e65 e66 e67 e68 e69 e70 e71 e72 e73 e74 e75 e76 e77 e78 e79 e80 e81 e82 e83 e84 e85 e86 e87 e88 e89 e90 e91 e92 e93 e94 e95 e96 e97 e98 e99 e100 e101 e102 e103 e104 e105 e106 e107 e108 e109 e110 e111 e112 e113 e114 e115 e116 e117 e118 e119 hsz hd hf
          have HB : Hid (BX W2 [] W2) := Lib.hid (BX.start W2)
          repeat' (first | ((with_reducible show Oper.wp _ _ _ _ _ _); with_reducible refine stop_ld (ty := 32) _ rfl ?_) | go_values | go_skip | go_guarded | go_step | go_upon)
          refine Lib.hid ?_
          refine wp_b (run_ldg (cs := vac X) rtVa H92.out (.tmp 9) rfl rfl) ?_
          go_simp
          repeat' (first | ((with_reducible show Oper.wp _ _ _ _ _ _); with_reducible refine stop_st _ _ rfl ?_) | go_values | go_skip | go_guarded | go_step | go_upon)
          refine Lib.hid ?_
          refine st_sub (off := k * 6) (.tmp 62) (.tmp 61) (vs := vac X) rfl rfl rfl rtVa.size (vac_one X) HA2.out (by rw [hsc_len]; show k * 6 + 6 ≤ 64 * 6; omega) ?_
          intro W3 hk hK hsz3
          have hk3 : Bk W3 g6 33 (hsc (updH h k X) 64).toArray := by
            have e := hsc_put h X (k := k) (n := 64) (by omega)
            rw [← e]
            exact hk
          have hlo := HLO.out
          have hb3 : Below w.heap.size w W3 := HB2.out.trans (hK.below (B := w.heap.size) HB2.out.size fun i hi e => by omega)
          have HE3 : Hid (EnvAt W3 g5 3 (rowH (updH h k X))) := Lib.hid (by
            obtain ⟨hk5, hcu, ho5⟩ := HE2.out
            exact ⟨Au, cu, hK.bk hk5 (fun e => hlo.2.2 e.symm), hcu, own_rd (hK.own ho5 fun i hi e => own_ne ho5 HA2.out (by decide) (by rw [hi, e]))⟩)
          have HA3 := Lib.hid hk3
          have HB3 := Lib.hid hb3
          have HBl3 : Hid (OkH (updH h k X)) := Lib.hid (fun q => by
            unfold updH
            split
            · exact ⟨HXX.out.2.2, HXX.out.1, HXX.out.2.1⟩
            · exact HBl.out q)
          clear hk hK hk3 hb3 hlo HE2 HA2 HB2 HB
          go_simp
          repeat' (first | go_values | go_skip | go_guarded | go_step | go_upon)
          go_roundw
          case rel => exact ⟨j + 1, updH h k X, by simp, by omega, HBl3, HE3, HA3, HB3⟩
          case measure => simp [intOf]; omega
    · obtain rfl : j = n0 := by omega
      have hlt' : ¬ (j : Int) < (j : Int) := by omega
      clear hn1 hn1'
      repeat' (first | go_values | go_skip | go_guarded | go_step | go_upon)
      go_loopw [10, 11] (fun c i wr2 => ∃ k : Nat, i = .int .i64 k ∧ k ≤ 48 ∧ c = .int .i64 (rowA h 0 k).length ∧ Hid (EnvAt wr2 g5 3 (rowH h)) ∧ Hid (Bk wr2 g6 33 (hsc h 64).toArray) ∧ Hid (Below w.heap.size w wr2)) (fun _ i _ => 48 - (intOf i).toNat)
      case atStart => exact ⟨0, rfl, Nat.zero_le _, rfl, HE, HAr, HBW⟩
      case round =>
        clear HE HAr HBW
        obtain ⟨k, rfl, hk48, rfl, HE, HAr, HBW⟩ := hrel
        by_cases hlt : k < 48
        · have hlt' : (k : Int) < 48 := by omega
          obtain ⟨Ae, ce, hke, hce, hre⟩ := HE.out
          have hl48 := rowA_len h 0 48
          have hl48' : (rowH h).length ≤ 100000 := by show (rowA h 0 48).length ≤ 100000; omega
          have HG : Hid (∀ W : World, Below wr.heap.size wr W → Calls Tryd.prog 10 #[.agg (enc 3 (.slice Ae (rowH h).length ce) (.slice none 0 0)).toArray, .agg (plc (pk k)).toArray] W fun e W' => e = .returned (.agg (vac (h k)).toArray) ∧ Below W.heap.size W W') := Lib.hid fun W hb => by
            have := Get_any (w := W) (L := rowH h) (pk k) 3 (nn := 0) (cn := 0) (An := none) (hre.below hb) hb.size hl48' hce (up_H h)
            rwa [get_H (fun q => (HBl.out q).1) hlt] at this
          obtain ⟨ne, hne⟩ : ∃ ne, ne = (rowH h).length := ⟨_, rfl⟩
          have HNE := Lib.hid hne
          obtain ⟨m, hm⟩ : ∃ m, m = (rowA h 0 k).length := ⟨_, rfl⟩
          have HM := Lib.hid hm
          have hm48 : m ≤ 48 := by have := rowA_len h 0 k; omega
          rw [← hne] at hke HG
          rw [← hm]
          have HRE := Lib.hid (show Rd wr wr.heap.size 9 Ae ne (rwc (rowH h)) by rw [hne]; exact hre)
          have HK5 := Lib.hid hke
          have HHC : Hid (∀ W : World, Below wr.heap.size wr W → ∀ (q : Nat) (u : Value), (vac (h k))[q]? = some u → W.cell? ⟨g6, k * 6 + q, none⟩ = some u) := Lib.hid fun W hb q u hq => by
            rw [(HAr.out.below hb HAr.out.lt).cell]
            have := hsc_get h (n := 64) (k := k) (by omega) hq
            simpa using this
          have hk0 : (0 : Int) ≤ (k : Int) := by omega
          have hc2 : ne ≤ ce := by rw [hne]; exact hce
          have hne2 : ne ≤ 100000 := by rw [hne]; exact hl48'
          clear hke hce hre hne hm hl48 hl48'
          obtain ⟨W0, hW⟩ : ∃ W0, W0 = wr := ⟨_, rfl⟩
          subst hW
          repeat' (first | go_values | go_skip | go_guarded | go_step | go_upon)
          refine wp_region_phases (S := (fun _ W => Below W0.heap.size W0 W)) (E := (fun W W' => Below W.heap.size W W')) [] [(0, Is (.slice A0 j c0)), (1, Is (.slice A1 n1 c1)), (2, Is (undef)), (3, Is (undef)), (5, Is (.pointer (some ⟨g5, 0, none⟩))), (6, Is (.pointer (some ⟨g6, 0, none⟩))), (7, Is (.int .i64 j)), (8, Is (u8)), (9, Is (u9)), (10, Is (.int .i64 m)), (11, Is (.int .i64 k)), (12, Is (.bool true)), (13, Is (.bool false)), (14, Is (.slice A0 j c0)), (15, Is (.int .i64 j)), (16, Is (.bool false)), (17, Is (.bool false)), (18, Is (.slice A1 n1 c1)), (19, Is (.int .i64 n1)), (20, Is (.slice A0 j c0)), (21, Is (.int .i64 j)), (22, Is (.bool false)), (23, Is (.bool false)), (24, Is (.agg (enc 3 (.slice none 0 0) (.slice none 0 0)).toArray)), (25, Is (.int .i64 j)), (26, Is (.slice A0 j c0)), (27, Is (.int .i64 j)), (28, Is (.bool false)), (29, Is (u29)), (30, Is (u30)), (31, Is (u31)), (32, Is (u32)), (33, Is (u33)), (34, Is (u34)), (35, Is (u35)), (36, Is (u36)), (37, Is (u37)), (38, Is (u38)), (39, Is (u39)), (40, Is (u40)), (41, Is (u41)), (42, Is (u42)), (43, Is (u43)), (44, Is (u44)), (45, Is (u45)), (46, Is (u46)), (47, Is (u47)), (48, Is (u48)), (49, Is (u49)), (50, Is (u50)), (51, Is (u51)), (52, Is (u52)), (53, Is (u53)), (54, Is (u54)), (55, Is (u55)), (56, Is (u56)), (57, Is (u57)), (58, Is (u58)), (59, Is (u59)), (60, Is (u60)), (61, Is (u61)), (62, Is (u62)), (110, Is (undef)), (111, Is (undef)), (112, Is (undef)), (113, Is (undef)), (114, Is (undef)), (115, Is (undef)), (116, Is (undef)), (117, Is (undef)), (118, Is (undef)), (119, Is (undef))] [(67, Is (.agg (enc 3 (.slice Ae ne ce) (.slice none 0 0)).toArray)), (68, Is (.int .i64 k)), (69, Is (.int .i64 ((k : Int) / 16))), (70, Is (.int .i64 k)), (71, Is (.int .i64 ((k : Int) / 4))), (72, Is (.int .i64 ((k : Int) / 4 % 4))), (73, Is (.int .i64 k)), (74, Is (.int .i64 ((k : Int) % 4))), (75, Is (.agg (plc (pk k)).toArray)), (76, Is (.agg (vac (h k)).toArray)), (77, Is (.int .i64 k)), (78, Is (.pointer (some ⟨g6, k * 6, none⟩))), (79, Is (.agg (vac (h k)).toArray)), (80, Is (.bool false))]
            [.op [5] none, .op [11] none, .op [68] none, .op [11] none, .op [70] none, .op [71] none, .op [11] none, .op [73] none, .op [69, 72, 74] none, .op [67, 75] none, .op [11] none, .op [6, 77] none, .op [78] none, .op [76, 79] none] (by as_aux_lemma => kernel_rfl) ?_ ?_ ?_ ?_ ?_ ⟨stable_is _ _, stable_is _ _, stable_is _ _, stable_is _ _, stable_is _ _, stable_is _ _, stable_is _ _, stable_is _ _, stable_is _ _, stable_is _ _, stable_is _ _, stable_is _ _, stable_is _ _, stable_is _ _, stable_is _ _, stable_is _ _, stable_is _ _, stable_is _ _, stable_is _ _, stable_is _ _, stable_is _ _, stable_is _ _, stable_is _ _, stable_is _ _, stable_is _ _, stable_is _ _, stable_is _ _, stable_is _ _, stable_is _ _, stable_is _ _, stable_is _ _, stable_is _ _, stable_is _ _, stable_is _ _, stable_is _ _, stable_is _ _, stable_is _ _, stable_is _ _, stable_is _ _, stable_is _ _, stable_is _ _, stable_is _ _, stable_is _ _, stable_is _ _, stable_is _ _, stable_is _ _, stable_is _ _, stable_is _ _, stable_is _ _, stable_is _ _, stable_is _ _, stable_is _ _, stable_is _ _, stable_is _ _, stable_is _ _, stable_is _ _, stable_is _ _, stable_is _ _, stable_is _ _, stable_is _ _, stable_is _ _, stable_is _ _, stable_is _ _, stable_is _ _, stable_is _ _, stable_is _ _, stable_is _ _, stable_is _ _, stable_is _ _, stable_is _ _, stable_is _ _, stable_is _ _, stable_is _ _, stable_is _ _, stable_is _ _, stable_is _ _, stable_is _ _, stable_is _ _, stable_is _ _, stable_is _ _, stable_is _ _, stable_is _ _, stable_is _ _, stable_is _ _, stable_is _ _, stable_is _ _, trivial⟩ ?_ (Below.refl _ _).drew ?_ ?_
          · as_aux_lemma => kernel_rfl
          · as_aux_lemma => kernel_rfl
          · as_aux_lemma => kernel_rfl
          · as_aux_lemma => kernel_rfl
          · as_aux_lemma => kernel_rfl
          · exact ⟨rfl, rfl, rfl, rfl, rfl, rfl, rfl, rfl, rfl, rfl, rfl, rfl, rfl, rfl, rfl, rfl, rfl, rfl, rfl, rfl, rfl, rfl, rfl, rfl, rfl, rfl, rfl, rfl, rfl, rfl, rfl, rfl, rfl, rfl, rfl, rfl, rfl, rfl, rfl, rfl, rfl, rfl, rfl, rfl, rfl, rfl, rfl, rfl, rfl, rfl, rfl, rfl, rfl, rfl, rfl, rfl, rfl, rfl, rfl, rfl, rfl, rfl, rfl, rfl, rfl, rfl, rfl, rfl, rfl, rfl, rfl, rfl, trivial⟩
          · refine ⟨?_, ?_, ?_, ?_, ?_, ?_, ?_, ?_, ?_, ?_, ?_, ?_, ?_, ?_, trivial⟩
            · as_aux_lemma =>
                intro vals a W hS hL
                have e5 : a.tmps.getD 5 undef = .pointer (some ⟨g5, 0, none⟩) := hL.1
                clear hL
                refine lands_vB (run_ldg (cs := enc 3 (.slice Ae ne ce) (.slice none 0 0)) rtEnv (HK5.out.below hS HK5.out.lt) (.tmp 5) rfl e5) ?_
                exact ⟨⟨fun d hd => by injection hd with hd; subst hd; rfl, fun h => by cases h⟩, hS, Below.refl _ _⟩
            · as_aux_lemma =>
                intro vals a W hS hL
                have e11 : a.tmps.getD 11 undef = .int .i64 k := hL.1
                clear hL
                go_simp
                exact ⟨⟨fun d hd => by injection hd with hd; subst hd; rfl, fun h => by cases h⟩, hS, (Below.refl _ _)⟩
            · as_aux_lemma =>
                intro vals a W hS hL
                have e68 : a.tmps.getD 68 undef = .int .i64 k := hL.1
                clear hL
                have hw : IntKind.i64.wrap ((k : Int) / 16) = (k : Int) / 16 := IntWalk.i64_in _ (by omega)
                go_simp
                exact ⟨⟨fun d hd => by injection hd with hd; subst hd; rfl, fun h => by cases h⟩, hS, (Below.refl _ _)⟩
            · as_aux_lemma =>
                intro vals a W hS hL
                have e11 : a.tmps.getD 11 undef = .int .i64 k := hL.1
                clear hL
                go_simp
                exact ⟨⟨fun d hd => by injection hd with hd; subst hd; rfl, fun h => by cases h⟩, hS, (Below.refl _ _)⟩
            · as_aux_lemma =>
                intro vals a W hS hL
                have e70 : a.tmps.getD 70 undef = .int .i64 k := hL.1
                clear hL
                have hw : IntKind.i64.wrap ((k : Int) / 4) = (k : Int) / 4 := IntWalk.i64_in _ (by omega)
                go_simp
                exact ⟨⟨fun d hd => by injection hd with hd; subst hd; rfl, fun h => by cases h⟩, hS, (Below.refl _ _)⟩
            · as_aux_lemma =>
                intro vals a W hS hL
                have e71 : a.tmps.getD 71 undef = .int .i64 ((k : Int) / 4) := hL.1
                clear hL
                go_simp
                exact ⟨⟨fun d hd => by injection hd with hd; subst hd; rfl, fun h => by cases h⟩, hS, (Below.refl _ _)⟩
            · as_aux_lemma =>
                intro vals a W hS hL
                have e11 : a.tmps.getD 11 undef = .int .i64 k := hL.1
                clear hL
                go_simp
                exact ⟨⟨fun d hd => by injection hd with hd; subst hd; rfl, fun h => by cases h⟩, hS, (Below.refl _ _)⟩
            · as_aux_lemma =>
                intro vals a W hS hL
                have e73 : a.tmps.getD 73 undef = .int .i64 k := hL.1
                clear hL
                go_simp
                exact ⟨⟨fun d hd => by injection hd with hd; subst hd; rfl, fun h => by cases h⟩, hS, (Below.refl _ _)⟩
            · as_aux_lemma =>
                intro vals a W hS hL
                have e69 : a.tmps.getD 69 undef = .int .i64 ((k : Int) / 16) := hL.1
                have e72 : a.tmps.getD 72 undef = .int .i64 ((k : Int) / 4 % 4) := hL.2.1
                have e74 : a.tmps.getD 74 undef = .int .i64 ((k : Int) % 4) := hL.2.2.1
                clear hL
                rw [Array.getD_eq_getD_getElem?] at e69 e72 e74
                go_simp
                refine (pl_any ((k : Int) / 16) ((k : Int) / 4 % 4) ((k : Int) % 4)).mono ?_
                rintro e W2 ⟨rfl, hb⟩
                exact ⟨_, rfl, ⟨fun d hd => by injection hd with hd; subst hd; rfl, fun h => by cases h⟩, hS.trans (hb.mono hS.size), hb⟩
            · as_aux_lemma =>
                intro vals a W hS hL
                have e67 : a.tmps.getD 67 undef = .agg (enc 3 (.slice Ae ne ce) (.slice none 0 0)).toArray := hL.1
                have e75 : a.tmps.getD 75 undef = .agg (plc (pk k)).toArray := hL.2.1
                clear hL
                rw [Array.getD_eq_getD_getElem?] at e67 e75
                go_simp
                refine (HG.out W hS).mono ?_
                rintro e W2 ⟨rfl, hb⟩
                exact ⟨_, rfl, ⟨fun d hd => by injection hd with hd; subst hd; rfl, fun h => by cases h⟩, hS.trans (hb.mono hS.size), hb⟩
            · as_aux_lemma =>
                intro vals a W hS hL
                have e11 : a.tmps.getD 11 undef = .int .i64 k := hL.1
                clear hL
                go_simp
                exact ⟨⟨fun d hd => by injection hd with hd; subst hd; rfl, fun h => by cases h⟩, hS, (Below.refl _ _)⟩
            · as_aux_lemma =>
                intro vals a W hS hL
                have e6 : a.tmps.getD 6 undef = .pointer (some ⟨g6, 0, none⟩) := hL.1
                have e77 : a.tmps.getD 77 undef = .int .i64 k := hL.2.1
                clear hL
                have hk64 : (k : Int) < 64 := by omega
                go_simp
                exact ⟨⟨fun d hd => by injection hd with hd; subst hd; rfl, fun h => by cases h⟩, hS, (Below.refl _ _)⟩
            · as_aux_lemma =>
                intro vals a W hS hL
                have e78 : a.tmps.getD 78 undef = .pointer (some ⟨g6, k * 6, none⟩) := hL.1
                clear hL
                refine lands_vB (run_ldmB (cs := vac (h k)) rtVa (fun j u hj => by rw [add_lit]; exact HHC.out W hS j u hj) (.tmp 78) rfl e78) ?_
                exact ⟨⟨fun d hd => by injection hd with hd; subst hd; rfl, fun h => by cases h⟩, hS, Below.refl _ _⟩
            · as_aux_lemma =>
                intro vals a W hS hL
                have e76 : a.tmps.getD 76 undef = .agg (vac (h k)).toArray := hL.1
                have e79 : a.tmps.getD 79 undef = .agg (vac (h k)).toArray := hL.2.1
                clear hL
                refine lands_vB (run_neqvF (p := h k) (q := h k) (eqV_iff.2 rfl) (.tmp 76) (.tmp 79) rfl e76 e79) ?_
                exact ⟨⟨fun d hd => by injection hd with hd; subst hd; rfl, fun h => by cases h⟩, hS, Below.refl _ _⟩
          · intro a W vals hd hsz hT hF hv hP hS
            obtain rfl : vals = [] := List.eq_nil_of_length_eq_zero hv
            have e80 : a.tmps.getD 80 undef = .bool false := hT 80 (by simp)
            have e0 : a.tmps.getD 0 undef = .slice A0 j c0 := hT 0 (by simp)
            have e1 : a.tmps.getD 1 undef = .slice A1 n1 c1 := hT 1 (by simp)
            have e2 : a.tmps.getD 2 undef = undef := hT 2 (by simp)
            have e3 : a.tmps.getD 3 undef = undef := hT 3 (by simp)
            have e5 : a.tmps.getD 5 undef = .pointer (some ⟨g5, 0, none⟩) := hT 5 (by simp)
            have e6 : a.tmps.getD 6 undef = .pointer (some ⟨g6, 0, none⟩) := hT 6 (by simp)
            have e7 : a.tmps.getD 7 undef = .int .i64 j := hT 7 (by simp)
            have e8 : a.tmps.getD 8 undef = u8 := hT 8 (by simp)
            have e9 : a.tmps.getD 9 undef = u9 := hT 9 (by simp)
            have e10 : a.tmps.getD 10 undef = .int .i64 m := hT 10 (by simp)
            have e11 : a.tmps.getD 11 undef = .int .i64 k := hT 11 (by simp)
            have e12 : a.tmps.getD 12 undef = .bool true := hT 12 (by simp)
            have e13 : a.tmps.getD 13 undef = .bool false := hT 13 (by simp)
            have e14 : a.tmps.getD 14 undef = .slice A0 j c0 := hT 14 (by simp)
            have e15 : a.tmps.getD 15 undef = .int .i64 j := hT 15 (by simp)
            have e16 : a.tmps.getD 16 undef = .bool false := hT 16 (by simp)
            have e17 : a.tmps.getD 17 undef = .bool false := hT 17 (by simp)
            have e18 : a.tmps.getD 18 undef = .slice A1 n1 c1 := hT 18 (by simp)
            have e19 : a.tmps.getD 19 undef = .int .i64 n1 := hT 19 (by simp)
            have e20 : a.tmps.getD 20 undef = .slice A0 j c0 := hT 20 (by simp)
            have e21 : a.tmps.getD 21 undef = .int .i64 j := hT 21 (by simp)
            have e22 : a.tmps.getD 22 undef = .bool false := hT 22 (by simp)
            have e23 : a.tmps.getD 23 undef = .bool false := hT 23 (by simp)
            have e24 : a.tmps.getD 24 undef = .agg (enc 3 (.slice none 0 0) (.slice none 0 0)).toArray := hT 24 (by simp)
            have e25 : a.tmps.getD 25 undef = .int .i64 j := hT 25 (by simp)
            have e26 : a.tmps.getD 26 undef = .slice A0 j c0 := hT 26 (by simp)
            have e27 : a.tmps.getD 27 undef = .int .i64 j := hT 27 (by simp)
            have e28 : a.tmps.getD 28 undef = .bool false := hT 28 (by simp)
            have e29 : a.tmps.getD 29 undef = u29 := hT 29 (by simp)
            have e30 : a.tmps.getD 30 undef = u30 := hT 30 (by simp)
            have e31 : a.tmps.getD 31 undef = u31 := hT 31 (by simp)
            have e32 : a.tmps.getD 32 undef = u32 := hT 32 (by simp)
            have e33 : a.tmps.getD 33 undef = u33 := hT 33 (by simp)
            have e34 : a.tmps.getD 34 undef = u34 := hT 34 (by simp)
            have e35 : a.tmps.getD 35 undef = u35 := hT 35 (by simp)
            have e36 : a.tmps.getD 36 undef = u36 := hT 36 (by simp)
            have e37 : a.tmps.getD 37 undef = u37 := hT 37 (by simp)
            have e38 : a.tmps.getD 38 undef = u38 := hT 38 (by simp)
            have e39 : a.tmps.getD 39 undef = u39 := hT 39 (by simp)
            have e40 : a.tmps.getD 40 undef = u40 := hT 40 (by simp)
            have e41 : a.tmps.getD 41 undef = u41 := hT 41 (by simp)
            have e42 : a.tmps.getD 42 undef = u42 := hT 42 (by simp)
            have e43 : a.tmps.getD 43 undef = u43 := hT 43 (by simp)
            have e44 : a.tmps.getD 44 undef = u44 := hT 44 (by simp)
            have e45 : a.tmps.getD 45 undef = u45 := hT 45 (by simp)
            have e46 : a.tmps.getD 46 undef = u46 := hT 46 (by simp)
            have e47 : a.tmps.getD 47 undef = u47 := hT 47 (by simp)
            have e48 : a.tmps.getD 48 undef = u48 := hT 48 (by simp)
            have e49 : a.tmps.getD 49 undef = u49 := hT 49 (by simp)
            have e50 : a.tmps.getD 50 undef = u50 := hT 50 (by simp)
            have e51 : a.tmps.getD 51 undef = u51 := hT 51 (by simp)
            have e52 : a.tmps.getD 52 undef = u52 := hT 52 (by simp)
            have e53 : a.tmps.getD 53 undef = u53 := hT 53 (by simp)
            have e54 : a.tmps.getD 54 undef = u54 := hT 54 (by simp)
            have e55 : a.tmps.getD 55 undef = u55 := hT 55 (by simp)
            have e56 : a.tmps.getD 56 undef = u56 := hT 56 (by simp)
            have e57 : a.tmps.getD 57 undef = u57 := hT 57 (by simp)
            have e58 : a.tmps.getD 58 undef = u58 := hT 58 (by simp)
            have e59 : a.tmps.getD 59 undef = u59 := hT 59 (by simp)
            have e60 : a.tmps.getD 60 undef = u60 := hT 60 (by simp)
            have e61 : a.tmps.getD 61 undef = u61 := hT 61 (by simp)
            have e62 : a.tmps.getD 62 undef = u62 := hT 62 (by simp)
            have e110 : a.tmps.getD 110 undef = undef := hT 110 (by simp)
            have e111 : a.tmps.getD 111 undef = undef := hT 111 (by simp)
            have e112 : a.tmps.getD 112 undef = undef := hT 112 (by simp)
            have e113 : a.tmps.getD 113 undef = undef := hT 113 (by simp)
            have e114 : a.tmps.getD 114 undef = undef := hT 114 (by simp)
            have e115 : a.tmps.getD 115 undef = undef := hT 115 (by simp)
            have e116 : a.tmps.getD 116 undef = undef := hT 116 (by simp)
            have e117 : a.tmps.getD 117 undef = undef := hT 117 (by simp)
            have e118 : a.tmps.getD 118 undef = undef := hT 118 (by simp)
            have e119 : a.tmps.getD 119 undef = undef := hT 119 (by simp)
            clear hT hF hP
            rw [act_lit 120 a hd hsz]
            simp only [List.range, List.range.loop, List.map, e80, e0, e1, e2, e3, e5, e6, e7, e8, e9, e10, e11, e12, e13, e14, e15, e16, e17, e18, e19, e20, e21, e22, e23, e24, e25, e26, e27, e28, e29, e30, e31, e32, e33, e34, e35, e36, e37, e38, e39, e40, e41, e42, e43, e44, e45, e46, e47, e48, e49, e50, e51, e52, e53, e54, e55, e56, e57, e58, e59, e60, e61, e62, e110, e111, e112, e113, e114, e115, e116, e117, e118, e119]
            clear e80 e0 e1 e2 e3 e5 e6 e7 e8 e9 e10 e11 e12 e13 e14 e15 e16 e17 e18 e19 e20 e21 e22 e23 e24 e25 e26 e27 e28 e29 e30 e31 e32 e33 e34 e35 e36 e37 e38 e39 e40 e41 e42 e43 e44 e45 e46 e47 e48 e49 e50 e51 e52 e53 e54 e55 e56 e57 e58 e59 e60 e61 e62 e110 e111 e112 e113 e114 e115 e116 e117 e118 e119 hsz hd
            obtain ⟨f, hf⟩ : ∃ f : Nat → Value, ∀ k, a.tmps.getD k undef = f k := ⟨_, fun _ => rfl⟩
            simp only [hf]
            clear hf
            have HS := Lib.hid hS
            clear hS
            have hcell := HHC.out W HS.out 0 (.int .i64 (h k).k) rfl
            rw [Nat.add_zero] at hcell
            have HBW2 := Lib.hid (HBW.out.trans (HS.out.mono HBW.out.size))
            by_cases hb0 : (h k).k = 0
            · have fb : ((h k).k != 0) = false := by rw [hb0]; rfl
              have HE2 := Lib.hid (HE.out.below HS.out)
              have HA2 := Lib.hid (HAr.out.below HS.out HAr.out.lt)
              have hm2 : (rowA h 0 (k + 1)).length = m := by rw [len_s, if_pos hb0, Nat.add_zero]; exact HM.out.symm
              clear HE HAr HK5 HHC HBW HRE HG
              repeat' (first | go_values | go_skip | go_guarded | go_step | go_upon)
              go_roundw
              case rel => exact ⟨k + 1, by simp, by omega, by rw [hm2], HE2, HA2, HBW2⟩
              case measure => simp [intOf]; omega
            · have fb : ((h k).k != 0) = true := by rw [bne_iff_ne]; exact hb0
              have hrow : (rowH h)[m]? = some ⟨pk k, h k⟩ := by
                rw [HM.out, at_H h hlt]
                unfold slh
                rw [if_neg hb0]
                rfl
              have hmn : m < ne := by rw [HNE.out]; exact (List.getElem?_eq_some_iff.1 hrow).1
              obtain ⟨q, hq, hqc⟩ := rd_row (show Rd W0 W0.heap.size 9 Ae (rowH h).length (rwc (rowH h)) by rw [← HNE.out]; exact HRE.out) (Nat.le_refl _) hrow
              subst hq
              have HC := Lib.hid (fun W' (hb : Below W.heap.size W W') => hqc W' (HS.out.trans (hb.mono HS.out.size)))
              have HK6 := Lib.hid (HK5.out.below HS.out HK5.out.lt)
              have HE2 := Lib.hid (HE.out.below HS.out)
              have HA2 := Lib.hid (HAr.out.below HS.out HAr.out.lt)
              have hm2 : (rowA h 0 (k + 1)).length = m + 1 := by rw [len_s, if_neg hb0, ← HM.out]
              have hmi : ¬ (m : Int) ≥ (ne : Int) := by omega
              clear HE HAr HK5 HHC HBW HRE HG hqc hrow HS
              obtain ⟨W4, hW⟩ : ∃ W4, W4 = W := ⟨_, rfl⟩
              subst hW
              repeat' (first | go_values | go_skip | go_guarded | go_step | go_upon)
              refine wp_region_phases (S := (fun _ W => Below W4.heap.size W4 W)) (E := (fun W W' => Below W.heap.size W W')) [] [(0, Is (.slice A0 j c0)), (1, Is (.slice A1 n1 c1)), (2, Is (undef)), (3, Is (undef)), (5, Is (.pointer (some ⟨g5, 0, none⟩))), (6, Is (.pointer (some ⟨g6, 0, none⟩))), (7, Is (.int .i64 j)), (8, Is (u8)), (9, Is (u9)), (10, Is (.int .i64 m)), (11, Is (.int .i64 k)), (12, Is (.bool true)), (13, Is (.bool false)), (14, Is (.slice A0 j c0)), (15, Is (.int .i64 j)), (16, Is (.bool false)), (17, Is (.bool false)), (18, Is (.slice A1 n1 c1)), (19, Is (.int .i64 n1)), (20, Is (.slice A0 j c0)), (21, Is (.int .i64 j)), (22, Is (.bool false)), (23, Is (.bool false)), (24, Is (.agg (enc 3 (.slice none 0 0) (.slice none 0 0)).toArray)), (25, Is (.int .i64 j)), (26, Is (.slice A0 j c0)), (27, Is (.int .i64 j)), (28, Is (.bool false)), (29, Is (u29)), (30, Is (u30)), (31, Is (u31)), (32, Is (u32)), (33, Is (u33)), (34, Is (u34)), (35, Is (u35)), (36, Is (u36)), (37, Is (u37)), (38, Is (u38)), (39, Is (u39)), (40, Is (u40)), (41, Is (u41)), (42, Is (u42)), (43, Is (u43)), (44, Is (u44)), (45, Is (u45)), (46, Is (u46)), (47, Is (u47)), (48, Is (u48)), (49, Is (u49)), (50, Is (u50)), (51, Is (u51)), (52, Is (u52)), (53, Is (u53)), (54, Is (u54)), (55, Is (u55)), (56, Is (u56)), (57, Is (u57)), (58, Is (u58)), (59, Is (u59)), (60, Is (u60)), (61, Is (u61)), (62, Is (u62)), (110, Is (undef)), (111, Is (undef)), (112, Is (undef)), (113, Is (undef)), (114, Is (undef)), (115, Is (undef)), (116, Is (undef)), (117, Is (undef)), (118, Is (undef)), (119, Is (undef))] [(86, Is (.int .i64 m)), (87, Is (.pointer (some ⟨g5, 1, none⟩))), (88, Is (.slice (some q) ne ce)), (89, Is (.int .i64 ne)), (90, Is (.bool false)), (91, Is (.bool false)), (92, Is (.pointer (some ⟨g5, 1, none⟩))), (93, Is (.slice (some q) ne ce)), (94, Is (.int .i64 m)), (95, Is (.pointer (some (q.add (m * 9))))), (96, Is (.pointer (some (q.add (m * 9))))), (97, Is (.agg (plc (pk k)).toArray)), (98, Is (.int .i64 k)), (99, Is (.int .i64 ((k : Int) / 16))), (100, Is (.int .i64 k)), (101, Is (.int .i64 ((k : Int) / 4))), (102, Is (.int .i64 ((k : Int) / 4 % 4))), (103, Is (.int .i64 k)), (104, Is (.int .i64 ((k : Int) % 4))), (105, Is (.agg (plc (pk k)).toArray)), (106, Is (.bool false)), (107, Is (.bool false))]
                [.op [10] none, .op [5] none, .op [87] none, .op [88] none, .op [86, 89] none, .op [90] none, .op [5, 91] (some (91, false)), .op [92, 91] (some (91, false)), .op [10, 91] (some (91, false)), .op [93, 94, 91] (some (91, false)), .op [95, 91] (some (91, false)), .op [96, 91] (some (91, false)), .op [11, 91] (some (91, false)), .op [98, 91] (some (91, false)), .op [11, 91] (some (91, false)), .op [100, 91] (some (91, false)), .op [101, 91] (some (91, false)), .op [11, 91] (some (91, false)), .op [103, 91] (some (91, false)), .op [99, 102, 104, 91] (some (91, false)), .op [97, 105, 91] (some (91, false)), .op [91, 106] none] (by as_aux_lemma => kernel_rfl) ?_ ?_ ?_ ?_ ?_ ⟨stable_is _ _, stable_is _ _, stable_is _ _, stable_is _ _, stable_is _ _, stable_is _ _, stable_is _ _, stable_is _ _, stable_is _ _, stable_is _ _, stable_is _ _, stable_is _ _, stable_is _ _, stable_is _ _, stable_is _ _, stable_is _ _, stable_is _ _, stable_is _ _, stable_is _ _, stable_is _ _, stable_is _ _, stable_is _ _, stable_is _ _, stable_is _ _, stable_is _ _, stable_is _ _, stable_is _ _, stable_is _ _, stable_is _ _, stable_is _ _, stable_is _ _, stable_is _ _, stable_is _ _, stable_is _ _, stable_is _ _, stable_is _ _, stable_is _ _, stable_is _ _, stable_is _ _, stable_is _ _, stable_is _ _, stable_is _ _, stable_is _ _, stable_is _ _, stable_is _ _, stable_is _ _, stable_is _ _, stable_is _ _, stable_is _ _, stable_is _ _, stable_is _ _, stable_is _ _, stable_is _ _, stable_is _ _, stable_is _ _, stable_is _ _, stable_is _ _, stable_is _ _, stable_is _ _, stable_is _ _, stable_is _ _, stable_is _ _, stable_is _ _, stable_is _ _, stable_is _ _, stable_is _ _, stable_is _ _, stable_is _ _, stable_is _ _, stable_is _ _, stable_is _ _, stable_is _ _, stable_is _ _, stable_is _ _, stable_is _ _, stable_is _ _, stable_is _ _, stable_is _ _, stable_is _ _, stable_is _ _, stable_is _ _, stable_is _ _, stable_is _ _, stable_is _ _, stable_is _ _, stable_is _ _, stable_is _ _, stable_is _ _, stable_is _ _, stable_is _ _, stable_is _ _, stable_is _ _, stable_is _ _, stable_is _ _, trivial⟩ ?_ (Below.refl _ _).drew ?_ ?_
              · as_aux_lemma => kernel_rfl
              · as_aux_lemma => kernel_rfl
              · as_aux_lemma => kernel_rfl
              · as_aux_lemma => kernel_rfl
              · as_aux_lemma => kernel_rfl
              · exact ⟨rfl, rfl, rfl, rfl, rfl, rfl, rfl, rfl, rfl, rfl, rfl, rfl, rfl, rfl, rfl, rfl, rfl, rfl, rfl, rfl, rfl, rfl, rfl, rfl, rfl, rfl, rfl, rfl, rfl, rfl, rfl, rfl, rfl, rfl, rfl, rfl, rfl, rfl, rfl, rfl, rfl, rfl, rfl, rfl, rfl, rfl, rfl, rfl, rfl, rfl, rfl, rfl, rfl, rfl, rfl, rfl, rfl, rfl, rfl, rfl, rfl, rfl, rfl, rfl, rfl, rfl, rfl, rfl, rfl, rfl, rfl, rfl, trivial⟩
              · refine ⟨?_, ?_, ?_, ?_, ?_, ?_, ?_, ?_, ?_, ?_, ?_, ?_, ?_, ?_, ?_, ?_, ?_, ?_, ?_, ?_, ?_, ?_, trivial⟩
                · as_aux_lemma =>
                    intro vals a W hS hL
                    have e10 : a.tmps.getD 10 undef = .int .i64 m := hL.1
                    clear hL
                    go_simp
                    exact ⟨⟨fun d hd => by injection hd with hd; subst hd; rfl, fun h => by cases h⟩, hS, (Below.refl _ _)⟩
                · as_aux_lemma =>
                    intro vals a W hS hL
                    have e5 : a.tmps.getD 5 undef = .pointer (some ⟨g5, 0, none⟩) := hL.1
                    clear hL
                    go_simp
                    exact ⟨⟨fun d hd => by injection hd with hd; subst hd; rfl, fun h => by cases h⟩, hS, (Below.refl _ _)⟩
                · as_aux_lemma =>
                    intro vals a W hS hL
                    have e87 : a.tmps.getD 87 undef = .pointer (some ⟨g5, 1, none⟩) := hL.1
                    clear hL
                    refine lands_vB (run_lds (HK6.out.below hS HK6.out.lt) rfl (.tmp 87) rfl e87) ?_
                    exact ⟨⟨fun d hd => by injection hd with hd; subst hd; rfl, fun h => by cases h⟩, hS, Below.refl _ _⟩
                · as_aux_lemma =>
                    intro vals a W hS hL
                    have e88 : a.tmps.getD 88 undef = .slice (some q) ne ce := hL.1
                    clear hL
                    go_simp
                    exact ⟨⟨fun d hd => by injection hd with hd; subst hd; rfl, fun h => by cases h⟩, hS, (Below.refl _ _)⟩
                · as_aux_lemma =>
                    intro vals a W hS hL
                    have e86 : a.tmps.getD 86 undef = .int .i64 m := hL.1
                    have e89 : a.tmps.getD 89 undef = .int .i64 ne := hL.2.1
                    clear hL
                    go_simp
                    exact ⟨⟨fun d hd => by injection hd with hd; subst hd; rfl, fun h => by cases h⟩, hS, (Below.refl _ _)⟩
                · as_aux_lemma =>
                    intro vals a W hS hL
                    have e90 : a.tmps.getD 90 undef = .bool false := hL.1
                    clear hL
                    go_simp
                    exact ⟨⟨fun d hd => by injection hd with hd; subst hd; rfl, fun h => by cases h⟩, hS, (Below.refl _ _)⟩
                · as_aux_lemma =>
                    intro vals a W hS hL
                    have e5 : a.tmps.getD 5 undef = .pointer (some ⟨g5, 0, none⟩) := hL.1
                    have e91 : a.tmps.getD 91 undef = .bool false := hL.2.1
                    clear hL
                    refine ⟨false, e91, ?_⟩
                    rw [if_pos rfl]
                    go_simp
                    exact ⟨⟨fun d hd => by injection hd with hd; subst hd; rfl, fun h => by cases h⟩, hS, (Below.refl _ _)⟩
                · as_aux_lemma =>
                    intro vals a W hS hL
                    have e92 : a.tmps.getD 92 undef = .pointer (some ⟨g5, 1, none⟩) := hL.1
                    have e91 : a.tmps.getD 91 undef = .bool false := hL.2.1
                    clear hL
                    refine ⟨false, e91, ?_⟩
                    rw [if_pos rfl]
                    refine lands_vB (run_lds (HK6.out.below hS HK6.out.lt) rfl (.tmp 92) rfl e92) ?_
                    exact ⟨⟨fun d hd => by injection hd with hd; subst hd; rfl, fun h => by cases h⟩, hS, Below.refl _ _⟩
                · as_aux_lemma =>
                    intro vals a W hS hL
                    have e10 : a.tmps.getD 10 undef = .int .i64 m := hL.1
                    have e91 : a.tmps.getD 91 undef = .bool false := hL.2.1
                    clear hL
                    refine ⟨false, e91, ?_⟩
                    rw [if_pos rfl]
                    go_simp
                    exact ⟨⟨fun d hd => by injection hd with hd; subst hd; rfl, fun h => by cases h⟩, hS, (Below.refl _ _)⟩
                · as_aux_lemma =>
                    intro vals a W hS hL
                    have e93 : a.tmps.getD 93 undef = .slice (some q) ne ce := hL.1
                    have e94 : a.tmps.getD 94 undef = .int .i64 m := hL.2.1
                    have e91 : a.tmps.getD 91 undef = .bool false := hL.2.2.1
                    clear hL
                    refine ⟨false, e91, ?_⟩
                    rw [if_pos rfl]
                    go_simp
                    exact ⟨⟨fun d hd => by injection hd with hd; subst hd; rfl, fun h => by cases h⟩, hS, (Below.refl _ _)⟩
                · as_aux_lemma =>
                    intro vals a W hS hL
                    have e95 : a.tmps.getD 95 undef = .pointer (some (q.add (m * 9))) := hL.1
                    have e91 : a.tmps.getD 91 undef = .bool false := hL.2.1
                    clear hL
                    refine ⟨false, e91, ?_⟩
                    rw [if_pos rfl]
                    go_simp
                    exact ⟨⟨fun d hd => by injection hd with hd; subst hd; rfl, fun h => by cases h⟩, hS, (Below.refl _ _)⟩
                · as_aux_lemma =>
                    intro vals a W hS hL
                    have e96 : a.tmps.getD 96 undef = .pointer (some (q.add (m * 9))) := hL.1
                    have e91 : a.tmps.getD 91 undef = .bool false := hL.2.1
                    clear hL
                    refine ⟨false, e91, ?_⟩
                    rw [if_pos rfl]
                    refine lands_vB (run_ldmB (cs := plc (pk k)) rtPl (fun j u hj => ?_) (.tmp 96) rfl e96) ?_
                    · exact HC.out _ hS j u (by have := sl_p ⟨pk k, h k⟩ j u hj; rwa [Nat.zero_add] at this)
                    exact ⟨⟨fun d hd => by injection hd with hd; subst hd; rfl, fun h => by cases h⟩, hS, Below.refl _ _⟩
                · as_aux_lemma =>
                    intro vals a W hS hL
                    have e11 : a.tmps.getD 11 undef = .int .i64 k := hL.1
                    have e91 : a.tmps.getD 91 undef = .bool false := hL.2.1
                    clear hL
                    refine ⟨false, e91, ?_⟩
                    rw [if_pos rfl]
                    go_simp
                    exact ⟨⟨fun d hd => by injection hd with hd; subst hd; rfl, fun h => by cases h⟩, hS, (Below.refl _ _)⟩
                · as_aux_lemma =>
                    intro vals a W hS hL
                    have e98 : a.tmps.getD 98 undef = .int .i64 k := hL.1
                    have e91 : a.tmps.getD 91 undef = .bool false := hL.2.1
                    clear hL
                    refine ⟨false, e91, ?_⟩
                    rw [if_pos rfl]
                    have hw : IntKind.i64.wrap ((k : Int) / 16) = (k : Int) / 16 := IntWalk.i64_in _ (by omega)
                    go_simp
                    exact ⟨⟨fun d hd => by injection hd with hd; subst hd; rfl, fun h => by cases h⟩, hS, (Below.refl _ _)⟩
                · as_aux_lemma =>
                    intro vals a W hS hL
                    have e11 : a.tmps.getD 11 undef = .int .i64 k := hL.1
                    have e91 : a.tmps.getD 91 undef = .bool false := hL.2.1
                    clear hL
                    refine ⟨false, e91, ?_⟩
                    rw [if_pos rfl]
                    go_simp
                    exact ⟨⟨fun d hd => by injection hd with hd; subst hd; rfl, fun h => by cases h⟩, hS, (Below.refl _ _)⟩
                · as_aux_lemma =>
                    intro vals a W hS hL
                    have e100 : a.tmps.getD 100 undef = .int .i64 k := hL.1
                    have e91 : a.tmps.getD 91 undef = .bool false := hL.2.1
                    clear hL
                    refine ⟨false, e91, ?_⟩
                    rw [if_pos rfl]
                    have hw : IntKind.i64.wrap ((k : Int) / 4) = (k : Int) / 4 := IntWalk.i64_in _ (by omega)
                    go_simp
                    exact ⟨⟨fun d hd => by injection hd with hd; subst hd; rfl, fun h => by cases h⟩, hS, (Below.refl _ _)⟩
                · as_aux_lemma =>
                    intro vals a W hS hL
                    have e101 : a.tmps.getD 101 undef = .int .i64 ((k : Int) / 4) := hL.1
                    have e91 : a.tmps.getD 91 undef = .bool false := hL.2.1
                    clear hL
                    refine ⟨false, e91, ?_⟩
                    rw [if_pos rfl]
                    go_simp
                    exact ⟨⟨fun d hd => by injection hd with hd; subst hd; rfl, fun h => by cases h⟩, hS, (Below.refl _ _)⟩
                · as_aux_lemma =>
                    intro vals a W hS hL
                    have e11 : a.tmps.getD 11 undef = .int .i64 k := hL.1
                    have e91 : a.tmps.getD 91 undef = .bool false := hL.2.1
                    clear hL
                    refine ⟨false, e91, ?_⟩
                    rw [if_pos rfl]
                    go_simp
                    exact ⟨⟨fun d hd => by injection hd with hd; subst hd; rfl, fun h => by cases h⟩, hS, (Below.refl _ _)⟩
                · as_aux_lemma =>
                    intro vals a W hS hL
                    have e103 : a.tmps.getD 103 undef = .int .i64 k := hL.1
                    have e91 : a.tmps.getD 91 undef = .bool false := hL.2.1
                    clear hL
                    refine ⟨false, e91, ?_⟩
                    rw [if_pos rfl]
                    go_simp
                    exact ⟨⟨fun d hd => by injection hd with hd; subst hd; rfl, fun h => by cases h⟩, hS, (Below.refl _ _)⟩
                · as_aux_lemma =>
                    intro vals a W hS hL
                    have e99 : a.tmps.getD 99 undef = .int .i64 ((k : Int) / 16) := hL.1
                    have e102 : a.tmps.getD 102 undef = .int .i64 ((k : Int) / 4 % 4) := hL.2.1
                    have e104 : a.tmps.getD 104 undef = .int .i64 ((k : Int) % 4) := hL.2.2.1
                    have e91 : a.tmps.getD 91 undef = .bool false := hL.2.2.2.1
                    clear hL
                    refine ⟨false, e91, ?_⟩
                    rw [if_pos rfl]
                    rw [Array.getD_eq_getD_getElem?] at e99 e102 e104
                    go_simp
                    refine (pl_any ((k : Int) / 16) ((k : Int) / 4 % 4) ((k : Int) % 4)).mono ?_
                    rintro e W2 ⟨rfl, hb⟩
                    exact ⟨_, rfl, ⟨fun d hd => by injection hd with hd; subst hd; rfl, fun h => by cases h⟩, hS.trans (hb.mono hS.size), hb⟩
                · as_aux_lemma =>
                    intro vals a W hS hL
                    have e97 : a.tmps.getD 97 undef = .agg (plc (pk k)).toArray := hL.1
                    have e105 : a.tmps.getD 105 undef = .agg (plc (pk k)).toArray := hL.2.1
                    have e91 : a.tmps.getD 91 undef = .bool false := hL.2.2.1
                    clear hL
                    refine ⟨false, e91, ?_⟩
                    rw [if_pos rfl]
                    refine lands_vB (run_neqpF (p := pk k) (q := pk k) (eqP_iff.2 rfl) (.tmp 97) (.tmp 105) rfl e97 e105) ?_
                    exact ⟨⟨fun d hd => by injection hd with hd; subst hd; rfl, fun h => by cases h⟩, hS, Below.refl _ _⟩
                · as_aux_lemma =>
                    intro vals a W hS hL
                    have e91 : a.tmps.getD 91 undef = .bool false := hL.1
                    have e106 : a.tmps.getD 106 undef = .bool false := hL.2.1
                    clear hL
                    go_simp
                    exact ⟨⟨fun d hd => by injection hd with hd; subst hd; rfl, fun h => by cases h⟩, hS, (Below.refl _ _)⟩
              · intro a W vals hd hsz hT hF hv hP hS
                obtain rfl : vals = [] := List.eq_nil_of_length_eq_zero hv
                have e107 : a.tmps.getD 107 undef = .bool false := hT 107 (by simp)
                have e0 : a.tmps.getD 0 undef = .slice A0 j c0 := hT 0 (by simp)
                have e1 : a.tmps.getD 1 undef = .slice A1 n1 c1 := hT 1 (by simp)
                have e2 : a.tmps.getD 2 undef = undef := hT 2 (by simp)
                have e3 : a.tmps.getD 3 undef = undef := hT 3 (by simp)
                have e5 : a.tmps.getD 5 undef = .pointer (some ⟨g5, 0, none⟩) := hT 5 (by simp)
                have e6 : a.tmps.getD 6 undef = .pointer (some ⟨g6, 0, none⟩) := hT 6 (by simp)
                have e7 : a.tmps.getD 7 undef = .int .i64 j := hT 7 (by simp)
                have e8 : a.tmps.getD 8 undef = u8 := hT 8 (by simp)
                have e9 : a.tmps.getD 9 undef = u9 := hT 9 (by simp)
                have e10 : a.tmps.getD 10 undef = .int .i64 m := hT 10 (by simp)
                have e11 : a.tmps.getD 11 undef = .int .i64 k := hT 11 (by simp)
                have e12 : a.tmps.getD 12 undef = .bool true := hT 12 (by simp)
                have e13 : a.tmps.getD 13 undef = .bool false := hT 13 (by simp)
                have e14 : a.tmps.getD 14 undef = .slice A0 j c0 := hT 14 (by simp)
                have e15 : a.tmps.getD 15 undef = .int .i64 j := hT 15 (by simp)
                have e16 : a.tmps.getD 16 undef = .bool false := hT 16 (by simp)
                have e17 : a.tmps.getD 17 undef = .bool false := hT 17 (by simp)
                have e18 : a.tmps.getD 18 undef = .slice A1 n1 c1 := hT 18 (by simp)
                have e19 : a.tmps.getD 19 undef = .int .i64 n1 := hT 19 (by simp)
                have e20 : a.tmps.getD 20 undef = .slice A0 j c0 := hT 20 (by simp)
                have e21 : a.tmps.getD 21 undef = .int .i64 j := hT 21 (by simp)
                have e22 : a.tmps.getD 22 undef = .bool false := hT 22 (by simp)
                have e23 : a.tmps.getD 23 undef = .bool false := hT 23 (by simp)
                have e24 : a.tmps.getD 24 undef = .agg (enc 3 (.slice none 0 0) (.slice none 0 0)).toArray := hT 24 (by simp)
                have e25 : a.tmps.getD 25 undef = .int .i64 j := hT 25 (by simp)
                have e26 : a.tmps.getD 26 undef = .slice A0 j c0 := hT 26 (by simp)
                have e27 : a.tmps.getD 27 undef = .int .i64 j := hT 27 (by simp)
                have e28 : a.tmps.getD 28 undef = .bool false := hT 28 (by simp)
                have e29 : a.tmps.getD 29 undef = u29 := hT 29 (by simp)
                have e30 : a.tmps.getD 30 undef = u30 := hT 30 (by simp)
                have e31 : a.tmps.getD 31 undef = u31 := hT 31 (by simp)
                have e32 : a.tmps.getD 32 undef = u32 := hT 32 (by simp)
                have e33 : a.tmps.getD 33 undef = u33 := hT 33 (by simp)
                have e34 : a.tmps.getD 34 undef = u34 := hT 34 (by simp)
                have e35 : a.tmps.getD 35 undef = u35 := hT 35 (by simp)
                have e36 : a.tmps.getD 36 undef = u36 := hT 36 (by simp)
                have e37 : a.tmps.getD 37 undef = u37 := hT 37 (by simp)
                have e38 : a.tmps.getD 38 undef = u38 := hT 38 (by simp)
                have e39 : a.tmps.getD 39 undef = u39 := hT 39 (by simp)
                have e40 : a.tmps.getD 40 undef = u40 := hT 40 (by simp)
                have e41 : a.tmps.getD 41 undef = u41 := hT 41 (by simp)
                have e42 : a.tmps.getD 42 undef = u42 := hT 42 (by simp)
                have e43 : a.tmps.getD 43 undef = u43 := hT 43 (by simp)
                have e44 : a.tmps.getD 44 undef = u44 := hT 44 (by simp)
                have e45 : a.tmps.getD 45 undef = u45 := hT 45 (by simp)
                have e46 : a.tmps.getD 46 undef = u46 := hT 46 (by simp)
                have e47 : a.tmps.getD 47 undef = u47 := hT 47 (by simp)
                have e48 : a.tmps.getD 48 undef = u48 := hT 48 (by simp)
                have e49 : a.tmps.getD 49 undef = u49 := hT 49 (by simp)
                have e50 : a.tmps.getD 50 undef = u50 := hT 50 (by simp)
                have e51 : a.tmps.getD 51 undef = u51 := hT 51 (by simp)
                have e52 : a.tmps.getD 52 undef = u52 := hT 52 (by simp)
                have e53 : a.tmps.getD 53 undef = u53 := hT 53 (by simp)
                have e54 : a.tmps.getD 54 undef = u54 := hT 54 (by simp)
                have e55 : a.tmps.getD 55 undef = u55 := hT 55 (by simp)
                have e56 : a.tmps.getD 56 undef = u56 := hT 56 (by simp)
                have e57 : a.tmps.getD 57 undef = u57 := hT 57 (by simp)
                have e58 : a.tmps.getD 58 undef = u58 := hT 58 (by simp)
                have e59 : a.tmps.getD 59 undef = u59 := hT 59 (by simp)
                have e60 : a.tmps.getD 60 undef = u60 := hT 60 (by simp)
                have e61 : a.tmps.getD 61 undef = u61 := hT 61 (by simp)
                have e62 : a.tmps.getD 62 undef = u62 := hT 62 (by simp)
                have e110 : a.tmps.getD 110 undef = undef := hT 110 (by simp)
                have e111 : a.tmps.getD 111 undef = undef := hT 111 (by simp)
                have e112 : a.tmps.getD 112 undef = undef := hT 112 (by simp)
                have e113 : a.tmps.getD 113 undef = undef := hT 113 (by simp)
                have e114 : a.tmps.getD 114 undef = undef := hT 114 (by simp)
                have e115 : a.tmps.getD 115 undef = undef := hT 115 (by simp)
                have e116 : a.tmps.getD 116 undef = undef := hT 116 (by simp)
                have e117 : a.tmps.getD 117 undef = undef := hT 117 (by simp)
                have e118 : a.tmps.getD 118 undef = undef := hT 118 (by simp)
                have e119 : a.tmps.getD 119 undef = undef := hT 119 (by simp)
                clear hT hF hP
                rw [act_lit 120 a hd hsz]
                simp only [List.range, List.range.loop, List.map, e107, e0, e1, e2, e3, e5, e6, e7, e8, e9, e10, e11, e12, e13, e14, e15, e16, e17, e18, e19, e20, e21, e22, e23, e24, e25, e26, e27, e28, e29, e30, e31, e32, e33, e34, e35, e36, e37, e38, e39, e40, e41, e42, e43, e44, e45, e46, e47, e48, e49, e50, e51, e52, e53, e54, e55, e56, e57, e58, e59, e60, e61, e62, e110, e111, e112, e113, e114, e115, e116, e117, e118, e119]
                clear e107 e0 e1 e2 e3 e5 e6 e7 e8 e9 e10 e11 e12 e13 e14 e15 e16 e17 e18 e19 e20 e21 e22 e23 e24 e25 e26 e27 e28 e29 e30 e31 e32 e33 e34 e35 e36 e37 e38 e39 e40 e41 e42 e43 e44 e45 e46 e47 e48 e49 e50 e51 e52 e53 e54 e55 e56 e57 e58 e59 e60 e61 e62 e110 e111 e112 e113 e114 e115 e116 e117 e118 e119 hsz hd
                obtain ⟨f, hf⟩ : ∃ f : Nat → Value, ∀ k, a.tmps.getD k undef = f k := ⟨_, fun _ => rfl⟩
                simp only [hf]
                clear hf
                have HE3 := Lib.hid (HE2.out.below hS)
                have HA3 := Lib.hid (HA2.out.below hS HA2.out.lt)
                have HBW3 := Lib.hid (HBW2.out.trans (hS.mono HBW2.out.size))
                clear HE2 HA2 HBW2 HC HK6 hS
                repeat' (first | go_values | go_skip | go_guarded | go_step | go_upon)
                go_roundw
                case rel => exact ⟨k + 1, by simp, by omega, by rw [hm2]; simp, HE3, HA3, HBW3⟩
                case measure => simp [intOf]; omega
        · obtain rfl : k = 48 := by omega
          obtain ⟨Ae, ce, hke, hce, hre⟩ := HE.out
          have hl48 := rowA_len h 0 48
          have hl48' : (rowH h).length ≤ 100000 := by show (rowA h 0 48).length ≤ 100000; omega
          have HCK : Hid (∀ W : World, Below wr.heap.size wr W → Calls Tryd.prog 11 #[.agg (enc 3 (.slice Ae (rowH h).length ce) (.slice none 0 0)).toArray] W fun e W' => e = .returned (.int .i64 0) ∧ Below W.heap.size W W') := Lib.hid fun W hb => by
            have := ckN_any (HVV.out.below (HBW.out.trans (hb.mono HBW.out.size))) (L := rowH h) 3 (cn := 0) (hre.below hb) hb.size hl48' hce (fun x hx => by
              obtain ⟨q, -, -, rfl, -⟩ := rowA_mem hx
              exact (HBl.out q).2.2)
            rwa [HBl.out.ck] at this
          obtain ⟨ne, hne⟩ : ∃ ne, ne = (rowH h).length := ⟨_, rfl⟩
          rw [← hne] at hke HCK
          rw [show (rowA h 0 48).length = ne from hne.symm]
          have HK5 := Lib.hid hke
          have HB : Hid (BX wr [] wr) := Lib.hid (BX.start wr)
          clear hke hce hre hne hl48 hl48' HE HAr
          repeat' (first | ((with_reducible show Oper.wp _ _ _ _ _ _); (with_reducible refine is_ld 25 _ rfl ?_; refine wp_b (run_lds HK5.out rfl _ rfl rfl) ?_); go_simp) | ((with_reducible show Oper.wp _ _ _ _ _ _); (with_reducible refine is_ld 28 _ rfl ?_; refine wp_b (run_ldg (cs := enc 3 (.slice Ae ne ce) (.slice none 0 0)) rtEnv HK5.out _ rfl rfl) ?_); go_simp) | go_values | go_skip | go_guarded | go_step | go_upon)
          refine (HCK.out _ (Below.refl _ _)).mono ?_
          rintro e W1 ⟨rfl, hb⟩
          replace HB := Lib.hid (HB.out.call hb)
          clear hb
          dsimp only
          repeat' (first | go_values | go_skip | go_guarded | go_step | go_upon)
          exact bodyPost_ret (v := .bool true) (by simp [results, Tryd.results3, go_sem]) rfl ⟨rfl, HBW.out.trans (HB.out.bel.mono HBW.out.size)⟩
end Go.Proofs.YtkjiokepihmpfaaDoor

