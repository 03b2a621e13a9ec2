/- fun.modulo, ofTwoNumbers by their contracts. Condition: numbers may be. -/
import Derived.Test.YtngkolcpbgibcaaGreatDoorF9
set_option linter.unusedVariables false
set_option linter.unusedSimpArgs false
namespace Go.Proofs.YtngkolcpbgibcaaGreatDoor
open Go.RowKit
theorem modulo_any {w : World} {m n : Int} {s t : Nat} (hx : Gd m s) (hy : Gd n t) :
    Calls Tryz.prog 177 #[.agg (dc m s).toArray, .agg (dc n t).toArray] w fun e W => e = .returned (.agg (vc (modX m s n t)).toArray) ∧ Below w.heap.size w W := by
  unfold modX
  by_cases hn : n = 0
  · rw [if_pos hn]; exact mod_zero (by rw [hn]; rfl)
  · rw [if_neg hn]; have hn' : (n == 0) = false := by rw [beq_eq_false_iff_ne]; exact hn
    have hp9 : max s t ≤ 9 := by have := hx.s9; have := hy.s9; omega
    have hmx : (max (s : Int) (t : Int)) = ((max s t : Nat) : Int) := by omega
    have H1 : Sc (dc m s) ((max s t : Nat) : Int) (divX m s 1 (max s t)).m (divX m s 1 (max s t)).e := fun W => scaled_any (w := W) hx hp9; have H2 : Sc (dc n t) ((max s t : Nat) : Int) (divX n t 1 (max s t)).m (divX n t 1 (max s t)).e := fun W => scaled_any (w := W) hy hp9; have hok1 := fun he => scaled_ok (m := m) (s := s) (p := max s t) (by omega) hp9 he; have hok2 := fun he => scaled_ok (m := n) (s := t) (p := max s t) (by omega) hp9 he; generalize divX m s 1 (max s t) = r1 at *; generalize divX n t 1 (max s t) = r2 at *
    by_cases h1 : r1.e = 0
    · rw [if_neg (by simpa using h1)]; rw [h1] at H1; obtain ⟨q1, l1, u1⟩ := hok1 h1
      by_cases h2 : r2.e = 0
      · rw [if_neg (by simpa using h2)]; rw [h2] at H2; obtain ⟨q2, l2, u2⟩ := hok2 h2
        have hb : r2.m ≠ 0 := by
          rw [q2]; exact Int.mul_ne_zero hn (by have : (0 : Int) < 10 ^ (max s t - t) := Int.pow_pos (by decide); omega)
        rw [← q1] at l1 u1; rw [← q2] at l2 u2; have ht := tmod_bd (a := r1.m) hb; generalize hP : max s t = P at *; clear q1 q2 hok1 hok2 hn hx hy h1 h2; generalize r1.m = a at *; generalize r2.m = b at *
        have hmq : -9223372036854775808 ≤ modQ a b ∧ modQ a b ≤ 9223372036854775807 := by
          unfold modQ
          split
          · rename_i h
            obtain ⟨h3, h4⟩ := h; rw [ne_eq, decide_eq_decide] at h4; omega
          · omega
        have hQ : modQ a b = if (a.tmod b != 0) = true ∧ (decide (a.tmod b < 0) != decide (b < 0)) = true then a.tmod b + b else a.tmod b := by
          unfold modQ; simp only [bne_iff_ne, ne_eq]
        by_cases hz : (a.tmod b != 0) = true ∧ (decide (a.tmod b < 0) != decide (b < 0)) = true
        · refine mod_ok hn' hmx H1 H2 hb rfl hz.1 hz.2 ?_ ?_ ?_
          · have h4 := hz.2; simp only [bne_iff_ne, ne_eq, decide_eq_decide] at h4; omega
          · have h4 := hz.2; simp only [bne_iff_ne, ne_eq, decide_eq_decide] at h4; omega
          · intro W; have := norm_r hmq.1 hmq.2 hp9 W; rw [hQ, if_pos hz] at this; rw [hQ, if_pos hz]; exact this
        · exact mod_pl hn' hmx H1 H2 hb rfl (by
            by_cases q0 : a.tmod b = 0
            · exact .inl q0
            · right
              simpa [q0] using hz) (fun W => by have := norm_r hmq.1 hmq.2 hp9 W; rw [hQ, if_neg hz] at this; rw [hQ, if_neg hz]; exact this)
      · rw [if_pos (by simpa using h2)]; exact mod_e2 hn' hmx H1 H2 (by simpa using h2)
    · rw [if_pos (by simpa using h1)]; exact mod_e1 hn' hmx H1 (by simpa using h1)
def twoX (op : Int) (x y : VX) : VX := match nnX x y with
  | .no v => v
  | .ok m s n t => if op = 8 then modX m s n t else roundX m s n t
set_option maxRecDepth 20000 in
set_option maxHeartbeats 8000000 in
theorem ofTwo_any {w : World} {op : Int} {x y : VX} (hx : shortX 100000000 x) (hy : shortX 100000000 y) (gx : GdX x) (gy : GdX y) :
    Calls Tryz.prog 119 #[.int .i64 op, .agg (vc x).toArray, .agg (vc y).toArray] w fun e W => e = .returned (.agg (vc (twoX op x y)).toArray) ∧ Below w.heap.size w W := by
  have HB := Lib.hid (BX.start w); have HN := Lib.hid (fun W : World => numbers_any (w := W) hx hy); unfold twoX
  cases hn : nnX x y with
  | no v =>
    rw [hn] at HN; simp only [nnV] at HN; clear hx hy gx gy hn; go_enter Tryz.func119, Tryz.ntmps119
    repeat' (first | ((with_reducible show Oper.wp _ _ _ _ _ _); (first | ((first | refine al_v HB rfl ?_ | refine bx_v HB _ rfl rfl ?_); clear HB; (first | (have _t : Nat := g1; clear _t; intro g2 W HB) | (have _t : Nat := g0; clear _t; intro g1 W HB) | intro g0 W HB); go_simp) | ((first | refine ld_v 1 HB rfl _ rfl rfl ?_ | refine ld_v 2 HB rfl _ rfl rfl ?_); go_simp))) | go_values | go_skip | go_guarded | go_step | go_upon)
    refine (HN.out _).mono ?_; rintro e W1 ⟨rfl, hb⟩; have HB := Lib.hid (HB.out.call hb); clear hb; dsimp only
    repeat' (first | ((with_reducible show Oper.wp _ _ _ _ _ _); (first | ((first | refine al_v HB rfl ?_ | refine al_d HB rfl ?_); clear HB; (first | (have _t : Nat := g4; clear _t; intro g5 W HB) | (have _t : Nat := g3; clear _t; intro g4 W HB) | (have _t : Nat := g2; clear _t; intro g3 W HB)); go_simp) | (refine ld_v 0 HB rfl _ rfl rfl ?_; go_simp) | ((first | refine st_v 0 HB rfl _ _ rfl rfl rfl ?_ | refine st_v 3 HB rfl _ _ rfl rfl rfl ?_ | refine st_d 1 HB rfl _ _ rfl rfl rfl ?_ | refine st_d 2 HB rfl _ _ rfl rfl rfl ?_); clear HB; intro W HB; dsimp only [List.set] at HB; go_simp))) | go_values | go_skip | go_guarded | go_step | go_upon)
    exact bodyPost_ret (res_v rfl HB (i := 3) rfl rfl) rfl ⟨rfl, HB.out.bel⟩
  | ok m s n t =>
    have hg : Gd m s ∧ Gd n t := by
      unfold nnX at hn
      cases h1 : numX x with
      | no v => rw [h1] at hn; cases hn
      | ok m' s' =>
        rw [h1] at hn; dsimp only at hn
        cases h2 : numX y with
        | no v => rw [h2] at hn; cases hn
        | ok n' t' =>
          rw [h2] at hn; injection hn with e1 e2 e3 e4; subst e1 e2 e3 e4; exact ⟨gx _ _ h1, gy _ _ h2⟩
    rw [hn] at HN; simp only [nnV] at HN; dsimp only; have HM := Lib.hid (fun W : World => modulo_any (w := W) hg.1 hg.2); have HR := Lib.hid (fun W : World => fRound_any (w := W) (n := n) (t := t) hg.1); clear hx hy gx gy hn hg
    by_cases h8 : op = 8
    · rw [if_pos h8]; have h8' : (op == 8) = true := by rw [h8]; rfl
      generalize modX m s n t = r at *; clear h8 HR; go_enter Tryz.func119, Tryz.ntmps119
      repeat' (first | ((with_reducible show Oper.wp _ _ _ _ _ _); (first | ((first | refine al_v HB rfl ?_ | refine bx_v HB _ rfl rfl ?_); clear HB; (first | (have _t : Nat := g1; clear _t; intro g2 W HB) | (have _t : Nat := g0; clear _t; intro g1 W HB) | intro g0 W HB); go_simp) | ((first | refine ld_v 1 HB rfl _ rfl rfl ?_ | refine ld_v 2 HB rfl _ rfl rfl ?_); go_simp))) | go_values | go_skip | go_guarded | go_step | go_upon)
      refine (HN.out _).mono ?_; rintro e W1 ⟨rfl, hb⟩; have HB := Lib.hid (HB.out.call hb); clear hb; dsimp only
      repeat' (first | ((with_reducible show Oper.wp _ _ _ _ _ _); (first | ((first | refine al_v HB rfl ?_ | refine al_d HB rfl ?_); clear HB; (first | (have _t : Nat := g4; clear _t; intro g5 W HB) | (have _t : Nat := g3; clear _t; intro g4 W HB) | (have _t : Nat := g2; clear _t; intro g3 W HB)); go_simp) | ((first | refine ld_d 1 HB rfl _ rfl rfl ?_ | refine ld_d 2 HB rfl _ rfl rfl ?_); go_simp) | ((first | refine st_v 0 HB rfl _ _ rfl rfl rfl ?_ | refine st_d 1 HB rfl _ _ rfl rfl rfl ?_ | refine st_d 2 HB rfl _ _ rfl rfl rfl ?_); clear HB; intro W HB; dsimp only [List.set] at HB; go_simp))) | go_values | go_skip | go_guarded | go_step | go_upon)
      refine (HM.out _).mono ?_; rintro e W1 ⟨rfl, hb⟩; have HB := Lib.hid (HB.out.call hb); clear hb; dsimp only
      repeat' (first | ((with_reducible show Oper.wp _ _ _ _ _ _); refine st_v 3 HB rfl _ _ rfl rfl rfl ?_; clear HB; intro W HB; dsimp only [List.set] at HB; go_simp) | go_values | go_skip | go_guarded | go_step | go_upon)
      exact bodyPost_ret (res_v rfl HB (i := 3) rfl rfl) rfl ⟨rfl, HB.out.bel⟩
    · rw [if_neg h8]; have h8' : (op == 8) = false := by rw [beq_eq_false_iff_ne]; exact h8
      generalize roundX m s n t = r at *; clear h8 HM; go_enter Tryz.func119, Tryz.ntmps119
      repeat' (first | ((with_reducible show Oper.wp _ _ _ _ _ _); (first | ((first | refine al_v HB rfl ?_ | refine bx_v HB _ rfl rfl ?_); clear HB; (first | (have _t : Nat := g1; clear _t; intro g2 W HB) | (have _t : Nat := g0; clear _t; intro g1 W HB) | intro g0 W HB); go_simp) | ((first | refine ld_v 1 HB rfl _ rfl rfl ?_ | refine ld_v 2 HB rfl _ rfl rfl ?_); go_simp))) | go_values | go_skip | go_guarded | go_step | go_upon)
      refine (HN.out _).mono ?_; rintro e W1 ⟨rfl, hb⟩; have HB := Lib.hid (HB.out.call hb); clear hb; dsimp only
      repeat' (first | ((with_reducible show Oper.wp _ _ _ _ _ _); (first | ((first | refine al_v HB rfl ?_ | refine al_d HB rfl ?_); clear HB; (first | (have _t : Nat := g4; clear _t; intro g5 W HB) | (have _t : Nat := g3; clear _t; intro g4 W HB) | (have _t : Nat := g2; clear _t; intro g3 W HB)); go_simp) | ((first | refine ld_d 1 HB rfl _ rfl rfl ?_ | refine ld_d 2 HB rfl _ rfl rfl ?_); go_simp) | ((first | refine st_v 0 HB rfl _ _ rfl rfl rfl ?_ | refine st_d 1 HB rfl _ _ rfl rfl rfl ?_ | refine st_d 2 HB rfl _ _ rfl rfl rfl ?_); clear HB; intro W HB; dsimp only [List.set] at HB; go_simp))) | go_values | go_skip | go_guarded | go_step | go_upon)
      refine (HR.out _).mono ?_; rintro e W1 ⟨rfl, hb⟩; have HB := Lib.hid (HB.out.call hb); clear hb; dsimp only
      repeat' (first | ((with_reducible show Oper.wp _ _ _ _ _ _); refine st_v 3 HB rfl _ _ rfl rfl rfl ?_; clear HB; intro W HB; dsimp only [List.set] at HB; go_simp) | go_values | go_skip | go_guarded | go_step | go_upon)
      exact bodyPost_ret (res_v rfl HB (i := 3) rfl rfl) rfl ⟨rfl, HB.out.bel⟩
end Go.Proofs.YtngkolcpbgibcaaGreatDoor
