/- fun's index, not, typeOf, isOfMany by their contracts. Condition: texts are not too long. -/
import Derived.Test.YtngkolcpbgibcaaGreatDoorF4
set_option linter.unusedVariables false
set_option linter.unusedSimpArgs false
namespace Go.Proofs.YtngkolcpbgibcaaGreatDoor
open Go.RowKit
def indexX (l : List VX) (x : VX) : VX :=
  match whX x (-9223372036854775808) with
  | .no y => y
  | .ok n => if 1 ≤ n ∧ n ≤ l.length then l.getD (n.toNat - 1) .blank else .err 23
set_option maxRecDepth 20000 in
set_option maxHeartbeats 4000000 in
theorem index_any {w : World} {x : VX} (hs : shortX 100000000 x) {l : List VX} (hl : l.length ≤ 1000000) {A : Option Addr} {c : Nat} (h : RowF valF w (· < w.heap.size) A l.length l) :
    Calls Tryz.prog 49 #[.slice A l.length c, .agg (vc x).toArray] w fun e W => e = .returned (.agg (vc (indexX l x)).toArray) ∧ Below w.heap.size w W := by
  have HB := Lib.hid (BX.start w); have HW := Lib.hid (fun W : World => whole_any (w := W) hs (-9223372036854775808)); clear hs; unfold indexX
  cases hw : whX x (-9223372036854775808) with
  | no y =>
    rw [hw] at HW; simp only [whV] at HW; clear hw h; go_enter Tryz.func49, Tryz.ntmps49
    repeat' (first | ((with_reducible show Oper.wp _ _ _ _ _ _); (first | ((first | refine al_v HB rfl ?_ | refine bx_v HB _ rfl rfl ?_); clear HB; (first | (have _t : Nat := g0; clear _t; intro g1 W HB) | intro g0 W HB); go_simp) | (refine ld_v 1 HB rfl _ rfl rfl ?_; go_simp))) | go_values | go_skip | go_guarded | go_step | go_upon)
    refine (HW.out _).mono ?_; rintro e W1 ⟨rfl, hb⟩; have HB := Lib.hid (HB.out.call hb); clear hb; dsimp only
    repeat' (first | ((with_reducible show Oper.wp _ _ _ _ _ _); (first | (refine al_v HB rfl ?_; clear HB; intro g2 W HB; go_simp) | (refine ld_v 0 HB rfl _ rfl rfl ?_; go_simp) | ((first | refine st_v 0 HB rfl _ _ rfl rfl rfl ?_ | refine st_v 1 HB rfl _ _ rfl rfl rfl ?_); clear HB; intro W HB; dsimp only [List.set] at HB; go_simp))) | go_values | go_skip | go_guarded | go_step | go_upon)
    exact bodyPost_ret (res_v rfl HB (i := 1) rfl rfl) rfl ⟨rfl, HB.out.bel⟩
  | ok n =>
    rw [hw] at HW; simp only [whV] at HW; clear hw; dsimp only
    by_cases h1 : 1 ≤ n
    · have h1' : ¬ n < 1 := by omega
      by_cases h2 : n ≤ l.length
      · rw [if_pos ⟨h1, h2⟩]; obtain ⟨k, rfl⟩ : ∃ k : Nat, n = ((k + 1 : Nat) : Int) := ⟨n.toNat - 1, by omega⟩
        have hk : k < l.length := by omega
        obtain ⟨y, hy⟩ : ∃ y, l[k]? = some y := ⟨_, List.getElem?_eq_getElem hk⟩
        rw [show l.getD (((k + 1 : Nat) : Int).toNat - 1) .blank = y by rw [show ((k + 1 : Nat) : Int).toNat - 1 = k by omega, List.getD_eq_getElem?_getD, hy]; rfl]; obtain ⟨aa, rfl, hc⟩ := valx_at h hy; obtain ⟨j, hj⟩ : ∃ j : Int, j = ((k + 1 : Nat) : Int) := ⟨_, rfl⟩
        rw [← hj] at HW; rw [show k = j.toNat - 1 by omega] at hc; have HC := Lib.hid hc; have hj1 : ¬ j < 1 := by omega
        have hj2 : ¬ (l.length : Int) < j := by omega
        have hj3 : j - 1 = (k : Int) := by omega
        have hj4 : (0 : Int) ≤ (k : Int) := by omega
        have hj5 : (k : Int) < (l.length : Int) := by omega
        clear h hy hc h1 h2 h1' hj hj3; go_enter Tryz.func49, Tryz.ntmps49
        repeat' (first | ((with_reducible show Oper.wp _ _ _ _ _ _); (first | ((first | refine al_v HB rfl ?_ | refine bx_v HB _ rfl rfl ?_); clear HB; (first | (have _t : Nat := g0; clear _t; intro g1 W HB) | intro g0 W HB); go_simp) | (refine ld_v 1 HB rfl _ rfl rfl ?_; go_simp))) | go_values | go_skip | go_guarded | go_step | go_upon)
        refine (HW.out _).mono ?_; rintro e W1 ⟨rfl, hb⟩; have HB := Lib.hid (HB.out.call hb); clear hb; dsimp only
        repeat' (first | ((with_reducible show Oper.wp _ _ _ _ _ _); (first | (refine al_v HB rfl ?_; clear HB; intro g2 W HB; go_simp) | (refine st_v 0 HB rfl _ _ rfl rfl rfl ?_; clear HB; intro W HB; dsimp only [List.set] at HB; go_simp) | refine stop_ld (ty := 32) _ rfl ?_)) | go_values | go_skip | go_guarded | go_step | go_upon)
        refine Lib.hid ?_; refine ldm_v y _ rfl rfl (HC.out _ HB.out.bel) ?_; go_simp
        repeat' (first | ((with_reducible show Oper.wp _ _ _ _ _ _); refine st_v 1 HB rfl _ _ rfl rfl rfl ?_; clear HB; intro W HB; dsimp only [List.set] at HB; go_simp) | go_values | go_skip | go_guarded | go_step | go_upon)
        exact bodyPost_ret (res_v rfl HB (i := 1) rfl rfl) rfl ⟨rfl, HB.out.bel⟩
      · rw [if_neg fun h => h2 h.2]; have h2' : (l.length : Int) < n := by omega
        clear h h1 h2; go_enter Tryz.func49, Tryz.ntmps49
        repeat' (first | ((with_reducible show Oper.wp _ _ _ _ _ _); (first | ((first | refine al_v HB rfl ?_ | refine bx_v HB _ rfl rfl ?_); clear HB; (first | (have _t : Nat := g0; clear _t; intro g1 W HB) | intro g0 W HB); go_simp) | (refine ld_v 1 HB rfl _ rfl rfl ?_; go_simp))) | go_values | go_skip | go_guarded | go_step | go_upon)
        refine (HW.out _).mono ?_; rintro e W1 ⟨rfl, hb⟩; have HB := Lib.hid (HB.out.call hb); clear hb; dsimp only
        repeat' (first | ((with_reducible show Oper.wp _ _ _ _ _ _); (first | (refine al_v HB rfl ?_; clear HB; intro g2 W HB; go_simp) | (refine st_v 0 HB rfl _ _ rfl rfl rfl ?_; clear HB; intro W HB; dsimp only [List.set] at HB; go_simp))) | go_values | go_skip | go_guarded | go_step | go_upon)
        refine (fFault 23).mono ?_; rintro e W1 ⟨rfl, hb⟩; have HB := Lib.hid (HB.out.call hb); clear hb; dsimp only
        repeat' (first | ((with_reducible show Oper.wp _ _ _ _ _ _); refine st_v 1 HB rfl _ _ rfl rfl rfl ?_; clear HB; intro W HB; dsimp only [List.set] at HB; go_simp) | go_values | go_skip | go_guarded | go_step | go_upon)
        exact bodyPost_ret (res_v rfl HB (i := 1) rfl rfl) rfl ⟨rfl, HB.out.bel⟩
    · rw [if_neg fun h => h1 h.1]; have h1' : n < 1 := by omega
      clear h h1; go_enter Tryz.func49, Tryz.ntmps49
      repeat' (first | ((with_reducible show Oper.wp _ _ _ _ _ _); (first | ((first | refine al_v HB rfl ?_ | refine bx_v HB _ rfl rfl ?_); clear HB; (first | (have _t : Nat := g0; clear _t; intro g1 W HB) | intro g0 W HB); go_simp) | (refine ld_v 1 HB rfl _ rfl rfl ?_; go_simp))) | go_values | go_skip | go_guarded | go_step | go_upon)
      refine (HW.out _).mono ?_; rintro e W1 ⟨rfl, hb⟩; have HB := Lib.hid (HB.out.call hb); clear hb; dsimp only
      repeat' (first | ((with_reducible show Oper.wp _ _ _ _ _ _); (first | (refine al_v HB rfl ?_; clear HB; intro g2 W HB; go_simp) | (refine st_v 0 HB rfl _ _ rfl rfl rfl ?_; clear HB; intro W HB; dsimp only [List.set] at HB; go_simp))) | go_values | go_skip | go_guarded | go_step | go_upon)
      refine (fFault 23).mono ?_; rintro e W1 ⟨rfl, hb⟩; have HB := Lib.hid (HB.out.call hb); clear hb; dsimp only
      repeat' (first | ((with_reducible show Oper.wp _ _ _ _ _ _); refine st_v 1 HB rfl _ _ rfl rfl rfl ?_; clear HB; intro W HB; dsimp only [List.set] at HB; go_simp) | go_values | go_skip | go_guarded | go_step | go_upon)
      exact bodyPost_ret (res_v rfl HB (i := 1) rfl rfl) rfl ⟨rfl, HB.out.bel⟩
def manyB (k : Int) : Bool := decide (k = 0 ∨ k = 1 ∨ k = 2 ∨ k = 3 ∨ k = 4 ∨ k = 11 ∨ k = 12 ∨ k = 18)
set_option maxRecDepth 20000 in
set_option maxHeartbeats 4000000 in
theorem isOfMany_any {w : World} (k : Int) : Calls Tryz.prog 103 #[.int .i64 k] w fun e W => e = .returned (.bool (manyB k)) ∧ W = w := by
  by_cases h : k = 0 ∨ k = 1 ∨ k = 2 ∨ k = 3 ∨ k = 4 ∨ k = 11 ∨ k = 12 ∨ k = 18
  · rw [show manyB k = true from decide_eq_true h]
    rcases h with rfl | rfl | rfl | rfl | rfl | rfl | rfl | rfl
    all_goals
      go_enter Tryz.func103, Tryz.ntmps103; go_wp2; go_ret; exact ⟨rfl, rfl⟩
  · rw [show manyB k = false from decide_eq_false h]; have h0 : (k == 0) = false := by rw [beq_eq_false_iff_ne]; omega
    have h1 : (k == 1) = false := by rw [beq_eq_false_iff_ne]; omega
    have h2 : (k == 2) = false := by rw [beq_eq_false_iff_ne]; omega
    have h3 : (k == 3) = false := by rw [beq_eq_false_iff_ne]; omega
    have h4 : (k == 4) = false := by rw [beq_eq_false_iff_ne]; omega
    have h11 : (k == 11) = false := by rw [beq_eq_false_iff_ne]; omega
    have h12 : (k == 12) = false := by rw [beq_eq_false_iff_ne]; omega
    have h18 : (k == 18) = false := by rw [beq_eq_false_iff_ne]; omega
    clear h; go_enter Tryz.func103, Tryz.ntmps103; go_wp2; go_ret; exact ⟨rfl, rfl⟩
end Go.Proofs.YtngkolcpbgibcaaGreatDoor
