/- env.Check where no Names are, by their contracts. utf8.ValidString keeps its contract; texts are as long as may be. -/
import Derived.Test.YtkjiokepihmpfaaDoorCk14
set_option linter.unusedVariables false
set_option linter.unusedSimpArgs false
namespace Go.Proofs.YtkjiokepihmpfaaDoor
open Go.RowKit

set_option maxRecDepth 20000 in
set_option maxHeartbeats 4000000 in
theorem ckN_any {w : World} (HV : Val w) {L : List Sl} {B c : Nat} {A : Option Addr} (N : Int) {cn : Nat} (h : Rd w B 9 A L.length (rwc L)) (hB : B ≤ w.heap.size) (hl : L.length ≤ 100000) (hc : L.length ≤ c) (ht : ∀ x ∈ L, x.v.t.size ≤ 140737488355328) :
    Calls Tryd.prog 11 #[.agg (enc N (.slice A L.length c) (.slice none 0 cn)).toArray] w fun e W => e = .returned (.int .i64 (ckN N L)) ∧ Below w.heap.size w W := by
  have HD := Lib.hid (show ckN N L = if N < 1 ∨ 8 < N then 1 else if 4096 < L.length then 4 else ckL N none L from rfl)
  have HS : Hid (∀ x ∈ L, ∀ W : World, Below w.heap.size w W → Calls Tryd.prog 28 #[.agg (slc x).toArray, .int .i64 N] W fun e W' => e = .returned (.int .i64 (cks N x)) ∧ Below W.heap.size W W') := Lib.hid fun x hx W hb => cks_any (HV.below hb) x N (ht x hx)
  have HR := Lib.hid (h.mono hB)
  obtain ⟨n, hn⟩ : ∃ n, n = L.length := ⟨_, rfl⟩
  have HN := Lib.hid hn
  rw [← hn] at hl hc HD ⊢
  clear h hB ht HV hn
  by_cases h1 : N < 1
  · have hv : ckN N L = 1 := by rw [HD.out, if_pos (.inl h1)]
    rw [hv]
    clear hv
    have HB : Hid (BX w [] w) := Lib.hid (BX.start w)
    go_enter Tryd.func11, Tryd.ntmps11
    repeat' (first | ((with_reducible show Oper.wp _ _ _ _ _ _); (first | (with_reducible refine is_bx 40 _ rfl ?_; refine bx_pl HB _ rfl rfl ?_) | (with_reducible refine is_bx 32 _ rfl ?_; refine bx_va HB _ rfl rfl ?_) | (with_reducible refine is_bx 28 _ rfl ?_; refine bx_en HB _ rfl rfl ?_) | (with_reducible refine is_bx 44 _ rfl ?_; refine bx_sl HB _ rfl rfl ?_)); clear HB; (first | (have _t : Nat := g10; clear _t; intro g11 W HB) | (have _t : Nat := g9; clear _t; intro g10 W HB) | (have _t : Nat := g8; clear _t; intro g9 W HB) | (have _t : Nat := g7; clear _t; intro g8 W HB) | (have _t : Nat := g6; clear _t; intro g7 W HB) | (have _t : Nat := g5; clear _t; intro g6 W HB) | (have _t : Nat := g4; clear _t; intro g5 W HB) | (have _t : Nat := g3; clear _t; intro g4 W HB) | (have _t : Nat := g2; clear _t; intro g3 W HB) | (have _t : Nat := g1; clear _t; intro g2 W HB) | (have _t : Nat := g0; clear _t; intro g1 W HB) | intro g0 W HB); go_simp) | ((with_reducible show Oper.wp _ _ _ _ _ _); (first | (with_reducible refine is_al 40 rfl ?_; refine al_g HB 40 (plc ⟨0, 0, 0⟩) (by kernel_rfl) ?_) | (with_reducible refine is_al 32 rfl ?_; refine al_g HB 32 (vac blV) (by kernel_rfl) ?_) | (with_reducible refine is_al 28 rfl ?_; refine al_g HB 28 (enc 0 (.slice none 0 0) (.slice none 0 0)) (by kernel_rfl) ?_) | (with_reducible refine is_al 44 rfl ?_; refine al_g HB 44 (slc ⟨⟨0, 0, 0⟩, blV⟩) (by kernel_rfl) ?_)); clear HB; (first | (have _t : Nat := g10; clear _t; intro g11 W HB) | (have _t : Nat := g9; clear _t; intro g10 W HB) | (have _t : Nat := g8; clear _t; intro g9 W HB) | (have _t : Nat := g7; clear _t; intro g8 W HB) | (have _t : Nat := g6; clear _t; intro g7 W HB) | (have _t : Nat := g5; clear _t; intro g6 W HB) | (have _t : Nat := g4; clear _t; intro g5 W HB) | (have _t : Nat := g3; clear _t; intro g4 W HB) | (have _t : Nat := g2; clear _t; intro g3 W HB) | (have _t : Nat := g1; clear _t; intro g2 W HB) | (have _t : Nat := g0; clear _t; intro g1 W HB) | intro g0 W HB); go_simp) | ((with_reducible show Oper.wp _ _ _ _ _ _); (first | (with_reducible refine is_ld 40 _ rfl ?_; (first | refine ld_pl 0 HB rfl _ rfl rfl ?_ | refine ld_pl 1 HB rfl _ rfl rfl ?_ | refine ld_pl 2 HB rfl _ rfl rfl ?_ | refine ld_pl 3 HB rfl _ rfl rfl ?_ | refine ld_pl 4 HB rfl _ rfl rfl ?_ | refine ld_pl 5 HB rfl _ rfl rfl ?_)) | (with_reducible refine is_ld 32 _ rfl ?_; (first | refine ld_va 0 HB rfl _ rfl rfl ?_ | refine ld_va 1 HB rfl _ rfl rfl ?_ | refine ld_va 2 HB rfl _ rfl rfl ?_ | refine ld_va 3 HB rfl _ rfl rfl ?_ | refine ld_va 4 HB rfl _ rfl rfl ?_ | refine ld_va 5 HB rfl _ rfl rfl ?_)) | (with_reducible refine is_ld 28 _ rfl ?_; (first | refine ld_en 0 HB rfl _ rfl rfl ?_ | refine ld_en 1 HB rfl _ rfl rfl ?_ | refine ld_en 2 HB rfl _ rfl rfl ?_ | refine ld_en 3 HB rfl _ rfl rfl ?_ | refine ld_en 4 HB rfl _ rfl rfl ?_ | refine ld_en 5 HB rfl _ rfl rfl ?_)) | (with_reducible refine is_ld 44 _ rfl ?_; (first | refine ld_sl 0 HB rfl _ rfl rfl ?_ | refine ld_sl 1 HB rfl _ rfl rfl ?_ | refine ld_sl 2 HB rfl _ rfl rfl ?_ | refine ld_sl 3 HB rfl _ rfl rfl ?_ | refine ld_sl 4 HB rfl _ rfl rfl ?_ | refine ld_sl 5 HB rfl _ rfl rfl ?_))); go_simp) | ((with_reducible show Oper.wp _ _ _ _ _ _); (first | (with_reducible refine is_ld 3 _ rfl ?_; (first | refine lf_int 0 HB rfl _ rfl rfl rfl ?_ | refine lf_int 1 HB rfl _ rfl rfl rfl ?_ | refine lf_int 2 HB rfl _ rfl rfl rfl ?_ | refine lf_int 3 HB rfl _ rfl rfl rfl ?_ | refine lf_int 4 HB rfl _ rfl rfl rfl ?_ | refine lf_int 5 HB rfl _ rfl rfl rfl ?_)) | (with_reducible refine is_ld 25 _ rfl ?_; (first | refine lf_ss 0 HB rfl _ rfl rfl rfl ?_ | refine lf_ss 1 HB rfl _ rfl rfl rfl ?_ | refine lf_ss 2 HB rfl _ rfl rfl rfl ?_ | refine lf_ss 3 HB rfl _ rfl rfl rfl ?_ | refine lf_ss 4 HB rfl _ rfl rfl rfl ?_ | refine lf_ss 5 HB rfl _ rfl rfl rfl ?_)) | (with_reducible refine is_ld 26 _ rfl ?_; (first | refine lf_es 0 HB rfl _ rfl rfl rfl ?_ | refine lf_es 1 HB rfl _ rfl rfl rfl ?_ | refine lf_es 2 HB rfl _ rfl rfl rfl ?_ | refine lf_es 3 HB rfl _ rfl rfl rfl ?_ | refine lf_es 4 HB rfl _ rfl rfl rfl ?_ | refine lf_es 5 HB rfl _ rfl rfl rfl ?_))); go_simp) | go_values | go_skip | go_guarded | go_step | go_upon)
    exact bodyPost_ret (v := .int .i64 1) (by simp [results, Tryd.results11, go_sem]) rfl ⟨rfl, HB.out.bel⟩
  by_cases h2 : 8 < N
  · have hv : ckN N L = 1 := by rw [HD.out, if_pos (.inr h2)]
    rw [hv]
    have h2' : N > 8 := h2
    clear hv
    have HB : Hid (BX w [] w) := Lib.hid (BX.start w)
    go_enter Tryd.func11, Tryd.ntmps11
    repeat' (first | ((with_reducible show Oper.wp _ _ _ _ _ _); (first | (with_reducible refine is_bx 40 _ rfl ?_; refine bx_pl HB _ rfl rfl ?_) | (with_reducible refine is_bx 32 _ rfl ?_; refine bx_va HB _ rfl rfl ?_) | (with_reducible refine is_bx 28 _ rfl ?_; refine bx_en HB _ rfl rfl ?_) | (with_reducible refine is_bx 44 _ rfl ?_; refine bx_sl HB _ rfl rfl ?_)); clear HB; (first | (have _t : Nat := g10; clear _t; intro g11 W HB) | (have _t : Nat := g9; clear _t; intro g10 W HB) | (have _t : Nat := g8; clear _t; intro g9 W HB) | (have _t : Nat := g7; clear _t; intro g8 W HB) | (have _t : Nat := g6; clear _t; intro g7 W HB) | (have _t : Nat := g5; clear _t; intro g6 W HB) | (have _t : Nat := g4; clear _t; intro g5 W HB) | (have _t : Nat := g3; clear _t; intro g4 W HB) | (have _t : Nat := g2; clear _t; intro g3 W HB) | (have _t : Nat := g1; clear _t; intro g2 W HB) | (have _t : Nat := g0; clear _t; intro g1 W HB) | intro g0 W HB); go_simp) | ((with_reducible show Oper.wp _ _ _ _ _ _); (first | (with_reducible refine is_al 40 rfl ?_; refine al_g HB 40 (plc ⟨0, 0, 0⟩) (by kernel_rfl) ?_) | (with_reducible refine is_al 32 rfl ?_; refine al_g HB 32 (vac blV) (by kernel_rfl) ?_) | (with_reducible refine is_al 28 rfl ?_; refine al_g HB 28 (enc 0 (.slice none 0 0) (.slice none 0 0)) (by kernel_rfl) ?_) | (with_reducible refine is_al 44 rfl ?_; refine al_g HB 44 (slc ⟨⟨0, 0, 0⟩, blV⟩) (by kernel_rfl) ?_)); clear HB; (first | (have _t : Nat := g10; clear _t; intro g11 W HB) | (have _t : Nat := g9; clear _t; intro g10 W HB) | (have _t : Nat := g8; clear _t; intro g9 W HB) | (have _t : Nat := g7; clear _t; intro g8 W HB) | (have _t : Nat := g6; clear _t; intro g7 W HB) | (have _t : Nat := g5; clear _t; intro g6 W HB) | (have _t : Nat := g4; clear _t; intro g5 W HB) | (have _t : Nat := g3; clear _t; intro g4 W HB) | (have _t : Nat := g2; clear _t; intro g3 W HB) | (have _t : Nat := g1; clear _t; intro g2 W HB) | (have _t : Nat := g0; clear _t; intro g1 W HB) | intro g0 W HB); go_simp) | ((with_reducible show Oper.wp _ _ _ _ _ _); (first | (with_reducible refine is_ld 40 _ rfl ?_; (first | refine ld_pl 0 HB rfl _ rfl rfl ?_ | refine ld_pl 1 HB rfl _ rfl rfl ?_ | refine ld_pl 2 HB rfl _ rfl rfl ?_ | refine ld_pl 3 HB rfl _ rfl rfl ?_ | refine ld_pl 4 HB rfl _ rfl rfl ?_ | refine ld_pl 5 HB rfl _ rfl rfl ?_)) | (with_reducible refine is_ld 32 _ rfl ?_; (first | refine ld_va 0 HB rfl _ rfl rfl ?_ | refine ld_va 1 HB rfl _ rfl rfl ?_ | refine ld_va 2 HB rfl _ rfl rfl ?_ | refine ld_va 3 HB rfl _ rfl rfl ?_ | refine ld_va 4 HB rfl _ rfl rfl ?_ | refine ld_va 5 HB rfl _ rfl rfl ?_)) | (with_reducible refine is_ld 28 _ rfl ?_; (first | refine ld_en 0 HB rfl _ rfl rfl ?_ | refine ld_en 1 HB rfl _ rfl rfl ?_ | refine ld_en 2 HB rfl _ rfl rfl ?_ | refine ld_en 3 HB rfl _ rfl rfl ?_ | refine ld_en 4 HB rfl _ rfl rfl ?_ | refine ld_en 5 HB rfl _ rfl rfl ?_)) | (with_reducible refine is_ld 44 _ rfl ?_; (first | refine ld_sl 0 HB rfl _ rfl rfl ?_ | refine ld_sl 1 HB rfl _ rfl rfl ?_ | refine ld_sl 2 HB rfl _ rfl rfl ?_ | refine ld_sl 3 HB rfl _ rfl rfl ?_ | refine ld_sl 4 HB rfl _ rfl rfl ?_ | refine ld_sl 5 HB rfl _ rfl rfl ?_))); go_simp) | ((with_reducible show Oper.wp _ _ _ _ _ _); (first | (with_reducible refine is_ld 3 _ rfl ?_; (first | refine lf_int 0 HB rfl _ rfl rfl rfl ?_ | refine lf_int 1 HB rfl _ rfl rfl rfl ?_ | refine lf_int 2 HB rfl _ rfl rfl rfl ?_ | refine lf_int 3 HB rfl _ rfl rfl rfl ?_ | refine lf_int 4 HB rfl _ rfl rfl rfl ?_ | refine lf_int 5 HB rfl _ rfl rfl rfl ?_)) | (with_reducible refine is_ld 25 _ rfl ?_; (first | refine lf_ss 0 HB rfl _ rfl rfl rfl ?_ | refine lf_ss 1 HB rfl _ rfl rfl rfl ?_ | refine lf_ss 2 HB rfl _ rfl rfl rfl ?_ | refine lf_ss 3 HB rfl _ rfl rfl rfl ?_ | refine lf_ss 4 HB rfl _ rfl rfl rfl ?_ | refine lf_ss 5 HB rfl _ rfl rfl rfl ?_)) | (with_reducible refine is_ld 26 _ rfl ?_; (first | refine lf_es 0 HB rfl _ rfl rfl rfl ?_ | refine lf_es 1 HB rfl _ rfl rfl rfl ?_ | refine lf_es 2 HB rfl _ rfl rfl rfl ?_ | refine lf_es 3 HB rfl _ rfl rfl rfl ?_ | refine lf_es 4 HB rfl _ rfl rfl rfl ?_ | refine lf_es 5 HB rfl _ rfl rfl rfl ?_))); go_simp) | go_values | go_skip | go_guarded | go_step | go_upon)
    exact bodyPost_ret (v := .int .i64 1) (by simp [results, Tryd.results11, go_sem]) rfl ⟨rfl, HB.out.bel⟩
  have h2' : ¬ N > 8 := h2
  by_cases h3 : 4096 < n
  · have hv : ckN N L = 4 := by rw [HD.out, if_neg (by omega), if_pos h3]
    rw [hv]
    have h3' : (n : Int) > 4096 := by omega
    clear hv
    have HB : Hid (BX w [] w) := Lib.hid (BX.start w)
    go_enter Tryd.func11, Tryd.ntmps11
    repeat' (first | ((with_reducible show Oper.wp _ _ _ _ _ _); (first | (with_reducible refine is_bx 40 _ rfl ?_; refine bx_pl HB _ rfl rfl ?_) | (with_reducible refine is_bx 32 _ rfl ?_; refine bx_va HB _ rfl rfl ?_) | (with_reducible refine is_bx 28 _ rfl ?_; refine bx_en HB _ rfl rfl ?_) | (with_reducible refine is_bx 44 _ rfl ?_; refine bx_sl HB _ rfl rfl ?_)); clear HB; (first | (have _t : Nat := g10; clear _t; intro g11 W HB) | (have _t : Nat := g9; clear _t; intro g10 W HB) | (have _t : Nat := g8; clear _t; intro g9 W HB) | (have _t : Nat := g7; clear _t; intro g8 W HB) | (have _t : Nat := g6; clear _t; intro g7 W HB) | (have _t : Nat := g5; clear _t; intro g6 W HB) | (have _t : Nat := g4; clear _t; intro g5 W HB) | (have _t : Nat := g3; clear _t; intro g4 W HB) | (have _t : Nat := g2; clear _t; intro g3 W HB) | (have _t : Nat := g1; clear _t; intro g2 W HB) | (have _t : Nat := g0; clear _t; intro g1 W HB) | intro g0 W HB); go_simp) | ((with_reducible show Oper.wp _ _ _ _ _ _); (first | (with_reducible refine is_al 40 rfl ?_; refine al_g HB 40 (plc ⟨0, 0, 0⟩) (by kernel_rfl) ?_) | (with_reducible refine is_al 32 rfl ?_; refine al_g HB 32 (vac blV) (by kernel_rfl) ?_) | (with_reducible refine is_al 28 rfl ?_; refine al_g HB 28 (enc 0 (.slice none 0 0) (.slice none 0 0)) (by kernel_rfl) ?_) | (with_reducible refine is_al 44 rfl ?_; refine al_g HB 44 (slc ⟨⟨0, 0, 0⟩, blV⟩) (by kernel_rfl) ?_)); clear HB; (first | (have _t : Nat := g10; clear _t; intro g11 W HB) | (have _t : Nat := g9; clear _t; intro g10 W HB) | (have _t : Nat := g8; clear _t; intro g9 W HB) | (have _t : Nat := g7; clear _t; intro g8 W HB) | (have _t : Nat := g6; clear _t; intro g7 W HB) | (have _t : Nat := g5; clear _t; intro g6 W HB) | (have _t : Nat := g4; clear _t; intro g5 W HB) | (have _t : Nat := g3; clear _t; intro g4 W HB) | (have _t : Nat := g2; clear _t; intro g3 W HB) | (have _t : Nat := g1; clear _t; intro g2 W HB) | (have _t : Nat := g0; clear _t; intro g1 W HB) | intro g0 W HB); go_simp) | ((with_reducible show Oper.wp _ _ _ _ _ _); (first | (with_reducible refine is_ld 40 _ rfl ?_; (first | refine ld_pl 0 HB rfl _ rfl rfl ?_ | refine ld_pl 1 HB rfl _ rfl rfl ?_ | refine ld_pl 2 HB rfl _ rfl rfl ?_ | refine ld_pl 3 HB rfl _ rfl rfl ?_ | refine ld_pl 4 HB rfl _ rfl rfl ?_ | refine ld_pl 5 HB rfl _ rfl rfl ?_)) | (with_reducible refine is_ld 32 _ rfl ?_; (first | refine ld_va 0 HB rfl _ rfl rfl ?_ | refine ld_va 1 HB rfl _ rfl rfl ?_ | refine ld_va 2 HB rfl _ rfl rfl ?_ | refine ld_va 3 HB rfl _ rfl rfl ?_ | refine ld_va 4 HB rfl _ rfl rfl ?_ | refine ld_va 5 HB rfl _ rfl rfl ?_)) | (with_reducible refine is_ld 28 _ rfl ?_; (first | refine ld_en 0 HB rfl _ rfl rfl ?_ | refine ld_en 1 HB rfl _ rfl rfl ?_ | refine ld_en 2 HB rfl _ rfl rfl ?_ | refine ld_en 3 HB rfl _ rfl rfl ?_ | refine ld_en 4 HB rfl _ rfl rfl ?_ | refine ld_en 5 HB rfl _ rfl rfl ?_)) | (with_reducible refine is_ld 44 _ rfl ?_; (first | refine ld_sl 0 HB rfl _ rfl rfl ?_ | refine ld_sl 1 HB rfl _ rfl rfl ?_ | refine ld_sl 2 HB rfl _ rfl rfl ?_ | refine ld_sl 3 HB rfl _ rfl rfl ?_ | refine ld_sl 4 HB rfl _ rfl rfl ?_ | refine ld_sl 5 HB rfl _ rfl rfl ?_))); go_simp) | ((with_reducible show Oper.wp _ _ _ _ _ _); (first | (with_reducible refine is_ld 3 _ rfl ?_; (first | refine lf_int 0 HB rfl _ rfl rfl rfl ?_ | refine lf_int 1 HB rfl _ rfl rfl rfl ?_ | refine lf_int 2 HB rfl _ rfl rfl rfl ?_ | refine lf_int 3 HB rfl _ rfl rfl rfl ?_ | refine lf_int 4 HB rfl _ rfl rfl rfl ?_ | refine lf_int 5 HB rfl _ rfl rfl rfl ?_)) | (with_reducible refine is_ld 25 _ rfl ?_; (first | refine lf_ss 0 HB rfl _ rfl rfl rfl ?_ | refine lf_ss 1 HB rfl _ rfl rfl rfl ?_ | refine lf_ss 2 HB rfl _ rfl rfl rfl ?_ | refine lf_ss 3 HB rfl _ rfl rfl rfl ?_ | refine lf_ss 4 HB rfl _ rfl rfl rfl ?_ | refine lf_ss 5 HB rfl _ rfl rfl rfl ?_)) | (with_reducible refine is_ld 26 _ rfl ?_; (first | refine lf_es 0 HB rfl _ rfl rfl rfl ?_ | refine lf_es 1 HB rfl _ rfl rfl rfl ?_ | refine lf_es 2 HB rfl _ rfl rfl rfl ?_ | refine lf_es 3 HB rfl _ rfl rfl rfl ?_ | refine lf_es 4 HB rfl _ rfl rfl rfl ?_ | refine lf_es 5 HB rfl _ rfl rfl rfl ?_))); go_simp) | go_values | go_skip | go_guarded | go_step | go_upon)
    exact bodyPost_ret (v := .int .i64 4) (by simp [results, Tryd.results11, go_sem]) rfl ⟨rfl, HB.out.bel⟩
  have h3' : ¬ (n : Int) > 4096 := by omega
  have HE := Lib.hid (show ckN N L = ckL N none L by rw [HD.out, if_neg (by omega), if_neg h3])
  clear HD h3 h2
  obtain ⟨z, hz⟩ : ∃ z, z = ckN N L := ⟨_, rfl⟩
  rw [← hz] at HE ⊢
  clear hz
  have HB : Hid (BX w [] w) := Lib.hid (BX.start w)
  go_enter Tryd.func11, Tryd.ntmps11
  repeat' (first | ((with_reducible show Oper.wp _ _ _ _ _ _); (first | (with_reducible refine is_bx 40 _ rfl ?_; refine bx_pl HB _ rfl rfl ?_) | (with_reducible refine is_bx 32 _ rfl ?_; refine bx_va HB _ rfl rfl ?_) | (with_reducible refine is_bx 28 _ rfl ?_; refine bx_en HB _ rfl rfl ?_) | (with_reducible refine is_bx 44 _ rfl ?_; refine bx_sl HB _ rfl rfl ?_)); clear HB; (first | (have _t : Nat := g10; clear _t; intro g11 W HB) | (have _t : Nat := g9; clear _t; intro g10 W HB) | (have _t : Nat := g8; clear _t; intro g9 W HB) | (have _t : Nat := g7; clear _t; intro g8 W HB) | (have _t : Nat := g6; clear _t; intro g7 W HB) | (have _t : Nat := g5; clear _t; intro g6 W HB) | (have _t : Nat := g4; clear _t; intro g5 W HB) | (have _t : Nat := g3; clear _t; intro g4 W HB) | (have _t : Nat := g2; clear _t; intro g3 W HB) | (have _t : Nat := g1; clear _t; intro g2 W HB) | (have _t : Nat := g0; clear _t; intro g1 W HB) | intro g0 W HB); go_simp) | ((with_reducible show Oper.wp _ _ _ _ _ _); (first | (with_reducible refine is_al 40 rfl ?_; refine al_g HB 40 (plc ⟨0, 0, 0⟩) (by kernel_rfl) ?_) | (with_reducible refine is_al 32 rfl ?_; refine al_g HB 32 (vac blV) (by kernel_rfl) ?_) | (with_reducible refine is_al 28 rfl ?_; refine al_g HB 28 (enc 0 (.slice none 0 0) (.slice none 0 0)) (by kernel_rfl) ?_) | (with_reducible refine is_al 44 rfl ?_; refine al_g HB 44 (slc ⟨⟨0, 0, 0⟩, blV⟩) (by kernel_rfl) ?_)); clear HB; (first | (have _t : Nat := g10; clear _t; intro g11 W HB) | (have _t : Nat := g9; clear _t; intro g10 W HB) | (have _t : Nat := g8; clear _t; intro g9 W HB) | (have _t : Nat := g7; clear _t; intro g8 W HB) | (have _t : Nat := g6; clear _t; intro g7 W HB) | (have _t : Nat := g5; clear _t; intro g6 W HB) | (have _t : Nat := g4; clear _t; intro g5 W HB) | (have _t : Nat := g3; clear _t; intro g4 W HB) | (have _t : Nat := g2; clear _t; intro g3 W HB) | (have _t : Nat := g1; clear _t; intro g2 W HB) | (have _t : Nat := g0; clear _t; intro g1 W HB) | intro g0 W HB); go_simp) | ((with_reducible show Oper.wp _ _ _ _ _ _); (first | (with_reducible refine is_ld 40 _ rfl ?_; (first | refine ld_pl 0 HB rfl _ rfl rfl ?_ | refine ld_pl 1 HB rfl _ rfl rfl ?_ | refine ld_pl 2 HB rfl _ rfl rfl ?_ | refine ld_pl 3 HB rfl _ rfl rfl ?_ | refine ld_pl 4 HB rfl _ rfl rfl ?_ | refine ld_pl 5 HB rfl _ rfl rfl ?_)) | (with_reducible refine is_ld 32 _ rfl ?_; (first | refine ld_va 0 HB rfl _ rfl rfl ?_ | refine ld_va 1 HB rfl _ rfl rfl ?_ | refine ld_va 2 HB rfl _ rfl rfl ?_ | refine ld_va 3 HB rfl _ rfl rfl ?_ | refine ld_va 4 HB rfl _ rfl rfl ?_ | refine ld_va 5 HB rfl _ rfl rfl ?_)) | (with_reducible refine is_ld 28 _ rfl ?_; (first | refine ld_en 0 HB rfl _ rfl rfl ?_ | refine ld_en 1 HB rfl _ rfl rfl ?_ | refine ld_en 2 HB rfl _ rfl rfl ?_ | refine ld_en 3 HB rfl _ rfl rfl ?_ | refine ld_en 4 HB rfl _ rfl rfl ?_ | refine ld_en 5 HB rfl _ rfl rfl ?_)) | (with_reducible refine is_ld 44 _ rfl ?_; (first | refine ld_sl 0 HB rfl _ rfl rfl ?_ | refine ld_sl 1 HB rfl _ rfl rfl ?_ | refine ld_sl 2 HB rfl _ rfl rfl ?_ | refine ld_sl 3 HB rfl _ rfl rfl ?_ | refine ld_sl 4 HB rfl _ rfl rfl ?_ | refine ld_sl 5 HB rfl _ rfl rfl ?_))); go_simp) | ((with_reducible show Oper.wp _ _ _ _ _ _); (first | (with_reducible refine is_ld 3 _ rfl ?_; (first | refine lf_int 0 HB rfl _ rfl rfl rfl ?_ | refine lf_int 1 HB rfl _ rfl rfl rfl ?_ | refine lf_int 2 HB rfl _ rfl rfl rfl ?_ | refine lf_int 3 HB rfl _ rfl rfl rfl ?_ | refine lf_int 4 HB rfl _ rfl rfl rfl ?_ | refine lf_int 5 HB rfl _ rfl rfl rfl ?_)) | (with_reducible refine is_ld 25 _ rfl ?_; (first | refine lf_ss 0 HB rfl _ rfl rfl rfl ?_ | refine lf_ss 1 HB rfl _ rfl rfl rfl ?_ | refine lf_ss 2 HB rfl _ rfl rfl rfl ?_ | refine lf_ss 3 HB rfl _ rfl rfl rfl ?_ | refine lf_ss 4 HB rfl _ rfl rfl rfl ?_ | refine lf_ss 5 HB rfl _ rfl rfl rfl ?_)) | (with_reducible refine is_ld 26 _ rfl ?_; (first | refine lf_es 0 HB rfl _ rfl rfl rfl ?_ | refine lf_es 1 HB rfl _ rfl rfl rfl ?_ | refine lf_es 2 HB rfl _ rfl rfl rfl ?_ | refine lf_es 3 HB rfl _ rfl rfl rfl ?_ | refine lf_es 4 HB rfl _ rfl rfl rfl ?_ | refine lf_es 5 HB rfl _ rfl rfl rfl ?_))); go_simp) | go_values | go_skip | go_guarded | go_step | go_upon)
  go_loopw [32] (fun i wr => ∃ k : Nat, i = .int .i64 k ∧ k ≤ n ∧ Hid (z = ckL N (pvB L k) (L.drop k)) ∧ Hid (BX w [(g0, 28, enc N (.slice A n c) (.slice none 0 cn))] wr)) (fun i _ => n - (intOf i).toNat)
  case atStart => exact ⟨0, rfl, Nat.zero_le _, Lib.hid HE.out, HB⟩
  case round =>
    obtain ⟨k, rfl, hkn, HE, HB⟩ := hrel
    by_cases hlt : k < n
    · have hlt' : (k : Int) < (n : Int) := by omega
      have hk0 : (0 : Int) ≤ (k : Int) := by omega
      have hk2 : k ≤ 100000 := by omega
      obtain ⟨x, hx⟩ : ∃ x, L[k]? = some x := ⟨_, List.getElem?_eq_getElem (by rw [← HN.out]; exact hlt)⟩
      obtain ⟨q, hq, hqc⟩ := rd_row HR.out (Nat.le_refl _) hx
      subst hq
      have HC := Lib.hid hqc
      have HX := Lib.hid hx
      have HE2 := Lib.hid (HE.out.trans (ckL_step hx))
      have HSx := Lib.hid (HS.out x (List.mem_of_getElem? hx))
      clear hqc hx HE
      repeat' (first | ((with_reducible show Oper.wp _ _ _ _ _ _); with_reducible refine stop_ld (ty := 44) _ rfl ?_) | go_values | go_skip | go_guarded | go_step | go_upon)
      refine Lib.hid ?_
      refine ldm_g (cs := slc x) rtSl _ rfl rfl (fun j u hj => HC.out _ HB.out.bel j u hj) ?_
      go_simp
      repeat' (first | ((with_reducible show Oper.wp _ _ _ _ _ _); (first | (with_reducible refine is_al 40 rfl ?_; refine al_g HB 40 (plc ⟨0, 0, 0⟩) (by kernel_rfl) ?_) | (with_reducible refine is_al 32 rfl ?_; refine al_g HB 32 (vac blV) (by kernel_rfl) ?_) | (with_reducible refine is_al 28 rfl ?_; refine al_g HB 28 (enc 0 (.slice none 0 0) (.slice none 0 0)) (by kernel_rfl) ?_) | (with_reducible refine is_al 44 rfl ?_; refine al_g HB 44 (slc ⟨⟨0, 0, 0⟩, blV⟩) (by kernel_rfl) ?_)); clear HB; (first | (have _t : Nat := g10; clear _t; intro g11 W HB) | (have _t : Nat := g9; clear _t; intro g10 W HB) | (have _t : Nat := g8; clear _t; intro g9 W HB) | (have _t : Nat := g7; clear _t; intro g8 W HB) | (have _t : Nat := g6; clear _t; intro g7 W HB) | (have _t : Nat := g5; clear _t; intro g6 W HB) | (have _t : Nat := g4; clear _t; intro g5 W HB) | (have _t : Nat := g3; clear _t; intro g4 W HB) | (have _t : Nat := g2; clear _t; intro g3 W HB) | (have _t : Nat := g1; clear _t; intro g2 W HB) | (have _t : Nat := g0; clear _t; intro g1 W HB) | intro g0 W HB); go_simp) | ((with_reducible show Oper.wp _ _ _ _ _ _); (first | (with_reducible refine is_ld 40 _ rfl ?_; (first | refine ld_pl 0 HB rfl _ rfl rfl ?_ | refine ld_pl 1 HB rfl _ rfl rfl ?_ | refine ld_pl 2 HB rfl _ rfl rfl ?_ | refine ld_pl 3 HB rfl _ rfl rfl ?_ | refine ld_pl 4 HB rfl _ rfl rfl ?_ | refine ld_pl 5 HB rfl _ rfl rfl ?_)) | (with_reducible refine is_ld 32 _ rfl ?_; (first | refine ld_va 0 HB rfl _ rfl rfl ?_ | refine ld_va 1 HB rfl _ rfl rfl ?_ | refine ld_va 2 HB rfl _ rfl rfl ?_ | refine ld_va 3 HB rfl _ rfl rfl ?_ | refine ld_va 4 HB rfl _ rfl rfl ?_ | refine ld_va 5 HB rfl _ rfl rfl ?_)) | (with_reducible refine is_ld 28 _ rfl ?_; (first | refine ld_en 0 HB rfl _ rfl rfl ?_ | refine ld_en 1 HB rfl _ rfl rfl ?_ | refine ld_en 2 HB rfl _ rfl rfl ?_ | refine ld_en 3 HB rfl _ rfl rfl ?_ | refine ld_en 4 HB rfl _ rfl rfl ?_ | refine ld_en 5 HB rfl _ rfl rfl ?_)) | (with_reducible refine is_ld 44 _ rfl ?_; (first | refine ld_sl 0 HB rfl _ rfl rfl ?_ | refine ld_sl 1 HB rfl _ rfl rfl ?_ | refine ld_sl 2 HB rfl _ rfl rfl ?_ | refine ld_sl 3 HB rfl _ rfl rfl ?_ | refine ld_sl 4 HB rfl _ rfl rfl ?_ | refine ld_sl 5 HB rfl _ rfl rfl ?_))); go_simp) | ((with_reducible show Oper.wp _ _ _ _ _ _); (first | (with_reducible refine is_ld 3 _ rfl ?_; (first | refine lf_int 0 HB rfl _ rfl rfl rfl ?_ | refine lf_int 1 HB rfl _ rfl rfl rfl ?_ | refine lf_int 2 HB rfl _ rfl rfl rfl ?_ | refine lf_int 3 HB rfl _ rfl rfl rfl ?_ | refine lf_int 4 HB rfl _ rfl rfl rfl ?_ | refine lf_int 5 HB rfl _ rfl rfl rfl ?_)) | (with_reducible refine is_ld 25 _ rfl ?_; (first | refine lf_ss 0 HB rfl _ rfl rfl rfl ?_ | refine lf_ss 1 HB rfl _ rfl rfl rfl ?_ | refine lf_ss 2 HB rfl _ rfl rfl rfl ?_ | refine lf_ss 3 HB rfl _ rfl rfl rfl ?_ | refine lf_ss 4 HB rfl _ rfl rfl rfl ?_ | refine lf_ss 5 HB rfl _ rfl rfl rfl ?_)) | (with_reducible refine is_ld 26 _ rfl ?_; (first | refine lf_es 0 HB rfl _ rfl rfl rfl ?_ | refine lf_es 1 HB rfl _ rfl rfl rfl ?_ | refine lf_es 2 HB rfl _ rfl rfl rfl ?_ | refine lf_es 3 HB rfl _ rfl rfl rfl ?_ | refine lf_es 4 HB rfl _ rfl rfl rfl ?_ | refine lf_es 5 HB rfl _ rfl rfl rfl ?_))); go_simp) | ((with_reducible show Oper.wp _ _ _ _ _ _); (first | (with_reducible refine is_st 40 _ _ rfl ?_; (first | refine st_pl 0 HB rfl _ _ rfl rfl rfl ?_ | refine st_pl 1 HB rfl _ _ rfl rfl rfl ?_ | refine st_pl 2 HB rfl _ _ rfl rfl rfl ?_ | refine st_pl 3 HB rfl _ _ rfl rfl rfl ?_ | refine st_pl 4 HB rfl _ _ rfl rfl rfl ?_ | refine st_pl 5 HB rfl _ _ rfl rfl rfl ?_)) | (with_reducible refine is_st 32 _ _ rfl ?_; (first | refine st_va 0 HB rfl _ _ rfl rfl rfl ?_ | refine st_va 1 HB rfl _ _ rfl rfl rfl ?_ | refine st_va 2 HB rfl _ _ rfl rfl rfl ?_ | refine st_va 3 HB rfl _ _ rfl rfl rfl ?_ | refine st_va 4 HB rfl _ _ rfl rfl rfl ?_ | refine st_va 5 HB rfl _ _ rfl rfl rfl ?_)) | (with_reducible refine is_st 28 _ _ rfl ?_; (first | refine st_en 0 HB rfl _ _ rfl rfl rfl ?_ | refine st_en 1 HB rfl _ _ rfl rfl rfl ?_ | refine st_en 2 HB rfl _ _ rfl rfl rfl ?_ | refine st_en 3 HB rfl _ _ rfl rfl rfl ?_ | refine st_en 4 HB rfl _ _ rfl rfl rfl ?_ | refine st_en 5 HB rfl _ _ rfl rfl rfl ?_)) | (with_reducible refine is_st 44 _ _ rfl ?_; (first | refine st_sl 0 HB rfl _ _ rfl rfl rfl ?_ | refine st_sl 1 HB rfl _ _ rfl rfl rfl ?_ | refine st_sl 2 HB rfl _ _ rfl rfl rfl ?_ | refine st_sl 3 HB rfl _ _ rfl rfl rfl ?_ | refine st_sl 4 HB rfl _ _ rfl rfl rfl ?_ | refine st_sl 5 HB rfl _ _ rfl rfl rfl ?_))); clear HB; intro W HB; dsimp only [List.set] at HB; go_simp) | go_values | go_skip | go_guarded | go_step | go_upon)
      refine (HSx.out _ HB.out.bel).mono ?_
      rintro e W1 ⟨rfl, hb⟩
      replace HB := Lib.hid (HB.out.call hb)
      clear hb
      dsimp only
      by_cases hs : cks N x = 0
      · rw [hs]
        have HE3 := Lib.hid (HE2.out.trans (if_pos hs))
        clear HE2 hs HSx
        repeat' (first | ((with_reducible show Oper.wp _ _ _ _ _ _); (first | (with_reducible refine is_ld 40 _ rfl ?_; (first | refine ld_pl 0 HB rfl _ rfl rfl ?_ | refine ld_pl 1 HB rfl _ rfl rfl ?_ | refine ld_pl 2 HB rfl _ rfl rfl ?_ | refine ld_pl 3 HB rfl _ rfl rfl ?_ | refine ld_pl 4 HB rfl _ rfl rfl ?_ | refine ld_pl 5 HB rfl _ rfl rfl ?_)) | (with_reducible refine is_ld 32 _ rfl ?_; (first | refine ld_va 0 HB rfl _ rfl rfl ?_ | refine ld_va 1 HB rfl _ rfl rfl ?_ | refine ld_va 2 HB rfl _ rfl rfl ?_ | refine ld_va 3 HB rfl _ rfl rfl ?_ | refine ld_va 4 HB rfl _ rfl rfl ?_ | refine ld_va 5 HB rfl _ rfl rfl ?_)) | (with_reducible refine is_ld 28 _ rfl ?_; (first | refine ld_en 0 HB rfl _ rfl rfl ?_ | refine ld_en 1 HB rfl _ rfl rfl ?_ | refine ld_en 2 HB rfl _ rfl rfl ?_ | refine ld_en 3 HB rfl _ rfl rfl ?_ | refine ld_en 4 HB rfl _ rfl rfl ?_ | refine ld_en 5 HB rfl _ rfl rfl ?_)) | (with_reducible refine is_ld 44 _ rfl ?_; (first | refine ld_sl 0 HB rfl _ rfl rfl ?_ | refine ld_sl 1 HB rfl _ rfl rfl ?_ | refine ld_sl 2 HB rfl _ rfl rfl ?_ | refine ld_sl 3 HB rfl _ rfl rfl ?_ | refine ld_sl 4 HB rfl _ rfl rfl ?_ | refine ld_sl 5 HB rfl _ rfl rfl ?_))); go_simp) | ((with_reducible show Oper.wp _ _ _ _ _ _); (first | (with_reducible refine is_ld 3 _ rfl ?_; (first | refine lf_int 0 HB rfl _ rfl rfl rfl ?_ | refine lf_int 1 HB rfl _ rfl rfl rfl ?_ | refine lf_int 2 HB rfl _ rfl rfl rfl ?_ | refine lf_int 3 HB rfl _ rfl rfl rfl ?_ | refine lf_int 4 HB rfl _ rfl rfl rfl ?_ | refine lf_int 5 HB rfl _ rfl rfl rfl ?_)) | (with_reducible refine is_ld 25 _ rfl ?_; (first | refine lf_ss 0 HB rfl _ rfl rfl rfl ?_ | refine lf_ss 1 HB rfl _ rfl rfl rfl ?_ | refine lf_ss 2 HB rfl _ rfl rfl rfl ?_ | refine lf_ss 3 HB rfl _ rfl rfl rfl ?_ | refine lf_ss 4 HB rfl _ rfl rfl rfl ?_ | refine lf_ss 5 HB rfl _ rfl rfl rfl ?_)) | (with_reducible refine is_ld 26 _ rfl ?_; (first | refine lf_es 0 HB rfl _ rfl rfl rfl ?_ | refine lf_es 1 HB rfl _ rfl rfl rfl ?_ | refine lf_es 2 HB rfl _ rfl rfl rfl ?_ | refine lf_es 3 HB rfl _ rfl rfl rfl ?_ | refine lf_es 4 HB rfl _ rfl rfl rfl ?_ | refine lf_es 5 HB rfl _ rfl rfl rfl ?_))); go_simp) | go_values | go_skip | go_guarded | go_step | go_upon)
        have HK0 := Lib.hid (HB.out.get (i := 1) rfl)
        have HKs := Lib.hid (HB.out.get (i := 0) rfl)
        obtain ⟨W0, hW⟩ : ∃ W0, W0 = W1 := ⟨_, rfl⟩
        subst hW
        rcases Nat.eq_zero_or_pos k with hk | hk
        · subst hk
          refine wp_region_phases (S := (fun _ W => Below W0.heap.size W0 W)) (E := (fun W W' => Below W.heap.size W W')) [] [(0, Is (.agg (enc N (.slice (some q) n c) (.slice none 0 cn)).toArray)), (1, Is (.pointer (some ⟨g0, 0, none⟩))), (4, Is (.pointer (some ⟨g1, 0, none⟩))), (3, Is (.int .i64 (0 : Nat))), (32, Is (.int .i64 (0 : Nat))), (6, Is (undef)), (7, Is (undef)), (8, Is (undef)), (60, Is (undef)), (61, Is (undef)), (62, Is (undef)), (63, Is (undef)), (64, Is (undef)), (65, Is (undef)), (66, Is (undef)), (67, Is (undef)), (68, Is (undef)), (69, Is (undef)), (70, Is (undef)), (71, Is (undef)), (72, Is (undef)), (9, Is (.bool false)), (12, Is (.bool false)), (13, Is (.bool false)), (16, Is (.bool false)), (17, Is (.bool false)), (18, Is (.bool false)), (22, Is (.bool false)), (23, Is (.bool false)), (27, Is (.bool false)), (28, Is (.bool false)), (10, Is (.pointer (some ⟨g0, 0, none⟩))), (14, Is (.pointer (some ⟨g0, 0, none⟩))), (11, Is (.int .i64 N)), (15, Is (.int .i64 N)), (19, Is (.pointer (some ⟨g0, 1, none⟩))), (29, Is (.pointer (some ⟨g0, 1, none⟩))), (24, Is (.pointer (some ⟨g0, 2, none⟩))), (20, Is (.slice (some q) n c)), (30, Is (.slice (some q) n c)), (21, Is (.int .i64 n)), (31, Is (.int .i64 n)), (25, Is (.slice none 0 cn)), (26, Is (.int .i64 0))] [(44, Is (.int .i64 (0 : Nat))), (45, Is (.bool false)), (46, Is (.bool false)), (47, Is (undef)), (48, Is (undef)), (49, Is (undef)), (50, Is (undef)), (51, Is (undef)), (52, Is (undef)), (53, Is (undef)), (54, Is (undef)), (55, Is (undef)), (56, Is (undef)), (57, Is (undef)), (58, Is (.bool false))]
            [.op [3] none, .op [44] none, .op [45] none, .op [1, 46] (some (46, true)), .op [47, 46] (some (46, true)), .op [3, 46] (some (46, true)), .op [49, 46] (some (46, true)), .op [48, 50, 46] (some (46, true)), .op [51, 46] (some (46, true)), .op [52, 46] (some (46, true)), .op [4, 46] (some (46, true)), .op [54, 46] (some (46, true)), .op [53, 55, 46] (some (46, true)), .op [56, 46] (some (46, true)), .op [46, 57] none] (by as_aux_lemma => kernel_rfl) ?_ ?_ ?_ ?_ ?_ ⟨stable_is _ _, stable_is _ _, stable_is _ _, stable_is _ _, stable_is _ _, stable_is _ _, stable_is _ _, stable_is _ _, stable_is _ _, stable_is _ _, stable_is _ _, stable_is _ _, stable_is _ _, stable_is _ _, stable_is _ _, stable_is _ _, stable_is _ _, stable_is _ _, stable_is _ _, stable_is _ _, stable_is _ _, stable_is _ _, stable_is _ _, stable_is _ _, stable_is _ _, stable_is _ _, stable_is _ _, stable_is _ _, stable_is _ _, stable_is _ _, stable_is _ _, stable_is _ _, stable_is _ _, stable_is _ _, stable_is _ _, stable_is _ _, stable_is _ _, stable_is _ _, stable_is _ _, stable_is _ _, stable_is _ _, stable_is _ _, stable_is _ _, stable_is _ _, stable_is _ _, stable_is _ _, stable_is _ _, stable_is _ _, stable_is _ _, stable_is _ _, stable_is _ _, stable_is _ _, stable_is _ _, stable_is _ _, stable_is _ _, stable_is _ _, stable_is _ _, stable_is _ _, stable_is _ _, trivial⟩ ?_ (Below.refl _ _).drew ?_ ?_
          · as_aux_lemma => kernel_rfl
          · as_aux_lemma => kernel_rfl
          · as_aux_lemma => kernel_rfl
          · as_aux_lemma => kernel_rfl
          · as_aux_lemma => kernel_rfl
          · exact ⟨rfl, rfl, rfl, rfl, rfl, rfl, rfl, rfl, rfl, rfl, rfl, rfl, rfl, rfl, rfl, rfl, rfl, rfl, rfl, rfl, rfl, rfl, rfl, rfl, rfl, rfl, rfl, rfl, rfl, rfl, rfl, rfl, rfl, rfl, rfl, rfl, rfl, rfl, rfl, rfl, rfl, rfl, rfl, rfl, trivial⟩
          · refine ⟨?_, ?_, ?_, ?_, ?_, ?_, ?_, ?_, ?_, ?_, ?_, ?_, ?_, ?_, ?_, trivial⟩
            · as_aux_lemma =>
                intro vals a W hS hL
                have e3 : a.tmps.getD 3 undef = .int .i64 (0 : Nat) := hL.1
                clear hL
                go_simp
                exact ⟨⟨fun d hd => by injection hd with hd; subst hd; rfl, fun h => by cases h⟩, hS, (Below.refl _ _)⟩
            · as_aux_lemma =>
                intro vals a W hS hL
                have e44 : a.tmps.getD 44 undef = .int .i64 (0 : Nat) := hL.1
                clear hL
                go_simp
                exact ⟨⟨fun d hd => by injection hd with hd; subst hd; rfl, fun h => by cases h⟩, hS, (Below.refl _ _)⟩
            · as_aux_lemma =>
                intro vals a W hS hL
                have e45 : a.tmps.getD 45 undef = .bool false := hL.1
                clear hL
                go_simp
                exact ⟨⟨fun d hd => by injection hd with hd; subst hd; rfl, fun h => by cases h⟩, hS, (Below.refl _ _)⟩
            · as_aux_lemma =>
                intro vals a W hS hL
                have e1 : a.tmps.getD 1 undef = .pointer (some ⟨g0, 0, none⟩) := hL.1
                have e46 : a.tmps.getD 46 undef = .bool false := hL.2.1
                clear hL
                refine ⟨false, e46, ?_⟩
                rw [if_neg (by decide)]
                exact ⟨⟨fun d hd => by injection hd with hd; subst hd; rfl, fun h => by cases h⟩, (Below.refl _ _)⟩
            · as_aux_lemma =>
                intro vals a W hS hL
                have e47 : a.tmps.getD 47 undef = undef := hL.1
                have e46 : a.tmps.getD 46 undef = .bool false := hL.2.1
                clear hL
                refine ⟨false, e46, ?_⟩
                rw [if_neg (by decide)]
                exact ⟨⟨fun d hd => by injection hd with hd; subst hd; rfl, fun h => by cases h⟩, (Below.refl _ _)⟩
            · as_aux_lemma =>
                intro vals a W hS hL
                have e3 : a.tmps.getD 3 undef = .int .i64 (0 : Nat) := hL.1
                have e46 : a.tmps.getD 46 undef = .bool false := hL.2.1
                clear hL
                refine ⟨false, e46, ?_⟩
                rw [if_neg (by decide)]
                exact ⟨⟨fun d hd => by injection hd with hd; subst hd; rfl, fun h => by cases h⟩, (Below.refl _ _)⟩
            · as_aux_lemma =>
                intro vals a W hS hL
                have e49 : a.tmps.getD 49 undef = undef := hL.1
                have e46 : a.tmps.getD 46 undef = .bool false := hL.2.1
                clear hL
                refine ⟨false, e46, ?_⟩
                rw [if_neg (by decide)]
                exact ⟨⟨fun d hd => by injection hd with hd; subst hd; rfl, fun h => by cases h⟩, (Below.refl _ _)⟩
            · as_aux_lemma =>
                intro vals a W hS hL
                have e48 : a.tmps.getD 48 undef = undef := hL.1
                have e50 : a.tmps.getD 50 undef = undef := hL.2.1
                have e46 : a.tmps.getD 46 undef = .bool false := hL.2.2.1
                clear hL
                refine ⟨false, e46, ?_⟩
                rw [if_neg (by decide)]
                exact ⟨⟨fun d hd => by injection hd with hd; subst hd; rfl, fun h => by cases h⟩, (Below.refl _ _)⟩
            · as_aux_lemma =>
                intro vals a W hS hL
                have e51 : a.tmps.getD 51 undef = undef := hL.1
                have e46 : a.tmps.getD 46 undef = .bool false := hL.2.1
                clear hL
                refine ⟨false, e46, ?_⟩
                rw [if_neg (by decide)]
                exact ⟨⟨fun d hd => by injection hd with hd; subst hd; rfl, fun h => by cases h⟩, (Below.refl _ _)⟩
            · as_aux_lemma =>
                intro vals a W hS hL
                have e52 : a.tmps.getD 52 undef = undef := hL.1
                have e46 : a.tmps.getD 46 undef = .bool false := hL.2.1
                clear hL
                refine ⟨false, e46, ?_⟩
                rw [if_neg (by decide)]
                exact ⟨⟨fun d hd => by injection hd with hd; subst hd; rfl, fun h => by cases h⟩, (Below.refl _ _)⟩
            · as_aux_lemma =>
                intro vals a W hS hL
                have e4 : a.tmps.getD 4 undef = .pointer (some ⟨g1, 0, none⟩) := hL.1
                have e46 : a.tmps.getD 46 undef = .bool false := hL.2.1
                clear hL
                refine ⟨false, e46, ?_⟩
                rw [if_neg (by decide)]
                exact ⟨⟨fun d hd => by injection hd with hd; subst hd; rfl, fun h => by cases h⟩, (Below.refl _ _)⟩
            · as_aux_lemma =>
                intro vals a W hS hL
                have e54 : a.tmps.getD 54 undef = undef := hL.1
                have e46 : a.tmps.getD 46 undef = .bool false := hL.2.1
                clear hL
                refine ⟨false, e46, ?_⟩
                rw [if_neg (by decide)]
                exact ⟨⟨fun d hd => by injection hd with hd; subst hd; rfl, fun h => by cases h⟩, (Below.refl _ _)⟩
            · as_aux_lemma =>
                intro vals a W hS hL
                have e53 : a.tmps.getD 53 undef = undef := hL.1
                have e55 : a.tmps.getD 55 undef = undef := hL.2.1
                have e46 : a.tmps.getD 46 undef = .bool false := hL.2.2.1
                clear hL
                refine ⟨false, e46, ?_⟩
                rw [if_neg (by decide)]
                exact ⟨⟨fun d hd => by injection hd with hd; subst hd; rfl, fun h => by cases h⟩, (Below.refl _ _)⟩
            · as_aux_lemma =>
                intro vals a W hS hL
                have e56 : a.tmps.getD 56 undef = undef := hL.1
                have e46 : a.tmps.getD 46 undef = .bool false := hL.2.1
                clear hL
                refine ⟨false, e46, ?_⟩
                rw [if_neg (by decide)]
                exact ⟨⟨fun d hd => by injection hd with hd; subst hd; rfl, fun h => by cases h⟩, (Below.refl _ _)⟩
            · as_aux_lemma =>
                intro vals a W hS hL
                have e46 : a.tmps.getD 46 undef = .bool false := hL.1
                have e57 : a.tmps.getD 57 undef = undef := hL.2.1
                clear hL
                go_simp
                exact ⟨⟨fun d hd => by injection hd with hd; subst hd; rfl, fun h => by cases h⟩, hS, (Below.refl _ _)⟩
          · intro a W vals hd hsz hT hF hv hP hS
            obtain rfl : vals = [] := List.eq_nil_of_length_eq_zero hv
            have e58 : a.tmps.getD 58 undef = .bool false := hT 58 (by simp)
            have e0 : a.tmps.getD 0 undef = .agg (enc N (.slice (some q) n c) (.slice none 0 cn)).toArray := hT 0 (by simp)
            have e1 : a.tmps.getD 1 undef = .pointer (some ⟨g0, 0, none⟩) := hT 1 (by simp)
            have e3 : a.tmps.getD 3 undef = .int .i64 (0 : Nat) := hT 3 (by simp)
            have e4 : a.tmps.getD 4 undef = .pointer (some ⟨g1, 0, none⟩) := hT 4 (by simp)
            have e6 : a.tmps.getD 6 undef = undef := hT 6 (by simp)
            have e7 : a.tmps.getD 7 undef = undef := hT 7 (by simp)
            have e8 : a.tmps.getD 8 undef = undef := hT 8 (by simp)
            have e9 : a.tmps.getD 9 undef = .bool false := hT 9 (by simp)
            have e10 : a.tmps.getD 10 undef = .pointer (some ⟨g0, 0, none⟩) := hT 10 (by simp)
            have e11 : a.tmps.getD 11 undef = .int .i64 N := hT 11 (by simp)
            have e12 : a.tmps.getD 12 undef = .bool false := hT 12 (by simp)
            have e13 : a.tmps.getD 13 undef = .bool false := hT 13 (by simp)
            have e14 : a.tmps.getD 14 undef = .pointer (some ⟨g0, 0, none⟩) := hT 14 (by simp)
            have e15 : a.tmps.getD 15 undef = .int .i64 N := hT 15 (by simp)
            have e16 : a.tmps.getD 16 undef = .bool false := hT 16 (by simp)
            have e17 : a.tmps.getD 17 undef = .bool false := hT 17 (by simp)
            have e18 : a.tmps.getD 18 undef = .bool false := hT 18 (by simp)
            have e19 : a.tmps.getD 19 undef = .pointer (some ⟨g0, 1, none⟩) := hT 19 (by simp)
            have e20 : a.tmps.getD 20 undef = .slice (some q) n c := hT 20 (by simp)
            have e21 : a.tmps.getD 21 undef = .int .i64 n := hT 21 (by simp)
            have e22 : a.tmps.getD 22 undef = .bool false := hT 22 (by simp)
            have e23 : a.tmps.getD 23 undef = .bool false := hT 23 (by simp)
            have e24 : a.tmps.getD 24 undef = .pointer (some ⟨g0, 2, none⟩) := hT 24 (by simp)
            have e25 : a.tmps.getD 25 undef = .slice none 0 cn := hT 25 (by simp)
            have e26 : a.tmps.getD 26 undef = .int .i64 0 := hT 26 (by simp)
            have e27 : a.tmps.getD 27 undef = .bool false := hT 27 (by simp)
            have e28 : a.tmps.getD 28 undef = .bool false := hT 28 (by simp)
            have e29 : a.tmps.getD 29 undef = .pointer (some ⟨g0, 1, none⟩) := hT 29 (by simp)
            have e30 : a.tmps.getD 30 undef = .slice (some q) n c := hT 30 (by simp)
            have e31 : a.tmps.getD 31 undef = .int .i64 n := hT 31 (by simp)
            have e32 : a.tmps.getD 32 undef = .int .i64 (0 : Nat) := hT 32 (by simp)
            have e60 : a.tmps.getD 60 undef = undef := hT 60 (by simp)
            have e61 : a.tmps.getD 61 undef = undef := hT 61 (by simp)
            have e62 : a.tmps.getD 62 undef = undef := hT 62 (by simp)
            have e63 : a.tmps.getD 63 undef = undef := hT 63 (by simp)
            have e64 : a.tmps.getD 64 undef = undef := hT 64 (by simp)
            have e65 : a.tmps.getD 65 undef = undef := hT 65 (by simp)
            have e66 : a.tmps.getD 66 undef = undef := hT 66 (by simp)
            have e67 : a.tmps.getD 67 undef = undef := hT 67 (by simp)
            have e68 : a.tmps.getD 68 undef = undef := hT 68 (by simp)
            have e69 : a.tmps.getD 69 undef = undef := hT 69 (by simp)
            have e70 : a.tmps.getD 70 undef = undef := hT 70 (by simp)
            have e71 : a.tmps.getD 71 undef = undef := hT 71 (by simp)
            have e72 : a.tmps.getD 72 undef = undef := hT 72 (by simp)
            clear hT hF hP
            rw [act_lit 73 a hd hsz]
            simp only [List.range, List.range.loop, List.map, e58, e0, e1, e3, e4, e6, e7, e8, e9, e10, e11, e12, e13, e14, e15, e16, e17, e18, e19, e20, e21, e22, e23, e24, e25, e26, e27, e28, e29, e30, e31, e32, e60, e61, e62, e63, e64, e65, e66, e67, e68, e69, e70, e71, e72]
            clear e58 e0 e1 e3 e4 e6 e7 e8 e9 e10 e11 e12 e13 e14 e15 e16 e17 e18 e19 e20 e21 e22 e23 e24 e25 e26 e27 e28 e29 e30 e31 e32 e60 e61 e62 e63 e64 e65 e66 e67 e68 e69 e70 e71 e72 hsz hd
            have HE4 := Lib.hid (HE3.out.trans (if_pos rfl))
            replace HB := Lib.hid ((HB.out.call hS).some_ (List.sublist_cons_self ..))
            repeat' (first | go_values | go_skip | go_guarded | go_step | go_upon)
            go_roundw
            case rel => exact ⟨1, rfl, by omega, HE4, HB⟩
            case measure => simp [intOf]; omega
        · obtain ⟨m, rfl⟩ : ∃ m, k = m + 1 := ⟨k - 1, by omega⟩
          obtain ⟨y, hy⟩ : ∃ y, L[m]? = some y := ⟨_, List.getElem?_eq_getElem (by rw [← HN.out]; omega)⟩
          obtain ⟨q', hq', hqy⟩ := rd_row HR.out (Nat.le_refl _) hy
          injection hq' with hq'
          subst hq'
          have HCy := Lib.hid (fun W' (hb : Below W0.heap.size W0 W') => hqy W' (HB.out.bel.trans (hb.mono HB.out.bel.size)))
          have HY := Lib.hid (show pvB L (m + 1) = some y by rw [pv_s, hy])
          clear hqy hy hk
          refine wp_region_phases (S := (fun _ W => Below W0.heap.size W0 W)) (E := (fun W W' => Below W.heap.size W W')) [] [(0, Is (.agg (enc N (.slice (some q) n c) (.slice none 0 cn)).toArray)), (1, Is (.pointer (some ⟨g0, 0, none⟩))), (4, Is (.pointer (some ⟨g1, 0, none⟩))), (3, Is (.int .i64 ((m : Int) + 1))), (32, Is (.int .i64 ((m : Int) + 1))), (6, Is (undef)), (7, Is (undef)), (8, Is (undef)), (60, Is (undef)), (61, Is (undef)), (62, Is (undef)), (63, Is (undef)), (64, Is (undef)), (65, Is (undef)), (66, Is (undef)), (67, Is (undef)), (68, Is (undef)), (69, Is (undef)), (70, Is (undef)), (71, Is (undef)), (72, Is (undef)), (9, Is (.bool false)), (12, Is (.bool false)), (13, Is (.bool false)), (16, Is (.bool false)), (17, Is (.bool false)), (18, Is (.bool false)), (22, Is (.bool false)), (23, Is (.bool false)), (27, Is (.bool false)), (28, Is (.bool false)), (10, Is (.pointer (some ⟨g0, 0, none⟩))), (14, Is (.pointer (some ⟨g0, 0, none⟩))), (11, Is (.int .i64 N)), (15, Is (.int .i64 N)), (19, Is (.pointer (some ⟨g0, 1, none⟩))), (29, Is (.pointer (some ⟨g0, 1, none⟩))), (24, Is (.pointer (some ⟨g0, 2, none⟩))), (20, Is (.slice (some q) n c)), (30, Is (.slice (some q) n c)), (21, Is (.int .i64 n)), (31, Is (.int .i64 n)), (25, Is (.slice none 0 cn)), (26, Is (.int .i64 0))] [(44, Is (.int .i64 ((m : Int) + 1))), (45, Is (.bool true)), (46, Is (.bool true)), (47, Is (.pointer (some ⟨g0, 1, none⟩))), (48, Is (.slice (some q) n c)), (49, Is (.int .i64 ((m : Int) + 1))), (50, Is (.int .i64 (m : Nat))), (51, Is (.pointer (some (q.add (m * 9))))), (52, Is (.pointer (some (q.add (m * 9))))), (53, Is (.agg (plc y.p).toArray)), (54, Is (.pointer (some ⟨g1, 0, none⟩))), (55, Is (.agg (plc x.p).toArray)), (56, Is (.bool (lsP y.p x.p))), (57, Is (.bool (!lsP y.p x.p))), (58, Is (.bool (!lsP y.p x.p)))]
            [.op [3] none, .op [44] none, .op [45] none, .op [1, 46] (some (46, true)), .op [47, 46] (some (46, true)), .op [3, 46] (some (46, true)), .op [49, 46] (some (46, true)), .op [48, 50, 46] (some (46, true)), .op [51, 46] (some (46, true)), .op [52, 46] (some (46, true)), .op [4, 46] (some (46, true)), .op [54, 46] (some (46, true)), .op [53, 55, 46] (some (46, true)), .op [56, 46] (some (46, true)), .op [46, 57] none] (by as_aux_lemma => kernel_rfl) ?_ ?_ ?_ ?_ ?_ ⟨stable_is _ _, stable_is _ _, stable_is _ _, stable_is _ _, stable_is _ _, stable_is _ _, stable_is _ _, stable_is _ _, stable_is _ _, stable_is _ _, stable_is _ _, stable_is _ _, stable_is _ _, stable_is _ _, stable_is _ _, stable_is _ _, stable_is _ _, stable_is _ _, stable_is _ _, stable_is _ _, stable_is _ _, stable_is _ _, stable_is _ _, stable_is _ _, stable_is _ _, stable_is _ _, stable_is _ _, stable_is _ _, stable_is _ _, stable_is _ _, stable_is _ _, stable_is _ _, stable_is _ _, stable_is _ _, stable_is _ _, stable_is _ _, stable_is _ _, stable_is _ _, stable_is _ _, stable_is _ _, stable_is _ _, stable_is _ _, stable_is _ _, stable_is _ _, stable_is _ _, stable_is _ _, stable_is _ _, stable_is _ _, stable_is _ _, stable_is _ _, stable_is _ _, stable_is _ _, stable_is _ _, stable_is _ _, stable_is _ _, stable_is _ _, stable_is _ _, stable_is _ _, stable_is _ _, trivial⟩ ?_ (Below.refl _ _).drew ?_ ?_
          · as_aux_lemma => kernel_rfl
          · as_aux_lemma => kernel_rfl
          · as_aux_lemma => kernel_rfl
          · as_aux_lemma => kernel_rfl
          · as_aux_lemma => kernel_rfl
          · exact ⟨rfl, rfl, rfl, rfl, rfl, rfl, rfl, rfl, rfl, rfl, rfl, rfl, rfl, rfl, rfl, rfl, rfl, rfl, rfl, rfl, rfl, rfl, rfl, rfl, rfl, rfl, rfl, rfl, rfl, rfl, rfl, rfl, rfl, rfl, rfl, rfl, rfl, rfl, rfl, rfl, rfl, rfl, rfl, rfl, trivial⟩
          · refine ⟨?_, ?_, ?_, ?_, ?_, ?_, ?_, ?_, ?_, ?_, ?_, ?_, ?_, ?_, ?_, trivial⟩
            · as_aux_lemma =>
                intro vals a W hS hL
                have e3 : a.tmps.getD 3 undef = .int .i64 ((m : Int) + 1) := hL.1
                clear hL
                go_simp
                exact ⟨⟨fun d hd => by injection hd with hd; subst hd; rfl, fun h => by cases h⟩, hS, (Below.refl _ _)⟩
            · as_aux_lemma =>
                intro vals a W hS hL
                have e44 : a.tmps.getD 44 undef = .int .i64 ((m : Int) + 1) := hL.1
                clear hL
                go_simp
                exact ⟨⟨fun d hd => by injection hd with hd; subst hd; rfl, fun h => by cases h⟩, hS, (Below.refl _ _)⟩
            · as_aux_lemma =>
                intro vals a W hS hL
                have e45 : a.tmps.getD 45 undef = .bool true := hL.1
                clear hL
                go_simp
                exact ⟨⟨fun d hd => by injection hd with hd; subst hd; rfl, fun h => by cases h⟩, hS, (Below.refl _ _)⟩
            · as_aux_lemma =>
                intro vals a W hS hL
                have e1 : a.tmps.getD 1 undef = .pointer (some ⟨g0, 0, none⟩) := hL.1
                have e46 : a.tmps.getD 46 undef = .bool true := hL.2.1
                clear hL
                refine ⟨true, e46, ?_⟩
                rw [if_pos rfl]
                go_simp
                exact ⟨⟨fun d hd => by injection hd with hd; subst hd; rfl, fun h => by cases h⟩, hS, (Below.refl _ _)⟩
            · as_aux_lemma =>
                intro vals a W hS hL
                have e47 : a.tmps.getD 47 undef = .pointer (some ⟨g0, 1, none⟩) := hL.1
                have e46 : a.tmps.getD 46 undef = .bool true := hL.2.1
                clear hL
                refine ⟨true, e46, ?_⟩
                rw [if_pos rfl]
                refine lands_vB (run_lds (HK0.out.below hS HK0.out.lt) rfl (.tmp 47) rfl e47) ?_
                exact ⟨⟨fun d hd => by injection hd with hd; subst hd; rfl, fun h => by cases h⟩, hS, Below.refl _ _⟩
            · as_aux_lemma =>
                intro vals a W hS hL
                have e3 : a.tmps.getD 3 undef = .int .i64 ((m : Int) + 1) := hL.1
                have e46 : a.tmps.getD 46 undef = .bool true := hL.2.1
                clear hL
                refine ⟨true, e46, ?_⟩
                rw [if_pos rfl]
                go_simp
                exact ⟨⟨fun d hd => by injection hd with hd; subst hd; rfl, fun h => by cases h⟩, hS, (Below.refl _ _)⟩
            · as_aux_lemma =>
                intro vals a W hS hL
                have e49 : a.tmps.getD 49 undef = .int .i64 ((m : Int) + 1) := hL.1
                have e46 : a.tmps.getD 46 undef = .bool true := hL.2.1
                clear hL
                refine ⟨true, e46, ?_⟩
                rw [if_pos rfl]
                have hw : IntKind.i64.wrap (m : Int) = m := IntWalk.i64_in _ (by omega)
                go_simp
                exact ⟨⟨fun d hd => by injection hd with hd; subst hd; rfl, fun h => by cases h⟩, hS, (Below.refl _ _)⟩
            · as_aux_lemma =>
                intro vals a W hS hL
                have e48 : a.tmps.getD 48 undef = .slice (some q) n c := hL.1
                have e50 : a.tmps.getD 50 undef = .int .i64 (m : Nat) := hL.2.1
                have e46 : a.tmps.getD 46 undef = .bool true := hL.2.2.1
                clear hL
                refine ⟨true, e46, ?_⟩
                rw [if_pos rfl]
                have hmn : m < n := by omega
                go_simp
                exact ⟨⟨fun d hd => by injection hd with hd; subst hd; rfl, fun h => by cases h⟩, hS, (Below.refl _ _)⟩
            · as_aux_lemma =>
                intro vals a W hS hL
                have e51 : a.tmps.getD 51 undef = .pointer (some (q.add (m * 9))) := hL.1
                have e46 : a.tmps.getD 46 undef = .bool true := hL.2.1
                clear hL
                refine ⟨true, e46, ?_⟩
                rw [if_pos rfl]
                go_simp
                exact ⟨⟨fun d hd => by injection hd with hd; subst hd; rfl, fun h => by cases h⟩, hS, (Below.refl _ _)⟩
            · as_aux_lemma =>
                intro vals a W hS hL
                have e52 : a.tmps.getD 52 undef = .pointer (some (q.add (m * 9))) := hL.1
                have e46 : a.tmps.getD 46 undef = .bool true := hL.2.1
                clear hL
                refine ⟨true, e46, ?_⟩
                rw [if_pos rfl]
                refine lands_vB (run_ldmB (cs := plc y.p) rtPl (fun j u hj => ?_) (.tmp 52) rfl e52) ?_
                · exact HCy.out _ hS j u (by have := sl_p y j u hj; rwa [Nat.zero_add] at this)
                exact ⟨⟨fun d hd => by injection hd with hd; subst hd; rfl, fun h => by cases h⟩, hS, Below.refl _ _⟩
            · as_aux_lemma =>
                intro vals a W hS hL
                have e4 : a.tmps.getD 4 undef = .pointer (some ⟨g1, 0, none⟩) := hL.1
                have e46 : a.tmps.getD 46 undef = .bool true := hL.2.1
                clear hL
                refine ⟨true, e46, ?_⟩
                rw [if_pos rfl]
                go_simp
                exact ⟨⟨fun d hd => by injection hd with hd; subst hd; rfl, fun h => by cases h⟩, hS, (Below.refl _ _)⟩
            · as_aux_lemma =>
                intro vals a W hS hL
                have e54 : a.tmps.getD 54 undef = .pointer (some ⟨g1, 0, none⟩) := hL.1
                have e46 : a.tmps.getD 46 undef = .bool true := hL.2.1
                clear hL
                refine ⟨true, e46, ?_⟩
                rw [if_pos rfl]
                refine lands_vB (run_ldmB (cs := plc x.p) rtPl (fun j u hj => ?_) (.tmp 54) rfl e54) ?_
                · rw [add_lit, (HKs.out.below hS HKs.out.lt).cell]; exact (by simpa using sl_p x j u hj)
                exact ⟨⟨fun d hd => by injection hd with hd; subst hd; rfl, fun h => by cases h⟩, hS, Below.refl _ _⟩
            · as_aux_lemma =>
                intro vals a W hS hL
                have e53 : a.tmps.getD 53 undef = .agg (plc y.p).toArray := hL.1
                have e55 : a.tmps.getD 55 undef = .agg (plc x.p).toArray := hL.2.1
                have e46 : a.tmps.getD 46 undef = .bool true := hL.2.2.1
                clear hL
                refine ⟨true, e46, ?_⟩
                rw [if_pos rfl]
                rw [Array.getD_eq_getD_getElem?] at e53 e55
                go_simp
                refine (ls_any y.p x.p).mono ?_
                rintro e W2 ⟨rfl, hb⟩
                exact ⟨_, rfl, ⟨fun d hd => by injection hd with hd; subst hd; rfl, fun h => by cases h⟩, hS.trans (hb.mono hS.size), hb⟩
            · as_aux_lemma =>
                intro vals a W hS hL
                have e56 : a.tmps.getD 56 undef = .bool (lsP y.p x.p) := hL.1
                have e46 : a.tmps.getD 46 undef = .bool true := hL.2.1
                clear hL
                refine ⟨true, e46, ?_⟩
                rw [if_pos rfl]
                go_simp
                exact ⟨⟨fun d hd => by injection hd with hd; subst hd; rfl, fun h => by cases h⟩, hS, (Below.refl _ _)⟩
            · as_aux_lemma =>
                intro vals a W hS hL
                have e46 : a.tmps.getD 46 undef = .bool true := hL.1
                have e57 : a.tmps.getD 57 undef = .bool (!lsP y.p x.p) := hL.2.1
                clear hL
                go_simp
                exact ⟨⟨fun d hd => by injection hd with hd; subst hd; rfl, fun h => by cases h⟩, hS, (Below.refl _ _)⟩
          · intro a W vals hd hsz hT hF hv hP hS
            obtain rfl : vals = [] := List.eq_nil_of_length_eq_zero hv
            have e58 : a.tmps.getD 58 undef = .bool (!lsP y.p x.p) := hT 58 (by simp)
            have e0 : a.tmps.getD 0 undef = .agg (enc N (.slice (some q) n c) (.slice none 0 cn)).toArray := hT 0 (by simp)
            have e1 : a.tmps.getD 1 undef = .pointer (some ⟨g0, 0, none⟩) := hT 1 (by simp)
            have e3 : a.tmps.getD 3 undef = .int .i64 ((m : Int) + 1) := hT 3 (by simp)
            have e4 : a.tmps.getD 4 undef = .pointer (some ⟨g1, 0, none⟩) := hT 4 (by simp)
            have e6 : a.tmps.getD 6 undef = undef := hT 6 (by simp)
            have e7 : a.tmps.getD 7 undef = undef := hT 7 (by simp)
            have e8 : a.tmps.getD 8 undef = undef := hT 8 (by simp)
            have e9 : a.tmps.getD 9 undef = .bool false := hT 9 (by simp)
            have e10 : a.tmps.getD 10 undef = .pointer (some ⟨g0, 0, none⟩) := hT 10 (by simp)
            have e11 : a.tmps.getD 11 undef = .int .i64 N := hT 11 (by simp)
            have e12 : a.tmps.getD 12 undef = .bool false := hT 12 (by simp)
            have e13 : a.tmps.getD 13 undef = .bool false := hT 13 (by simp)
            have e14 : a.tmps.getD 14 undef = .pointer (some ⟨g0, 0, none⟩) := hT 14 (by simp)
            have e15 : a.tmps.getD 15 undef = .int .i64 N := hT 15 (by simp)
            have e16 : a.tmps.getD 16 undef = .bool false := hT 16 (by simp)
            have e17 : a.tmps.getD 17 undef = .bool false := hT 17 (by simp)
            have e18 : a.tmps.getD 18 undef = .bool false := hT 18 (by simp)
            have e19 : a.tmps.getD 19 undef = .pointer (some ⟨g0, 1, none⟩) := hT 19 (by simp)
            have e20 : a.tmps.getD 20 undef = .slice (some q) n c := hT 20 (by simp)
            have e21 : a.tmps.getD 21 undef = .int .i64 n := hT 21 (by simp)
            have e22 : a.tmps.getD 22 undef = .bool false := hT 22 (by simp)
            have e23 : a.tmps.getD 23 undef = .bool false := hT 23 (by simp)
            have e24 : a.tmps.getD 24 undef = .pointer (some ⟨g0, 2, none⟩) := hT 24 (by simp)
            have e25 : a.tmps.getD 25 undef = .slice none 0 cn := hT 25 (by simp)
            have e26 : a.tmps.getD 26 undef = .int .i64 0 := hT 26 (by simp)
            have e27 : a.tmps.getD 27 undef = .bool false := hT 27 (by simp)
            have e28 : a.tmps.getD 28 undef = .bool false := hT 28 (by simp)
            have e29 : a.tmps.getD 29 undef = .pointer (some ⟨g0, 1, none⟩) := hT 29 (by simp)
            have e30 : a.tmps.getD 30 undef = .slice (some q) n c := hT 30 (by simp)
            have e31 : a.tmps.getD 31 undef = .int .i64 n := hT 31 (by simp)
            have e32 : a.tmps.getD 32 undef = .int .i64 ((m : Int) + 1) := hT 32 (by simp)
            have e60 : a.tmps.getD 60 undef = undef := hT 60 (by simp)
            have e61 : a.tmps.getD 61 undef = undef := hT 61 (by simp)
            have e62 : a.tmps.getD 62 undef = undef := hT 62 (by simp)
            have e63 : a.tmps.getD 63 undef = undef := hT 63 (by simp)
            have e64 : a.tmps.getD 64 undef = undef := hT 64 (by simp)
            have e65 : a.tmps.getD 65 undef = undef := hT 65 (by simp)
            have e66 : a.tmps.getD 66 undef = undef := hT 66 (by simp)
            have e67 : a.tmps.getD 67 undef = undef := hT 67 (by simp)
            have e68 : a.tmps.getD 68 undef = undef := hT 68 (by simp)
            have e69 : a.tmps.getD 69 undef = undef := hT 69 (by simp)
            have e70 : a.tmps.getD 70 undef = undef := hT 70 (by simp)
            have e71 : a.tmps.getD 71 undef = undef := hT 71 (by simp)
            have e72 : a.tmps.getD 72 undef = undef := hT 72 (by simp)
            clear hT hF hP
            rw [act_lit 73 a hd hsz]
            simp only [List.range, List.range.loop, List.map, e58, e0, e1, e3, e4, e6, e7, e8, e9, e10, e11, e12, e13, e14, e15, e16, e17, e18, e19, e20, e21, e22, e23, e24, e25, e26, e27, e28, e29, e30, e31, e32, e60, e61, e62, e63, e64, e65, e66, e67, e68, e69, e70, e71, e72]
            clear e58 e0 e1 e3 e4 e6 e7 e8 e9 e10 e11 e12 e13 e14 e15 e16 e17 e18 e19 e20 e21 e22 e23 e24 e25 e26 e27 e28 e29 e30 e31 e32 e60 e61 e62 e63 e64 e65 e66 e67 e68 e69 e70 e71 e72 hsz hd
            have HB3 := Lib.hid (HB.out.call hS)
            clear HB
            rw [HY.out] at HE3
            cases hls : lsP y.p x.p with
            | true =>
              have HE4 := Lib.hid (HE3.out.trans (if_pos (show ck2 (some y) x = true from hls)))
              have HB := Lib.hid (HB3.out.some_ (List.sublist_cons_self ..))
              repeat' (first | go_values | go_skip | go_guarded | go_step | go_upon)
              go_roundw
              case rel => exact ⟨m + 1 + 1, by simp, by omega, HE4, HB⟩
              case measure => simp [intOf]; omega
            | false =>
              have HE4 := Lib.hid (HE3.out.trans (if_neg (show ¬ ck2 (some y) x = true by show ¬ lsP y.p x.p = true; rw [hls]; simp)))
              have HB := HB3
              repeat' (first | go_values | go_skip | go_guarded | go_step | go_upon)
              exact bodyPost_ret (v := .int .i64 6) (by simp [results, Tryd.results11, go_sem]) rfl ⟨by rw [HE4.out], HB.out.bel⟩
      · have HE3 := Lib.hid (HE2.out.trans (if_neg hs))
        have fs : (cks N x != 0) = true := by rw [bne_iff_ne]; exact hs
        clear HE2 hs HSx
        repeat' (first | ((with_reducible show Oper.wp _ _ _ _ _ _); (first | (with_reducible refine is_ld 40 _ rfl ?_; (first | refine ld_pl 0 HB rfl _ rfl rfl ?_ | refine ld_pl 1 HB rfl _ rfl rfl ?_ | refine ld_pl 2 HB rfl _ rfl rfl ?_ | refine ld_pl 3 HB rfl _ rfl rfl ?_ | refine ld_pl 4 HB rfl _ rfl rfl ?_ | refine ld_pl 5 HB rfl _ rfl rfl ?_)) | (with_reducible refine is_ld 32 _ rfl ?_; (first | refine ld_va 0 HB rfl _ rfl rfl ?_ | refine ld_va 1 HB rfl _ rfl rfl ?_ | refine ld_va 2 HB rfl _ rfl rfl ?_ | refine ld_va 3 HB rfl _ rfl rfl ?_ | refine ld_va 4 HB rfl _ rfl rfl ?_ | refine ld_va 5 HB rfl _ rfl rfl ?_)) | (with_reducible refine is_ld 28 _ rfl ?_; (first | refine ld_en 0 HB rfl _ rfl rfl ?_ | refine ld_en 1 HB rfl _ rfl rfl ?_ | refine ld_en 2 HB rfl _ rfl rfl ?_ | refine ld_en 3 HB rfl _ rfl rfl ?_ | refine ld_en 4 HB rfl _ rfl rfl ?_ | refine ld_en 5 HB rfl _ rfl rfl ?_)) | (with_reducible refine is_ld 44 _ rfl ?_; (first | refine ld_sl 0 HB rfl _ rfl rfl ?_ | refine ld_sl 1 HB rfl _ rfl rfl ?_ | refine ld_sl 2 HB rfl _ rfl rfl ?_ | refine ld_sl 3 HB rfl _ rfl rfl ?_ | refine ld_sl 4 HB rfl _ rfl rfl ?_ | refine ld_sl 5 HB rfl _ rfl rfl ?_))); go_simp) | ((with_reducible show Oper.wp _ _ _ _ _ _); (first | (with_reducible refine is_ld 3 _ rfl ?_; (first | refine lf_int 0 HB rfl _ rfl rfl rfl ?_ | refine lf_int 1 HB rfl _ rfl rfl rfl ?_ | refine lf_int 2 HB rfl _ rfl rfl rfl ?_ | refine lf_int 3 HB rfl _ rfl rfl rfl ?_ | refine lf_int 4 HB rfl _ rfl rfl rfl ?_ | refine lf_int 5 HB rfl _ rfl rfl rfl ?_)) | (with_reducible refine is_ld 25 _ rfl ?_; (first | refine lf_ss 0 HB rfl _ rfl rfl rfl ?_ | refine lf_ss 1 HB rfl _ rfl rfl rfl ?_ | refine lf_ss 2 HB rfl _ rfl rfl rfl ?_ | refine lf_ss 3 HB rfl _ rfl rfl rfl ?_ | refine lf_ss 4 HB rfl _ rfl rfl rfl ?_ | refine lf_ss 5 HB rfl _ rfl rfl rfl ?_)) | (with_reducible refine is_ld 26 _ rfl ?_; (first | refine lf_es 0 HB rfl _ rfl rfl rfl ?_ | refine lf_es 1 HB rfl _ rfl rfl rfl ?_ | refine lf_es 2 HB rfl _ rfl rfl rfl ?_ | refine lf_es 3 HB rfl _ rfl rfl rfl ?_ | refine lf_es 4 HB rfl _ rfl rfl rfl ?_ | refine lf_es 5 HB rfl _ rfl rfl rfl ?_))); go_simp) | go_values | go_skip | go_guarded | go_step | go_upon)
        exact bodyPost_ret (v := .int .i64 (cks N x)) (by simp [results, Tryd.results11, go_sem]) rfl ⟨by rw [HE3.out], HB.out.bel⟩
    · obtain rfl : k = n := by omega
      have hlt' : ¬ (k : Int) < (k : Int) := by omega
      have hz : z = 0 := by rw [HE.out, HN.out, List.drop_length]; rfl
      subst hz
      repeat' (first | ((with_reducible show Oper.wp _ _ _ _ _ _); (first | (with_reducible refine is_ld 3 _ rfl ?_; (first | refine lf_int 0 HB rfl _ rfl rfl rfl ?_ | refine lf_int 1 HB rfl _ rfl rfl rfl ?_ | refine lf_int 2 HB rfl _ rfl rfl rfl ?_ | refine lf_int 3 HB rfl _ rfl rfl rfl ?_ | refine lf_int 4 HB rfl _ rfl rfl rfl ?_ | refine lf_int 5 HB rfl _ rfl rfl rfl ?_)) | (with_reducible refine is_ld 25 _ rfl ?_; (first | refine lf_ss 0 HB rfl _ rfl rfl rfl ?_ | refine lf_ss 1 HB rfl _ rfl rfl rfl ?_ | refine lf_ss 2 HB rfl _ rfl rfl rfl ?_ | refine lf_ss 3 HB rfl _ rfl rfl rfl ?_ | refine lf_ss 4 HB rfl _ rfl rfl rfl ?_ | refine lf_ss 5 HB rfl _ rfl rfl rfl ?_)) | (with_reducible refine is_ld 26 _ rfl ?_; (first | refine lf_es 0 HB rfl _ rfl rfl rfl ?_ | refine lf_es 1 HB rfl _ rfl rfl rfl ?_ | refine lf_es 2 HB rfl _ rfl rfl rfl ?_ | refine lf_es 3 HB rfl _ rfl rfl rfl ?_ | refine lf_es 4 HB rfl _ rfl rfl rfl ?_ | refine lf_es 5 HB rfl _ rfl rfl rfl ?_))); go_simp) | go_values | go_skip | go_guarded | go_step | go_upon)
      go_loopw [63] (fun i wr => i = .int .i64 0 ∧ Hid (BX w [(g0, 28, enc N (.slice A k c) (.slice none 0 cn))] wr)) (fun _ _ => 0)
      case atStart => exact ⟨rfl, HB⟩
      case round =>
        obtain ⟨rfl, HB⟩ := hrel
        repeat' (first | go_values | go_skip | go_guarded | go_step | go_upon)
        exact bodyPost_ret (v := .int .i64 0) (by simp [results, Tryd.results11, go_sem]) rfl ⟨rfl, HB.out.bel⟩
end Go.Proofs.YtkjiokepihmpfaaDoor

