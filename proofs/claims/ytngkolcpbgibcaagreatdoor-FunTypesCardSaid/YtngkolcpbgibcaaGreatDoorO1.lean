/- fun.ofValues by its contract, by what it calls. Condition: what it calls keeps its contract. -/
import Derived.Test.YtngkolcpbgibcaaGreatDoorF6
import Derived.Test.YtngkolcpbgibcaaGreatDoorDr
set_option linter.unusedVariables false
set_option linter.unusedSimpArgs false
namespace Go.Proofs.YtngkolcpbgibcaaGreatDoor
open Go.RowKit
set_option maxRecDepth 20000 in
set_option maxHeartbeats 8000000 in
theorem ofv_29 {w : World} {A : Option Addr} {c : Nat} {x r : VX} (h : RowF valF w (· < w.heap.size) A 1 [x])
    (HC : ∀ W, Below w.heap.size w W → Calls Tryz.prog 126 #[.agg (vc x).toArray] W fun e W' => e = .returned (.agg (vc r).toArray) ∧ Below W.heap.size W W') :
    Calls Tryz.prog 50 #[.int .i64 29, .slice A 1 c] w fun e W => e = .returned (.agg (vc r).toArray) ∧ Below w.heap.size w W := by
  have HC := Lib.hid HC; have HB := Lib.hid (BX.start w); obtain ⟨aa, rfl, H0⟩ := valx_at (i := 0) h rfl; have HX0 := Lib.hid H0; clear h H0; go_enter Tryz.func50, Tryz.ntmps50
  repeat' (first | ((with_reducible show Oper.wp _ _ _ _ _ _); (first | (refine al_v HB rfl ?_; clear HB; intro g0 W HB; go_simp) | refine stop_ld (ty := 32) _ rfl ?_)) | go_values | go_skip | go_guarded | go_step | go_upon)
  refine Lib.hid ?_; refine ldm_v x _ rfl rfl (HX0.out _ HB.out.bel) ?_; go_simp
  repeat' (first | go_values | go_skip | go_guarded | go_step | go_upon)
  refine (HC.out _ HB.out.bel).mono ?_; rintro e W1 ⟨rfl, hb⟩; have HB := Lib.hid (HB.out.call hb); clear hb; dsimp only
  repeat' (first | ((with_reducible show Oper.wp _ _ _ _ _ _); refine st_v 0 HB rfl _ _ rfl rfl rfl ?_; clear HB; intro W HB; dsimp only [List.set] at HB; go_simp) | go_values | go_skip | go_guarded | go_step | go_upon)
  exact bodyPost_ret (res_v rfl HB (i := 0) rfl rfl) rfl ⟨rfl, HB.out.bel⟩
set_option maxRecDepth 20000 in
set_option maxHeartbeats 8000000 in
theorem ofv_21 {w : World} {A : Option Addr} {c : Nat} {x : VX} (h : RowF valF w (· < w.heap.size) A 1 [x]) :
    Calls Tryz.prog 50 #[.int .i64 21, .slice A 1 c] w fun e W => e = .returned (.agg (vc (.bool (x.kind == 0))).toArray) ∧ Below w.heap.size w W := by
  have HB := Lib.hid (BX.start w); obtain ⟨aa, rfl, H0⟩ := valx_at (i := 0) h rfl; have HX0 := Lib.hid H0; clear h H0; obtain ⟨bb, hbb⟩ : ∃ bb, (x.kind == 0) = bb := ⟨_, rfl⟩
  rw [hbb]; go_enter Tryz.func50, Tryz.ntmps50
  repeat' (first | ((with_reducible show Oper.wp _ _ _ _ _ _); (first | (refine al_v HB rfl ?_; clear HB; intro g0 W HB; go_simp) | refine stop_ld (ty := 3) _ rfl ?_)) | go_values | go_skip | go_guarded | go_step | go_upon)
  refine Lib.hid ?_; refine lfm_int _ rfl rfl (HX0.out _ HB.out.bel 0 _ (vc_kind x)) ?_; go_simp
  repeat' (first | go_values | go_skip | go_guarded | go_step | go_upon)
  refine (fTruth_any bb).mono ?_; rintro e W1 ⟨rfl, hb⟩; have HB := Lib.hid (HB.out.call hb); clear hb; dsimp only
  repeat' (first | ((with_reducible show Oper.wp _ _ _ _ _ _); refine st_v 0 HB rfl _ _ rfl rfl rfl ?_; clear HB; intro W HB; dsimp only [List.set] at HB; go_simp) | go_values | go_skip | go_guarded | go_step | go_upon)
  exact bodyPost_ret (res_v rfl HB (i := 0) rfl rfl) rfl ⟨rfl, HB.out.bel⟩
set_option maxRecDepth 20000 in
set_option maxHeartbeats 8000000 in
theorem ofv_22 {w : World} {A : Option Addr} {c : Nat} {x : VX} (h : RowF valF w (· < w.heap.size) A 1 [x]) :
    Calls Tryz.prog 50 #[.int .i64 22, .slice A 1 c] w fun e W => e = .returned (.agg (vc (.bool (x.kind == 4))).toArray) ∧ Below w.heap.size w W := by
  have HB := Lib.hid (BX.start w); obtain ⟨aa, rfl, H0⟩ := valx_at (i := 0) h rfl; have HX0 := Lib.hid H0; clear h H0; obtain ⟨bb, hbb⟩ : ∃ bb, (x.kind == 4) = bb := ⟨_, rfl⟩
  rw [hbb]; go_enter Tryz.func50, Tryz.ntmps50
  repeat' (first | ((with_reducible show Oper.wp _ _ _ _ _ _); (first | (refine al_v HB rfl ?_; clear HB; intro g0 W HB; go_simp) | refine stop_ld (ty := 3) _ rfl ?_)) | go_values | go_skip | go_guarded | go_step | go_upon)
  refine Lib.hid ?_; refine lfm_int _ rfl rfl (HX0.out _ HB.out.bel 0 _ (vc_kind x)) ?_; go_simp
  repeat' (first | go_values | go_skip | go_guarded | go_step | go_upon)
  refine (fTruth_any bb).mono ?_; rintro e W1 ⟨rfl, hb⟩; have HB := Lib.hid (HB.out.call hb); clear hb; dsimp only
  repeat' (first | ((with_reducible show Oper.wp _ _ _ _ _ _); refine st_v 0 HB rfl _ _ rfl rfl rfl ?_; clear HB; intro W HB; dsimp only [List.set] at HB; go_simp) | go_values | go_skip | go_guarded | go_step | go_upon)
  exact bodyPost_ret (res_v rfl HB (i := 0) rfl rfl) rfl ⟨rfl, HB.out.bel⟩
set_option maxRecDepth 20000 in
set_option maxHeartbeats 8000000 in
theorem ofv_28 {w : World} {A : Option Addr} {n c : Nat} :
    Calls Tryz.prog 50 #[.int .i64 28, .slice A n c] w fun e W => e = .returned (.agg (vc (.err 42)).toArray) ∧ Below w.heap.size w W := by
  have HB := Lib.hid (BX.start w); go_enter Tryz.func50, Tryz.ntmps50
  repeat' (first | ((with_reducible show Oper.wp _ _ _ _ _ _); refine al_v HB rfl ?_; clear HB; intro g0 W HB; go_simp) | go_values | go_skip | go_guarded | go_step | go_upon)
  refine (fFault 42).mono ?_; rintro e W1 ⟨rfl, hb⟩; have HB := Lib.hid (HB.out.call hb); clear hb; dsimp only
  repeat' (first | ((with_reducible show Oper.wp _ _ _ _ _ _); refine st_v 0 HB rfl _ _ rfl rfl rfl ?_; clear HB; intro W HB; dsimp only [List.set] at HB; go_simp) | go_values | go_skip | go_guarded | go_step | go_upon)
  exact bodyPost_ret (res_v rfl HB (i := 0) rfl rfl) rfl ⟨rfl, HB.out.bel⟩
end Go.Proofs.YtngkolcpbgibcaaGreatDoor
