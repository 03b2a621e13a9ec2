/- expr.Depth, expr.Count by their contracts. Condition: the formula reads as a tree, which is not too great. -/
import Derived.Test.YtofbmlfpkcociaaDoorMs
set_option linter.unusedVariables false
set_option linter.unusedSimpArgs false
namespace Go.Proofs.YtofbmlfpkcociaaDoor
open Go.RowKit

set_option maxRecDepth 20000 in
set_option maxHeartbeats 1000000 in
theorem depth_any {w : World} {p : Pay} {ks : List Tr} {A : Option Addr} {c : Nat} (h : AtT w p ks A c) (hC : cntT (.mk p ks) ≤ 100000) :
    Calls Tryd.prog 10 #[.agg (ec p (.slice A ks.length c)).toArray] w fun e W => e = .returned (.int .i64 (dpT (.mk p ks) : Nat)) ∧ Below w.heap.size w W := by
  have hD := Nat.le_trans (dp_cntT (.mk p ks)) hC
  have hb1 := bel0 w (.cells (ec p (.slice A ks.length c)).toArray 43)
  have h1 := h.below hb1
  have hk1 := Bk.new w 43 (ec p (.slice A ks.length c)).toArray
  go_enter Tryd.func10, Tryd.ntmps10
  repeat' (first | ((with_reducible show Oper.wp _ _ _ _ _ _); apply ld_p; exact rfl; exact rfl; assumption; go_simp) | go_values | go_skip | go_guarded | go_step | go_upon)
  refine (measure_any h1 9223372036854775807 hC).mono ?_
  rintro e W ⟨d, n, rfl, hd, hb⟩
  dsimp only
  repeat' (first | go_values | go_skip | go_guarded | go_step | go_upon)
  go_ret
  rcases hd with ⟨rfl, rfl⟩ | ⟨h2, h3⟩
  · exact ⟨rfl, hb1.trans (hb.mono hb1.size)⟩
  · omega

set_option maxRecDepth 20000 in
set_option maxHeartbeats 1000000 in
theorem count_any {w : World} {p : Pay} {ks : List Tr} {A : Option Addr} {c : Nat} (h : AtT w p ks A c) (hC : cntT (.mk p ks) ≤ 100000) :
    Calls Tryd.prog 11 #[.agg (ec p (.slice A ks.length c)).toArray] w fun e W => e = .returned (.int .i64 (cntT (.mk p ks) : Nat)) ∧ Below w.heap.size w W := by
  have hD := Nat.le_trans (dp_cntT (.mk p ks)) hC
  have hb1 := bel0 w (.cells (ec p (.slice A ks.length c)).toArray 43)
  have h1 := h.below hb1
  have hk1 := Bk.new w 43 (ec p (.slice A ks.length c)).toArray
  go_enter Tryd.func11, Tryd.ntmps11
  repeat' (first | ((with_reducible show Oper.wp _ _ _ _ _ _); apply ld_p; exact rfl; exact rfl; assumption; go_simp) | go_values | go_skip | go_guarded | go_step | go_upon)
  refine (measure_any h1 9223372036854775807 hC).mono ?_
  rintro e W ⟨d, n, rfl, hd, hb⟩
  dsimp only
  repeat' (first | go_values | go_skip | go_guarded | go_step | go_upon)
  go_ret
  rcases hd with ⟨rfl, rfl⟩ | ⟨h2, h3⟩
  · exact ⟨rfl, hb1.trans (hb.mono hb1.size)⟩
  · omega
end Go.Proofs.YtofbmlfpkcociaaDoor
