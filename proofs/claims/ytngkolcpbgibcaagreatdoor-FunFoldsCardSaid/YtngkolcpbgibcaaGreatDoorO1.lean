/- fun.ofValues by its contract, by what it calls. Condition: what it calls keeps its contract. -/
import Derived.Test.YtngkolcpbgibcaaGreatDoorF6
import Derived.Test.YtngkolcpbgibcaaGreatDoorDr
set_option linter.unusedVariables false
set_option linter.unusedSimpArgs false
namespace Go.Proofs.YtngkolcpbgibcaaGreatDoor
open Go.RowKit
set_option maxRecDepth 20000 in
set_option maxHeartbeats 8000000 in
theorem ofv_28 {w : World} {A : Option Addr} {n c : Nat} :
    Calls Tryz.prog 50 #[.int .i64 28, .slice A n c] w fun e W => e = .returned (.agg (vc (.err 42)).toArray) ∧ Below w.heap.size w W := by
  have HB := Lib.hid (BX.start w); go_enter Tryz.func50, Tryz.ntmps50
  repeat' (first | ((with_reducible show Oper.wp _ _ _ _ _ _); refine al_v HB rfl ?_; clear HB; intro g0 W HB; go_simp) | go_values | go_skip | go_guarded | go_step | go_upon)
  refine (fFault 42).mono ?_; rintro e W1 ⟨rfl, hb⟩; have HB := Lib.hid (HB.out.call hb); clear hb; dsimp only
  repeat' (first | ((with_reducible show Oper.wp _ _ _ _ _ _); refine st_v 0 HB rfl _ _ rfl rfl rfl ?_; clear HB; intro W HB; dsimp only [List.set] at HB; go_simp) | go_values | go_skip | go_guarded | go_step | go_upon)
  exact bodyPost_ret (res_v rfl HB (i := 0) rfl rfl) rfl ⟨rfl, HB.out.bel⟩
end Go.Proofs.YtngkolcpbgibcaaGreatDoor
