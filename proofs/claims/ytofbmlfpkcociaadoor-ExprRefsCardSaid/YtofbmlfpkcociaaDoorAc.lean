/- ref.CheckArea by its contract. No condition. -/
import Derived.Test.YtofbmlfpkcociaaDoorGd
set_option linter.unusedVariables false
set_option linter.unusedSimpArgs false
namespace Go.Proofs.YtofbmlfpkcociaaDoor
open Go.RowKit

set_option maxRecDepth 20000 in
set_option maxHeartbeats 2000000 in
theorem checkArea_any {w : World} (r1 c1 r2 c2 : Int) (x1 y1 x2 y2 : Bool) :
    Calls Tryd.prog 39 #[.agg #[.int .i64 r1, .int .i64 c1, .bool x1, .bool y1, .int .i64 r2, .int .i64 c2, .bool x2, .bool y2]] w fun e w' => e = .returned (.int .i64 (ckA r1 c1 r2 c2)) ∧ Below w.heap.size w w' := by
  have H1 := Lib.hid (fun W : World => rcheck_any (w := W) r1 c1 x1 y1)
  have H2 := Lib.hid (fun W : World => rcheck_any (w := W) r2 c2 x2 y2)
  have HB : Hid (SB w 1 ([(w.heap.size, 40, #[.int .i64 r1, .int .i64 c1, .bool x1, .bool y1, .int .i64 r2, .int .i64 c2, .bool x2, .bool y2])] : List (Nat × TypeId × Array Value)) (w.alloc (.cells #[.int .i64 r1, .int .i64 c1, .bool x1, .bool y1, .int .i64 r2, .int .i64 c2, .bool x2, .bool y2] 40))) := Lib.hid (sb1 w 40 #[.int .i64 r1, .int .i64 c1, .bool x1, .bool y1, .int .i64 r2, .int .i64 c2, .bool x2, .bool y2])
  unfold ckA
  rcases ck_cases r1 c1 with ⟨-, h⟩ | ⟨-, h⟩
  · rw [if_pos h]
    rw [h] at H1
    clear h
    generalize ckI r2 c2 = k at *
    go_enter Tryd.func39, Tryd.ntmps39
    go_wp2_with fail
    refine (H1.out _).mono ?_
    rintro e w1 ⟨rfl, hb⟩
    have HB2 := Lib.hid (HB.out.call hb)
    clear HB hb
    have kr := HB2.out.box (i := 0) rfl
    have cr0 := kr.cell 0
    have cr1 := kr.cell 1
    have cr2 := kr.cell 2
    have cr3 := kr.cell 3
    have cr4 := kr.cell 4
    have cr5 := kr.cell 5
    have cr6 := kr.cell 6
    have cr7 := kr.cell 7
    clear kr
    go_wp2_with fail
    refine (H2.out _).mono ?_
    rintro e w2 ⟨rfl, hb⟩
    have hbel := (HB2.out.call hb).bel
    clear HB2 hb H1 H2
    go_wp2
    go_ret
    exact ⟨rfl, hbel⟩
  · rw [if_neg (by rw [h]; decide)]
    rw [h] at H1
    clear h
    go_enter Tryd.func39, Tryd.ntmps39
    go_wp2_with fail
    refine (H1.out _).mono ?_
    rintro e w1 ⟨rfl, hb⟩
    have hbel := (HB.out.call hb).bel
    clear HB hb H1 H2
    go_wp2
    go_ret
    exact ⟨rfl, hbel⟩
end Go.Proofs.YtofbmlfpkcociaaDoor
