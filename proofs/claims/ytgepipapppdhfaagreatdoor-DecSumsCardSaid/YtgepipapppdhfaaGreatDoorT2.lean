/- dec.Text of -0.05. No condition. -/
import Derived.Test.YtgepipapppdhfaaGreatDoorT1
namespace Go.Proofs.YtgepipapppdhfaaGreatDoor
open Go.RowKit

theorem text_cat : ((⟨#[45]⟩ : ByteArray) ++ (((⟨#[48, 48]⟩ : ByteArray) ++ ⟨#[53]⟩).extract 0 1 ++ ⟨#[46]⟩ ++ ((⟨#[48, 48]⟩ : ByteArray) ++ ⟨#[53]⟩).extract 1 3)) = ⟨#[45, 48, 46, 48, 53]⟩ := by decide

set_option maxRecDepth 1000000 in
theorem text5 {w : World} : Calls Tryz.prog 23 #[.agg #[.int .i64 (-5), .int .i64 2]] w fun e w' => e = .returned (.string ⟨#[45, 48, 46, 48, 53]⟩) ∧ Below w.heap.size w w' := by
  have H1 : Hid (∀ W : World, Calls Tryz.prog 5 #[.agg #[.int .i64 (-5), .int .i64 2]] W fun e w' => e = .returned (.int .i64 0) ∧ Below W.heap.size W w') := Lib.hid (fun W => check_any (m := -5) (s := 2))
  have H2 : Hid (∀ W : World, Calls Tryz.prog 34 #[.int .i64 (-5)] W fun e w' => e = .returned (.agg #[.bool true, .int .u64 0, .int .u64 5]) ∧ Below W.heap.size W w') := Lib.hid (fun W => widen_any (m := -5) (by decide) (by decide))
  have H3 := Lib.hid (fun W : World => fmt5 (w := W))
  have H4 := Lib.hid (fun W : World => rep2 (w := W))
  have H0 := Lib.hid (sb1 w 23 #[.int .i64 (-5), .int .i64 2])
  go_enter Tryz.func23, Tryz.ntmps23
  go_wp2_with fail
  refine (H1.out _).mono ?_
  rintro e w1 ⟨rfl, hb⟩
  have HB := Lib.hid (H0.out.call hb)
  clear hb H0
  have k1 := HB.out.bk _ (.head _)
  have c0 := k1.cell 0
  have c1 := k1.cell 1
  clear k1
  go_wp2_with fail
  refine (H2.out _).mono ?_
  rintro e w2 ⟨rfl, hb⟩
  have hB := (HB.out.call hb).alloc 46 #[.bool true, .int .u64 0, .int .u64 5]
  clear hb HB c0 c1
  have k1 := hB.bk _ (.tail _ (.head _))
  have k2 := hB.bk _ (.head _)
  have hbel := hB.bel
  have c0 := k1.cell 0
  have c1 := k1.cell 1
  have d0 := k2.cell 0
  have d1 := k2.cell 1
  have d2 := k2.cell 2
  clear k1 k2 hB
  go_wp2_with fail
  refine (H3.out _).mono ?_
  rintro e w3 ⟨rfl, rfl⟩
  go_wp2_with fail
  refine (H4.out _).mono ?_
  rintro e w4 ⟨rfl, rfl⟩
  go_wp2_with fail
  go_region
  all_goals
    go_wp2
    go_ret
    refine ⟨?_, hbel.drew⟩
    show Ending.returned (.string ((⟨#[45]⟩ : ByteArray) ++ (((⟨#[48, 48]⟩ : ByteArray) ++ ⟨#[53]⟩).extract 0 1 ++ ⟨#[46]⟩ ++ ((⟨#[48, 48]⟩ : ByteArray) ++ ⟨#[53]⟩).extract 1 3))) = _
    rw [text_cat]
end Go.Proofs.YtgepipapppdhfaaGreatDoor
