/- cashbooklaw5.known by its contract: it returns true. No condition. -/
import Derived.Test.YtafdbdkggogigaaRk2
import Derived.Test.YtafdbdkggogigaaBox
namespace Go.Proofs.Ytafdbdkggogigaa
open Go.RowKit

set_option maxRecDepth 20000 in
theorem known5_any (w : World) :
    Calls Try.prog 7 #[] w fun e w' => e = .returned (.bool true) ∧ Below w.heap.size w w' := by
  have HB : Hid (SB w 0 [] w) := Lib.hid ⟨Below.refl _ _, Nat.le_refl _, fun x hx => by cases hx⟩
  have H1 : Hid (∀ W : World, Calls Try.prog 8 #[.agg #[.int .i64 (-5), .int .i64 2]] W fun e w' => e = .returned (.tuple #[.int .i64 4294967218, .int .i64 0]) ∧ Below W.heap.size W w') := Lib.hid (fun W => by
    have := pack_any (w := W) (m := -5) (s := 2)
    rw [show rkV (-5) 2 = 4294967218 by decide +kernel] at this
    rw [show rkE (-5) 2 = 0 by decide +kernel] at this
    exact this)
  have H2 : Hid (∀ W : World, Calls Try.prog 13 #[.int .i64 4294967218] W fun e w' => e = .returned (.tuple #[.agg #[.int .i64 (-5), .int .i64 2], .int .i64 0]) ∧ Below W.heap.size W w') := Lib.hid (fun W => by
    have := unpack_any (w := W) (n := 4294967218)
    rw [show uV 4294967218 = .agg #[.int .i64 (-5), .int .i64 2] by unfold uV; rw [if_pos (by decide +kernel)]; rfl] at this
    rw [show uE 4294967218 = 0 by decide +kernel] at this
    exact this)
  have H3 : Hid (∀ W : World, Calls Try.prog 17 #[.int .i64 134217728] W fun e w' => e = .returned (.agg #[.int .i64 134217728, .int .i64 0]) ∧ Below W.heap.size W w') := Lib.hid (fun W => int_any)
  have H4 : Hid (∀ W : World, Calls Try.prog 8 #[.agg #[.int .i64 134217728, .int .i64 0]] W fun e w' => e = .returned (.tuple #[.int .i64 0, .int .i64 8]) ∧ Below W.heap.size W w') := Lib.hid (fun W => by
    have := pack_any (w := W) (m := 134217728) (s := 0)
    rw [show rkV 134217728 0 = 0 by decide +kernel] at this
    rw [show rkE 134217728 0 = 8 by decide +kernel] at this
    exact this)
  have H5 : Hid (∀ W : World, Calls Try.prog 13 #[.int .i64 161] W fun e w' => e = .returned (.tuple #[.agg #[.int .i64 0, .int .i64 0], .int .i64 1]) ∧ Below W.heap.size W w') := Lib.hid (fun W => by
    have := unpack_any (w := W) (n := 161)
    rw [show uV 161 = .agg #[.int .i64 0, .int .i64 0] by unfold uV; rw [if_neg (by decide +kernel)]] at this
    rw [show uE 161 = 1 by decide +kernel] at this
    exact this)
  have H6 : Hid (∀ W : World, Calls Try.prog 13 #[.int .i64 (-1)] W fun e w' => e = .returned (.tuple #[.agg #[.int .i64 0, .int .i64 0], .int .i64 1]) ∧ Below W.heap.size W w') := Lib.hid (fun W => by
    have := unpack_any (w := W) (n := -1)
    rw [show uV (-1) = .agg #[.int .i64 0, .int .i64 0] by unfold uV; rw [if_neg (by decide +kernel)]] at this
    rw [show uE (-1) = 1 by decide +kernel] at this
    exact this)
  have H7 : Hid (∀ W : World, Calls Try.prog 17 #[.int .i64 (-134217728)] W fun e w' => e = .returned (.agg #[.int .i64 (-134217728), .int .i64 0]) ∧ Below W.heap.size W w') := Lib.hid (fun W => int_any)
  have H8 : Hid (∀ W : World, Calls Try.prog 11 #[.agg #[.int .i64 (-134217728), .int .i64 0]] W fun e w' => e = .returned (.bool true) ∧ Below W.heap.size W w') := Lib.hid (fun W => by
    have := fits_any (w := W) (m := -134217728) (s := 0)
    rw [show decide (rkE (-134217728) 0 = 0) = true by decide +kernel] at this
    exact this)
  have H9 : Hid (∀ W : World, Calls Try.prog 11 #[.agg #[.int .i64 134217728, .int .i64 0]] W fun e w' => e = .returned (.bool false) ∧ Below W.heap.size W w') := Lib.hid (fun W => by
    have := fits_any (w := W) (m := 134217728) (s := 0)
    rw [show decide (rkE 134217728 0 = 0) = false by decide +kernel] at this
    exact this)
  go_enter Try.func7, Try.ntmps7
  go_wp2_with fail
  refine (H1.out _).mono ?_
  rintro e w1 ⟨rfl, hb⟩
  have HB1 := Lib.hid (HB.out.call hb)
  clear hb HB
  have HB := HB1
  clear HB1
  go_wp2_with fail
  refine (H2.out _).mono ?_
  rintro e w2 ⟨rfl, hb⟩
  have HB2 := Lib.hid ((HB.out.call hb).alloc 23 #[.int .i64 (-5), .int .i64 2])
  clear hb HB
  have HB := HB2
  clear HB2
  go_wp2_with fail
  refine (H3.out _).mono ?_
  rintro e w3 ⟨rfl, hb⟩
  have HB3 := Lib.hid (HB.out.call hb)
  clear hb HB
  have HB := HB3
  clear HB3
  go_wp2_with fail
  refine (H4.out _).mono ?_
  rintro e w4 ⟨rfl, hb⟩
  have HB4 := Lib.hid (HB.out.call hb)
  clear hb HB
  have HB := HB4
  clear HB4
  go_wp2_with fail
  refine (H5.out _).mono ?_
  rintro e w5 ⟨rfl, hb⟩
  have HB5 := Lib.hid ((HB.out.call hb).alloc 23 #[.int .i64 0, .int .i64 0])
  clear hb HB
  have HB := HB5
  clear HB5
  go_wp2_with fail
  refine (H6.out _).mono ?_
  rintro e w6 ⟨rfl, hb⟩
  have HB6 := Lib.hid ((HB.out.call hb).alloc 23 #[.int .i64 0, .int .i64 0])
  clear hb HB
  have HB := HB6
  clear HB6
  have q2 := HB.out.bk _ (.tail _ (.tail _ (.head _)))
  have c20 := q2.cell 0
  have c21 := q2.cell 1
  clear q2
  go_wp2_with fail
  refine (H7.out _).mono ?_
  rintro e w7 ⟨rfl, hb⟩
  clear c20 c21
  have HB7 := Lib.hid (HB.out.call hb)
  clear hb HB
  have HB := HB7
  clear HB7
  go_wp2_with fail
  refine (H8.out _).mono ?_
  rintro e w8 ⟨rfl, hb⟩
  have HB8 := Lib.hid (HB.out.call hb)
  clear hb HB
  have HB := HB8
  clear HB8
  go_wp2_with fail
  refine (H3.out _).mono ?_
  rintro e w9 ⟨rfl, hb⟩
  have HB9 := Lib.hid (HB.out.call hb)
  clear hb HB
  have HB := HB9
  clear HB9
  go_wp2_with fail
  refine (H9.out _).mono ?_
  rintro e w10 ⟨rfl, hb⟩
  have HB10 := Lib.hid (HB.out.call hb)
  clear hb HB
  have HB := HB10
  clear HB10
  have hbel := HB.out.bel
  clear H1 H2 H3 H4 H5 H6 H7 H8 H9 HB
  go_wp2
  go_ret
  exact ⟨rfl, hbel⟩
end Go.Proofs.Ytafdbdkggogigaa
