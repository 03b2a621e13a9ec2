/- cashbooklaw4.known by its contract: it returns true, and nothing that was there has turned. No condition. -/
import Derived.Test.YtgepipapppdhfaaGreatDoorD5
import Derived.Test.YtgepipapppdhfaaGreatDoorT2
namespace Go.Proofs.YtgepipapppdhfaaGreatDoor
open Go.RowKit

theorem kC1 : Hid (∀ W : World, Calls Tryz.prog 9 #[.agg #[.int .i64 15, .int .i64 1], .agg #[.int .i64 25, .int .i64 2]] W fun e w' => e = .returned (.tuple #[.agg #[.int .i64 175, .int .i64 2], .int .i64 0]) ∧ Below W.heap.size W w') := Lib.hid (fun W => by
      have := dadd_any (w := W) (m := 15) (n := 25) (s := 1) (t := 2) ⟨by decide, by decide, by decide, by decide⟩ ⟨by decide, by decide, by decide, by decide⟩
      rw [show addD 15 1 25 2 = ⟨175, 2, 0⟩ from by kernel_rfl] at this
      exact this)
theorem kC2 : Hid (∀ W : World, Calls Tryz.prog 11 #[.agg #[.int .i64 15, .int .i64 1], .agg #[.int .i64 5, .int .i64 1]] W fun e w' => e = .returned (.tuple #[.agg #[.int .i64 1, .int .i64 0], .int .i64 0]) ∧ Below W.heap.size W w') := Lib.hid (fun W => by
      have := dsub_any (w := W) (m := 15) (n := 5) (s := 1) (t := 1) ⟨by decide, by decide, by decide, by decide⟩ ⟨by decide, by decide, by decide, by decide⟩
      rw [show subD 15 1 5 1 = ⟨1, 0, 0⟩ from by kernel_rfl] at this
      exact this)
theorem kC3 : Hid (∀ W : World, Calls Tryz.prog 13 #[.agg #[.int .i64 (-15), .int .i64 1], .agg #[.int .i64 2, .int .i64 0]] W fun e w' => e = .returned (.tuple #[.agg #[.int .i64 (-3), .int .i64 0], .int .i64 0]) ∧ Below W.heap.size W w') := Lib.hid (fun W => by
      have := mul_any (w := W) (m := -15) (n := 2) (s := 1) (t := 0) ⟨by decide, by decide, by decide, by decide⟩ ⟨by decide, by decide, by decide, by decide⟩
      rw [show mulD (-15) 1 2 0 = ⟨-3, 0, 0⟩ from by kernel_rfl] at this
      exact this)
theorem kC4 : Hid (∀ W : World, Calls Tryz.prog 15 #[.agg #[.int .i64 2, .int .i64 0], .agg #[.int .i64 3, .int .i64 0]] W fun e w' => e = .returned (.tuple #[.agg #[.int .i64 666666667, .int .i64 9], .int .i64 0]) ∧ Below W.heap.size W w') := Lib.hid (fun W => by
      have := div_any (w := W) (m := 2) (n := 3) (s := 0) (t := 0) ⟨by decide, by decide, by decide, by decide⟩ ⟨by decide, by decide, by decide, by decide⟩ (by decide)
      rw [show divD 2 0 3 0 = ⟨666666667, 9, 0⟩ from by kernel_rfl] at this
      exact this)
theorem kC5 : Hid (∀ W : World, Calls Tryz.prog 15 #[.agg #[.int .i64 2, .int .i64 0], .agg #[.int .i64 0, .int .i64 0]] W fun e w' => e = .returned (.tuple #[.agg #[.int .i64 0, .int .i64 0], .int .i64 9]) ∧ Below W.heap.size W w') := Lib.hid (fun W => divz_any (w := W) (m := 2) (s := 0) ⟨by decide, by decide, by decide, by decide⟩)
theorem kC6 : Hid (∀ W : World, Calls Tryz.prog 13 #[.agg #[.int .i64 4611686018427387904, .int .i64 0], .agg #[.int .i64 4, .int .i64 0]] W fun e w' => e = .returned (.tuple #[.agg #[.int .i64 0, .int .i64 0], .int .i64 8]) ∧ Below W.heap.size W w') := Lib.hid (fun W => by
      have := mul_any (w := W) (m := 4611686018427387904) (n := 4) (s := 0) (t := 0) ⟨by decide, by decide, by decide, by decide⟩ ⟨by decide, by decide, by decide, by decide⟩
      rw [show mulD 4611686018427387904 0 4 0 = ⟨0, 0, 8⟩ from by kernel_rfl] at this
      exact this)
theorem kC7 : Hid (∀ W : World, Calls Tryz.prog 19 #[.agg #[.int .i64 (-125), .int .i64 2], .int .i64 1] W fun e w' => e = .returned (.tuple #[.agg #[.int .i64 (-13), .int .i64 1], .int .i64 0]) ∧ Below W.heap.size W w') := Lib.hid (fun W => by
      have := round_any (w := W) (m := -125) (p := 1) (s := 2) ⟨by decide, by decide, by decide, by decide⟩
      rw [show roundD (-125) 2 1 = ⟨-13, 1, 0⟩ from by kernel_rfl] at this
      exact this)
theorem kC8 : Hid (∀ W : World, Calls Tryz.prog 20 #[.agg #[.int .i64 (-15), .int .i64 1]] W fun e w' => e = .returned (.tuple #[.agg #[.int .i64 (-2), .int .i64 0], .int .i64 0]) ∧ Below W.heap.size W w') := Lib.hid (fun W => by
      have := floor_any (w := W) (m := -15) (s := 1) ⟨by decide, by decide, by decide, by decide⟩
      rw [show floorD (-15) 1 = ⟨-2, 0, 0⟩ from by kernel_rfl] at this
      exact this)
theorem kC9 : Hid (∀ W : World, Calls Tryz.prog 19 #[.agg #[.int .i64 150, .int .i64 0], .int .i64 (-2)] W fun e w' => e = .returned (.tuple #[.agg #[.int .i64 200, .int .i64 0], .int .i64 0]) ∧ Below W.heap.size W w') := Lib.hid (fun W => by
      have := round_any (w := W) (m := 150) (p := -2) (s := 0) ⟨by decide, by decide, by decide, by decide⟩
      rw [show roundD 150 0 (-2) = ⟨200, 0, 0⟩ from by kernel_rfl] at this
      exact this)
theorem kC10 : Hid (∀ W : World, Calls Tryz.prog 21 #[.string ⟨#[45, 48, 46, 48, 53]⟩] W fun e w' => e = .returned (.tuple #[.agg #[.int .i64 (-5), .int .i64 2], .int .i64 0]) ∧ Below W.heap.size W w') := Lib.hid (fun W => parse1)
theorem kC11 : Hid (∀ W : World, Calls Tryz.prog 21 #[.string ⟨#[49, 46, 53, 48]⟩] W fun e w' => e = .returned (.tuple #[.agg #[.int .i64 0, .int .i64 0], .int .i64 1]) ∧ Below W.heap.size W w') := Lib.hid (fun W => parse2)
theorem kC12 : Hid (∀ W : World, Calls Tryz.prog 21 #[.string ⟨#[48, 49]⟩] W fun e w' => e = .returned (.tuple #[.agg #[.int .i64 0, .int .i64 0], .int .i64 2]) ∧ Below W.heap.size W w') := Lib.hid (fun W => parse3)
theorem kC13 : Hid (∀ W : World, Calls Tryz.prog 21 #[.string ⟨#[57, 57, 57, 57, 57, 57, 57, 57, 57, 57, 57, 57, 57, 57, 57, 57, 57, 57, 57, 57]⟩] W fun e w' => e = .returned (.tuple #[.agg #[.int .i64 0, .int .i64 0], .int .i64 8]) ∧ Below W.heap.size W w') := Lib.hid (fun W => parse4)
theorem kI1 : Hid (∀ W : World, Calls Tryz.prog 22 #[.int .i64 1] W fun e w' => e = .returned (.agg #[.int .i64 1, .int .i64 0]) ∧ Below W.heap.size W w') := Lib.hid (fun W => int_any)
theorem kI2 : Hid (∀ W : World, Calls Tryz.prog 22 #[.int .i64 (-3)] W fun e w' => e = .returned (.agg #[.int .i64 (-3), .int .i64 0]) ∧ Below W.heap.size W w') := Lib.hid (fun W => int_any)
theorem kI3 : Hid (∀ W : World, Calls Tryz.prog 22 #[.int .i64 (-2)] W fun e w' => e = .returned (.agg #[.int .i64 (-2), .int .i64 0]) ∧ Below W.heap.size W w') := Lib.hid (fun W => int_any)
theorem kI4 : Hid (∀ W : World, Calls Tryz.prog 22 #[.int .i64 200] W fun e w' => e = .returned (.agg #[.int .i64 200, .int .i64 0]) ∧ Below W.heap.size W w') := Lib.hid (fun W => int_any)
theorem kX1 : Hid (∀ W : World, Calls Tryz.prog 23 #[.agg #[.int .i64 (-5), .int .i64 2]] W fun e w' => e = .returned (.string ⟨#[45, 48, 46, 48, 53]⟩) ∧ Below W.heap.size W w') := Lib.hid (fun W => text5)
theorem kX2 : Hid (∀ W : World, Calls Tryz.prog 17 #[.agg #[.int .i64 175, .int .i64 2], .agg #[.int .i64 1, .int .i64 0]] W fun e w' => e = .returned (.int .i64 1) ∧ Below W.heap.size W w') := Lib.hid (fun W => by
      have := compare_any (w := W) (m := 175) (n := 1) (s := 2) (t := 0) ⟨by decide, by decide, by decide, by decide⟩ ⟨by decide, by decide, by decide, by decide⟩
      rw [show cmp (val 175 2) (val 1 0) = 1 from by kernel_rfl] at this
      exact this)
theorem kX3 : Hid (∀ W : World, Calls Tryz.prog 24 #[.agg #[.int .i64 500, .int .i64 2]] W fun e w' => e = .returned (.agg #[.int .i64 5, .int .i64 0]) ∧ Below W.heap.size W w') := Lib.hid (fun W => by
      have := norm_any (w := W) (m := 500) (s := 2) (by decide) (by decide) (by decide)
      rw [show tl 500 2 = ⟨5, 0, 0⟩ from by kernel_rfl] at this
      exact this)
theorem kI5 : Hid (∀ W : World, Calls Tryz.prog 22 #[.int .i64 5] W fun e w' => e = .returned (.agg #[.int .i64 5, .int .i64 0]) ∧ Below W.heap.size W w') := Lib.hid (fun W => int_any)
theorem kK1 : Hid (∀ W : World, Calls Tryz.prog 5 #[.agg #[.int .i64 10, .int .i64 1]] W fun e w' => e = .returned (.int .i64 1) ∧ Below W.heap.size W w') := Lib.hid (fun W => check_any (m := 10) (s := 1))
theorem kK2 : Hid (∀ W : World, Calls Tryz.prog 5 #[.agg #[.int .i64 0, .int .i64 1]] W fun e w' => e = .returned (.int .i64 1) ∧ Below W.heap.size W w') := Lib.hid (fun W => check_any (m := 0) (s := 1))

set_option maxHeartbeats 4000000 in
set_option maxRecDepth 1000000 in
theorem known4_any (w : World) : Calls Tryz.prog 4 #[] w fun e w' => e = .returned (.bool true) ∧ Below w.heap.size w w' := by
  have HB : Hid (SB w 0 [] w) := Lib.hid ⟨Below.refl _ _, Nat.le_refl _, fun x hx => by cases hx⟩
  go_enter Tryz.func4, Tryz.ntmps4
  go_wp2_with fail
  refine (kC1.out _).mono ?_
  rintro e w1 ⟨rfl, hb⟩
  have HB1 := Lib.hid ((HB.out.call hb).alloc 23 #[.int .i64 175, .int .i64 2])
  clear hb HB
  have HB := HB1
  clear HB1
  go_wp2_with fail
  refine (kC2.out _).mono ?_
  rintro e w2 ⟨rfl, hb⟩
  have HB2 := Lib.hid ((HB.out.call hb).alloc 23 #[.int .i64 1, .int .i64 0])
  clear hb HB
  have HB := HB2
  clear HB2
  go_wp2_with fail
  refine (kC3.out _).mono ?_
  rintro e w3 ⟨rfl, hb⟩
  have HB3 := Lib.hid ((HB.out.call hb).alloc 23 #[.int .i64 (-3), .int .i64 0])
  clear hb HB
  have HB := HB3
  clear HB3
  go_wp2_with fail
  refine (kC4.out _).mono ?_
  rintro e w4 ⟨rfl, hb⟩
  have HB4 := Lib.hid ((HB.out.call hb).alloc 23 #[.int .i64 666666667, .int .i64 9])
  clear hb HB
  have HB := HB4
  clear HB4
  go_wp2_with fail
  refine (kC5.out _).mono ?_
  rintro e w5 ⟨rfl, hb⟩
  have HB5 := Lib.hid ((HB.out.call hb).alloc 23 #[.int .i64 0, .int .i64 0])
  clear hb HB
  have HB := HB5
  clear HB5
  go_wp2_with fail
  refine (kC6.out _).mono ?_
  rintro e w6 ⟨rfl, hb⟩
  have HB6 := Lib.hid ((HB.out.call hb).alloc 23 #[.int .i64 0, .int .i64 0])
  clear hb HB
  have HB := HB6
  clear HB6
  go_wp2_with fail
  refine (kC7.out _).mono ?_
  rintro e w7 ⟨rfl, hb⟩
  have HB7 := Lib.hid ((HB.out.call hb).alloc 23 #[.int .i64 (-13), .int .i64 1])
  clear hb HB
  have HB := HB7
  clear HB7
  go_wp2_with fail
  refine (kC8.out _).mono ?_
  rintro e w8 ⟨rfl, hb⟩
  have HB8 := Lib.hid ((HB.out.call hb).alloc 23 #[.int .i64 (-2), .int .i64 0])
  clear hb HB
  have HB := HB8
  clear HB8
  go_wp2_with fail
  refine (kC9.out _).mono ?_
  rintro e w9 ⟨rfl, hb⟩
  have HB9 := Lib.hid ((HB.out.call hb).alloc 23 #[.int .i64 200, .int .i64 0])
  clear hb HB
  have HB := HB9
  clear HB9
  go_wp2_with fail
  refine (kC10.out _).mono ?_
  rintro e w10 ⟨rfl, hb⟩
  have HB10 := Lib.hid ((HB.out.call hb).alloc 23 #[.int .i64 (-5), .int .i64 2])
  clear hb HB
  have HB := HB10
  clear HB10
  go_wp2_with fail
  refine (kC11.out _).mono ?_
  rintro e w11 ⟨rfl, hb⟩
  have HB11 := Lib.hid ((HB.out.call hb).alloc 23 #[.int .i64 0, .int .i64 0])
  clear hb HB
  have HB := HB11
  clear HB11
  go_wp2_with fail
  refine (kC12.out _).mono ?_
  rintro e w12 ⟨rfl, hb⟩
  have HB12 := Lib.hid ((HB.out.call hb).alloc 23 #[.int .i64 0, .int .i64 0])
  clear hb HB
  have HB := HB12
  clear HB12
  go_wp2_with fail
  refine (kC13.out _).mono ?_
  rintro e w13 ⟨rfl, hb⟩
  have HB13 := Lib.hid ((HB.out.call hb).alloc 23 #[.int .i64 0, .int .i64 0])
  clear hb HB
  have HB := HB13
  clear HB13
  have HSB := HB
  clear HB
  go_wp2_with fail
  simp only [List.append]
  refine wp_region_phases (S := (S1 w 0 ([(w13.heap.size, 23, #[.int .i64 0, .int .i64 0]), (w12.heap.size, 23, #[.int .i64 0, .int .i64 0]), (w11.heap.size, 23, #[.int .i64 0, .int .i64 0]), (w10.heap.size, 23, #[.int .i64 (-5), .int .i64 2]), (w9.heap.size, 23, #[.int .i64 200, .int .i64 0]), (w8.heap.size, 23, #[.int .i64 (-2), .int .i64 0]), (w7.heap.size, 23, #[.int .i64 (-13), .int .i64 1]), (w6.heap.size, 23, #[.int .i64 0, .int .i64 0]), (w5.heap.size, 23, #[.int .i64 0, .int .i64 0]), (w4.heap.size, 23, #[.int .i64 666666667, .int .i64 9]), (w3.heap.size, 23, #[.int .i64 (-3), .int .i64 0]), (w2.heap.size, 23, #[.int .i64 1, .int .i64 0]), (w1.heap.size, 23, #[.int .i64 175, .int .i64 2])] : List (Nat × TypeId × Array Value)) ([(w13.heap.size, 23, #[.int .i64 0, .int .i64 0]), (w12.heap.size, 23, #[.int .i64 0, .int .i64 0]), (w11.heap.size, 23, #[.int .i64 0, .int .i64 0]), (w10.heap.size, 23, #[.int .i64 (-5), .int .i64 2]), (w9.heap.size, 23, #[.int .i64 200, .int .i64 0]), (w8.heap.size, 23, #[.int .i64 (-2), .int .i64 0]), (w7.heap.size, 23, #[.int .i64 (-13), .int .i64 1]), (w6.heap.size, 23, #[.int .i64 0, .int .i64 0]), (w5.heap.size, 23, #[.int .i64 0, .int .i64 0]), (w4.heap.size, 23, #[.int .i64 666666667, .int .i64 9]), (w3.heap.size, 23, #[.int .i64 (-3), .int .i64 0]), (w2.heap.size, 23, #[.int .i64 1, .int .i64 0]), (w1.heap.size, 23, #[.int .i64 175, .int .i64 2])] : List (Nat × TypeId × Array Value)))) (E := (fun _ _ => True)) [] [(1, Is (.pointer (some ⟨w1.heap.size, 0, none⟩))), (2, Is (.int .i64 0)), (3, Is (.pointer (some ⟨w2.heap.size, 0, none⟩))), (4, Is (.int .i64 0)), (5, Is (.pointer (some ⟨w3.heap.size, 0, none⟩))), (6, Is (.int .i64 0)), (7, Is (.pointer (some ⟨w4.heap.size, 0, none⟩))), (8, Is (.int .i64 0)), (9, Is (.pointer (some ⟨w5.heap.size, 0, none⟩))), (10, Is (.int .i64 9)), (11, Is (.pointer (some ⟨w6.heap.size, 0, none⟩))), (12, Is (.int .i64 8)), (13, Is (.pointer (some ⟨w7.heap.size, 0, none⟩))), (14, Is (.int .i64 0)), (15, Is (.pointer (some ⟨w8.heap.size, 0, none⟩))), (16, Is (.int .i64 0)), (17, Is (.pointer (some ⟨w9.heap.size, 0, none⟩))), (18, Is (.int .i64 0)), (19, Is (.pointer (some ⟨w10.heap.size, 0, none⟩))), (20, Is (.int .i64 0)), (21, Is (.pointer (some ⟨w11.heap.size, 0, none⟩))), (22, Is (.int .i64 1)), (23, Is (.pointer (some ⟨w12.heap.size, 0, none⟩))), (24, Is (.int .i64 2)), (25, Is (.pointer (some ⟨w13.heap.size, 0, none⟩))), (26, Is (.int .i64 8))] [(94, Is (.int .i64 0)), (95, Is (.int .i64 0)), (96, Is (.int .i64 0)), (97, Is (.int .i64 0)), (98, Is (.int .i64 0)), (99, Is (.int .i64 0)), (100, Is (.int .i64 0)), (101, Is (.int .i64 0)), (102, Is (.int .i64 0)), (103, Is (.int .i64 0)), (104, Is (.int .i64 0)), (105, Is (.int .i64 0)), (106, Is (.int .i64 0)), (107, Is (.int .i64 0)), (108, Is (.int .i64 0)), (109, Is (.bool true)), (110, Is (.bool true)), (111, Is (.agg #[.int .i64 175, .int .i64 2])), (112, Is (.agg #[.int .i64 175, .int .i64 2])), (113, Is (.bool true)), (114, Is (.bool true)), (115, Is (.bool true)), (116, Is (.agg #[.int .i64 1, .int .i64 0])), (117, Is (.agg #[.int .i64 1, .int .i64 0])), (118, Is (.bool true)), (119, Is (.bool true)), (120, Is (.bool true)), (121, Is (.agg #[.int .i64 (-3), .int .i64 0])), (122, Is (.agg #[.int .i64 (-3), .int .i64 0])), (123, Is (.bool true)), (124, Is (.bool true)), (125, Is (.bool true)), (126, Is (.agg #[.int .i64 666666667, .int .i64 9])), (127, Is (.agg #[.int .i64 666666667, .int .i64 9])), (128, Is (.bool true)), (129, Is (.bool true)), (130, Is (.bool true)), (131, Is (.int .i64 9)), (132, Is (.bool true)), (133, Is (.bool true)), (134, Is (.bool true)), (135, Is (.int .i64 8)), (136, Is (.bool true)), (137, Is (.bool true)), (138, Is (.bool true)), (139, Is (.agg #[.int .i64 (-13), .int .i64 1])), (140, Is (.agg #[.int .i64 (-13), .int .i64 1])), (141, Is (.bool true)), (142, Is (.bool true)), (143, Is (.bool true)), (144, Is (.agg #[.int .i64 (-2), .int .i64 0])), (145, Is (.agg #[.int .i64 (-2), .int .i64 0])), (146, Is (.bool true)), (147, Is (.bool true)), (148, Is (.bool true)), (149, Is (.agg #[.int .i64 200, .int .i64 0])), (150, Is (.agg #[.int .i64 200, .int .i64 0])), (151, Is (.bool true)), (152, Is (.bool true)), (153, Is (.bool true)), (154, Is (.agg #[.int .i64 (-5), .int .i64 2])), (155, Is (.agg #[.int .i64 (-5), .int .i64 2])), (156, Is (.bool true)), (157, Is (.bool true)), (158, Is (.bool true)), (159, Is (.agg #[.int .i64 (-5), .int .i64 2])), (160, Is (.string ⟨#[45, 48, 46, 48, 53]⟩)), (161, Is (.bool true)), (162, Is (.bool true)), (163, Is (.bool true)), (164, Is (.int .i64 1)), (165, Is (.bool true)), (166, Is (.bool true)), (167, Is (.bool true)), (168, Is (.int .i64 2)), (169, Is (.bool true)), (170, Is (.bool true)), (171, Is (.bool true)), (172, Is (.int .i64 8)), (173, Is (.bool true)), (174, Is (.bool true)), (175, Is (.bool true)), (176, Is (.agg #[.int .i64 175, .int .i64 2])), (177, Is (.agg #[.int .i64 1, .int .i64 0])), (178, Is (.int .i64 1)), (179, Is (.bool true)), (180, Is (.bool true)), (181, Is (.bool true)), (182, Is (.agg #[.int .i64 500, .int .i64 2])), (183, Is (.agg #[.int .i64 5, .int .i64 0])), (184, Is (.agg #[.int .i64 5, .int .i64 0])), (185, Is (.bool true)), (186, Is (.bool true)), (187, Is (.bool true)), (188, Is (.agg #[.int .i64 10, .int .i64 1])), (189, Is (.int .i64 1)), (190, Is (.bool true)), (191, Is (.bool true)), (192, Is (.bool true)), (193, Is (.agg #[.int .i64 0, .int .i64 1])), (194, Is (.int .i64 1)), (195, Is (.bool true)), (196, Is (.bool true)), (0, Is (.bool true))]
    [.op [2] none, .op [4] none, .op [94, 95] none, .op [6] none, .op [96, 97] none, .op [8] none, .op [98, 99] none, .op [14] none, .op [100, 101] none, .op [16] none, .op [102, 103] none, .op [18] none, .op [104, 105] none, .op [20] none, .op [106, 107] none, .op [108] none, .op [109] none, .op [1, 110] (some (110, true)), .op [110] (some (110, true)), .op [111, 112, 110] (some (110, true)), .op [110, 113] none, .op [114] none, .op [3, 115] (some (115, true)), .op [115] (some (115, true)), .op [116, 117, 115] (some (115, true)), .op [115, 118] none, .op [119] none, .op [5, 120] (some (120, true)), .op [120] (some (120, true)), .op [121, 122, 120] (some (120, true)), .op [120, 123] none, .op [124] none, .op [7, 125] (some (125, true)), .op [125] (some (125, true)), .op [126, 127, 125] (some (125, true)), .op [125, 128] none, .op [129] none, .op [10, 130] (some (130, true)), .op [131, 130] (some (130, true)), .op [130, 132] none, .op [133] none, .op [12, 134] (some (134, true)), .op [135, 134] (some (134, true)), .op [134, 136] none, .op [137] none, .op [13, 138] (some (138, true)), .op [138] (some (138, true)), .op [139, 140, 138] (some (138, true)), .op [138, 141] none, .op [142] none, .op [15, 143] (some (143, true)), .op [143] (some (143, true)), .op [144, 145, 143] (some (143, true)), .op [143, 146] none, .op [147] none, .op [17, 148] (some (148, true)), .op [148] (some (148, true)), .op [149, 150, 148] (some (148, true)), .op [148, 151] none, .op [152] none, .op [19, 153] (some (153, true)), .op [153] (some (153, true)), .op [154, 155, 153] (some (153, true)), .op [153, 156] none, .op [157] none, .op [19, 158] (some (158, true)), .op [159, 158] (some (158, true)), .op [160, 158] (some (158, true)), .op [158, 161] none, .op [162] none, .op [22, 163] (some (163, true)), .op [164, 163] (some (163, true)), .op [163, 165] none, .op [166] none, .op [24, 167] (some (167, true)), .op [168, 167] (some (167, true)), .op [167, 169] none, .op [170] none, .op [26, 171] (some (171, true)), .op [172, 171] (some (171, true)), .op [171, 173] none, .op [174] none, .op [1, 175] (some (175, true)), .op [3, 175] (some (175, true)), .op [176, 177, 175] (some (175, true)), .op [178, 175] (some (175, true)), .op [175, 179] none, .op [180] none, .op [181] (some (181, true)), .op [182, 181] (some (181, true)), .op [181] (some (181, true)), .op [183, 184, 181] (some (181, true)), .op [181, 185] none, .op [186] none, .op [187] (some (187, true)), .op [188, 187] (some (187, true)), .op [189, 187] (some (187, true)), .op [187, 190] none, .op [191] none, .op [192] (some (192, true)), .op [193, 192] (some (192, true)), .op [194, 192] (some (192, true)), .op [192, 195] none, .op [196] none] (by as_aux_lemma => kernel_rfl) ?_ ?_ ?_ ?_ ?_ ⟨stable_is _ _, stable_is _ _, stable_is _ _, stable_is _ _, stable_is _ _, stable_is _ _, stable_is _ _, stable_is _ _, stable_is _ _, stable_is _ _, stable_is _ _, stable_is _ _, stable_is _ _, stable_is _ _, stable_is _ _, stable_is _ _, stable_is _ _, stable_is _ _, stable_is _ _, stable_is _ _, stable_is _ _, stable_is _ _, stable_is _ _, stable_is _ _, stable_is _ _, stable_is _ _, stable_is _ _, stable_is _ _, stable_is _ _, stable_is _ _, stable_is _ _, stable_is _ _, stable_is _ _, stable_is _ _, stable_is _ _, stable_is _ _, stable_is _ _, stable_is _ _, stable_is _ _, stable_is _ _, stable_is _ _, stable_is _ _, stable_is _ _, stable_is _ _, stable_is _ _, stable_is _ _, stable_is _ _, stable_is _ _, stable_is _ _, stable_is _ _, stable_is _ _, stable_is _ _, stable_is _ _, stable_is _ _, stable_is _ _, stable_is _ _, stable_is _ _, stable_is _ _, stable_is _ _, stable_is _ _, stable_is _ _, stable_is _ _, stable_is _ _, stable_is _ _, stable_is _ _, stable_is _ _, stable_is _ _, stable_is _ _, stable_is _ _, stable_is _ _, stable_is _ _, stable_is _ _, stable_is _ _, stable_is _ _, stable_is _ _, stable_is _ _, stable_is _ _, stable_is _ _, stable_is _ _, stable_is _ _, stable_is _ _, stable_is _ _, stable_is _ _, stable_is _ _, stable_is _ _, stable_is _ _, stable_is _ _, stable_is _ _, stable_is _ _, stable_is _ _, stable_is _ _, stable_is _ _, stable_is _ _, stable_is _ _, stable_is _ _, stable_is _ _, stable_is _ _, stable_is _ _, stable_is _ _, stable_is _ _, stable_is _ _, stable_is _ _, stable_is _ _, stable_is _ _, stable_is _ _, stable_is _ _, stable_is _ _, stable_is _ _, stable_is _ _, stable_is _ _, stable_is _ _, stable_is _ _, stable_is _ _, stable_is _ _, stable_is _ _, stable_is _ _, stable_is _ _, stable_is _ _, stable_is _ _, stable_is _ _, stable_is _ _, stable_is _ _, stable_is _ _, stable_is _ _, stable_is _ _, stable_is _ _, stable_is _ _, stable_is _ _, stable_is _ _, stable_is _ _, trivial⟩ ?_ (HSB.out.drew) ?_ ?_
  · as_aux_lemma => kernel_rfl
  · as_aux_lemma => kernel_rfl
  · as_aux_lemma => kernel_rfl
  · as_aux_lemma => kernel_rfl
  · as_aux_lemma => kernel_rfl
  · exact ⟨rfl, rfl, rfl, rfl, rfl, rfl, rfl, rfl, rfl, rfl, rfl, rfl, rfl, rfl, rfl, rfl, rfl, rfl, rfl, rfl, rfl, rfl, rfl, rfl, rfl, rfl, trivial⟩
  · refine ⟨?_, ?_, ?_, ?_, ?_, ?_, ?_, ?_, ?_, ?_, ?_, ?_, ?_, ?_, ?_, ?_, ?_, ?_, ?_, ?_, ?_, ?_, ?_, ?_, ?_, ?_, ?_, ?_, ?_, ?_, ?_, ?_, ?_, ?_, ?_, ?_, ?_, ?_, ?_, ?_, ?_, ?_, ?_, ?_, ?_, ?_, ?_, ?_, ?_, ?_, ?_, ?_, ?_, ?_, ?_, ?_, ?_, ?_, ?_, ?_, ?_, ?_, ?_, ?_, ?_, ?_, ?_, ?_, ?_, ?_, ?_, ?_, ?_, ?_, ?_, ?_, ?_, ?_, ?_, ?_, ?_, ?_, ?_, ?_, ?_, ?_, ?_, ?_, ?_, ?_, ?_, ?_, ?_, ?_, ?_, ?_, ?_, ?_, ?_, ?_, ?_, ?_, ?_, ?_, trivial⟩
    · as_aux_lemma =>
        intro vals a W hS hL
        have e2 : a.tmps.getD 2 undef = .int .i64 0 := hL.1
        clear hL
        go_simp
        exact ⟨⟨fun d hd => by injection hd with hd; subst hd; rfl, fun h => by cases h⟩, hS, trivial⟩
    · as_aux_lemma =>
        intro vals a W hS hL
        have e4 : a.tmps.getD 4 undef = .int .i64 0 := hL.1
        clear hL
        go_simp
        exact ⟨⟨fun d hd => by injection hd with hd; subst hd; rfl, fun h => by cases h⟩, hS, trivial⟩
    · as_aux_lemma =>
        intro vals a W hS hL
        have e94 : a.tmps.getD 94 undef = .int .i64 0 := hL.1
        have e95 : a.tmps.getD 95 undef = .int .i64 0 := hL.2.1
        clear hL
        go_simp
        exact ⟨⟨fun d hd => by injection hd with hd; subst hd; rfl, fun h => by cases h⟩, hS, trivial⟩
    · as_aux_lemma =>
        intro vals a W hS hL
        have e6 : a.tmps.getD 6 undef = .int .i64 0 := hL.1
        clear hL
        go_simp
        exact ⟨⟨fun d hd => by injection hd with hd; subst hd; rfl, fun h => by cases h⟩, hS, trivial⟩
    · as_aux_lemma =>
        intro vals a W hS hL
        have e96 : a.tmps.getD 96 undef = .int .i64 0 := hL.1
        have e97 : a.tmps.getD 97 undef = .int .i64 0 := hL.2.1
        clear hL
        go_simp
        exact ⟨⟨fun d hd => by injection hd with hd; subst hd; rfl, fun h => by cases h⟩, hS, trivial⟩
    · as_aux_lemma =>
        intro vals a W hS hL
        have e8 : a.tmps.getD 8 undef = .int .i64 0 := hL.1
        clear hL
        go_simp
        exact ⟨⟨fun d hd => by injection hd with hd; subst hd; rfl, fun h => by cases h⟩, hS, trivial⟩
    · as_aux_lemma =>
        intro vals a W hS hL
        have e98 : a.tmps.getD 98 undef = .int .i64 0 := hL.1
        have e99 : a.tmps.getD 99 undef = .int .i64 0 := hL.2.1
        clear hL
        go_simp
        exact ⟨⟨fun d hd => by injection hd with hd; subst hd; rfl, fun h => by cases h⟩, hS, trivial⟩
    · as_aux_lemma =>
        intro vals a W hS hL
        have e14 : a.tmps.getD 14 undef = .int .i64 0 := hL.1
        clear hL
        go_simp
        exact ⟨⟨fun d hd => by injection hd with hd; subst hd; rfl, fun h => by cases h⟩, hS, trivial⟩
    · as_aux_lemma =>
        intro vals a W hS hL
        have e100 : a.tmps.getD 100 undef = .int .i64 0 := hL.1
        have e101 : a.tmps.getD 101 undef = .int .i64 0 := hL.2.1
        clear hL
        go_simp
        exact ⟨⟨fun d hd => by injection hd with hd; subst hd; rfl, fun h => by cases h⟩, hS, trivial⟩
    · as_aux_lemma =>
        intro vals a W hS hL
        have e16 : a.tmps.getD 16 undef = .int .i64 0 := hL.1
        clear hL
        go_simp
        exact ⟨⟨fun d hd => by injection hd with hd; subst hd; rfl, fun h => by cases h⟩, hS, trivial⟩
    · as_aux_lemma =>
        intro vals a W hS hL
        have e102 : a.tmps.getD 102 undef = .int .i64 0 := hL.1
        have e103 : a.tmps.getD 103 undef = .int .i64 0 := hL.2.1
        clear hL
        go_simp
        exact ⟨⟨fun d hd => by injection hd with hd; subst hd; rfl, fun h => by cases h⟩, hS, trivial⟩
    · as_aux_lemma =>
        intro vals a W hS hL
        have e18 : a.tmps.getD 18 undef = .int .i64 0 := hL.1
        clear hL
        go_simp
        exact ⟨⟨fun d hd => by injection hd with hd; subst hd; rfl, fun h => by cases h⟩, hS, trivial⟩
    · as_aux_lemma =>
        intro vals a W hS hL
        have e104 : a.tmps.getD 104 undef = .int .i64 0 := hL.1
        have e105 : a.tmps.getD 105 undef = .int .i64 0 := hL.2.1
        clear hL
        go_simp
        exact ⟨⟨fun d hd => by injection hd with hd; subst hd; rfl, fun h => by cases h⟩, hS, trivial⟩
    · as_aux_lemma =>
        intro vals a W hS hL
        have e20 : a.tmps.getD 20 undef = .int .i64 0 := hL.1
        clear hL
        go_simp
        exact ⟨⟨fun d hd => by injection hd with hd; subst hd; rfl, fun h => by cases h⟩, hS, trivial⟩
    · as_aux_lemma =>
        intro vals a W hS hL
        have e106 : a.tmps.getD 106 undef = .int .i64 0 := hL.1
        have e107 : a.tmps.getD 107 undef = .int .i64 0 := hL.2.1
        clear hL
        go_simp
        exact ⟨⟨fun d hd => by injection hd with hd; subst hd; rfl, fun h => by cases h⟩, hS, trivial⟩
    · as_aux_lemma =>
        intro vals a W hS hL
        have e108 : a.tmps.getD 108 undef = .int .i64 0 := hL.1
        clear hL
        go_simp
        exact ⟨⟨fun d hd => by injection hd with hd; subst hd; rfl, fun h => by cases h⟩, hS, trivial⟩
    · as_aux_lemma =>
        intro vals a W hS hL
        have e109 : a.tmps.getD 109 undef = .bool true := hL.1
        clear hL
        go_simp
        exact ⟨⟨fun d hd => by injection hd with hd; subst hd; rfl, fun h => by cases h⟩, hS, trivial⟩
    · as_aux_lemma =>
        intro vals a W hS hL
        have e1 : a.tmps.getD 1 undef = .pointer (some ⟨w1.heap.size, 0, none⟩) := hL.1
        have e110 : a.tmps.getD 110 undef = .bool true := hL.2.1
        clear hL
        refine ⟨true, e110, ?_⟩
        rw [if_pos rfl]
        have kb : Bk W w1.heap.size 23 #[.int .i64 175, .int .i64 2] := hS.bk (.tail _ (.tail _ (.tail _ (.tail _ (.tail _ (.tail _ (.tail _ (.tail _ (.tail _ (.tail _ (.tail _ (.tail _ (.head _))))))))))))) (.tail _ (.tail _ (.tail _ (.tail _ (.tail _ (.tail _ (.tail _ (.tail _ (.tail _ (.tail _ (.tail _ (.tail _ (.head _)))))))))))))
        have f0 := kb.cell 0
        have f1 := kb.cell 1
        clear kb
        go_simp
        exact ⟨⟨fun d hd => by injection hd with hd; subst hd; rfl, fun h => by cases h⟩, hS, trivial⟩
    · as_aux_lemma =>
        intro vals a W hS hL
        have e110 : a.tmps.getD 110 undef = .bool true := hL.1
        clear hL
        refine ⟨true, e110, ?_⟩
        rw [if_pos rfl]
        go_simp
        exact ⟨⟨fun d hd => by injection hd with hd; subst hd; rfl, fun h => by cases h⟩, hS, trivial⟩
    · as_aux_lemma =>
        intro vals a W hS hL
        have e111 : a.tmps.getD 111 undef = .agg #[.int .i64 175, .int .i64 2] := hL.1
        have e112 : a.tmps.getD 112 undef = .agg #[.int .i64 175, .int .i64 2] := hL.2.1
        have e110 : a.tmps.getD 110 undef = .bool true := hL.2.2.1
        clear hL
        refine ⟨true, e110, ?_⟩
        rw [if_pos rfl]
        go_simp
        exact ⟨⟨fun d hd => by injection hd with hd; subst hd; rfl, fun h => by cases h⟩, hS, trivial⟩
    · as_aux_lemma =>
        intro vals a W hS hL
        have e110 : a.tmps.getD 110 undef = .bool true := hL.1
        have e113 : a.tmps.getD 113 undef = .bool true := hL.2.1
        clear hL
        go_simp
        exact ⟨⟨fun d hd => by injection hd with hd; subst hd; rfl, fun h => by cases h⟩, hS, trivial⟩
    · as_aux_lemma =>
        intro vals a W hS hL
        have e114 : a.tmps.getD 114 undef = .bool true := hL.1
        clear hL
        go_simp
        exact ⟨⟨fun d hd => by injection hd with hd; subst hd; rfl, fun h => by cases h⟩, hS, trivial⟩
    · as_aux_lemma =>
        intro vals a W hS hL
        have e3 : a.tmps.getD 3 undef = .pointer (some ⟨w2.heap.size, 0, none⟩) := hL.1
        have e115 : a.tmps.getD 115 undef = .bool true := hL.2.1
        clear hL
        refine ⟨true, e115, ?_⟩
        rw [if_pos rfl]
        have kb : Bk W w2.heap.size 23 #[.int .i64 1, .int .i64 0] := hS.bk (.tail _ (.tail _ (.tail _ (.tail _ (.tail _ (.tail _ (.tail _ (.tail _ (.tail _ (.tail _ (.tail _ (.head _)))))))))))) (.tail _ (.tail _ (.tail _ (.tail _ (.tail _ (.tail _ (.tail _ (.tail _ (.tail _ (.tail _ (.tail _ (.head _))))))))))))
        have f0 := kb.cell 0
        have f1 := kb.cell 1
        clear kb
        go_simp
        exact ⟨⟨fun d hd => by injection hd with hd; subst hd; rfl, fun h => by cases h⟩, hS, trivial⟩
    · as_aux_lemma =>
        intro vals a W hS hL
        have e115 : a.tmps.getD 115 undef = .bool true := hL.1
        clear hL
        refine ⟨true, e115, ?_⟩
        rw [if_pos rfl]
        go_simp
        refine (kI1.out W).mono ?_
        rintro e W' ⟨rfl, hb⟩
        exact ⟨_, rfl, ⟨fun d hd => by injection hd with hd; subst hd; rfl, fun h => by cases h⟩, hS.call hb, trivial⟩
    · as_aux_lemma =>
        intro vals a W hS hL
        have e116 : a.tmps.getD 116 undef = .agg #[.int .i64 1, .int .i64 0] := hL.1
        have e117 : a.tmps.getD 117 undef = .agg #[.int .i64 1, .int .i64 0] := hL.2.1
        have e115 : a.tmps.getD 115 undef = .bool true := hL.2.2.1
        clear hL
        refine ⟨true, e115, ?_⟩
        rw [if_pos rfl]
        go_simp
        exact ⟨⟨fun d hd => by injection hd with hd; subst hd; rfl, fun h => by cases h⟩, hS, trivial⟩
    · as_aux_lemma =>
        intro vals a W hS hL
        have e115 : a.tmps.getD 115 undef = .bool true := hL.1
        have e118 : a.tmps.getD 118 undef = .bool true := hL.2.1
        clear hL
        go_simp
        exact ⟨⟨fun d hd => by injection hd with hd; subst hd; rfl, fun h => by cases h⟩, hS, trivial⟩
    · as_aux_lemma =>
        intro vals a W hS hL
        have e119 : a.tmps.getD 119 undef = .bool true := hL.1
        clear hL
        go_simp
        exact ⟨⟨fun d hd => by injection hd with hd; subst hd; rfl, fun h => by cases h⟩, hS, trivial⟩
    · as_aux_lemma =>
        intro vals a W hS hL
        have e5 : a.tmps.getD 5 undef = .pointer (some ⟨w3.heap.size, 0, none⟩) := hL.1
        have e120 : a.tmps.getD 120 undef = .bool true := hL.2.1
        clear hL
        refine ⟨true, e120, ?_⟩
        rw [if_pos rfl]
        have kb : Bk W w3.heap.size 23 #[.int .i64 (-3), .int .i64 0] := hS.bk (.tail _ (.tail _ (.tail _ (.tail _ (.tail _ (.tail _ (.tail _ (.tail _ (.tail _ (.tail _ (.head _))))))))))) (.tail _ (.tail _ (.tail _ (.tail _ (.tail _ (.tail _ (.tail _ (.tail _ (.tail _ (.tail _ (.head _)))))))))))
        have f0 := kb.cell 0
        have f1 := kb.cell 1
        clear kb
        go_simp
        exact ⟨⟨fun d hd => by injection hd with hd; subst hd; rfl, fun h => by cases h⟩, hS, trivial⟩
    · as_aux_lemma =>
        intro vals a W hS hL
        have e120 : a.tmps.getD 120 undef = .bool true := hL.1
        clear hL
        refine ⟨true, e120, ?_⟩
        rw [if_pos rfl]
        go_simp
        refine (kI2.out W).mono ?_
        rintro e W' ⟨rfl, hb⟩
        exact ⟨_, rfl, ⟨fun d hd => by injection hd with hd; subst hd; rfl, fun h => by cases h⟩, hS.call hb, trivial⟩
    · as_aux_lemma =>
        intro vals a W hS hL
        have e121 : a.tmps.getD 121 undef = .agg #[.int .i64 (-3), .int .i64 0] := hL.1
        have e122 : a.tmps.getD 122 undef = .agg #[.int .i64 (-3), .int .i64 0] := hL.2.1
        have e120 : a.tmps.getD 120 undef = .bool true := hL.2.2.1
        clear hL
        refine ⟨true, e120, ?_⟩
        rw [if_pos rfl]
        go_simp
        exact ⟨⟨fun d hd => by injection hd with hd; subst hd; rfl, fun h => by cases h⟩, hS, trivial⟩
    · as_aux_lemma =>
        intro vals a W hS hL
        have e120 : a.tmps.getD 120 undef = .bool true := hL.1
        have e123 : a.tmps.getD 123 undef = .bool true := hL.2.1
        clear hL
        go_simp
        exact ⟨⟨fun d hd => by injection hd with hd; subst hd; rfl, fun h => by cases h⟩, hS, trivial⟩
    · as_aux_lemma =>
        intro vals a W hS hL
        have e124 : a.tmps.getD 124 undef = .bool true := hL.1
        clear hL
        go_simp
        exact ⟨⟨fun d hd => by injection hd with hd; subst hd; rfl, fun h => by cases h⟩, hS, trivial⟩
    · as_aux_lemma =>
        intro vals a W hS hL
        have e7 : a.tmps.getD 7 undef = .pointer (some ⟨w4.heap.size, 0, none⟩) := hL.1
        have e125 : a.tmps.getD 125 undef = .bool true := hL.2.1
        clear hL
        refine ⟨true, e125, ?_⟩
        rw [if_pos rfl]
        have kb : Bk W w4.heap.size 23 #[.int .i64 666666667, .int .i64 9] := hS.bk (.tail _ (.tail _ (.tail _ (.tail _ (.tail _ (.tail _ (.tail _ (.tail _ (.tail _ (.head _)))))))))) (.tail _ (.tail _ (.tail _ (.tail _ (.tail _ (.tail _ (.tail _ (.tail _ (.tail _ (.head _))))))))))
        have f0 := kb.cell 0
        have f1 := kb.cell 1
        clear kb
        go_simp
        exact ⟨⟨fun d hd => by injection hd with hd; subst hd; rfl, fun h => by cases h⟩, hS, trivial⟩
    · as_aux_lemma =>
        intro vals a W hS hL
        have e125 : a.tmps.getD 125 undef = .bool true := hL.1
        clear hL
        refine ⟨true, e125, ?_⟩
        rw [if_pos rfl]
        go_simp
        exact ⟨⟨fun d hd => by injection hd with hd; subst hd; rfl, fun h => by cases h⟩, hS, trivial⟩
    · as_aux_lemma =>
        intro vals a W hS hL
        have e126 : a.tmps.getD 126 undef = .agg #[.int .i64 666666667, .int .i64 9] := hL.1
        have e127 : a.tmps.getD 127 undef = .agg #[.int .i64 666666667, .int .i64 9] := hL.2.1
        have e125 : a.tmps.getD 125 undef = .bool true := hL.2.2.1
        clear hL
        refine ⟨true, e125, ?_⟩
        rw [if_pos rfl]
        go_simp
        exact ⟨⟨fun d hd => by injection hd with hd; subst hd; rfl, fun h => by cases h⟩, hS, trivial⟩
    · as_aux_lemma =>
        intro vals a W hS hL
        have e125 : a.tmps.getD 125 undef = .bool true := hL.1
        have e128 : a.tmps.getD 128 undef = .bool true := hL.2.1
        clear hL
        go_simp
        exact ⟨⟨fun d hd => by injection hd with hd; subst hd; rfl, fun h => by cases h⟩, hS, trivial⟩
    · as_aux_lemma =>
        intro vals a W hS hL
        have e129 : a.tmps.getD 129 undef = .bool true := hL.1
        clear hL
        go_simp
        exact ⟨⟨fun d hd => by injection hd with hd; subst hd; rfl, fun h => by cases h⟩, hS, trivial⟩
    · as_aux_lemma =>
        intro vals a W hS hL
        have e10 : a.tmps.getD 10 undef = .int .i64 9 := hL.1
        have e130 : a.tmps.getD 130 undef = .bool true := hL.2.1
        clear hL
        refine ⟨true, e130, ?_⟩
        rw [if_pos rfl]
        go_simp
        exact ⟨⟨fun d hd => by injection hd with hd; subst hd; rfl, fun h => by cases h⟩, hS, trivial⟩
    · as_aux_lemma =>
        intro vals a W hS hL
        have e131 : a.tmps.getD 131 undef = .int .i64 9 := hL.1
        have e130 : a.tmps.getD 130 undef = .bool true := hL.2.1
        clear hL
        refine ⟨true, e130, ?_⟩
        rw [if_pos rfl]
        go_simp
        exact ⟨⟨fun d hd => by injection hd with hd; subst hd; rfl, fun h => by cases h⟩, hS, trivial⟩
    · as_aux_lemma =>
        intro vals a W hS hL
        have e130 : a.tmps.getD 130 undef = .bool true := hL.1
        have e132 : a.tmps.getD 132 undef = .bool true := hL.2.1
        clear hL
        go_simp
        exact ⟨⟨fun d hd => by injection hd with hd; subst hd; rfl, fun h => by cases h⟩, hS, trivial⟩
    · as_aux_lemma =>
        intro vals a W hS hL
        have e133 : a.tmps.getD 133 undef = .bool true := hL.1
        clear hL
        go_simp
        exact ⟨⟨fun d hd => by injection hd with hd; subst hd; rfl, fun h => by cases h⟩, hS, trivial⟩
    · as_aux_lemma =>
        intro vals a W hS hL
        have e12 : a.tmps.getD 12 undef = .int .i64 8 := hL.1
        have e134 : a.tmps.getD 134 undef = .bool true := hL.2.1
        clear hL
        refine ⟨true, e134, ?_⟩
        rw [if_pos rfl]
        go_simp
        exact ⟨⟨fun d hd => by injection hd with hd; subst hd; rfl, fun h => by cases h⟩, hS, trivial⟩
    · as_aux_lemma =>
        intro vals a W hS hL
        have e135 : a.tmps.getD 135 undef = .int .i64 8 := hL.1
        have e134 : a.tmps.getD 134 undef = .bool true := hL.2.1
        clear hL
        refine ⟨true, e134, ?_⟩
        rw [if_pos rfl]
        go_simp
        exact ⟨⟨fun d hd => by injection hd with hd; subst hd; rfl, fun h => by cases h⟩, hS, trivial⟩
    · as_aux_lemma =>
        intro vals a W hS hL
        have e134 : a.tmps.getD 134 undef = .bool true := hL.1
        have e136 : a.tmps.getD 136 undef = .bool true := hL.2.1
        clear hL
        go_simp
        exact ⟨⟨fun d hd => by injection hd with hd; subst hd; rfl, fun h => by cases h⟩, hS, trivial⟩
    · as_aux_lemma =>
        intro vals a W hS hL
        have e137 : a.tmps.getD 137 undef = .bool true := hL.1
        clear hL
        go_simp
        exact ⟨⟨fun d hd => by injection hd with hd; subst hd; rfl, fun h => by cases h⟩, hS, trivial⟩
    · as_aux_lemma =>
        intro vals a W hS hL
        have e13 : a.tmps.getD 13 undef = .pointer (some ⟨w7.heap.size, 0, none⟩) := hL.1
        have e138 : a.tmps.getD 138 undef = .bool true := hL.2.1
        clear hL
        refine ⟨true, e138, ?_⟩
        rw [if_pos rfl]
        have kb : Bk W w7.heap.size 23 #[.int .i64 (-13), .int .i64 1] := hS.bk (.tail _ (.tail _ (.tail _ (.tail _ (.tail _ (.tail _ (.head _))))))) (.tail _ (.tail _ (.tail _ (.tail _ (.tail _ (.tail _ (.head _)))))))
        have f0 := kb.cell 0
        have f1 := kb.cell 1
        clear kb
        go_simp
        exact ⟨⟨fun d hd => by injection hd with hd; subst hd; rfl, fun h => by cases h⟩, hS, trivial⟩
    · as_aux_lemma =>
        intro vals a W hS hL
        have e138 : a.tmps.getD 138 undef = .bool true := hL.1
        clear hL
        refine ⟨true, e138, ?_⟩
        rw [if_pos rfl]
        go_simp
        exact ⟨⟨fun d hd => by injection hd with hd; subst hd; rfl, fun h => by cases h⟩, hS, trivial⟩
    · as_aux_lemma =>
        intro vals a W hS hL
        have e139 : a.tmps.getD 139 undef = .agg #[.int .i64 (-13), .int .i64 1] := hL.1
        have e140 : a.tmps.getD 140 undef = .agg #[.int .i64 (-13), .int .i64 1] := hL.2.1
        have e138 : a.tmps.getD 138 undef = .bool true := hL.2.2.1
        clear hL
        refine ⟨true, e138, ?_⟩
        rw [if_pos rfl]
        go_simp
        exact ⟨⟨fun d hd => by injection hd with hd; subst hd; rfl, fun h => by cases h⟩, hS, trivial⟩
    · as_aux_lemma =>
        intro vals a W hS hL
        have e138 : a.tmps.getD 138 undef = .bool true := hL.1
        have e141 : a.tmps.getD 141 undef = .bool true := hL.2.1
        clear hL
        go_simp
        exact ⟨⟨fun d hd => by injection hd with hd; subst hd; rfl, fun h => by cases h⟩, hS, trivial⟩
    · as_aux_lemma =>
        intro vals a W hS hL
        have e142 : a.tmps.getD 142 undef = .bool true := hL.1
        clear hL
        go_simp
        exact ⟨⟨fun d hd => by injection hd with hd; subst hd; rfl, fun h => by cases h⟩, hS, trivial⟩
    · as_aux_lemma =>
        intro vals a W hS hL
        have e15 : a.tmps.getD 15 undef = .pointer (some ⟨w8.heap.size, 0, none⟩) := hL.1
        have e143 : a.tmps.getD 143 undef = .bool true := hL.2.1
        clear hL
        refine ⟨true, e143, ?_⟩
        rw [if_pos rfl]
        have kb : Bk W w8.heap.size 23 #[.int .i64 (-2), .int .i64 0] := hS.bk (.tail _ (.tail _ (.tail _ (.tail _ (.tail _ (.head _)))))) (.tail _ (.tail _ (.tail _ (.tail _ (.tail _ (.head _))))))
        have f0 := kb.cell 0
        have f1 := kb.cell 1
        clear kb
        go_simp
        exact ⟨⟨fun d hd => by injection hd with hd; subst hd; rfl, fun h => by cases h⟩, hS, trivial⟩
    · as_aux_lemma =>
        intro vals a W hS hL
        have e143 : a.tmps.getD 143 undef = .bool true := hL.1
        clear hL
        refine ⟨true, e143, ?_⟩
        rw [if_pos rfl]
        go_simp
        refine (kI3.out W).mono ?_
        rintro e W' ⟨rfl, hb⟩
        exact ⟨_, rfl, ⟨fun d hd => by injection hd with hd; subst hd; rfl, fun h => by cases h⟩, hS.call hb, trivial⟩
    · as_aux_lemma =>
        intro vals a W hS hL
        have e144 : a.tmps.getD 144 undef = .agg #[.int .i64 (-2), .int .i64 0] := hL.1
        have e145 : a.tmps.getD 145 undef = .agg #[.int .i64 (-2), .int .i64 0] := hL.2.1
        have e143 : a.tmps.getD 143 undef = .bool true := hL.2.2.1
        clear hL
        refine ⟨true, e143, ?_⟩
        rw [if_pos rfl]
        go_simp
        exact ⟨⟨fun d hd => by injection hd with hd; subst hd; rfl, fun h => by cases h⟩, hS, trivial⟩
    · as_aux_lemma =>
        intro vals a W hS hL
        have e143 : a.tmps.getD 143 undef = .bool true := hL.1
        have e146 : a.tmps.getD 146 undef = .bool true := hL.2.1
        clear hL
        go_simp
        exact ⟨⟨fun d hd => by injection hd with hd; subst hd; rfl, fun h => by cases h⟩, hS, trivial⟩
    · as_aux_lemma =>
        intro vals a W hS hL
        have e147 : a.tmps.getD 147 undef = .bool true := hL.1
        clear hL
        go_simp
        exact ⟨⟨fun d hd => by injection hd with hd; subst hd; rfl, fun h => by cases h⟩, hS, trivial⟩
    · as_aux_lemma =>
        intro vals a W hS hL
        have e17 : a.tmps.getD 17 undef = .pointer (some ⟨w9.heap.size, 0, none⟩) := hL.1
        have e148 : a.tmps.getD 148 undef = .bool true := hL.2.1
        clear hL
        refine ⟨true, e148, ?_⟩
        rw [if_pos rfl]
        have kb : Bk W w9.heap.size 23 #[.int .i64 200, .int .i64 0] := hS.bk (.tail _ (.tail _ (.tail _ (.tail _ (.head _))))) (.tail _ (.tail _ (.tail _ (.tail _ (.head _)))))
        have f0 := kb.cell 0
        have f1 := kb.cell 1
        clear kb
        go_simp
        exact ⟨⟨fun d hd => by injection hd with hd; subst hd; rfl, fun h => by cases h⟩, hS, trivial⟩
    · as_aux_lemma =>
        intro vals a W hS hL
        have e148 : a.tmps.getD 148 undef = .bool true := hL.1
        clear hL
        refine ⟨true, e148, ?_⟩
        rw [if_pos rfl]
        go_simp
        refine (kI4.out W).mono ?_
        rintro e W' ⟨rfl, hb⟩
        exact ⟨_, rfl, ⟨fun d hd => by injection hd with hd; subst hd; rfl, fun h => by cases h⟩, hS.call hb, trivial⟩
    · as_aux_lemma =>
        intro vals a W hS hL
        have e149 : a.tmps.getD 149 undef = .agg #[.int .i64 200, .int .i64 0] := hL.1
        have e150 : a.tmps.getD 150 undef = .agg #[.int .i64 200, .int .i64 0] := hL.2.1
        have e148 : a.tmps.getD 148 undef = .bool true := hL.2.2.1
        clear hL
        refine ⟨true, e148, ?_⟩
        rw [if_pos rfl]
        go_simp
        exact ⟨⟨fun d hd => by injection hd with hd; subst hd; rfl, fun h => by cases h⟩, hS, trivial⟩
    · as_aux_lemma =>
        intro vals a W hS hL
        have e148 : a.tmps.getD 148 undef = .bool true := hL.1
        have e151 : a.tmps.getD 151 undef = .bool true := hL.2.1
        clear hL
        go_simp
        exact ⟨⟨fun d hd => by injection hd with hd; subst hd; rfl, fun h => by cases h⟩, hS, trivial⟩
    · as_aux_lemma =>
        intro vals a W hS hL
        have e152 : a.tmps.getD 152 undef = .bool true := hL.1
        clear hL
        go_simp
        exact ⟨⟨fun d hd => by injection hd with hd; subst hd; rfl, fun h => by cases h⟩, hS, trivial⟩
    · as_aux_lemma =>
        intro vals a W hS hL
        have e19 : a.tmps.getD 19 undef = .pointer (some ⟨w10.heap.size, 0, none⟩) := hL.1
        have e153 : a.tmps.getD 153 undef = .bool true := hL.2.1
        clear hL
        refine ⟨true, e153, ?_⟩
        rw [if_pos rfl]
        have kb : Bk W w10.heap.size 23 #[.int .i64 (-5), .int .i64 2] := hS.bk (.tail _ (.tail _ (.tail _ (.head _)))) (.tail _ (.tail _ (.tail _ (.head _))))
        have f0 := kb.cell 0
        have f1 := kb.cell 1
        clear kb
        go_simp
        exact ⟨⟨fun d hd => by injection hd with hd; subst hd; rfl, fun h => by cases h⟩, hS, trivial⟩
    · as_aux_lemma =>
        intro vals a W hS hL
        have e153 : a.tmps.getD 153 undef = .bool true := hL.1
        clear hL
        refine ⟨true, e153, ?_⟩
        rw [if_pos rfl]
        go_simp
        exact ⟨⟨fun d hd => by injection hd with hd; subst hd; rfl, fun h => by cases h⟩, hS, trivial⟩
    · as_aux_lemma =>
        intro vals a W hS hL
        have e154 : a.tmps.getD 154 undef = .agg #[.int .i64 (-5), .int .i64 2] := hL.1
        have e155 : a.tmps.getD 155 undef = .agg #[.int .i64 (-5), .int .i64 2] := hL.2.1
        have e153 : a.tmps.getD 153 undef = .bool true := hL.2.2.1
        clear hL
        refine ⟨true, e153, ?_⟩
        rw [if_pos rfl]
        go_simp
        exact ⟨⟨fun d hd => by injection hd with hd; subst hd; rfl, fun h => by cases h⟩, hS, trivial⟩
    · as_aux_lemma =>
        intro vals a W hS hL
        have e153 : a.tmps.getD 153 undef = .bool true := hL.1
        have e156 : a.tmps.getD 156 undef = .bool true := hL.2.1
        clear hL
        go_simp
        exact ⟨⟨fun d hd => by injection hd with hd; subst hd; rfl, fun h => by cases h⟩, hS, trivial⟩
    · as_aux_lemma =>
        intro vals a W hS hL
        have e157 : a.tmps.getD 157 undef = .bool true := hL.1
        clear hL
        go_simp
        exact ⟨⟨fun d hd => by injection hd with hd; subst hd; rfl, fun h => by cases h⟩, hS, trivial⟩
    · as_aux_lemma =>
        intro vals a W hS hL
        have e19 : a.tmps.getD 19 undef = .pointer (some ⟨w10.heap.size, 0, none⟩) := hL.1
        have e158 : a.tmps.getD 158 undef = .bool true := hL.2.1
        clear hL
        refine ⟨true, e158, ?_⟩
        rw [if_pos rfl]
        have kb : Bk W w10.heap.size 23 #[.int .i64 (-5), .int .i64 2] := hS.bk (.tail _ (.tail _ (.tail _ (.head _)))) (.tail _ (.tail _ (.tail _ (.head _))))
        have f0 := kb.cell 0
        have f1 := kb.cell 1
        clear kb
        go_simp
        exact ⟨⟨fun d hd => by injection hd with hd; subst hd; rfl, fun h => by cases h⟩, hS, trivial⟩
    · as_aux_lemma =>
        intro vals a W hS hL
        have e159 : a.tmps.getD 159 undef = .agg #[.int .i64 (-5), .int .i64 2] := hL.1
        have e158 : a.tmps.getD 158 undef = .bool true := hL.2.1
        clear hL
        refine ⟨true, e158, ?_⟩
        rw [if_pos rfl]
        go_simp
        refine (kX1.out W).mono ?_
        rintro e W' ⟨rfl, hb⟩
        exact ⟨_, rfl, ⟨fun d hd => by injection hd with hd; subst hd; rfl, fun h => by cases h⟩, hS.call hb, trivial⟩
    · as_aux_lemma =>
        intro vals a W hS hL
        have e160 : a.tmps.getD 160 undef = .string ⟨#[45, 48, 46, 48, 53]⟩ := hL.1
        have e158 : a.tmps.getD 158 undef = .bool true := hL.2.1
        clear hL
        refine ⟨true, e158, ?_⟩
        rw [if_pos rfl]
        go_simp
        exact ⟨⟨fun d hd => by injection hd with hd; subst hd; rfl, fun h => by cases h⟩, hS, trivial⟩
    · as_aux_lemma =>
        intro vals a W hS hL
        have e158 : a.tmps.getD 158 undef = .bool true := hL.1
        have e161 : a.tmps.getD 161 undef = .bool true := hL.2.1
        clear hL
        go_simp
        exact ⟨⟨fun d hd => by injection hd with hd; subst hd; rfl, fun h => by cases h⟩, hS, trivial⟩
    · as_aux_lemma =>
        intro vals a W hS hL
        have e162 : a.tmps.getD 162 undef = .bool true := hL.1
        clear hL
        go_simp
        exact ⟨⟨fun d hd => by injection hd with hd; subst hd; rfl, fun h => by cases h⟩, hS, trivial⟩
    · as_aux_lemma =>
        intro vals a W hS hL
        have e22 : a.tmps.getD 22 undef = .int .i64 1 := hL.1
        have e163 : a.tmps.getD 163 undef = .bool true := hL.2.1
        clear hL
        refine ⟨true, e163, ?_⟩
        rw [if_pos rfl]
        go_simp
        exact ⟨⟨fun d hd => by injection hd with hd; subst hd; rfl, fun h => by cases h⟩, hS, trivial⟩
    · as_aux_lemma =>
        intro vals a W hS hL
        have e164 : a.tmps.getD 164 undef = .int .i64 1 := hL.1
        have e163 : a.tmps.getD 163 undef = .bool true := hL.2.1
        clear hL
        refine ⟨true, e163, ?_⟩
        rw [if_pos rfl]
        go_simp
        exact ⟨⟨fun d hd => by injection hd with hd; subst hd; rfl, fun h => by cases h⟩, hS, trivial⟩
    · as_aux_lemma =>
        intro vals a W hS hL
        have e163 : a.tmps.getD 163 undef = .bool true := hL.1
        have e165 : a.tmps.getD 165 undef = .bool true := hL.2.1
        clear hL
        go_simp
        exact ⟨⟨fun d hd => by injection hd with hd; subst hd; rfl, fun h => by cases h⟩, hS, trivial⟩
    · as_aux_lemma =>
        intro vals a W hS hL
        have e166 : a.tmps.getD 166 undef = .bool true := hL.1
        clear hL
        go_simp
        exact ⟨⟨fun d hd => by injection hd with hd; subst hd; rfl, fun h => by cases h⟩, hS, trivial⟩
    · as_aux_lemma =>
        intro vals a W hS hL
        have e24 : a.tmps.getD 24 undef = .int .i64 2 := hL.1
        have e167 : a.tmps.getD 167 undef = .bool true := hL.2.1
        clear hL
        refine ⟨true, e167, ?_⟩
        rw [if_pos rfl]
        go_simp
        exact ⟨⟨fun d hd => by injection hd with hd; subst hd; rfl, fun h => by cases h⟩, hS, trivial⟩
    · as_aux_lemma =>
        intro vals a W hS hL
        have e168 : a.tmps.getD 168 undef = .int .i64 2 := hL.1
        have e167 : a.tmps.getD 167 undef = .bool true := hL.2.1
        clear hL
        refine ⟨true, e167, ?_⟩
        rw [if_pos rfl]
        go_simp
        exact ⟨⟨fun d hd => by injection hd with hd; subst hd; rfl, fun h => by cases h⟩, hS, trivial⟩
    · as_aux_lemma =>
        intro vals a W hS hL
        have e167 : a.tmps.getD 167 undef = .bool true := hL.1
        have e169 : a.tmps.getD 169 undef = .bool true := hL.2.1
        clear hL
        go_simp
        exact ⟨⟨fun d hd => by injection hd with hd; subst hd; rfl, fun h => by cases h⟩, hS, trivial⟩
    · as_aux_lemma =>
        intro vals a W hS hL
        have e170 : a.tmps.getD 170 undef = .bool true := hL.1
        clear hL
        go_simp
        exact ⟨⟨fun d hd => by injection hd with hd; subst hd; rfl, fun h => by cases h⟩, hS, trivial⟩
    · as_aux_lemma =>
        intro vals a W hS hL
        have e26 : a.tmps.getD 26 undef = .int .i64 8 := hL.1
        have e171 : a.tmps.getD 171 undef = .bool true := hL.2.1
        clear hL
        refine ⟨true, e171, ?_⟩
        rw [if_pos rfl]
        go_simp
        exact ⟨⟨fun d hd => by injection hd with hd; subst hd; rfl, fun h => by cases h⟩, hS, trivial⟩
    · as_aux_lemma =>
        intro vals a W hS hL
        have e172 : a.tmps.getD 172 undef = .int .i64 8 := hL.1
        have e171 : a.tmps.getD 171 undef = .bool true := hL.2.1
        clear hL
        refine ⟨true, e171, ?_⟩
        rw [if_pos rfl]
        go_simp
        exact ⟨⟨fun d hd => by injection hd with hd; subst hd; rfl, fun h => by cases h⟩, hS, trivial⟩
    · as_aux_lemma =>
        intro vals a W hS hL
        have e171 : a.tmps.getD 171 undef = .bool true := hL.1
        have e173 : a.tmps.getD 173 undef = .bool true := hL.2.1
        clear hL
        go_simp
        exact ⟨⟨fun d hd => by injection hd with hd; subst hd; rfl, fun h => by cases h⟩, hS, trivial⟩
    · as_aux_lemma =>
        intro vals a W hS hL
        have e174 : a.tmps.getD 174 undef = .bool true := hL.1
        clear hL
        go_simp
        exact ⟨⟨fun d hd => by injection hd with hd; subst hd; rfl, fun h => by cases h⟩, hS, trivial⟩
    · as_aux_lemma =>
        intro vals a W hS hL
        have e1 : a.tmps.getD 1 undef = .pointer (some ⟨w1.heap.size, 0, none⟩) := hL.1
        have e175 : a.tmps.getD 175 undef = .bool true := hL.2.1
        clear hL
        refine ⟨true, e175, ?_⟩
        rw [if_pos rfl]
        have kb : Bk W w1.heap.size 23 #[.int .i64 175, .int .i64 2] := hS.bk (.tail _ (.tail _ (.tail _ (.tail _ (.tail _ (.tail _ (.tail _ (.tail _ (.tail _ (.tail _ (.tail _ (.tail _ (.head _))))))))))))) (.tail _ (.tail _ (.tail _ (.tail _ (.tail _ (.tail _ (.tail _ (.tail _ (.tail _ (.tail _ (.tail _ (.tail _ (.head _)))))))))))))
        have f0 := kb.cell 0
        have f1 := kb.cell 1
        clear kb
        go_simp
        exact ⟨⟨fun d hd => by injection hd with hd; subst hd; rfl, fun h => by cases h⟩, hS, trivial⟩
    · as_aux_lemma =>
        intro vals a W hS hL
        have e3 : a.tmps.getD 3 undef = .pointer (some ⟨w2.heap.size, 0, none⟩) := hL.1
        have e175 : a.tmps.getD 175 undef = .bool true := hL.2.1
        clear hL
        refine ⟨true, e175, ?_⟩
        rw [if_pos rfl]
        have kb : Bk W w2.heap.size 23 #[.int .i64 1, .int .i64 0] := hS.bk (.tail _ (.tail _ (.tail _ (.tail _ (.tail _ (.tail _ (.tail _ (.tail _ (.tail _ (.tail _ (.tail _ (.head _)))))))))))) (.tail _ (.tail _ (.tail _ (.tail _ (.tail _ (.tail _ (.tail _ (.tail _ (.tail _ (.tail _ (.tail _ (.head _))))))))))))
        have f0 := kb.cell 0
        have f1 := kb.cell 1
        clear kb
        go_simp
        exact ⟨⟨fun d hd => by injection hd with hd; subst hd; rfl, fun h => by cases h⟩, hS, trivial⟩
    · as_aux_lemma =>
        intro vals a W hS hL
        have e176 : a.tmps.getD 176 undef = .agg #[.int .i64 175, .int .i64 2] := hL.1
        have e177 : a.tmps.getD 177 undef = .agg #[.int .i64 1, .int .i64 0] := hL.2.1
        have e175 : a.tmps.getD 175 undef = .bool true := hL.2.2.1
        clear hL
        refine ⟨true, e175, ?_⟩
        rw [if_pos rfl]
        go_simp
        refine (kX2.out W).mono ?_
        rintro e W' ⟨rfl, hb⟩
        exact ⟨_, rfl, ⟨fun d hd => by injection hd with hd; subst hd; rfl, fun h => by cases h⟩, hS.call hb, trivial⟩
    · as_aux_lemma =>
        intro vals a W hS hL
        have e178 : a.tmps.getD 178 undef = .int .i64 1 := hL.1
        have e175 : a.tmps.getD 175 undef = .bool true := hL.2.1
        clear hL
        refine ⟨true, e175, ?_⟩
        rw [if_pos rfl]
        go_simp
        exact ⟨⟨fun d hd => by injection hd with hd; subst hd; rfl, fun h => by cases h⟩, hS, trivial⟩
    · as_aux_lemma =>
        intro vals a W hS hL
        have e175 : a.tmps.getD 175 undef = .bool true := hL.1
        have e179 : a.tmps.getD 179 undef = .bool true := hL.2.1
        clear hL
        go_simp
        exact ⟨⟨fun d hd => by injection hd with hd; subst hd; rfl, fun h => by cases h⟩, hS, trivial⟩
    · as_aux_lemma =>
        intro vals a W hS hL
        have e180 : a.tmps.getD 180 undef = .bool true := hL.1
        clear hL
        go_simp
        exact ⟨⟨fun d hd => by injection hd with hd; subst hd; rfl, fun h => by cases h⟩, hS, trivial⟩
    · as_aux_lemma =>
        intro vals a W hS hL
        have e181 : a.tmps.getD 181 undef = .bool true := hL.1
        clear hL
        refine ⟨true, e181, ?_⟩
        rw [if_pos rfl]
        go_simp
        exact ⟨⟨fun d hd => by injection hd with hd; subst hd; rfl, fun h => by cases h⟩, hS, trivial⟩
    · as_aux_lemma =>
        intro vals a W hS hL
        have e182 : a.tmps.getD 182 undef = .agg #[.int .i64 500, .int .i64 2] := hL.1
        have e181 : a.tmps.getD 181 undef = .bool true := hL.2.1
        clear hL
        refine ⟨true, e181, ?_⟩
        rw [if_pos rfl]
        go_simp
        refine (kX3.out W).mono ?_
        rintro e W' ⟨rfl, hb⟩
        exact ⟨_, rfl, ⟨fun d hd => by injection hd with hd; subst hd; rfl, fun h => by cases h⟩, hS.call hb, trivial⟩
    · as_aux_lemma =>
        intro vals a W hS hL
        have e181 : a.tmps.getD 181 undef = .bool true := hL.1
        clear hL
        refine ⟨true, e181, ?_⟩
        rw [if_pos rfl]
        go_simp
        refine (kI5.out W).mono ?_
        rintro e W' ⟨rfl, hb⟩
        exact ⟨_, rfl, ⟨fun d hd => by injection hd with hd; subst hd; rfl, fun h => by cases h⟩, hS.call hb, trivial⟩
    · as_aux_lemma =>
        intro vals a W hS hL
        have e183 : a.tmps.getD 183 undef = .agg #[.int .i64 5, .int .i64 0] := hL.1
        have e184 : a.tmps.getD 184 undef = .agg #[.int .i64 5, .int .i64 0] := hL.2.1
        have e181 : a.tmps.getD 181 undef = .bool true := hL.2.2.1
        clear hL
        refine ⟨true, e181, ?_⟩
        rw [if_pos rfl]
        go_simp
        exact ⟨⟨fun d hd => by injection hd with hd; subst hd; rfl, fun h => by cases h⟩, hS, trivial⟩
    · as_aux_lemma =>
        intro vals a W hS hL
        have e181 : a.tmps.getD 181 undef = .bool true := hL.1
        have e185 : a.tmps.getD 185 undef = .bool true := hL.2.1
        clear hL
        go_simp
        exact ⟨⟨fun d hd => by injection hd with hd; subst hd; rfl, fun h => by cases h⟩, hS, trivial⟩
    · as_aux_lemma =>
        intro vals a W hS hL
        have e186 : a.tmps.getD 186 undef = .bool true := hL.1
        clear hL
        go_simp
        exact ⟨⟨fun d hd => by injection hd with hd; subst hd; rfl, fun h => by cases h⟩, hS, trivial⟩
    · as_aux_lemma =>
        intro vals a W hS hL
        have e187 : a.tmps.getD 187 undef = .bool true := hL.1
        clear hL
        refine ⟨true, e187, ?_⟩
        rw [if_pos rfl]
        go_simp
        exact ⟨⟨fun d hd => by injection hd with hd; subst hd; rfl, fun h => by cases h⟩, hS, trivial⟩
    · as_aux_lemma =>
        intro vals a W hS hL
        have e188 : a.tmps.getD 188 undef = .agg #[.int .i64 10, .int .i64 1] := hL.1
        have e187 : a.tmps.getD 187 undef = .bool true := hL.2.1
        clear hL
        refine ⟨true, e187, ?_⟩
        rw [if_pos rfl]
        go_simp
        refine (kK1.out W).mono ?_
        rintro e W' ⟨rfl, hb⟩
        exact ⟨_, rfl, ⟨fun d hd => by injection hd with hd; subst hd; rfl, fun h => by cases h⟩, hS.call hb, trivial⟩
    · as_aux_lemma =>
        intro vals a W hS hL
        have e189 : a.tmps.getD 189 undef = .int .i64 1 := hL.1
        have e187 : a.tmps.getD 187 undef = .bool true := hL.2.1
        clear hL
        refine ⟨true, e187, ?_⟩
        rw [if_pos rfl]
        go_simp
        exact ⟨⟨fun d hd => by injection hd with hd; subst hd; rfl, fun h => by cases h⟩, hS, trivial⟩
    · as_aux_lemma =>
        intro vals a W hS hL
        have e187 : a.tmps.getD 187 undef = .bool true := hL.1
        have e190 : a.tmps.getD 190 undef = .bool true := hL.2.1
        clear hL
        go_simp
        exact ⟨⟨fun d hd => by injection hd with hd; subst hd; rfl, fun h => by cases h⟩, hS, trivial⟩
    · as_aux_lemma =>
        intro vals a W hS hL
        have e191 : a.tmps.getD 191 undef = .bool true := hL.1
        clear hL
        go_simp
        exact ⟨⟨fun d hd => by injection hd with hd; subst hd; rfl, fun h => by cases h⟩, hS, trivial⟩
    · as_aux_lemma =>
        intro vals a W hS hL
        have e192 : a.tmps.getD 192 undef = .bool true := hL.1
        clear hL
        refine ⟨true, e192, ?_⟩
        rw [if_pos rfl]
        go_simp
        exact ⟨⟨fun d hd => by injection hd with hd; subst hd; rfl, fun h => by cases h⟩, hS, trivial⟩
    · as_aux_lemma =>
        intro vals a W hS hL
        have e193 : a.tmps.getD 193 undef = .agg #[.int .i64 0, .int .i64 1] := hL.1
        have e192 : a.tmps.getD 192 undef = .bool true := hL.2.1
        clear hL
        refine ⟨true, e192, ?_⟩
        rw [if_pos rfl]
        go_simp
        refine (kK2.out W).mono ?_
        rintro e W' ⟨rfl, hb⟩
        exact ⟨_, rfl, ⟨fun d hd => by injection hd with hd; subst hd; rfl, fun h => by cases h⟩, hS.call hb, trivial⟩
    · as_aux_lemma =>
        intro vals a W hS hL
        have e194 : a.tmps.getD 194 undef = .int .i64 1 := hL.1
        have e192 : a.tmps.getD 192 undef = .bool true := hL.2.1
        clear hL
        refine ⟨true, e192, ?_⟩
        rw [if_pos rfl]
        go_simp
        exact ⟨⟨fun d hd => by injection hd with hd; subst hd; rfl, fun h => by cases h⟩, hS, trivial⟩
    · as_aux_lemma =>
        intro vals a W hS hL
        have e192 : a.tmps.getD 192 undef = .bool true := hL.1
        have e195 : a.tmps.getD 195 undef = .bool true := hL.2.1
        clear hL
        go_simp
        exact ⟨⟨fun d hd => by injection hd with hd; subst hd; rfl, fun h => by cases h⟩, hS, trivial⟩
    · as_aux_lemma =>
        intro vals a W hS hL
        have e196 : a.tmps.getD 196 undef = .bool true := hL.1
        clear hL
        go_simp
        exact ⟨⟨fun d hd => by injection hd with hd; subst hd; rfl, fun h => by cases h⟩, hS, trivial⟩
  · intro a W' vals hd hsz hT hF hv _ hS
    obtain rfl : vals = [] := List.eq_nil_of_length_eq_zero hv
    have hB : SB w 0 ([(w13.heap.size, 23, #[.int .i64 0, .int .i64 0]), (w12.heap.size, 23, #[.int .i64 0, .int .i64 0]), (w11.heap.size, 23, #[.int .i64 0, .int .i64 0]), (w10.heap.size, 23, #[.int .i64 (-5), .int .i64 2]), (w9.heap.size, 23, #[.int .i64 200, .int .i64 0]), (w8.heap.size, 23, #[.int .i64 (-2), .int .i64 0]), (w7.heap.size, 23, #[.int .i64 (-13), .int .i64 1]), (w6.heap.size, 23, #[.int .i64 0, .int .i64 0]), (w5.heap.size, 23, #[.int .i64 0, .int .i64 0]), (w4.heap.size, 23, #[.int .i64 666666667, .int .i64 9]), (w3.heap.size, 23, #[.int .i64 (-3), .int .i64 0]), (w2.heap.size, 23, #[.int .i64 1, .int .i64 0]), (w1.heap.size, 23, #[.int .i64 175, .int .i64 2])] : List (Nat × TypeId × Array Value)) W' := hS
    clear hS
    have e0 : a.tmps.getD 0 undef = .bool true := hT 0 (by simp)
    clear hT hF
    go_wp2
    refine bodyPost_ret (v := .bool true) ?_ hd ⟨rfl, hB.bel⟩
    rw [Array.getD_eq_getD_getElem?] at e0
    simp [results, Tryz.results4, go_sem, e0]
end Go.Proofs.YtgepipapppdhfaaGreatDoor
