/- cashbooklaw9.known by its contract: it returns true. Condition: strconv.FormatUint keeps its contract (none of it is asked). -/
import Derived.Test.YtmbjmgmnicacpaaGreatDoorV2
import Derived.Test.YtmbjmgmnicacpaaGreatDoorV5
namespace Go.Proofs.YtmbjmgmnicacpaaGreatDoor
open Go.RowKit

theorem lN_any {w : World} (n : Int) :
    Calls Tryz.prog 23 #[.int .i64 n] w fun x w' => x = .returned (.agg #[.int .i64 1, .int .i64 n, .int .i64 0, .string ⟨#[]⟩, .bool false, .int .i64 0]) ∧ Below w.heap.size w w' := by
  have HI := Lib.hid (fun W : World => int_any (w := W) (n := n))
  have HB := Lib.hid (sb1 w 25 #[.int .i64 0, .int .i64 0, .int .i64 0, .string ⟨#[]⟩, .bool false, .int .i64 0])
  go_enter Tryz.func23, Tryz.ntmps23
  go_wp2_with fail
  refine (HI.out _).mono ?_
  rintro x w1 ⟨rfl, hb⟩
  have hB := HB.out.call hb
  have hF := hB.put6 (i := 0) rfl (by omega) (by simp [butBox]) (.int .i64 1 : Value) (.int .i64 n : Value) (.int .i64 0 : Value) (.string ⟨#[]⟩ : Value) (.bool false : Value) (.int .i64 0 : Value)
  have hbel := hF.bel
  have kr := hB.box (i := 0) rfl
  have cr0 := kr.cell 0
  have zr0 := kr.frozen 0
  have cr1 := kr.cell 1
  have zr1 := kr.frozen 1
  have cr2 := kr.cell 2
  have zr2 := kr.frozen 2
  have cr3 := kr.cell 3
  have zr3 := kr.frozen 3
  have cr4 := kr.cell 4
  have zr4 := kr.frozen 4
  have cr5 := kr.cell 5
  have zr5 := kr.frozen 5
  clear kr
  clear hb HB HI hB hF
  go_wp2
  refine bodyPost_ret (v := .agg #[.int .i64 1, .int .i64 n, .int .i64 0, .string ⟨#[]⟩, .bool false, .int .i64 0]) ?_ rfl ⟨rfl, hbel⟩
  simp [results, Tryz.results23, go_sem, cr0, cr1, cr2, cr3, cr4, cr5]

set_option maxRecDepth 100000 in
set_option maxHeartbeats 8000000 in
theorem known9_any {w : World} :
    Calls Tryz.prog 4 #[] w fun e w' => e = .returned (.bool true) ∧ Below w.heap.size w w' := by
  have HS1 : Hid (∀ W : World, Calls Tryz.prog 20 #[.string ⟨#[49, 46, 53]⟩] W fun x w' => x = .returned (.agg #[.int .i64 2, .int .i64 0, .int .i64 0, .string ⟨#[49, 46, 53]⟩, .bool false, .int .i64 0]) ∧ Below W.heap.size W w') := Lib.hid (fun W => lS_any _)
  have HN1 : Hid (∀ W : World, Calls Tryz.prog 9 #[.agg #[.int .i64 2, .int .i64 0, .int .i64 0, .string ⟨#[49, 46, 53]⟩, .bool false, .int .i64 0]] W fun x w' => x = .returned (.tuple #[.agg #[.int .i64 15, .int .i64 1], .agg #[.int .i64 0, .int .i64 0, .int .i64 0, .string ⟨#[]⟩, .bool false, .int .i64 0], .bool true]) ∧ Below W.heap.size W w') := Lib.hid (fun W => number_str (fun W => by
    have := parse_l (w := W) [49, 46, 53] (by decide)
    unfold ParseTo at this
    rw [show pD [49, 46, 53] = ⟨15, 1, 0⟩ from by kernel_rfl] at this
    exact this))
  have HS2 : Hid (∀ W : World, Calls Tryz.prog 20 #[.string ⟨#[120]⟩] W fun x w' => x = .returned (.agg #[.int .i64 2, .int .i64 0, .int .i64 0, .string ⟨#[120]⟩, .bool false, .int .i64 0]) ∧ Below W.heap.size W w') := Lib.hid (fun W => lS_any _)
  have HN2 : Hid (∀ W : World, Calls Tryz.prog 9 #[.agg #[.int .i64 2, .int .i64 0, .int .i64 0, .string ⟨#[120]⟩, .bool false, .int .i64 0]] W fun x w' => x = .returned (.tuple #[.agg #[.int .i64 0, .int .i64 0], .agg #[.int .i64 4, .int .i64 0, .int .i64 0, .string ⟨#[]⟩, .bool false, .int .i64 15], .bool false]) ∧ Below W.heap.size W w') := Lib.hid (fun W => number_none (e := 2) (by decide) (fun W => by
    have := parse_l (w := W) [120] (by decide)
    unfold ParseTo at this
    rw [show pD [120] = ⟨0, 0, 2⟩ from by kernel_rfl] at this
    exact this))
  have HN3 : Hid (∀ W : World, Calls Tryz.prog 9 #[.agg #[.int .i64 3, .int .i64 0, .int .i64 0, .string ⟨#[]⟩, .bool true, .int .i64 0]] W fun x w' => x = .returned (.tuple #[.agg #[.int .i64 1, .int .i64 0], .agg #[.int .i64 0, .int .i64 0, .int .i64 0, .string ⟨#[]⟩, .bool false, .int .i64 0], .bool true]) ∧ Below W.heap.size W w') := Lib.hid (fun W => number_bool true)
  have HW1 : Hid (∀ W : World, Calls Tryz.prog 12 #[.agg #[.int .i64 3, .int .i64 0, .int .i64 0, .string ⟨#[]⟩, .bool true, .int .i64 0]] W fun x w' => x = .returned (.tuple #[.string ⟨#[84, 82, 85, 69]⟩, .agg #[.int .i64 0, .int .i64 0, .int .i64 0, .string ⟨#[]⟩, .bool false, .int .i64 0], .bool true]) ∧ Below W.heap.size W w') := Lib.hid (fun W => words_bool true)
  have HF42 : Hid (∀ W : World, Calls Tryz.prog 21 #[.int .i64 42] W fun x w' => x = .returned (.agg #[.int .i64 4, .int .i64 0, .int .i64 0, .string ⟨#[]⟩, .bool false, .int .i64 42]) ∧ Below W.heap.size W w') := Lib.hid (fun W => fault_any 42)
  have HW2 : Hid (∀ W : World, Calls Tryz.prog 12 #[.agg #[.int .i64 4, .int .i64 0, .int .i64 0, .string ⟨#[]⟩, .bool false, .int .i64 42]] W fun x w' => x = .returned (.tuple #[.string ⟨#[]⟩, .agg #[.int .i64 4, .int .i64 0, .int .i64 0, .string ⟨#[]⟩, .bool false, .int .i64 42], .bool false]) ∧ Below W.heap.size W w') := Lib.hid (fun W => words_err 42)
  have HS3 : Hid (∀ W : World, Calls Tryz.prog 20 #[.string ⟨#[70, 65, 76, 83, 69]⟩] W fun x w' => x = .returned (.agg #[.int .i64 2, .int .i64 0, .int .i64 0, .string ⟨#[70, 65, 76, 83, 69]⟩, .bool false, .int .i64 0]) ∧ Below W.heap.size W w') := Lib.hid (fun W => lS_any _)
  have HT1 : Hid (∀ W : World, Calls Tryz.prog 14 #[.agg #[.int .i64 2, .int .i64 0, .int .i64 0, .string ⟨#[70, 65, 76, 83, 69]⟩, .bool false, .int .i64 0]] W fun x w' => x = .returned (.tuple #[.bool false, .agg #[.int .i64 0, .int .i64 0, .int .i64 0, .string ⟨#[]⟩, .bool false, .int .i64 0], .bool true]) ∧ Below W.heap.size W w') := Lib.hid (fun W => truth_no)
  have HT2 : Hid (∀ W : World, Calls Tryz.prog 14 #[.agg #[.int .i64 2, .int .i64 0, .int .i64 0, .string ⟨#[120]⟩, .bool false, .int .i64 0]] W fun x w' => x = .returned (.tuple #[.bool false, .agg #[.int .i64 4, .int .i64 0, .int .i64 0, .string ⟨#[]⟩, .bool false, .int .i64 15], .bool false]) ∧ Below W.heap.size W w') := Lib.hid (fun W => truth_none ⟨#[120]⟩ (by rw [ByteArray.toList_eq]; decide) (by rw [ByteArray.toList_eq]; decide))
  have HF15 : Hid (∀ W : World, Calls Tryz.prog 21 #[.int .i64 15] W fun x w' => x = .returned (.agg #[.int .i64 4, .int .i64 0, .int .i64 0, .string ⟨#[]⟩, .bool false, .int .i64 15]) ∧ Below W.heap.size W w') := Lib.hid (fun W => fault_any 15)
  have HI1 : Hid (∀ W : World, Calls Tryz.prog 22 #[.int .i64 1] W fun x w' => x = .returned (.agg #[.int .i64 1, .int .i64 0]) ∧ Below W.heap.size W w') := Lib.hid (fun W => int_any)
  have HF7 : Hid (∀ W : World, Calls Tryz.prog 21 #[.int .i64 7] W fun x w' => x = .returned (.agg #[.int .i64 4, .int .i64 0, .int .i64 0, .string ⟨#[]⟩, .bool false, .int .i64 7]) ∧ Below W.heap.size W w') := Lib.hid (fun W => fault_any 7)
  have HX7 : Hid (∀ W : World, Calls Tryz.prog 16 #[.agg #[.int .i64 4, .int .i64 0, .int .i64 0, .string ⟨#[]⟩, .bool false, .int .i64 7]] W fun x w' => x = .returned (.string ⟨#[35, 68, 73, 86, 47, 48, 33]⟩) ∧ Below W.heap.size W w') := Lib.hid (fun W => text_err 7)
  have HXB : Hid (∀ W : World, Calls Tryz.prog 16 #[.agg #[.int .i64 0, .int .i64 0, .int .i64 0, .string ⟨#[]⟩, .bool false, .int .i64 0]] W fun x w' => x = .returned (.string ⟨#[]⟩) ∧ Below W.heap.size W w') := Lib.hid (fun W => text_blank)
  have HN9 : Hid (∀ W : World, Calls Tryz.prog 23 #[.int .i64 9] W fun x w' => x = .returned (.agg #[.int .i64 1, .int .i64 9, .int .i64 0, .string ⟨#[]⟩, .bool false, .int .i64 0]) ∧ Below W.heap.size W w') := Lib.hid (fun W => lN_any 9)
  have HSo : Hid (∀ W : World, Calls Tryz.prog 20 #[.string ⟨#[49]⟩] W fun x w' => x = .returned (.agg #[.int .i64 2, .int .i64 0, .int .i64 0, .string ⟨#[49]⟩, .bool false, .int .i64 0]) ∧ Below W.heap.size W w') := Lib.hid (fun W => lS_any _)
  have HC1 : Hid (∀ W : World, Calls Tryz.prog 18 #[.agg #[.int .i64 1, .int .i64 9, .int .i64 0, .string ⟨#[]⟩, .bool false, .int .i64 0], .agg #[.int .i64 2, .int .i64 0, .int .i64 0, .string ⟨#[49]⟩, .bool false, .int .i64 0]] W fun x w' => x = .returned (.int .i64 (-1)) ∧ Below W.heap.size W w') := Lib.hid (fun W => by
    have := cmpx_any (w := W) (a := (.num 9 0)) (b := (.str [49])) (⟨by decide, by decide, by decide, .inl rfl⟩) (show uE _ = 0 from by kernel_rfl) (by first | trivial | (show _ ≤ _; decide)) (by first | trivial | (show _ ≤ _; decide))
    rw [show cmpX (.num 9 0) (.str [49]) = -1 from by kernel_rfl] at this
    exact this)
  have HSe : Hid (∀ W : World, Calls Tryz.prog 20 #[.string ⟨#[]⟩] W fun x w' => x = .returned (.agg #[.int .i64 2, .int .i64 0, .int .i64 0, .string ⟨#[]⟩, .bool false, .int .i64 0]) ∧ Below W.heap.size W w') := Lib.hid (fun W => lS_any _)
  have HC2 : Hid (∀ W : World, Calls Tryz.prog 18 #[.agg #[.int .i64 0, .int .i64 0, .int .i64 0, .string ⟨#[]⟩, .bool false, .int .i64 0], .agg #[.int .i64 2, .int .i64 0, .int .i64 0, .string ⟨#[]⟩, .bool false, .int .i64 0]] W fun x w' => x = .returned (.int .i64 0) ∧ Below W.heap.size W w') := Lib.hid (fun W => by
    have := cmpx_any (w := W) (a := .blank) (b := (.str [])) (trivial) (show uE _ = 0 from by kernel_rfl) (by first | trivial | (show _ ≤ _; decide)) (by first | trivial | (show _ ≤ _; decide))
    rw [show cmpX .blank (.str []) = 0 from by kernel_rfl] at this
    exact this)
  have HNm : Hid (∀ W : World, Calls Tryz.prog 23 #[.int .i64 (-1)] W fun x w' => x = .returned (.agg #[.int .i64 1, .int .i64 (-1), .int .i64 0, .string ⟨#[]⟩, .bool false, .int .i64 0]) ∧ Below W.heap.size W w') := Lib.hid (fun W => lN_any (-1))
  have HC3 : Hid (∀ W : World, Calls Tryz.prog 18 #[.agg #[.int .i64 0, .int .i64 0, .int .i64 0, .string ⟨#[]⟩, .bool false, .int .i64 0], .agg #[.int .i64 1, .int .i64 (-1), .int .i64 0, .string ⟨#[]⟩, .bool false, .int .i64 0]] W fun x w' => x = .returned (.int .i64 1) ∧ Below W.heap.size W w') := Lib.hid (fun W => by
    have := cmpx_any (w := W) (a := .blank) (b := (.num (-1) 0)) (trivial) (⟨by decide, by decide, by decide, .inl rfl⟩) (by first | trivial | (show _ ≤ _; decide)) (by first | trivial | (show _ ≤ _; decide))
    rw [show cmpX .blank (.num (-1) 0) = 1 from by kernel_rfl] at this
    exact this)
  have HF0 : Hid (∀ W : World, Calls Tryz.prog 21 #[.int .i64 0] W fun x w' => x = .returned (.agg #[.int .i64 4, .int .i64 0, .int .i64 0, .string ⟨#[]⟩, .bool false, .int .i64 0]) ∧ Below W.heap.size W w') := Lib.hid (fun W => fault_any 0)
  have HC4 : Hid (∀ W : World, Calls Tryz.prog 18 #[.agg #[.int .i64 0, .int .i64 0, .int .i64 0, .string ⟨#[]⟩, .bool false, .int .i64 0], .agg #[.int .i64 4, .int .i64 0, .int .i64 0, .string ⟨#[]⟩, .bool false, .int .i64 0]] W fun x w' => x = .returned (.int .i64 (-1)) ∧ Below W.heap.size W w') := Lib.hid (fun W => by
    have := cmpx_any (w := W) (a := .blank) (b := (.err 0)) (trivial) (.inl rfl) (by first | trivial | (show _ ≤ _; decide)) (by first | trivial | (show _ ≤ _; decide))
    rw [show cmpX .blank (.err 0) = -1 from by kernel_rfl] at this
    exact this)
  have HC5 : Hid (∀ W : World, Calls Tryz.prog 18 #[.agg #[.int .i64 3, .int .i64 0, .int .i64 0, .string ⟨#[]⟩, .bool true, .int .i64 0], .agg #[.int .i64 0, .int .i64 0, .int .i64 0, .string ⟨#[]⟩, .bool false, .int .i64 0]] W fun x w' => x = .returned (.int .i64 1) ∧ Below W.heap.size W w') := Lib.hid (fun W => by
    have := cmpx_any (w := W) (a := (.bool true)) (b := .blank) (trivial) (trivial) (by first | trivial | (show _ ≤ _; decide)) (by first | trivial | (show _ ≤ _; decide))
    rw [show cmpX (.bool true) .blank = 1 from by kernel_rfl] at this
    exact this)
  have HNo : Hid (∀ W : World, Calls Tryz.prog 23 #[.int .i64 1] W fun x w' => x = .returned (.agg #[.int .i64 1, .int .i64 1, .int .i64 0, .string ⟨#[]⟩, .bool false, .int .i64 0]) ∧ Below W.heap.size W w') := Lib.hid (fun W => lN_any 1)
  have HK1 : Hid (∀ W : World, Calls Tryz.prog 6 #[.agg #[.int .i64 1, .int .i64 1, .int .i64 0, .string ⟨#[]⟩, .bool false, .int .i64 0]] W fun x w' => x = .returned (.int .i64 0) ∧ Below W.heap.size W w') := Lib.hid (fun W => check_num 1 0)
  have HK2 : Hid (∀ W : World, Calls Tryz.prog 6 #[.agg #[.int .i64 1, .int .i64 0, .int .i64 0, .string ⟨#[]⟩, .bool true, .int .i64 0]] W fun x w' => x = .returned (.int .i64 1) ∧ Below W.heap.size W w') := Lib.hid (fun W => check_bad_num 0 0 ⟨#[]⟩ true 0 (fun h => by cases h.2.1))
  have HF1 : Hid (∀ W : World, Calls Tryz.prog 21 #[.int .i64 1] W fun x w' => x = .returned (.agg #[.int .i64 4, .int .i64 0, .int .i64 0, .string ⟨#[]⟩, .bool false, .int .i64 1]) ∧ Below W.heap.size W w') := Lib.hid (fun W => fault_any 1)
  have HK3 : Hid (∀ W : World, Calls Tryz.prog 6 #[.agg #[.int .i64 4, .int .i64 0, .int .i64 0, .string ⟨#[]⟩, .bool false, .int .i64 1]] W fun x w' => x = .returned (.int .i64 1) ∧ Below W.heap.size W w') := Lib.hid (fun W => check_err 1)
  have HSa : Hid (∀ W : World, Calls Tryz.prog 8 #[.agg #[.int .i64 3, .int .i64 0, .int .i64 0, .string ⟨#[]⟩, .bool true, .int .i64 0], .agg #[.int .i64 3, .int .i64 0, .int .i64 0, .string ⟨#[]⟩, .bool true, .int .i64 0]] W fun x w' => x = .returned (.bool true) ∧ Below W.heap.size W w') := Lib.hid (fun W => same_any 3 0 0 ⟨#[]⟩ true 0 3 0 0 ⟨#[]⟩ true 0)
  have HB := Lib.hid ((SB.base w).alloc 25 #[.int .i64 3, .int .i64 0, .int .i64 0, .string ⟨#[]⟩, .bool true, .int .i64 0])
  go_enter Tryz.func4, Tryz.ntmps4
  go_wp2_with fail
  refine (HS1.out _).mono ?_
  rintro e w1 ⟨rfl, hb⟩
  have hB := HB.out.call hb
  clear hb HB
  have HB := Lib.hid hB
  clear hB
  go_wp2_with fail
  refine (HN1.out _).mono ?_
  rintro e w2 ⟨rfl, hb⟩
  have hB := HB.out.call hb
  have hB := hB.alloc 23 #[.int .i64 15, .int .i64 1]
  have hB := hB.made (.cells #[.int .i64 0, .int .i64 0, .int .i64 0, .string ⟨#[]⟩, .bool false, .int .i64 0] 25)
  clear hb HB
  have HB : Hid (SB w 0 ([(w2.heap.size, 23, #[.int .i64 15, .int .i64 1]), (w.heap.size, 25, #[.int .i64 3, .int .i64 0, .int .i64 0, .string ⟨#[]⟩, .bool true, .int .i64 0])] : List (Nat × TypeId × Array Value)) ((w2.alloc (.cells #[.int .i64 15, .int .i64 1] 23)).alloc (.cells #[.int .i64 0, .int .i64 0, .int .i64 0, .string ⟨#[]⟩, .bool false, .int .i64 0] 25))) := Lib.hid (by simpa using hB)
  clear hB
  go_wp2_with fail
  refine (HS2.out _).mono ?_
  rintro e w3 ⟨rfl, hb⟩
  have hB := HB.out.call hb
  clear hb HB
  have HB := Lib.hid hB
  clear hB
  go_wp2_with fail
  refine (HN2.out _).mono ?_
  rintro e w4 ⟨rfl, hb⟩
  have hB := HB.out.call hb
  have hB := hB.made (.cells #[.int .i64 0, .int .i64 0] 23)
  have hB := hB.alloc 25 #[.int .i64 4, .int .i64 0, .int .i64 0, .string ⟨#[]⟩, .bool false, .int .i64 15]
  clear hb HB
  have HB : Hid (SB w 0 ([(w4.heap.size + 1, 25, #[.int .i64 4, .int .i64 0, .int .i64 0, .string ⟨#[]⟩, .bool false, .int .i64 15]), (w2.heap.size, 23, #[.int .i64 15, .int .i64 1]), (w.heap.size, 25, #[.int .i64 3, .int .i64 0, .int .i64 0, .string ⟨#[]⟩, .bool true, .int .i64 0])] : List (Nat × TypeId × Array Value)) ((w4.alloc (.cells #[.int .i64 0, .int .i64 0] 23)).alloc (.cells #[.int .i64 4, .int .i64 0, .int .i64 0, .string ⟨#[]⟩, .bool false, .int .i64 15] 25))) := Lib.hid (by simpa using hB)
  clear hB
  have kt := HB.out.box (i := 2) rfl
  have ct0 := kt.cell 0
  have ct1 := kt.cell 1
  have ct2 := kt.cell 2
  have ct3 := kt.cell 3
  have ct4 := kt.cell 4
  have ct5 := kt.cell 5
  clear kt
  go_wp2_with fail
  refine (HN3.out _).mono ?_
  rintro e w5 ⟨rfl, hb⟩
  have hB := HB.out.call hb
  have hB := hB.alloc 23 #[.int .i64 1, .int .i64 0]
  have hB := hB.made (.cells #[.int .i64 0, .int .i64 0, .int .i64 0, .string ⟨#[]⟩, .bool false, .int .i64 0] 25)
  clear hb HB
  clear ct0 ct1 ct2 ct3 ct4 ct5
  have HB : Hid (SB w 0 ([(w5.heap.size, 23, #[.int .i64 1, .int .i64 0]), (w4.heap.size + 1, 25, #[.int .i64 4, .int .i64 0, .int .i64 0, .string ⟨#[]⟩, .bool false, .int .i64 15]), (w2.heap.size, 23, #[.int .i64 15, .int .i64 1]), (w.heap.size, 25, #[.int .i64 3, .int .i64 0, .int .i64 0, .string ⟨#[]⟩, .bool true, .int .i64 0])] : List (Nat × TypeId × Array Value)) ((w5.alloc (.cells #[.int .i64 1, .int .i64 0] 23)).alloc (.cells #[.int .i64 0, .int .i64 0, .int .i64 0, .string ⟨#[]⟩, .bool false, .int .i64 0] 25))) := Lib.hid (by simpa using hB)
  clear hB
  have kt := HB.out.box (i := 3) rfl
  have ct0 := kt.cell 0
  have ct1 := kt.cell 1
  have ct2 := kt.cell 2
  have ct3 := kt.cell 3
  have ct4 := kt.cell 4
  have ct5 := kt.cell 5
  clear kt
  go_wp2_with fail
  refine (HW1.out _).mono ?_
  rintro e w6 ⟨rfl, hb⟩
  have hB := HB.out.call hb
  have hB := hB.made (.cells #[.int .i64 0, .int .i64 0, .int .i64 0, .string ⟨#[]⟩, .bool false, .int .i64 0] 25)
  clear hb HB
  clear ct0 ct1 ct2 ct3 ct4 ct5
  have HB : Hid (SB w 0 ([(w5.heap.size, 23, #[.int .i64 1, .int .i64 0]), (w4.heap.size + 1, 25, #[.int .i64 4, .int .i64 0, .int .i64 0, .string ⟨#[]⟩, .bool false, .int .i64 15]), (w2.heap.size, 23, #[.int .i64 15, .int .i64 1]), (w.heap.size, 25, #[.int .i64 3, .int .i64 0, .int .i64 0, .string ⟨#[]⟩, .bool true, .int .i64 0])] : List (Nat × TypeId × Array Value)) (w6.alloc (.cells #[.int .i64 0, .int .i64 0, .int .i64 0, .string ⟨#[]⟩, .bool false, .int .i64 0] 25))) := Lib.hid (by simpa using hB)
  clear hB
  go_wp2_with fail
  refine (HF42.out _).mono ?_
  rintro e w7 ⟨rfl, hb⟩
  have hB := HB.out.call hb
  clear hb HB
  have HB := Lib.hid hB
  clear hB
  go_wp2_with fail
  refine (HW2.out _).mono ?_
  rintro e w8 ⟨rfl, hb⟩
  have hB := HB.out.call hb
  have hB := hB.alloc 25 #[.int .i64 4, .int .i64 0, .int .i64 0, .string ⟨#[]⟩, .bool false, .int .i64 42]
  clear hb HB
  have HB : Hid (SB w 0 ([(w8.heap.size, 25, #[.int .i64 4, .int .i64 0, .int .i64 0, .string ⟨#[]⟩, .bool false, .int .i64 42]), (w5.heap.size, 23, #[.int .i64 1, .int .i64 0]), (w4.heap.size + 1, 25, #[.int .i64 4, .int .i64 0, .int .i64 0, .string ⟨#[]⟩, .bool false, .int .i64 15]), (w2.heap.size, 23, #[.int .i64 15, .int .i64 1]), (w.heap.size, 25, #[.int .i64 3, .int .i64 0, .int .i64 0, .string ⟨#[]⟩, .bool true, .int .i64 0])] : List (Nat × TypeId × Array Value)) (w8.alloc (.cells #[.int .i64 4, .int .i64 0, .int .i64 0, .string ⟨#[]⟩, .bool false, .int .i64 42] 25))) := Lib.hid (by simpa using hB)
  clear hB
  go_wp2_with fail
  refine (HS3.out _).mono ?_
  rintro e w9 ⟨rfl, hb⟩
  have hB := HB.out.call hb
  clear hb HB
  have HB := Lib.hid hB
  clear hB
  go_wp2_with fail
  refine (HT1.out _).mono ?_
  rintro e w10 ⟨rfl, hb⟩
  have hB := HB.out.call hb
  have hB := hB.made (.cells #[.int .i64 0, .int .i64 0, .int .i64 0, .string ⟨#[]⟩, .bool false, .int .i64 0] 25)
  clear hb HB
  have HB : Hid (SB w 0 ([(w8.heap.size, 25, #[.int .i64 4, .int .i64 0, .int .i64 0, .string ⟨#[]⟩, .bool false, .int .i64 42]), (w5.heap.size, 23, #[.int .i64 1, .int .i64 0]), (w4.heap.size + 1, 25, #[.int .i64 4, .int .i64 0, .int .i64 0, .string ⟨#[]⟩, .bool false, .int .i64 15]), (w2.heap.size, 23, #[.int .i64 15, .int .i64 1]), (w.heap.size, 25, #[.int .i64 3, .int .i64 0, .int .i64 0, .string ⟨#[]⟩, .bool true, .int .i64 0])] : List (Nat × TypeId × Array Value)) (w10.alloc (.cells #[.int .i64 0, .int .i64 0, .int .i64 0, .string ⟨#[]⟩, .bool false, .int .i64 0] 25))) := Lib.hid (by simpa using hB)
  clear hB
  go_wp2_with fail
  refine (HS2.out _).mono ?_
  rintro e w11 ⟨rfl, hb⟩
  have hB := HB.out.call hb
  clear hb HB
  have HB := Lib.hid hB
  clear hB
  go_wp2_with fail
  refine (HT2.out _).mono ?_
  rintro e w12 ⟨rfl, hb⟩
  have hB := HB.out.call hb
  have hB := hB.alloc 25 #[.int .i64 4, .int .i64 0, .int .i64 0, .string ⟨#[]⟩, .bool false, .int .i64 15]
  clear hb HB
  have HB : Hid (SB w 0 ([(w12.heap.size, 25, #[.int .i64 4, .int .i64 0, .int .i64 0, .string ⟨#[]⟩, .bool false, .int .i64 15]), (w8.heap.size, 25, #[.int .i64 4, .int .i64 0, .int .i64 0, .string ⟨#[]⟩, .bool false, .int .i64 42]), (w5.heap.size, 23, #[.int .i64 1, .int .i64 0]), (w4.heap.size + 1, 25, #[.int .i64 4, .int .i64 0, .int .i64 0, .string ⟨#[]⟩, .bool false, .int .i64 15]), (w2.heap.size, 23, #[.int .i64 15, .int .i64 1]), (w.heap.size, 25, #[.int .i64 3, .int .i64 0, .int .i64 0, .string ⟨#[]⟩, .bool true, .int .i64 0])] : List (Nat × TypeId × Array Value)) (w12.alloc (.cells #[.int .i64 4, .int .i64 0, .int .i64 0, .string ⟨#[]⟩, .bool false, .int .i64 15] 25))) := Lib.hid (by simpa using hB)
  clear hB
  clear HS1 HN1 HN2 HN3 HW1 HW2 HS3 HT1 HT2 HS2
  go_wp2_with fail
  simp only [List.append]
  refine wp_region_phases (S := (fun vals W => SX w 0 ([] : List Stp) vals ([(w12.heap.size, 25, #[.int .i64 4, .int .i64 0, .int .i64 0, .string ⟨#[]⟩, .bool false, .int .i64 15]), (w8.heap.size, 25, #[.int .i64 4, .int .i64 0, .int .i64 0, .string ⟨#[]⟩, .bool false, .int .i64 42]), (w5.heap.size, 23, #[.int .i64 1, .int .i64 0]), (w4.heap.size + 1, 25, #[.int .i64 4, .int .i64 0, .int .i64 0, .string ⟨#[]⟩, .bool false, .int .i64 15]), (w2.heap.size, 23, #[.int .i64 15, .int .i64 1]), (w.heap.size, 25, #[.int .i64 3, .int .i64 0, .int .i64 0, .string ⟨#[]⟩, .bool true, .int .i64 0])] : List (Nat × TypeId × Array Value)) W)) (E := (fun _ _ => True)) [] [(1, Is (.pointer (some ⟨w.heap.size, 0, none⟩))), (2, Is (.pointer (some ⟨w2.heap.size, 0, none⟩))), (4, Is (.bool true)), (6, Is (.pointer (some ⟨w4.heap.size + 1, 0, none⟩))), (7, Is (.bool false)), (8, Is (.pointer (some ⟨w5.heap.size, 0, none⟩))), (10, Is (.bool true)), (11, Is (.string ⟨#[84, 82, 85, 69]⟩)), (13, Is (.bool true)), (15, Is (.pointer (some ⟨w8.heap.size, 0, none⟩))), (16, Is (.bool false)), (17, Is (.bool false)), (19, Is (.bool true)), (21, Is (.pointer (some ⟨w12.heap.size, 0, none⟩))), (22, Is (.bool false))] [(66, Is (.bool true)), (67, Is (.bool true)), (68, Is (.agg #[.int .i64 15, .int .i64 1])), (69, Is (.agg #[.int .i64 15, .int .i64 1])), (70, Is (.bool true)), (71, Is (.bool true)), (72, Is (.bool true)), (73, Is (.bool false)), (74, Is (.bool true)), (75, Is (.bool true)), (76, Is (.bool true)), (77, Is (.agg #[.int .i64 4, .int .i64 0, .int .i64 0, .string ⟨#[]⟩, .bool false, .int .i64 15])), (78, Is (.agg #[.int .i64 4, .int .i64 0, .int .i64 0, .string ⟨#[]⟩, .bool false, .int .i64 15])), (79, Is (.bool true)), (80, Is (.bool true)), (81, Is (.bool true)), (82, Is (.bool true)), (83, Is (.bool true)), (84, Is (.bool true)), (85, Is (.agg #[.int .i64 1, .int .i64 0])), (86, Is (.agg #[.int .i64 1, .int .i64 0])), (87, Is (.bool true)), (88, Is (.bool true)), (89, Is (.bool true)), (90, Is (.bool true)), (91, Is (.bool true)), (92, Is (.bool true)), (93, Is (.string ⟨#[84, 82, 85, 69]⟩)), (94, Is (.bool true)), (95, Is (.bool true)), (96, Is (.bool true)), (97, Is (.bool false)), (98, Is (.bool true)), (99, Is (.bool true)), (100, Is (.bool true)), (101, Is (.agg #[.int .i64 4, .int .i64 0, .int .i64 0, .string ⟨#[]⟩, .bool false, .int .i64 42])), (102, Is (.agg #[.int .i64 4, .int .i64 0, .int .i64 0, .string ⟨#[]⟩, .bool false, .int .i64 42])), (103, Is (.bool true)), (104, Is (.bool true)), (105, Is (.bool true)), (106, Is (.bool true)), (107, Is (.bool true)), (108, Is (.bool true)), (109, Is (.bool false)), (110, Is (.bool true)), (111, Is (.bool true)), (112, Is (.bool true)), (113, Is (.bool false)), (114, Is (.bool true)), (115, Is (.bool true)), (116, Is (.bool true)), (117, Is (.agg #[.int .i64 4, .int .i64 0, .int .i64 0, .string ⟨#[]⟩, .bool false, .int .i64 15])), (118, Is (.agg #[.int .i64 4, .int .i64 0, .int .i64 0, .string ⟨#[]⟩, .bool false, .int .i64 15])), (119, Is (.bool true)), (120, Is (.bool true)), (121, Is (.bool true)), (122, Is (.agg #[.int .i64 4, .int .i64 0, .int .i64 0, .string ⟨#[]⟩, .bool false, .int .i64 7])), (123, Is (.string ⟨#[35, 68, 73, 86, 47, 48, 33]⟩)), (124, Is (.bool true)), (125, Is (.bool true)), (126, Is (.bool true)), (127, Is (.agg #[.int .i64 0, .int .i64 0, .int .i64 0, .string ⟨#[]⟩, .bool false, .int .i64 0])), (128, Is (.string ⟨#[]⟩)), (129, Is (.bool true)), (130, Is (.bool true)), (131, Is (.bool true)), (132, Is (.agg #[.int .i64 1, .int .i64 9, .int .i64 0, .string ⟨#[]⟩, .bool false, .int .i64 0])), (133, Is (.agg #[.int .i64 2, .int .i64 0, .int .i64 0, .string ⟨#[49]⟩, .bool false, .int .i64 0])), (134, Is (.int .i64 (-1))), (135, Is (.bool true)), (136, Is (.bool true)), (137, Is (.bool true)), (138, Is (.agg #[.int .i64 0, .int .i64 0, .int .i64 0, .string ⟨#[]⟩, .bool false, .int .i64 0])), (139, Is (.agg #[.int .i64 2, .int .i64 0, .int .i64 0, .string ⟨#[]⟩, .bool false, .int .i64 0])), (140, Is (.int .i64 0)), (141, Is (.bool true)), (142, Is (.bool true)), (143, Is (.bool true)), (144, Is (.agg #[.int .i64 0, .int .i64 0, .int .i64 0, .string ⟨#[]⟩, .bool false, .int .i64 0])), (145, Is (.agg #[.int .i64 1, .int .i64 (-1), .int .i64 0, .string ⟨#[]⟩, .bool false, .int .i64 0])), (146, Is (.int .i64 1)), (147, Is (.bool true)), (148, Is (.bool true)), (149, Is (.bool true)), (150, Is (.agg #[.int .i64 0, .int .i64 0, .int .i64 0, .string ⟨#[]⟩, .bool false, .int .i64 0])), (151, Is (.agg #[.int .i64 4, .int .i64 0, .int .i64 0, .string ⟨#[]⟩, .bool false, .int .i64 0])), (152, Is (.int .i64 (-1))), (153, Is (.bool true)), (154, Is (.bool true)), (155, Is (.bool true)), (156, Is (.agg #[.int .i64 3, .int .i64 0, .int .i64 0, .string ⟨#[]⟩, .bool true, .int .i64 0])), (157, Is (.agg #[.int .i64 0, .int .i64 0, .int .i64 0, .string ⟨#[]⟩, .bool false, .int .i64 0])), (158, Is (.int .i64 1)), (159, Is (.bool true)), (160, Is (.bool true)), (161, Is (.bool true)), (162, Is (.agg #[.int .i64 1, .int .i64 1, .int .i64 0, .string ⟨#[]⟩, .bool false, .int .i64 0])), (163, Is (.int .i64 0)), (164, Is (.bool true)), (165, Is (.bool true)), (166, Is (.bool true)), (167, Is (.agg #[.int .i64 1, .int .i64 0, .int .i64 0, .string ⟨#[]⟩, .bool true, .int .i64 0])), (168, Is (.int .i64 1)), (169, Is (.bool true)), (170, Is (.bool true)), (171, Is (.bool true)), (172, Is (.agg #[.int .i64 4, .int .i64 0, .int .i64 0, .string ⟨#[]⟩, .bool false, .int .i64 1])), (173, Is (.int .i64 1)), (174, Is (.bool true)), (175, Is (.bool true)), (176, Is (.bool true)), (177, Is (.agg #[.int .i64 3, .int .i64 0, .int .i64 0, .string ⟨#[]⟩, .bool true, .int .i64 0])), (178, Is (.agg #[.int .i64 3, .int .i64 0, .int .i64 0, .string ⟨#[]⟩, .bool true, .int .i64 0])), (179, Is (.bool true)), (180, Is (.bool true)), (0, Is (.bool true))]
    [.op [4] none, .op [66] none, .op [2, 67] (some (67, true)), .op [67] (some (67, true)), .op [68, 69, 67] (some (67, true)), .op [67, 70] none, .op [71] none, .op [7, 72] (some (72, true)), .op [73, 72] (some (72, true)), .op [72, 74] none, .op [75] none, .op [6, 76] (some (76, true)), .op [76] (some (76, true)), .op [77, 78, 76] (some (76, true)), .op [76, 79] none, .op [80] none, .op [10, 81] (some (81, true)), .op [81, 82] none, .op [83] none, .op [8, 84] (some (84, true)), .op [84] (some (84, true)), .op [85, 86, 84] (some (84, true)), .op [84, 87] none, .op [88] none, .op [13, 89] (some (89, true)), .op [89, 90] none, .op [91] none, .op [11, 92] (some (92, true)), .op [93, 92] (some (92, true)), .op [92, 94] none, .op [95] none, .op [16, 96] (some (96, true)), .op [97, 96] (some (96, true)), .op [96, 98] none, .op [99] none, .op [15, 100] (some (100, true)), .op [100] (some (100, true)), .op [101, 102, 100] (some (100, true)), .op [100, 103] none, .op [104] none, .op [19, 105] (some (105, true)), .op [105, 106] none, .op [107] none, .op [17, 108] (some (108, true)), .op [109, 108] (some (108, true)), .op [108, 110] none, .op [111] none, .op [22, 112] (some (112, true)), .op [113, 112] (some (112, true)), .op [112, 114] none, .op [115] none, .op [21, 116] (some (116, true)), .op [116] (some (116, true)), .op [117, 118, 116] (some (116, true)), .op [116, 119] none, .op [120] none, .op [121] (some (121, true)), .op [122, 121] (some (121, true)), .op [123, 121] (some (121, true)), .op [121, 124] none, .op [125] none, .op [126] (some (126, true)), .op [127, 126] (some (126, true)), .op [128, 126] (some (126, true)), .op [126, 129] none, .op [130] none, .op [131] (some (131, true)), .op [131] (some (131, true)), .op [132, 133, 131] (some (131, true)), .op [134, 131] (some (131, true)), .op [131, 135] none, .op [136] none, .op [137] (some (137, true)), .op [137] (some (137, true)), .op [138, 139, 137] (some (137, true)), .op [140, 137] (some (137, true)), .op [137, 141] none, .op [142] none, .op [143] (some (143, true)), .op [143] (some (143, true)), .op [144, 145, 143] (some (143, true)), .op [146, 143] (some (143, true)), .op [143, 147] none, .op [148] none, .op [149] (some (149, true)), .op [149] (some (149, true)), .op [150, 151, 149] (some (149, true)), .op [152, 149] (some (149, true)), .op [149, 153] none, .op [154] none, .op [1, 155] (some (155, true)), .op [155] (some (155, true)), .op [156, 157, 155] (some (155, true)), .op [158, 155] (some (155, true)), .op [155, 159] none, .op [160] none, .op [161] (some (161, true)), .op [162, 161] (some (161, true)), .op [163, 161] (some (161, true)), .op [161, 164] none, .op [165] none, .op [166] (some (166, true)), .op [167, 166] (some (166, true)), .op [168, 166] (some (166, true)), .op [166, 169] none, .op [170] none, .op [171] (some (171, true)), .op [172, 171] (some (171, true)), .op [173, 171] (some (171, true)), .op [171, 174] none, .op [175] none, .op [1, 176] (some (176, true)), .op [1, 176] (some (176, true)), .op [177, 178, 176] (some (176, true)), .op [176, 179] none, .op [180] none] (by as_aux_lemma => kernel_rfl) ?_ ?_ ?_ ?_ ?_ ⟨stable_is _ _, stable_is _ _, stable_is _ _, stable_is _ _, stable_is _ _, stable_is _ _, stable_is _ _, stable_is _ _, stable_is _ _, stable_is _ _, stable_is _ _, stable_is _ _, stable_is _ _, stable_is _ _, stable_is _ _, stable_is _ _, stable_is _ _, stable_is _ _, stable_is _ _, stable_is _ _, stable_is _ _, stable_is _ _, stable_is _ _, stable_is _ _, stable_is _ _, stable_is _ _, stable_is _ _, stable_is _ _, stable_is _ _, stable_is _ _, stable_is _ _, stable_is _ _, stable_is _ _, stable_is _ _, stable_is _ _, stable_is _ _, stable_is _ _, stable_is _ _, stable_is _ _, stable_is _ _, stable_is _ _, stable_is _ _, stable_is _ _, stable_is _ _, stable_is _ _, stable_is _ _, stable_is _ _, stable_is _ _, stable_is _ _, stable_is _ _, stable_is _ _, stable_is _ _, stable_is _ _, stable_is _ _, stable_is _ _, stable_is _ _, stable_is _ _, stable_is _ _, stable_is _ _, stable_is _ _, stable_is _ _, stable_is _ _, stable_is _ _, stable_is _ _, stable_is _ _, stable_is _ _, stable_is _ _, stable_is _ _, stable_is _ _, stable_is _ _, stable_is _ _, stable_is _ _, stable_is _ _, stable_is _ _, stable_is _ _, stable_is _ _, stable_is _ _, stable_is _ _, stable_is _ _, stable_is _ _, stable_is _ _, stable_is _ _, stable_is _ _, stable_is _ _, stable_is _ _, stable_is _ _, stable_is _ _, stable_is _ _, stable_is _ _, stable_is _ _, stable_is _ _, stable_is _ _, stable_is _ _, stable_is _ _, stable_is _ _, stable_is _ _, stable_is _ _, stable_is _ _, stable_is _ _, stable_is _ _, stable_is _ _, stable_is _ _, stable_is _ _, stable_is _ _, stable_is _ _, stable_is _ _, stable_is _ _, stable_is _ _, stable_is _ _, stable_is _ _, stable_is _ _, stable_is _ _, stable_is _ _, stable_is _ _, stable_is _ _, stable_is _ _, stable_is _ _, stable_is _ _, stable_is _ _, stable_is _ _, stable_is _ _, stable_is _ _, stable_is _ _, stable_is _ _, stable_is _ _, stable_is _ _, stable_is _ _, stable_is _ _, stable_is _ _, stable_is _ _, stable_is _ _, trivial⟩ ?_ (HB.out.drew) ?_ ?_
  · as_aux_lemma => kernel_rfl
  · as_aux_lemma => kernel_rfl
  · as_aux_lemma => kernel_rfl
  · as_aux_lemma => kernel_rfl
  · as_aux_lemma => kernel_rfl
  · exact ⟨rfl, rfl, rfl, rfl, rfl, rfl, rfl, rfl, rfl, rfl, rfl, rfl, rfl, rfl, rfl, trivial⟩
  · refine ⟨?_, ?_, ?_, ?_, ?_, ?_, ?_, ?_, ?_, ?_, ?_, ?_, ?_, ?_, ?_, ?_, ?_, ?_, ?_, ?_, ?_, ?_, ?_, ?_, ?_, ?_, ?_, ?_, ?_, ?_, ?_, ?_, ?_, ?_, ?_, ?_, ?_, ?_, ?_, ?_, ?_, ?_, ?_, ?_, ?_, ?_, ?_, ?_, ?_, ?_, ?_, ?_, ?_, ?_, ?_, ?_, ?_, ?_, ?_, ?_, ?_, ?_, ?_, ?_, ?_, ?_, ?_, ?_, ?_, ?_, ?_, ?_, ?_, ?_, ?_, ?_, ?_, ?_, ?_, ?_, ?_, ?_, ?_, ?_, ?_, ?_, ?_, ?_, ?_, ?_, ?_, ?_, ?_, ?_, ?_, ?_, ?_, ?_, ?_, ?_, ?_, ?_, ?_, ?_, ?_, ?_, ?_, ?_, ?_, ?_, ?_, ?_, ?_, ?_, ?_, ?_, trivial⟩
    · as_aux_lemma =>
        intro vals a W hS hL
        have e4 : a.tmps.getD 4 undef = .bool true := hL.1
        clear hL
        go_simp
        exact ⟨⟨fun d hd => by injection hd with hd; subst hd; rfl, fun h => by cases h⟩, hS, trivial⟩
    · as_aux_lemma =>
        intro vals a W hS hL
        have e66 : a.tmps.getD 66 undef = .bool true := hL.1
        clear hL
        go_simp
        exact ⟨⟨fun d hd => by injection hd with hd; subst hd; rfl, fun h => by cases h⟩, hS, trivial⟩
    · as_aux_lemma =>
        intro vals a W hS hL
        have e2 : a.tmps.getD 2 undef = .pointer (some ⟨w2.heap.size, 0, none⟩) := hL.1
        have e67 : a.tmps.getD 67 undef = .bool true := hL.2.1
        clear hL
        refine ⟨true, e67, ?_⟩
        rw [if_pos rfl]
        have kb : Bk W (w2.heap.size) 23 #[.int .i64 15, .int .i64 1] := hS.bk 4 rfl rfl
        have f0 := kb.cell 0
        have f1 := kb.cell 1
        clear kb
        go_simp
        exact ⟨⟨fun d hd => by injection hd with hd; subst hd; rfl, fun h => by cases h⟩, hS, trivial⟩
    · as_aux_lemma =>
        intro vals a W hS hL
        have e67 : a.tmps.getD 67 undef = .bool true := hL.1
        clear hL
        refine ⟨true, e67, ?_⟩
        rw [if_pos rfl]
        go_simp
        exact ⟨⟨fun d hd => by injection hd with hd; subst hd; rfl, fun h => by cases h⟩, hS, trivial⟩
    · as_aux_lemma =>
        intro vals a W hS hL
        have e68 : a.tmps.getD 68 undef = .agg #[.int .i64 15, .int .i64 1] := hL.1
        have e69 : a.tmps.getD 69 undef = .agg #[.int .i64 15, .int .i64 1] := hL.2.1
        have e67 : a.tmps.getD 67 undef = .bool true := hL.2.2.1
        clear hL
        refine ⟨true, e67, ?_⟩
        rw [if_pos rfl]
        go_simp
        exact ⟨⟨fun d hd => by injection hd with hd; subst hd; rfl, fun h => by cases h⟩, hS, trivial⟩
    · as_aux_lemma =>
        intro vals a W hS hL
        have e67 : a.tmps.getD 67 undef = .bool true := hL.1
        have e70 : a.tmps.getD 70 undef = .bool true := hL.2.1
        clear hL
        go_simp
        exact ⟨⟨fun d hd => by injection hd with hd; subst hd; rfl, fun h => by cases h⟩, hS, trivial⟩
    · as_aux_lemma =>
        intro vals a W hS hL
        have e71 : a.tmps.getD 71 undef = .bool true := hL.1
        clear hL
        go_simp
        exact ⟨⟨fun d hd => by injection hd with hd; subst hd; rfl, fun h => by cases h⟩, hS, trivial⟩
    · as_aux_lemma =>
        intro vals a W hS hL
        have e7 : a.tmps.getD 7 undef = .bool false := hL.1
        have e72 : a.tmps.getD 72 undef = .bool true := hL.2.1
        clear hL
        refine ⟨true, e72, ?_⟩
        rw [if_pos rfl]
        go_simp
        exact ⟨⟨fun d hd => by injection hd with hd; subst hd; rfl, fun h => by cases h⟩, hS, trivial⟩
    · as_aux_lemma =>
        intro vals a W hS hL
        have e73 : a.tmps.getD 73 undef = .bool false := hL.1
        have e72 : a.tmps.getD 72 undef = .bool true := hL.2.1
        clear hL
        refine ⟨true, e72, ?_⟩
        rw [if_pos rfl]
        go_simp
        exact ⟨⟨fun d hd => by injection hd with hd; subst hd; rfl, fun h => by cases h⟩, hS, trivial⟩
    · as_aux_lemma =>
        intro vals a W hS hL
        have e72 : a.tmps.getD 72 undef = .bool true := hL.1
        have e74 : a.tmps.getD 74 undef = .bool true := hL.2.1
        clear hL
        go_simp
        exact ⟨⟨fun d hd => by injection hd with hd; subst hd; rfl, fun h => by cases h⟩, hS, trivial⟩
    · as_aux_lemma =>
        intro vals a W hS hL
        have e75 : a.tmps.getD 75 undef = .bool true := hL.1
        clear hL
        go_simp
        exact ⟨⟨fun d hd => by injection hd with hd; subst hd; rfl, fun h => by cases h⟩, hS, trivial⟩
    · as_aux_lemma =>
        intro vals a W hS hL
        have e6 : a.tmps.getD 6 undef = .pointer (some ⟨w4.heap.size + 1, 0, none⟩) := hL.1
        have e76 : a.tmps.getD 76 undef = .bool true := hL.2.1
        clear hL
        refine ⟨true, e76, ?_⟩
        rw [if_pos rfl]
        have kb : Bk W (w4.heap.size + 1) 25 #[.int .i64 4, .int .i64 0, .int .i64 0, .string ⟨#[]⟩, .bool false, .int .i64 15] := hS.bk 3 rfl rfl
        have f0 := kb.cell 0
        have f1 := kb.cell 1
        have f2 := kb.cell 2
        have f3 := kb.cell 3
        have f4 := kb.cell 4
        have f5 := kb.cell 5
        clear kb
        go_simp
        exact ⟨⟨fun d hd => by injection hd with hd; subst hd; rfl, fun h => by cases h⟩, hS, trivial⟩
    · as_aux_lemma =>
        intro vals a W hS hL
        have e76 : a.tmps.getD 76 undef = .bool true := hL.1
        clear hL
        refine ⟨true, e76, ?_⟩
        rw [if_pos rfl]
        go_simp
        refine (HF15.out W).mono ?_
        rintro e W' ⟨rfl, hb⟩
        exact ⟨_, rfl, ⟨fun d hd => by injection hd with hd; subst hd; rfl, fun h => by cases h⟩, hS.call hb, trivial⟩
    · as_aux_lemma =>
        intro vals a W hS hL
        have e77 : a.tmps.getD 77 undef = .agg #[.int .i64 4, .int .i64 0, .int .i64 0, .string ⟨#[]⟩, .bool false, .int .i64 15] := hL.1
        have e78 : a.tmps.getD 78 undef = .agg #[.int .i64 4, .int .i64 0, .int .i64 0, .string ⟨#[]⟩, .bool false, .int .i64 15] := hL.2.1
        have e76 : a.tmps.getD 76 undef = .bool true := hL.2.2.1
        clear hL
        refine ⟨true, e76, ?_⟩
        rw [if_pos rfl]
        go_simp
        exact ⟨⟨fun d hd => by injection hd with hd; subst hd; rfl, fun h => by cases h⟩, hS, trivial⟩
    · as_aux_lemma =>
        intro vals a W hS hL
        have e76 : a.tmps.getD 76 undef = .bool true := hL.1
        have e79 : a.tmps.getD 79 undef = .bool true := hL.2.1
        clear hL
        go_simp
        exact ⟨⟨fun d hd => by injection hd with hd; subst hd; rfl, fun h => by cases h⟩, hS, trivial⟩
    · as_aux_lemma =>
        intro vals a W hS hL
        have e80 : a.tmps.getD 80 undef = .bool true := hL.1
        clear hL
        go_simp
        exact ⟨⟨fun d hd => by injection hd with hd; subst hd; rfl, fun h => by cases h⟩, hS, trivial⟩
    · as_aux_lemma =>
        intro vals a W hS hL
        have e10 : a.tmps.getD 10 undef = .bool true := hL.1
        have e81 : a.tmps.getD 81 undef = .bool true := hL.2.1
        clear hL
        refine ⟨true, e81, ?_⟩
        rw [if_pos rfl]
        go_simp
        exact ⟨⟨fun d hd => by injection hd with hd; subst hd; rfl, fun h => by cases h⟩, hS, trivial⟩
    · as_aux_lemma =>
        intro vals a W hS hL
        have e81 : a.tmps.getD 81 undef = .bool true := hL.1
        have e82 : a.tmps.getD 82 undef = .bool true := hL.2.1
        clear hL
        go_simp
        exact ⟨⟨fun d hd => by injection hd with hd; subst hd; rfl, fun h => by cases h⟩, hS, trivial⟩
    · as_aux_lemma =>
        intro vals a W hS hL
        have e83 : a.tmps.getD 83 undef = .bool true := hL.1
        clear hL
        go_simp
        exact ⟨⟨fun d hd => by injection hd with hd; subst hd; rfl, fun h => by cases h⟩, hS, trivial⟩
    · as_aux_lemma =>
        intro vals a W hS hL
        have e8 : a.tmps.getD 8 undef = .pointer (some ⟨w5.heap.size, 0, none⟩) := hL.1
        have e84 : a.tmps.getD 84 undef = .bool true := hL.2.1
        clear hL
        refine ⟨true, e84, ?_⟩
        rw [if_pos rfl]
        have kb : Bk W (w5.heap.size) 23 #[.int .i64 1, .int .i64 0] := hS.bk 2 rfl rfl
        have f0 := kb.cell 0
        have f1 := kb.cell 1
        clear kb
        go_simp
        exact ⟨⟨fun d hd => by injection hd with hd; subst hd; rfl, fun h => by cases h⟩, hS, trivial⟩
    · as_aux_lemma =>
        intro vals a W hS hL
        have e84 : a.tmps.getD 84 undef = .bool true := hL.1
        clear hL
        refine ⟨true, e84, ?_⟩
        rw [if_pos rfl]
        go_simp
        refine (HI1.out W).mono ?_
        rintro e W' ⟨rfl, hb⟩
        exact ⟨_, rfl, ⟨fun d hd => by injection hd with hd; subst hd; rfl, fun h => by cases h⟩, hS.call hb, trivial⟩
    · as_aux_lemma =>
        intro vals a W hS hL
        have e85 : a.tmps.getD 85 undef = .agg #[.int .i64 1, .int .i64 0] := hL.1
        have e86 : a.tmps.getD 86 undef = .agg #[.int .i64 1, .int .i64 0] := hL.2.1
        have e84 : a.tmps.getD 84 undef = .bool true := hL.2.2.1
        clear hL
        refine ⟨true, e84, ?_⟩
        rw [if_pos rfl]
        go_simp
        exact ⟨⟨fun d hd => by injection hd with hd; subst hd; rfl, fun h => by cases h⟩, hS, trivial⟩
    · as_aux_lemma =>
        intro vals a W hS hL
        have e84 : a.tmps.getD 84 undef = .bool true := hL.1
        have e87 : a.tmps.getD 87 undef = .bool true := hL.2.1
        clear hL
        go_simp
        exact ⟨⟨fun d hd => by injection hd with hd; subst hd; rfl, fun h => by cases h⟩, hS, trivial⟩
    · as_aux_lemma =>
        intro vals a W hS hL
        have e88 : a.tmps.getD 88 undef = .bool true := hL.1
        clear hL
        go_simp
        exact ⟨⟨fun d hd => by injection hd with hd; subst hd; rfl, fun h => by cases h⟩, hS, trivial⟩
    · as_aux_lemma =>
        intro vals a W hS hL
        have e13 : a.tmps.getD 13 undef = .bool true := hL.1
        have e89 : a.tmps.getD 89 undef = .bool true := hL.2.1
        clear hL
        refine ⟨true, e89, ?_⟩
        rw [if_pos rfl]
        go_simp
        exact ⟨⟨fun d hd => by injection hd with hd; subst hd; rfl, fun h => by cases h⟩, hS, trivial⟩
    · as_aux_lemma =>
        intro vals a W hS hL
        have e89 : a.tmps.getD 89 undef = .bool true := hL.1
        have e90 : a.tmps.getD 90 undef = .bool true := hL.2.1
        clear hL
        go_simp
        exact ⟨⟨fun d hd => by injection hd with hd; subst hd; rfl, fun h => by cases h⟩, hS, trivial⟩
    · as_aux_lemma =>
        intro vals a W hS hL
        have e91 : a.tmps.getD 91 undef = .bool true := hL.1
        clear hL
        go_simp
        exact ⟨⟨fun d hd => by injection hd with hd; subst hd; rfl, fun h => by cases h⟩, hS, trivial⟩
    · as_aux_lemma =>
        intro vals a W hS hL
        have e11 : a.tmps.getD 11 undef = .string ⟨#[84, 82, 85, 69]⟩ := hL.1
        have e92 : a.tmps.getD 92 undef = .bool true := hL.2.1
        clear hL
        refine ⟨true, e92, ?_⟩
        rw [if_pos rfl]
        go_simp
        exact ⟨⟨fun d hd => by injection hd with hd; subst hd; rfl, fun h => by cases h⟩, hS, trivial⟩
    · as_aux_lemma =>
        intro vals a W hS hL
        have e93 : a.tmps.getD 93 undef = .string ⟨#[84, 82, 85, 69]⟩ := hL.1
        have e92 : a.tmps.getD 92 undef = .bool true := hL.2.1
        clear hL
        refine ⟨true, e92, ?_⟩
        rw [if_pos rfl]
        go_simp
        exact ⟨⟨fun d hd => by injection hd with hd; subst hd; rfl, fun h => by cases h⟩, hS, trivial⟩
    · as_aux_lemma =>
        intro vals a W hS hL
        have e92 : a.tmps.getD 92 undef = .bool true := hL.1
        have e94 : a.tmps.getD 94 undef = .bool true := hL.2.1
        clear hL
        go_simp
        exact ⟨⟨fun d hd => by injection hd with hd; subst hd; rfl, fun h => by cases h⟩, hS, trivial⟩
    · as_aux_lemma =>
        intro vals a W hS hL
        have e95 : a.tmps.getD 95 undef = .bool true := hL.1
        clear hL
        go_simp
        exact ⟨⟨fun d hd => by injection hd with hd; subst hd; rfl, fun h => by cases h⟩, hS, trivial⟩
    · as_aux_lemma =>
        intro vals a W hS hL
        have e16 : a.tmps.getD 16 undef = .bool false := hL.1
        have e96 : a.tmps.getD 96 undef = .bool true := hL.2.1
        clear hL
        refine ⟨true, e96, ?_⟩
        rw [if_pos rfl]
        go_simp
        exact ⟨⟨fun d hd => by injection hd with hd; subst hd; rfl, fun h => by cases h⟩, hS, trivial⟩
    · as_aux_lemma =>
        intro vals a W hS hL
        have e97 : a.tmps.getD 97 undef = .bool false := hL.1
        have e96 : a.tmps.getD 96 undef = .bool true := hL.2.1
        clear hL
        refine ⟨true, e96, ?_⟩
        rw [if_pos rfl]
        go_simp
        exact ⟨⟨fun d hd => by injection hd with hd; subst hd; rfl, fun h => by cases h⟩, hS, trivial⟩
    · as_aux_lemma =>
        intro vals a W hS hL
        have e96 : a.tmps.getD 96 undef = .bool true := hL.1
        have e98 : a.tmps.getD 98 undef = .bool true := hL.2.1
        clear hL
        go_simp
        exact ⟨⟨fun d hd => by injection hd with hd; subst hd; rfl, fun h => by cases h⟩, hS, trivial⟩
    · as_aux_lemma =>
        intro vals a W hS hL
        have e99 : a.tmps.getD 99 undef = .bool true := hL.1
        clear hL
        go_simp
        exact ⟨⟨fun d hd => by injection hd with hd; subst hd; rfl, fun h => by cases h⟩, hS, trivial⟩
    · as_aux_lemma =>
        intro vals a W hS hL
        have e15 : a.tmps.getD 15 undef = .pointer (some ⟨w8.heap.size, 0, none⟩) := hL.1
        have e100 : a.tmps.getD 100 undef = .bool true := hL.2.1
        clear hL
        refine ⟨true, e100, ?_⟩
        rw [if_pos rfl]
        have kb : Bk W (w8.heap.size) 25 #[.int .i64 4, .int .i64 0, .int .i64 0, .string ⟨#[]⟩, .bool false, .int .i64 42] := hS.bk 1 rfl rfl
        have f0 := kb.cell 0
        have f1 := kb.cell 1
        have f2 := kb.cell 2
        have f3 := kb.cell 3
        have f4 := kb.cell 4
        have f5 := kb.cell 5
        clear kb
        go_simp
        exact ⟨⟨fun d hd => by injection hd with hd; subst hd; rfl, fun h => by cases h⟩, hS, trivial⟩
    · as_aux_lemma =>
        intro vals a W hS hL
        have e100 : a.tmps.getD 100 undef = .bool true := hL.1
        clear hL
        refine ⟨true, e100, ?_⟩
        rw [if_pos rfl]
        go_simp
        refine (HF42.out W).mono ?_
        rintro e W' ⟨rfl, hb⟩
        exact ⟨_, rfl, ⟨fun d hd => by injection hd with hd; subst hd; rfl, fun h => by cases h⟩, hS.call hb, trivial⟩
    · as_aux_lemma =>
        intro vals a W hS hL
        have e101 : a.tmps.getD 101 undef = .agg #[.int .i64 4, .int .i64 0, .int .i64 0, .string ⟨#[]⟩, .bool false, .int .i64 42] := hL.1
        have e102 : a.tmps.getD 102 undef = .agg #[.int .i64 4, .int .i64 0, .int .i64 0, .string ⟨#[]⟩, .bool false, .int .i64 42] := hL.2.1
        have e100 : a.tmps.getD 100 undef = .bool true := hL.2.2.1
        clear hL
        refine ⟨true, e100, ?_⟩
        rw [if_pos rfl]
        go_simp
        exact ⟨⟨fun d hd => by injection hd with hd; subst hd; rfl, fun h => by cases h⟩, hS, trivial⟩
    · as_aux_lemma =>
        intro vals a W hS hL
        have e100 : a.tmps.getD 100 undef = .bool true := hL.1
        have e103 : a.tmps.getD 103 undef = .bool true := hL.2.1
        clear hL
        go_simp
        exact ⟨⟨fun d hd => by injection hd with hd; subst hd; rfl, fun h => by cases h⟩, hS, trivial⟩
    · as_aux_lemma =>
        intro vals a W hS hL
        have e104 : a.tmps.getD 104 undef = .bool true := hL.1
        clear hL
        go_simp
        exact ⟨⟨fun d hd => by injection hd with hd; subst hd; rfl, fun h => by cases h⟩, hS, trivial⟩
    · as_aux_lemma =>
        intro vals a W hS hL
        have e19 : a.tmps.getD 19 undef = .bool true := hL.1
        have e105 : a.tmps.getD 105 undef = .bool true := hL.2.1
        clear hL
        refine ⟨true, e105, ?_⟩
        rw [if_pos rfl]
        go_simp
        exact ⟨⟨fun d hd => by injection hd with hd; subst hd; rfl, fun h => by cases h⟩, hS, trivial⟩
    · as_aux_lemma =>
        intro vals a W hS hL
        have e105 : a.tmps.getD 105 undef = .bool true := hL.1
        have e106 : a.tmps.getD 106 undef = .bool true := hL.2.1
        clear hL
        go_simp
        exact ⟨⟨fun d hd => by injection hd with hd; subst hd; rfl, fun h => by cases h⟩, hS, trivial⟩
    · as_aux_lemma =>
        intro vals a W hS hL
        have e107 : a.tmps.getD 107 undef = .bool true := hL.1
        clear hL
        go_simp
        exact ⟨⟨fun d hd => by injection hd with hd; subst hd; rfl, fun h => by cases h⟩, hS, trivial⟩
    · as_aux_lemma =>
        intro vals a W hS hL
        have e17 : a.tmps.getD 17 undef = .bool false := hL.1
        have e108 : a.tmps.getD 108 undef = .bool true := hL.2.1
        clear hL
        refine ⟨true, e108, ?_⟩
        rw [if_pos rfl]
        go_simp
        exact ⟨⟨fun d hd => by injection hd with hd; subst hd; rfl, fun h => by cases h⟩, hS, trivial⟩
    · as_aux_lemma =>
        intro vals a W hS hL
        have e109 : a.tmps.getD 109 undef = .bool false := hL.1
        have e108 : a.tmps.getD 108 undef = .bool true := hL.2.1
        clear hL
        refine ⟨true, e108, ?_⟩
        rw [if_pos rfl]
        go_simp
        exact ⟨⟨fun d hd => by injection hd with hd; subst hd; rfl, fun h => by cases h⟩, hS, trivial⟩
    · as_aux_lemma =>
        intro vals a W hS hL
        have e108 : a.tmps.getD 108 undef = .bool true := hL.1
        have e110 : a.tmps.getD 110 undef = .bool true := hL.2.1
        clear hL
        go_simp
        exact ⟨⟨fun d hd => by injection hd with hd; subst hd; rfl, fun h => by cases h⟩, hS, trivial⟩
    · as_aux_lemma =>
        intro vals a W hS hL
        have e111 : a.tmps.getD 111 undef = .bool true := hL.1
        clear hL
        go_simp
        exact ⟨⟨fun d hd => by injection hd with hd; subst hd; rfl, fun h => by cases h⟩, hS, trivial⟩
    · as_aux_lemma =>
        intro vals a W hS hL
        have e22 : a.tmps.getD 22 undef = .bool false := hL.1
        have e112 : a.tmps.getD 112 undef = .bool true := hL.2.1
        clear hL
        refine ⟨true, e112, ?_⟩
        rw [if_pos rfl]
        go_simp
        exact ⟨⟨fun d hd => by injection hd with hd; subst hd; rfl, fun h => by cases h⟩, hS, trivial⟩
    · as_aux_lemma =>
        intro vals a W hS hL
        have e113 : a.tmps.getD 113 undef = .bool false := hL.1
        have e112 : a.tmps.getD 112 undef = .bool true := hL.2.1
        clear hL
        refine ⟨true, e112, ?_⟩
        rw [if_pos rfl]
        go_simp
        exact ⟨⟨fun d hd => by injection hd with hd; subst hd; rfl, fun h => by cases h⟩, hS, trivial⟩
    · as_aux_lemma =>
        intro vals a W hS hL
        have e112 : a.tmps.getD 112 undef = .bool true := hL.1
        have e114 : a.tmps.getD 114 undef = .bool true := hL.2.1
        clear hL
        go_simp
        exact ⟨⟨fun d hd => by injection hd with hd; subst hd; rfl, fun h => by cases h⟩, hS, trivial⟩
    · as_aux_lemma =>
        intro vals a W hS hL
        have e115 : a.tmps.getD 115 undef = .bool true := hL.1
        clear hL
        go_simp
        exact ⟨⟨fun d hd => by injection hd with hd; subst hd; rfl, fun h => by cases h⟩, hS, trivial⟩
    · as_aux_lemma =>
        intro vals a W hS hL
        have e21 : a.tmps.getD 21 undef = .pointer (some ⟨w12.heap.size, 0, none⟩) := hL.1
        have e116 : a.tmps.getD 116 undef = .bool true := hL.2.1
        clear hL
        refine ⟨true, e116, ?_⟩
        rw [if_pos rfl]
        have kb : Bk W (w12.heap.size) 25 #[.int .i64 4, .int .i64 0, .int .i64 0, .string ⟨#[]⟩, .bool false, .int .i64 15] := hS.bk 0 rfl rfl
        have f0 := kb.cell 0
        have f1 := kb.cell 1
        have f2 := kb.cell 2
        have f3 := kb.cell 3
        have f4 := kb.cell 4
        have f5 := kb.cell 5
        clear kb
        go_simp
        exact ⟨⟨fun d hd => by injection hd with hd; subst hd; rfl, fun h => by cases h⟩, hS, trivial⟩
    · as_aux_lemma =>
        intro vals a W hS hL
        have e116 : a.tmps.getD 116 undef = .bool true := hL.1
        clear hL
        refine ⟨true, e116, ?_⟩
        rw [if_pos rfl]
        go_simp
        refine (HF15.out W).mono ?_
        rintro e W' ⟨rfl, hb⟩
        exact ⟨_, rfl, ⟨fun d hd => by injection hd with hd; subst hd; rfl, fun h => by cases h⟩, hS.call hb, trivial⟩
    · as_aux_lemma =>
        intro vals a W hS hL
        have e117 : a.tmps.getD 117 undef = .agg #[.int .i64 4, .int .i64 0, .int .i64 0, .string ⟨#[]⟩, .bool false, .int .i64 15] := hL.1
        have e118 : a.tmps.getD 118 undef = .agg #[.int .i64 4, .int .i64 0, .int .i64 0, .string ⟨#[]⟩, .bool false, .int .i64 15] := hL.2.1
        have e116 : a.tmps.getD 116 undef = .bool true := hL.2.2.1
        clear hL
        refine ⟨true, e116, ?_⟩
        rw [if_pos rfl]
        go_simp
        exact ⟨⟨fun d hd => by injection hd with hd; subst hd; rfl, fun h => by cases h⟩, hS, trivial⟩
    · as_aux_lemma =>
        intro vals a W hS hL
        have e116 : a.tmps.getD 116 undef = .bool true := hL.1
        have e119 : a.tmps.getD 119 undef = .bool true := hL.2.1
        clear hL
        go_simp
        exact ⟨⟨fun d hd => by injection hd with hd; subst hd; rfl, fun h => by cases h⟩, hS, trivial⟩
    · as_aux_lemma =>
        intro vals a W hS hL
        have e120 : a.tmps.getD 120 undef = .bool true := hL.1
        clear hL
        go_simp
        exact ⟨⟨fun d hd => by injection hd with hd; subst hd; rfl, fun h => by cases h⟩, hS, trivial⟩
    · as_aux_lemma =>
        intro vals a W hS hL
        have e121 : a.tmps.getD 121 undef = .bool true := hL.1
        clear hL
        refine ⟨true, e121, ?_⟩
        rw [if_pos rfl]
        go_simp
        refine (HF7.out W).mono ?_
        rintro e W' ⟨rfl, hb⟩
        exact ⟨_, rfl, ⟨fun d hd => by injection hd with hd; subst hd; rfl, fun h => by cases h⟩, hS.call hb, trivial⟩
    · as_aux_lemma =>
        intro vals a W hS hL
        have e122 : a.tmps.getD 122 undef = .agg #[.int .i64 4, .int .i64 0, .int .i64 0, .string ⟨#[]⟩, .bool false, .int .i64 7] := hL.1
        have e121 : a.tmps.getD 121 undef = .bool true := hL.2.1
        clear hL
        refine ⟨true, e121, ?_⟩
        rw [if_pos rfl]
        go_simp
        refine (HX7.out W).mono ?_
        rintro e W' ⟨rfl, hb⟩
        exact ⟨_, rfl, ⟨fun d hd => by injection hd with hd; subst hd; rfl, fun h => by cases h⟩, hS.call hb, trivial⟩
    · as_aux_lemma =>
        intro vals a W hS hL
        have e123 : a.tmps.getD 123 undef = .string ⟨#[35, 68, 73, 86, 47, 48, 33]⟩ := hL.1
        have e121 : a.tmps.getD 121 undef = .bool true := hL.2.1
        clear hL
        refine ⟨true, e121, ?_⟩
        rw [if_pos rfl]
        go_simp
        exact ⟨⟨fun d hd => by injection hd with hd; subst hd; rfl, fun h => by cases h⟩, hS, trivial⟩
    · as_aux_lemma =>
        intro vals a W hS hL
        have e121 : a.tmps.getD 121 undef = .bool true := hL.1
        have e124 : a.tmps.getD 124 undef = .bool true := hL.2.1
        clear hL
        go_simp
        exact ⟨⟨fun d hd => by injection hd with hd; subst hd; rfl, fun h => by cases h⟩, hS, trivial⟩
    · as_aux_lemma =>
        intro vals a W hS hL
        have e125 : a.tmps.getD 125 undef = .bool true := hL.1
        clear hL
        go_simp
        exact ⟨⟨fun d hd => by injection hd with hd; subst hd; rfl, fun h => by cases h⟩, hS, trivial⟩
    · skip
      intro vals a W hS hL
      have e126 : a.tmps.getD 126 undef = .bool true := hL.1
      clear hL
      refine ⟨true, e126, ?_⟩
      rw [if_pos rfl]
      go_simp
      exact ⟨⟨fun d hd => by injection hd with hd; subst hd; rfl, fun h => by cases h⟩, hS, trivial⟩
    · as_aux_lemma =>
        intro vals a W hS hL
        have e127 : a.tmps.getD 127 undef = .agg #[.int .i64 0, .int .i64 0, .int .i64 0, .string ⟨#[]⟩, .bool false, .int .i64 0] := hL.1
        have e126 : a.tmps.getD 126 undef = .bool true := hL.2.1
        clear hL
        refine ⟨true, e126, ?_⟩
        rw [if_pos rfl]
        go_simp
        refine (HXB.out W).mono ?_
        rintro e W' ⟨rfl, hb⟩
        exact ⟨_, rfl, ⟨fun d hd => by injection hd with hd; subst hd; rfl, fun h => by cases h⟩, hS.call hb, trivial⟩
    · as_aux_lemma =>
        intro vals a W hS hL
        have e128 : a.tmps.getD 128 undef = .string ⟨#[]⟩ := hL.1
        have e126 : a.tmps.getD 126 undef = .bool true := hL.2.1
        clear hL
        refine ⟨true, e126, ?_⟩
        rw [if_pos rfl]
        go_simp
        exact ⟨⟨fun d hd => by injection hd with hd; subst hd; rfl, fun h => by cases h⟩, hS, trivial⟩
    · as_aux_lemma =>
        intro vals a W hS hL
        have e126 : a.tmps.getD 126 undef = .bool true := hL.1
        have e129 : a.tmps.getD 129 undef = .bool true := hL.2.1
        clear hL
        go_simp
        exact ⟨⟨fun d hd => by injection hd with hd; subst hd; rfl, fun h => by cases h⟩, hS, trivial⟩
    · as_aux_lemma =>
        intro vals a W hS hL
        have e130 : a.tmps.getD 130 undef = .bool true := hL.1
        clear hL
        go_simp
        exact ⟨⟨fun d hd => by injection hd with hd; subst hd; rfl, fun h => by cases h⟩, hS, trivial⟩
    · as_aux_lemma =>
        intro vals a W hS hL
        have e131 : a.tmps.getD 131 undef = .bool true := hL.1
        clear hL
        refine ⟨true, e131, ?_⟩
        rw [if_pos rfl]
        go_simp
        refine (HN9.out W).mono ?_
        rintro e W' ⟨rfl, hb⟩
        exact ⟨_, rfl, ⟨fun d hd => by injection hd with hd; subst hd; rfl, fun h => by cases h⟩, hS.call hb, trivial⟩
    · as_aux_lemma =>
        intro vals a W hS hL
        have e131 : a.tmps.getD 131 undef = .bool true := hL.1
        clear hL
        refine ⟨true, e131, ?_⟩
        rw [if_pos rfl]
        go_simp
        refine (HSo.out W).mono ?_
        rintro e W' ⟨rfl, hb⟩
        exact ⟨_, rfl, ⟨fun d hd => by injection hd with hd; subst hd; rfl, fun h => by cases h⟩, hS.call hb, trivial⟩
    · as_aux_lemma =>
        intro vals a W hS hL
        have e132 : a.tmps.getD 132 undef = .agg #[.int .i64 1, .int .i64 9, .int .i64 0, .string ⟨#[]⟩, .bool false, .int .i64 0] := hL.1
        have e133 : a.tmps.getD 133 undef = .agg #[.int .i64 2, .int .i64 0, .int .i64 0, .string ⟨#[49]⟩, .bool false, .int .i64 0] := hL.2.1
        have e131 : a.tmps.getD 131 undef = .bool true := hL.2.2.1
        clear hL
        refine ⟨true, e131, ?_⟩
        rw [if_pos rfl]
        go_simp
        refine (HC1.out W).mono ?_
        rintro e W' ⟨rfl, hb⟩
        exact ⟨_, rfl, ⟨fun d hd => by injection hd with hd; subst hd; rfl, fun h => by cases h⟩, hS.call hb, trivial⟩
    · as_aux_lemma =>
        intro vals a W hS hL
        have e134 : a.tmps.getD 134 undef = .int .i64 (-1) := hL.1
        have e131 : a.tmps.getD 131 undef = .bool true := hL.2.1
        clear hL
        refine ⟨true, e131, ?_⟩
        rw [if_pos rfl]
        go_simp
        exact ⟨⟨fun d hd => by injection hd with hd; subst hd; rfl, fun h => by cases h⟩, hS, trivial⟩
    · as_aux_lemma =>
        intro vals a W hS hL
        have e131 : a.tmps.getD 131 undef = .bool true := hL.1
        have e135 : a.tmps.getD 135 undef = .bool true := hL.2.1
        clear hL
        go_simp
        exact ⟨⟨fun d hd => by injection hd with hd; subst hd; rfl, fun h => by cases h⟩, hS, trivial⟩
    · as_aux_lemma =>
        intro vals a W hS hL
        have e136 : a.tmps.getD 136 undef = .bool true := hL.1
        clear hL
        go_simp
        exact ⟨⟨fun d hd => by injection hd with hd; subst hd; rfl, fun h => by cases h⟩, hS, trivial⟩
    · skip
      intro vals a W hS hL
      have e137 : a.tmps.getD 137 undef = .bool true := hL.1
      clear hL
      refine ⟨true, e137, ?_⟩
      rw [if_pos rfl]
      go_simp
      exact ⟨⟨fun d hd => by injection hd with hd; subst hd; rfl, fun h => by cases h⟩, hS, trivial⟩
    · as_aux_lemma =>
        intro vals a W hS hL
        have e137 : a.tmps.getD 137 undef = .bool true := hL.1
        clear hL
        refine ⟨true, e137, ?_⟩
        rw [if_pos rfl]
        go_simp
        refine (HSe.out W).mono ?_
        rintro e W' ⟨rfl, hb⟩
        exact ⟨_, rfl, ⟨fun d hd => by injection hd with hd; subst hd; rfl, fun h => by cases h⟩, hS.call hb, trivial⟩
    · as_aux_lemma =>
        intro vals a W hS hL
        have e138 : a.tmps.getD 138 undef = .agg #[.int .i64 0, .int .i64 0, .int .i64 0, .string ⟨#[]⟩, .bool false, .int .i64 0] := hL.1
        have e139 : a.tmps.getD 139 undef = .agg #[.int .i64 2, .int .i64 0, .int .i64 0, .string ⟨#[]⟩, .bool false, .int .i64 0] := hL.2.1
        have e137 : a.tmps.getD 137 undef = .bool true := hL.2.2.1
        clear hL
        refine ⟨true, e137, ?_⟩
        rw [if_pos rfl]
        go_simp
        refine (HC2.out W).mono ?_
        rintro e W' ⟨rfl, hb⟩
        exact ⟨_, rfl, ⟨fun d hd => by injection hd with hd; subst hd; rfl, fun h => by cases h⟩, hS.call hb, trivial⟩
    · as_aux_lemma =>
        intro vals a W hS hL
        have e140 : a.tmps.getD 140 undef = .int .i64 0 := hL.1
        have e137 : a.tmps.getD 137 undef = .bool true := hL.2.1
        clear hL
        refine ⟨true, e137, ?_⟩
        rw [if_pos rfl]
        go_simp
        exact ⟨⟨fun d hd => by injection hd with hd; subst hd; rfl, fun h => by cases h⟩, hS, trivial⟩
    · as_aux_lemma =>
        intro vals a W hS hL
        have e137 : a.tmps.getD 137 undef = .bool true := hL.1
        have e141 : a.tmps.getD 141 undef = .bool true := hL.2.1
        clear hL
        go_simp
        exact ⟨⟨fun d hd => by injection hd with hd; subst hd; rfl, fun h => by cases h⟩, hS, trivial⟩
    · as_aux_lemma =>
        intro vals a W hS hL
        have e142 : a.tmps.getD 142 undef = .bool true := hL.1
        clear hL
        go_simp
        exact ⟨⟨fun d hd => by injection hd with hd; subst hd; rfl, fun h => by cases h⟩, hS, trivial⟩
    · skip
      intro vals a W hS hL
      have e143 : a.tmps.getD 143 undef = .bool true := hL.1
      clear hL
      refine ⟨true, e143, ?_⟩
      rw [if_pos rfl]
      go_simp
      exact ⟨⟨fun d hd => by injection hd with hd; subst hd; rfl, fun h => by cases h⟩, hS, trivial⟩
    · as_aux_lemma =>
        intro vals a W hS hL
        have e143 : a.tmps.getD 143 undef = .bool true := hL.1
        clear hL
        refine ⟨true, e143, ?_⟩
        rw [if_pos rfl]
        go_simp
        refine (HNm.out W).mono ?_
        rintro e W' ⟨rfl, hb⟩
        exact ⟨_, rfl, ⟨fun d hd => by injection hd with hd; subst hd; rfl, fun h => by cases h⟩, hS.call hb, trivial⟩
    · as_aux_lemma =>
        intro vals a W hS hL
        have e144 : a.tmps.getD 144 undef = .agg #[.int .i64 0, .int .i64 0, .int .i64 0, .string ⟨#[]⟩, .bool false, .int .i64 0] := hL.1
        have e145 : a.tmps.getD 145 undef = .agg #[.int .i64 1, .int .i64 (-1), .int .i64 0, .string ⟨#[]⟩, .bool false, .int .i64 0] := hL.2.1
        have e143 : a.tmps.getD 143 undef = .bool true := hL.2.2.1
        clear hL
        refine ⟨true, e143, ?_⟩
        rw [if_pos rfl]
        go_simp
        refine (HC3.out W).mono ?_
        rintro e W' ⟨rfl, hb⟩
        exact ⟨_, rfl, ⟨fun d hd => by injection hd with hd; subst hd; rfl, fun h => by cases h⟩, hS.call hb, trivial⟩
    · as_aux_lemma =>
        intro vals a W hS hL
        have e146 : a.tmps.getD 146 undef = .int .i64 1 := hL.1
        have e143 : a.tmps.getD 143 undef = .bool true := hL.2.1
        clear hL
        refine ⟨true, e143, ?_⟩
        rw [if_pos rfl]
        go_simp
        exact ⟨⟨fun d hd => by injection hd with hd; subst hd; rfl, fun h => by cases h⟩, hS, trivial⟩
    · as_aux_lemma =>
        intro vals a W hS hL
        have e143 : a.tmps.getD 143 undef = .bool true := hL.1
        have e147 : a.tmps.getD 147 undef = .bool true := hL.2.1
        clear hL
        go_simp
        exact ⟨⟨fun d hd => by injection hd with hd; subst hd; rfl, fun h => by cases h⟩, hS, trivial⟩
    · as_aux_lemma =>
        intro vals a W hS hL
        have e148 : a.tmps.getD 148 undef = .bool true := hL.1
        clear hL
        go_simp
        exact ⟨⟨fun d hd => by injection hd with hd; subst hd; rfl, fun h => by cases h⟩, hS, trivial⟩
    · skip
      intro vals a W hS hL
      have e149 : a.tmps.getD 149 undef = .bool true := hL.1
      clear hL
      refine ⟨true, e149, ?_⟩
      rw [if_pos rfl]
      go_simp
      exact ⟨⟨fun d hd => by injection hd with hd; subst hd; rfl, fun h => by cases h⟩, hS, trivial⟩
    · as_aux_lemma =>
        intro vals a W hS hL
        have e149 : a.tmps.getD 149 undef = .bool true := hL.1
        clear hL
        refine ⟨true, e149, ?_⟩
        rw [if_pos rfl]
        go_simp
        refine (HF0.out W).mono ?_
        rintro e W' ⟨rfl, hb⟩
        exact ⟨_, rfl, ⟨fun d hd => by injection hd with hd; subst hd; rfl, fun h => by cases h⟩, hS.call hb, trivial⟩
    · as_aux_lemma =>
        intro vals a W hS hL
        have e150 : a.tmps.getD 150 undef = .agg #[.int .i64 0, .int .i64 0, .int .i64 0, .string ⟨#[]⟩, .bool false, .int .i64 0] := hL.1
        have e151 : a.tmps.getD 151 undef = .agg #[.int .i64 4, .int .i64 0, .int .i64 0, .string ⟨#[]⟩, .bool false, .int .i64 0] := hL.2.1
        have e149 : a.tmps.getD 149 undef = .bool true := hL.2.2.1
        clear hL
        refine ⟨true, e149, ?_⟩
        rw [if_pos rfl]
        go_simp
        refine (HC4.out W).mono ?_
        rintro e W' ⟨rfl, hb⟩
        exact ⟨_, rfl, ⟨fun d hd => by injection hd with hd; subst hd; rfl, fun h => by cases h⟩, hS.call hb, trivial⟩
    · as_aux_lemma =>
        intro vals a W hS hL
        have e152 : a.tmps.getD 152 undef = .int .i64 (-1) := hL.1
        have e149 : a.tmps.getD 149 undef = .bool true := hL.2.1
        clear hL
        refine ⟨true, e149, ?_⟩
        rw [if_pos rfl]
        go_simp
        exact ⟨⟨fun d hd => by injection hd with hd; subst hd; rfl, fun h => by cases h⟩, hS, trivial⟩
    · as_aux_lemma =>
        intro vals a W hS hL
        have e149 : a.tmps.getD 149 undef = .bool true := hL.1
        have e153 : a.tmps.getD 153 undef = .bool true := hL.2.1
        clear hL
        go_simp
        exact ⟨⟨fun d hd => by injection hd with hd; subst hd; rfl, fun h => by cases h⟩, hS, trivial⟩
    · as_aux_lemma =>
        intro vals a W hS hL
        have e154 : a.tmps.getD 154 undef = .bool true := hL.1
        clear hL
        go_simp
        exact ⟨⟨fun d hd => by injection hd with hd; subst hd; rfl, fun h => by cases h⟩, hS, trivial⟩
    · as_aux_lemma =>
        intro vals a W hS hL
        have e1 : a.tmps.getD 1 undef = .pointer (some ⟨w.heap.size, 0, none⟩) := hL.1
        have e155 : a.tmps.getD 155 undef = .bool true := hL.2.1
        clear hL
        refine ⟨true, e155, ?_⟩
        rw [if_pos rfl]
        have kb : Bk W (w.heap.size) 25 #[.int .i64 3, .int .i64 0, .int .i64 0, .string ⟨#[]⟩, .bool true, .int .i64 0] := hS.bk 5 rfl rfl
        have f0 := kb.cell 0
        have f1 := kb.cell 1
        have f2 := kb.cell 2
        have f3 := kb.cell 3
        have f4 := kb.cell 4
        have f5 := kb.cell 5
        clear kb
        go_simp
        exact ⟨⟨fun d hd => by injection hd with hd; subst hd; rfl, fun h => by cases h⟩, hS, trivial⟩
    · skip
      intro vals a W hS hL
      have e155 : a.tmps.getD 155 undef = .bool true := hL.1
      clear hL
      refine ⟨true, e155, ?_⟩
      rw [if_pos rfl]
      go_simp
      exact ⟨⟨fun d hd => by injection hd with hd; subst hd; rfl, fun h => by cases h⟩, hS, trivial⟩
    · as_aux_lemma =>
        intro vals a W hS hL
        have e156 : a.tmps.getD 156 undef = .agg #[.int .i64 3, .int .i64 0, .int .i64 0, .string ⟨#[]⟩, .bool true, .int .i64 0] := hL.1
        have e157 : a.tmps.getD 157 undef = .agg #[.int .i64 0, .int .i64 0, .int .i64 0, .string ⟨#[]⟩, .bool false, .int .i64 0] := hL.2.1
        have e155 : a.tmps.getD 155 undef = .bool true := hL.2.2.1
        clear hL
        refine ⟨true, e155, ?_⟩
        rw [if_pos rfl]
        go_simp
        refine (HC5.out W).mono ?_
        rintro e W' ⟨rfl, hb⟩
        exact ⟨_, rfl, ⟨fun d hd => by injection hd with hd; subst hd; rfl, fun h => by cases h⟩, hS.call hb, trivial⟩
    · as_aux_lemma =>
        intro vals a W hS hL
        have e158 : a.tmps.getD 158 undef = .int .i64 1 := hL.1
        have e155 : a.tmps.getD 155 undef = .bool true := hL.2.1
        clear hL
        refine ⟨true, e155, ?_⟩
        rw [if_pos rfl]
        go_simp
        exact ⟨⟨fun d hd => by injection hd with hd; subst hd; rfl, fun h => by cases h⟩, hS, trivial⟩
    · as_aux_lemma =>
        intro vals a W hS hL
        have e155 : a.tmps.getD 155 undef = .bool true := hL.1
        have e159 : a.tmps.getD 159 undef = .bool true := hL.2.1
        clear hL
        go_simp
        exact ⟨⟨fun d hd => by injection hd with hd; subst hd; rfl, fun h => by cases h⟩, hS, trivial⟩
    · as_aux_lemma =>
        intro vals a W hS hL
        have e160 : a.tmps.getD 160 undef = .bool true := hL.1
        clear hL
        go_simp
        exact ⟨⟨fun d hd => by injection hd with hd; subst hd; rfl, fun h => by cases h⟩, hS, trivial⟩
    · as_aux_lemma =>
        intro vals a W hS hL
        have e161 : a.tmps.getD 161 undef = .bool true := hL.1
        clear hL
        refine ⟨true, e161, ?_⟩
        rw [if_pos rfl]
        go_simp
        refine (HNo.out W).mono ?_
        rintro e W' ⟨rfl, hb⟩
        exact ⟨_, rfl, ⟨fun d hd => by injection hd with hd; subst hd; rfl, fun h => by cases h⟩, hS.call hb, trivial⟩
    · as_aux_lemma =>
        intro vals a W hS hL
        have e162 : a.tmps.getD 162 undef = .agg #[.int .i64 1, .int .i64 1, .int .i64 0, .string ⟨#[]⟩, .bool false, .int .i64 0] := hL.1
        have e161 : a.tmps.getD 161 undef = .bool true := hL.2.1
        clear hL
        refine ⟨true, e161, ?_⟩
        rw [if_pos rfl]
        go_simp
        refine (HK1.out W).mono ?_
        rintro e W' ⟨rfl, hb⟩
        exact ⟨_, rfl, ⟨fun d hd => by injection hd with hd; subst hd; rfl, fun h => by cases h⟩, hS.call hb, trivial⟩
    · as_aux_lemma =>
        intro vals a W hS hL
        have e163 : a.tmps.getD 163 undef = .int .i64 0 := hL.1
        have e161 : a.tmps.getD 161 undef = .bool true := hL.2.1
        clear hL
        refine ⟨true, e161, ?_⟩
        rw [if_pos rfl]
        go_simp
        exact ⟨⟨fun d hd => by injection hd with hd; subst hd; rfl, fun h => by cases h⟩, hS, trivial⟩
    · as_aux_lemma =>
        intro vals a W hS hL
        have e161 : a.tmps.getD 161 undef = .bool true := hL.1
        have e164 : a.tmps.getD 164 undef = .bool true := hL.2.1
        clear hL
        go_simp
        exact ⟨⟨fun d hd => by injection hd with hd; subst hd; rfl, fun h => by cases h⟩, hS, trivial⟩
    · as_aux_lemma =>
        intro vals a W hS hL
        have e165 : a.tmps.getD 165 undef = .bool true := hL.1
        clear hL
        go_simp
        exact ⟨⟨fun d hd => by injection hd with hd; subst hd; rfl, fun h => by cases h⟩, hS, trivial⟩
    · skip
      intro vals a W hS hL
      have e166 : a.tmps.getD 166 undef = .bool true := hL.1
      clear hL
      refine ⟨true, e166, ?_⟩
      rw [if_pos rfl]
      go_simp
      exact ⟨⟨fun d hd => by injection hd with hd; subst hd; rfl, fun h => by cases h⟩, hS, trivial⟩
    · as_aux_lemma =>
        intro vals a W hS hL
        have e167 : a.tmps.getD 167 undef = .agg #[.int .i64 1, .int .i64 0, .int .i64 0, .string ⟨#[]⟩, .bool true, .int .i64 0] := hL.1
        have e166 : a.tmps.getD 166 undef = .bool true := hL.2.1
        clear hL
        refine ⟨true, e166, ?_⟩
        rw [if_pos rfl]
        go_simp
        refine (HK2.out W).mono ?_
        rintro e W' ⟨rfl, hb⟩
        exact ⟨_, rfl, ⟨fun d hd => by injection hd with hd; subst hd; rfl, fun h => by cases h⟩, hS.call hb, trivial⟩
    · as_aux_lemma =>
        intro vals a W hS hL
        have e168 : a.tmps.getD 168 undef = .int .i64 1 := hL.1
        have e166 : a.tmps.getD 166 undef = .bool true := hL.2.1
        clear hL
        refine ⟨true, e166, ?_⟩
        rw [if_pos rfl]
        go_simp
        exact ⟨⟨fun d hd => by injection hd with hd; subst hd; rfl, fun h => by cases h⟩, hS, trivial⟩
    · as_aux_lemma =>
        intro vals a W hS hL
        have e166 : a.tmps.getD 166 undef = .bool true := hL.1
        have e169 : a.tmps.getD 169 undef = .bool true := hL.2.1
        clear hL
        go_simp
        exact ⟨⟨fun d hd => by injection hd with hd; subst hd; rfl, fun h => by cases h⟩, hS, trivial⟩
    · as_aux_lemma =>
        intro vals a W hS hL
        have e170 : a.tmps.getD 170 undef = .bool true := hL.1
        clear hL
        go_simp
        exact ⟨⟨fun d hd => by injection hd with hd; subst hd; rfl, fun h => by cases h⟩, hS, trivial⟩
    · as_aux_lemma =>
        intro vals a W hS hL
        have e171 : a.tmps.getD 171 undef = .bool true := hL.1
        clear hL
        refine ⟨true, e171, ?_⟩
        rw [if_pos rfl]
        go_simp
        refine (HF1.out W).mono ?_
        rintro e W' ⟨rfl, hb⟩
        exact ⟨_, rfl, ⟨fun d hd => by injection hd with hd; subst hd; rfl, fun h => by cases h⟩, hS.call hb, trivial⟩
    · as_aux_lemma =>
        intro vals a W hS hL
        have e172 : a.tmps.getD 172 undef = .agg #[.int .i64 4, .int .i64 0, .int .i64 0, .string ⟨#[]⟩, .bool false, .int .i64 1] := hL.1
        have e171 : a.tmps.getD 171 undef = .bool true := hL.2.1
        clear hL
        refine ⟨true, e171, ?_⟩
        rw [if_pos rfl]
        go_simp
        refine (HK3.out W).mono ?_
        rintro e W' ⟨rfl, hb⟩
        exact ⟨_, rfl, ⟨fun d hd => by injection hd with hd; subst hd; rfl, fun h => by cases h⟩, hS.call hb, trivial⟩
    · as_aux_lemma =>
        intro vals a W hS hL
        have e173 : a.tmps.getD 173 undef = .int .i64 1 := hL.1
        have e171 : a.tmps.getD 171 undef = .bool true := hL.2.1
        clear hL
        refine ⟨true, e171, ?_⟩
        rw [if_pos rfl]
        go_simp
        exact ⟨⟨fun d hd => by injection hd with hd; subst hd; rfl, fun h => by cases h⟩, hS, trivial⟩
    · as_aux_lemma =>
        intro vals a W hS hL
        have e171 : a.tmps.getD 171 undef = .bool true := hL.1
        have e174 : a.tmps.getD 174 undef = .bool true := hL.2.1
        clear hL
        go_simp
        exact ⟨⟨fun d hd => by injection hd with hd; subst hd; rfl, fun h => by cases h⟩, hS, trivial⟩
    · as_aux_lemma =>
        intro vals a W hS hL
        have e175 : a.tmps.getD 175 undef = .bool true := hL.1
        clear hL
        go_simp
        exact ⟨⟨fun d hd => by injection hd with hd; subst hd; rfl, fun h => by cases h⟩, hS, trivial⟩
    · as_aux_lemma =>
        intro vals a W hS hL
        have e1 : a.tmps.getD 1 undef = .pointer (some ⟨w.heap.size, 0, none⟩) := hL.1
        have e176 : a.tmps.getD 176 undef = .bool true := hL.2.1
        clear hL
        refine ⟨true, e176, ?_⟩
        rw [if_pos rfl]
        have kb : Bk W (w.heap.size) 25 #[.int .i64 3, .int .i64 0, .int .i64 0, .string ⟨#[]⟩, .bool true, .int .i64 0] := hS.bk 5 rfl rfl
        have f0 := kb.cell 0
        have f1 := kb.cell 1
        have f2 := kb.cell 2
        have f3 := kb.cell 3
        have f4 := kb.cell 4
        have f5 := kb.cell 5
        clear kb
        go_simp
        exact ⟨⟨fun d hd => by injection hd with hd; subst hd; rfl, fun h => by cases h⟩, hS, trivial⟩
    · as_aux_lemma =>
        intro vals a W hS hL
        have e1 : a.tmps.getD 1 undef = .pointer (some ⟨w.heap.size, 0, none⟩) := hL.1
        have e176 : a.tmps.getD 176 undef = .bool true := hL.2.1
        clear hL
        refine ⟨true, e176, ?_⟩
        rw [if_pos rfl]
        have kb : Bk W (w.heap.size) 25 #[.int .i64 3, .int .i64 0, .int .i64 0, .string ⟨#[]⟩, .bool true, .int .i64 0] := hS.bk 5 rfl rfl
        have f0 := kb.cell 0
        have f1 := kb.cell 1
        have f2 := kb.cell 2
        have f3 := kb.cell 3
        have f4 := kb.cell 4
        have f5 := kb.cell 5
        clear kb
        go_simp
        exact ⟨⟨fun d hd => by injection hd with hd; subst hd; rfl, fun h => by cases h⟩, hS, trivial⟩
    · as_aux_lemma =>
        intro vals a W hS hL
        have e177 : a.tmps.getD 177 undef = .agg #[.int .i64 3, .int .i64 0, .int .i64 0, .string ⟨#[]⟩, .bool true, .int .i64 0] := hL.1
        have e178 : a.tmps.getD 178 undef = .agg #[.int .i64 3, .int .i64 0, .int .i64 0, .string ⟨#[]⟩, .bool true, .int .i64 0] := hL.2.1
        have e176 : a.tmps.getD 176 undef = .bool true := hL.2.2.1
        clear hL
        refine ⟨true, e176, ?_⟩
        rw [if_pos rfl]
        go_simp
        refine (HSa.out W).mono ?_
        rintro e W' ⟨rfl, hb⟩
        exact ⟨_, rfl, ⟨fun d hd => by injection hd with hd; subst hd; rfl, fun h => by cases h⟩, hS.call hb, trivial⟩
    · as_aux_lemma =>
        intro vals a W hS hL
        have e176 : a.tmps.getD 176 undef = .bool true := hL.1
        have e179 : a.tmps.getD 179 undef = .bool true := hL.2.1
        clear hL
        go_simp
        exact ⟨⟨fun d hd => by injection hd with hd; subst hd; rfl, fun h => by cases h⟩, hS, trivial⟩
    · as_aux_lemma =>
        intro vals a W hS hL
        have e180 : a.tmps.getD 180 undef = .bool true := hL.1
        clear hL
        go_simp
        exact ⟨⟨fun d hd => by injection hd with hd; subst hd; rfl, fun h => by cases h⟩, hS, trivial⟩
  · intro a W' vals hd hsz hT hF hv hP hS
    obtain rfl : vals = [] := List.eq_nil_of_length_eq_zero hv
    have hS2 : SX w 0 ([] : List Stp) [] ([(w12.heap.size, 25, #[.int .i64 4, .int .i64 0, .int .i64 0, .string ⟨#[]⟩, .bool false, .int .i64 15]), (w8.heap.size, 25, #[.int .i64 4, .int .i64 0, .int .i64 0, .string ⟨#[]⟩, .bool false, .int .i64 42]), (w5.heap.size, 23, #[.int .i64 1, .int .i64 0]), (w4.heap.size + 1, 25, #[.int .i64 4, .int .i64 0, .int .i64 0, .string ⟨#[]⟩, .bool false, .int .i64 15]), (w2.heap.size, 23, #[.int .i64 15, .int .i64 1]), (w.heap.size, 25, #[.int .i64 3, .int .i64 0, .int .i64 0, .string ⟨#[]⟩, .bool true, .int .i64 0])] : List (Nat × TypeId × Array Value)) W' := hS
    clear hS
    have hB0 := hS2
    have hB : SB w 0 ([(w12.heap.size, 25, #[.int .i64 4, .int .i64 0, .int .i64 0, .string ⟨#[]⟩, .bool false, .int .i64 15]), (w8.heap.size, 25, #[.int .i64 4, .int .i64 0, .int .i64 0, .string ⟨#[]⟩, .bool false, .int .i64 42]), (w5.heap.size, 23, #[.int .i64 1, .int .i64 0]), (w4.heap.size + 1, 25, #[.int .i64 4, .int .i64 0, .int .i64 0, .string ⟨#[]⟩, .bool false, .int .i64 15]), (w2.heap.size, 23, #[.int .i64 15, .int .i64 1]), (w.heap.size, 25, #[.int .i64 3, .int .i64 0, .int .i64 0, .string ⟨#[]⟩, .bool true, .int .i64 0])] : List (Nat × TypeId × Array Value)) W' := hB0
    clear hB0
    have e0 : a.tmps.getD 0 undef = .bool true := hT 0 (by simp)
    clear hT hF hP
    go_wp2
    refine bodyPost_ret (v := .bool true) ?_ hd ⟨rfl, hB.bel⟩
    rw [Array.getD_eq_getD_getElem?] at e0
    simp [results, Tryz.results4, go_sem, e0]
end Go.Proofs.YtmbjmgmnicacpaaGreatDoor
