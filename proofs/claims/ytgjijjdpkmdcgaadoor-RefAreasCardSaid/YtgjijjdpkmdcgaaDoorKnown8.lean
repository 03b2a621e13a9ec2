/- cashbooklaw8.known by its contract: it returns true. Condition: strconv.Itoa keeps its contract. -/
import Derived.Test.YtgjijjdpkmdcgaaDoorBPa
import Derived.Test.YtgjijjdpkmdcgaaDoorCe
import Derived.Test.YtgjijjdpkmdcgaaDoorAr
namespace Go.Proofs.YtgjijjdpkmdcgaaDoor
open Go.RowKit

set_option maxRecDepth 100000 in
set_option maxHeartbeats 4000000 in
theorem known8_any {w : World} (HV : Tens w) :
    Calls Tryd.prog 9 #[] w fun e w' => e = .returned (.bool true) ∧ Below w.heap.size w w' := by
  have HA : Hid (∀ W : World, Below w.heap.size w W → Calls Tryd.prog 16 #[.agg #[.int .i64 65535, .int .i64 2, .bool true, .bool false], .agg #[.int .i64 5, .int .i64 9]] W fun e w' => e = .returned (.agg #[.int .i64 4, .int .i64 2]) ∧ Below W.heap.size W w') := Lib.hid (fun W _ => by
    have := at_any (w := W) 65535 2 5 9 true false
    rw [show fo 65535 5 true 65536 = 4 by decide +kernel] at this
    rw [show fo 2 9 false 256 = 2 by decide +kernel] at this
    exact this)
  have HR : Hid (∀ W : World, Below w.heap.size w W → Calls Tryd.prog 18 #[.agg #[.int .i64 4, .int .i64 2], .agg #[.int .i64 5, .int .i64 9], .bool true, .bool false] W fun e w' => e = .returned (.agg #[.int .i64 65535, .int .i64 2, .bool true, .bool false]) ∧ Below W.heap.size W w') := Lib.hid (fun W _ => by
    have := rel_any (w := W) 4 2 5 9 true false
    rw [show ba 4 5 true 65536 = 65535 by decide +kernel] at this
    rw [show ba 2 9 false 256 = 2 by decide +kernel] at this
    exact this)
  have HBo : Hid (∀ W : World, Below w.heap.size w W → Calls Tryd.prog 20 #[.agg #[.int .i64 3, .int .i64 3, .bool false, .bool false, .int .i64 2, .int .i64 4, .bool false, .bool false], .agg #[.int .i64 0, .int .i64 0]] W fun e w' => e = .returned (.tuple #[.agg #[.int .i64 2, .int .i64 3], .agg #[.int .i64 3, .int .i64 4]]) ∧ Below W.heap.size W w') := Lib.hid (fun W _ => by
    have := bounds_any (w := W) 3 3 2 4 0 0 false false false false
    rw [show boV 3 3 2 4 0 0 false false false false = .tuple #[.agg #[.int .i64 (rLo 3 2 0 false false), .int .i64 (cLo 3 4 0 false false)], .agg #[.int .i64 (rHi 3 2 0 false false), .int .i64 (cHi 3 4 0 false false)]] from rfl] at this
    rw [show rLo 3 2 0 false false = 2 by decide +kernel] at this
    rw [show cLo 3 4 0 false false = 3 by decide +kernel] at this
    rw [show rHi 3 2 0 false false = 3 by decide +kernel] at this
    rw [show cHi 3 4 0 false false = 4 by decide +kernel] at this
    exact this)
  have HCe : Hid (∀ W : World, Calls Tryd.prog 25 #[.agg #[.int .i64 3, .int .i64 3, .bool false, .bool false, .int .i64 2, .int .i64 4, .bool false, .bool false], .agg #[.int .i64 0, .int .i64 0]] W fun e w' => CellsAt 25 W.heap.size 2 3 2 4 e w' ∧ Below W.heap.size W w') := Lib.hid (fun W => by
    have := cells_any (w := W) 3 3 2 4 0 0 false false false false
    rw [show ccN (rLo 3 2 0 false false) (cLo 3 4 0 false false) (rHi 3 2 0 false false) (cHi 3 4 0 false false) = 4 by decide +kernel, show wdN (cLo 3 4 0 false false) (cHi 3 4 0 false false) = 2 by decide +kernel, show rLo 3 2 0 false false = 2 by decide +kernel, show cLo 3 4 0 false false = 3 by decide +kernel] at this
    exact this)
  have HP1 : Hid (∀ W : World, Below w.heap.size w W → Calls Tryd.prog 27 #[.string ⟨#[73, 86, 54, 53, 53, 51, 54]⟩] W fun e w' => e = .returned (.tuple #[.agg #[.int .i64 65535, .int .i64 255], .int .i64 0]) ∧ Below W.heap.size W w') := Lib.hid (fun W _ => by
    have := parse_any (w := W) ⟨#[73, 86, 54, 53, 53, 51, 54]⟩ (by decide)
    rw [show pR (mach (0, 0) (⟨#[73, 86, 54, 53, 53, 51, 54]⟩ : ByteArray).data.toList) = 65535 by decide +kernel] at this
    rw [show pC (mach (0, 0) (⟨#[73, 86, 54, 53, 53, 51, 54]⟩ : ByteArray).data.toList) = 255 by decide +kernel] at this
    rw [show pE (mach (0, 0) (⟨#[73, 86, 54, 53, 53, 51, 54]⟩ : ByteArray).data.toList) = 0 by decide +kernel] at this
    exact this)
  have HP2 : Hid (∀ W : World, Below w.heap.size w W → Calls Tryd.prog 27 #[.string ⟨#[73, 87, 49]⟩] W fun e w' => e = .returned (.tuple #[.agg #[.int .i64 0, .int .i64 0], .int .i64 12]) ∧ Below W.heap.size W w') := Lib.hid (fun W _ => by
    have := parse_any (w := W) ⟨#[73, 87, 49]⟩ (by decide)
    rw [show pR (mach (0, 0) (⟨#[73, 87, 49]⟩ : ByteArray).data.toList) = 0 by decide +kernel] at this
    rw [show pC (mach (0, 0) (⟨#[73, 87, 49]⟩ : ByteArray).data.toList) = 0 by decide +kernel] at this
    rw [show pE (mach (0, 0) (⟨#[73, 87, 49]⟩ : ByteArray).data.toList) = 12 by decide +kernel] at this
    exact this)
  have HP3 : Hid (∀ W : World, Below w.heap.size w W → Calls Tryd.prog 27 #[.string ⟨#[65, 48]⟩] W fun e w' => e = .returned (.tuple #[.agg #[.int .i64 0, .int .i64 0], .int .i64 2]) ∧ Below W.heap.size W w') := Lib.hid (fun W _ => by
    have := parse_any (w := W) ⟨#[65, 48]⟩ (by decide)
    rw [show pR (mach (0, 0) (⟨#[65, 48]⟩ : ByteArray).data.toList) = 0 by decide +kernel] at this
    rw [show pC (mach (0, 0) (⟨#[65, 48]⟩ : ByteArray).data.toList) = 0 by decide +kernel] at this
    rw [show pE (mach (0, 0) (⟨#[65, 48]⟩ : ByteArray).data.toList) = 2 by decide +kernel] at this
    exact this)
  have HP4 : Hid (∀ W : World, Below w.heap.size w W → Calls Tryd.prog 27 #[.string ⟨#[97, 49]⟩] W fun e w' => e = .returned (.tuple #[.agg #[.int .i64 0, .int .i64 0], .int .i64 2]) ∧ Below W.heap.size W w') := Lib.hid (fun W _ => by
    have := parse_any (w := W) ⟨#[97, 49]⟩ (by decide)
    rw [show pR (mach (0, 0) (⟨#[97, 49]⟩ : ByteArray).data.toList) = 0 by decide +kernel] at this
    rw [show pC (mach (0, 0) (⟨#[97, 49]⟩ : ByteArray).data.toList) = 0 by decide +kernel] at this
    rw [show pE (mach (0, 0) (⟨#[97, 49]⟩ : ByteArray).data.toList) = 2 by decide +kernel] at this
    exact this)
  have HT : Hid (∀ W : World, Below w.heap.size w W → Calls Tryd.prog 29 #[.agg #[.int .i64 0, .int .i64 26]] W fun e w' => e = .returned (.string ⟨#[65, 65, 49]⟩) ∧ Below W.heap.size W w') := Lib.hid (fun W hb => by
    have := text_any (w := W) (HV.below hb) 0 26 (by decide) (by decide)
    unfold sL at this
    rw [show wordL 0 26 = [65, 65, 49] by unfold wordL; rw [Lib.decDigits_one (by decide)]; decide +kernel] at this
    exact this)
  have HG1 : Hid (∀ W : World, Below w.heap.size w W → Calls Tryd.prog 13 #[.agg #[.int .i64 65535, .int .i64 255]] W fun e w' => e = .returned (.bool true) ∧ Below W.heap.size W w') := Lib.hid (fun W _ => by
    have := good_any (w := W) 65535 255
    rw [show gdB 65535 255 = true by decide +kernel] at this
    exact this)
  have HG2 : Hid (∀ W : World, Below w.heap.size w W → Calls Tryd.prog 13 #[.agg #[.int .i64 65536, .int .i64 0]] W fun e w' => e = .returned (.bool false) ∧ Below W.heap.size W w') := Lib.hid (fun W _ => by
    have := good_any (w := W) 65536 0
    rw [show gdB 65536 0 = false by decide +kernel] at this
    exact this)
  have HK : Hid (∀ W : World, Below w.heap.size w W → Calls Tryd.prog 10 #[.agg #[.int .i64 0, .int .i64 256, .bool false, .bool false]] W fun e w' => e = .returned (.int .i64 12) ∧ Below W.heap.size W w') := Lib.hid (fun W _ => by
    have := check_any (w := W) 0 256 false false
    rw [show ckI 0 256 = 12 by decide +kernel] at this
    exact this)
  have HKA : Hid (∀ W : World, Below w.heap.size w W → Calls Tryd.prog 23 #[.agg #[.int .i64 3, .int .i64 3, .bool false, .bool false, .int .i64 2, .int .i64 4, .bool false, .bool false]] W fun e w' => e = .returned (.int .i64 0) ∧ Below W.heap.size W w') := Lib.hid (fun W _ => by
    have := checkArea_any (w := W) 3 3 2 4 false false false false
    rw [show ckA 3 3 2 4 = 0 by decide +kernel] at this
    exact this)
  clear HV
  have HB := Lib.hid ((SB.base w).alloc 23 #[.int .i64 65535, .int .i64 2, .bool true, .bool false])
  go_enter Tryd.func9, Tryd.ntmps9
  go_wp2_with fail
  refine (HA.out _ HB.out.bel).mono ?_
  rintro e w1 ⟨rfl, hb⟩
  have hB := HB.out.call hb
  have hB := hB.alloc 25 #[.int .i64 4, .int .i64 2]
  clear hb HB
  have HB := Lib.hid hB
  clear hB
  go_wp2_with fail
  refine (HR.out _ HB.out.bel).mono ?_
  rintro e w2 ⟨rfl, hb⟩
  have hB := HB.out.call hb
  have hB := hB.alloc 23 #[.int .i64 65535, .int .i64 2, .bool true, .bool false]
  have hB := hB.alloc 42 #[.int .i64 3, .int .i64 3, .bool false, .bool false, .int .i64 2, .int .i64 4, .bool false, .bool false]
  clear hb HB
  have HB := Lib.hid hB
  clear hB
  have HB2 : Hid (SB w 0 ([(w2.heap.size + 1, 42, #[.int .i64 3, .int .i64 3, .bool false, .bool false, .int .i64 2, .int .i64 4, .bool false, .bool false]), (w2.heap.size, 23, #[.int .i64 65535, .int .i64 2, .bool true, .bool false]), (w1.heap.size, 25, #[.int .i64 4, .int .i64 2]), (w.heap.size, 23, #[.int .i64 65535, .int .i64 2, .bool true, .bool false])] : List (Nat × TypeId × Array Value)) ((w2.alloc (.cells #[.int .i64 65535, .int .i64 2, .bool true, .bool false] 23)).alloc (.cells #[.int .i64 3, .int .i64 3, .bool false, .bool false, .int .i64 2, .int .i64 4, .bool false, .bool false] 42))) := Lib.hid (by simpa using HB.out)
  clear HB
  have HB := HB2
  clear HB2
  go_wp2_with fail
  refine (HBo.out _ HB.out.bel).mono ?_
  rintro e w3 ⟨rfl, hb⟩
  have hB := HB.out.call hb
  have hB := hB.alloc 25 #[.int .i64 2, .int .i64 3]
  have hB := hB.alloc 25 #[.int .i64 3, .int .i64 4]
  clear hb HB
  have HB := Lib.hid hB
  clear hB
  have HB2 : Hid (SB w 0 ([(w3.heap.size + 1, 25, #[.int .i64 3, .int .i64 4]), (w3.heap.size, 25, #[.int .i64 2, .int .i64 3]), (w2.heap.size + 1, 42, #[.int .i64 3, .int .i64 3, .bool false, .bool false, .int .i64 2, .int .i64 4, .bool false, .bool false]), (w2.heap.size, 23, #[.int .i64 65535, .int .i64 2, .bool true, .bool false]), (w1.heap.size, 25, #[.int .i64 4, .int .i64 2]), (w.heap.size, 23, #[.int .i64 65535, .int .i64 2, .bool true, .bool false])] : List (Nat × TypeId × Array Value)) ((w3.alloc (.cells #[.int .i64 2, .int .i64 3] 25)).alloc (.cells #[.int .i64 3, .int .i64 4] 25))) := Lib.hid (by simpa using HB.out)
  clear HB
  have HB := HB2
  clear HB2
  have ka := HB.out.box (i := 2) rfl
  have ca0 := ka.cell 0
  have ca1 := ka.cell 1
  have ca2 := ka.cell 2
  have ca3 := ka.cell 3
  have ca4 := ka.cell 4
  have ca5 := ka.cell 5
  have ca6 := ka.cell 6
  have ca7 := ka.cell 7
  clear ka
  go_wp2_with fail
  refine (HCe.out _).mono ?_
  rintro e w4 ⟨⟨v, rfl, ho⟩, hb⟩
  have hB := HB.out.call hb
  clear hb HB HCe ca0 ca1 ca2 ca3 ca4 ca5 ca6 ca7
  obtain ⟨g, cap, cur, rfl, hgk, hcap, q2, q3, q4, q5⟩ : ∃ (g cap : Nat) (cur : Array Value), v = .slice (some ⟨g, 0, none⟩) 4 cap ∧ Bk w4 g 25 cur ∧ 4 ≤ cap ∧ cur[2]? = some (.int .i64 2) ∧ cur[3]? = some (.int .i64 4) ∧ cur[4]? = some (.int .i64 3) ∧ cur[5]? = some (.int .i64 3) := by
    rcases ho.2 with ⟨_, h⟩ | ⟨g, cap, cur, rfl, _, hg, hnc, _, _, _⟩
    · cases h
    · have hk : Bk w4 g 25 cur := hg
      have hcl := fun j u => ho.cells (g := g) rfl j u
      refine ⟨g, cap, cur, rfl, hk, hnc, ?_, ?_, ?_, ?_⟩
      · rw [← hk.cell 2]; exact hcl 2 _ (by kernel_rfl)
      · rw [← hk.cell 3]; exact hcl 3 _ (by kernel_rfl)
      · rw [← hk.cell 4]; exact hcl 4 _ (by kernel_rfl)
      · rw [← hk.cell 5]; exact hcl 5 _ (by kernel_rfl)
  have hB2 : SB w 0 ((g, 25, cur) :: _) w4 := ⟨hB.bel, hB.size, fun x hx => by
    rcases List.mem_cons.1 hx with rfl | hx
    · exact hgk
    · exact hB.bk x hx⟩
  clear hB ho hgk
  have HB := Lib.hid hB2
  clear hB2
  go_wp2_with fail
  refine (HP1.out _ HB.out.bel).mono ?_
  rintro e w5 ⟨rfl, hb⟩
  have hB := HB.out.call hb
  have hB := hB.alloc 25 #[.int .i64 65535, .int .i64 255]
  clear hb HB
  have HB := Lib.hid hB
  clear hB
  go_wp2_with fail
  refine (HP2.out _ HB.out.bel).mono ?_
  rintro e w6 ⟨rfl, hb⟩
  have hB := HB.out.call hb
  have hB := hB.alloc 25 #[.int .i64 0, .int .i64 0]
  clear hb HB
  have HB := Lib.hid hB
  clear hB
  go_wp2_with fail
  refine (HP3.out _ HB.out.bel).mono ?_
  rintro e w7 ⟨rfl, hb⟩
  have hB := HB.out.call hb
  have hB := hB.alloc 25 #[.int .i64 0, .int .i64 0]
  clear hb HB
  have HB := Lib.hid hB
  clear hB
  go_wp2_with fail
  refine (HP4.out _ HB.out.bel).mono ?_
  rintro e w8 ⟨rfl, hb⟩
  have hB := HB.out.call hb
  have hB := hB.alloc 25 #[.int .i64 0, .int .i64 0]
  clear hb HB
  have HB := Lib.hid hB
  clear hB
  clear HA HR HBo HP1 HP2 HP3 HP4
  have ka := HB.out.box (i := 9) rfl
  have ca0 := ka.cell 0
  have ca1 := ka.cell 1
  clear ka
  have kb := HB.out.box (i := 8) rfl
  have cb0 := kb.cell 0
  have cb1 := kb.cell 1
  have cb2 := kb.cell 2
  have cb3 := kb.cell 3
  clear kb
  have kd := HB.out.box (i := 10) rfl
  have cd0 := kd.cell 0
  have cd1 := kd.cell 1
  have cd2 := kd.cell 2
  have cd3 := kd.cell 3
  clear kd
  have kh := HB.out.box (i := 6) rfl
  have ch0 := kh.cell 0
  have ch1 := kh.cell 1
  clear kh
  have kk := HB.out.box (i := 5) rfl
  have ck0 := kk.cell 0
  have ck1 := kk.cell 1
  clear kk
  have kp := HB.out.box (i := 3) rfl
  have cp0 := kp.cell 0
  have cp1 := kp.cell 1
  clear kp
  have kg := HB.out.box (i := 4) rfl
  have cg2 := kg.cell 2
  have cg3 := kg.cell 3
  have cg4 := kg.cell 4
  have cg5 := kg.cell 5
  clear kg
  go_wp2_with fail
  refine (HT.out _ HB.out.bel).mono ?_
  rintro e w9 ⟨rfl, hb⟩
  have hB := HB.out.call hb
  clear hb HB
  have HB := Lib.hid hB
  clear hB
  clear ca0 ca1 cb0 cb1 cb2 cb3 cd0 cd1 cd2 cd3 ch0 ch1 ck0 ck1 cp0 cp1
  clear cg2 cg3 cg4 cg5
  have kp := HB.out.box (i := 3) rfl
  have cp0 := kp.cell 0
  have cp1 := kp.cell 1
  clear kp
  go_wp2_with fail
  refine (HG1.out _ HB.out.bel).mono ?_
  rintro e w10 ⟨rfl, hb⟩
  have hB := HB.out.call hb
  clear hb HB
  have HB := Lib.hid hB
  clear hB
  clear cp0 cp1
  go_wp2_with fail
  refine (HG2.out _ HB.out.bel).mono ?_
  rintro e w11 ⟨rfl, hb⟩
  have hB := HB.out.call hb
  clear hb HB
  have HB := Lib.hid hB
  clear hB
  go_wp2_with fail
  refine (HK.out _ HB.out.bel).mono ?_
  rintro e w12 ⟨rfl, hb⟩
  have hB := HB.out.call hb
  clear hb HB
  have HB := Lib.hid hB
  clear hB
  have kr := HB.out.box (i := 7) rfl
  have cr0 := kr.cell 0
  have cr1 := kr.cell 1
  have cr2 := kr.cell 2
  have cr3 := kr.cell 3
  have cr4 := kr.cell 4
  have cr5 := kr.cell 5
  have cr6 := kr.cell 6
  have cr7 := kr.cell 7
  clear kr
  go_wp2_with fail
  refine (HKA.out _ HB.out.bel).mono ?_
  rintro e w13 ⟨rfl, hb⟩
  have hB := HB.out.call hb
  clear hb HB
  have HB := Lib.hid hB
  clear hB
  clear cr0 cr1 cr2 cr3 cr4 cr5 cr6 cr7
  have hbel := HB.out.bel
  clear HB HT HG1 HG2 HK HKA
  go_wp2
  go_ret
  exact ⟨rfl, hbel⟩
end Go.Proofs.YtgjijjdpkmdcgaaDoor
