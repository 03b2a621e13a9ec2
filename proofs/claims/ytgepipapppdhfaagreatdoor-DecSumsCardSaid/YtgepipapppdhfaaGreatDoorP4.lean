/- dec.Parse at the four texts that known parses: what it tells of each. No condition. -/
import Derived.Test.YtgepipapppdhfaaGreatDoorP3
namespace Go.Proofs.YtgepipapppdhfaaGreatDoor
open Go.RowKit

theorem asc_of {s : ByteArray} (h : s.data.toList.all (fun c => decide (c.toNat < 128)) = true) : Asc s := by
  intro i hi
  rw [List.all_eq_true] at h
  simpa using h s[i] (List.getElem_mem (l := s.data.toList) (n := i) (by simpa using hi))
theorem isDigits_of {w : World} {s : ByteArray} {b : Bool} (h : s.data.toList.all (fun c => decide (c.toNat < 128)) = true) (hs : s.size ≤ 1000000000000) (hb : dgsB s = b) :
    Calls Tryz.prog 50 #[.string s] w fun e w' => e = .returned (.bool b) ∧ Below w.heap.size w w' := by
  have := isDigits_any (w := w) (asc_of h) hs
  rw [hb] at this
  exact this
theorem gather_of {w : World} {s : ByteArray} {n : Nat} {b : Bool} (h : s.data.toList.all (fun c => decide (c.toNat < 128)) = true) (hs : s.size ≤ 1000000000000) (hn : gN s.data.toList = n) (hb : gB s.data.toList = b) :
    Calls Tryz.prog 51 #[.string s] w fun e w' => e = .returned (.tuple #[.int .u64 (n : Nat), .bool b]) ∧ Below w.heap.size w w' := by
  have := gather_any (w := w) (asc_of h) hs
  rw [hn, hb] at this
  exact this
theorem narrow_of {w : World} {b : Bool} {n : Nat} (hn : n < 18446744073709551616) {m : Int} {c : Bool} (hm : nrv b n = m) (hc : nrw b n = c) :
    Calls Tryz.prog 52 #[.agg #[.bool b, .int .u64 0, .int .u64 (n : Nat)]] w fun e w' => e = .returned (.tuple #[.int .i64 m, .bool c]) ∧ Below w.heap.size w w' := by
  have := narrow_any (w := w) (b := b) (n := n) (by omega)
  rw [wd_small hn, hm, hc] at this
  exact this
theorem isWhole_no {w : World} {s : ByteArray} (h : s.data.toList.all (fun c => decide (c.toNat < 128)) = true) (hs : s.size ≤ 1000000000000) (hb : dgsB s = true) (h1 : (s.toList == [48]) = false) {c : UInt8} (h2 : ∀ w : World, (Instr.index 9 (.string s) (.int .i64 0)).run Tryz.prog w = .ok (.int .u8 (c.toNat : Nat)) w) (h3 : c.toNat ≠ 48 ∨ c.toNat = 48) {b : Bool} (hb2 : (((c.toNat : Nat) : Int) != 48) = b) :
    Calls Tryz.prog 49 #[.string s] w fun e w' => e = .returned (.bool b) ∧ Below w.heap.size w w' := by
  have HD := Lib.hid (fun W : World => isDigits_of (w := W) h hs hb)
  clear hb h3 h hs
  go_enter Tryz.func49, Tryz.ntmps49
  go_wp2_with fail
  refine (HD.out _).mono ?_
  rintro e w1 ⟨rfl, hbl⟩
  go_wp2
  go_ret
  exact ⟨rfl, hbl⟩
theorem isWhole_zero {w : World} :
    Calls Tryz.prog 49 #[.string ⟨#[48]⟩] w fun e w' => e = .returned (.bool true) ∧ Below w.heap.size w w' := by
  have HD := Lib.hid (fun W : World => isDigits_of (w := W) (s := ⟨#[48]⟩) (b := true) (by decide) (by decide) (by decide))
  go_enter Tryz.func49, Tryz.ntmps49
  go_wp2_with fail
  refine (HD.out _).mono ?_
  rintro e w1 ⟨rfl, hbl⟩
  go_wp2
  go_ret
  exact ⟨rfl, hbl⟩

set_option maxRecDepth 100000 in
theorem parse1 {w : World} :
    Calls Tryz.prog 21 #[.string ⟨#[45, 48, 46, 48, 53]⟩] w fun e w' => e = .returned (.tuple #[.agg #[.int .i64 (-5), .int .i64 2], .int .i64 0]) ∧ Below w.heap.size w w' := by
  have H1 : Hid (∀ W : World, Calls Tryz.prog 47 #[.string ⟨#[45, 48, 46, 48, 53]⟩, .string ⟨#[45]⟩] W fun e w' => e = .returned (.tuple #[.string ⟨#[48, 46, 48, 53]⟩, .bool true]) ∧ w' = W) := Lib.hid (fun W => cp_of (by decide) (by decide))
  have H2 : Hid (∀ W : World, Calls Tryz.prog 48 #[.string ⟨#[48, 46, 48, 53]⟩, .string ⟨#[46]⟩] W fun e w' => e = .returned (.tuple #[.string ⟨#[48]⟩, .string ⟨#[48, 53]⟩, .bool true]) ∧ Below W.heap.size W w') := Lib.hid (fun W => cut_any (fun W => cut0_yes (i := 1) (by decide) (by decide) (by decide)) (by rfl))
  have H3 := Lib.hid (fun W : World => isWhole_zero (w := W))
  have H4 := Lib.hid (fun W : World => isDigits_of (w := W) (s := ⟨#[48, 53]⟩) (b := true) (by decide) (by decide) (by decide))
  have H5 := Lib.hid (fun W : World => gather_of (w := W) (s := ⟨#[48, 46, 48, 53]⟩) (n := 5) (b := true) (by decide) (by decide) (by decide) (by decide))
  have H6 : Hid (∀ W : World, Calls Tryz.prog 52 #[.agg #[.bool true, .int .u64 0, .int .u64 5]] W fun e w' => e = .returned (.tuple #[.int .i64 (-5), .bool true]) ∧ Below W.heap.size W w') := Lib.hid (fun W => narrow_of (n := 5) (by decide) (by decide) (by decide))
  have H7 := Lib.hid (fun W : World => hs_of (w := W) (s := ⟨#[48, 53]⟩) (p := ⟨#[48]⟩) (b := false) (by decide) (by decide))
  have HB := Lib.hid (sb1 w 23 #[.int .i64 0, .int .i64 0])
  go_enter Tryz.func21, Tryz.ntmps21
  go_wp2_with fail
  refine (H1.out _).mono ?_
  rintro e w2 ⟨rfl, rfl⟩
  go_wp2_with fail
  refine (H2.out _).mono ?_
  rintro e w3 ⟨rfl, hb⟩
  have HB3 := Lib.hid (HB.out.call hb)
  clear hb HB
  have HB := HB3
  clear HB3
  go_wp2_with fail
  refine (H3.out _).mono ?_
  rintro e w4 ⟨rfl, hb⟩
  have HB4 := Lib.hid (HB.out.call hb)
  clear hb HB
  have HB := HB4
  clear HB4
  go_wp2_with fail
  refine (H4.out _).mono ?_
  rintro e w5 ⟨rfl, hb⟩
  have HB5 := Lib.hid (HB.out.call hb)
  clear hb HB
  have HB := HB5
  clear HB5
  go_wp2_with fail
  refine (H5.out _).mono ?_
  rintro e w6 ⟨rfl, hb⟩
  have HB6 := Lib.hid (HB.out.call hb)
  clear hb HB
  have HB := HB6
  clear HB6
  go_wp2_with fail
  refine (H6.out _).mono ?_
  rintro e w7 ⟨rfl, hb⟩
  have HB7 := Lib.hid (HB.out.call hb)
  clear hb HB
  have HB := HB7
  clear HB7
  go_wp2_with fail
  refine (H7.out _).mono ?_
  rintro e w8 ⟨rfl, rfl⟩
  have k1 := HB.out.bk _ (.head _)
  have hbel := HB.out.bel
  have c0 := k1.cell 0
  have c1 := k1.cell 1
  have z0 := k1.frozen 0
  have z1 := k1.frozen 1
  clear k1 HB
  go_wp2
  refine bodyPost_ret (v := .tuple #[.agg #[.int .i64 (-5), .int .i64 2], .int .i64 0]) ?_ rfl ⟨rfl, (hbel.setCell (by simp) _).setCell (by simp) _⟩
  simp [results, Tryz.results21, go_sem, c0, c1]

set_option maxRecDepth 100000 in
theorem parse2 {w : World} :
    Calls Tryz.prog 21 #[.string ⟨#[49, 46, 53, 48]⟩] w fun e w' => e = .returned (.tuple #[.agg #[.int .i64 0, .int .i64 0], .int .i64 1]) ∧ Below w.heap.size w w' := by
  have H1 : Hid (∀ W : World, Calls Tryz.prog 47 #[.string ⟨#[49, 46, 53, 48]⟩, .string ⟨#[45]⟩] W fun e w' => e = .returned (.tuple #[.string ⟨#[49, 46, 53, 48]⟩, .bool false]) ∧ w' = W) := Lib.hid (fun W => cp_of (by decide) (by decide))
  have H2 : Hid (∀ W : World, Calls Tryz.prog 48 #[.string ⟨#[49, 46, 53, 48]⟩, .string ⟨#[46]⟩] W fun e w' => e = .returned (.tuple #[.string ⟨#[49]⟩, .string ⟨#[53, 48]⟩, .bool true]) ∧ Below W.heap.size W w') := Lib.hid (fun W => cut_any (fun W => cut0_yes (i := 1) (by decide) (by decide) (by decide)) (by rfl))
  have H3 : Hid (∀ W : World, Calls Tryz.prog 49 #[.string ⟨#[49]⟩] W fun e w' => e = .returned (.bool true) ∧ Below W.heap.size W w') := Lib.hid (fun W => isWhole_no (c := 49) (by decide) (by decide) (by decide) (by rw [ByteArray.toList_eq]; decide) (fun _ => rfl) (by decide) (by decide))
  have H4 := Lib.hid (fun W : World => isDigits_of (w := W) (s := ⟨#[53, 48]⟩) (b := true) (by decide) (by decide) (by decide))
  have H5 := Lib.hid (fun W : World => gather_of (w := W) (s := ⟨#[49, 46, 53, 48]⟩) (n := 150) (b := true) (by decide) (by decide) (by decide) (by decide))
  have H6 : Hid (∀ W : World, Calls Tryz.prog 52 #[.agg #[.bool false, .int .u64 0, .int .u64 150]] W fun e w' => e = .returned (.tuple #[.int .i64 150, .bool true]) ∧ Below W.heap.size W w') := Lib.hid (fun W => narrow_of (n := 150) (by decide) (by decide) (by decide))
  have H7 := Lib.hid (fun W : World => hs_of (w := W) (s := ⟨#[53, 48]⟩) (p := ⟨#[48]⟩) (b := true) (by decide) (by decide))
  have HB := Lib.hid (sb1 w 23 #[.int .i64 0, .int .i64 0])
  go_enter Tryz.func21, Tryz.ntmps21
  go_wp2_with fail
  refine (H1.out _).mono ?_
  rintro e w2 ⟨rfl, rfl⟩
  go_wp2_with fail
  refine (H2.out _).mono ?_
  rintro e w3 ⟨rfl, hb⟩
  have HB3 := Lib.hid (HB.out.call hb)
  clear hb HB
  have HB := HB3
  clear HB3
  go_wp2_with fail
  refine (H3.out _).mono ?_
  rintro e w4 ⟨rfl, hb⟩
  have HB4 := Lib.hid (HB.out.call hb)
  clear hb HB
  have HB := HB4
  clear HB4
  go_wp2_with fail
  refine (H4.out _).mono ?_
  rintro e w5 ⟨rfl, hb⟩
  have HB5 := Lib.hid (HB.out.call hb)
  clear hb HB
  have HB := HB5
  clear HB5
  go_wp2_with fail
  refine (H5.out _).mono ?_
  rintro e w6 ⟨rfl, hb⟩
  have HB6 := Lib.hid (HB.out.call hb)
  clear hb HB
  have HB := HB6
  clear HB6
  go_wp2_with fail
  refine (H6.out _).mono ?_
  rintro e w7 ⟨rfl, hb⟩
  have HB7 := Lib.hid (HB.out.call hb)
  clear hb HB
  have HB := HB7
  clear HB7
  go_wp2_with fail
  refine (H7.out _).mono ?_
  rintro e w8 ⟨rfl, rfl⟩
  have k1 := HB.out.bk _ (.head _)
  have hbel := HB.out.bel
  have c0 := k1.cell 0
  have c1 := k1.cell 1
  have z0 := k1.frozen 0
  have z1 := k1.frozen 1
  clear k1 HB
  go_wp2
  refine bodyPost_ret (v := .tuple #[.agg #[.int .i64 0, .int .i64 0], .int .i64 1]) ?_ rfl ⟨rfl, (hbel.setCell (by simp) _).setCell (by simp) _⟩
  simp [results, Tryz.results21, go_sem, c0, c1]

set_option maxRecDepth 100000 in
theorem parse3 {w : World} :
    Calls Tryz.prog 21 #[.string ⟨#[48, 49]⟩] w fun e w' => e = .returned (.tuple #[.agg #[.int .i64 0, .int .i64 0], .int .i64 2]) ∧ Below w.heap.size w w' := by
  have H1 : Hid (∀ W : World, Calls Tryz.prog 47 #[.string ⟨#[48, 49]⟩, .string ⟨#[45]⟩] W fun e w' => e = .returned (.tuple #[.string ⟨#[48, 49]⟩, .bool false]) ∧ w' = W) := Lib.hid (fun W => cp_of (by decide) (by decide))
  have H2 : Hid (∀ W : World, Calls Tryz.prog 48 #[.string ⟨#[48, 49]⟩, .string ⟨#[46]⟩] W fun e w' => e = .returned (.tuple #[.string ⟨#[48, 49]⟩, .string ⟨#[]⟩, .bool false]) ∧ Below W.heap.size W w') := Lib.hid (fun W => cut_any (fun W => cut0_no (by decide)) (by rfl))
  have H3 : Hid (∀ W : World, Calls Tryz.prog 49 #[.string ⟨#[48, 49]⟩] W fun e w' => e = .returned (.bool false) ∧ Below W.heap.size W w') := Lib.hid (fun W => isWhole_no (c := 48) (by decide) (by decide) (by decide) (by rw [ByteArray.toList_eq]; decide) (fun _ => rfl) (by decide) (by decide))
  have HB := Lib.hid (sb1 w 23 #[.int .i64 0, .int .i64 0])
  go_enter Tryz.func21, Tryz.ntmps21
  go_wp2_with fail
  refine (H1.out _).mono ?_
  rintro e w2 ⟨rfl, rfl⟩
  go_wp2_with fail
  refine (H2.out _).mono ?_
  rintro e w3 ⟨rfl, hb⟩
  have HB3 := Lib.hid (HB.out.call hb)
  clear hb HB
  have HB := HB3
  clear HB3
  go_wp2_with fail
  refine (H3.out _).mono ?_
  rintro e w4 ⟨rfl, hb⟩
  have HB4 := Lib.hid (HB.out.call hb)
  clear hb HB
  have HB := HB4
  clear HB4
  have k1 := HB.out.bk _ (.head _)
  have hbel := HB.out.bel
  have c0 := k1.cell 0
  have c1 := k1.cell 1
  have z0 := k1.frozen 0
  have z1 := k1.frozen 1
  clear k1 HB
  go_wp2
  refine bodyPost_ret (v := .tuple #[.agg #[.int .i64 0, .int .i64 0], .int .i64 2]) ?_ rfl ⟨rfl, (hbel.setCell (by simp) _).setCell (by simp) _⟩
  simp [results, Tryz.results21, go_sem, c0, c1]

set_option maxRecDepth 100000 in
theorem parse4 {w : World} :
    Calls Tryz.prog 21 #[.string ⟨#[57, 57, 57, 57, 57, 57, 57, 57, 57, 57, 57, 57, 57, 57, 57, 57, 57, 57, 57, 57]⟩] w fun e w' => e = .returned (.tuple #[.agg #[.int .i64 0, .int .i64 0], .int .i64 8]) ∧ Below w.heap.size w w' := by
  have H1 : Hid (∀ W : World, Calls Tryz.prog 47 #[.string ⟨#[57, 57, 57, 57, 57, 57, 57, 57, 57, 57, 57, 57, 57, 57, 57, 57, 57, 57, 57, 57]⟩, .string ⟨#[45]⟩] W fun e w' => e = .returned (.tuple #[.string ⟨#[57, 57, 57, 57, 57, 57, 57, 57, 57, 57, 57, 57, 57, 57, 57, 57, 57, 57, 57, 57]⟩, .bool false]) ∧ w' = W) := Lib.hid (fun W => cp_of (by decide) (by decide))
  have H2 : Hid (∀ W : World, Calls Tryz.prog 48 #[.string ⟨#[57, 57, 57, 57, 57, 57, 57, 57, 57, 57, 57, 57, 57, 57, 57, 57, 57, 57, 57, 57]⟩, .string ⟨#[46]⟩] W fun e w' => e = .returned (.tuple #[.string ⟨#[57, 57, 57, 57, 57, 57, 57, 57, 57, 57, 57, 57, 57, 57, 57, 57, 57, 57, 57, 57]⟩, .string ⟨#[]⟩, .bool false]) ∧ Below W.heap.size W w') := Lib.hid (fun W => cut_any (fun W => cut0_no (by decide)) (by rfl))
  have H3 : Hid (∀ W : World, Calls Tryz.prog 49 #[.string ⟨#[57, 57, 57, 57, 57, 57, 57, 57, 57, 57, 57, 57, 57, 57, 57, 57, 57, 57, 57, 57]⟩] W fun e w' => e = .returned (.bool true) ∧ Below W.heap.size W w') := Lib.hid (fun W => isWhole_no (c := 57) (by decide) (by decide) (by decide) (by rw [ByteArray.toList_eq]; decide) (fun _ => rfl) (by decide) (by decide))
  have H5 := Lib.hid (fun W : World => gather_of (w := W) (s := ⟨#[57, 57, 57, 57, 57, 57, 57, 57, 57, 57, 57, 57, 57, 57, 57, 57, 57, 57, 57, 57]⟩) (n := 0) (b := false) (by decide) (by decide) (by decide) (by decide))
  have HB := Lib.hid (sb1 w 23 #[.int .i64 0, .int .i64 0])
  go_enter Tryz.func21, Tryz.ntmps21
  go_wp2_with fail
  refine (H1.out _).mono ?_
  rintro e w2 ⟨rfl, rfl⟩
  go_wp2_with fail
  refine (H2.out _).mono ?_
  rintro e w3 ⟨rfl, hb⟩
  have HB3 := Lib.hid (HB.out.call hb)
  clear hb HB
  have HB := HB3
  clear HB3
  go_wp2_with fail
  refine (H3.out _).mono ?_
  rintro e w4 ⟨rfl, hb⟩
  have HB4 := Lib.hid (HB.out.call hb)
  clear hb HB
  have HB := HB4
  clear HB4
  go_wp2_with fail
  refine (H5.out _).mono ?_
  rintro e w5 ⟨rfl, hb⟩
  have HB5 := Lib.hid (HB.out.call hb)
  clear hb HB
  have HB := HB5
  clear HB5
  have k1 := HB.out.bk _ (.head _)
  have hbel := HB.out.bel
  have c0 := k1.cell 0
  have c1 := k1.cell 1
  have z0 := k1.frozen 0
  have z1 := k1.frozen 1
  clear k1 HB
  go_wp2
  refine bodyPost_ret (v := .tuple #[.agg #[.int .i64 0, .int .i64 0], .int .i64 8]) ?_ rfl ⟨rfl, (hbel.setCell (by simp) _).setCell (by simp) _⟩
  simp [results, Tryz.results21, go_sem, c0, c1]

end Go.Proofs.YtgepipapppdhfaaGreatDoor
