/- dec.Parse of any text, case by case, by the contracts of what it calls. Condition: these. -/
import Derived.Test.YtmbjmgmnicacpaaDoorPa1
namespace Go.Proofs.YtmbjmgmnicacpaaDoor
open Go.RowKit

set_option maxRecDepth 100000 in
theorem pw_neg0_n {w : World} {r u t : ByteArray} {b : Bool}
    (K1 : ∀ W : World, Calls Tryd.prog 47 #[.string ⟨#[45, 48]⟩, .string ⟨#[45]⟩] W fun e w' => e = .returned (.tuple #[.string r, .bool b]) ∧ w' = W)
    (K2 : ∀ W : World, Calls Tryd.prog 48 #[.string r, .string ⟨#[46]⟩] W fun e w' => e = .returned (.tuple #[.string u, .string t, .bool false]) ∧ Below W.heap.size W w')
    : Calls Tryd.prog 33 #[.string ⟨#[45, 48]⟩] w fun e w' => e = .returned (.tuple #[.agg #[.int .i64 0, .int .i64 0], .int .i64 2]) ∧ Below w.heap.size w w' := by
  have H1 := Lib.hid K1
  have H2 := Lib.hid K2
  clear K1 K2
  have HB := Lib.hid (sb1 w 23 #[.int .i64 0, .int .i64 0])
  go_enter Tryd.func33, Tryd.ntmps33
  go_wp2_with fail
  refine (H1.out _).mono ?_
  rintro e w1 ⟨rfl, rfl⟩
  go_wp2_with fail
  refine (H2.out _).mono ?_
  rintro e w1 ⟨rfl, hb⟩
  have HB1 := Lib.hid (HB.out.call hb)
  clear hb HB
  have HB := HB1
  clear HB1
  have k1 := HB.out.bk _ (.head _)
  have hbel := HB.out.bel
  have c0 := k1.cell 0
  have c1 := k1.cell 1
  have z0 := k1.frozen 0
  have z1 := k1.frozen 1
  clear k1 HB
  go_wp2
  refine bodyPost_ret (v := .tuple #[.agg #[.int .i64 0, .int .i64 0], .int .i64 2]) ?_ rfl ⟨rfl, (hbel.setCell (by simp) _).setCell (by simp) _⟩
  simp [results, Tryd.results33, go_sem, c0, c1]

set_option maxRecDepth 100000 in
theorem pw_neg0_p {w : World} {r u t : ByteArray} {b : Bool}
    (K1 : ∀ W : World, Calls Tryd.prog 47 #[.string ⟨#[45, 48]⟩, .string ⟨#[45]⟩] W fun e w' => e = .returned (.tuple #[.string r, .bool b]) ∧ w' = W)
    (K2 : ∀ W : World, Calls Tryd.prog 48 #[.string r, .string ⟨#[46]⟩] W fun e w' => e = .returned (.tuple #[.string u, .string t, .bool true]) ∧ Below W.heap.size W w')
    : Calls Tryd.prog 33 #[.string ⟨#[45, 48]⟩] w fun e w' => e = .returned (.tuple #[.agg #[.int .i64 0, .int .i64 0], .int .i64 2]) ∧ Below w.heap.size w w' := by
  have H1 := Lib.hid K1
  have H2 := Lib.hid K2
  clear K1 K2
  have HB := Lib.hid (sb1 w 23 #[.int .i64 0, .int .i64 0])
  go_enter Tryd.func33, Tryd.ntmps33
  go_wp2_with fail
  refine (H1.out _).mono ?_
  rintro e w1 ⟨rfl, rfl⟩
  go_wp2_with fail
  refine (H2.out _).mono ?_
  rintro e w1 ⟨rfl, hb⟩
  have HB1 := Lib.hid (HB.out.call hb)
  clear hb HB
  have HB := HB1
  clear HB1
  have k1 := HB.out.bk _ (.head _)
  have hbel := HB.out.bel
  have c0 := k1.cell 0
  have c1 := k1.cell 1
  have z0 := k1.frozen 0
  have z1 := k1.frozen 1
  clear k1 HB
  go_wp2
  refine bodyPost_ret (v := .tuple #[.agg #[.int .i64 0, .int .i64 0], .int .i64 2]) ?_ rfl ⟨rfl, (hbel.setCell (by simp) _).setCell (by simp) _⟩
  simp [results, Tryd.results33, go_sem, c0, c1]

set_option maxRecDepth 100000 in
theorem pw_whole_n {w : World} {s r u t : ByteArray} {b : Bool}
    (hs : (s.toList == [45, 48]) = false)
    (K1 : ∀ W : World, Calls Tryd.prog 47 #[.string s, .string ⟨#[45]⟩] W fun e w' => e = .returned (.tuple #[.string r, .bool b]) ∧ w' = W)
    (K2 : ∀ W : World, Calls Tryd.prog 48 #[.string r, .string ⟨#[46]⟩] W fun e w' => e = .returned (.tuple #[.string u, .string t, .bool false]) ∧ Below W.heap.size W w')
    (K3 : ∀ W : World, Calls Tryd.prog 49 #[.string u] W fun e w' => e = .returned (.bool false) ∧ Below W.heap.size W w')
    : Calls Tryd.prog 33 #[.string s] w fun e w' => e = .returned (.tuple #[.agg #[.int .i64 0, .int .i64 0], .int .i64 2]) ∧ Below w.heap.size w w' := by
  have H1 := Lib.hid K1
  have H2 := Lib.hid K2
  have H3 := Lib.hid K3
  clear K1 K2 K3
  have HB := Lib.hid (sb1 w 23 #[.int .i64 0, .int .i64 0])
  go_enter Tryd.func33, Tryd.ntmps33
  go_wp2_with fail
  refine (H1.out _).mono ?_
  rintro e w1 ⟨rfl, rfl⟩
  go_wp2_with fail
  refine (H2.out _).mono ?_
  rintro e w1 ⟨rfl, hb⟩
  have HB1 := Lib.hid (HB.out.call hb)
  clear hb HB
  have HB := HB1
  clear HB1
  go_wp2_with fail
  refine (H3.out _).mono ?_
  rintro e w1 ⟨rfl, hb⟩
  have HB1 := Lib.hid (HB.out.call hb)
  clear hb HB
  have HB := HB1
  clear HB1
  have k1 := HB.out.bk _ (.head _)
  have hbel := HB.out.bel
  have c0 := k1.cell 0
  have c1 := k1.cell 1
  have z0 := k1.frozen 0
  have z1 := k1.frozen 1
  clear k1 HB
  go_wp2
  refine bodyPost_ret (v := .tuple #[.agg #[.int .i64 0, .int .i64 0], .int .i64 2]) ?_ rfl ⟨rfl, (hbel.setCell (by simp) _).setCell (by simp) _⟩
  simp [results, Tryd.results33, go_sem, c0, c1]

set_option maxRecDepth 100000 in
theorem pw_great_n {w : World} {s r u t : ByteArray} {b : Bool} {n : Nat}
    (hs : (s.toList == [45, 48]) = false)
    (K1 : ∀ W : World, Calls Tryd.prog 47 #[.string s, .string ⟨#[45]⟩] W fun e w' => e = .returned (.tuple #[.string r, .bool b]) ∧ w' = W)
    (K2 : ∀ W : World, Calls Tryd.prog 48 #[.string r, .string ⟨#[46]⟩] W fun e w' => e = .returned (.tuple #[.string u, .string t, .bool false]) ∧ Below W.heap.size W w')
    (K3 : ∀ W : World, Calls Tryd.prog 49 #[.string u] W fun e w' => e = .returned (.bool true) ∧ Below W.heap.size W w')
    (K5 : ∀ W : World, Calls Tryd.prog 51 #[.string r] W fun e w' => e = .returned (.tuple #[.int .u64 (n : Nat), .bool false]) ∧ Below W.heap.size W w')
    : Calls Tryd.prog 33 #[.string s] w fun e w' => e = .returned (.tuple #[.agg #[.int .i64 0, .int .i64 0], .int .i64 8]) ∧ Below w.heap.size w w' := by
  have H1 := Lib.hid K1
  have H2 := Lib.hid K2
  have H3 := Lib.hid K3
  have H5 := Lib.hid K5
  clear K1 K2 K3 K5
  have HB := Lib.hid (sb1 w 23 #[.int .i64 0, .int .i64 0])
  go_enter Tryd.func33, Tryd.ntmps33
  go_wp2_with fail
  refine (H1.out _).mono ?_
  rintro e w1 ⟨rfl, rfl⟩
  go_wp2_with fail
  refine (H2.out _).mono ?_
  rintro e w1 ⟨rfl, hb⟩
  have HB1 := Lib.hid (HB.out.call hb)
  clear hb HB
  have HB := HB1
  clear HB1
  go_wp2_with fail
  refine (H3.out _).mono ?_
  rintro e w1 ⟨rfl, hb⟩
  have HB1 := Lib.hid (HB.out.call hb)
  clear hb HB
  have HB := HB1
  clear HB1
  go_wp2_with fail
  refine (H5.out _).mono ?_
  rintro e w1 ⟨rfl, hb⟩
  have HB1 := Lib.hid (HB.out.call hb)
  clear hb HB
  have HB := HB1
  clear HB1
  have k1 := HB.out.bk _ (.head _)
  have hbel := HB.out.bel
  have c0 := k1.cell 0
  have c1 := k1.cell 1
  have z0 := k1.frozen 0
  have z1 := k1.frozen 1
  clear k1 HB
  go_wp2
  refine bodyPost_ret (v := .tuple #[.agg #[.int .i64 0, .int .i64 0], .int .i64 8]) ?_ rfl ⟨rfl, (hbel.setCell (by simp) _).setCell (by simp) _⟩
  simp [results, Tryd.results33, go_sem, c0, c1]

set_option maxRecDepth 100000 in
theorem pw_wide_n {w : World} {s r u t : ByteArray} {b : Bool} {n : Nat} {m : Int}
    (hs : (s.toList == [45, 48]) = false)
    (K1 : ∀ W : World, Calls Tryd.prog 47 #[.string s, .string ⟨#[45]⟩] W fun e w' => e = .returned (.tuple #[.string r, .bool b]) ∧ w' = W)
    (K2 : ∀ W : World, Calls Tryd.prog 48 #[.string r, .string ⟨#[46]⟩] W fun e w' => e = .returned (.tuple #[.string u, .string t, .bool false]) ∧ Below W.heap.size W w')
    (K3 : ∀ W : World, Calls Tryd.prog 49 #[.string u] W fun e w' => e = .returned (.bool true) ∧ Below W.heap.size W w')
    (K5 : ∀ W : World, Calls Tryd.prog 51 #[.string r] W fun e w' => e = .returned (.tuple #[.int .u64 (n : Nat), .bool true]) ∧ Below W.heap.size W w')
    (K6 : ∀ W : World, Calls Tryd.prog 52 #[.agg #[.bool b, .int .u64 0, .int .u64 (n : Nat)]] W fun e w' => e = .returned (.tuple #[.int .i64 m, .bool false]) ∧ Below W.heap.size W w')
    : Calls Tryd.prog 33 #[.string s] w fun e w' => e = .returned (.tuple #[.agg #[.int .i64 0, .int .i64 0], .int .i64 8]) ∧ Below w.heap.size w w' := by
  have H1 := Lib.hid K1
  have H2 := Lib.hid K2
  have H3 := Lib.hid K3
  have H5 := Lib.hid K5
  have H6 := Lib.hid K6
  clear K1 K2 K3 K5 K6
  have HB := Lib.hid (sb1 w 23 #[.int .i64 0, .int .i64 0])
  go_enter Tryd.func33, Tryd.ntmps33
  go_wp2_with fail
  refine (H1.out _).mono ?_
  rintro e w1 ⟨rfl, rfl⟩
  go_wp2_with fail
  refine (H2.out _).mono ?_
  rintro e w1 ⟨rfl, hb⟩
  have HB1 := Lib.hid (HB.out.call hb)
  clear hb HB
  have HB := HB1
  clear HB1
  go_wp2_with fail
  refine (H3.out _).mono ?_
  rintro e w1 ⟨rfl, hb⟩
  have HB1 := Lib.hid (HB.out.call hb)
  clear hb HB
  have HB := HB1
  clear HB1
  go_wp2_with fail
  refine (H5.out _).mono ?_
  rintro e w1 ⟨rfl, hb⟩
  have HB1 := Lib.hid (HB.out.call hb)
  clear hb HB
  have HB := HB1
  clear HB1
  go_wp2_with fail
  refine (H6.out _).mono ?_
  rintro e w1 ⟨rfl, hb⟩
  have HB1 := Lib.hid (HB.out.call hb)
  clear hb HB
  have HB := HB1
  clear HB1
  have k1 := HB.out.bk _ (.head _)
  have hbel := HB.out.bel
  have c0 := k1.cell 0
  have c1 := k1.cell 1
  have z0 := k1.frozen 0
  have z1 := k1.frozen 1
  clear k1 HB
  go_wp2
  refine bodyPost_ret (v := .tuple #[.agg #[.int .i64 0, .int .i64 0], .int .i64 8]) ?_ rfl ⟨rfl, (hbel.setCell (by simp) _).setCell (by simp) _⟩
  simp [results, Tryd.results33, go_sem, c0, c1]

set_option maxRecDepth 100000 in
theorem pw_long_n {w : World} {s r u t : ByteArray} {b : Bool} {n : Nat} {m : Int}
    (hs : (s.toList == [45, 48]) = false)
    (K1 : ∀ W : World, Calls Tryd.prog 47 #[.string s, .string ⟨#[45]⟩] W fun e w' => e = .returned (.tuple #[.string r, .bool b]) ∧ w' = W)
    (K2 : ∀ W : World, Calls Tryd.prog 48 #[.string r, .string ⟨#[46]⟩] W fun e w' => e = .returned (.tuple #[.string u, .string t, .bool false]) ∧ Below W.heap.size W w')
    (K3 : ∀ W : World, Calls Tryd.prog 49 #[.string u] W fun e w' => e = .returned (.bool true) ∧ Below W.heap.size W w')
    (K5 : ∀ W : World, Calls Tryd.prog 51 #[.string r] W fun e w' => e = .returned (.tuple #[.int .u64 (n : Nat), .bool true]) ∧ Below W.heap.size W w')
    (K6 : ∀ W : World, Calls Tryd.prog 52 #[.agg #[.bool b, .int .u64 0, .int .u64 (n : Nat)]] W fun e w' => e = .returned (.tuple #[.int .i64 m, .bool true]) ∧ Below W.heap.size W w')
    (hbig : 9 < t.size)
    : Calls Tryd.prog 33 #[.string s] w fun e w' => e = .returned (.tuple #[.agg #[.int .i64 0, .int .i64 0], .int .i64 1]) ∧ Below w.heap.size w w' := by
  have hbig' : (9 : Int) < ((t.size : Nat) : Int) := by omega
  clear hbig
  have H1 := Lib.hid K1
  have H2 := Lib.hid K2
  have H3 := Lib.hid K3
  have H5 := Lib.hid K5
  have H6 := Lib.hid K6
  clear K1 K2 K3 K5 K6
  have HB := Lib.hid (sb1 w 23 #[.int .i64 0, .int .i64 0])
  go_enter Tryd.func33, Tryd.ntmps33
  go_wp2_with fail
  refine (H1.out _).mono ?_
  rintro e w1 ⟨rfl, rfl⟩
  go_wp2_with fail
  refine (H2.out _).mono ?_
  rintro e w1 ⟨rfl, hb⟩
  have HB1 := Lib.hid (HB.out.call hb)
  clear hb HB
  have HB := HB1
  clear HB1
  go_wp2_with fail
  refine (H3.out _).mono ?_
  rintro e w1 ⟨rfl, hb⟩
  have HB1 := Lib.hid (HB.out.call hb)
  clear hb HB
  have HB := HB1
  clear HB1
  go_wp2_with fail
  refine (H5.out _).mono ?_
  rintro e w1 ⟨rfl, hb⟩
  have HB1 := Lib.hid (HB.out.call hb)
  clear hb HB
  have HB := HB1
  clear HB1
  go_wp2_with fail
  refine (H6.out _).mono ?_
  rintro e w1 ⟨rfl, hb⟩
  have HB1 := Lib.hid (HB.out.call hb)
  clear hb HB
  have HB := HB1
  clear HB1
  have k1 := HB.out.bk _ (.head _)
  have hbel := HB.out.bel
  have c0 := k1.cell 0
  have c1 := k1.cell 1
  have z0 := k1.frozen 0
  have z1 := k1.frozen 1
  clear k1 HB
  go_wp2
  refine bodyPost_ret (v := .tuple #[.agg #[.int .i64 0, .int .i64 0], .int .i64 1]) ?_ rfl ⟨rfl, (hbel.setCell (by simp) _).setCell (by simp) _⟩
  simp [results, Tryd.results33, go_sem, c0, c1]

set_option maxRecDepth 100000 in
theorem pw_nought_n {w : World} {s r u t : ByteArray} {b : Bool} {n : Nat} {m : Int}
    (hs : (s.toList == [45, 48]) = false)
    (K1 : ∀ W : World, Calls Tryd.prog 47 #[.string s, .string ⟨#[45]⟩] W fun e w' => e = .returned (.tuple #[.string r, .bool b]) ∧ w' = W)
    (K2 : ∀ W : World, Calls Tryd.prog 48 #[.string r, .string ⟨#[46]⟩] W fun e w' => e = .returned (.tuple #[.string u, .string t, .bool false]) ∧ Below W.heap.size W w')
    (K3 : ∀ W : World, Calls Tryd.prog 49 #[.string u] W fun e w' => e = .returned (.bool true) ∧ Below W.heap.size W w')
    (K5 : ∀ W : World, Calls Tryd.prog 51 #[.string r] W fun e w' => e = .returned (.tuple #[.int .u64 (n : Nat), .bool true]) ∧ Below W.heap.size W w')
    (K6 : ∀ W : World, Calls Tryd.prog 52 #[.agg #[.bool b, .int .u64 0, .int .u64 (n : Nat)]] W fun e w' => e = .returned (.tuple #[.int .i64 m, .bool true]) ∧ Below W.heap.size W w')
    (K7 : ∀ W : World, Calls Tryd.prog 53 #[.string t, .string ⟨#[48]⟩] W fun e w' => e = .returned (.bool true) ∧ w' = W)
    (hbig : t.size ≤ 9)
    : Calls Tryd.prog 33 #[.string s] w fun e w' => e = .returned (.tuple #[.agg #[.int .i64 0, .int .i64 0], .int .i64 1]) ∧ Below w.heap.size w w' := by
  have hbig' : ¬ (9 : Int) < ((t.size : Nat) : Int) := by omega
  clear hbig
  have H1 := Lib.hid K1
  have H2 := Lib.hid K2
  have H3 := Lib.hid K3
  have H5 := Lib.hid K5
  have H6 := Lib.hid K6
  have H7 := Lib.hid K7
  clear K1 K2 K3 K5 K6 K7
  have HB := Lib.hid (sb1 w 23 #[.int .i64 0, .int .i64 0])
  go_enter Tryd.func33, Tryd.ntmps33
  go_wp2_with fail
  refine (H1.out _).mono ?_
  rintro e w1 ⟨rfl, rfl⟩
  go_wp2_with fail
  refine (H2.out _).mono ?_
  rintro e w1 ⟨rfl, hb⟩
  have HB1 := Lib.hid (HB.out.call hb)
  clear hb HB
  have HB := HB1
  clear HB1
  go_wp2_with fail
  refine (H3.out _).mono ?_
  rintro e w1 ⟨rfl, hb⟩
  have HB1 := Lib.hid (HB.out.call hb)
  clear hb HB
  have HB := HB1
  clear HB1
  go_wp2_with fail
  refine (H5.out _).mono ?_
  rintro e w1 ⟨rfl, hb⟩
  have HB1 := Lib.hid (HB.out.call hb)
  clear hb HB
  have HB := HB1
  clear HB1
  go_wp2_with fail
  refine (H6.out _).mono ?_
  rintro e w1 ⟨rfl, hb⟩
  have HB1 := Lib.hid (HB.out.call hb)
  clear hb HB
  have HB := HB1
  clear HB1
  go_wp2_with fail
  refine (H7.out _).mono ?_
  rintro e w1 ⟨rfl, rfl⟩
  have k1 := HB.out.bk _ (.head _)
  have hbel := HB.out.bel
  have c0 := k1.cell 0
  have c1 := k1.cell 1
  have z0 := k1.frozen 0
  have z1 := k1.frozen 1
  clear k1 HB
  go_wp2
  refine bodyPost_ret (v := .tuple #[.agg #[.int .i64 0, .int .i64 0], .int .i64 1]) ?_ rfl ⟨rfl, (hbel.setCell (by simp) _).setCell (by simp) _⟩
  simp [results, Tryd.results33, go_sem, c0, c1]

set_option maxRecDepth 100000 in
theorem pw_good_n {w : World} {s r u t : ByteArray} {b : Bool} {n : Nat} {m : Int}
    (hs : (s.toList == [45, 48]) = false)
    (K1 : ∀ W : World, Calls Tryd.prog 47 #[.string s, .string ⟨#[45]⟩] W fun e w' => e = .returned (.tuple #[.string r, .bool b]) ∧ w' = W)
    (K2 : ∀ W : World, Calls Tryd.prog 48 #[.string r, .string ⟨#[46]⟩] W fun e w' => e = .returned (.tuple #[.string u, .string t, .bool false]) ∧ Below W.heap.size W w')
    (K3 : ∀ W : World, Calls Tryd.prog 49 #[.string u] W fun e w' => e = .returned (.bool true) ∧ Below W.heap.size W w')
    (K5 : ∀ W : World, Calls Tryd.prog 51 #[.string r] W fun e w' => e = .returned (.tuple #[.int .u64 (n : Nat), .bool true]) ∧ Below W.heap.size W w')
    (K6 : ∀ W : World, Calls Tryd.prog 52 #[.agg #[.bool b, .int .u64 0, .int .u64 (n : Nat)]] W fun e w' => e = .returned (.tuple #[.int .i64 m, .bool true]) ∧ Below W.heap.size W w')
    (K7 : ∀ W : World, Calls Tryd.prog 53 #[.string t, .string ⟨#[48]⟩] W fun e w' => e = .returned (.bool false) ∧ w' = W)
    (hbig : t.size ≤ 9)
    : Calls Tryd.prog 33 #[.string s] w fun e w' => e = .returned (.tuple #[.agg #[.int .i64 m, .int .i64 (t.size : Nat)], .int .i64 0]) ∧ Below w.heap.size w w' := by
  have hbig' : ¬ (9 : Int) < ((t.size : Nat) : Int) := by omega
  clear hbig
  have H1 := Lib.hid K1
  have H2 := Lib.hid K2
  have H3 := Lib.hid K3
  have H5 := Lib.hid K5
  have H6 := Lib.hid K6
  have H7 := Lib.hid K7
  clear K1 K2 K3 K5 K6 K7
  have HB := Lib.hid (sb1 w 23 #[.int .i64 0, .int .i64 0])
  go_enter Tryd.func33, Tryd.ntmps33
  go_wp2_with fail
  refine (H1.out _).mono ?_
  rintro e w1 ⟨rfl, rfl⟩
  go_wp2_with fail
  refine (H2.out _).mono ?_
  rintro e w1 ⟨rfl, hb⟩
  have HB1 := Lib.hid (HB.out.call hb)
  clear hb HB
  have HB := HB1
  clear HB1
  go_wp2_with fail
  refine (H3.out _).mono ?_
  rintro e w1 ⟨rfl, hb⟩
  have HB1 := Lib.hid (HB.out.call hb)
  clear hb HB
  have HB := HB1
  clear HB1
  go_wp2_with fail
  refine (H5.out _).mono ?_
  rintro e w1 ⟨rfl, hb⟩
  have HB1 := Lib.hid (HB.out.call hb)
  clear hb HB
  have HB := HB1
  clear HB1
  go_wp2_with fail
  refine (H6.out _).mono ?_
  rintro e w1 ⟨rfl, hb⟩
  have HB1 := Lib.hid (HB.out.call hb)
  clear hb HB
  have HB := HB1
  clear HB1
  go_wp2_with fail
  refine (H7.out _).mono ?_
  rintro e w1 ⟨rfl, rfl⟩
  have k1 := HB.out.bk _ (.head _)
  have hbel := HB.out.bel
  have c0 := k1.cell 0
  have c1 := k1.cell 1
  have z0 := k1.frozen 0
  have z1 := k1.frozen 1
  clear k1 HB
  go_wp2
  refine bodyPost_ret (v := .tuple #[.agg #[.int .i64 m, .int .i64 (t.size : Nat)], .int .i64 0]) ?_ rfl ⟨rfl, (hbel.setCell (by simp) _).setCell (by simp) _⟩
  simp [results, Tryd.results33, go_sem, c0, c1]

set_option maxRecDepth 100000 in
theorem pw_whole_p {w : World} {s r u t : ByteArray} {b : Bool}
    (hs : (s.toList == [45, 48]) = false)
    (K1 : ∀ W : World, Calls Tryd.prog 47 #[.string s, .string ⟨#[45]⟩] W fun e w' => e = .returned (.tuple #[.string r, .bool b]) ∧ w' = W)
    (K2 : ∀ W : World, Calls Tryd.prog 48 #[.string r, .string ⟨#[46]⟩] W fun e w' => e = .returned (.tuple #[.string u, .string t, .bool true]) ∧ Below W.heap.size W w')
    (K3 : ∀ W : World, Calls Tryd.prog 49 #[.string u] W fun e w' => e = .returned (.bool false) ∧ Below W.heap.size W w')
    : Calls Tryd.prog 33 #[.string s] w fun e w' => e = .returned (.tuple #[.agg #[.int .i64 0, .int .i64 0], .int .i64 2]) ∧ Below w.heap.size w w' := by
  have H1 := Lib.hid K1
  have H2 := Lib.hid K2
  have H3 := Lib.hid K3
  clear K1 K2 K3
  have HB := Lib.hid (sb1 w 23 #[.int .i64 0, .int .i64 0])
  go_enter Tryd.func33, Tryd.ntmps33
  go_wp2_with fail
  refine (H1.out _).mono ?_
  rintro e w1 ⟨rfl, rfl⟩
  go_wp2_with fail
  refine (H2.out _).mono ?_
  rintro e w1 ⟨rfl, hb⟩
  have HB1 := Lib.hid (HB.out.call hb)
  clear hb HB
  have HB := HB1
  clear HB1
  go_wp2_with fail
  refine (H3.out _).mono ?_
  rintro e w1 ⟨rfl, hb⟩
  have HB1 := Lib.hid (HB.out.call hb)
  clear hb HB
  have HB := HB1
  clear HB1
  have k1 := HB.out.bk _ (.head _)
  have hbel := HB.out.bel
  have c0 := k1.cell 0
  have c1 := k1.cell 1
  have z0 := k1.frozen 0
  have z1 := k1.frozen 1
  clear k1 HB
  go_wp2
  refine bodyPost_ret (v := .tuple #[.agg #[.int .i64 0, .int .i64 0], .int .i64 2]) ?_ rfl ⟨rfl, (hbel.setCell (by simp) _).setCell (by simp) _⟩
  simp [results, Tryd.results33, go_sem, c0, c1]

set_option maxRecDepth 100000 in
theorem pw_digits {w : World} {s r u t : ByteArray} {b : Bool}
    (hs : (s.toList == [45, 48]) = false)
    (K1 : ∀ W : World, Calls Tryd.prog 47 #[.string s, .string ⟨#[45]⟩] W fun e w' => e = .returned (.tuple #[.string r, .bool b]) ∧ w' = W)
    (K2 : ∀ W : World, Calls Tryd.prog 48 #[.string r, .string ⟨#[46]⟩] W fun e w' => e = .returned (.tuple #[.string u, .string t, .bool true]) ∧ Below W.heap.size W w')
    (K3 : ∀ W : World, Calls Tryd.prog 49 #[.string u] W fun e w' => e = .returned (.bool true) ∧ Below W.heap.size W w')
    (K4 : ∀ W : World, Calls Tryd.prog 50 #[.string t] W fun e w' => e = .returned (.bool false) ∧ Below W.heap.size W w')
    : Calls Tryd.prog 33 #[.string s] w fun e w' => e = .returned (.tuple #[.agg #[.int .i64 0, .int .i64 0], .int .i64 2]) ∧ Below w.heap.size w w' := by
  have H1 := Lib.hid K1
  have H2 := Lib.hid K2
  have H3 := Lib.hid K3
  have H4 := Lib.hid K4
  clear K1 K2 K3 K4
  have HB := Lib.hid (sb1 w 23 #[.int .i64 0, .int .i64 0])
  go_enter Tryd.func33, Tryd.ntmps33
  go_wp2_with fail
  refine (H1.out _).mono ?_
  rintro e w1 ⟨rfl, rfl⟩
  go_wp2_with fail
  refine (H2.out _).mono ?_
  rintro e w1 ⟨rfl, hb⟩
  have HB1 := Lib.hid (HB.out.call hb)
  clear hb HB
  have HB := HB1
  clear HB1
  go_wp2_with fail
  refine (H3.out _).mono ?_
  rintro e w1 ⟨rfl, hb⟩
  have HB1 := Lib.hid (HB.out.call hb)
  clear hb HB
  have HB := HB1
  clear HB1
  go_wp2_with fail
  refine (H4.out _).mono ?_
  rintro e w1 ⟨rfl, hb⟩
  have HB1 := Lib.hid (HB.out.call hb)
  clear hb HB
  have HB := HB1
  clear HB1
  have k1 := HB.out.bk _ (.head _)
  have hbel := HB.out.bel
  have c0 := k1.cell 0
  have c1 := k1.cell 1
  have z0 := k1.frozen 0
  have z1 := k1.frozen 1
  clear k1 HB
  go_wp2
  refine bodyPost_ret (v := .tuple #[.agg #[.int .i64 0, .int .i64 0], .int .i64 2]) ?_ rfl ⟨rfl, (hbel.setCell (by simp) _).setCell (by simp) _⟩
  simp [results, Tryd.results33, go_sem, c0, c1]

set_option maxRecDepth 100000 in
theorem pw_great_p {w : World} {s r u t : ByteArray} {b : Bool} {n : Nat}
    (hs : (s.toList == [45, 48]) = false)
    (K1 : ∀ W : World, Calls Tryd.prog 47 #[.string s, .string ⟨#[45]⟩] W fun e w' => e = .returned (.tuple #[.string r, .bool b]) ∧ w' = W)
    (K2 : ∀ W : World, Calls Tryd.prog 48 #[.string r, .string ⟨#[46]⟩] W fun e w' => e = .returned (.tuple #[.string u, .string t, .bool true]) ∧ Below W.heap.size W w')
    (K3 : ∀ W : World, Calls Tryd.prog 49 #[.string u] W fun e w' => e = .returned (.bool true) ∧ Below W.heap.size W w')
    (K4 : ∀ W : World, Calls Tryd.prog 50 #[.string t] W fun e w' => e = .returned (.bool true) ∧ Below W.heap.size W w')
    (K5 : ∀ W : World, Calls Tryd.prog 51 #[.string r] W fun e w' => e = .returned (.tuple #[.int .u64 (n : Nat), .bool false]) ∧ Below W.heap.size W w')
    : Calls Tryd.prog 33 #[.string s] w fun e w' => e = .returned (.tuple #[.agg #[.int .i64 0, .int .i64 0], .int .i64 8]) ∧ Below w.heap.size w w' := by
  have H1 := Lib.hid K1
  have H2 := Lib.hid K2
  have H3 := Lib.hid K3
  have H4 := Lib.hid K4
  have H5 := Lib.hid K5
  clear K1 K2 K3 K4 K5
  have HB := Lib.hid (sb1 w 23 #[.int .i64 0, .int .i64 0])
  go_enter Tryd.func33, Tryd.ntmps33
  go_wp2_with fail
  refine (H1.out _).mono ?_
  rintro e w1 ⟨rfl, rfl⟩
  go_wp2_with fail
  refine (H2.out _).mono ?_
  rintro e w1 ⟨rfl, hb⟩
  have HB1 := Lib.hid (HB.out.call hb)
  clear hb HB
  have HB := HB1
  clear HB1
  go_wp2_with fail
  refine (H3.out _).mono ?_
  rintro e w1 ⟨rfl, hb⟩
  have HB1 := Lib.hid (HB.out.call hb)
  clear hb HB
  have HB := HB1
  clear HB1
  go_wp2_with fail
  refine (H4.out _).mono ?_
  rintro e w1 ⟨rfl, hb⟩
  have HB1 := Lib.hid (HB.out.call hb)
  clear hb HB
  have HB := HB1
  clear HB1
  go_wp2_with fail
  refine (H5.out _).mono ?_
  rintro e w1 ⟨rfl, hb⟩
  have HB1 := Lib.hid (HB.out.call hb)
  clear hb HB
  have HB := HB1
  clear HB1
  have k1 := HB.out.bk _ (.head _)
  have hbel := HB.out.bel
  have c0 := k1.cell 0
  have c1 := k1.cell 1
  have z0 := k1.frozen 0
  have z1 := k1.frozen 1
  clear k1 HB
  go_wp2
  refine bodyPost_ret (v := .tuple #[.agg #[.int .i64 0, .int .i64 0], .int .i64 8]) ?_ rfl ⟨rfl, (hbel.setCell (by simp) _).setCell (by simp) _⟩
  simp [results, Tryd.results33, go_sem, c0, c1]

set_option maxRecDepth 100000 in
theorem pw_wide_p {w : World} {s r u t : ByteArray} {b : Bool} {n : Nat} {m : Int}
    (hs : (s.toList == [45, 48]) = false)
    (K1 : ∀ W : World, Calls Tryd.prog 47 #[.string s, .string ⟨#[45]⟩] W fun e w' => e = .returned (.tuple #[.string r, .bool b]) ∧ w' = W)
    (K2 : ∀ W : World, Calls Tryd.prog 48 #[.string r, .string ⟨#[46]⟩] W fun e w' => e = .returned (.tuple #[.string u, .string t, .bool true]) ∧ Below W.heap.size W w')
    (K3 : ∀ W : World, Calls Tryd.prog 49 #[.string u] W fun e w' => e = .returned (.bool true) ∧ Below W.heap.size W w')
    (K4 : ∀ W : World, Calls Tryd.prog 50 #[.string t] W fun e w' => e = .returned (.bool true) ∧ Below W.heap.size W w')
    (K5 : ∀ W : World, Calls Tryd.prog 51 #[.string r] W fun e w' => e = .returned (.tuple #[.int .u64 (n : Nat), .bool true]) ∧ Below W.heap.size W w')
    (K6 : ∀ W : World, Calls Tryd.prog 52 #[.agg #[.bool b, .int .u64 0, .int .u64 (n : Nat)]] W fun e w' => e = .returned (.tuple #[.int .i64 m, .bool false]) ∧ Below W.heap.size W w')
    : Calls Tryd.prog 33 #[.string s] w fun e w' => e = .returned (.tuple #[.agg #[.int .i64 0, .int .i64 0], .int .i64 8]) ∧ Below w.heap.size w w' := by
  have H1 := Lib.hid K1
  have H2 := Lib.hid K2
  have H3 := Lib.hid K3
  have H4 := Lib.hid K4
  have H5 := Lib.hid K5
  have H6 := Lib.hid K6
  clear K1 K2 K3 K4 K5 K6
  have HB := Lib.hid (sb1 w 23 #[.int .i64 0, .int .i64 0])
  go_enter Tryd.func33, Tryd.ntmps33
  go_wp2_with fail
  refine (H1.out _).mono ?_
  rintro e w1 ⟨rfl, rfl⟩
  go_wp2_with fail
  refine (H2.out _).mono ?_
  rintro e w1 ⟨rfl, hb⟩
  have HB1 := Lib.hid (HB.out.call hb)
  clear hb HB
  have HB := HB1
  clear HB1
  go_wp2_with fail
  refine (H3.out _).mono ?_
  rintro e w1 ⟨rfl, hb⟩
  have HB1 := Lib.hid (HB.out.call hb)
  clear hb HB
  have HB := HB1
  clear HB1
  go_wp2_with fail
  refine (H4.out _).mono ?_
  rintro e w1 ⟨rfl, hb⟩
  have HB1 := Lib.hid (HB.out.call hb)
  clear hb HB
  have HB := HB1
  clear HB1
  go_wp2_with fail
  refine (H5.out _).mono ?_
  rintro e w1 ⟨rfl, hb⟩
  have HB1 := Lib.hid (HB.out.call hb)
  clear hb HB
  have HB := HB1
  clear HB1
  go_wp2_with fail
  refine (H6.out _).mono ?_
  rintro e w1 ⟨rfl, hb⟩
  have HB1 := Lib.hid (HB.out.call hb)
  clear hb HB
  have HB := HB1
  clear HB1
  have k1 := HB.out.bk _ (.head _)
  have hbel := HB.out.bel
  have c0 := k1.cell 0
  have c1 := k1.cell 1
  have z0 := k1.frozen 0
  have z1 := k1.frozen 1
  clear k1 HB
  go_wp2
  refine bodyPost_ret (v := .tuple #[.agg #[.int .i64 0, .int .i64 0], .int .i64 8]) ?_ rfl ⟨rfl, (hbel.setCell (by simp) _).setCell (by simp) _⟩
  simp [results, Tryd.results33, go_sem, c0, c1]

set_option maxRecDepth 100000 in
theorem pw_long_p {w : World} {s r u t : ByteArray} {b : Bool} {n : Nat} {m : Int}
    (hs : (s.toList == [45, 48]) = false)
    (K1 : ∀ W : World, Calls Tryd.prog 47 #[.string s, .string ⟨#[45]⟩] W fun e w' => e = .returned (.tuple #[.string r, .bool b]) ∧ w' = W)
    (K2 : ∀ W : World, Calls Tryd.prog 48 #[.string r, .string ⟨#[46]⟩] W fun e w' => e = .returned (.tuple #[.string u, .string t, .bool true]) ∧ Below W.heap.size W w')
    (K3 : ∀ W : World, Calls Tryd.prog 49 #[.string u] W fun e w' => e = .returned (.bool true) ∧ Below W.heap.size W w')
    (K4 : ∀ W : World, Calls Tryd.prog 50 #[.string t] W fun e w' => e = .returned (.bool true) ∧ Below W.heap.size W w')
    (K5 : ∀ W : World, Calls Tryd.prog 51 #[.string r] W fun e w' => e = .returned (.tuple #[.int .u64 (n : Nat), .bool true]) ∧ Below W.heap.size W w')
    (K6 : ∀ W : World, Calls Tryd.prog 52 #[.agg #[.bool b, .int .u64 0, .int .u64 (n : Nat)]] W fun e w' => e = .returned (.tuple #[.int .i64 m, .bool true]) ∧ Below W.heap.size W w')
    (hbig : 9 < t.size)
    : Calls Tryd.prog 33 #[.string s] w fun e w' => e = .returned (.tuple #[.agg #[.int .i64 0, .int .i64 0], .int .i64 1]) ∧ Below w.heap.size w w' := by
  have hbig' : (9 : Int) < ((t.size : Nat) : Int) := by omega
  clear hbig
  have H1 := Lib.hid K1
  have H2 := Lib.hid K2
  have H3 := Lib.hid K3
  have H4 := Lib.hid K4
  have H5 := Lib.hid K5
  have H6 := Lib.hid K6
  clear K1 K2 K3 K4 K5 K6
  have HB := Lib.hid (sb1 w 23 #[.int .i64 0, .int .i64 0])
  go_enter Tryd.func33, Tryd.ntmps33
  go_wp2_with fail
  refine (H1.out _).mono ?_
  rintro e w1 ⟨rfl, rfl⟩
  go_wp2_with fail
  refine (H2.out _).mono ?_
  rintro e w1 ⟨rfl, hb⟩
  have HB1 := Lib.hid (HB.out.call hb)
  clear hb HB
  have HB := HB1
  clear HB1
  go_wp2_with fail
  refine (H3.out _).mono ?_
  rintro e w1 ⟨rfl, hb⟩
  have HB1 := Lib.hid (HB.out.call hb)
  clear hb HB
  have HB := HB1
  clear HB1
  go_wp2_with fail
  refine (H4.out _).mono ?_
  rintro e w1 ⟨rfl, hb⟩
  have HB1 := Lib.hid (HB.out.call hb)
  clear hb HB
  have HB := HB1
  clear HB1
  go_wp2_with fail
  refine (H5.out _).mono ?_
  rintro e w1 ⟨rfl, hb⟩
  have HB1 := Lib.hid (HB.out.call hb)
  clear hb HB
  have HB := HB1
  clear HB1
  go_wp2_with fail
  refine (H6.out _).mono ?_
  rintro e w1 ⟨rfl, hb⟩
  have HB1 := Lib.hid (HB.out.call hb)
  clear hb HB
  have HB := HB1
  clear HB1
  have k1 := HB.out.bk _ (.head _)
  have hbel := HB.out.bel
  have c0 := k1.cell 0
  have c1 := k1.cell 1
  have z0 := k1.frozen 0
  have z1 := k1.frozen 1
  clear k1 HB
  go_wp2
  refine bodyPost_ret (v := .tuple #[.agg #[.int .i64 0, .int .i64 0], .int .i64 1]) ?_ rfl ⟨rfl, (hbel.setCell (by simp) _).setCell (by simp) _⟩
  simp [results, Tryd.results33, go_sem, c0, c1]

set_option maxRecDepth 100000 in
theorem pw_nought_p {w : World} {s r u t : ByteArray} {b : Bool} {n : Nat} {m : Int}
    (hs : (s.toList == [45, 48]) = false)
    (K1 : ∀ W : World, Calls Tryd.prog 47 #[.string s, .string ⟨#[45]⟩] W fun e w' => e = .returned (.tuple #[.string r, .bool b]) ∧ w' = W)
    (K2 : ∀ W : World, Calls Tryd.prog 48 #[.string r, .string ⟨#[46]⟩] W fun e w' => e = .returned (.tuple #[.string u, .string t, .bool true]) ∧ Below W.heap.size W w')
    (K3 : ∀ W : World, Calls Tryd.prog 49 #[.string u] W fun e w' => e = .returned (.bool true) ∧ Below W.heap.size W w')
    (K4 : ∀ W : World, Calls Tryd.prog 50 #[.string t] W fun e w' => e = .returned (.bool true) ∧ Below W.heap.size W w')
    (K5 : ∀ W : World, Calls Tryd.prog 51 #[.string r] W fun e w' => e = .returned (.tuple #[.int .u64 (n : Nat), .bool true]) ∧ Below W.heap.size W w')
    (K6 : ∀ W : World, Calls Tryd.prog 52 #[.agg #[.bool b, .int .u64 0, .int .u64 (n : Nat)]] W fun e w' => e = .returned (.tuple #[.int .i64 m, .bool true]) ∧ Below W.heap.size W w')
    (K7 : ∀ W : World, Calls Tryd.prog 53 #[.string t, .string ⟨#[48]⟩] W fun e w' => e = .returned (.bool true) ∧ w' = W)
    (hbig : t.size ≤ 9)
    : Calls Tryd.prog 33 #[.string s] w fun e w' => e = .returned (.tuple #[.agg #[.int .i64 0, .int .i64 0], .int .i64 1]) ∧ Below w.heap.size w w' := by
  have hbig' : ¬ (9 : Int) < ((t.size : Nat) : Int) := by omega
  clear hbig
  have H1 := Lib.hid K1
  have H2 := Lib.hid K2
  have H3 := Lib.hid K3
  have H4 := Lib.hid K4
  have H5 := Lib.hid K5
  have H6 := Lib.hid K6
  have H7 := Lib.hid K7
  clear K1 K2 K3 K4 K5 K6 K7
  have HB := Lib.hid (sb1 w 23 #[.int .i64 0, .int .i64 0])
  go_enter Tryd.func33, Tryd.ntmps33
  go_wp2_with fail
  refine (H1.out _).mono ?_
  rintro e w1 ⟨rfl, rfl⟩
  go_wp2_with fail
  refine (H2.out _).mono ?_
  rintro e w1 ⟨rfl, hb⟩
  have HB1 := Lib.hid (HB.out.call hb)
  clear hb HB
  have HB := HB1
  clear HB1
  go_wp2_with fail
  refine (H3.out _).mono ?_
  rintro e w1 ⟨rfl, hb⟩
  have HB1 := Lib.hid (HB.out.call hb)
  clear hb HB
  have HB := HB1
  clear HB1
  go_wp2_with fail
  refine (H4.out _).mono ?_
  rintro e w1 ⟨rfl, hb⟩
  have HB1 := Lib.hid (HB.out.call hb)
  clear hb HB
  have HB := HB1
  clear HB1
  go_wp2_with fail
  refine (H5.out _).mono ?_
  rintro e w1 ⟨rfl, hb⟩
  have HB1 := Lib.hid (HB.out.call hb)
  clear hb HB
  have HB := HB1
  clear HB1
  go_wp2_with fail
  refine (H6.out _).mono ?_
  rintro e w1 ⟨rfl, hb⟩
  have HB1 := Lib.hid (HB.out.call hb)
  clear hb HB
  have HB := HB1
  clear HB1
  go_wp2_with fail
  refine (H7.out _).mono ?_
  rintro e w1 ⟨rfl, rfl⟩
  have k1 := HB.out.bk _ (.head _)
  have hbel := HB.out.bel
  have c0 := k1.cell 0
  have c1 := k1.cell 1
  have z0 := k1.frozen 0
  have z1 := k1.frozen 1
  clear k1 HB
  go_wp2
  refine bodyPost_ret (v := .tuple #[.agg #[.int .i64 0, .int .i64 0], .int .i64 1]) ?_ rfl ⟨rfl, (hbel.setCell (by simp) _).setCell (by simp) _⟩
  simp [results, Tryd.results33, go_sem, c0, c1]

set_option maxRecDepth 100000 in
theorem pw_good_p {w : World} {s r u t : ByteArray} {b : Bool} {n : Nat} {m : Int}
    (hs : (s.toList == [45, 48]) = false)
    (K1 : ∀ W : World, Calls Tryd.prog 47 #[.string s, .string ⟨#[45]⟩] W fun e w' => e = .returned (.tuple #[.string r, .bool b]) ∧ w' = W)
    (K2 : ∀ W : World, Calls Tryd.prog 48 #[.string r, .string ⟨#[46]⟩] W fun e w' => e = .returned (.tuple #[.string u, .string t, .bool true]) ∧ Below W.heap.size W w')
    (K3 : ∀ W : World, Calls Tryd.prog 49 #[.string u] W fun e w' => e = .returned (.bool true) ∧ Below W.heap.size W w')
    (K4 : ∀ W : World, Calls Tryd.prog 50 #[.string t] W fun e w' => e = .returned (.bool true) ∧ Below W.heap.size W w')
    (K5 : ∀ W : World, Calls Tryd.prog 51 #[.string r] W fun e w' => e = .returned (.tuple #[.int .u64 (n : Nat), .bool true]) ∧ Below W.heap.size W w')
    (K6 : ∀ W : World, Calls Tryd.prog 52 #[.agg #[.bool b, .int .u64 0, .int .u64 (n : Nat)]] W fun e w' => e = .returned (.tuple #[.int .i64 m, .bool true]) ∧ Below W.heap.size W w')
    (K7 : ∀ W : World, Calls Tryd.prog 53 #[.string t, .string ⟨#[48]⟩] W fun e w' => e = .returned (.bool false) ∧ w' = W)
    (hbig : t.size ≤ 9)
    : Calls Tryd.prog 33 #[.string s] w fun e w' => e = .returned (.tuple #[.agg #[.int .i64 m, .int .i64 (t.size : Nat)], .int .i64 0]) ∧ Below w.heap.size w w' := by
  have hbig' : ¬ (9 : Int) < ((t.size : Nat) : Int) := by omega
  clear hbig
  have H1 := Lib.hid K1
  have H2 := Lib.hid K2
  have H3 := Lib.hid K3
  have H4 := Lib.hid K4
  have H5 := Lib.hid K5
  have H6 := Lib.hid K6
  have H7 := Lib.hid K7
  clear K1 K2 K3 K4 K5 K6 K7
  have HB := Lib.hid (sb1 w 23 #[.int .i64 0, .int .i64 0])
  go_enter Tryd.func33, Tryd.ntmps33
  go_wp2_with fail
  refine (H1.out _).mono ?_
  rintro e w1 ⟨rfl, rfl⟩
  go_wp2_with fail
  refine (H2.out _).mono ?_
  rintro e w1 ⟨rfl, hb⟩
  have HB1 := Lib.hid (HB.out.call hb)
  clear hb HB
  have HB := HB1
  clear HB1
  go_wp2_with fail
  refine (H3.out _).mono ?_
  rintro e w1 ⟨rfl, hb⟩
  have HB1 := Lib.hid (HB.out.call hb)
  clear hb HB
  have HB := HB1
  clear HB1
  go_wp2_with fail
  refine (H4.out _).mono ?_
  rintro e w1 ⟨rfl, hb⟩
  have HB1 := Lib.hid (HB.out.call hb)
  clear hb HB
  have HB := HB1
  clear HB1
  go_wp2_with fail
  refine (H5.out _).mono ?_
  rintro e w1 ⟨rfl, hb⟩
  have HB1 := Lib.hid (HB.out.call hb)
  clear hb HB
  have HB := HB1
  clear HB1
  go_wp2_with fail
  refine (H6.out _).mono ?_
  rintro e w1 ⟨rfl, hb⟩
  have HB1 := Lib.hid (HB.out.call hb)
  clear hb HB
  have HB := HB1
  clear HB1
  go_wp2_with fail
  refine (H7.out _).mono ?_
  rintro e w1 ⟨rfl, rfl⟩
  have k1 := HB.out.bk _ (.head _)
  have hbel := HB.out.bel
  have c0 := k1.cell 0
  have c1 := k1.cell 1
  have z0 := k1.frozen 0
  have z1 := k1.frozen 1
  clear k1 HB
  go_wp2
  refine bodyPost_ret (v := .tuple #[.agg #[.int .i64 m, .int .i64 (t.size : Nat)], .int .i64 0]) ?_ rfl ⟨rfl, (hbel.setCell (by simp) _).setCell (by simp) _⟩
  simp [results, Tryd.results33, go_sem, c0, c1]

end Go.Proofs.YtmbjmgmnicacpaaDoor
