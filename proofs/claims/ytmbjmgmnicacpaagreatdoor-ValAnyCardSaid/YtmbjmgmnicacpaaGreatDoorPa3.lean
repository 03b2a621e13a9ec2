/- dec's isDigits, isWhole of any text, by their contracts. Condition: the text is not too long. -/
/- dec.Parse of any text, case by case, by the contracts of what it calls. Condition: these. -/
/- dec.Parse of any text by its contract: it tells what the reference's way tells. Condition: the text is not too long. -/
import Derived.Test.YtmbjmgmnicacpaaGreatDoorP3
import Derived.Test.YtmbjmgmnicacpaaGreatDoorDigOps
import Derived.Laws.RangeAny
namespace Go.Proofs.YtmbjmgmnicacpaaGreatDoor
open Go.RowKit Go.Lib

theorem isDigit_high {w : World} {r : Int} (h : 128 ≤ r) : Calls Tryz.prog 74 #[.int .i32 r] w fun e w' => e = .returned (.bool false) ∧ w' = w := by
  have h0' : (48 : Int) ≤ r := by omega
  have h1' : decide (r ≤ 57) = false := decide_eq_false (by omega)
  clear h
  go_enter Tryz.func74, Tryz.ntmps74
  go_wp2
  go_ret
  exact ⟨rfl, rfl⟩

set_option maxRecDepth 100000 in
theorem isDigits_all {w : World} {s : ByteArray} (_hs : s.size ≤ 1000000000000) :
    Calls Tryz.prog 51 #[.string s] w fun e w' => e = .returned (.bool (dgsB s)) ∧ Below w.heap.size w w' := by
  go_enter Tryz.func51, Tryz.ntmps51
  go_wp2
  go_loopw [7] (fun _ wr => ∃ k : Nat, k ≤ s.size ∧ wr = w.iter s k ∧ (s.data.toList.take k).all dgB = true) (fun _ wr => s.size - wr.iterPos w.heap.size)
  case atStart => exact ⟨0, Nat.zero_le _, rfl, by simp⟩
  case round =>
    obtain ⟨k, hk, rfl, hall⟩ := hrel
    by_cases hkn : k < s.size
    · by_cases hlo : (s[k]'hkn).toNat < 128
      · have hnx := fun ty => run_next_ascii (P := Tryz.prog) w s k ty hkn hlo
        have HT := Lib.hid (take_snocB s k hkn)
        have HA := Lib.hid hall
        clear hlo
        cases hd : dgB s[k]
        · have HD := Lib.hid hd
          have HV := Lib.hid (dgs_stop s k hkn hd)
          clear hd hall
          go_wp2_with fail
          refine (isDigit_any (c := s[k])).mono ?_
          rintro e w1 ⟨rfl, rfl⟩
          rw [HD.out]
          clear hnx
          go_wp2_with fail
          go_ret
          exact ⟨by rw [HV.out]; rfl, bel0 _ _⟩
        · have HD := Lib.hid hd
          clear hd hall
          go_wp2_with fail
          refine (isDigit_any (c := s[k])).mono ?_
          rintro e w1 ⟨rfl, rfl⟩
          rw [HD.out]
          clear hnx
          go_wp2_with fail
          go_roundw
          case rel => exact ⟨k + 1, by omega, rfl, by rw [HT.out]; simp [HA.out, HD.out]⟩
          case measure =>
            simp
            omega
      · have hnx := fun ty => run_next_any (P := Tryz.prog) w s k ty hkn
        have hhi := (decode_high s k hkn (by omega)).1
        have hd : dgB s[k] = false := by
          unfold dgB
          rw [Bool.and_eq_false_iff]
          right
          exact decide_eq_false (by omega)
        have HV := Lib.hid (dgs_stop s k hkn hd)
        have HI := Lib.hid (fun W : World => isDigit_high (w := W) (r := ((Utf8.decode s k).1 : Int)) (by omega))
        clear hd hall hhi hlo
        generalize (Utf8.decode s k).1 = r at *
        generalize (Utf8.decode s k).2 = q at *
        go_wp2_with fail
        refine (HI.out _).mono ?_
        rintro e w1 ⟨rfl, rfl⟩
        clear hnx
        go_wp2_with fail
        go_ret
        exact ⟨by rw [HV.out]; rfl, bel0 _ _⟩
    · have hnx := fun ty => run_next_end (P := Tryz.prog) w s k ty hkn
      have HV := Lib.hid (dgs_all s k hkn hall)
      clear hall
      go_wp2_with fail
      go_ret
      exact ⟨by rw [HV.out, ← ByteArray.toList_eq]; rfl, bel0 _ _⟩

theorem isDigits_l {w : World} {l : List UInt8} (hs : l.length ≤ 1000000000000) :
    Calls Tryz.prog 51 #[.string ⟨l.toArray⟩] w fun e w' => e = .returned (.bool (digsB l)) ∧ Below w.heap.size w w' :=
  isDigits_all (s := ⟨l.toArray⟩) (by simpa [ByteArray.size] using hs)

set_option maxRecDepth 100000 in
theorem whole_w {w : World} {c : UInt8} {l : List UInt8} (hs : l.length ≤ 100000000000) (h1 : ¬ c :: l = [48]) {b : Bool} (hd : digsB (c :: l) = true) (hb : ((((c.toNat : Nat) : Int) != 48)) = b) :
    Calls Tryz.prog 50 #[.string ⟨(c :: l).toArray⟩] w fun e w' => e = .returned (.bool b) ∧ Below w.heap.size w w' := by
  have HD : Hid (∀ W : World, Calls Tryz.prog 51 #[.string ⟨(c :: l).toArray⟩] W fun e w' => e = .returned (.bool true) ∧ Below W.heap.size W w') := Lib.hid (fun W => by
    have := isDigits_l (w := W) (l := c :: l) (by simp; omega)
    rw [hd] at this
    exact this)
  have h2 : ∀ w : World, (Instr.index 9 (.string ⟨(c :: l).toArray⟩) (.int .i64 0)).run Tryz.prog w = .ok (.int .u8 (c.toNat : Nat)) w := fun w => rfl
  have h3 : (ByteArray.toList ⟨(c :: l).toArray⟩ == [48]) = false := by
    rw [ByteArray.toList_eq]
    simpa using h1
  clear hd h1
  obtain ⟨s, hsq⟩ : ∃ s : ByteArray, (⟨(c :: l).toArray⟩ : ByteArray) = s := ⟨_, rfl⟩
  rw [hsq] at HD h2 h3 ⊢
  clear hsq
  go_enter Tryz.func50, Tryz.ntmps50
  go_wp2_with fail
  refine (HD.out _).mono ?_
  rintro e w1 ⟨rfl, hbl⟩
  go_wp2
  go_ret
  exact ⟨rfl, hbl⟩
theorem whole_n {w : World} {l : List UInt8} (hs : l.length ≤ 100000000000) (hd : digsB l = false) :
    Calls Tryz.prog 50 #[.string ⟨l.toArray⟩] w fun e w' => e = .returned (.bool false) ∧ Below w.heap.size w w' := by
  have HD : Hid (∀ W : World, Calls Tryz.prog 51 #[.string ⟨l.toArray⟩] W fun e w' => e = .returned (.bool false) ∧ Below W.heap.size W w') := Lib.hid (fun W => by
    have := isDigits_l (w := W) (l := l) (by omega)
    rw [hd] at this
    exact this)
  clear hd
  go_enter Tryz.func50, Tryz.ntmps50
  go_wp2_with fail
  refine (HD.out _).mono ?_
  rintro e w1 ⟨rfl, hbl⟩
  go_wp2
  go_ret
  exact ⟨rfl, hbl⟩
theorem whole_0 {w : World} :
    Calls Tryz.prog 50 #[.string ⟨#[48]⟩] w fun e w' => e = .returned (.bool true) ∧ Below w.heap.size w w' := by
  have HD : Hid (∀ W : World, Calls Tryz.prog 51 #[.string ⟨#[48]⟩] W fun e w' => e = .returned (.bool true) ∧ Below W.heap.size W w') := Lib.hid (fun W => isDigits_l (w := W) (l := [48]) (by simp))
  go_enter Tryz.func50, Tryz.ntmps50
  go_wp2_with fail
  refine (HD.out _).mono ?_
  rintro e w1 ⟨rfl, hbl⟩
  go_wp2
  go_ret
  exact ⟨rfl, hbl⟩
theorem isWhole_l {w : World} {l : List UInt8} (hs : l.length ≤ 100000000000) :
    Calls Tryz.prog 50 #[.string ⟨l.toArray⟩] w fun e w' => e = .returned (.bool (wholeB l)) ∧ Below w.heap.size w w' := by
  cases hd : digsB l
  · have : wholeB l = false := by unfold wholeB; rw [hd]; rfl
    rw [this]
    exact whole_n hs hd
  · by_cases h48 : l = [48]
    · subst h48
      exact whole_0
    · rcases l with _ | ⟨c, l⟩
      · cases hd
      · have hw : wholeB (c :: l) = (((c.toNat : Nat) : Int) != 48) := by
          unfold wholeB
          rw [hd, Bool.true_and, show (c :: l == [48]) = false by simpa using h48, Bool.false_or, List.head?_cons]
          by_cases hc : c = 48
          · subst hc; rfl
          · have h1 : ¬ ((c.toNat : Nat) : Int) = 48 := fun h => hc (UInt8.toNat_inj.1 (by show c.toNat = 48; omega))
            rw [show (some c != some (48 : UInt8)) = true from bne_iff_ne.2 fun h => hc (Option.some.inj h), show ((((c.toNat : Nat) : Int) != 48)) = true from bne_iff_ne.2 h1]
        rw [hw]
        exact whole_w (by simp at hs; omega) h48 hd rfl
end Go.Proofs.YtmbjmgmnicacpaaGreatDoor
namespace Go.Proofs.YtmbjmgmnicacpaaGreatDoor
open Go.RowKit

set_option maxRecDepth 100000 in
theorem pw_neg0_n {w : World} {r u t : ByteArray} {b : Bool}
    (K1 : ∀ W : World, Calls Tryz.prog 48 #[.string ⟨#[45, 48]⟩, .string ⟨#[45]⟩] W fun e w' => e = .returned (.tuple #[.string r, .bool b]) ∧ w' = W)
    (K2 : ∀ W : World, Calls Tryz.prog 49 #[.string r, .string ⟨#[46]⟩] W fun e w' => e = .returned (.tuple #[.string u, .string t, .bool false]) ∧ Below W.heap.size W w')
    : Calls Tryz.prog 31 #[.string ⟨#[45, 48]⟩] w fun e w' => e = .returned (.tuple #[.agg #[.int .i64 0, .int .i64 0], .int .i64 2]) ∧ Below w.heap.size w w' := by
  have H1 := Lib.hid K1
  have H2 := Lib.hid K2
  clear K1 K2
  have HB := Lib.hid (sb1 w 23 #[.int .i64 0, .int .i64 0])
  go_enter Tryz.func31, Tryz.ntmps31
  go_wp2_with fail
  refine (H1.out _).mono ?_
  rintro e w1 ⟨rfl, rfl⟩
  go_wp2_with fail
  refine (H2.out _).mono ?_
  rintro e w1 ⟨rfl, hb⟩
  have HB1 := Lib.hid (HB.out.call hb)
  clear hb HB
  have HB := HB1
  clear HB1
  have k1 := HB.out.bk _ (.head _)
  have hbel := HB.out.bel
  have c0 := k1.cell 0
  have c1 := k1.cell 1
  have z0 := k1.frozen 0
  have z1 := k1.frozen 1
  clear k1 HB
  go_wp2
  refine bodyPost_ret (v := .tuple #[.agg #[.int .i64 0, .int .i64 0], .int .i64 2]) ?_ rfl ⟨rfl, (hbel.setCell (by simp) _).setCell (by simp) _⟩
  simp [results, Tryz.results31, go_sem, c0, c1]

set_option maxRecDepth 100000 in
theorem pw_neg0_p {w : World} {r u t : ByteArray} {b : Bool}
    (K1 : ∀ W : World, Calls Tryz.prog 48 #[.string ⟨#[45, 48]⟩, .string ⟨#[45]⟩] W fun e w' => e = .returned (.tuple #[.string r, .bool b]) ∧ w' = W)
    (K2 : ∀ W : World, Calls Tryz.prog 49 #[.string r, .string ⟨#[46]⟩] W fun e w' => e = .returned (.tuple #[.string u, .string t, .bool true]) ∧ Below W.heap.size W w')
    : Calls Tryz.prog 31 #[.string ⟨#[45, 48]⟩] w fun e w' => e = .returned (.tuple #[.agg #[.int .i64 0, .int .i64 0], .int .i64 2]) ∧ Below w.heap.size w w' := by
  have H1 := Lib.hid K1
  have H2 := Lib.hid K2
  clear K1 K2
  have HB := Lib.hid (sb1 w 23 #[.int .i64 0, .int .i64 0])
  go_enter Tryz.func31, Tryz.ntmps31
  go_wp2_with fail
  refine (H1.out _).mono ?_
  rintro e w1 ⟨rfl, rfl⟩
  go_wp2_with fail
  refine (H2.out _).mono ?_
  rintro e w1 ⟨rfl, hb⟩
  have HB1 := Lib.hid (HB.out.call hb)
  clear hb HB
  have HB := HB1
  clear HB1
  have k1 := HB.out.bk _ (.head _)
  have hbel := HB.out.bel
  have c0 := k1.cell 0
  have c1 := k1.cell 1
  have z0 := k1.frozen 0
  have z1 := k1.frozen 1
  clear k1 HB
  go_wp2
  refine bodyPost_ret (v := .tuple #[.agg #[.int .i64 0, .int .i64 0], .int .i64 2]) ?_ rfl ⟨rfl, (hbel.setCell (by simp) _).setCell (by simp) _⟩
  simp [results, Tryz.results31, go_sem, c0, c1]

set_option maxRecDepth 100000 in
theorem pw_whole_n {w : World} {s r u t : ByteArray} {b : Bool}
    (hs : (s.toList == [45, 48]) = false)
    (K1 : ∀ W : World, Calls Tryz.prog 48 #[.string s, .string ⟨#[45]⟩] W fun e w' => e = .returned (.tuple #[.string r, .bool b]) ∧ w' = W)
    (K2 : ∀ W : World, Calls Tryz.prog 49 #[.string r, .string ⟨#[46]⟩] W fun e w' => e = .returned (.tuple #[.string u, .string t, .bool false]) ∧ Below W.heap.size W w')
    (K3 : ∀ W : World, Calls Tryz.prog 50 #[.string u] W fun e w' => e = .returned (.bool false) ∧ Below W.heap.size W w')
    : Calls Tryz.prog 31 #[.string s] w fun e w' => e = .returned (.tuple #[.agg #[.int .i64 0, .int .i64 0], .int .i64 2]) ∧ Below w.heap.size w w' := by
  have H1 := Lib.hid K1
  have H2 := Lib.hid K2
  have H3 := Lib.hid K3
  clear K1 K2 K3
  have HB := Lib.hid (sb1 w 23 #[.int .i64 0, .int .i64 0])
  go_enter Tryz.func31, Tryz.ntmps31
  go_wp2_with fail
  refine (H1.out _).mono ?_
  rintro e w1 ⟨rfl, rfl⟩
  go_wp2_with fail
  refine (H2.out _).mono ?_
  rintro e w1 ⟨rfl, hb⟩
  have HB1 := Lib.hid (HB.out.call hb)
  clear hb HB
  have HB := HB1
  clear HB1
  go_wp2_with fail
  refine (H3.out _).mono ?_
  rintro e w1 ⟨rfl, hb⟩
  have HB1 := Lib.hid (HB.out.call hb)
  clear hb HB
  have HB := HB1
  clear HB1
  have k1 := HB.out.bk _ (.head _)
  have hbel := HB.out.bel
  have c0 := k1.cell 0
  have c1 := k1.cell 1
  have z0 := k1.frozen 0
  have z1 := k1.frozen 1
  clear k1 HB
  go_wp2
  refine bodyPost_ret (v := .tuple #[.agg #[.int .i64 0, .int .i64 0], .int .i64 2]) ?_ rfl ⟨rfl, (hbel.setCell (by simp) _).setCell (by simp) _⟩
  simp [results, Tryz.results31, go_sem, c0, c1]

set_option maxRecDepth 100000 in
theorem pw_great_n {w : World} {s r u t : ByteArray} {b : Bool} {n : Nat}
    (hs : (s.toList == [45, 48]) = false)
    (K1 : ∀ W : World, Calls Tryz.prog 48 #[.string s, .string ⟨#[45]⟩] W fun e w' => e = .returned (.tuple #[.string r, .bool b]) ∧ w' = W)
    (K2 : ∀ W : World, Calls Tryz.prog 49 #[.string r, .string ⟨#[46]⟩] W fun e w' => e = .returned (.tuple #[.string u, .string t, .bool false]) ∧ Below W.heap.size W w')
    (K3 : ∀ W : World, Calls Tryz.prog 50 #[.string u] W fun e w' => e = .returned (.bool true) ∧ Below W.heap.size W w')
    (K5 : ∀ W : World, Calls Tryz.prog 52 #[.string r] W fun e w' => e = .returned (.tuple #[.int .u64 (n : Nat), .bool false]) ∧ Below W.heap.size W w')
    : Calls Tryz.prog 31 #[.string s] w fun e w' => e = .returned (.tuple #[.agg #[.int .i64 0, .int .i64 0], .int .i64 8]) ∧ Below w.heap.size w w' := by
  have H1 := Lib.hid K1
  have H2 := Lib.hid K2
  have H3 := Lib.hid K3
  have H5 := Lib.hid K5
  clear K1 K2 K3 K5
  have HB := Lib.hid (sb1 w 23 #[.int .i64 0, .int .i64 0])
  go_enter Tryz.func31, Tryz.ntmps31
  go_wp2_with fail
  refine (H1.out _).mono ?_
  rintro e w1 ⟨rfl, rfl⟩
  go_wp2_with fail
  refine (H2.out _).mono ?_
  rintro e w1 ⟨rfl, hb⟩
  have HB1 := Lib.hid (HB.out.call hb)
  clear hb HB
  have HB := HB1
  clear HB1
  go_wp2_with fail
  refine (H3.out _).mono ?_
  rintro e w1 ⟨rfl, hb⟩
  have HB1 := Lib.hid (HB.out.call hb)
  clear hb HB
  have HB := HB1
  clear HB1
  go_wp2_with fail
  refine (H5.out _).mono ?_
  rintro e w1 ⟨rfl, hb⟩
  have HB1 := Lib.hid (HB.out.call hb)
  clear hb HB
  have HB := HB1
  clear HB1
  have k1 := HB.out.bk _ (.head _)
  have hbel := HB.out.bel
  have c0 := k1.cell 0
  have c1 := k1.cell 1
  have z0 := k1.frozen 0
  have z1 := k1.frozen 1
  clear k1 HB
  go_wp2
  refine bodyPost_ret (v := .tuple #[.agg #[.int .i64 0, .int .i64 0], .int .i64 8]) ?_ rfl ⟨rfl, (hbel.setCell (by simp) _).setCell (by simp) _⟩
  simp [results, Tryz.results31, go_sem, c0, c1]

set_option maxRecDepth 100000 in
theorem pw_wide_n {w : World} {s r u t : ByteArray} {b : Bool} {n : Nat} {m : Int}
    (hs : (s.toList == [45, 48]) = false)
    (K1 : ∀ W : World, Calls Tryz.prog 48 #[.string s, .string ⟨#[45]⟩] W fun e w' => e = .returned (.tuple #[.string r, .bool b]) ∧ w' = W)
    (K2 : ∀ W : World, Calls Tryz.prog 49 #[.string r, .string ⟨#[46]⟩] W fun e w' => e = .returned (.tuple #[.string u, .string t, .bool false]) ∧ Below W.heap.size W w')
    (K3 : ∀ W : World, Calls Tryz.prog 50 #[.string u] W fun e w' => e = .returned (.bool true) ∧ Below W.heap.size W w')
    (K5 : ∀ W : World, Calls Tryz.prog 52 #[.string r] W fun e w' => e = .returned (.tuple #[.int .u64 (n : Nat), .bool true]) ∧ Below W.heap.size W w')
    (K6 : ∀ W : World, Calls Tryz.prog 53 #[.agg #[.bool b, .int .u64 0, .int .u64 (n : Nat)]] W fun e w' => e = .returned (.tuple #[.int .i64 m, .bool false]) ∧ Below W.heap.size W w')
    : Calls Tryz.prog 31 #[.string s] w fun e w' => e = .returned (.tuple #[.agg #[.int .i64 0, .int .i64 0], .int .i64 8]) ∧ Below w.heap.size w w' := by
  have H1 := Lib.hid K1
  have H2 := Lib.hid K2
  have H3 := Lib.hid K3
  have H5 := Lib.hid K5
  have H6 := Lib.hid K6
  clear K1 K2 K3 K5 K6
  have HB := Lib.hid (sb1 w 23 #[.int .i64 0, .int .i64 0])
  go_enter Tryz.func31, Tryz.ntmps31
  go_wp2_with fail
  refine (H1.out _).mono ?_
  rintro e w1 ⟨rfl, rfl⟩
  go_wp2_with fail
  refine (H2.out _).mono ?_
  rintro e w1 ⟨rfl, hb⟩
  have HB1 := Lib.hid (HB.out.call hb)
  clear hb HB
  have HB := HB1
  clear HB1
  go_wp2_with fail
  refine (H3.out _).mono ?_
  rintro e w1 ⟨rfl, hb⟩
  have HB1 := Lib.hid (HB.out.call hb)
  clear hb HB
  have HB := HB1
  clear HB1
  go_wp2_with fail
  refine (H5.out _).mono ?_
  rintro e w1 ⟨rfl, hb⟩
  have HB1 := Lib.hid (HB.out.call hb)
  clear hb HB
  have HB := HB1
  clear HB1
  go_wp2_with fail
  refine (H6.out _).mono ?_
  rintro e w1 ⟨rfl, hb⟩
  have HB1 := Lib.hid (HB.out.call hb)
  clear hb HB
  have HB := HB1
  clear HB1
  have k1 := HB.out.bk _ (.head _)
  have hbel := HB.out.bel
  have c0 := k1.cell 0
  have c1 := k1.cell 1
  have z0 := k1.frozen 0
  have z1 := k1.frozen 1
  clear k1 HB
  go_wp2
  refine bodyPost_ret (v := .tuple #[.agg #[.int .i64 0, .int .i64 0], .int .i64 8]) ?_ rfl ⟨rfl, (hbel.setCell (by simp) _).setCell (by simp) _⟩
  simp [results, Tryz.results31, go_sem, c0, c1]

set_option maxRecDepth 100000 in
theorem pw_long_n {w : World} {s r u t : ByteArray} {b : Bool} {n : Nat} {m : Int}
    (hs : (s.toList == [45, 48]) = false)
    (K1 : ∀ W : World, Calls Tryz.prog 48 #[.string s, .string ⟨#[45]⟩] W fun e w' => e = .returned (.tuple #[.string r, .bool b]) ∧ w' = W)
    (K2 : ∀ W : World, Calls Tryz.prog 49 #[.string r, .string ⟨#[46]⟩] W fun e w' => e = .returned (.tuple #[.string u, .string t, .bool false]) ∧ Below W.heap.size W w')
    (K3 : ∀ W : World, Calls Tryz.prog 50 #[.string u] W fun e w' => e = .returned (.bool true) ∧ Below W.heap.size W w')
    (K5 : ∀ W : World, Calls Tryz.prog 52 #[.string r] W fun e w' => e = .returned (.tuple #[.int .u64 (n : Nat), .bool true]) ∧ Below W.heap.size W w')
    (K6 : ∀ W : World, Calls Tryz.prog 53 #[.agg #[.bool b, .int .u64 0, .int .u64 (n : Nat)]] W fun e w' => e = .returned (.tuple #[.int .i64 m, .bool true]) ∧ Below W.heap.size W w')
    (hbig : 9 < t.size)
    : Calls Tryz.prog 31 #[.string s] w fun e w' => e = .returned (.tuple #[.agg #[.int .i64 0, .int .i64 0], .int .i64 1]) ∧ Below w.heap.size w w' := by
  have hbig' : (9 : Int) < ((t.size : Nat) : Int) := by omega
  clear hbig
  have H1 := Lib.hid K1
  have H2 := Lib.hid K2
  have H3 := Lib.hid K3
  have H5 := Lib.hid K5
  have H6 := Lib.hid K6
  clear K1 K2 K3 K5 K6
  have HB := Lib.hid (sb1 w 23 #[.int .i64 0, .int .i64 0])
  go_enter Tryz.func31, Tryz.ntmps31
  go_wp2_with fail
  refine (H1.out _).mono ?_
  rintro e w1 ⟨rfl, rfl⟩
  go_wp2_with fail
  refine (H2.out _).mono ?_
  rintro e w1 ⟨rfl, hb⟩
  have HB1 := Lib.hid (HB.out.call hb)
  clear hb HB
  have HB := HB1
  clear HB1
  go_wp2_with fail
  refine (H3.out _).mono ?_
  rintro e w1 ⟨rfl, hb⟩
  have HB1 := Lib.hid (HB.out.call hb)
  clear hb HB
  have HB := HB1
  clear HB1
  go_wp2_with fail
  refine (H5.out _).mono ?_
  rintro e w1 ⟨rfl, hb⟩
  have HB1 := Lib.hid (HB.out.call hb)
  clear hb HB
  have HB := HB1
  clear HB1
  go_wp2_with fail
  refine (H6.out _).mono ?_
  rintro e w1 ⟨rfl, hb⟩
  have HB1 := Lib.hid (HB.out.call hb)
  clear hb HB
  have HB := HB1
  clear HB1
  have k1 := HB.out.bk _ (.head _)
  have hbel := HB.out.bel
  have c0 := k1.cell 0
  have c1 := k1.cell 1
  have z0 := k1.frozen 0
  have z1 := k1.frozen 1
  clear k1 HB
  go_wp2
  refine bodyPost_ret (v := .tuple #[.agg #[.int .i64 0, .int .i64 0], .int .i64 1]) ?_ rfl ⟨rfl, (hbel.setCell (by simp) _).setCell (by simp) _⟩
  simp [results, Tryz.results31, go_sem, c0, c1]

set_option maxRecDepth 100000 in
theorem pw_nought_n {w : World} {s r u t : ByteArray} {b : Bool} {n : Nat} {m : Int}
    (hs : (s.toList == [45, 48]) = false)
    (K1 : ∀ W : World, Calls Tryz.prog 48 #[.string s, .string ⟨#[45]⟩] W fun e w' => e = .returned (.tuple #[.string r, .bool b]) ∧ w' = W)
    (K2 : ∀ W : World, Calls Tryz.prog 49 #[.string r, .string ⟨#[46]⟩] W fun e w' => e = .returned (.tuple #[.string u, .string t, .bool false]) ∧ Below W.heap.size W w')
    (K3 : ∀ W : World, Calls Tryz.prog 50 #[.string u] W fun e w' => e = .returned (.bool true) ∧ Below W.heap.size W w')
    (K5 : ∀ W : World, Calls Tryz.prog 52 #[.string r] W fun e w' => e = .returned (.tuple #[.int .u64 (n : Nat), .bool true]) ∧ Below W.heap.size W w')
    (K6 : ∀ W : World, Calls Tryz.prog 53 #[.agg #[.bool b, .int .u64 0, .int .u64 (n : Nat)]] W fun e w' => e = .returned (.tuple #[.int .i64 m, .bool true]) ∧ Below W.heap.size W w')
    (K7 : ∀ W : World, Calls Tryz.prog 54 #[.string t, .string ⟨#[48]⟩] W fun e w' => e = .returned (.bool true) ∧ w' = W)
    (hbig : t.size ≤ 9)
    : Calls Tryz.prog 31 #[.string s] w fun e w' => e = .returned (.tuple #[.agg #[.int .i64 0, .int .i64 0], .int .i64 1]) ∧ Below w.heap.size w w' := by
  have hbig' : ¬ (9 : Int) < ((t.size : Nat) : Int) := by omega
  clear hbig
  have H1 := Lib.hid K1
  have H2 := Lib.hid K2
  have H3 := Lib.hid K3
  have H5 := Lib.hid K5
  have H6 := Lib.hid K6
  have H7 := Lib.hid K7
  clear K1 K2 K3 K5 K6 K7
  have HB := Lib.hid (sb1 w 23 #[.int .i64 0, .int .i64 0])
  go_enter Tryz.func31, Tryz.ntmps31
  go_wp2_with fail
  refine (H1.out _).mono ?_
  rintro e w1 ⟨rfl, rfl⟩
  go_wp2_with fail
  refine (H2.out _).mono ?_
  rintro e w1 ⟨rfl, hb⟩
  have HB1 := Lib.hid (HB.out.call hb)
  clear hb HB
  have HB := HB1
  clear HB1
  go_wp2_with fail
  refine (H3.out _).mono ?_
  rintro e w1 ⟨rfl, hb⟩
  have HB1 := Lib.hid (HB.out.call hb)
  clear hb HB
  have HB := HB1
  clear HB1
  go_wp2_with fail
  refine (H5.out _).mono ?_
  rintro e w1 ⟨rfl, hb⟩
  have HB1 := Lib.hid (HB.out.call hb)
  clear hb HB
  have HB := HB1
  clear HB1
  go_wp2_with fail
  refine (H6.out _).mono ?_
  rintro e w1 ⟨rfl, hb⟩
  have HB1 := Lib.hid (HB.out.call hb)
  clear hb HB
  have HB := HB1
  clear HB1
  go_wp2_with fail
  refine (H7.out _).mono ?_
  rintro e w1 ⟨rfl, rfl⟩
  have k1 := HB.out.bk _ (.head _)
  have hbel := HB.out.bel
  have c0 := k1.cell 0
  have c1 := k1.cell 1
  have z0 := k1.frozen 0
  have z1 := k1.frozen 1
  clear k1 HB
  go_wp2
  refine bodyPost_ret (v := .tuple #[.agg #[.int .i64 0, .int .i64 0], .int .i64 1]) ?_ rfl ⟨rfl, (hbel.setCell (by simp) _).setCell (by simp) _⟩
  simp [results, Tryz.results31, go_sem, c0, c1]

set_option maxRecDepth 100000 in
theorem pw_good_n {w : World} {s r u t : ByteArray} {b : Bool} {n : Nat} {m : Int}
    (hs : (s.toList == [45, 48]) = false)
    (K1 : ∀ W : World, Calls Tryz.prog 48 #[.string s, .string ⟨#[45]⟩] W fun e w' => e = .returned (.tuple #[.string r, .bool b]) ∧ w' = W)
    (K2 : ∀ W : World, Calls Tryz.prog 49 #[.string r, .string ⟨#[46]⟩] W fun e w' => e = .returned (.tuple #[.string u, .string t, .bool false]) ∧ Below W.heap.size W w')
    (K3 : ∀ W : World, Calls Tryz.prog 50 #[.string u] W fun e w' => e = .returned (.bool true) ∧ Below W.heap.size W w')
    (K5 : ∀ W : World, Calls Tryz.prog 52 #[.string r] W fun e w' => e = .returned (.tuple #[.int .u64 (n : Nat), .bool true]) ∧ Below W.heap.size W w')
    (K6 : ∀ W : World, Calls Tryz.prog 53 #[.agg #[.bool b, .int .u64 0, .int .u64 (n : Nat)]] W fun e w' => e = .returned (.tuple #[.int .i64 m, .bool true]) ∧ Below W.heap.size W w')
    (K7 : ∀ W : World, Calls Tryz.prog 54 #[.string t, .string ⟨#[48]⟩] W fun e w' => e = .returned (.bool false) ∧ w' = W)
    (hbig : t.size ≤ 9)
    : Calls Tryz.prog 31 #[.string s] w fun e w' => e = .returned (.tuple #[.agg #[.int .i64 m, .int .i64 (t.size : Nat)], .int .i64 0]) ∧ Below w.heap.size w w' := by
  have hbig' : ¬ (9 : Int) < ((t.size : Nat) : Int) := by omega
  clear hbig
  have H1 := Lib.hid K1
  have H2 := Lib.hid K2
  have H3 := Lib.hid K3
  have H5 := Lib.hid K5
  have H6 := Lib.hid K6
  have H7 := Lib.hid K7
  clear K1 K2 K3 K5 K6 K7
  have HB := Lib.hid (sb1 w 23 #[.int .i64 0, .int .i64 0])
  go_enter Tryz.func31, Tryz.ntmps31
  go_wp2_with fail
  refine (H1.out _).mono ?_
  rintro e w1 ⟨rfl, rfl⟩
  go_wp2_with fail
  refine (H2.out _).mono ?_
  rintro e w1 ⟨rfl, hb⟩
  have HB1 := Lib.hid (HB.out.call hb)
  clear hb HB
  have HB := HB1
  clear HB1
  go_wp2_with fail
  refine (H3.out _).mono ?_
  rintro e w1 ⟨rfl, hb⟩
  have HB1 := Lib.hid (HB.out.call hb)
  clear hb HB
  have HB := HB1
  clear HB1
  go_wp2_with fail
  refine (H5.out _).mono ?_
  rintro e w1 ⟨rfl, hb⟩
  have HB1 := Lib.hid (HB.out.call hb)
  clear hb HB
  have HB := HB1
  clear HB1
  go_wp2_with fail
  refine (H6.out _).mono ?_
  rintro e w1 ⟨rfl, hb⟩
  have HB1 := Lib.hid (HB.out.call hb)
  clear hb HB
  have HB := HB1
  clear HB1
  go_wp2_with fail
  refine (H7.out _).mono ?_
  rintro e w1 ⟨rfl, rfl⟩
  have k1 := HB.out.bk _ (.head _)
  have hbel := HB.out.bel
  have c0 := k1.cell 0
  have c1 := k1.cell 1
  have z0 := k1.frozen 0
  have z1 := k1.frozen 1
  clear k1 HB
  go_wp2
  refine bodyPost_ret (v := .tuple #[.agg #[.int .i64 m, .int .i64 (t.size : Nat)], .int .i64 0]) ?_ rfl ⟨rfl, (hbel.setCell (by simp) _).setCell (by simp) _⟩
  simp [results, Tryz.results31, go_sem, c0, c1]

set_option maxRecDepth 100000 in
theorem pw_whole_p {w : World} {s r u t : ByteArray} {b : Bool}
    (hs : (s.toList == [45, 48]) = false)
    (K1 : ∀ W : World, Calls Tryz.prog 48 #[.string s, .string ⟨#[45]⟩] W fun e w' => e = .returned (.tuple #[.string r, .bool b]) ∧ w' = W)
    (K2 : ∀ W : World, Calls Tryz.prog 49 #[.string r, .string ⟨#[46]⟩] W fun e w' => e = .returned (.tuple #[.string u, .string t, .bool true]) ∧ Below W.heap.size W w')
    (K3 : ∀ W : World, Calls Tryz.prog 50 #[.string u] W fun e w' => e = .returned (.bool false) ∧ Below W.heap.size W w')
    : Calls Tryz.prog 31 #[.string s] w fun e w' => e = .returned (.tuple #[.agg #[.int .i64 0, .int .i64 0], .int .i64 2]) ∧ Below w.heap.size w w' := by
  have H1 := Lib.hid K1
  have H2 := Lib.hid K2
  have H3 := Lib.hid K3
  clear K1 K2 K3
  have HB := Lib.hid (sb1 w 23 #[.int .i64 0, .int .i64 0])
  go_enter Tryz.func31, Tryz.ntmps31
  go_wp2_with fail
  refine (H1.out _).mono ?_
  rintro e w1 ⟨rfl, rfl⟩
  go_wp2_with fail
  refine (H2.out _).mono ?_
  rintro e w1 ⟨rfl, hb⟩
  have HB1 := Lib.hid (HB.out.call hb)
  clear hb HB
  have HB := HB1
  clear HB1
  go_wp2_with fail
  refine (H3.out _).mono ?_
  rintro e w1 ⟨rfl, hb⟩
  have HB1 := Lib.hid (HB.out.call hb)
  clear hb HB
  have HB := HB1
  clear HB1
  have k1 := HB.out.bk _ (.head _)
  have hbel := HB.out.bel
  have c0 := k1.cell 0
  have c1 := k1.cell 1
  have z0 := k1.frozen 0
  have z1 := k1.frozen 1
  clear k1 HB
  go_wp2
  refine bodyPost_ret (v := .tuple #[.agg #[.int .i64 0, .int .i64 0], .int .i64 2]) ?_ rfl ⟨rfl, (hbel.setCell (by simp) _).setCell (by simp) _⟩
  simp [results, Tryz.results31, go_sem, c0, c1]

set_option maxRecDepth 100000 in
theorem pw_digits {w : World} {s r u t : ByteArray} {b : Bool}
    (hs : (s.toList == [45, 48]) = false)
    (K1 : ∀ W : World, Calls Tryz.prog 48 #[.string s, .string ⟨#[45]⟩] W fun e w' => e = .returned (.tuple #[.string r, .bool b]) ∧ w' = W)
    (K2 : ∀ W : World, Calls Tryz.prog 49 #[.string r, .string ⟨#[46]⟩] W fun e w' => e = .returned (.tuple #[.string u, .string t, .bool true]) ∧ Below W.heap.size W w')
    (K3 : ∀ W : World, Calls Tryz.prog 50 #[.string u] W fun e w' => e = .returned (.bool true) ∧ Below W.heap.size W w')
    (K4 : ∀ W : World, Calls Tryz.prog 51 #[.string t] W fun e w' => e = .returned (.bool false) ∧ Below W.heap.size W w')
    : Calls Tryz.prog 31 #[.string s] w fun e w' => e = .returned (.tuple #[.agg #[.int .i64 0, .int .i64 0], .int .i64 2]) ∧ Below w.heap.size w w' := by
  have H1 := Lib.hid K1
  have H2 := Lib.hid K2
  have H3 := Lib.hid K3
  have H4 := Lib.hid K4
  clear K1 K2 K3 K4
  have HB := Lib.hid (sb1 w 23 #[.int .i64 0, .int .i64 0])
  go_enter Tryz.func31, Tryz.ntmps31
  go_wp2_with fail
  refine (H1.out _).mono ?_
  rintro e w1 ⟨rfl, rfl⟩
  go_wp2_with fail
  refine (H2.out _).mono ?_
  rintro e w1 ⟨rfl, hb⟩
  have HB1 := Lib.hid (HB.out.call hb)
  clear hb HB
  have HB := HB1
  clear HB1
  go_wp2_with fail
  refine (H3.out _).mono ?_
  rintro e w1 ⟨rfl, hb⟩
  have HB1 := Lib.hid (HB.out.call hb)
  clear hb HB
  have HB := HB1
  clear HB1
  go_wp2_with fail
  refine (H4.out _).mono ?_
  rintro e w1 ⟨rfl, hb⟩
  have HB1 := Lib.hid (HB.out.call hb)
  clear hb HB
  have HB := HB1
  clear HB1
  have k1 := HB.out.bk _ (.head _)
  have hbel := HB.out.bel
  have c0 := k1.cell 0
  have c1 := k1.cell 1
  have z0 := k1.frozen 0
  have z1 := k1.frozen 1
  clear k1 HB
  go_wp2
  refine bodyPost_ret (v := .tuple #[.agg #[.int .i64 0, .int .i64 0], .int .i64 2]) ?_ rfl ⟨rfl, (hbel.setCell (by simp) _).setCell (by simp) _⟩
  simp [results, Tryz.results31, go_sem, c0, c1]

set_option maxRecDepth 100000 in
theorem pw_great_p {w : World} {s r u t : ByteArray} {b : Bool} {n : Nat}
    (hs : (s.toList == [45, 48]) = false)
    (K1 : ∀ W : World, Calls Tryz.prog 48 #[.string s, .string ⟨#[45]⟩] W fun e w' => e = .returned (.tuple #[.string r, .bool b]) ∧ w' = W)
    (K2 : ∀ W : World, Calls Tryz.prog 49 #[.string r, .string ⟨#[46]⟩] W fun e w' => e = .returned (.tuple #[.string u, .string t, .bool true]) ∧ Below W.heap.size W w')
    (K3 : ∀ W : World, Calls Tryz.prog 50 #[.string u] W fun e w' => e = .returned (.bool true) ∧ Below W.heap.size W w')
    (K4 : ∀ W : World, Calls Tryz.prog 51 #[.string t] W fun e w' => e = .returned (.bool true) ∧ Below W.heap.size W w')
    (K5 : ∀ W : World, Calls Tryz.prog 52 #[.string r] W fun e w' => e = .returned (.tuple #[.int .u64 (n : Nat), .bool false]) ∧ Below W.heap.size W w')
    : Calls Tryz.prog 31 #[.string s] w fun e w' => e = .returned (.tuple #[.agg #[.int .i64 0, .int .i64 0], .int .i64 8]) ∧ Below w.heap.size w w' := by
  have H1 := Lib.hid K1
  have H2 := Lib.hid K2
  have H3 := Lib.hid K3
  have H4 := Lib.hid K4
  have H5 := Lib.hid K5
  clear K1 K2 K3 K4 K5
  have HB := Lib.hid (sb1 w 23 #[.int .i64 0, .int .i64 0])
  go_enter Tryz.func31, Tryz.ntmps31
  go_wp2_with fail
  refine (H1.out _).mono ?_
  rintro e w1 ⟨rfl, rfl⟩
  go_wp2_with fail
  refine (H2.out _).mono ?_
  rintro e w1 ⟨rfl, hb⟩
  have HB1 := Lib.hid (HB.out.call hb)
  clear hb HB
  have HB := HB1
  clear HB1
  go_wp2_with fail
  refine (H3.out _).mono ?_
  rintro e w1 ⟨rfl, hb⟩
  have HB1 := Lib.hid (HB.out.call hb)
  clear hb HB
  have HB := HB1
  clear HB1
  go_wp2_with fail
  refine (H4.out _).mono ?_
  rintro e w1 ⟨rfl, hb⟩
  have HB1 := Lib.hid (HB.out.call hb)
  clear hb HB
  have HB := HB1
  clear HB1
  go_wp2_with fail
  refine (H5.out _).mono ?_
  rintro e w1 ⟨rfl, hb⟩
  have HB1 := Lib.hid (HB.out.call hb)
  clear hb HB
  have HB := HB1
  clear HB1
  have k1 := HB.out.bk _ (.head _)
  have hbel := HB.out.bel
  have c0 := k1.cell 0
  have c1 := k1.cell 1
  have z0 := k1.frozen 0
  have z1 := k1.frozen 1
  clear k1 HB
  go_wp2
  refine bodyPost_ret (v := .tuple #[.agg #[.int .i64 0, .int .i64 0], .int .i64 8]) ?_ rfl ⟨rfl, (hbel.setCell (by simp) _).setCell (by simp) _⟩
  simp [results, Tryz.results31, go_sem, c0, c1]

set_option maxRecDepth 100000 in
theorem pw_wide_p {w : World} {s r u t : ByteArray} {b : Bool} {n : Nat} {m : Int}
    (hs : (s.toList == [45, 48]) = false)
    (K1 : ∀ W : World, Calls Tryz.prog 48 #[.string s, .string ⟨#[45]⟩] W fun e w' => e = .returned (.tuple #[.string r, .bool b]) ∧ w' = W)
    (K2 : ∀ W : World, Calls Tryz.prog 49 #[.string r, .string ⟨#[46]⟩] W fun e w' => e = .returned (.tuple #[.string u, .string t, .bool true]) ∧ Below W.heap.size W w')
    (K3 : ∀ W : World, Calls Tryz.prog 50 #[.string u] W fun e w' => e = .returned (.bool true) ∧ Below W.heap.size W w')
    (K4 : ∀ W : World, Calls Tryz.prog 51 #[.string t] W fun e w' => e = .returned (.bool true) ∧ Below W.heap.size W w')
    (K5 : ∀ W : World, Calls Tryz.prog 52 #[.string r] W fun e w' => e = .returned (.tuple #[.int .u64 (n : Nat), .bool true]) ∧ Below W.heap.size W w')
    (K6 : ∀ W : World, Calls Tryz.prog 53 #[.agg #[.bool b, .int .u64 0, .int .u64 (n : Nat)]] W fun e w' => e = .returned (.tuple #[.int .i64 m, .bool false]) ∧ Below W.heap.size W w')
    : Calls Tryz.prog 31 #[.string s] w fun e w' => e = .returned (.tuple #[.agg #[.int .i64 0, .int .i64 0], .int .i64 8]) ∧ Below w.heap.size w w' := by
  have H1 := Lib.hid K1
  have H2 := Lib.hid K2
  have H3 := Lib.hid K3
  have H4 := Lib.hid K4
  have H5 := Lib.hid K5
  have H6 := Lib.hid K6
  clear K1 K2 K3 K4 K5 K6
  have HB := Lib.hid (sb1 w 23 #[.int .i64 0, .int .i64 0])
  go_enter Tryz.func31, Tryz.ntmps31
  go_wp2_with fail
  refine (H1.out _).mono ?_
  rintro e w1 ⟨rfl, rfl⟩
  go_wp2_with fail
  refine (H2.out _).mono ?_
  rintro e w1 ⟨rfl, hb⟩
  have HB1 := Lib.hid (HB.out.call hb)
  clear hb HB
  have HB := HB1
  clear HB1
  go_wp2_with fail
  refine (H3.out _).mono ?_
  rintro e w1 ⟨rfl, hb⟩
  have HB1 := Lib.hid (HB.out.call hb)
  clear hb HB
  have HB := HB1
  clear HB1
  go_wp2_with fail
  refine (H4.out _).mono ?_
  rintro e w1 ⟨rfl, hb⟩
  have HB1 := Lib.hid (HB.out.call hb)
  clear hb HB
  have HB := HB1
  clear HB1
  go_wp2_with fail
  refine (H5.out _).mono ?_
  rintro e w1 ⟨rfl, hb⟩
  have HB1 := Lib.hid (HB.out.call hb)
  clear hb HB
  have HB := HB1
  clear HB1
  go_wp2_with fail
  refine (H6.out _).mono ?_
  rintro e w1 ⟨rfl, hb⟩
  have HB1 := Lib.hid (HB.out.call hb)
  clear hb HB
  have HB := HB1
  clear HB1
  have k1 := HB.out.bk _ (.head _)
  have hbel := HB.out.bel
  have c0 := k1.cell 0
  have c1 := k1.cell 1
  have z0 := k1.frozen 0
  have z1 := k1.frozen 1
  clear k1 HB
  go_wp2
  refine bodyPost_ret (v := .tuple #[.agg #[.int .i64 0, .int .i64 0], .int .i64 8]) ?_ rfl ⟨rfl, (hbel.setCell (by simp) _).setCell (by simp) _⟩
  simp [results, Tryz.results31, go_sem, c0, c1]

set_option maxRecDepth 100000 in
theorem pw_long_p {w : World} {s r u t : ByteArray} {b : Bool} {n : Nat} {m : Int}
    (hs : (s.toList == [45, 48]) = false)
    (K1 : ∀ W : World, Calls Tryz.prog 48 #[.string s, .string ⟨#[45]⟩] W fun e w' => e = .returned (.tuple #[.string r, .bool b]) ∧ w' = W)
    (K2 : ∀ W : World, Calls Tryz.prog 49 #[.string r, .string ⟨#[46]⟩] W fun e w' => e = .returned (.tuple #[.string u, .string t, .bool true]) ∧ Below W.heap.size W w')
    (K3 : ∀ W : World, Calls Tryz.prog 50 #[.string u] W fun e w' => e = .returned (.bool true) ∧ Below W.heap.size W w')
    (K4 : ∀ W : World, Calls Tryz.prog 51 #[.string t] W fun e w' => e = .returned (.bool true) ∧ Below W.heap.size W w')
    (K5 : ∀ W : World, Calls Tryz.prog 52 #[.string r] W fun e w' => e = .returned (.tuple #[.int .u64 (n : Nat), .bool true]) ∧ Below W.heap.size W w')
    (K6 : ∀ W : World, Calls Tryz.prog 53 #[.agg #[.bool b, .int .u64 0, .int .u64 (n : Nat)]] W fun e w' => e = .returned (.tuple #[.int .i64 m, .bool true]) ∧ Below W.heap.size W w')
    (hbig : 9 < t.size)
    : Calls Tryz.prog 31 #[.string s] w fun e w' => e = .returned (.tuple #[.agg #[.int .i64 0, .int .i64 0], .int .i64 1]) ∧ Below w.heap.size w w' := by
  have hbig' : (9 : Int) < ((t.size : Nat) : Int) := by omega
  clear hbig
  have H1 := Lib.hid K1
  have H2 := Lib.hid K2
  have H3 := Lib.hid K3
  have H4 := Lib.hid K4
  have H5 := Lib.hid K5
  have H6 := Lib.hid K6
  clear K1 K2 K3 K4 K5 K6
  have HB := Lib.hid (sb1 w 23 #[.int .i64 0, .int .i64 0])
  go_enter Tryz.func31, Tryz.ntmps31
  go_wp2_with fail
  refine (H1.out _).mono ?_
  rintro e w1 ⟨rfl, rfl⟩
  go_wp2_with fail
  refine (H2.out _).mono ?_
  rintro e w1 ⟨rfl, hb⟩
  have HB1 := Lib.hid (HB.out.call hb)
  clear hb HB
  have HB := HB1
  clear HB1
  go_wp2_with fail
  refine (H3.out _).mono ?_
  rintro e w1 ⟨rfl, hb⟩
  have HB1 := Lib.hid (HB.out.call hb)
  clear hb HB
  have HB := HB1
  clear HB1
  go_wp2_with fail
  refine (H4.out _).mono ?_
  rintro e w1 ⟨rfl, hb⟩
  have HB1 := Lib.hid (HB.out.call hb)
  clear hb HB
  have HB := HB1
  clear HB1
  go_wp2_with fail
  refine (H5.out _).mono ?_
  rintro e w1 ⟨rfl, hb⟩
  have HB1 := Lib.hid (HB.out.call hb)
  clear hb HB
  have HB := HB1
  clear HB1
  go_wp2_with fail
  refine (H6.out _).mono ?_
  rintro e w1 ⟨rfl, hb⟩
  have HB1 := Lib.hid (HB.out.call hb)
  clear hb HB
  have HB := HB1
  clear HB1
  have k1 := HB.out.bk _ (.head _)
  have hbel := HB.out.bel
  have c0 := k1.cell 0
  have c1 := k1.cell 1
  have z0 := k1.frozen 0
  have z1 := k1.frozen 1
  clear k1 HB
  go_wp2
  refine bodyPost_ret (v := .tuple #[.agg #[.int .i64 0, .int .i64 0], .int .i64 1]) ?_ rfl ⟨rfl, (hbel.setCell (by simp) _).setCell (by simp) _⟩
  simp [results, Tryz.results31, go_sem, c0, c1]

set_option maxRecDepth 100000 in
theorem pw_nought_p {w : World} {s r u t : ByteArray} {b : Bool} {n : Nat} {m : Int}
    (hs : (s.toList == [45, 48]) = false)
    (K1 : ∀ W : World, Calls Tryz.prog 48 #[.string s, .string ⟨#[45]⟩] W fun e w' => e = .returned (.tuple #[.string r, .bool b]) ∧ w' = W)
    (K2 : ∀ W : World, Calls Tryz.prog 49 #[.string r, .string ⟨#[46]⟩] W fun e w' => e = .returned (.tuple #[.string u, .string t, .bool true]) ∧ Below W.heap.size W w')
    (K3 : ∀ W : World, Calls Tryz.prog 50 #[.string u] W fun e w' => e = .returned (.bool true) ∧ Below W.heap.size W w')
    (K4 : ∀ W : World, Calls Tryz.prog 51 #[.string t] W fun e w' => e = .returned (.bool true) ∧ Below W.heap.size W w')
    (K5 : ∀ W : World, Calls Tryz.prog 52 #[.string r] W fun e w' => e = .returned (.tuple #[.int .u64 (n : Nat), .bool true]) ∧ Below W.heap.size W w')
    (K6 : ∀ W : World, Calls Tryz.prog 53 #[.agg #[.bool b, .int .u64 0, .int .u64 (n : Nat)]] W fun e w' => e = .returned (.tuple #[.int .i64 m, .bool true]) ∧ Below W.heap.size W w')
    (K7 : ∀ W : World, Calls Tryz.prog 54 #[.string t, .string ⟨#[48]⟩] W fun e w' => e = .returned (.bool true) ∧ w' = W)
    (hbig : t.size ≤ 9)
    : Calls Tryz.prog 31 #[.string s] w fun e w' => e = .returned (.tuple #[.agg #[.int .i64 0, .int .i64 0], .int .i64 1]) ∧ Below w.heap.size w w' := by
  have hbig' : ¬ (9 : Int) < ((t.size : Nat) : Int) := by omega
  clear hbig
  have H1 := Lib.hid K1
  have H2 := Lib.hid K2
  have H3 := Lib.hid K3
  have H4 := Lib.hid K4
  have H5 := Lib.hid K5
  have H6 := Lib.hid K6
  have H7 := Lib.hid K7
  clear K1 K2 K3 K4 K5 K6 K7
  have HB := Lib.hid (sb1 w 23 #[.int .i64 0, .int .i64 0])
  go_enter Tryz.func31, Tryz.ntmps31
  go_wp2_with fail
  refine (H1.out _).mono ?_
  rintro e w1 ⟨rfl, rfl⟩
  go_wp2_with fail
  refine (H2.out _).mono ?_
  rintro e w1 ⟨rfl, hb⟩
  have HB1 := Lib.hid (HB.out.call hb)
  clear hb HB
  have HB := HB1
  clear HB1
  go_wp2_with fail
  refine (H3.out _).mono ?_
  rintro e w1 ⟨rfl, hb⟩
  have HB1 := Lib.hid (HB.out.call hb)
  clear hb HB
  have HB := HB1
  clear HB1
  go_wp2_with fail
  refine (H4.out _).mono ?_
  rintro e w1 ⟨rfl, hb⟩
  have HB1 := Lib.hid (HB.out.call hb)
  clear hb HB
  have HB := HB1
  clear HB1
  go_wp2_with fail
  refine (H5.out _).mono ?_
  rintro e w1 ⟨rfl, hb⟩
  have HB1 := Lib.hid (HB.out.call hb)
  clear hb HB
  have HB := HB1
  clear HB1
  go_wp2_with fail
  refine (H6.out _).mono ?_
  rintro e w1 ⟨rfl, hb⟩
  have HB1 := Lib.hid (HB.out.call hb)
  clear hb HB
  have HB := HB1
  clear HB1
  go_wp2_with fail
  refine (H7.out _).mono ?_
  rintro e w1 ⟨rfl, rfl⟩
  have k1 := HB.out.bk _ (.head _)
  have hbel := HB.out.bel
  have c0 := k1.cell 0
  have c1 := k1.cell 1
  have z0 := k1.frozen 0
  have z1 := k1.frozen 1
  clear k1 HB
  go_wp2
  refine bodyPost_ret (v := .tuple #[.agg #[.int .i64 0, .int .i64 0], .int .i64 1]) ?_ rfl ⟨rfl, (hbel.setCell (by simp) _).setCell (by simp) _⟩
  simp [results, Tryz.results31, go_sem, c0, c1]

set_option maxRecDepth 100000 in
theorem pw_good_p {w : World} {s r u t : ByteArray} {b : Bool} {n : Nat} {m : Int}
    (hs : (s.toList == [45, 48]) = false)
    (K1 : ∀ W : World, Calls Tryz.prog 48 #[.string s, .string ⟨#[45]⟩] W fun e w' => e = .returned (.tuple #[.string r, .bool b]) ∧ w' = W)
    (K2 : ∀ W : World, Calls Tryz.prog 49 #[.string r, .string ⟨#[46]⟩] W fun e w' => e = .returned (.tuple #[.string u, .string t, .bool true]) ∧ Below W.heap.size W w')
    (K3 : ∀ W : World, Calls Tryz.prog 50 #[.string u] W fun e w' => e = .returned (.bool true) ∧ Below W.heap.size W w')
    (K4 : ∀ W : World, Calls Tryz.prog 51 #[.string t] W fun e w' => e = .returned (.bool true) ∧ Below W.heap.size W w')
    (K5 : ∀ W : World, Calls Tryz.prog 52 #[.string r] W fun e w' => e = .returned (.tuple #[.int .u64 (n : Nat), .bool true]) ∧ Below W.heap.size W w')
    (K6 : ∀ W : World, Calls Tryz.prog 53 #[.agg #[.bool b, .int .u64 0, .int .u64 (n : Nat)]] W fun e w' => e = .returned (.tuple #[.int .i64 m, .bool true]) ∧ Below W.heap.size W w')
    (K7 : ∀ W : World, Calls Tryz.prog 54 #[.string t, .string ⟨#[48]⟩] W fun e w' => e = .returned (.bool false) ∧ w' = W)
    (hbig : t.size ≤ 9)
    : Calls Tryz.prog 31 #[.string s] w fun e w' => e = .returned (.tuple #[.agg #[.int .i64 m, .int .i64 (t.size : Nat)], .int .i64 0]) ∧ Below w.heap.size w w' := by
  have hbig' : ¬ (9 : Int) < ((t.size : Nat) : Int) := by omega
  clear hbig
  have H1 := Lib.hid K1
  have H2 := Lib.hid K2
  have H3 := Lib.hid K3
  have H4 := Lib.hid K4
  have H5 := Lib.hid K5
  have H6 := Lib.hid K6
  have H7 := Lib.hid K7
  clear K1 K2 K3 K4 K5 K6 K7
  have HB := Lib.hid (sb1 w 23 #[.int .i64 0, .int .i64 0])
  go_enter Tryz.func31, Tryz.ntmps31
  go_wp2_with fail
  refine (H1.out _).mono ?_
  rintro e w1 ⟨rfl, rfl⟩
  go_wp2_with fail
  refine (H2.out _).mono ?_
  rintro e w1 ⟨rfl, hb⟩
  have HB1 := Lib.hid (HB.out.call hb)
  clear hb HB
  have HB := HB1
  clear HB1
  go_wp2_with fail
  refine (H3.out _).mono ?_
  rintro e w1 ⟨rfl, hb⟩
  have HB1 := Lib.hid (HB.out.call hb)
  clear hb HB
  have HB := HB1
  clear HB1
  go_wp2_with fail
  refine (H4.out _).mono ?_
  rintro e w1 ⟨rfl, hb⟩
  have HB1 := Lib.hid (HB.out.call hb)
  clear hb HB
  have HB := HB1
  clear HB1
  go_wp2_with fail
  refine (H5.out _).mono ?_
  rintro e w1 ⟨rfl, hb⟩
  have HB1 := Lib.hid (HB.out.call hb)
  clear hb HB
  have HB := HB1
  clear HB1
  go_wp2_with fail
  refine (H6.out _).mono ?_
  rintro e w1 ⟨rfl, hb⟩
  have HB1 := Lib.hid (HB.out.call hb)
  clear hb HB
  have HB := HB1
  clear HB1
  go_wp2_with fail
  refine (H7.out _).mono ?_
  rintro e w1 ⟨rfl, rfl⟩
  have k1 := HB.out.bk _ (.head _)
  have hbel := HB.out.bel
  have c0 := k1.cell 0
  have c1 := k1.cell 1
  have z0 := k1.frozen 0
  have z1 := k1.frozen 1
  clear k1 HB
  go_wp2
  refine bodyPost_ret (v := .tuple #[.agg #[.int .i64 m, .int .i64 (t.size : Nat)], .int .i64 0]) ?_ rfl ⟨rfl, (hbel.setCell (by simp) _).setCell (by simp) _⟩
  simp [results, Tryz.results31, go_sem, c0, c1]

end Go.Proofs.YtmbjmgmnicacpaaGreatDoor
namespace Go.Proofs.YtmbjmgmnicacpaaGreatDoor
open Go.RowKit

/-- What a text is as a decimal. -/
def pD (l : List UInt8) : DR := refM l (isNeg l) (pre (isNeg l)).length
/-- l without its minus. -/
def unneg (l : List UInt8) : List UInt8 := if isNeg l then l.drop 1 else l
theorem neg_cut (l : List UInt8) : l = pre (isNeg l) ++ unneg l ∧ (isNeg l = false → (unneg l).head? ≠ some 45) ∧ Lib.hasPrefix l [45] = isNeg l ∧ Lib.trimPrefix l [45] = unneg l := by
  rcases l with _ | ⟨c, l⟩
  · exact ⟨rfl, by simp [unneg, isNeg], rfl, rfl⟩
  · by_cases hc : c = 45
    · subst hc
      exact ⟨rfl, by simp [isNeg], rfl, rfl⟩
    · have h1 : isNeg (c :: l) = false := by simp [isNeg, hc]
      have h2 : Lib.hasPrefix (c :: l) [45] = false := by
        have : ¬ (45 : UInt8) = c := fun h => hc h.symm
        simp [Lib.hasPrefix, List.isPrefixOf, this]
      have h3 : unneg (c :: l) = c :: l := by unfold unneg; rw [h1]; rfl
      refine ⟨by rw [h1, h3]; rfl, fun _ => by rw [h3]; simpa using hc, by rw [h1, h2], ?_⟩
      unfold Lib.trimPrefix
      rw [h2, h3]
      rfl
theorem suf_last (t : List UInt8) : Lib.hasSuffix t [48] = (t.getLast? == some 48) := by
  rcases List.eq_nil_or_concat t with rfl | ⟨q, x, rfl⟩
  · rfl
  · simp only [Lib.hasSuffix, List.isSuffixOf, List.concat_eq_append, List.reverse_append, List.reverse_cons, List.reverse_nil, List.nil_append, List.cons_append, List.isPrefixOf, Bool.and_true, List.getLast?_append, List.getLast?_singleton, Option.some_or]
    by_cases h : x = 48
    · subst h
      rfl
    · rw [show ((48 : UInt8) == x) = false from beq_eq_false_iff_ne.2 fun h' => h h'.symm]
      exact (beq_eq_false_iff_ne.2 fun h' => h (Option.some.inj h')).symm
theorem gv_gq (l : List UInt8) : gv l = gq l := rfl
theorem asc_dig {l : List UInt8} (h : ∀ c ∈ l, dq c = true ∨ c = 46) : Asc ⟨l.toArray⟩ := by
  intro i hi
  have hm : (⟨l.toArray⟩ : ByteArray)[i] ∈ l := List.getElem_mem (l := l) (n := i) (by simpa [ByteArray.size] using hi)
  rcases h _ hm with h | h
  · simp only [dq, Bool.and_eq_true, decide_eq_true_eq] at h
    omega
  · rw [h]
    decide
theorem all_dq {l : List UInt8} (h : digsB l = true) : ∀ c ∈ l, dq c = true := by
  unfold digsB at h
  rw [Bool.and_eq_true] at h
  exact List.all_eq_true.1 h.1
theorem whole_dq {l : List UInt8} (h : wholeB l = true) : digsB l = true := by
  unfold wholeB at h
  rw [Bool.and_eq_true] at h
  exact h.1
theorem bsize (l : List UInt8) : (⟨l.toArray⟩ : ByteArray).size = l.length := by simp [ByteArray.size]
theorem blist (l : List UInt8) : (⟨l.toArray⟩ : ByteArray).toList = l := by rw [ByteArray.toList_eq]
theorem ex_left (w t : List UInt8) : (⟨(w ++ 46 :: t).toArray⟩ : ByteArray).extract 0 w.length = ⟨w.toArray⟩ := by
  apply ByteArray.ext
  simp
theorem ex_right (w t : List UInt8) : (⟨(w ++ 46 :: t).toArray⟩ : ByteArray).extract (w.length + 1) (⟨(w ++ 46 :: t).toArray⟩ : ByteArray).size = ⟨t.toArray⟩ := by
  apply ByteArray.ext
  rw [bsize, ByteArray.data_extract]
  apply Array.toList_inj.1
  rw [Array.toList_extract, List.length_append, List.length_cons]
  simp only [List.extract_eq_take_drop]
  rw [show w ++ 46 :: t = (w ++ [46]) ++ t by simp, show w.length + 1 = (w ++ [46]).length by simp, List.drop_left, List.take_of_length_le (by simp; omega)]

def ParseTo (s : ByteArray) (w : World) (r : DR) : Prop := Calls Tryz.prog 31 #[.string s] w fun e w' => e = .returned (dv r) ∧ Below w.heap.size w w'

theorem gather_c {l : List UInt8} (h : ∀ c ∈ l, dq c = true ∨ c = 46) (hl : l.length ≤ 100000000000) (W : World) :
    Calls Tryz.prog 52 #[.string ⟨l.toArray⟩] W fun e w' => e = .returned (.tuple #[.int .u64 (gN l : Nat), .bool (gB l)]) ∧ Below W.heap.size W w' :=
  gather_any (w := W) (asc_dig h) (by rw [bsize]; omega)

theorem parse_cases {l r u t : List UInt8} {b p : Bool} {w : World} (hl : l.length ≤ 10000000000) (hr : r.length ≤ 10000000000) (hu : u.length ≤ 10000000000) (ht : t.length ≤ 10000000000)
    (K1 : ∀ W : World, Calls Tryz.prog 48 #[.string ⟨l.toArray⟩, .string ⟨#[45]⟩] W fun e w' => e = .returned (.tuple #[.string ⟨r.toArray⟩, .bool b]) ∧ w' = W)
    (K2 : ∀ W : World, Calls Tryz.prog 49 #[.string ⟨r.toArray⟩, .string ⟨#[46]⟩] W fun e w' => e = .returned (.tuple #[.string ⟨u.toArray⟩, .string ⟨t.toArray⟩, .bool p]) ∧ Below W.heap.size W w')
    (hg : gq r = gq (u ++ t)) (hd : wholeB u = true → (p = true → digsB t = true) → ∀ c ∈ r, dq c = true ∨ c = 46) (hp : p = false → t = []) : ParseTo ⟨l.toArray⟩ w (parseP l b u t p) := by
  unfold ParseTo
  by_cases h0 : l = [45, 48]
  · subst h0
    have : parseP [45, 48] b u t p = ⟨0, 0, 2⟩ := by unfold parseP; rw [if_pos (.inl rfl)]
    rw [this]
    cases p
    · have := pw_neg0_n K1 K2 (w := w)
      exact this
    · have := pw_neg0_p K1 K2 (w := w)
      exact this
  · have hs : ((⟨l.toArray⟩ : ByteArray).toList == [45, 48]) = false := by rw [blist]; simpa using h0
    have K3 : ∀ W : World, Calls Tryz.prog 50 #[.string ⟨u.toArray⟩] W fun e w' => e = .returned (.bool (wholeB u)) ∧ Below W.heap.size W w' := fun W => isWhole_l (by omega)
    have K4 : ∀ W : World, Calls Tryz.prog 51 #[.string ⟨t.toArray⟩] W fun e w' => e = .returned (.bool (digsB t)) ∧ Below W.heap.size W w' := fun W => isDigits_l (by omega)
    by_cases h1 : wholeB u = false
    · have : parseP l b u t p = ⟨0, 0, 2⟩ := by unfold parseP; rw [if_pos (.inr (.inl h1))]
      rw [this]
      rw [h1] at K3
      cases p
      · exact pw_whole_n hs K1 K2 K3
      · exact pw_whole_p hs K1 K2 K3
    · have h1' : wholeB u = true := by simpa using h1
      rw [h1'] at K3
      by_cases h2 : p = true ∧ digsB t = false
      · have : parseP l b u t p = ⟨0, 0, 2⟩ := by unfold parseP; rw [if_pos (.inr (.inr h2))]
        rw [this]
        obtain ⟨rfl, h2⟩ := h2
        rw [h2] at K4
        exact pw_digits hs K1 K2 K3 K4
      · have hdt : p = true → digsB t = true := fun hp => by
          cases h : digsB t
          · exact absurd ⟨hp, h⟩ h2
          · rfl
        have hall := hd h1' hdt
        have e0 : parseP l b u t p = numE b (gq r) t.length (t.getLast? == some 48) := by
          unfold parseP
          rw [if_neg (by rintro (h | h | h); exact h0 h; exact h1 h; exact h2 h), hg]
        rw [e0]
        have K5 := gather_c hall (by omega)
        by_cases h3 : gv r < 18446744073709551616
        · obtain ⟨e1, e2⟩ := gNB_yes h3
          rw [e1, e2] at K5
          rw [gv_gq] at h3 K5
          generalize gq r = n at *
          have K6 : ∀ W : World, Calls Tryz.prog 53 #[.agg #[.bool b, .int .u64 0, .int .u64 (n : Nat)]] W fun e w' => e = .returned (.tuple #[.int .i64 (nrv b n), .bool (nrw b n)]) ∧ Below W.heap.size W w' := fun W => by
            have := narrow_any (w := W) (b := b) (n := n) (by omega)
            rw [wd_small h3] at this
            exact this
          unfold numE
          by_cases h4 : n ≤ most b
          · have e3 : nrw b n = true := decide_eq_true h4
            have e4 : nrv b n = sgn b n := if_pos h4
            rw [e3, e4] at K6
            rw [if_pos h4]
            by_cases h5 : 9 < t.length
            · rw [if_pos (.inl h5)]
              cases p
              · exact absurd (hp rfl) (by rintro rfl; simp at h5)
              · have hdt' := hdt rfl
                rw [hdt'] at K4
                exact pw_long_p hs K1 K2 K3 K4 K5 K6 (by rw [bsize]; exact h5)
            · have K7 : ∀ W : World, Calls Tryz.prog 54 #[.string ⟨t.toArray⟩, .string ⟨#[48]⟩] W fun e w' => e = .returned (.bool (t.getLast? == some 48)) ∧ w' = W := fun W => hs_of (by rw [bsize]; omega) (suf_last t)
              by_cases h6 : (t.getLast? == some 48) = true
              · rw [if_pos (.inr h6)]
                rw [h6] at K7
                cases p
                · exact pw_nought_n hs K1 K2 K3 K5 K6 K7 (by rw [bsize]; omega)
                · have hdt' := hdt rfl
                  rw [hdt'] at K4
                  exact pw_nought_p hs K1 K2 K3 K4 K5 K6 K7 (by rw [bsize]; omega)
              · have h6' : (t.getLast? == some 48) = false := by simpa using h6
                rw [if_neg (by rintro (h | h); exact h5 h; exact h6 h)]
                rw [h6'] at K7
                unfold dv
                cases p
                · have := pw_good_n (w := w) hs K1 K2 K3 K5 K6 K7 (by rw [bsize]; omega)
                  rw [bsize] at this
                  exact this
                · have hdt' := hdt rfl
                  rw [hdt'] at K4
                  have := pw_good_p (w := w) hs K1 K2 K3 K4 K5 K6 K7 (by rw [bsize]; omega)
                  rw [bsize] at this
                  exact this
          · have e3 : nrw b n = false := decide_eq_false h4
            rw [e3] at K6
            rw [if_neg h4]
            cases p
            · exact pw_wide_n hs K1 K2 K3 K5 K6
            · have hdt' := hdt rfl
              rw [hdt'] at K4
              exact pw_wide_p hs K1 K2 K3 K4 K5 K6
        · obtain ⟨e1, e2⟩ := gNB_no h3
          rw [e1, e2] at K5
          rw [gv_gq] at h3
          have h4 : ¬ gq r ≤ most b := by unfold most; split <;> omega
          unfold numE
          rw [if_neg h4]
          cases p
          · exact pw_great_n hs K1 K2 K3 K5
          · have hdt' := hdt rfl
            rw [hdt'] at K4
            exact pw_great_p hs K1 K2 K3 K4 K5

theorem parse_l {w : World} (l : List UInt8) (hl : l.length ≤ 100000000) : ParseTo ⟨l.toArray⟩ w (pD l) := by
  obtain ⟨h1, h2, h3, h4⟩ := neg_cut l
  have hlen : (unneg l).length ≤ l.length := by unfold unneg; split <;> simp
  have K1 : ∀ W : World, Calls Tryz.prog 48 #[.string ⟨l.toArray⟩, .string ⟨#[45]⟩] W fun e w' => e = .returned (.tuple #[.string ⟨(unneg l).toArray⟩, .bool (isNeg l)]) ∧ w' = W := fun W => cp_of h4 h3
  rcases point_cases (unneg l) with ⟨hno, hi⟩ | ⟨u, t, hr, hno, hi⟩
  · have : pD l = parseP l (isNeg l) (unneg l) [] false := ref_none h1 h2 hno
    rw [this]
    have K2 : ∀ W : World, Calls Tryz.prog 49 #[.string ⟨(unneg l).toArray⟩, .string ⟨#[46]⟩] W fun e w' => e = .returned (.tuple #[.string ⟨(unneg l).toArray⟩, .string ⟨([] : List UInt8).toArray⟩, .bool false]) ∧ Below W.heap.size W w' := fun W => cut_any (fun W => cut0_no hi) rfl
    exact parse_cases (by omega) (by omega) (by omega) (by simp) K1 K2 (by rw [List.append_nil]) (fun hw _ c hc => .inl (all_dq (whole_dq hw) c hc)) (fun _ => rfl)
  · have : pD l = parseP l (isNeg l) u t true := ref_point (by rw [hr] at h1; exact h1) hno
    rw [this]
    have hlt : u.length + 1 + t.length ≤ 100000000 := by rw [hr] at hlen; simp at hlen; omega
    rw [hr] at K1
    have K2 : ∀ W : World, Calls Tryz.prog 49 #[.string ⟨(u ++ 46 :: t).toArray⟩, .string ⟨#[46]⟩] W fun e w' => e = .returned (.tuple #[.string ⟨u.toArray⟩, .string ⟨t.toArray⟩, .bool true]) ∧ Below W.heap.size W w' := fun W => by
      have := fun W => cut0_yes (w := W) (s := ⟨(u ++ 46 :: t).toArray⟩) (i := u.length) (by rw [hr] at hi; exact hi) (by rw [bsize, List.length_append, List.length_cons]; omega) (by rw [bsize, List.length_append, List.length_cons]; omega)
      rw [ex_left, ex_right] at this
      exact cut_any this rfl
    refine parse_cases (by omega) (by simp; omega) (by omega) (by omega) K1 K2 (gq_point u t) (fun hw hp c hc => ?_) (fun h => by cases h)
    rcases List.mem_append.1 hc with h | h
    · exact .inl (all_dq (whole_dq hw) c h)
    · rcases List.mem_cons.1 h with h | h
      · exact .inr h
      · exact .inl (all_dq (hp rfl) c h)
end Go.Proofs.YtmbjmgmnicacpaaGreatDoor
