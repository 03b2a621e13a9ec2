/- dec's isDigits, isWhole of any text, by their contracts. Condition: the text is not too long. -/
import Derived.Test.YtmbjmgmnicacpaaDoorP3
import Derived.Test.YtmbjmgmnicacpaaDoorDecQ
import Derived.Laws.RangeAny
namespace Go.Proofs.YtmbjmgmnicacpaaDoor
open Go.RowKit Go.Lib

theorem isDigit_high {w : World} {r : Int} (h : 128 ≤ r) : Calls Tryd.prog 61 #[.int .i32 r] w fun e w' => e = .returned (.bool false) ∧ w' = w := by
  have h0' : (48 : Int) ≤ r := by omega
  have h1' : decide (r ≤ 57) = false := decide_eq_false (by omega)
  clear h
  go_enter Tryd.func61, Tryd.ntmps61
  go_wp2
  go_ret
  exact ⟨rfl, rfl⟩

set_option maxRecDepth 100000 in
theorem isDigits_all {w : World} {s : ByteArray} (_hs : s.size ≤ 1000000000000) :
    Calls Tryd.prog 50 #[.string s] w fun e w' => e = .returned (.bool (dgsB s)) ∧ Below w.heap.size w w' := by
  go_enter Tryd.func50, Tryd.ntmps50
  go_wp2
  go_loopw [7] (fun _ wr => ∃ k : Nat, k ≤ s.size ∧ wr = w.iter s k ∧ (s.data.toList.take k).all dgB = true) (fun _ wr => s.size - wr.iterPos w.heap.size)
  case atStart => exact ⟨0, Nat.zero_le _, rfl, by simp⟩
  case round =>
    obtain ⟨k, hk, rfl, hall⟩ := hrel
    by_cases hkn : k < s.size
    · by_cases hlo : (s[k]'hkn).toNat < 128
      · have hnx := fun ty => run_next_ascii (P := Tryd.prog) w s k ty hkn hlo
        have HT := Lib.hid (take_snocB s k hkn)
        have HA := Lib.hid hall
        clear hlo
        cases hd : dgB s[k]
        · have HD := Lib.hid hd
          have HV := Lib.hid (dgs_stop s k hkn hd)
          clear hd hall
          go_wp2_with fail
          refine (isDigit_any (c := s[k])).mono ?_
          rintro e w1 ⟨rfl, rfl⟩
          rw [HD.out]
          clear hnx
          go_wp2_with fail
          go_ret
          exact ⟨by rw [HV.out]; rfl, bel0 _ _⟩
        · have HD := Lib.hid hd
          clear hd hall
          go_wp2_with fail
          refine (isDigit_any (c := s[k])).mono ?_
          rintro e w1 ⟨rfl, rfl⟩
          rw [HD.out]
          clear hnx
          go_wp2_with fail
          go_roundw
          case rel => exact ⟨k + 1, by omega, rfl, by rw [HT.out]; simp [HA.out, HD.out]⟩
          case measure =>
            simp
            omega
      · have hnx := fun ty => run_next_any (P := Tryd.prog) w s k ty hkn
        have hhi := (decode_high s k hkn (by omega)).1
        have hd : dgB s[k] = false := by
          unfold dgB
          rw [Bool.and_eq_false_iff]
          right
          exact decide_eq_false (by omega)
        have HV := Lib.hid (dgs_stop s k hkn hd)
        have HI := Lib.hid (fun W : World => isDigit_high (w := W) (r := ((Utf8.decode s k).1 : Int)) (by omega))
        clear hd hall hhi hlo
        generalize (Utf8.decode s k).1 = r at *
        generalize (Utf8.decode s k).2 = q at *
        go_wp2_with fail
        refine (HI.out _).mono ?_
        rintro e w1 ⟨rfl, rfl⟩
        clear hnx
        go_wp2_with fail
        go_ret
        exact ⟨by rw [HV.out]; rfl, bel0 _ _⟩
    · have hnx := fun ty => run_next_end (P := Tryd.prog) w s k ty hkn
      have HV := Lib.hid (dgs_all s k hkn hall)
      clear hall
      go_wp2_with fail
      go_ret
      exact ⟨by rw [HV.out, ← ByteArray.toList_eq]; rfl, bel0 _ _⟩

theorem isDigits_l {w : World} {l : List UInt8} (hs : l.length ≤ 1000000000000) :
    Calls Tryd.prog 50 #[.string ⟨l.toArray⟩] w fun e w' => e = .returned (.bool (digsB l)) ∧ Below w.heap.size w w' :=
  isDigits_all (s := ⟨l.toArray⟩) (by simpa [ByteArray.size] using hs)

set_option maxRecDepth 100000 in
theorem whole_w {w : World} {c : UInt8} {l : List UInt8} (hs : l.length ≤ 100000000000) (h1 : ¬ c :: l = [48]) {b : Bool} (hd : digsB (c :: l) = true) (hb : ((((c.toNat : Nat) : Int) != 48)) = b) :
    Calls Tryd.prog 49 #[.string ⟨(c :: l).toArray⟩] w fun e w' => e = .returned (.bool b) ∧ Below w.heap.size w w' := by
  have HD : Hid (∀ W : World, Calls Tryd.prog 50 #[.string ⟨(c :: l).toArray⟩] W fun e w' => e = .returned (.bool true) ∧ Below W.heap.size W w') := Lib.hid (fun W => by
    have := isDigits_l (w := W) (l := c :: l) (by simp; omega)
    rw [hd] at this
    exact this)
  have h2 : ∀ w : World, (Instr.index 9 (.string ⟨(c :: l).toArray⟩) (.int .i64 0)).run Tryd.prog w = .ok (.int .u8 (c.toNat : Nat)) w := fun w => rfl
  have h3 : (ByteArray.toList ⟨(c :: l).toArray⟩ == [48]) = false := by
    rw [ByteArray.toList_eq]
    simpa using h1
  clear hd h1
  obtain ⟨s, hsq⟩ : ∃ s : ByteArray, (⟨(c :: l).toArray⟩ : ByteArray) = s := ⟨_, rfl⟩
  rw [hsq] at HD h2 h3 ⊢
  clear hsq
  go_enter Tryd.func49, Tryd.ntmps49
  go_wp2_with fail
  refine (HD.out _).mono ?_
  rintro e w1 ⟨rfl, hbl⟩
  go_wp2
  go_ret
  exact ⟨rfl, hbl⟩
theorem whole_n {w : World} {l : List UInt8} (hs : l.length ≤ 100000000000) (hd : digsB l = false) :
    Calls Tryd.prog 49 #[.string ⟨l.toArray⟩] w fun e w' => e = .returned (.bool false) ∧ Below w.heap.size w w' := by
  have HD : Hid (∀ W : World, Calls Tryd.prog 50 #[.string ⟨l.toArray⟩] W fun e w' => e = .returned (.bool false) ∧ Below W.heap.size W w') := Lib.hid (fun W => by
    have := isDigits_l (w := W) (l := l) (by omega)
    rw [hd] at this
    exact this)
  clear hd
  go_enter Tryd.func49, Tryd.ntmps49
  go_wp2_with fail
  refine (HD.out _).mono ?_
  rintro e w1 ⟨rfl, hbl⟩
  go_wp2
  go_ret
  exact ⟨rfl, hbl⟩
theorem whole_0 {w : World} :
    Calls Tryd.prog 49 #[.string ⟨#[48]⟩] w fun e w' => e = .returned (.bool true) ∧ Below w.heap.size w w' := by
  have HD : Hid (∀ W : World, Calls Tryd.prog 50 #[.string ⟨#[48]⟩] W fun e w' => e = .returned (.bool true) ∧ Below W.heap.size W w') := Lib.hid (fun W => isDigits_l (w := W) (l := [48]) (by simp))
  go_enter Tryd.func49, Tryd.ntmps49
  go_wp2_with fail
  refine (HD.out _).mono ?_
  rintro e w1 ⟨rfl, hbl⟩
  go_wp2
  go_ret
  exact ⟨rfl, hbl⟩
theorem isWhole_l {w : World} {l : List UInt8} (hs : l.length ≤ 100000000000) :
    Calls Tryd.prog 49 #[.string ⟨l.toArray⟩] w fun e w' => e = .returned (.bool (wholeB l)) ∧ Below w.heap.size w w' := by
  cases hd : digsB l
  · have : wholeB l = false := by unfold wholeB; rw [hd]; rfl
    rw [this]
    exact whole_n hs hd
  · by_cases h48 : l = [48]
    · subst h48
      exact whole_0
    · rcases l with _ | ⟨c, l⟩
      · cases hd
      · have hw : wholeB (c :: l) = (((c.toNat : Nat) : Int) != 48) := by
          unfold wholeB
          rw [hd, Bool.true_and, show (c :: l == [48]) = false by simpa using h48, Bool.false_or, List.head?_cons]
          by_cases hc : c = 48
          · subst hc; rfl
          · have h1 : ¬ ((c.toNat : Nat) : Int) = 48 := fun h => hc (UInt8.toNat_inj.1 (by show c.toNat = 48; omega))
            rw [show (some c != some (48 : UInt8)) = true from bne_iff_ne.2 fun h => hc (Option.some.inj h), show ((((c.toNat : Nat) : Int) != 48)) = true from bne_iff_ne.2 h1]
        rw [hw]
        exact whole_w (by simp at hs; omega) h48 hd rfl
end Go.Proofs.YtmbjmgmnicacpaaDoor
