/- dec's digits: isDigit, isDigits, isWhole by their contracts. Condition: a text of ASCII bytes. -/
import Derived.Test.YtmbjmgmnicacpaaDoorW1
import Derived.Test.YtmbjmgmnicacpaaDoorShelf
import Derived.Laws.RangeString
namespace Go.Proofs.YtmbjmgmnicacpaaDoor
open Go.RowKit

def dgB (c : UInt8) : Bool := 48 ≤ c.toNat && c.toNat ≤ 57

theorem isDigit_any {w : World} {c : UInt8} :
    Calls Tryd.prog 61 #[.int .i32 (c.toNat : Nat)] w fun e w' => e = .returned (.bool (dgB c)) ∧ w' = w := by
  have hc := c.toNat_lt
  by_cases h0 : 48 ≤ c.toNat
  · by_cases h1 : c.toNat ≤ 57
    · have HV := Lib.hid (show dgB c = true by simp [dgB, h0, h1])
      have h0' : (48 : Int) ≤ ((c.toNat : Nat) : Int) := by omega
      have h1' : ((c.toNat : Nat) : Int) ≤ 57 := by omega
      generalize c.toNat = k at *
      go_enter Tryd.func61, Tryd.ntmps61
      go_wp2
      go_ret
      exact ⟨by rw [HV.out]; rfl, rfl⟩
    · have HV := Lib.hid (show dgB c = false by simp [dgB]; omega)
      have h0' : (48 : Int) ≤ ((c.toNat : Nat) : Int) := by omega
      have h1' : decide (((c.toNat : Nat) : Int) ≤ 57) = false := decide_eq_false (by omega)
      generalize c.toNat = k at *
      clear h1
      go_enter Tryd.func61, Tryd.ntmps61
      go_wp2
      go_ret
      exact ⟨by rw [HV.out]; rfl, rfl⟩
  · have HV := Lib.hid (show dgB c = false by simp [dgB]; omega)
    have h0' : decide ((48 : Int) ≤ ((c.toNat : Nat) : Int)) = false := decide_eq_false (by omega)
    generalize c.toNat = k at *
    clear h0
    go_enter Tryd.func61, Tryd.ntmps61
    go_wp2
    go_ret
    exact ⟨by rw [HV.out]; rfl, rfl⟩

/-- A text of ASCII bytes. -/
def Asc (s : ByteArray) : Prop := ∀ (i : Nat) (h : i < s.size), (s[i]'h).toNat < 128

/-- Digits alone, and one at least. -/
def dgsB (s : ByteArray) : Bool := s.data.toList.all dgB && !s.data.toList.isEmpty

theorem take_snocB (s : ByteArray) (k : Nat) (h : k < s.size) : s.data.toList.take (k + 1) = s.data.toList.take k ++ [s[k]] := by
  rw [List.take_succ_eq_append_getElem (by simpa using h)]; rfl
theorem dgs_stop (s : ByteArray) (k : Nat) (h : k < s.size) (hd : dgB s[k] = false) : dgsB s = false := by
  unfold dgsB
  rw [Bool.and_eq_false_iff]
  left
  rw [List.all_eq_false]
  exact ⟨s[k], List.getElem_mem (l := s.data.toList) (n := k) (by simpa using h), by simp [hd]⟩
theorem dgs_all (s : ByteArray) (k : Nat) (h : ¬ k < s.size) (hd : (s.data.toList.take k).all dgB = true) : dgsB s = !s.data.toList.isEmpty := by
  unfold dgsB
  rw [List.take_of_length_le (by simp; omega)] at hd
  rw [hd, Bool.true_and]

set_option maxRecDepth 100000 in
theorem isDigits_any {w : World} {s : ByteArray} (ha : Asc s) (_hs : s.size ≤ 1000000000000) :
    Calls Tryd.prog 50 #[.string s] w fun e w' => e = .returned (.bool (dgsB s)) ∧ Below w.heap.size w w' := by
  go_enter Tryd.func50, Tryd.ntmps50
  go_wp2
  go_loopw [7] (fun _ wr => ∃ k : Nat, k ≤ s.size ∧ wr = w.iter s k ∧ (s.data.toList.take k).all dgB = true) (fun _ wr => s.size - wr.iterPos w.heap.size)
  case atStart => exact ⟨0, Nat.zero_le _, rfl, by simp⟩
  case round =>
    obtain ⟨k, hk, rfl, hall⟩ := hrel
    by_cases hkn : k < s.size
    · have hnx := fun ty => run_next_ascii (P := Tryd.prog) w s k ty hkn (ha k hkn)
      have HT := Lib.hid (take_snocB s k hkn)
      have HA := Lib.hid hall
      cases hd : dgB s[k]
      · have HD := Lib.hid hd
        have HV := Lib.hid (dgs_stop s k hkn hd)
        clear hd hall
        go_wp2_with fail
        refine (isDigit_any (c := s[k])).mono ?_
        rintro e w1 ⟨rfl, rfl⟩
        rw [HD.out]
        clear hnx
        go_wp2_with fail
        go_ret
        exact ⟨by rw [HV.out]; rfl, bel0 _ _⟩
      · have HD := Lib.hid hd
        clear hd hall
        go_wp2_with fail
        refine (isDigit_any (c := s[k])).mono ?_
        rintro e w1 ⟨rfl, rfl⟩
        rw [HD.out]
        clear hnx
        go_wp2_with fail
        go_roundw
        case rel => exact ⟨k + 1, by omega, rfl, by rw [HT.out]; simp [HA.out, HD.out]⟩
        case measure =>
          simp
          omega
    · have hnx := fun ty => run_next_end (P := Tryd.prog) w s k ty hkn
      have HV := Lib.hid (dgs_all s k hkn hall)
      clear hall
      go_wp2_with fail
      go_ret
      exact ⟨by rw [HV.out, ← ByteArray.toList_eq]; rfl, bel0 _ _⟩

/-- Digits without a nought ahead that is not needed. -/
def whB (s : ByteArray) : Bool := dgsB s && (s.data.toList == [48] || !(s.data.toList.head? == some 48))
end Go.Proofs.YtmbjmgmnicacpaaDoor
