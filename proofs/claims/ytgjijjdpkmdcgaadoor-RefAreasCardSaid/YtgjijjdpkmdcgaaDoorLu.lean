/- The reference's Letters, Decimal; the law's letters, by their contracts. Condition: the column is one; the number is not below 0, not too great. -/
import Derived.Test.YtgjijjdpkmdcgaaDoorLt
import Derived.Laws.IdiomStrings
namespace Go.Proofs.YtgjijjdpkmdcgaaDoor
open Go.RowKit

theorem conv1 {x : UInt8} {z : Int} (h : z = (x.toNat : Int)) (W : World) {g : Nat} (hg : g = W.heap.size) :
    (convert 76 9 (.slice (some ⟨g, 0, none⟩) 1 1)).run Tryd.prog (W.alloc (.cells #[.int .u8 z] 5)) = .ok (.string ⟨[x].toArray⟩) (W.alloc (.cells #[.int .u8 z] 5)) := by
  subst h hg
  refine run_convert_bytes_back (P := Tryd.prog) (W.alloc (.cells #[.int .u8 (x.toNat : Int)] 5)) 76 9 5 ⟨W.heap.size, 0, none⟩ 1 [x] Tryd.underlying76 Tryd.underlying5 Tryd.underlying9 fun j hj => ?_
  have hj0 : j = 0 := by simpa using hj
  subst hj0
  rw [show (⟨W.heap.size, 0, none⟩ : Addr).add 0 = ⟨W.heap.size, 0, none⟩ from rfl, cell_of_row _ W.heap.size 0 #[.int .u8 (x.toNat : Int)] 5 (0, 0) (heap_alloc_new W _)]
  rfl

set_option maxHeartbeats 2000000 in
theorem bLetters_any {w : World} (c : Nat) (hc : c < 256) :
    Calls Tryd.prog 42 #[.int .i64 c] w fun e w' => e = .returned (sL (colL c)) ∧ Below w.heap.size w w' := by
  have hv := conv1 (x := UInt8.ofNat (65 + c % 26)) (z := 65 + (c : Int) % 26) (by rw [let_toNat (by omega)]; omega) w rfl
  by_cases h : c < 26
  · have h' : ¬ (26 : Int) ≤ (c : Int) := by omega
    have HC := Lib.hid (show colL c = [UInt8.ofNat (65 + c % 26)] by unfold colL; rw [if_pos h, Nat.mod_eq_of_lt h])
    rw [HC.out]
    clear HC
    go_enter Tryd.func42, Tryd.ntmps42
    go_wp2
    go_ret
    exact ⟨rfl, bel0 _ _⟩
  · have h' : (26 : Int) ≤ (c : Int) := by omega
    have hv2 := conv1 (x := UInt8.ofNat (65 + (c / 26 - 1))) (z := 65 + (c : Int) / 26 - 1) (by rw [let_toNat (by omega)]; omega) (w.alloc (.cells #[.int .u8 (65 + (c : Int) % 26)] 5)) (g := w.heap.size + 1) (by simp)
    have HC := Lib.hid (show colL c = [UInt8.ofNat (65 + (c / 26 - 1))] ++ [UInt8.ofNat (65 + c % 26)] by unfold colL; rw [if_neg h]; rfl)
    rw [HC.out]
    clear HC
    generalize UInt8.ofNat (65 + (c / 26 - 1)) = X at *
    generalize UInt8.ofNat (65 + c % 26) = Y at *
    go_enter Tryd.func42, Tryd.ntmps42
    go_wp2
    go_ret
    exact ⟨congrArg (fun b => Ending.returned (Value.string b)) (bytes_app [X] [Y]), bel1 _ _ _⟩

def preD (m : Nat) : List UInt8 := if m < 10 then [] else Lib.decDigits (m / 10)
theorem preD_last (m : Nat) : preD m ++ [UInt8.ofNat (48 + m % 10)] = Lib.decDigits m := by
  unfold preD
  by_cases h : m < 10
  · rw [if_pos h, Lib.decDigits_one h, Nat.mod_eq_of_lt h]; rfl
  · rw [if_neg h, Lib.decDigits.eq_def m, dif_neg h]
theorem preD_step {m : Nat} (h : ¬ m < 10) : preD m = preD (m / 10) ++ [UInt8.ofNat (48 + m / 10 % 10)] := by
  rw [preD_last]; unfold preD; rw [if_neg h]

set_option maxHeartbeats 2000000 in
theorem decimal_any {w : World} (n : Nat) (hn : n ≤ 65536) :
    Calls Tryd.prog 43 #[.int .i64 n] w fun e w' => e = .returned (sL (Lib.decDigits n)) ∧ Below w.heap.size w w' := by
  have hv := conv1 (x := UInt8.ofNat (48 + n % 10)) (z := 48 + (n : Int) % 10) (by rw [dig_toNat (by omega)]; omega) w rfl
  have H0 := Lib.hid (preD_last n)
  generalize Lib.decDigits n = L at *
  obtain ⟨t0, ht0⟩ : ∃ t, [UInt8.ofNat (48 + n % 10)] = t := ⟨_, rfl⟩
  have hl0 : t0.length = 1 := by rw [← ht0]; rfl
  have HL0 := Lib.hid hl0
  rw [ht0] at hv H0
  clear ht0 hl0
  go_enter Tryd.func43, Tryd.ntmps43
  go_wp2
  go_loopw [0, 3] (fun s0 s3 wr => ∃ (m : Nat) (t : List UInt8), s0 = .int .i64 m ∧ s3 = .string ⟨t.toArray⟩ ∧ m ≤ n ∧ t.length + m ≤ 65537 ∧ Hid (preD m ++ t = L) ∧ Below w.heap.size w wr) (fun s0 _ _ => (Go.RowKit.intOf s0).toNat)
  case atStart => exact ⟨n, t0, rfl, rfl, by omega, by have := HL0.out; omega, Lib.hid H0.out, bel0 _ _⟩
  case round =>
    obtain ⟨m, t, rfl, rfl, hm, ht, HT, hbel⟩ := hrel
    have hsz := hbel.size
    clear hv
    by_cases h : m < 10
    · have h' : ¬ (10 : Int) ≤ (m : Int) := by omega
      have hT := HT.out
      unfold preD at hT
      rw [if_pos h] at hT
      have HF := Lib.hid (show t = L from hT)
      clear hT
      go_wp2
      go_ret
      exact ⟨by rw [← HF.out]; rfl, hbel⟩
    · have h' : (10 : Int) ≤ (m : Int) := by omega
      have hv := conv1 (x := UInt8.ofNat (48 + m / 10 % 10)) (z := 48 + (m : Int) / 10 % 10) (by rw [dig_toNat (by omega)]; omega) wr rfl
      have HS := Lib.hid (preD_step h)
      have HX := Lib.hid (show UInt8.ofNat (48 + m / 10 % 10) = UInt8.ofNat (48 + m / 10 % 10) from rfl)
      have hsz2 : ¬ 9223372036854775807 < 1 + t.length := by omega
      generalize UInt8.ofNat (48 + m / 10 % 10) = X at *
      go_wp2
      go_roundw
      case rel => exact ⟨m / 10, X :: t, by rw [show ((m / 10 : Nat) : Int) = (m : Int) / 10 by omega], by rw [bytes_app]; rfl, by omega, by simp; omega, Lib.hid (by
        rw [← HT.out, HS.out]; simp), hbel.alloc hsz _⟩
      case measure => simp [Go.RowKit.intOf]; omega

set_option maxHeartbeats 2000000 in
theorem ahead_any {w : World} (l : List UInt8) (hl : l.length ≤ 100000) :
    Calls Tryd.prog 31 #[.string ⟨l.toArray⟩] w fun e w' => e = .returned (.int .i64 (ahead l : Nat)) ∧ w' = w := by
  obtain ⟨s, hs⟩ : ∃ s : ByteArray, (⟨l.toArray⟩ : ByteArray) = s := ⟨_, rfl⟩
  have hsz : s.size = l.length := by rw [← hs]; rfl
  have hat : ∀ (i : Nat) (h : i < s.size), s[i] = l.getD i 0 := by
    subst hs
    intro i h
    have h2 : i < l.length := h
    rw [List.getD_eq_getElem?_getD, List.getElem?_eq_getElem h2]
    rfl
  have HAT := Lib.hid hat
  have HSZ := Lib.hid hsz
  have hs1 : s.size ≤ 100000 := by omega
  obtain ⟨V, hV⟩ : ∃ V, ahead l = V := ⟨_, rfl⟩
  have H0 := Lib.hid hV
  rw [hs, hV]
  clear hs hsz hat hV hl
  go_enter Tryd.func31, Tryd.ntmps31
  go_wp2
  go_loop [3] (fun i => ∃ n : Nat, i = .int .i64 n ∧ n ≤ s.size ∧ Hid (n + ahead (l.drop n) = V)) (fun i => s.size - (Go.RowKit.intOf i).toNat)
  case atStart => exact ⟨0, rfl, by omega, Lib.hid (by rw [Nat.zero_add, List.drop_zero]; exact H0.out)⟩
  case round =>
    obtain ⟨n, rfl, hn, HN⟩ := hrel
    by_cases h : n < s.size
    · have h' : (n : Int) < (s.size : Int) := by omega
      have hd : l.drop n = l.getD n 0 :: l.drop (n + 1) := by
        have h2 : n < l.length := by rw [← HSZ.out]; exact h
        rw [List.drop_eq_getElem_cons h2, List.getD_eq_getElem?_getD, List.getElem?_eq_getElem h2]
        rfl
      have hx := HAT.out n h
      by_cases h65 : 65 ≤ (s[n]).toNat
      · have h65' : (65 : Int) ≤ ((s[n]).toNat : Int) := by omega
        have HG : Hid (n + 1 + ahead (l.drop (n + 1)) = V) := Lib.hid (by
          have := HN.out
          rw [hd] at this
          unfold ahead at this
          rw [← hx, if_pos h65] at this
          omega)
        clear hd hx HN
        go_wp2
        go_round
        case rel => exact ⟨n + 1, by go_num, by omega, HG⟩
        case measure => simp [Go.RowKit.intOf]; omega
      · have h65' : ¬ (65 : Int) ≤ ((s[n]).toNat : Int) := by omega
        have HG : Hid (n = V) := Lib.hid (by
          have := HN.out
          rw [hd] at this
          unfold ahead at this
          rw [← hx, if_neg h65] at this
          omega)
        clear hd hx HN
        go_wp2
        go_ret
        exact ⟨by rw [← HG.out]; rfl, rfl⟩
    · have h' : ¬ (n : Int) < (s.size : Int) := by omega
      have HG : Hid (n = V) := Lib.hid (by
        have := HN.out
        rw [List.drop_of_length_le (by rw [← HSZ.out]; omega)] at this
        unfold ahead at this
        omega)
      clear HN
      go_wp2
      go_ret
      exact ⟨by rw [← HG.out]; rfl, rfl⟩
end Go.Proofs.YtgjijjdpkmdcgaaDoor
