/- ref.letters, and the reference's Letters, Decimal; the law's letters, by their contracts. Condition: the column is one; the number is not below 0. -/
import Derived.Test.YtgjijjdpkmdcgaaDoorGd
import Derived.Test.YtgjijjdpkmdcgaaDoorWd
import Derived.Laws.Runes
namespace Go.Proofs.YtgjijjdpkmdcgaaDoor
open Go.RowKit

def sL (l : List UInt8) : Value := .string ⟨l.toArray⟩
theorem lets_step : ∀ l : Fin 257, 0 < l.val → lets l.val = lets ((l.val - 1) / 26) ++ [UInt8.ofNat (65 + (l.val - 1) % 26)] := by decide +kernel
theorem bytes_app (l m : List UInt8) : (⟨l.toArray⟩ : ByteArray) ++ (⟨m.toArray⟩ : ByteArray) = ⟨(l ++ m).toArray⟩ := by
  apply ByteArray.ext
  simp
theorem enc_data : ∀ m : Fin 26, (Utf8.encode (65 + ((m.val : Nat) : Int))).data = #[UInt8.ofNat (65 + m.val)] := by decide +kernel
theorem enc_let {m : Nat} (h : m < 26) : Utf8.encode (65 + (m : Int)) = ⟨[UInt8.ofNat (65 + m)].toArray⟩ := ByteArray.ext (enc_data ⟨m, h⟩)
theorem colL_len (c : Nat) : (colL c).length ≤ 2 := by unfold colL; split <;> simp

set_option maxHeartbeats 2000000 in
theorem letters_any {w : World} (c : Nat) (hc : c < 256) :
    Calls Tryd.prog 40 #[.int .i64 c] w fun e w' => e = .returned (sL (colL c)) ∧ w' = w := by
  have HC := Lib.hid (show lets (c + 1) = colL c by unfold lets; simp)
  have HL := Lib.hid (show (lets (c + 1)).length ≤ 2 by rw [HC.out]; exact colL_len c)
  rw [← HC.out]
  obtain ⟨L, hL⟩ : ∃ L, lets (c + 1) = L := ⟨_, rfl⟩
  have H0 := Lib.hid hL
  rw [hL] at HL ⊢
  clear HC hL
  go_enter Tryd.func40, Tryd.ntmps40
  go_wp2
  go_loop [3, 4] (fun s l => ∃ (n : Nat) (t : List UInt8), s = .string ⟨t.toArray⟩ ∧ l = .int .i64 n ∧ n ≤ 256 ∧ Hid (lets n ++ t = L)) (fun _ l => (Go.RowKit.intOf l).toNat)
  case atStart => exact ⟨c + 1, [], rfl, by go_num, by omega, Lib.hid (by rw [H0.out, List.append_nil])⟩
  case round =>
    obtain ⟨n, t, rfl, rfl, hn, HT⟩ := hrel
    by_cases h0 : 0 < n
    · have h0' : (0 : Int) < (n : Int) := by omega
      have ht : t.length ≤ 2 := by have := congrArg List.length HT.out; rw [List.length_append] at this; have := HL.out; omega
      have he : Utf8.encode (65 + ((n : Int) - 1) % 26) = ⟨[UInt8.ofNat (65 + (n - 1) % 26)].toArray⟩ := by
        rw [show ((n : Int) - 1) % 26 = (((n - 1) % 26 : Nat) : Int) by omega]
        exact enc_let (by omega)
      have hsz : ¬ 9223372036854775807 < (Utf8.encode (65 + ((n : Int) - 1) % 26)).size + t.length := by rw [he]; show ¬ 9223372036854775807 < 1 + t.length; omega
      have HE := Lib.hid he
      clear he
      go_wp2
      go_round
      case rel => exact ⟨(n - 1) / 26, UInt8.ofNat (65 + (n - 1) % 26) :: t, by rw [HE.out, bytes_app]; rfl, by rw [show (((n - 1) / 26 : Nat) : Int) = ((n : Int) - 1) / 26 by omega], by omega, Lib.hid (by
        rw [← HT.out, lets_step ⟨n, by omega⟩ h0]
        simp)⟩
      case measure => simp [Go.RowKit.intOf]; omega
    · have h0' : ¬ (0 : Int) < (n : Int) := by omega
      have hn0 : n = 0 := by omega
      have hT := HT.out
      rw [hn0] at hT
      have HF := Lib.hid (show t = L from hT)
      clear hT hn0
      go_wp2
      go_ret
      exact ⟨by rw [← HF.out]; rfl, rfl⟩
end Go.Proofs.YtgjijjdpkmdcgaaDoor
