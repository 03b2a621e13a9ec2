/- A division of 128 bits by 64, plainly: what is shifted, halved, joined on the way. No program; no condition. -/
import Derived.Test.YtmbjmgmnicacpaaDoorKnuth
import Derived.Lib.BitFns
import Derived.Laws.BitsAllLaws
namespace Go.Proofs.YtmbjmgmnicacpaaDoor
open Go

theorem bitLenAux_spec : ∀ (f x : Nat), x < 2 ^ f → 0 < x → ∃ k, Lib.bitLenAux f x = k + 1 ∧ 2 ^ k ≤ x ∧ x < 2 ^ (k + 1) ∧ k + 1 ≤ f
  | 0, x, h, h0 => by simp at h; omega
  | f + 1, x, h, h0 => by
    rw [Lib.bitLenAux, if_neg (by omega)]
    rw [Nat.pow_succ] at h
    by_cases h1 : x / 2 = 0
    · refine ⟨0, ?_, by simp; omega, by simp; omega, by omega⟩
      rw [h1]
      cases f <;> simp [Lib.bitLenAux]
    · obtain ⟨k, e, h2, h3, h4⟩ := bitLenAux_spec f (x / 2) (by omega) (by omega)
      refine ⟨k + 1, by rw [e]; omega, by rw [Nat.pow_succ]; omega, by rw [Nat.pow_succ]; omega, by omega⟩

theorem or_shift (a b i : Nat) (ha : a < 2 ^ i) : b * 2 ^ i ||| a = b * 2 ^ i + a := by
  have h := Nat.shiftLeft_add_eq_or_of_lt (i := i) (b := a) ha b
  rw [Nat.shiftLeft_eq] at h
  exact h.symm
theorem or_u64 (a b : Nat) (ha : a < 18446744073709551616) (hb : b < 18446744073709551616) (h : a ||| b < 18446744073709551616) : bits .or .u64 (a : Int) (b : Int) = ((a ||| b : Nat) : Int) := by
  show IntKind.u64.wrap ((BitVec.ofInt 64 (a : Int) ||| BitVec.ofInt 64 (b : Int)).toNat : Int) = _
  rw [BitVec.toNat_or, BitVec.ofInt_natCast, BitVec.ofInt_natCast, BitVec.toNat_ofNat, BitVec.toNat_ofNat, Nat.mod_eq_of_lt (by omega), Nat.mod_eq_of_lt (by omega)]
  exact IntWalk.u64_in _ (by omega)
theorem and_low (a : Nat) (ha : a < 18446744073709551616) : bits .and .u64 (a : Int) 4294967295 = ((a % 4294967296 : Nat) : Int) := by
  have h := u64_and_nat a 4294967295 ha (by decide)
  rw [show (((4294967295 : Nat)) : Int) = 4294967295 from rfl] at h
  rw [h, show (4294967295 : Nat) = 2 ^ 32 - 1 from rfl, Nat.and_two_pow_sub_one_eq_mod]
theorem pow_int (s : Nat) : ((2 ^ s : Nat) : Int) = 2 ^ s := by simp

/-- All that is reckoned ahead of the first guess. -/
theorem dv_setup {h l y : Nat} (hl : l < 18446744073709551616) (hy : y < 18446744073709551616) (hhy : h < y) :
    ∃ s Y y1 y0 a c u e d1 d0 : Nat, s ≤ 63 ∧ 64 - (Lib.bitLen y : Int) = s ∧ IntKind.u64.wrap ((y : Int) * 2 ^ s) = (Y : Int) ∧ (Y : Int) / 4294967296 = (y1 : Int) ∧ bits .and .u64 (Y : Int) 4294967295 = (y0 : Int) ∧
      IntKind.u64.wrap ((h : Int) * 2 ^ s) = (a : Int) ∧ (l : Int) / 2 ^ (64 - s) = (c : Int) ∧ bits .or .u64 (a : Int) (c : Int) = (u : Int) ∧ IntKind.u64.wrap ((l : Int) * 2 ^ s) = (e : Int) ∧ (e : Int) / 4294967296 = (d1 : Int) ∧ bits .and .u64 (e : Int) 4294967295 = (d0 : Int) ∧
      Kn y1 y0 u d1 ∧ d0 < 4294967296 ∧ Y = y1 * 4294967296 + y0 ∧ Y = y * 2 ^ s ∧ (u * 4294967296 + d1) * 4294967296 + d0 = (h * 18446744073709551616 + l) * 2 ^ s := by
  obtain ⟨k, hk, h1, h2, h3⟩ := bitLenAux_spec 64 y hy (by omega)
  have hP : 0 < 2 ^ (63 - k) := Nat.pow_pos (by omega)
  have hQ : 0 < 2 ^ (k + 1) := Nat.pow_pos (by omega)
  have hPQ : 2 ^ (63 - k) * 2 ^ (k + 1) = 18446744073709551616 := by rw [← Nat.pow_add, show 63 - k + (k + 1) = 64 by omega]
  have hPk : 2 ^ (63 - k) * 2 ^ k = 9223372036854775808 := by rw [← Nat.pow_add, show 63 - k + k = 63 by omega]
  have hs64 : 64 - (63 - k) = k + 1 := by omega
  have hY1 : y * 2 ^ (63 - k) < 18446744073709551616 := by rw [← hPQ, Nat.mul_comm]; exact Nat.mul_lt_mul_of_pos_left h2 hP
  have hY2 : 9223372036854775808 ≤ y * 2 ^ (63 - k) := by rw [← hPk, Nat.mul_comm]; exact Nat.mul_le_mul_right _ h1
  have hc : l / 2 ^ (k + 1) < 2 ^ (63 - k) := (Nat.div_lt_iff_lt_mul hQ).2 (by rw [hPQ]; exact hl)
  have hh1 : (h + 1) * 2 ^ (63 - k) ≤ y * 2 ^ (63 - k) := Nat.mul_le_mul_right _ hhy
  rw [Nat.add_mul, Nat.one_mul] at hh1
  have hdm := Nat.div_add_mod l (2 ^ (k + 1))
  have hml := Nat.mod_lt l hQ
  have hmP : l % 2 ^ (k + 1) * 2 ^ (63 - k) < 18446744073709551616 := by
    rw [← hPQ, Nat.mul_comm (2 ^ (63 - k))]; exact Nat.mul_lt_mul_of_pos_right hml hP
  have hlP : l * 2 ^ (63 - k) = l / 2 ^ (k + 1) * 18446744073709551616 + l % 2 ^ (k + 1) * 2 ^ (63 - k) := by
    conv => lhs; rw [← hdm]
    rw [Nat.add_mul, ← hPQ, Nat.mul_comm (2 ^ (k + 1)), Nat.mul_assoc, Nat.mul_comm (2 ^ (k + 1))]
  have heq : (l : Int) * 2 ^ (63 - k) = ((l * 2 ^ (63 - k) : Nat) : Int) := by rw [Int.natCast_mul, pow_int]
  refine ⟨63 - k, y * 2 ^ (63 - k), y * 2 ^ (63 - k) / 4294967296, y * 2 ^ (63 - k) % 4294967296, h * 2 ^ (63 - k), l / 2 ^ (k + 1), h * 2 ^ (63 - k) + l / 2 ^ (k + 1), l % 2 ^ (k + 1) * 2 ^ (63 - k),
    l % 2 ^ (k + 1) * 2 ^ (63 - k) / 4294967296, l % 2 ^ (k + 1) * 2 ^ (63 - k) % 4294967296, by omega, by unfold Lib.bitLen; rw [hk]; omega, ?_, rfl, ?_, ?_, ?_, ?_, ?_, rfl, ?_, ⟨by omega, by omega, by omega, by omega, by omega⟩, by omega, by omega, rfl, ?_⟩
  · rw [← pow_int, ← Int.natCast_mul]; exact IntWalk.u64_in _ (by omega)
  · exact and_low _ hY1
  · rw [← pow_int, ← Int.natCast_mul]; exact IntWalk.u64_in _ (by omega)
  · rw [hs64, ← pow_int]; rfl
  · rw [or_u64 _ _ (by omega) (by omega) (by rw [or_shift _ _ _ hc]; omega), or_shift _ _ _ hc]
  · rw [heq, hlP, IntKind.wrap_u64]; omega
  · exact and_low _ hmP
  · have e1 : (h * 18446744073709551616 + l) * 2 ^ (63 - k) = h * 2 ^ (63 - k) * 18446744073709551616 + l * 2 ^ (63 - k) := by rw [Nat.add_mul, Nat.mul_right_comm]
    rw [e1, hlP]
    omega
end Go.Proofs.YtmbjmgmnicacpaaDoor
