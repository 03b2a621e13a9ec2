/- One digit (of 32 bits) of a quotient of 128 bits by 64: what is guessed and put right. No program; no condition. -/
/- A division of 128 bits by 64, plainly: what is shifted, halved, joined on the way. No program; no condition. -/
import Derived.IntWalk
import Derived.Lib.BitFns
import Derived.Laws.BitsAllLaws
namespace Go.Proofs.YtmbjmgmnicacpaaGreatDoor

/-- What one digit's guess stands on: y = y1, y0; the number u, d; u below y. -/
structure Kn (y1 y0 u d : Nat) : Prop where
  y1lo : 2147483648 ≤ y1
  y1hi : y1 < 4294967296
  y0hi : y0 < 4294967296
  uy : u < y1 * 4294967296 + y0
  dhi : d < 4294967296

variable {y1 y0 u d q r : Nat}

/-- The digit. -/
def knq (y1 y0 u d : Nat) : Nat := (u * 4294967296 + d) / (y1 * 4294967296 + y0)

theorem Kn.lt (h : Kn y1 y0 u d) : knq y1 y0 u d < 4294967296 := by
  have h1 := h.uy; have h2 := h.dhi
  unfold knq
  refine (Nat.div_lt_iff_lt_mul (by omega)).2 ?_
  omega

theorem kn_mul (q : Nat) : q * (y1 * 4294967296 + y0) = q * y1 * 4294967296 + q * y0 := by rw [Nat.mul_add, Nat.mul_assoc]

theorem Kn.start (h : Kn y1 y0 u d) : u / y1 ≤ 4294967297 ∧ knq y1 y0 u d ≤ u / y1 := by
  have h1 := h.uy; have h2 := h.dhi; have h3 := h.y1lo; have h4 := h.y0hi; have h5 := h.y1hi
  constructor
  · refine Nat.lt_succ_iff.1 ((Nat.div_lt_iff_lt_mul (by omega)).2 ?_)
    omega
  · refine (Nat.le_div_iff_mul_le (by omega)).2 ?_
    have h6 : knq y1 y0 u d * (y1 * 4294967296 + y0) ≤ u * 4294967296 + d := Nat.div_mul_le_self _ _
    rw [kn_mul] at h6
    generalize knq y1 y0 u d * y1 = P at *
    omega

theorem Kn.dec (h : Kn y1 y0 u d) (e : q * y1 + r = u) (hq : knq y1 y0 u d ≤ q) (hc : 4294967296 ≤ q ∨ 4294967296 * r + d < q * y0) : 1 ≤ q ∧ knq y1 y0 u d ≤ q - 1 ∧ (q - 1) * y1 + (r + y1) = u := by
  have h0 := h.lt
  have h1 : knq y1 y0 u d < q := by
    rcases hc with hc | hc
    · omega
    · have h3 := h.y1lo
      unfold knq
      refine (Nat.div_lt_iff_lt_mul (by omega)).2 ?_
      rw [kn_mul, ← e]
      generalize q * y1 = P at *
      omega
  refine ⟨by omega, by omega, ?_⟩
  obtain ⟨p, rfl⟩ : ∃ p, q = p + 1 := ⟨q - 1, by omega⟩
  rw [Nat.add_sub_cancel, ← e, Nat.add_mul]
  omega

theorem Kn.done (h : Kn y1 y0 u d) (e : q * y1 + r = u) (hq : knq y1 y0 u d ≤ q) (hc : q * y0 ≤ 4294967296 * r + d) : q = knq y1 y0 u d := by
  refine Nat.le_antisymm ?_ hq
  have h3 := h.y1lo
  unfold knq
  refine (Nat.le_div_iff_mul_le (by omega)).2 ?_
  rw [kn_mul, ← e]
  generalize q * y1 = P at *
  omega

theorem Kn.broke (h : Kn y1 y0 u d) (e : q * y1 + r = u) (hq : knq y1 y0 u d ≤ q) (h1 : q ≤ 4294967296) (h2 : 4294967296 ≤ r) : q = knq y1 y0 u d := by
  refine h.done e hq ?_
  have h3 := h.y0hi
  have h4 : q * y0 ≤ 4294967296 * y0 := Nat.mul_le_mul_right _ h1
  omega

/-- What is left behind the digit. -/
def knr (y1 y0 u d : Nat) : Nat := (u * 4294967296 + d) % (y1 * 4294967296 + y0)
theorem Kn.rest (h : Kn y1 y0 u d) : u * 4294967296 + d = knq y1 y0 u d * (y1 * 4294967296 + y0) + knr y1 y0 u d ∧ knr y1 y0 u d < y1 * 4294967296 + y0 := by
  have h3 := h.y1lo
  unfold knq knr
  have h1 := Nat.div_add_mod (u * 4294967296 + d) (y1 * 4294967296 + y0)
  rw [Nat.mul_comm] at h1
  exact ⟨h1.symm, Nat.mod_lt _ (by omega)⟩

/-- Two digits are the quotient. -/
theorem two_digits {u d1 d0 y q1 r1 q0 r0 : Nat} (h1 : u * 4294967296 + d1 = q1 * y + r1) (h2 : r1 * 4294967296 + d0 = q0 * y + r0) (h3 : r0 < y) :
    (u * 4294967296 + d1) * 4294967296 + d0 = (q1 * 4294967296 + q0) * y + r0 ∧ ((u * 4294967296 + d1) * 4294967296 + d0) / y = q1 * 4294967296 + q0 ∧ ((u * 4294967296 + d1) * 4294967296 + d0) % y = r0 := by
  have e : (u * 4294967296 + d1) * 4294967296 + d0 = (q1 * 4294967296 + q0) * y + r0 := by
    rw [h1, Nat.add_mul, Nat.add_mul, Nat.mul_right_comm]
    omega
  refine ⟨e, ?_, ?_⟩
  · rw [e, Nat.mul_comm _ y, Nat.mul_add_div (by omega), Nat.div_eq_of_lt h3, Nat.add_zero]
  · rw [e, Nat.mul_comm _ y, Nat.mul_add_mod, Nat.mod_eq_of_lt h3]

/-- Both times 2 to the s. -/
theorem shift_div (n y s : Nat) : (n * 2 ^ s) / (y * 2 ^ s) = n / y ∧ (n * 2 ^ s) % (y * 2 ^ s) / 2 ^ s = n % y := by
  have h : 0 < 2 ^ s := Nat.pow_pos (by omega)
  exact ⟨Nat.mul_div_mul_right _ _ h, by rw [Nat.mul_mod_mul_right, Nat.mul_div_cancel _ h]⟩
end Go.Proofs.YtmbjmgmnicacpaaGreatDoor
namespace Go.Proofs.YtmbjmgmnicacpaaGreatDoor
open Go

theorem bitLenAux_spec : ∀ (f x : Nat), x < 2 ^ f → 0 < x → ∃ k, Lib.bitLenAux f x = k + 1 ∧ 2 ^ k ≤ x ∧ x < 2 ^ (k + 1) ∧ k + 1 ≤ f
  | 0, x, h, h0 => by simp at h; omega
  | f + 1, x, h, h0 => by
    rw [Lib.bitLenAux, if_neg (by omega)]
    rw [Nat.pow_succ] at h
    by_cases h1 : x / 2 = 0
    · refine ⟨0, ?_, by simp; omega, by simp; omega, by omega⟩
      rw [h1]
      cases f <;> simp [Lib.bitLenAux]
    · obtain ⟨k, e, h2, h3, h4⟩ := bitLenAux_spec f (x / 2) (by omega) (by omega)
      refine ⟨k + 1, by rw [e]; omega, by rw [Nat.pow_succ]; omega, by rw [Nat.pow_succ]; omega, by omega⟩

theorem or_shift (a b i : Nat) (ha : a < 2 ^ i) : b * 2 ^ i ||| a = b * 2 ^ i + a := by
  have h := Nat.shiftLeft_add_eq_or_of_lt (i := i) (b := a) ha b
  rw [Nat.shiftLeft_eq] at h
  exact h.symm
theorem or_u64 (a b : Nat) (ha : a < 18446744073709551616) (hb : b < 18446744073709551616) (h : a ||| b < 18446744073709551616) : bits .or .u64 (a : Int) (b : Int) = ((a ||| b : Nat) : Int) := by
  show IntKind.u64.wrap ((BitVec.ofInt 64 (a : Int) ||| BitVec.ofInt 64 (b : Int)).toNat : Int) = _
  rw [BitVec.toNat_or, BitVec.ofInt_natCast, BitVec.ofInt_natCast, BitVec.toNat_ofNat, BitVec.toNat_ofNat, Nat.mod_eq_of_lt (by omega), Nat.mod_eq_of_lt (by omega)]
  exact IntWalk.u64_in _ (by omega)
theorem and_low (a : Nat) (ha : a < 18446744073709551616) : bits .and .u64 (a : Int) 4294967295 = ((a % 4294967296 : Nat) : Int) := by
  have h := u64_and_nat a 4294967295 ha (by decide)
  rw [show (((4294967295 : Nat)) : Int) = 4294967295 from rfl] at h
  rw [h, show (4294967295 : Nat) = 2 ^ 32 - 1 from rfl, Nat.and_two_pow_sub_one_eq_mod]
theorem pow_int (s : Nat) : ((2 ^ s : Nat) : Int) = 2 ^ s := by simp

/-- All that is reckoned ahead of the first guess. -/
theorem dv_setup {h l y : Nat} (hl : l < 18446744073709551616) (hy : y < 18446744073709551616) (hhy : h < y) :
    ∃ s Y y1 y0 a c u e d1 d0 : Nat, s ≤ 63 ∧ 64 - (Lib.bitLen y : Int) = s ∧ IntKind.u64.wrap ((y : Int) * 2 ^ s) = (Y : Int) ∧ (Y : Int) / 4294967296 = (y1 : Int) ∧ bits .and .u64 (Y : Int) 4294967295 = (y0 : Int) ∧
      IntKind.u64.wrap ((h : Int) * 2 ^ s) = (a : Int) ∧ (l : Int) / 2 ^ (64 - s) = (c : Int) ∧ bits .or .u64 (a : Int) (c : Int) = (u : Int) ∧ IntKind.u64.wrap ((l : Int) * 2 ^ s) = (e : Int) ∧ (e : Int) / 4294967296 = (d1 : Int) ∧ bits .and .u64 (e : Int) 4294967295 = (d0 : Int) ∧
      Kn y1 y0 u d1 ∧ d0 < 4294967296 ∧ Y = y1 * 4294967296 + y0 ∧ Y = y * 2 ^ s ∧ (u * 4294967296 + d1) * 4294967296 + d0 = (h * 18446744073709551616 + l) * 2 ^ s := by
  obtain ⟨k, hk, h1, h2, h3⟩ := bitLenAux_spec 64 y hy (by omega)
  have hP : 0 < 2 ^ (63 - k) := Nat.pow_pos (by omega)
  have hQ : 0 < 2 ^ (k + 1) := Nat.pow_pos (by omega)
  have hPQ : 2 ^ (63 - k) * 2 ^ (k + 1) = 18446744073709551616 := by rw [← Nat.pow_add, show 63 - k + (k + 1) = 64 by omega]
  have hPk : 2 ^ (63 - k) * 2 ^ k = 9223372036854775808 := by rw [← Nat.pow_add, show 63 - k + k = 63 by omega]
  have hs64 : 64 - (63 - k) = k + 1 := by omega
  have hY1 : y * 2 ^ (63 - k) < 18446744073709551616 := by rw [← hPQ, Nat.mul_comm]; exact Nat.mul_lt_mul_of_pos_left h2 hP
  have hY2 : 9223372036854775808 ≤ y * 2 ^ (63 - k) := by rw [← hPk, Nat.mul_comm]; exact Nat.mul_le_mul_right _ h1
  have hc : l / 2 ^ (k + 1) < 2 ^ (63 - k) := (Nat.div_lt_iff_lt_mul hQ).2 (by rw [hPQ]; exact hl)
  have hh1 : (h + 1) * 2 ^ (63 - k) ≤ y * 2 ^ (63 - k) := Nat.mul_le_mul_right _ hhy
  rw [Nat.add_mul, Nat.one_mul] at hh1
  have hdm := Nat.div_add_mod l (2 ^ (k + 1))
  have hml := Nat.mod_lt l hQ
  have hmP : l % 2 ^ (k + 1) * 2 ^ (63 - k) < 18446744073709551616 := by
    rw [← hPQ, Nat.mul_comm (2 ^ (63 - k))]; exact Nat.mul_lt_mul_of_pos_right hml hP
  have hlP : l * 2 ^ (63 - k) = l / 2 ^ (k + 1) * 18446744073709551616 + l % 2 ^ (k + 1) * 2 ^ (63 - k) := by
    conv => lhs; rw [← hdm]
    rw [Nat.add_mul, ← hPQ, Nat.mul_comm (2 ^ (k + 1)), Nat.mul_assoc, Nat.mul_comm (2 ^ (k + 1))]
  have heq : (l : Int) * 2 ^ (63 - k) = ((l * 2 ^ (63 - k) : Nat) : Int) := by rw [Int.natCast_mul, pow_int]
  refine ⟨63 - k, y * 2 ^ (63 - k), y * 2 ^ (63 - k) / 4294967296, y * 2 ^ (63 - k) % 4294967296, h * 2 ^ (63 - k), l / 2 ^ (k + 1), h * 2 ^ (63 - k) + l / 2 ^ (k + 1), l % 2 ^ (k + 1) * 2 ^ (63 - k),
    l % 2 ^ (k + 1) * 2 ^ (63 - k) / 4294967296, l % 2 ^ (k + 1) * 2 ^ (63 - k) % 4294967296, by omega, by unfold Lib.bitLen; rw [hk]; omega, ?_, rfl, ?_, ?_, ?_, ?_, ?_, rfl, ?_, ⟨by omega, by omega, by omega, by omega, by omega⟩, by omega, by omega, rfl, ?_⟩
  · rw [← pow_int, ← Int.natCast_mul]; exact IntWalk.u64_in _ (by omega)
  · exact and_low _ hY1
  · rw [← pow_int, ← Int.natCast_mul]; exact IntWalk.u64_in _ (by omega)
  · rw [hs64, ← pow_int]; rfl
  · rw [or_u64 _ _ (by omega) (by omega) (by rw [or_shift _ _ _ hc]; omega), or_shift _ _ _ hc]
  · rw [heq, hlP, IntKind.wrap_u64]; omega
  · exact and_low _ hmP
  · have e1 : (h * 18446744073709551616 + l) * 2 ^ (63 - k) = h * 2 ^ (63 - k) * 18446744073709551616 + l * 2 ^ (63 - k) := by rw [Nat.add_mul, Nat.mul_right_comm]
    rw [e1, hlP]
    omega
end Go.Proofs.YtmbjmgmnicacpaaGreatDoor
