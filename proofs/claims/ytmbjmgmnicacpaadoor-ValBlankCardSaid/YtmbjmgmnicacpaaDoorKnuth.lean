/- One digit (of 32 bits) of a quotient of 128 bits by 64: what is guessed and put right. No program; no condition. -/
import Derived.IntWalk
namespace Go.Proofs.YtmbjmgmnicacpaaDoor

/-- What one digit's guess stands on: y = y1, y0; the number u, d; u below y. -/
structure Kn (y1 y0 u d : Nat) : Prop where
  y1lo : 2147483648 ≤ y1
  y1hi : y1 < 4294967296
  y0hi : y0 < 4294967296
  uy : u < y1 * 4294967296 + y0
  dhi : d < 4294967296

variable {y1 y0 u d q r : Nat}

/-- The digit. -/
def knq (y1 y0 u d : Nat) : Nat := (u * 4294967296 + d) / (y1 * 4294967296 + y0)

theorem Kn.lt (h : Kn y1 y0 u d) : knq y1 y0 u d < 4294967296 := by
  have h1 := h.uy; have h2 := h.dhi
  unfold knq
  refine (Nat.div_lt_iff_lt_mul (by omega)).2 ?_
  omega

theorem kn_mul (q : Nat) : q * (y1 * 4294967296 + y0) = q * y1 * 4294967296 + q * y0 := by rw [Nat.mul_add, Nat.mul_assoc]

theorem Kn.start (h : Kn y1 y0 u d) : u / y1 ≤ 4294967297 ∧ knq y1 y0 u d ≤ u / y1 := by
  have h1 := h.uy; have h2 := h.dhi; have h3 := h.y1lo; have h4 := h.y0hi; have h5 := h.y1hi
  constructor
  · refine Nat.lt_succ_iff.1 ((Nat.div_lt_iff_lt_mul (by omega)).2 ?_)
    omega
  · refine (Nat.le_div_iff_mul_le (by omega)).2 ?_
    have h6 : knq y1 y0 u d * (y1 * 4294967296 + y0) ≤ u * 4294967296 + d := Nat.div_mul_le_self _ _
    rw [kn_mul] at h6
    generalize knq y1 y0 u d * y1 = P at *
    omega

theorem Kn.dec (h : Kn y1 y0 u d) (e : q * y1 + r = u) (hq : knq y1 y0 u d ≤ q) (hc : 4294967296 ≤ q ∨ 4294967296 * r + d < q * y0) : 1 ≤ q ∧ knq y1 y0 u d ≤ q - 1 ∧ (q - 1) * y1 + (r + y1) = u := by
  have h0 := h.lt
  have h1 : knq y1 y0 u d < q := by
    rcases hc with hc | hc
    · omega
    · have h3 := h.y1lo
      unfold knq
      refine (Nat.div_lt_iff_lt_mul (by omega)).2 ?_
      rw [kn_mul, ← e]
      generalize q * y1 = P at *
      omega
  refine ⟨by omega, by omega, ?_⟩
  obtain ⟨p, rfl⟩ : ∃ p, q = p + 1 := ⟨q - 1, by omega⟩
  rw [Nat.add_sub_cancel, ← e, Nat.add_mul]
  omega

theorem Kn.done (h : Kn y1 y0 u d) (e : q * y1 + r = u) (hq : knq y1 y0 u d ≤ q) (hc : q * y0 ≤ 4294967296 * r + d) : q = knq y1 y0 u d := by
  refine Nat.le_antisymm ?_ hq
  have h3 := h.y1lo
  unfold knq
  refine (Nat.le_div_iff_mul_le (by omega)).2 ?_
  rw [kn_mul, ← e]
  generalize q * y1 = P at *
  omega

theorem Kn.broke (h : Kn y1 y0 u d) (e : q * y1 + r = u) (hq : knq y1 y0 u d ≤ q) (h1 : q ≤ 4294967296) (h2 : 4294967296 ≤ r) : q = knq y1 y0 u d := by
  refine h.done e hq ?_
  have h3 := h.y0hi
  have h4 : q * y0 ≤ 4294967296 * y0 := Nat.mul_le_mul_right _ h1
  omega

/-- What is left behind the digit. -/
def knr (y1 y0 u d : Nat) : Nat := (u * 4294967296 + d) % (y1 * 4294967296 + y0)
theorem Kn.rest (h : Kn y1 y0 u d) : u * 4294967296 + d = knq y1 y0 u d * (y1 * 4294967296 + y0) + knr y1 y0 u d ∧ knr y1 y0 u d < y1 * 4294967296 + y0 := by
  have h3 := h.y1lo
  unfold knq knr
  have h1 := Nat.div_add_mod (u * 4294967296 + d) (y1 * 4294967296 + y0)
  rw [Nat.mul_comm] at h1
  exact ⟨h1.symm, Nat.mod_lt _ (by omega)⟩

/-- Two digits are the quotient. -/
theorem two_digits {u d1 d0 y q1 r1 q0 r0 : Nat} (h1 : u * 4294967296 + d1 = q1 * y + r1) (h2 : r1 * 4294967296 + d0 = q0 * y + r0) (h3 : r0 < y) :
    (u * 4294967296 + d1) * 4294967296 + d0 = (q1 * 4294967296 + q0) * y + r0 ∧ ((u * 4294967296 + d1) * 4294967296 + d0) / y = q1 * 4294967296 + q0 ∧ ((u * 4294967296 + d1) * 4294967296 + d0) % y = r0 := by
  have e : (u * 4294967296 + d1) * 4294967296 + d0 = (q1 * 4294967296 + q0) * y + r0 := by
    rw [h1, Nat.add_mul, Nat.add_mul, Nat.mul_right_comm]
    omega
  refine ⟨e, ?_, ?_⟩
  · rw [e, Nat.mul_comm _ y, Nat.mul_add_div (by omega), Nat.div_eq_of_lt h3, Nat.add_zero]
  · rw [e, Nat.mul_comm _ y, Nat.mul_add_mod, Nat.mod_eq_of_lt h3]

/-- Both times 2 to the s. -/
theorem shift_div (n y s : Nat) : (n * 2 ^ s) / (y * 2 ^ s) = n / y ∧ (n * 2 ^ s) % (y * 2 ^ s) / 2 ^ s = n % y := by
  have h : 0 < 2 ^ s := Nat.pow_pos (by omega)
  exact ⟨Nat.mul_div_mul_right _ _ h, by rw [Nat.mul_mod_mul_right, Nat.mul_div_cancel _ h]⟩
end Go.Proofs.YtmbjmgmnicacpaaDoor
