/- One digit (of 32 bits) of a quotient of 128 bits by 64: what is guessed and put right. No program; no condition. -/
/- A division of 128 bits by 64, plainly: what is shifted, halved, joined on the way. No program; no condition. -/
/- math/bits.Div64 by its contract: the quotient and the rest of a number of 128 bits by one of 64. Condition: the higher half below the divisor. -/
/- dec's whole numbers of 128 bits: over, drop, shorten by their contracts. Condition: within the bits. -/
import Derived.IntWalk
import Derived.Lib.BitFns
import Derived.Laws.BitsAllLaws
import Derived.Test.YtngkolcpbgibcaaGreatDoorBox
import Derived.Deep.CutBlock
set_option linter.unusedVariables false
set_option linter.unusedSimpArgs false
namespace Go.Proofs.YtngkolcpbgibcaaGreatDoor
structure Kn (y1 y0 u d : Nat) : Prop where
  y1lo : 2147483648 ≤ y1
  y1hi : y1 < 4294967296
  y0hi : y0 < 4294967296
  uy : u < y1 * 4294967296 + y0
  dhi : d < 4294967296
variable {y1 y0 u d q r : Nat}
def knq (y1 y0 u d : Nat) : Nat := (u * 4294967296 + d) / (y1 * 4294967296 + y0)
theorem Kn.lt (h : Kn y1 y0 u d) : knq y1 y0 u d < 4294967296 := by
  have h1 := h.uy; have h2 := h.dhi; unfold knq; refine (Nat.div_lt_iff_lt_mul (by omega)).2 ?_; omega
theorem kn_mul (q : Nat) : q * (y1 * 4294967296 + y0) = q * y1 * 4294967296 + q * y0 := by rw [Nat.mul_add, Nat.mul_assoc]
theorem Kn.start (h : Kn y1 y0 u d) : u / y1 ≤ 4294967297 ∧ knq y1 y0 u d ≤ u / y1 := by
  have h1 := h.uy; have h2 := h.dhi; have h3 := h.y1lo; have h4 := h.y0hi; have h5 := h.y1hi
  constructor
  · refine Nat.lt_succ_iff.1 ((Nat.div_lt_iff_lt_mul (by omega)).2 ?_); omega
  · refine (Nat.le_div_iff_mul_le (by omega)).2 ?_; have h6 : knq y1 y0 u d * (y1 * 4294967296 + y0) ≤ u * 4294967296 + d := Nat.div_mul_le_self _ _; rw [kn_mul] at h6; generalize knq y1 y0 u d * y1 = P at *; omega
theorem Kn.dec (h : Kn y1 y0 u d) (e : q * y1 + r = u) (hq : knq y1 y0 u d ≤ q) (hc : 4294967296 ≤ q ∨ 4294967296 * r + d < q * y0) : 1 ≤ q ∧ knq y1 y0 u d ≤ q - 1 ∧ (q - 1) * y1 + (r + y1) = u := by
  have h0 := h.lt
  have h1 : knq y1 y0 u d < q := by
    rcases hc with hc | hc
    · omega
    · have h3 := h.y1lo; unfold knq; refine (Nat.div_lt_iff_lt_mul (by omega)).2 ?_; rw [kn_mul, ← e]; generalize q * y1 = P at *; omega
  refine ⟨by omega, by omega, ?_⟩; obtain ⟨p, rfl⟩ : ∃ p, q = p + 1 := ⟨q - 1, by omega⟩
  rw [Nat.add_sub_cancel, ← e, Nat.add_mul]; omega
theorem Kn.done (h : Kn y1 y0 u d) (e : q * y1 + r = u) (hq : knq y1 y0 u d ≤ q) (hc : q * y0 ≤ 4294967296 * r + d) : q = knq y1 y0 u d := by
  refine Nat.le_antisymm ?_ hq; have h3 := h.y1lo; unfold knq; refine (Nat.le_div_iff_mul_le (by omega)).2 ?_; rw [kn_mul, ← e]; generalize q * y1 = P at *; omega
theorem Kn.broke (h : Kn y1 y0 u d) (e : q * y1 + r = u) (hq : knq y1 y0 u d ≤ q) (h1 : q ≤ 4294967296) (h2 : 4294967296 ≤ r) : q = knq y1 y0 u d := by
  refine h.done e hq ?_; have h3 := h.y0hi; have h4 : q * y0 ≤ 4294967296 * y0 := Nat.mul_le_mul_right _ h1; omega
def knr (y1 y0 u d : Nat) : Nat := (u * 4294967296 + d) % (y1 * 4294967296 + y0)
theorem Kn.rest (h : Kn y1 y0 u d) : u * 4294967296 + d = knq y1 y0 u d * (y1 * 4294967296 + y0) + knr y1 y0 u d ∧ knr y1 y0 u d < y1 * 4294967296 + y0 := by
  have h3 := h.y1lo; unfold knq knr; have h1 := Nat.div_add_mod (u * 4294967296 + d) (y1 * 4294967296 + y0); rw [Nat.mul_comm] at h1; exact ⟨h1.symm, Nat.mod_lt _ (by omega)⟩
theorem two_digits {u d1 d0 y q1 r1 q0 r0 : Nat} (h1 : u * 4294967296 + d1 = q1 * y + r1) (h2 : r1 * 4294967296 + d0 = q0 * y + r0) (h3 : r0 < y) :
    (u * 4294967296 + d1) * 4294967296 + d0 = (q1 * 4294967296 + q0) * y + r0 ∧ ((u * 4294967296 + d1) * 4294967296 + d0) / y = q1 * 4294967296 + q0 ∧ ((u * 4294967296 + d1) * 4294967296 + d0) % y = r0 := by
  have e : (u * 4294967296 + d1) * 4294967296 + d0 = (q1 * 4294967296 + q0) * y + r0 := by
    rw [h1, Nat.add_mul, Nat.add_mul, Nat.mul_right_comm]; omega
  refine ⟨e, ?_, ?_⟩
  · rw [e, Nat.mul_comm _ y, Nat.mul_add_div (by omega), Nat.div_eq_of_lt h3, Nat.add_zero]
  · rw [e, Nat.mul_comm _ y, Nat.mul_add_mod, Nat.mod_eq_of_lt h3]
theorem shift_div (n y s : Nat) : (n * 2 ^ s) / (y * 2 ^ s) = n / y ∧ (n * 2 ^ s) % (y * 2 ^ s) / 2 ^ s = n % y := by
  have h : 0 < 2 ^ s := Nat.pow_pos (by omega); exact ⟨Nat.mul_div_mul_right _ _ h, by rw [Nat.mul_mod_mul_right, Nat.mul_div_cancel _ h]⟩
end Go.Proofs.YtngkolcpbgibcaaGreatDoor
namespace Go.Proofs.YtngkolcpbgibcaaGreatDoor
open Go
theorem bitLenAux_spec : ∀ (f x : Nat), x < 2 ^ f → 0 < x → ∃ k, Lib.bitLenAux f x = k + 1 ∧ 2 ^ k ≤ x ∧ x < 2 ^ (k + 1) ∧ k + 1 ≤ f
  | 0, x, h, h0 => by simp at h; omega
  | f + 1, x, h, h0 => by
    rw [Lib.bitLenAux, if_neg (by omega)]; rw [Nat.pow_succ] at h
    by_cases h1 : x / 2 = 0
    · refine ⟨0, ?_, by simp; omega, by simp; omega, by omega⟩; rw [h1]
      cases f <;> simp [Lib.bitLenAux]
    · obtain ⟨k, e, h2, h3, h4⟩ := bitLenAux_spec f (x / 2) (by omega) (by omega); refine ⟨k + 1, by rw [e]; omega, by rw [Nat.pow_succ]; omega, by rw [Nat.pow_succ]; omega, by omega⟩
theorem or_shift (a b i : Nat) (ha : a < 2 ^ i) : b * 2 ^ i ||| a = b * 2 ^ i + a := by
  have h := Nat.shiftLeft_add_eq_or_of_lt (i := i) (b := a) ha b; rw [Nat.shiftLeft_eq] at h; exact h.symm
theorem or_u64 (a b : Nat) (ha : a < 18446744073709551616) (hb : b < 18446744073709551616) (h : a ||| b < 18446744073709551616) : bits .or .u64 (a : Int) (b : Int) = ((a ||| b : Nat) : Int) := by
  show IntKind.u64.wrap ((BitVec.ofInt 64 (a : Int) ||| BitVec.ofInt 64 (b : Int)).toNat : Int) = _
  rw [BitVec.toNat_or, BitVec.ofInt_natCast, BitVec.ofInt_natCast, BitVec.toNat_ofNat, BitVec.toNat_ofNat, Nat.mod_eq_of_lt (by omega), Nat.mod_eq_of_lt (by omega)]; exact IntWalk.u64_in _ (by omega)
theorem and_low (a : Nat) (ha : a < 18446744073709551616) : bits .and .u64 (a : Int) 4294967295 = ((a % 4294967296 : Nat) : Int) := by
  have h := u64_and_nat a 4294967295 ha (by decide); rw [show (((4294967295 : Nat)) : Int) = 4294967295 from rfl] at h; rw [h, show (4294967295 : Nat) = 2 ^ 32 - 1 from rfl, Nat.and_two_pow_sub_one_eq_mod]
theorem pow_int (s : Nat) : ((2 ^ s : Nat) : Int) = 2 ^ s := by simp
theorem dv_setup {h l y : Nat} (hl : l < 18446744073709551616) (hy : y < 18446744073709551616) (hhy : h < y) :
    ∃ s Y y1 y0 a c u e d1 d0 : Nat, s ≤ 63 ∧ 64 - (Lib.bitLen y : Int) = s ∧ IntKind.u64.wrap ((y : Int) * 2 ^ s) = (Y : Int) ∧ (Y : Int) / 4294967296 = (y1 : Int) ∧ bits .and .u64 (Y : Int) 4294967295 = (y0 : Int) ∧
      IntKind.u64.wrap ((h : Int) * 2 ^ s) = (a : Int) ∧ (l : Int) / 2 ^ (64 - s) = (c : Int) ∧ bits .or .u64 (a : Int) (c : Int) = (u : Int) ∧ IntKind.u64.wrap ((l : Int) * 2 ^ s) = (e : Int) ∧ (e : Int) / 4294967296 = (d1 : Int) ∧ bits .and .u64 (e : Int) 4294967295 = (d0 : Int) ∧
      Kn y1 y0 u d1 ∧ d0 < 4294967296 ∧ Y = y1 * 4294967296 + y0 ∧ Y = y * 2 ^ s ∧ (u * 4294967296 + d1) * 4294967296 + d0 = (h * 18446744073709551616 + l) * 2 ^ s := by
  obtain ⟨k, hk, h1, h2, h3⟩ := bitLenAux_spec 64 y hy (by omega); have hP : 0 < 2 ^ (63 - k) := Nat.pow_pos (by omega); have hQ : 0 < 2 ^ (k + 1) := Nat.pow_pos (by omega); have hPQ : 2 ^ (63 - k) * 2 ^ (k + 1) = 18446744073709551616 := by rw [← Nat.pow_add, show 63 - k + (k + 1) = 64 by omega]
  have hPk : 2 ^ (63 - k) * 2 ^ k = 9223372036854775808 := by rw [← Nat.pow_add, show 63 - k + k = 63 by omega]
  have hs64 : 64 - (63 - k) = k + 1 := by omega
  have hY1 : y * 2 ^ (63 - k) < 18446744073709551616 := by rw [← hPQ, Nat.mul_comm]; exact Nat.mul_lt_mul_of_pos_left h2 hP
  have hY2 : 9223372036854775808 ≤ y * 2 ^ (63 - k) := by rw [← hPk, Nat.mul_comm]; exact Nat.mul_le_mul_right _ h1
  have hc : l / 2 ^ (k + 1) < 2 ^ (63 - k) := (Nat.div_lt_iff_lt_mul hQ).2 (by rw [hPQ]; exact hl); have hh1 : (h + 1) * 2 ^ (63 - k) ≤ y * 2 ^ (63 - k) := Nat.mul_le_mul_right _ hhy; rw [Nat.add_mul, Nat.one_mul] at hh1; have hdm := Nat.div_add_mod l (2 ^ (k + 1)); have hml := Nat.mod_lt l hQ
  have hmP : l % 2 ^ (k + 1) * 2 ^ (63 - k) < 18446744073709551616 := by
    rw [← hPQ, Nat.mul_comm (2 ^ (63 - k))]; exact Nat.mul_lt_mul_of_pos_right hml hP
  have hlP : l * 2 ^ (63 - k) = l / 2 ^ (k + 1) * 18446744073709551616 + l % 2 ^ (k + 1) * 2 ^ (63 - k) := by
    conv => lhs; rw [← hdm]
    rw [Nat.add_mul, ← hPQ, Nat.mul_comm (2 ^ (k + 1)), Nat.mul_assoc, Nat.mul_comm (2 ^ (k + 1))]
  have heq : (l : Int) * 2 ^ (63 - k) = ((l * 2 ^ (63 - k) : Nat) : Int) := by rw [Int.natCast_mul, pow_int]
  refine ⟨63 - k, y * 2 ^ (63 - k), y * 2 ^ (63 - k) / 4294967296, y * 2 ^ (63 - k) % 4294967296, h * 2 ^ (63 - k), l / 2 ^ (k + 1), h * 2 ^ (63 - k) + l / 2 ^ (k + 1), l % 2 ^ (k + 1) * 2 ^ (63 - k),
    l % 2 ^ (k + 1) * 2 ^ (63 - k) / 4294967296, l % 2 ^ (k + 1) * 2 ^ (63 - k) % 4294967296, by omega, by unfold Lib.bitLen; rw [hk]; omega, ?_, rfl, ?_, ?_, ?_, ?_, ?_, rfl, ?_, ⟨by omega, by omega, by omega, by omega, by omega⟩, by omega, by omega, rfl, ?_⟩
  · rw [← pow_int, ← Int.natCast_mul]; exact IntWalk.u64_in _ (by omega)
  · exact and_low _ hY1
  · rw [← pow_int, ← Int.natCast_mul]; exact IntWalk.u64_in _ (by omega)
  · rw [hs64, ← pow_int]; rfl
  · rw [or_u64 _ _ (by omega) (by omega) (by rw [or_shift _ _ _ hc]; omega), or_shift _ _ _ hc]
  · rw [heq, hlP, IntKind.wrap_u64]; omega
  · exact and_low _ hmP
  · have e1 : (h * 18446744073709551616 + l) * 2 ^ (63 - k) = h * 2 ^ (63 - k) * 18446744073709551616 + l * 2 ^ (63 - k) := by rw [Nat.add_mul, Nat.mul_right_comm]
    rw [e1, hlP]; omega
end Go.Proofs.YtngkolcpbgibcaaGreatDoor
namespace Go.Proofs.YtngkolcpbgibcaaGreatDoor
open Go.RowKit
theorem dv_rest {u d Y q r : Nat} (h : u * 4294967296 + d = q * Y + r) (hr : r < 18446744073709551616) :
    ∃ f g m : Nat, IntKind.u64.wrap ((u : Int) * 4294967296) = (f : Int) ∧ IntKind.u64.wrap ((f : Int) + (d : Int)) = (g : Int) ∧ IntKind.u64.wrap ((q : Int) * (Y : Int)) = (m : Int) ∧ IntKind.u64.wrap ((g : Int) - (m : Int)) = (r : Int) := by
  refine ⟨u * 4294967296 % 18446744073709551616, (u * 4294967296 % 18446744073709551616 + d) % 18446744073709551616, q * Y % 18446744073709551616, ?_, ?_, ?_, ?_⟩
  · rw [IntKind.wrap_u64]; omega
  · rw [IntKind.wrap_u64]; omega
  · rw [IntKind.wrap_u64, ← Int.natCast_mul]; omega
  · rw [IntKind.wrap_u64]; omega
set_option maxRecDepth 1000000 in
theorem div64_low {w : World} {l y : Nat} (hl : l < 18446744073709551616) (hy : y < 18446744073709551616) (h0 : 0 < y) :
    Calls Tryz.prog 167 #[.int .u64 0, .int .u64 l, .int .u64 y] w fun e w' => e = .returned (.tuple #[.int .u64 (l / y : Nat), .int .u64 (l % y : Nat)]) ∧ w' = w.drewN 1 := by
  have h1 : ((y : Int) == 0) = false := by simp; omega
  have h2 : ¬ (y : Int) ≤ 0 := by omega
  have h3 : 1 ≤ (y : Int) := by omega
  have HV := Lib.hid (show Ending.returned (.tuple #[.int .u64 (IntKind.u64.wrap ((l : Int) / (y : Int))), .int .u64 ((l : Int) % (y : Int))]) = .returned (.tuple #[.int .u64 (l / y : Nat), .int .u64 (l % y : Nat)]) by
    have e : IntKind.u64.wrap ((l / y : Nat) : Int) = ((l / y : Nat) : Int) := by
      have := Nat.div_le_self l y; generalize l / y = k at *; exact IntWalk.u64_in _ (by omega)
    rw [← Int.natCast_ediv, ← Int.natCast_emod, e])
  go_enter Tryz.func167, Tryz.ntmps167; go_wp2
  go_region
  all_goals
    go_wp2
    go_ret2
    exact ⟨HV.out, rfl⟩
set_option maxRecDepth 1000000 in
set_option maxHeartbeats 2000000 in
theorem div64_high {w : World} {h l y : Nat} (hl : l < 18446744073709551616) (hy : y < 18446744073709551616) (h0 : 0 < h) (hhy : h < y) :
    Calls Tryz.prog 167 #[.int .u64 h, .int .u64 l, .int .u64 y] w fun e w' => e = .returned (.tuple #[.int .u64 ((h * 18446744073709551616 + l) / y : Nat), .int .u64 ((h * 18446744073709551616 + l) % y : Nat)]) ∧ w = w' := by
  have h1 : ((y : Int) == 0) = false := by simp; omega
  have h1' : ((h : Int) == 0) = false := by simp; omega
  have h2 : ¬ (y : Int) ≤ (h : Int) := by omega
  obtain ⟨s, Y, y1, y0, a, c, u, e, d1, d0, hs, hlz, E1, E2, E3, E4, E5, E6, E7, E8, E9, hK, hd0, hY, hYs, hN⟩ := dv_setup hl hy hhy; have hs' : (s : Int) ≤ 63 := by omega
  have HZ : Hid (∀ w, Calls Tryz.prog 191 #[.int .u64 (y : Int)] w fun e w' => e = .returned (.int .i64 (s : Int)) ∧ w' = w) := Lib.hid (fun w => by
    have := Tryz.bits_LeadingZeros64 (y : Int) w (by omega) (by omega); rw [Int.toNat_natCast, hlz] at this
    exact this)
  clear hlz; obtain ⟨hq1, hq2⟩ := hK.start; obtain ⟨hr1, hr2⟩ := hK.rest; have hK2 : Kn y1 y0 (knr y1 y0 u d1) d0 := ⟨hK.y1lo, hK.y1hi, hK.y0hi, hr2, hd0⟩
  obtain ⟨hq3, hq4⟩ := hK2.start; obtain ⟨hr3, hr4⟩ := hK2.rest; have hlt1 := hK.lt; have hlt2 := hK2.lt; obtain ⟨hm1, hm2, hm3⟩ := two_digits hr1 hr3 hr4; rw [hN, ← hY, hYs] at hm2 hm3; obtain ⟨hd1, hd2⟩ := shift_div (h * 18446744073709551616 + l) y s; rw [hm2] at hd1; rw [hm3] at hd2; have HQ := Lib.hid hd1; have HR := Lib.hid hd2; have by1 := hK.y1lo; have by1' := hK.y1hi; have by0 := hK.y0hi; have buY := hK.uy; have bd1 := hK.dhi; have hdm := Nat.div_add_mod u y1; rw [Nat.mul_comm] at hdm; have hml := Nat.mod_lt u (show 0 < y1 by omega); obtain ⟨f, g, m, F1, F2, F3, F4⟩ := dv_rest (Y := Y) (by rw [hY]; exact hr1) (by omega); obtain ⟨f', g', m', G1, G2, G3, G4⟩ := dv_rest (Y := Y) (by rw [hY]; exact hr3) (by omega); have hdm2 := Nat.div_add_mod (knr y1 y0 u d1) y1; rw [Nat.mul_comm] at hdm2; have hml2 := Nat.mod_lt (knr y1 y0 u d1) (show 0 < y1 by omega); have hrlt : knr y1 y0 u d1 < 18446744073709551616 := by omega
  have G5 : ((knr y1 y0 (knr y1 y0 u d1) d0 : Nat) : Int) / 2 ^ s = ((h * 18446744073709551616 + l) % y : Nat) := by
    rw [← HR.out, Int.natCast_ediv, pow_int]
  have HK := Lib.hid hK; have HK2 := Lib.hid hK2; have HN : Hid ((h * 18446744073709551616 + l) / y = knq y1 y0 u d1 * 4294967296 + knq y1 y0 (knr y1 y0 u d1) d0) := Lib.hid hd1.symm; have D1 : (u : Int) / (y1 : Int) = ((u / y1 : Nat) : Int) := rfl; have D2 : ((knr y1 y0 u d1 : Nat) : Int) / (y1 : Int) = ((knr y1 y0 u d1 / y1 : Nat) : Int) := rfl; have hqa := (Nat.mul_comm _ _ : u / y1 * y1 = y1 * (u / y1))
  have M1 : (u : Int) - ((u / y1 : Nat) : Int) * (y1 : Int) = ((u % y1 : Nat) : Int) := by rw [← Int.natCast_mul]; omega
  have L1 : ((u / y1 : Nat) : Int) * (y1 : Int) ≤ (u : Int) := by rw [← Int.natCast_mul]; omega
  have P1 : 0 ≤ ((u / y1 : Nat) : Int) * (y1 : Int) := by rw [← Int.natCast_mul]; omega
  have M2 : ((knr y1 y0 u d1 : Nat) : Int) - ((knr y1 y0 u d1 / y1 : Nat) : Int) * (y1 : Int) = ((knr y1 y0 u d1 % y1 : Nat) : Int) := by rw [← Int.natCast_mul]; omega
  have L2 : ((knr y1 y0 u d1 / y1 : Nat) : Int) * (y1 : Int) ≤ ((knr y1 y0 u d1 : Nat) : Int) := by rw [← Int.natCast_mul]; omega
  have P2 : 0 ≤ ((knr y1 y0 u d1 / y1 : Nat) : Int) * (y1 : Int) := by rw [← Int.natCast_mul]; omega
  have hult : (u : Int) < 18446744073709551616 := by omega
  have hvlt : ((knr y1 y0 u d1 : Nat) : Int) < 18446744073709551616 := by omega
  have S1 : Hid (∃ q r : Nat, .int .u64 ((u / y1 : Nat) : Int) = Value.int .u64 q ∧ Value.int .u64 ((u % y1 : Nat) : Int) = .int .u64 r ∧ q * y1 + r = u ∧ knq y1 y0 u d1 ≤ q ∧ q ≤ 4294967297 ∧ r < 4294967296) := Lib.hid ⟨u / y1, u % y1, rfl, rfl, hdm, hq2, hq1, by omega⟩; have S2 : Hid (∃ q r : Nat, .int .u64 ((knr y1 y0 u d1 / y1 : Nat) : Int) = Value.int .u64 q ∧ Value.int .u64 ((knr y1 y0 u d1 % y1 : Nat) : Int) = .int .u64 r ∧ q * y1 + r = knr y1 y0 u d1 ∧ knq y1 y0 (knr y1 y0 u d1) d0 ≤ q ∧ q ≤ 4294967297 ∧ r < 4294967296) := Lib.hid ⟨knr y1 y0 u d1 / y1, knr y1 y0 u d1 % y1, rfl, rfl, hdm2, hq4, hq3, by omega⟩; have bqa : ((u / y1 : Nat) : Int) ≤ 4294967297 := by omega
  have bqb : ((knr y1 y0 u d1 / y1 : Nat) : Int) ≤ 4294967297 := by omega
  have bq1 : ((knq y1 y0 u d1 : Nat) : Int) < 4294967296 := by omega
  have bq2 : ((knq y1 y0 (knr y1 y0 u d1) d0 : Nat) : Int) < 4294967296 := by omega
  clear hK hK2 hd1 hd2 hm1 hm2 hm3 hr1 hr3 hN hY hYs HQ HR hr2 hr4 hlt1 hlt2 hq3 hq4 hdm hdm2 hml hml2 hq1 hq2 hqa buY hrlt; generalize u / y1 = qa at *; generalize u % y1 = ra at *; generalize knr y1 y0 u d1 / y1 = qb at *; generalize knr y1 y0 u d1 % y1 = rb at *; generalize hv : knr y1 y0 u d1 = v at *; generalize knr y1 y0 v d0 = z at *; generalize hka : knq y1 y0 u d1 = ka at *; generalize hkb : knq y1 y0 v d0 = kb at *; have HKA := Lib.hid hka; have HKB := Lib.hid hkb; clear hv hka hkb; have by1i : (2147483648 : Int) ≤ (y1 : Int) := by omega
  have by1j : (y1 : Int) < 4294967296 := by omega
  go_enter Tryz.func167, Tryz.ntmps167
  go_wp2_with fail
  refine (HZ.out _).mono ?_; rintro e w1 ⟨rfl, rfl⟩
  go_upto_block 0 with fail
  go_cut [15, 16] from 67 (fun q1 _ wx => q1 = .int .u64 (ka : Int) ∧ wx = w1)
  case first =>
    go_wp2_with fail
    go_loop [15, 16] (fun q1 r1 => ∃ q r : Nat, q1 = .int .u64 q ∧ r1 = .int .u64 r ∧ q * y1 + r = u ∧ ka ≤ q ∧ q ≤ 4294967297 ∧ r < 4294967296) (fun q1 _ => (intOf q1).toNat)
    case atStart => exact S1.out
    case round =>
      obtain ⟨q, r, rfl, rfl, hqr, hkq, hqb, hrb⟩ := hrel
      by_cases hq : 4294967296 ≤ q
      · obtain ⟨p1, p2, p3⟩ := HK.out.dec hqr (by rw [HKA.out]; exact hkq) (.inl hq); rw [HKA.out] at p2; obtain ⟨p, rfl⟩ : ∃ p, q = p + 1 := ⟨q - 1, by omega⟩
        rw [Nat.add_sub_cancel] at p2 p3; have hqi : (4294967296 : Int) ≤ (p : Int) + 1 := by omega
        by_cases hbr : 4294967296 ≤ r + y1
        · have hbri : (4294967296 : Int) ≤ (r : Int) + (y1 : Int) := by omega
          have hend : p = ka := by rw [← HKA.out]; exact HK.out.broke p3 (by rw [HKA.out]; exact p2) (by omega) hbr
          have HE := Lib.hid hend; clear p1 p2 p3 hqr hkq hbr hend
          go_wp2_with fail
          go_meet; exact ⟨by rw [← HE.out], rfl⟩
        · have hbri : decide ((4294967296 : Int) ≤ (r : Int) + (y1 : Int)) = false := decide_eq_false (by omega); have hbrj : (r : Int) + (y1 : Int) ≤ 8589934592 := by omega
          have HBR := Lib.hid (Nat.lt_of_not_le hbr); have HP2 := Lib.hid p2; have HP3 := Lib.hid p3; clear p1 p2 p3 hqr hkq hbr
          go_wp2_with fail
          go_round
          case rel => exact ⟨p, r + y1, by go_num, by go_num, HP3.out, HP2.out, by omega, HBR.out⟩
          case measure => simp [intOf]
      · have hq0i : (q : Int) < 4294967296 := by omega
        have hq0b : decide ((4294967296 : Int) ≤ (q : Int)) = false := decide_eq_false (by omega); have hmul : q * y0 ≤ 4294967295 * 4294967295 := Nat.mul_le_mul (by omega) (by omega); have hmuli : (q : Int) * (y0 : Int) < 18446744073709551616 := by rw [← Int.natCast_mul]; omega
        have hmuln : 0 ≤ (q : Int) * (y0 : Int) := by rw [← Int.natCast_mul]; omega
        by_cases hc : 4294967296 * r + d1 < q * y0
        · have hci : 4294967296 * (r : Int) + (d1 : Int) < (q : Int) * (y0 : Int) := by rw [← Int.natCast_mul]; omega
          obtain ⟨p1, p2, p3⟩ := HK.out.dec hqr (by rw [HKA.out]; exact hkq) (.inr hc); rw [HKA.out] at p2; obtain ⟨p, hp⟩ : ∃ p, q = p + 1 := ⟨q - 1, by omega⟩
          have hpi : (1 : Int) ≤ (q : Int) := by omega
          have HP := Lib.hid hp
          by_cases hbr : 4294967296 ≤ r + y1
          · have hbri : (4294967296 : Int) ≤ (r : Int) + (y1 : Int) := by omega
            have hend : q - 1 = ka := by rw [← HKA.out]; exact HK.out.broke p3 (by rw [HKA.out]; exact p2) (by omega) hbr
            have HE := Lib.hid hend; clear p1 p2 p3 hqr hkq hbr hend hp hc hmul hq
            go_wp2_with fail
            go_meet; exact ⟨by rw [← HE.out, Int.natCast_sub (by rw [HP.out]; omega)]; rfl, rfl⟩
          · have hbri : decide ((4294967296 : Int) ≤ (r : Int) + (y1 : Int)) = false := decide_eq_false (by omega); have hbrj : (r : Int) + (y1 : Int) ≤ 8589934592 := by omega
            have HBR := Lib.hid (Nat.lt_of_not_le hbr); have HP2 := Lib.hid p2; have HP3 := Lib.hid p3; clear p1 p2 p3 hqr hkq hbr hp hc hmul hq
            go_wp2_with fail
            go_round
            case rel => exact ⟨q - 1, r + y1, by rw [Int.natCast_sub (by rw [HP.out]; omega)]; rfl, by go_num, HP3.out, HP2.out, by omega, HBR.out⟩
            case measure => simp [intOf]; omega
        · obtain ⟨X, hX⟩ : ∃ X : Nat, (q : Int) * (y0 : Int) = (X : Int) := ⟨q * y0, (Int.natCast_mul ..).symm⟩
          obtain ⟨Z, hZ⟩ : ∃ Z : Nat, 4294967296 * (r : Int) + (d1 : Int) = (Z : Int) := ⟨4294967296 * r + d1, by omega⟩
          have hci : X ≤ Z := by
            have h1 : (q * y0 : Nat) = X := by have := hX; rw [← Int.natCast_mul] at this; omega
            omega
          have hXb : (X : Int) < 18446744073709551616 := by rw [← hX]; exact hmuli
          have hdb : decide (Z < X) = false := decide_eq_false (by omega); have hdbi : decide ((Z : Int) < (X : Int)) = false := decide_eq_false (by omega); have hend : q = ka := by rw [← HKA.out]; exact HK.out.done hqr (by rw [HKA.out]; exact hkq) (Nat.le_of_not_lt hc)
          have HE := Lib.hid hend; clear hqr hkq hc hmul hq hend hci hmuli hmuln hq0i
          go_wp2_with fail
          go_meet; exact ⟨by rw [HE.out], rfl⟩
  case rest =>
    obtain ⟨rfl, rfl⟩ := hcut
    go_upto_block 2 with fail
    go_cut [16, 18] from 102 (fun _ q1 wx => q1 = .int .u64 (kb : Int) ∧ wx = wc)
    case first =>
      go_wp2_with fail
      go_loop [16, 18] (fun r1 q1 => ∃ q r : Nat, q1 = .int .u64 q ∧ r1 = .int .u64 r ∧ q * y1 + r = v ∧ kb ≤ q ∧ q ≤ 4294967297 ∧ r < 4294967296) (fun _ q1 => (intOf q1).toNat)
      case atStart => exact S2.out
      case round =>
        obtain ⟨q, r, rfl, rfl, hqr, hkq, hqb, hrb⟩ := hrel
        by_cases hq : 4294967296 ≤ q
        · obtain ⟨p1, p2, p3⟩ := HK2.out.dec hqr (by rw [HKB.out]; exact hkq) (.inl hq); rw [HKB.out] at p2; obtain ⟨p, rfl⟩ : ∃ p, q = p + 1 := ⟨q - 1, by omega⟩
          rw [Nat.add_sub_cancel] at p2 p3; have hqi : (4294967296 : Int) ≤ (p : Int) + 1 := by omega
          by_cases hbr : 4294967296 ≤ r + y1
          · have hbri : (4294967296 : Int) ≤ (r : Int) + (y1 : Int) := by omega
            have hend : p = kb := by rw [← HKB.out]; exact HK2.out.broke p3 (by rw [HKB.out]; exact p2) (by omega) hbr
            have HE := Lib.hid hend; clear p1 p2 p3 hqr hkq hbr hend
            go_wp2_with fail
            go_meet; exact ⟨by rw [← HE.out], rfl⟩
          · have hbri : decide ((4294967296 : Int) ≤ (r : Int) + (y1 : Int)) = false := decide_eq_false (by omega); have hbrj : (r : Int) + (y1 : Int) ≤ 8589934592 := by omega
            have HBR := Lib.hid (Nat.lt_of_not_le hbr); have HP2 := Lib.hid p2; have HP3 := Lib.hid p3; clear p1 p2 p3 hqr hkq hbr
            go_wp2_with fail
            go_round
            case rel => exact ⟨p, r + y1, by go_num, by go_num, HP3.out, HP2.out, by omega, HBR.out⟩
            case measure => simp [intOf]
        · have hq0i : (q : Int) < 4294967296 := by omega
          have hq0b : decide ((4294967296 : Int) ≤ (q : Int)) = false := decide_eq_false (by omega); have hmul : q * y0 ≤ 4294967295 * 4294967295 := Nat.mul_le_mul (by omega) (by omega); have hmuli : (q : Int) * (y0 : Int) < 18446744073709551616 := by rw [← Int.natCast_mul]; omega
          have hmuln : 0 ≤ (q : Int) * (y0 : Int) := by rw [← Int.natCast_mul]; omega
          by_cases hc : 4294967296 * r + d0 < q * y0
          · have hci : 4294967296 * (r : Int) + (d0 : Int) < (q : Int) * (y0 : Int) := by rw [← Int.natCast_mul]; omega
            obtain ⟨p1, p2, p3⟩ := HK2.out.dec hqr (by rw [HKB.out]; exact hkq) (.inr hc); rw [HKB.out] at p2; obtain ⟨p, hp⟩ : ∃ p, q = p + 1 := ⟨q - 1, by omega⟩
            have hpi : (1 : Int) ≤ (q : Int) := by omega
            have HP := Lib.hid hp
            by_cases hbr : 4294967296 ≤ r + y1
            · have hbri : (4294967296 : Int) ≤ (r : Int) + (y1 : Int) := by omega
              have hend : q - 1 = kb := by rw [← HKB.out]; exact HK2.out.broke p3 (by rw [HKB.out]; exact p2) (by omega) hbr
              have HE := Lib.hid hend; clear p1 p2 p3 hqr hkq hbr hend hp hc hmul hq
              go_wp2_with fail
              go_meet; exact ⟨by rw [← HE.out, Int.natCast_sub (by rw [HP.out]; omega)]; rfl, rfl⟩
            · have hbri : decide ((4294967296 : Int) ≤ (r : Int) + (y1 : Int)) = false := decide_eq_false (by omega); have hbrj : (r : Int) + (y1 : Int) ≤ 8589934592 := by omega
              have HBR := Lib.hid (Nat.lt_of_not_le hbr); have HP2 := Lib.hid p2; have HP3 := Lib.hid p3; clear p1 p2 p3 hqr hkq hbr hp hc hmul hq
              go_wp2_with fail
              go_round
              case rel => exact ⟨q - 1, r + y1, by rw [Int.natCast_sub (by rw [HP.out]; omega)]; rfl, by go_num, HP3.out, HP2.out, by omega, HBR.out⟩
              case measure => simp [intOf]; omega
          · obtain ⟨X, hX⟩ : ∃ X : Nat, (q : Int) * (y0 : Int) = (X : Int) := ⟨q * y0, (Int.natCast_mul ..).symm⟩
            obtain ⟨Z, hZ⟩ : ∃ Z : Nat, 4294967296 * (r : Int) + (d0 : Int) = (Z : Int) := ⟨4294967296 * r + d0, by omega⟩
            have hci : X ≤ Z := by
              have h1 : (q * y0 : Nat) = X := by have := hX; rw [← Int.natCast_mul] at this; omega
              omega
            have hXb : (X : Int) < 18446744073709551616 := by rw [← hX]; exact hmuli
            have hdb : decide (Z < X) = false := decide_eq_false (by omega); have hdbi : decide ((Z : Int) < (X : Int)) = false := decide_eq_false (by omega); have hend : q = kb := by rw [← HKB.out]; exact HK2.out.done hqr (by rw [HKB.out]; exact hkq) (Nat.le_of_not_lt hc)
            have HE := Lib.hid hend; clear hqr hkq hc hmul hq hend hci hmuli hmuln hq0i
            go_wp2_with fail
            go_meet; exact ⟨by rw [HE.out], rfl⟩
    case rest =>
      obtain ⟨rfl, rfl⟩ := hcut
      go_wp2_with fail
      go_ret2
      rw [HN.out]; exact ⟨by go_num, rfl⟩
end Go.Proofs.YtngkolcpbgibcaaGreatDoor
namespace Go.Proofs.YtngkolcpbgibcaaGreatDoor
open Go.RowKit
theorem div64_any {w : World} {h l y : Nat} (hl : l < 18446744073709551616) (hy : y < 18446744073709551616) (hhy : h < y) :
    Calls Tryz.prog 167 #[.int .u64 h, .int .u64 l, .int .u64 y] w fun e w' => e = .returned (.tuple #[.int .u64 ((h * 18446744073709551616 + l) / y : Nat), .int .u64 ((h * 18446744073709551616 + l) % y : Nat)]) ∧ ∃ n, w' = w.drewN n := by
  rcases Nat.eq_zero_or_pos h with rfl | h0
  · have := div64_low (w := w) hl hy hhy; rw [Nat.zero_mul, Nat.zero_add]; exact this.mono fun e w' ⟨h1, h2⟩ => ⟨h1, 1, h2⟩
  · exact (div64_high hl hy h0 hhy).mono fun e w' ⟨h1, h2⟩ => ⟨h1, 0, h2.symm⟩
theorem hl_div {n k : Nat} (_hn : n < 340282366920938463463374607431768211456) (h0 : 0 < k) :
    hi (n / k) = hi n / k ∧ lo (n / k) = (hi n % k * 18446744073709551616 + lo n) / k ∧ n % k = (hi n % k * 18446744073709551616 + lo n) % k := by
  have e : n = (hi n % k * 18446744073709551616 + lo n) + k * (hi n / k * 18446744073709551616) := by
    have h1 := Nat.div_add_mod (hi n) k; have h2 := hi_lo n; have h3 : k * (hi n / k * 18446744073709551616) = k * (hi n / k) * 18446744073709551616 := (Nat.mul_assoc ..).symm; omega
  have hlt : (hi n % k * 18446744073709551616 + lo n) / k < 18446744073709551616 := by
    refine (Nat.div_lt_iff_lt_mul h0).2 ?_; have h1 := Nat.mod_lt (hi n) h0; have h2 := lo_lt n; omega
  have e1 : n / k = (hi n % k * 18446744073709551616 + lo n) / k + hi n / k * 18446744073709551616 := by
    conv => lhs; rw [e]
    rw [Nat.add_mul_div_left _ _ h0]
  refine ⟨?_, ?_, ?_⟩
  · show n / k / 18446744073709551616 = _
    rw [e1]; generalize (hi n % k * 18446744073709551616 + lo n) / k = x at *; generalize hi n / k = y at *; omega
  · show n / k % 18446744073709551616 = _
    rw [e1]; generalize (hi n % k * 18446744073709551616 + lo n) / k = x at *; generalize hi n / k = y at *; omega
  · conv => lhs; rw [e]
    rw [Nat.add_mul_mod_self_left]
set_option maxRecDepth 100000 in
theorem over_any {w : World} {b : Bool} {n k : Nat} (hn : n < 340282366920938463463374607431768211456) (hk : k < 18446744073709551616) (h0 : 0 < k) :
    Calls Tryz.prog 94 #[wd b n, .int .u64 k] w fun e w' => e = .returned (.tuple #[wd b (n / k), .int .u64 (n % k : Nat)]) ∧ Below w.heap.size w w' := by
  obtain ⟨h1, h2, h3⟩ := hl_div hn h0; have hkz : ((k : Int) == 0) = false := by simp; omega
  have hk1 : 1 ≤ (k : Int) := by omega
  have HD := Lib.hid (fun w : World => div64_any (w := w) (lo_lt n) hk (Nat.mod_lt (hi n) h0))
  have hq : IntKind.u64.wrap ((hi n / k : Nat) : Int) = ((hi n / k : Nat) : Int) := by
    have h4 := Nat.div_le_self (hi n) k; have h5 := hi_lt hn; generalize hi n / k = x at *; exact IntWalk.u64_in _ (by omega)
  have D1 : ((hi n : Nat) : Int) / (k : Int) = ((hi n / k : Nat) : Int) := rfl; have D2 : ((hi n : Nat) : Int) % (k : Int) = ((hi n % k : Nat) : Int) := rfl; rw [wd_parts b n, wd_parts b (n / k), h1, h2, h3]; clear h1 h2 h3 hn hk h0; generalize (hi n % k * 18446744073709551616 + lo n) / k = x at *; generalize (hi n % k * 18446744073709551616 + lo n) % k = y at *; generalize hi n % k = r at *; generalize hi n / k = q at *; go_enter Tryz.func94, Tryz.ntmps94; go_wp2
  go_quiet ((go_at_call 167; exact Calls.quiet_of (HD.out _)))
  have hb := below_drewN (Below.refl ((w.alloc (.cells #[.bool b, .int .u64 (hi n : Nat), .int .u64 (lo n : Nat)] 119)).alloc (.cells #[.bool false, .int .u64 0, .int .u64 0] 119)).heap.size ((w.alloc (.cells #[.bool b, .int .u64 (hi n : Nat), .int .u64 (lo n : Nat)] 119)).alloc (.cells #[.bool false, .int .u64 0, .int .u64 0] 119))) nq; generalize ((w.alloc (.cells #[.bool b, .int .u64 (hi n : Nat), .int .u64 (lo n : Nat)] 119)).alloc (.cells #[.bool false, .int .u64 0, .int .u64 0] 119)).drewN nq = W at *
  have HSB : Hid (SB w 2 ([((w.heap.size + 1), 119, #[.bool false, .int .u64 0, .int .u64 0]), (w.heap.size, 119, #[.bool b, .int .u64 (hi n : Nat), .int .u64 (lo n : Nat)])] : List (Nat × TypeId × Array Value)) W) := Lib.hid (by
    obtain ⟨k1, k2, hb', hsz⟩ := bx2 hb; refine ⟨hb', hsz, fun x hx => ?_⟩
    rcases List.mem_cons.1 hx with rfl | hx
    · exact k2
    · obtain rfl := List.mem_singleton.1 hx
      exact k1)
  have HD1 := Lib.hid D1; have HQ := Lib.hid hq; have HK1 := Lib.hid hk1; have HKZ := Lib.hid hkz; clear hb D1 D2 hq hk1 hkz; go_wp2
  refine wp_region_phases (S := (S1 w 2 ([((w.heap.size + 1), 119, #[.bool false, .int .u64 0, .int .u64 0]), (w.heap.size, 119, #[.bool b, .int .u64 (hi n : Nat), .int .u64 (lo n : Nat)])] : List (Nat × TypeId × Array Value)) ([((w.heap.size + 1), 119, #[.bool b, .int .u64 (q : Int), .int .u64 (x : Int)]), (w.heap.size, 119, #[.bool b, .int .u64 (hi n : Nat), .int .u64 (lo n : Nat)])] : List (Nat × TypeId × Array Value)))) (E := (fun _ _ => True)) [9] [(1, Is (.int .u64 (k : Int))), (2, Is (.pointer (some ⟨w.heap.size, 0, none⟩))), (4, Is (.pointer (some ⟨(w.heap.size + 1), 0, none⟩))), (6, Is (.int .u64 (x : Int))), (7, Is (.int .u64 (y : Int)))] [(19, Is (.pointer (some ⟨w.heap.size, 0, none⟩))), (20, Is (.bool b)), (21, Is (.pointer (some ⟨w.heap.size, 1, none⟩))), (22, Is (.int .u64 (hi n : Nat))), (23, Is (.int .u64 (k : Int))), (24, Is (.int .u64 (q : Int))), (25, Is (.int .u64 (x : Int))), (26, Is (.agg #[.bool b, .int .u64 (q : Int), .int .u64 (x : Int)])), (27, Is (.int .u64 (y : Int))), (5, Is (.int .u64 (y : Int)))]
    [.op [2] none, .op [19] none, .op [2] none, .op [21] none, .op [1] none, .op [22, 23] none, .op [6] none, .op [20, 24, 25] none, .op [7] none, .phase 0 [4, 26] [], .op [27] none] (by as_aux_lemma => kernel_rfl) ?_ ?_ ?_ ?_ ?_ ⟨stable_is _ _, stable_is _ _, stable_is _ _, stable_is _ _, stable_is _ _, stable_is _ _, stable_is _ _, stable_is _ _, stable_is _ _, stable_is _ _, stable_is _ _, stable_is _ _, stable_is _ _, stable_is _ _, stable_is _ _, trivial⟩ ?_ (HSB.out.drew) ?_ ?_
  · as_aux_lemma => kernel_rfl
  · as_aux_lemma => kernel_rfl
  · as_aux_lemma => kernel_rfl
  · as_aux_lemma => kernel_rfl
  · as_aux_lemma => kernel_rfl
  · exact ⟨rfl, rfl, rfl, rfl, rfl, trivial⟩
  · refine ⟨?_, ?_, ?_, ?_, ?_, ?_, ?_, ?_, ?_, ?_, ?_, trivial⟩
    · as_aux_lemma => intro vals a W hS hL; have e2 : a.tmps.getD 2 undef = .pointer (some ⟨w.heap.size, 0, none⟩) := hL.1; clear hL; go_simp; exact ⟨dstY (by rfl), hS, trivial⟩
    · as_aux_lemma => intro vals a W hS hL; have e19 : a.tmps.getD 19 undef = .pointer (some ⟨w.heap.size, 0, none⟩) := hL.1; clear hL; have kb : Bk W w.heap.size 119 #[.bool b, .int .u64 (hi n : Nat), .int .u64 (lo n : Nat)] := hS.bk (.tail _ (.head _)) (.tail _ (.head _)); have f0 := kb.cell 0; clear kb; go_simp; exact ⟨dstY (by rfl), hS, trivial⟩
    · as_aux_lemma => intro vals a W hS hL; have e2 : a.tmps.getD 2 undef = .pointer (some ⟨w.heap.size, 0, none⟩) := hL.1; clear hL; go_simp; exact ⟨dstY (by rfl), hS, trivial⟩
    · as_aux_lemma => intro vals a W hS hL; have e21 : a.tmps.getD 21 undef = .pointer (some ⟨w.heap.size, 1, none⟩) := hL.1; clear hL; have kb : Bk W w.heap.size 119 #[.bool b, .int .u64 (hi n : Nat), .int .u64 (lo n : Nat)] := hS.bk (.tail _ (.head _)) (.tail _ (.head _)); have f1 := kb.cell 1; clear kb; go_simp; exact ⟨dstY (by rfl), hS, trivial⟩
    · as_aux_lemma => intro vals a W hS hL; have e1 : a.tmps.getD 1 undef = .int .u64 (k : Int) := hL.1; clear hL; go_simp; exact ⟨dstY (by rfl), hS, trivial⟩
    · as_aux_lemma =>
        intro vals a W hS hL; have e22 : a.tmps.getD 22 undef = .int .u64 (hi n : Nat) := hL.1; have e23 : a.tmps.getD 23 undef = .int .u64 (k : Int) := hL.2.1; clear hL; have d1 := HD1.out; have hq := HQ.out; have hk1 := HK1.out; have hkz := HKZ.out; have hk0 : ¬ k = 0 := by omega
        go_simp; exact ⟨dstY (by rfl), hS, trivial⟩
    · as_aux_lemma => intro vals a W hS hL; have e6 : a.tmps.getD 6 undef = .int .u64 (x : Int) := hL.1; clear hL; go_simp; exact ⟨dstY (by rfl), hS, trivial⟩
    · as_aux_lemma => intro vals a W hS hL; have e20 : a.tmps.getD 20 undef = .bool b := hL.1; have e24 : a.tmps.getD 24 undef = .int .u64 (q : Int) := hL.2.1; have e25 : a.tmps.getD 25 undef = .int .u64 (x : Int) := hL.2.2.1; clear hL; rw [Array.getD_eq_getD_getElem?] at e20 e24 e25; go_simp; exact ⟨dstY (by rfl), hS, trivial⟩
    · as_aux_lemma => intro vals a W hS hL; have e7 : a.tmps.getD 7 undef = .int .u64 (y : Int) := hL.1; clear hL; go_simp; exact ⟨dstY (by rfl), hS, trivial⟩
    · as_aux_lemma =>
        intro a W vals hv hS hL hp; have e4 : a.tmps.getD 4 undef = .pointer (some ⟨(w.heap.size + 1), 0, none⟩) := hL.1; have e26 : a.tmps.getD 26 undef = .agg #[.bool b, .int .u64 (q : Int), .int .u64 (x : Int)] := hL.2.1; clear hL
        match vals, hv, hS with
        | [], _, hS =>
          have hB : SB w 2 ([((w.heap.size + 1), 119, #[.bool false, .int .u64 0, .int .u64 0]), (w.heap.size, 119, #[.bool b, .int .u64 (hi n : Nat), .int .u64 (lo n : Nat)])] : List (Nat × TypeId × Array Value)) W := hS; have kz := hB.bk _ (List.mem_cons_self ..); have hlt : ∀ x ∈ ([(w.heap.size, 119, #[.bool b, .int .u64 (hi n : Nat), .int .u64 (lo n : Nat)])] : List (Nat × TypeId × Array Value)), x.1 ≠ (w.heap.size + 1) := by simp <;> omega
          have z0 := kz.frozen 0; have q0 := kz.cell 0; have z1 := kz.frozen 1; have q1 := kz.cell 1; have z2 := kz.frozen 2; have q2 := kz.cell 2; have hF := hB.set3 (by omega) hlt (.bool b : Value) (.int .u64 (q : Int) : Value) (.int .u64 (x : Int) : Value); rw [Array.getD_eq_getD_getElem?] at e26; clear hS kz hB; go_simp; exact ⟨hF, trivial, trivial⟩
    · as_aux_lemma => intro vals a W hS hL; have e27 : a.tmps.getD 27 undef = .int .u64 (y : Int) := hL.1; clear hL; go_simp; exact ⟨dstY (by rfl), hS, trivial⟩
  · intro a W' vals hd hsz hT hF hv _ hS
    obtain ⟨u, rfl⟩ : ∃ u, vals = [u] := by
      match vals, hv with
      | [u], _ => exact ⟨u, rfl⟩
    have hB : SB w 2 ([((w.heap.size + 1), 119, #[.bool b, .int .u64 (q : Int), .int .u64 (x : Int)]), (w.heap.size, 119, #[.bool b, .int .u64 (hi n : Nat), .int .u64 (lo n : Nat)])] : List (Nat × TypeId × Array Value)) W' := hS; have kz := hB.bk _ (List.mem_cons_self ..); have r0 := kz.cell 0; have r1 := kz.cell 1; have r2 := kz.cell 2; clear kz hS; have e4 : a.tmps.getD 4 undef = .pointer (some ⟨(w.heap.size + 1), 0, none⟩) := hT 4 (by simp); have e5 : a.tmps.getD 5 undef = .int .u64 (y : Int) := hT 5 (by simp); clear hT hF; go_wp2; refine bodyPost_ret (v := .tuple #[.agg #[.bool b, .int .u64 (q : Int), .int .u64 (x : Int)], .int .u64 (y : Int)]) ?_ hd ⟨rfl, hB.bel⟩; rw [Array.getD_eq_getD_getElem?] at e4 e5; simp [results, Tryz.results94, go_sem, e4, e5, r0, r1, r2]
end Go.Proofs.YtngkolcpbgibcaaGreatDoor
