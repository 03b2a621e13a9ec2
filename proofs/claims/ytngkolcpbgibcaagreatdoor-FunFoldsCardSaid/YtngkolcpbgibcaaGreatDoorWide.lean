/- Decimals, plainly: a whole number of so many places brought to as few as it needs, and within 64 bits or not; rounding. No program; no condition. -/
/- Decimals, plainly: rounding is near; sums, products, quotients, order by what they are worth. No program; no condition. -/
/- Decimals, plainly: what the four laws of decimals come to. No program; no condition. -/
/- Whole numbers of 128 bits, sign apart: what add tells. No program; no condition. -/
import Derived.IntWalk
set_option linter.unusedVariables false
set_option linter.unusedSimpArgs false
namespace Go.Proofs.YtngkolcpbgibcaaGreatDoor
def strip : Nat → Nat → Nat × Nat
  | 0, n => (n, 0)
  | s + 1, n => if n % 10 = 0 then strip s (n / 10) else (n, s + 1)
def sgn (b : Bool) (n : Nat) : Int := if b then -(n : Int) else n
def most (b : Bool) : Nat := if b then 9223372036854775808 else 9223372036854775807
structure DR where
  m : Int
  s : Nat
  e : Nat
def tlb (b : Bool) (n s : Nat) : DR := if (strip s n).1 ≤ most b then ⟨sgn b (strip s n).1, (strip s n).2, 0⟩ else ⟨0, 0, 8⟩
def tl (v : Int) (s : Nat) : DR := tlb (decide (v < 0)) v.natAbs s
structure Gd (m : Int) (s : Nat) : Prop where
  lo : -9223372036854775808 ≤ m
  hi : m ≤ 9223372036854775807
  s9 : s ≤ 9
  last : s = 0 ∨ m.natAbs % 10 ≠ 0
def val (m : Int) (s : Nat) : Int := m * 10 ^ (9 - s)
theorem strip_zero : ∀ s, strip s 0 = (0, 0)
  | 0 => rfl
  | s + 1 => by rw [strip]; simp [strip_zero s]
theorem strip_spec : ∀ s n, (strip s n).2 ≤ s ∧ n = (strip s n).1 * 10 ^ (s - (strip s n).2) ∧ ((strip s n).2 = 0 ∨ (strip s n).1 % 10 ≠ 0)
  | 0, n => by simp [strip]
  | s + 1, n => by
    rw [strip]
    split
    · rename_i h
      obtain ⟨h1, h2, h3⟩ := strip_spec s (n / 10); refine ⟨by omega, ?_, h3⟩; rw [show s + 1 - (strip s (n / 10)).2 = (s - (strip s (n / 10)).2) + 1 by omega, Nat.pow_succ, ← Nat.mul_assoc, ← h2]; omega
    · rename_i h
      exact ⟨Nat.le_refl _, by simp, .inr h⟩
theorem strip_up1 (s n : Nat) : strip (s + 1) (n * 10) = strip s n := by
  rw [strip, if_pos (by omega), Nat.mul_div_cancel _ (by omega)]
theorem strip_up (k : Nat) : ∀ s n, strip (s + k) (n * 10 ^ k) = strip s n := by
  induction k with
  | zero => intro s n; simp
  | succ k ih =>
    intro s n; rw [Nat.pow_succ, ← Nat.mul_assoc, ← Nat.add_assoc, strip_up1, ih]
theorem strip_le : ∀ s n, (strip s n).1 ≤ n
  | 0, n => Nat.le_refl _
  | s + 1, n => by
    rw [strip]
    split
    · exact Nat.le_trans (strip_le s (n / 10)) (Nat.div_le_self _ _)
    · exact Nat.le_refl _
theorem strip_id {s n : Nat} (h : s = 0 ∨ n % 10 ≠ 0) : strip s n = (n, s) := by
  cases s with
  | zero => rfl
  | succ s => rw [strip, if_neg (by omega)]
theorem sgn_natAbs (v : Int) : sgn (decide (v < 0)) v.natAbs = v := by
  unfold sgn
  by_cases h : v < 0
  · simp [h]; omega
  · simp [h]; omega
theorem sgn_abs (b : Bool) (n : Nat) : (sgn b n).natAbs = n := by unfold sgn; cases b <;> simp
theorem sgn_neg {b : Bool} {n : Nat} (h : 0 < n) : decide (sgn b n < 0) = b := by unfold sgn; cases b <;> simp <;> omega
theorem sgn_mul (b : Bool) (n k : Nat) : sgn b (n * k) = sgn b n * k := by unfold sgn; cases b <;> simp [Int.neg_mul]
theorem tlb_zero (b : Bool) (s : Nat) : tlb b 0 s = ⟨0, 0, 0⟩ := by
  unfold tlb; rw [strip_zero]
  cases b <;> simp [most, sgn]
theorem tlb_eq (b : Bool) (n s : Nat) : tlb b n s = tl (sgn b n) s := by
  unfold tl
  rcases Nat.eq_zero_or_pos n with rfl | h
  · rw [sgn_abs, tlb_zero, tlb_zero]
  · rw [sgn_abs, sgn_neg h]
theorem pow10_pos (k : Nat) : 0 < 10 ^ k := Nat.pow_pos (by omega)
theorem natAbs_pow10 (v : Int) (k : Nat) : (v * 10 ^ k).natAbs = v.natAbs * 10 ^ k := by
  rw [Int.natAbs_mul, Int.natAbs_pow]; rfl
theorem neg_pow10 (v : Int) (k : Nat) : (v * 10 ^ k < 0) ↔ v < 0 := by
  have h : (0 : Int) < 10 ^ k := Int.pow_pos (by omega)
  constructor
  · intro h1
    rcases Int.lt_or_le v 0 with h2 | h2
    · exact h2
    · have := Int.mul_nonneg h2 (Int.le_of_lt h); omega
  · intro h1; exact Int.mul_neg_of_neg_of_pos h1 h
theorem tl_up (v : Int) (s k : Nat) : tl (v * 10 ^ k) (s + k) = tl v s := by
  unfold tl tlb; rw [natAbs_pow10, strip_up]; simp only [neg_pow10]
theorem tl_ok {v : Int} {s : Nat} (hs : s ≤ 9) (h : (tl v s).e = 0) : Gd (tl v s).m (tl v s).s ∧ val (tl v s).m (tl v s).s = v * 10 ^ (9 - s) := by
  obtain ⟨h1, h2, h3⟩ := strip_spec s v.natAbs; have hv := sgn_natAbs v; unfold tl tlb at h ⊢
  split at h
  · rename_i hm
    rw [if_pos hm]; generalize strip s v.natAbs = p at *; obtain ⟨n, t⟩ := p; simp only at *; generalize hb : decide (v < 0) = b at *; have hn : n ≤ 9223372036854775808 := by revert hm; unfold most; cases b <;> simp <;> omega
    refine ⟨⟨?_, ?_, by omega, ?_⟩, ?_⟩
    · unfold sgn; cases b <;> simp <;> omega
    · revert hm; unfold sgn most; cases b <;> simp <;> omega
    · rw [sgn_abs]; exact h3
    · rw [← hv, h2, sgn_mul]; unfold val; rw [Int.mul_assoc]
      congr 1
      rw [Int.natCast_pow, show ((10 : Nat) : Int) = 10 from rfl, ← Int.pow_add]
      congr 1
      omega
  · simp at h
theorem tl_gd {m : Int} {s : Nat} (h : Gd m s) : tl m s = ⟨m, s, 0⟩ := by
  unfold tl tlb; rw [strip_id h.last]; have h1 := h.lo; have h2 := h.hi; rw [if_pos (by simp only [most]; by_cases hm : m < 0 <;> simp [hm] <;> omega), sgn_natAbs]
theorem tl_val {m : Int} {s : Nat} (h : Gd m s) : tl (val m s) 9 = ⟨m, s, 0⟩ := by
  have h9 := h.s9; have := tl_up m s (9 - s); rw [show s + (9 - s) = 9 by omega] at this; unfold val; rw [this, tl_gd h]
theorem tl_small {v : Int} {s : Nat} (h : v.natAbs ≤ 9223372036854775807) : (tl v s).e = 0 := by
  have := strip_le s v.natAbs; unfold tl tlb; rw [if_pos (by unfold most; split <;> omega)]
def rnd (n : Nat) : Nat → Nat
  | 0 => n
  | k + 1 => n / 10 ^ (k + 1) + if 5 ≤ n / 10 ^ k % 10 then 1 else 0
def rndI (v : Int) (k : Nat) : Int := sgn (decide (v < 0)) (rnd v.natAbs k)
def cmp (x y : Int) : Int := if x < y then -1 else if x = y then 0 else 1
end Go.Proofs.YtngkolcpbgibcaaGreatDoor
namespace Go.Proofs.YtngkolcpbgibcaaGreatDoor
theorem rnd_succ (n k : Nat) : rnd n (k + 1) = n / 10 ^ (k + 1) + if 5 ≤ n / 10 ^ k % 10 then 1 else 0 := rfl
theorem rnd_le (n k : Nat) : rnd n k ≤ n + 1 := by
  cases k with
  | zero => simp [rnd]
  | succ k =>
    have := Nat.div_le_self n (10 ^ (k + 1)); rw [rnd_succ]
    split <;> omega
theorem rndI_zero (v : Int) : rndI v 0 = v := by unfold rndI rnd; exact sgn_natAbs v
theorem cmp_sub (x y : Int) : cmp (x - y) 0 = cmp x y := by
  unfold cmp
  by_cases h : x < y
  · rw [if_pos h, if_pos (by omega)]
  · by_cases h2 : x = y
    · rw [if_neg h, if_pos h2, if_neg (by omega), if_pos (by omega)]
    · rw [if_neg h, if_neg h2, if_neg (by omega), if_neg (by omega)]
theorem cmp_zero (x y : Int) : cmp x y = 0 ↔ x = y := by unfold cmp; split <;> (try split) <;> omega
def quo (a b : Nat) : Nat := a / b + if b ≤ 2 * (a % b) then 1 else 0
def divD (m : Int) (s : Nat) (n : Int) (t : Nat) : DR := tl (sgn (decide (m < 0) != decide (n < 0)) (quo (m.natAbs * 10 ^ (9 + t - s)) n.natAbs)) 9
def addD (m : Int) (s : Nat) (n : Int) (t : Nat) : DR := tl (val m s + val n t) 9
def subD (m : Int) (s : Nat) (n : Int) (t : Nat) : DR := tl (val m s - val n t) 9
def mulD (m : Int) (s : Nat) (n : Int) (t : Nat) : DR := tl (rndI (m * n) (s + t - 9)) (min (s + t) 9)
def roundD (m : Int) (s : Nat) (p : Int) : DR := if p < -18 ∨ 9 < p then ⟨0, 0, 1⟩ else tl (rndI m (s - p).toNat * 10 ^ (-p).toNat) (min s p.toNat)
def floorD (m : Int) (s : Nat) : DR := ⟨m / 10 ^ s, 0, 0⟩
end Go.Proofs.YtngkolcpbgibcaaGreatDoor
namespace Go.Proofs.YtngkolcpbgibcaaGreatDoor
theorem p10_9 : (10 : Int) ^ 9 = 1000000000 := by decide
theorem val_whole (n : Int) : val n 0 = n * 1000000000 := by unfold val; rw [show 9 - 0 = 9 from rfl, p10_9]
section
variable {m n : Int} {s t : Nat}
theorem floor_bd (hx : Gd m s) : -9223372036854775808 ≤ m / 10 ^ s ∧ m / 10 ^ s ≤ 9223372036854775807 := by
  have hp : (0 : Int) < 10 ^ s := Int.pow_pos (by omega); have h1 := hx.lo; have h2 := hx.hi; have h4 : (1 : Int) ≤ 10 ^ s := by omega
  constructor
  · refine (Int.le_ediv_iff_mul_le hp).2 ?_; have h5 : (-9223372036854775808) * (10 : Int) ^ s ≤ (-9223372036854775808) * 1 := Int.mul_le_mul_of_nonpos_left (by omega) h4; omega
  · rcases Int.lt_or_le m 0 with h | h
    · have := Int.ediv_neg_of_neg_of_pos h hp; omega
    · have := Int.ediv_le_self (10 ^ s) h; omega
theorem round_in {k : Nat} (hk : k ≤ 9) : roundD m s k = tl (rndI m (s - k)) (min s k) := by
  unfold roundD; rw [if_neg (by omega), show ((s : Int) - (k : Int)).toNat = s - k by omega, show (-(k : Int)).toNat = 0 by omega, show ((k : Int)).toNat = k by omega]; simp
end
end Go.Proofs.YtngkolcpbgibcaaGreatDoor
namespace Go.Proofs.YtngkolcpbgibcaaGreatDoor
def adb (a b : Bool) (m n : Nat) : Bool := if a = b then a else if m < n then b else a
def adn (a b : Bool) (m n : Nat) : Nat := if a = b then m + n else if m < n then n - m else m - n
theorem ad_sgn (a b : Bool) (m n : Nat) : sgn (adb a b m n) (adn a b m n) = sgn a m + sgn b n := by
  unfold adb adn sgn
  by_cases h : m < n <;> cases a <;> cases b <;> simp [h] <;> omega
theorem adn_le (a b : Bool) (m n : Nat) : adn a b m n ≤ m + n := by
  unfold adn; split <;> (try split) <;> omega
theorem rnd_step (n j : Nat) : n / 10 ^ (j + 1) = n / 10 ^ j / 10 := by rw [Nat.pow_succ, Nat.div_div_eq_div_mul]
end Go.Proofs.YtngkolcpbgibcaaGreatDoor
