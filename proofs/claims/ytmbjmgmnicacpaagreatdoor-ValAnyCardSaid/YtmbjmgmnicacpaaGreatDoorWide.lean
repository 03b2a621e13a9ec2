/- Decimals, plainly: a whole number of so many places brought to as few as it needs, and within 64 bits or not; rounding. No program; no condition. -/
/- Decimals, plainly: rounding is near; sums, products, quotients, order by what they are worth. No program; no condition. -/
/- Decimals, plainly: what the four laws of decimals come to. No program; no condition. -/
/- Whole numbers of 128 bits, sign apart: what add tells. No program; no condition. -/
import Derived.IntWalk
namespace Go.Proofs.YtmbjmgmnicacpaaGreatDoor

/-- n of s places, the noughts behind the point dropped. -/
def strip : Nat → Nat → Nat × Nat
  | 0, n => (n, 0)
  | s + 1, n => if n % 10 = 0 then strip s (n / 10) else (n, s + 1)

def sgn (b : Bool) (n : Nat) : Int := if b then -(n : Int) else n
def most (b : Bool) : Nat := if b then 9223372036854775808 else 9223372036854775807

/-- What a call that makes a decimal tells. -/
structure DR where
  m : Int
  s : Nat
  e : Nat

def tlb (b : Bool) (n s : Nat) : DR := if (strip s n).1 ≤ most b then ⟨sgn b (strip s n).1, (strip s n).2, 0⟩ else ⟨0, 0, 8⟩
def tl (v : Int) (s : Nat) : DR := tlb (decide (v < 0)) v.natAbs s

/-- What Check takes, within 64 bits. -/
structure Gd (m : Int) (s : Nat) : Prop where
  lo : -9223372036854775808 ≤ m
  hi : m ≤ 9223372036854775807
  s9 : s ≤ 9
  last : s = 0 ∨ m.natAbs % 10 ≠ 0

/-- What it is, at nine places. -/
def val (m : Int) (s : Nat) : Int := m * 10 ^ (9 - s)

theorem strip_zero : ∀ s, strip s 0 = (0, 0)
  | 0 => rfl
  | s + 1 => by rw [strip]; simp [strip_zero s]

theorem strip_spec : ∀ s n, (strip s n).2 ≤ s ∧ n = (strip s n).1 * 10 ^ (s - (strip s n).2) ∧ ((strip s n).2 = 0 ∨ (strip s n).1 % 10 ≠ 0)
  | 0, n => by simp [strip]
  | s + 1, n => by
    rw [strip]
    split
    · rename_i h
      obtain ⟨h1, h2, h3⟩ := strip_spec s (n / 10)
      refine ⟨by omega, ?_, h3⟩
      rw [show s + 1 - (strip s (n / 10)).2 = (s - (strip s (n / 10)).2) + 1 by omega, Nat.pow_succ, ← Nat.mul_assoc, ← h2]
      omega
    · rename_i h
      exact ⟨Nat.le_refl _, by simp, .inr h⟩

theorem strip_up1 (s n : Nat) : strip (s + 1) (n * 10) = strip s n := by
  rw [strip, if_pos (by omega), Nat.mul_div_cancel _ (by omega)]
theorem strip_up (k : Nat) : ∀ s n, strip (s + k) (n * 10 ^ k) = strip s n := by
  induction k with
  | zero => intro s n; simp
  | succ k ih =>
    intro s n
    rw [Nat.pow_succ, ← Nat.mul_assoc, ← Nat.add_assoc, strip_up1, ih]
theorem strip_le : ∀ s n, (strip s n).1 ≤ n
  | 0, n => Nat.le_refl _
  | s + 1, n => by
    rw [strip]
    split
    · exact Nat.le_trans (strip_le s (n / 10)) (Nat.div_le_self _ _)
    · exact Nat.le_refl _
theorem strip_id {s n : Nat} (h : s = 0 ∨ n % 10 ≠ 0) : strip s n = (n, s) := by
  cases s with
  | zero => rfl
  | succ s => rw [strip, if_neg (by omega)]

theorem sgn_natAbs (v : Int) : sgn (decide (v < 0)) v.natAbs = v := by
  unfold sgn
  by_cases h : v < 0
  · simp [h]; omega
  · simp [h]; omega
theorem sgn_abs (b : Bool) (n : Nat) : (sgn b n).natAbs = n := by unfold sgn; cases b <;> simp
theorem sgn_neg {b : Bool} {n : Nat} (h : 0 < n) : decide (sgn b n < 0) = b := by unfold sgn; cases b <;> simp <;> omega
theorem sgn_mul (b : Bool) (n k : Nat) : sgn b (n * k) = sgn b n * k := by unfold sgn; cases b <;> simp [Int.neg_mul]

theorem tlb_zero (b : Bool) (s : Nat) : tlb b 0 s = ⟨0, 0, 0⟩ := by
  unfold tlb
  rw [strip_zero]
  cases b <;> simp [most, sgn]
theorem tlb_eq (b : Bool) (n s : Nat) : tlb b n s = tl (sgn b n) s := by
  unfold tl
  rcases Nat.eq_zero_or_pos n with rfl | h
  · rw [sgn_abs, tlb_zero, tlb_zero]
  · rw [sgn_abs, sgn_neg h]

theorem pow10_pos (k : Nat) : 0 < 10 ^ k := Nat.pow_pos (by omega)
theorem natAbs_pow10 (v : Int) (k : Nat) : (v * 10 ^ k).natAbs = v.natAbs * 10 ^ k := by
  rw [Int.natAbs_mul, Int.natAbs_pow]; rfl
theorem neg_pow10 (v : Int) (k : Nat) : (v * 10 ^ k < 0) ↔ v < 0 := by
  have h : (0 : Int) < 10 ^ k := Int.pow_pos (by omega)
  constructor
  · intro h1
    rcases Int.lt_or_le v 0 with h2 | h2
    · exact h2
    · have := Int.mul_nonneg h2 (Int.le_of_lt h); omega
  · intro h1; exact Int.mul_neg_of_neg_of_pos h1 h

theorem tl_up (v : Int) (s k : Nat) : tl (v * 10 ^ k) (s + k) = tl v s := by
  unfold tl tlb
  rw [natAbs_pow10, strip_up]
  simp only [neg_pow10]

theorem tl_e (v : Int) (s : Nat) : (tl v s).e = 0 ∨ (tl v s).e = 8 ∧ (tl v s).m = 0 ∧ (tl v s).s = 0 := by
  unfold tl tlb
  split
  · exact .inl rfl
  · exact .inr ⟨rfl, rfl, rfl⟩

/-- What comes out stands, and is worth as much. -/
theorem tl_ok {v : Int} {s : Nat} (hs : s ≤ 9) (h : (tl v s).e = 0) : Gd (tl v s).m (tl v s).s ∧ val (tl v s).m (tl v s).s = v * 10 ^ (9 - s) := by
  obtain ⟨h1, h2, h3⟩ := strip_spec s v.natAbs
  have hv := sgn_natAbs v
  unfold tl tlb at h ⊢
  split at h
  · rename_i hm
    rw [if_pos hm]
    generalize strip s v.natAbs = p at *
    obtain ⟨n, t⟩ := p
    simp only at *
    generalize hb : decide (v < 0) = b at *
    have hn : n ≤ 9223372036854775808 := by revert hm; unfold most; cases b <;> simp <;> omega
    refine ⟨⟨?_, ?_, by omega, ?_⟩, ?_⟩
    · unfold sgn; cases b <;> simp <;> omega
    · revert hm; unfold sgn most; cases b <;> simp <;> omega
    · rw [sgn_abs]; exact h3
    · rw [← hv, h2, sgn_mul]
      unfold val
      rw [Int.mul_assoc]
      congr 1
      rw [Int.natCast_pow, show ((10 : Nat) : Int) = 10 from rfl, ← Int.pow_add]
      congr 1
      omega
  · simp at h

theorem tl_gd {m : Int} {s : Nat} (h : Gd m s) : tl m s = ⟨m, s, 0⟩ := by
  unfold tl tlb
  rw [strip_id h.last]
  have h1 := h.lo
  have h2 := h.hi
  rw [if_pos (by simp only [most]; by_cases hm : m < 0 <;> simp [hm] <;> omega), sgn_natAbs]

theorem tl_val {m : Int} {s : Nat} (h : Gd m s) : tl (val m s) 9 = ⟨m, s, 0⟩ := by
  have h9 := h.s9
  have := tl_up m s (9 - s)
  rw [show s + (9 - s) = 9 by omega] at this
  unfold val
  rw [this, tl_gd h]

/-- What is small enough is not too great. -/
theorem tl_small {v : Int} {s : Nat} (h : v.natAbs ≤ 9223372036854775807) : (tl v s).e = 0 := by
  have := strip_le s v.natAbs
  unfold tl tlb
  rw [if_pos (by unfold most; split <;> omega)]

/-- Two that stand and are worth alike are one. -/
theorem val_inj {m n : Int} {s t : Nat} (h : Gd m s) (h' : Gd n t) (e : val m s = val n t) : m = n ∧ s = t := by
  have h1 := tl_val h
  rw [e, tl_val h'] at h1
  injection h1 with h1 h2
  exact ⟨h1.symm, h2.symm⟩

theorem val_zero_iff {m : Int} {s : Nat} : val m s = 0 ↔ m = 0 := by
  unfold val
  have h : (0 : Int) < 10 ^ (9 - s) := Int.pow_pos (by omega)
  constructor
  · intro h1
    rcases Int.mul_eq_zero.1 h1 with h2 | h2
    · exact h2
    · omega
  · rintro rfl; simp

/-- Without the last k digits, halves up. -/
def rnd (n : Nat) : Nat → Nat
  | 0 => n
  | k + 1 => n / 10 ^ (k + 1) + if 5 ≤ n / 10 ^ k % 10 then 1 else 0
def rndI (v : Int) (k : Nat) : Int := sgn (decide (v < 0)) (rnd v.natAbs k)

/-- What Compare tells. -/
def cmp (x y : Int) : Int := if x < y then -1 else if x = y then 0 else 1
end Go.Proofs.YtmbjmgmnicacpaaGreatDoor
namespace Go.Proofs.YtmbjmgmnicacpaaGreatDoor

theorem rnd_succ (n k : Nat) : rnd n (k + 1) = n / 10 ^ (k + 1) + if 5 ≤ n / 10 ^ k % 10 then 1 else 0 := rfl
theorem rnd_near (n k : Nat) : rnd n (k + 1) * 10 ^ (k + 1) ≤ n + 5 * 10 ^ k ∧ n ≤ rnd n (k + 1) * 10 ^ (k + 1) + 5 * 10 ^ k := by
  have hD := pow10_pos k
  rw [rnd_succ, Nat.pow_succ, ← Nat.div_div_eq_div_mul]
  generalize 10 ^ k = D at *
  have h1 := Nat.div_add_mod n D
  have h2 := Nat.mod_lt n hD
  generalize n / D = a at *
  generalize n % D = r at *
  have h3 := Nat.div_add_mod a 10
  have h4 := Nat.mod_lt a (show 0 < 10 by omega)
  generalize a / 10 = q at *
  generalize a % 10 = d at *
  subst h3
  subst h1
  have e1 : D * (10 * q + d) = 10 * (q * D) + D * d := by rw [Nat.mul_add, Nat.mul_left_comm, Nat.mul_comm D q]
  split
  · have e2 : (q + 1) * (D * 10) = 10 * (q * D) + 10 * D := by rw [Nat.add_mul, ← Nat.mul_assoc]; omega
    have e3 : D * 5 ≤ D * d := Nat.mul_le_mul_left _ (by omega)
    have e4 : D * d ≤ D * 9 := Nat.mul_le_mul_left _ (by omega)
    omega
  · have e2 : (q + 0) * (D * 10) = 10 * (q * D) := by rw [Nat.add_zero, ← Nat.mul_assoc]; omega
    have e4 : D * d ≤ D * 4 := Nat.mul_le_mul_left _ (by omega)
    omega

theorem rnd_le (n k : Nat) : rnd n k ≤ n + 1 := by
  cases k with
  | zero => simp [rnd]
  | succ k =>
    have := Nat.div_le_self n (10 ^ (k + 1))
    rw [rnd_succ]
    split <;> omega

theorem rndI_zero (v : Int) : rndI v 0 = v := by unfold rndI rnd; exact sgn_natAbs v

/-- Rounded it is no farther than half a place from what it was. -/
theorem rndI_near (v : Int) (k : Nat) : (rndI v (k + 1) * 10 ^ (k + 1) - v).natAbs ≤ 5 * 10 ^ k := by
  obtain ⟨h1, h2⟩ := rnd_near v.natAbs k
  have e : rndI v (k + 1) * 10 ^ (k + 1) = sgn (decide (v < 0)) (rnd v.natAbs (k + 1) * 10 ^ (k + 1)) := by
    rw [sgn_mul]; unfold rndI; simp
  rw [e]
  generalize rnd v.natAbs (k + 1) * 10 ^ (k + 1) = x at *
  generalize 5 * 10 ^ k = y at *
  by_cases hv : v < 0
  · simp only [hv, decide_true, sgn, if_true]; omega
  · simp only [hv, decide_false, sgn]; simp; omega

theorem cmp_neg (x y : Int) : cmp y x = -cmp x y := by unfold cmp; split <;> split <;> (try split) <;> (try split) <;> omega
theorem cmp_sub (x y : Int) : cmp (x - y) 0 = cmp x y := by
  unfold cmp
  by_cases h : x < y
  · rw [if_pos h, if_pos (by omega)]
  · by_cases h2 : x = y
    · rw [if_neg h, if_pos h2, if_neg (by omega), if_pos (by omega)]
    · rw [if_neg h, if_neg h2, if_neg (by omega), if_neg (by omega)]
theorem cmp_bd (x y : Int) : -1 ≤ cmp x y ∧ cmp x y ≤ 1 := by unfold cmp; split <;> (try split) <;> omega
theorem cmp_zero (x y : Int) : cmp x y = 0 ↔ x = y := by unfold cmp; split <;> (try split) <;> omega
theorem cmp_pos (x y : Int) : 0 ≤ cmp x y ↔ y ≤ x := by unfold cmp; split <;> (try split) <;> omega
theorem cmp_le (x y : Int) : cmp x y ≤ 0 ↔ x ≤ y := by unfold cmp; split <;> (try split) <;> omega
theorem cmp_add (x y z : Int) : cmp (x + z) (y + z) = cmp x y := by
  rw [← cmp_sub (x + z), ← cmp_sub x]; congr 1; omega
/-- Of a positive multiple the order is the same. -/
theorem cmp_mul (x y : Int) (k : Nat) : cmp (x * 10 ^ k) (y * 10 ^ k) = cmp x y := by
  rw [← cmp_sub (x * 10 ^ k), ← cmp_sub x, ← Int.sub_mul]
  generalize x - y = v
  have h := neg_pow10 v k
  have h2 : v * 10 ^ k = 0 ↔ v = 0 := by
    have h3 : (0 : Int) < 10 ^ k := Int.pow_pos (by omega)
    constructor
    · intro h1
      rcases Int.mul_eq_zero.1 h1 with h4 | h4
      · exact h4
      · omega
    · rintro rfl; simp
  unfold cmp
  simp only [h, h2]

/-- The quotient, halves away from 0. -/
def quo (a b : Nat) : Nat := a / b + if b ≤ 2 * (a % b) then 1 else 0
theorem quo_mul (a b k : Nat) (hk : 0 < k) : quo (a * k) (b * k) = quo a b := by
  unfold quo
  rw [Nat.mul_div_mul_right _ _ hk, Nat.mul_mod_mul_right]
  congr 1
  have : (b * k ≤ 2 * (a % b * k)) ↔ b ≤ 2 * (a % b) := by
    rw [← Nat.mul_assoc]
    exact ⟨fun h => Nat.le_of_mul_le_mul_right h hk, fun h => Nat.mul_le_mul_right _ h⟩
  simp only [this]
theorem quo_exact (a b : Nat) (hb : 0 < b) : quo (a * b) b = a := by
  unfold quo
  rw [Nat.mul_div_cancel _ hb, Nat.mul_mod_left, if_neg (by omega), Nat.add_zero]

/-- What Div tells of two that stand. -/
def divD (m : Int) (s : Nat) (n : Int) (t : Nat) : DR := tl (sgn (decide (m < 0) != decide (n < 0)) (quo (m.natAbs * 10 ^ (9 + t - s)) n.natAbs)) 9
def addD (m : Int) (s : Nat) (n : Int) (t : Nat) : DR := tl (val m s + val n t) 9
def subD (m : Int) (s : Nat) (n : Int) (t : Nat) : DR := tl (val m s - val n t) 9
def mulD (m : Int) (s : Nat) (n : Int) (t : Nat) : DR := tl (rndI (m * n) (s + t - 9)) (min (s + t) 9)
def roundD (m : Int) (s : Nat) (p : Int) : DR := if p < -18 ∨ 9 < p then ⟨0, 0, 1⟩ else tl (rndI m (s - p).toNat * 10 ^ (-p).toNat) (min s p.toNat)
def floorD (m : Int) (s : Nat) : DR := ⟨m / 10 ^ s, 0, 0⟩
end Go.Proofs.YtmbjmgmnicacpaaGreatDoor
namespace Go.Proofs.YtmbjmgmnicacpaaGreatDoor

theorem p10_9 : (10 : Int) ^ 9 = 1000000000 := by decide
theorem val_whole (n : Int) : val n 0 = n * 1000000000 := by unfold val; rw [show 9 - 0 = 9 from rfl, p10_9]
theorem val_abs (m : Int) (s : Nat) : (val m s).natAbs = m.natAbs * 10 ^ (9 - s) := natAbs_pow10 m (9 - s)
theorem val_neg (m : Int) (s : Nat) : val (-m) s = -val m s := by unfold val; rw [Int.neg_mul]
theorem val_bd {m : Int} {s : Nat} {b : Nat} (h : m.natAbs ≤ b) : (val m s).natAbs ≤ b * 1000000000 := by
  rw [val_abs]
  refine Nat.mul_le_mul h ?_
  have : 10 ^ (9 - s) ≤ 10 ^ 9 := Nat.pow_le_pow_right (by omega) (by omega)
  omega
theorem abs_val (m : Int) (s : Nat) : m.natAbs ≤ (val m s).natAbs := by
  rw [val_abs]; exact Nat.le_mul_of_pos_right _ (pow10_pos _)

/-- A number of 32 bits of any places. -/
structure Sm (m : Int) (s : Nat) : Prop where
  gd : Gd m s
  bd : (val m s).natAbs ≤ 2147483648000000000
theorem sm_tl {v : Int} {s : Nat} (hs : s ≤ 9) (h : v.natAbs ≤ 2147483648) : (tl v s).e = 0 ∧ Sm (tl v s).m (tl v s).s := by
  have h0 : (tl v s).e = 0 := tl_small (by omega)
  obtain ⟨h1, h2⟩ := tl_ok hs h0
  refine ⟨h0, h1, ?_⟩
  rw [h2]
  exact val_bd (s := s) h

section
variable {m n : Int} {s t : Nat}
theorem add_comm' (m n : Int) (s t : Nat) : addD m s n t = addD n t m s := by unfold addD; rw [Int.add_comm]
theorem add_small (hx : Sm m s) (hy : Sm n t) : (addD m s n t).e = 0 := by
  have h1 := hx.bd; have h2 := hy.bd
  exact tl_small (by omega)
theorem sub_small (hx : Sm m s) (hy : Sm n t) : (subD m s n t).e = 0 := by
  have h1 := hx.bd; have h2 := hy.bd
  exact tl_small (by omega)
theorem add_ok (h : (addD m s n t).e = 0) : Gd (addD m s n t).m (addD m s n t).s ∧ val (addD m s n t).m (addD m s n t).s = val m s + val n t := by
  obtain ⟨h1, h2⟩ := tl_ok (v := val m s + val n t) (s := 9) (Nat.le_refl _) h
  exact ⟨h1, by unfold addD; rw [h2]; simp⟩
theorem sub_ok (h : (subD m s n t).e = 0) : Gd (subD m s n t).m (subD m s n t).s ∧ val (subD m s n t).m (subD m s n t).s = val m s - val n t := by
  obtain ⟨h1, h2⟩ := tl_ok (v := val m s - val n t) (s := 9) (Nat.le_refl _) h
  exact ⟨h1, by unfold subD; rw [h2]; simp⟩
/-- What is added is taken away again. -/
theorem sub_add (hx : Gd m s) {p : Int} {k : Nat} (h : val p k = val m s + val n t) : subD p k n t = ⟨m, s, 0⟩ := by
  unfold subD
  rw [h, show val m s + val n t - val n t = val m s by omega, tl_val hx]
theorem mul_comm' (m n : Int) (s t : Nat) : mulD m s n t = mulD n t m s := by unfold mulD; rw [Int.mul_comm, Nat.add_comm]
theorem mul_whole (hs : s ≤ 9) (c : Int) : mulD m s c 0 = tl (m * c) s := by
  unfold mulD
  rw [show s + 0 - 9 = 0 by omega, rndI_zero, show min (s + 0) 9 = s by omega]
/-- What is multiplied by a whole number is divided by it again. -/
theorem div_mul (hx : Gd m s) {c v : Int} {k : Nat} (hc : c ≠ 0) (_hk : k ≤ 9) (h : val v k = val m s * c) : divD v k c 0 = ⟨m, s, 0⟩ := by
  have e1 : v.natAbs * 10 ^ (9 + 0 - k) = (val m s).natAbs * c.natAbs := by rw [Nat.add_zero, ← val_abs, h, Int.natAbs_mul]
  unfold divD
  rw [e1, quo_exact _ _ (by omega)]
  have e2 : sgn (decide (v < 0) != decide (c < 0)) (val m s).natAbs = val m s := by
    rcases Int.lt_trichotomy (val m s) 0 with h1 | h1 | h1
    · have hv : decide (v < 0) = !decide (c < 0) := by
        rcases Int.lt_or_lt_of_ne hc with h2 | h2
        · have h3 : 0 < val v k := by rw [h]; exact Int.mul_pos_of_neg_of_neg h1 h2
          have h4 : ¬ v < 0 := by intro h5; have := (neg_pow10 v (9 - k)).2 h5; unfold val at h3; omega
          simp [h4, h2]
        · have h3 : val v k < 0 := by rw [h]; exact Int.mul_neg_of_neg_of_pos h1 h2
          have h4 : v < 0 := (neg_pow10 v (9 - k)).1 h3
          have h5 : ¬ c < 0 := by omega
          simp [h4, h5]
      rw [hv]
      unfold sgn
      cases decide (c < 0) <;> simp <;> omega
    · rw [h1]; unfold sgn; split <;> rfl
    · have hv : decide (v < 0) = decide (c < 0) := by
        rcases Int.lt_or_lt_of_ne hc with h2 | h2
        · have h3 : val v k < 0 := by rw [h]; exact Int.mul_neg_of_pos_of_neg h1 h2
          have h4 : v < 0 := (neg_pow10 v (9 - k)).1 h3
          simp [h4, h2]
        · have h3 : 0 < val v k := by rw [h]; exact Int.mul_pos h1 h2
          have h4 : ¬ v < 0 := by intro h5; have := (neg_pow10 v (9 - k)).2 h5; unfold val at h3; omega
          have h5 : ¬ c < 0 := by omega
          simp [h4, h5]
      rw [hv]
      unfold sgn
      simp; omega
  rw [e2, tl_val hx]

theorem val_floor (hs : s ≤ 9) : val m s - val (m / 10 ^ s) 0 = (m % 10 ^ s) * 10 ^ (9 - s) := by
  have h := Int.mul_ediv_add_emod m (10 ^ s)
  unfold val
  conv => lhs; lhs; rw [← h]
  rw [Int.add_mul, Int.mul_comm (10 ^ s) (m / 10 ^ s), Int.mul_assoc, ← Int.pow_add, show s + (9 - s) = 9 by omega, show 9 - 0 = 9 from rfl]
  omega
/-- A decimal's rest above its floor. -/
theorem rest_ok (hx : Gd m s) : (subD m s (m / 10 ^ s) 0).e = 0 ∧ 0 ≤ val m s - val (m / 10 ^ s) 0 ∧ val m s - val (m / 10 ^ s) 0 < 1000000000 := by
  have h9 := hx.s9
  have hp : (0 : Int) < 10 ^ s := Int.pow_pos (by omega)
  have hq : (0 : Int) < 10 ^ (9 - s) := Int.pow_pos (by omega)
  have h1 := Int.emod_nonneg m (Int.ne_of_gt hp)
  have h2 := Int.emod_lt_of_pos m hp
  have h3 : 0 ≤ val m s - val (m / 10 ^ s) 0 := by rw [val_floor h9]; exact Int.mul_nonneg h1 (Int.le_of_lt hq)
  have h4 : val m s - val (m / 10 ^ s) 0 < 1000000000 := by
    rw [val_floor h9]
    have e : (10 : Int) ^ s * 10 ^ (9 - s) = 1000000000 := by rw [← Int.pow_add, show s + (9 - s) = 9 by omega, p10_9]
    rw [← e]
    exact Int.mul_lt_mul_of_pos_right h2 hq
  exact ⟨tl_small (by omega), h3, h4⟩
theorem floor_bd (hx : Gd m s) : -9223372036854775808 ≤ m / 10 ^ s ∧ m / 10 ^ s ≤ 9223372036854775807 := by
  have hp : (0 : Int) < 10 ^ s := Int.pow_pos (by omega)
  have h1 := hx.lo
  have h2 := hx.hi
  have h4 : (1 : Int) ≤ 10 ^ s := by omega
  constructor
  · refine (Int.le_ediv_iff_mul_le hp).2 ?_
    have h5 : (-9223372036854775808) * (10 : Int) ^ s ≤ (-9223372036854775808) * 1 := Int.mul_le_mul_of_nonpos_left (by omega) h4
    omega
  · rcases Int.lt_or_le m 0 with h | h
    · have := Int.ediv_neg_of_neg_of_pos h hp; omega
    · have := Int.ediv_le_self (10 ^ s) h; omega
theorem gd_floor (hx : Gd m s) : Gd (m / 10 ^ s) 0 := ⟨(floor_bd hx).1, (floor_bd hx).2, by omega, .inl rfl⟩

theorem round_in {k : Nat} (hk : k ≤ 9) : roundD m s k = tl (rndI m (s - k)) (min s k) := by
  unfold roundD
  rw [if_neg (by omega), show ((s : Int) - (k : Int)).toNat = s - k by omega, show (-(k : Int)).toNat = 0 by omega, show ((k : Int)).toNat = k by omega]
  simp
theorem rndI_abs (v : Int) (k : Nat) : (rndI v k).natAbs ≤ v.natAbs + 1 := by
  unfold rndI; rw [sgn_abs]; exact rnd_le _ _
theorem tl_s (v : Int) (s : Nat) : (tl v s).s ≤ s := by
  have := (strip_spec s v.natAbs).1
  unfold tl tlb
  split <;> simp <;> omega
theorem strip_abs (v : Int) (s : Nat) : (tl v s).m.natAbs ≤ v.natAbs := by
  have := strip_le s v.natAbs
  unfold tl tlb
  split
  · simp only [sgn_abs]; exact this
  · simp
/-- Rounded: it stands, no more places than asked for, once more it is the same. -/
theorem round_ok (hx : Gd m s) (hb : m.natAbs ≤ 9223372036854776) {k : Nat} (hk : k ≤ 9) : (roundD m s k).e = 0 ∧ (roundD m s k).s ≤ k ∧ Gd (roundD m s k).m (roundD m s k).s ∧ roundD (roundD m s k).m (roundD m s k).s k = roundD m s k := by
  have h9 := hx.s9
  rw [round_in hk]
  have h0 : (tl (rndI m (s - k)) (min s k)).e = 0 := tl_small (by have := rndI_abs m (s - k); omega)
  have hs := tl_s (rndI m (s - k)) (min s k)
  obtain ⟨h1, h2⟩ := tl_ok (by omega) h0
  refine ⟨h0, by omega, h1, ?_⟩
  rw [round_in hk]
  generalize hR : tl (rndI m (s - k)) (min s k) = R at *
  rw [show R.s - k = 0 by omega, rndI_zero, show min R.s k = R.s by omega, tl_gd h1, ← h0]
theorem round_val (hx : Gd m s) (hb : m.natAbs ≤ 9223372036854776) {k : Nat} (hk : k ≤ 9) :
    (s ≤ k → roundD m s k = ⟨m, s, 0⟩) ∧ (k < s → (val (roundD m s k).m (roundD m s k).s - val m s).natAbs ≤ (val 5 (k + 1)).natAbs) := by
  have h9 := hx.s9
  constructor
  · intro h
    rw [round_in hk, show s - k = 0 by omega, rndI_zero, show min s k = s by omega, tl_gd hx]
  · intro h
    rw [round_in hk]
    have h0 : (tl (rndI m (s - k)) (min s k)).e = 0 := tl_small (by have := rndI_abs m (s - k); omega)
    obtain ⟨h1, h2⟩ := tl_ok (by omega) h0
    rw [h2]
    obtain ⟨j, rfl⟩ : ∃ j, s = k + j + 1 := ⟨s - k - 1, by omega⟩
    have e1 : k + j + 1 - k = j + 1 := by omega
    have e2 : min (k + j + 1) k = k := by omega
    rw [e1, e2]
    have e3 : rndI m (j + 1) * 10 ^ (9 - k) - val m (k + j + 1) = (rndI m (j + 1) * 10 ^ (j + 1) - m) * 10 ^ (9 - (k + j + 1)) := by
      unfold val
      rw [Int.sub_mul, Int.mul_assoc, ← Int.pow_add, show j + 1 + (9 - (k + j + 1)) = 9 - k by omega]
    rw [e3, natAbs_pow10, val_abs]
    have h3 := rndI_near m j
    have e4 : (5 : Int).natAbs * 10 ^ (9 - (k + 1)) = 5 * 10 ^ j * 10 ^ (9 - (k + j + 1)) := by
      rw [Nat.mul_assoc, ← Nat.pow_add, show j + (9 - (k + j + 1)) = 9 - (k + 1) by omega]; rfl
    rw [e4]
    exact Nat.mul_le_mul_right _ h3
end
end Go.Proofs.YtmbjmgmnicacpaaGreatDoor
namespace Go.Proofs.YtmbjmgmnicacpaaGreatDoor
/-- The sign and the size of a sum. -/
def adb (a b : Bool) (m n : Nat) : Bool := if a = b then a else if m < n then b else a
def adn (a b : Bool) (m n : Nat) : Nat := if a = b then m + n else if m < n then n - m else m - n
theorem ad_sgn (a b : Bool) (m n : Nat) : sgn (adb a b m n) (adn a b m n) = sgn a m + sgn b n := by
  unfold adb adn sgn
  by_cases h : m < n <;> cases a <;> cases b <;> simp [h] <;> omega
theorem adn_le (a b : Bool) (m n : Nat) : adn a b m n ≤ m + n := by
  unfold adn; split <;> (try split) <;> omega
/-- Without the last digits, one by one: the last one dropped tells. -/
theorem rnd_step (n j : Nat) : n / 10 ^ (j + 1) = n / 10 ^ j / 10 := by rw [Nat.pow_succ, Nat.div_div_eq_div_mul]
end Go.Proofs.YtmbjmgmnicacpaaGreatDoor
