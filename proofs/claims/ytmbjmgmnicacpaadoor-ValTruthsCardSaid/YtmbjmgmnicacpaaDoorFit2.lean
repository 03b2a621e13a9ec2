/- Decimals, plainly: rounding is near; sums, products, quotients, order by what they are worth. No program; no condition. -/
import Derived.Test.YtmbjmgmnicacpaaDoorFit
namespace Go.Proofs.YtmbjmgmnicacpaaDoor

theorem rnd_succ (n k : Nat) : rnd n (k + 1) = n / 10 ^ (k + 1) + if 5 ≤ n / 10 ^ k % 10 then 1 else 0 := rfl
theorem rnd_near (n k : Nat) : rnd n (k + 1) * 10 ^ (k + 1) ≤ n + 5 * 10 ^ k ∧ n ≤ rnd n (k + 1) * 10 ^ (k + 1) + 5 * 10 ^ k := by
  have hD := pow10_pos k
  rw [rnd_succ, Nat.pow_succ, ← Nat.div_div_eq_div_mul]
  generalize 10 ^ k = D at *
  have h1 := Nat.div_add_mod n D
  have h2 := Nat.mod_lt n hD
  generalize n / D = a at *
  generalize n % D = r at *
  have h3 := Nat.div_add_mod a 10
  have h4 := Nat.mod_lt a (show 0 < 10 by omega)
  generalize a / 10 = q at *
  generalize a % 10 = d at *
  subst h3
  subst h1
  have e1 : D * (10 * q + d) = 10 * (q * D) + D * d := by rw [Nat.mul_add, Nat.mul_left_comm, Nat.mul_comm D q]
  split
  · have e2 : (q + 1) * (D * 10) = 10 * (q * D) + 10 * D := by rw [Nat.add_mul, ← Nat.mul_assoc]; omega
    have e3 : D * 5 ≤ D * d := Nat.mul_le_mul_left _ (by omega)
    have e4 : D * d ≤ D * 9 := Nat.mul_le_mul_left _ (by omega)
    omega
  · have e2 : (q + 0) * (D * 10) = 10 * (q * D) := by rw [Nat.add_zero, ← Nat.mul_assoc]; omega
    have e4 : D * d ≤ D * 4 := Nat.mul_le_mul_left _ (by omega)
    omega

theorem rnd_le (n k : Nat) : rnd n k ≤ n + 1 := by
  cases k with
  | zero => simp [rnd]
  | succ k =>
    have := Nat.div_le_self n (10 ^ (k + 1))
    rw [rnd_succ]
    split <;> omega

theorem rndI_zero (v : Int) : rndI v 0 = v := by unfold rndI rnd; exact sgn_natAbs v

/-- Rounded it is no farther than half a place from what it was. -/
theorem rndI_near (v : Int) (k : Nat) : (rndI v (k + 1) * 10 ^ (k + 1) - v).natAbs ≤ 5 * 10 ^ k := by
  obtain ⟨h1, h2⟩ := rnd_near v.natAbs k
  have e : rndI v (k + 1) * 10 ^ (k + 1) = sgn (decide (v < 0)) (rnd v.natAbs (k + 1) * 10 ^ (k + 1)) := by
    rw [sgn_mul]; unfold rndI; simp
  rw [e]
  generalize rnd v.natAbs (k + 1) * 10 ^ (k + 1) = x at *
  generalize 5 * 10 ^ k = y at *
  by_cases hv : v < 0
  · simp only [hv, decide_true, sgn, if_true]; omega
  · simp only [hv, decide_false, sgn]; simp; omega

theorem cmp_neg (x y : Int) : cmp y x = -cmp x y := by unfold cmp; split <;> split <;> (try split) <;> (try split) <;> omega
theorem cmp_sub (x y : Int) : cmp (x - y) 0 = cmp x y := by
  unfold cmp
  by_cases h : x < y
  · rw [if_pos h, if_pos (by omega)]
  · by_cases h2 : x = y
    · rw [if_neg h, if_pos h2, if_neg (by omega), if_pos (by omega)]
    · rw [if_neg h, if_neg h2, if_neg (by omega), if_neg (by omega)]
theorem cmp_bd (x y : Int) : -1 ≤ cmp x y ∧ cmp x y ≤ 1 := by unfold cmp; split <;> (try split) <;> omega
theorem cmp_zero (x y : Int) : cmp x y = 0 ↔ x = y := by unfold cmp; split <;> (try split) <;> omega
theorem cmp_pos (x y : Int) : 0 ≤ cmp x y ↔ y ≤ x := by unfold cmp; split <;> (try split) <;> omega
theorem cmp_le (x y : Int) : cmp x y ≤ 0 ↔ x ≤ y := by unfold cmp; split <;> (try split) <;> omega
theorem cmp_add (x y z : Int) : cmp (x + z) (y + z) = cmp x y := by
  rw [← cmp_sub (x + z), ← cmp_sub x]; congr 1; omega
/-- Of a positive multiple the order is the same. -/
theorem cmp_mul (x y : Int) (k : Nat) : cmp (x * 10 ^ k) (y * 10 ^ k) = cmp x y := by
  rw [← cmp_sub (x * 10 ^ k), ← cmp_sub x, ← Int.sub_mul]
  generalize x - y = v
  have h := neg_pow10 v k
  have h2 : v * 10 ^ k = 0 ↔ v = 0 := by
    have h3 : (0 : Int) < 10 ^ k := Int.pow_pos (by omega)
    constructor
    · intro h1
      rcases Int.mul_eq_zero.1 h1 with h4 | h4
      · exact h4
      · omega
    · rintro rfl; simp
  unfold cmp
  simp only [h, h2]

/-- The quotient, halves away from 0. -/
def quo (a b : Nat) : Nat := a / b + if b ≤ 2 * (a % b) then 1 else 0
theorem quo_mul (a b k : Nat) (hk : 0 < k) : quo (a * k) (b * k) = quo a b := by
  unfold quo
  rw [Nat.mul_div_mul_right _ _ hk, Nat.mul_mod_mul_right]
  congr 1
  have : (b * k ≤ 2 * (a % b * k)) ↔ b ≤ 2 * (a % b) := by
    rw [← Nat.mul_assoc]
    exact ⟨fun h => Nat.le_of_mul_le_mul_right h hk, fun h => Nat.mul_le_mul_right _ h⟩
  simp only [this]
theorem quo_exact (a b : Nat) (hb : 0 < b) : quo (a * b) b = a := by
  unfold quo
  rw [Nat.mul_div_cancel _ hb, Nat.mul_mod_left, if_neg (by omega), Nat.add_zero]

/-- What Div tells of two that stand. -/
def divD (m : Int) (s : Nat) (n : Int) (t : Nat) : DR := tl (sgn (decide (m < 0) != decide (n < 0)) (quo (m.natAbs * 10 ^ (9 + t - s)) n.natAbs)) 9
def addD (m : Int) (s : Nat) (n : Int) (t : Nat) : DR := tl (val m s + val n t) 9
def subD (m : Int) (s : Nat) (n : Int) (t : Nat) : DR := tl (val m s - val n t) 9
def mulD (m : Int) (s : Nat) (n : Int) (t : Nat) : DR := tl (rndI (m * n) (s + t - 9)) (min (s + t) 9)
def roundD (m : Int) (s : Nat) (p : Int) : DR := if p < -18 ∨ 9 < p then ⟨0, 0, 1⟩ else tl (rndI m (s - p).toNat * 10 ^ (-p).toNat) (min s p.toNat)
def floorD (m : Int) (s : Nat) : DR := ⟨m / 10 ^ s, 0, 0⟩
end Go.Proofs.YtmbjmgmnicacpaaDoor
