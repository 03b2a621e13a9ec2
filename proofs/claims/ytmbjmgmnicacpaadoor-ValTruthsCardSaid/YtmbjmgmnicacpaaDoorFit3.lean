/- Decimals, plainly: what the four laws of decimals come to. No program; no condition. -/
import Derived.Test.YtmbjmgmnicacpaaDoorFit2
namespace Go.Proofs.YtmbjmgmnicacpaaDoor

theorem p10_9 : (10 : Int) ^ 9 = 1000000000 := by decide
theorem val_whole (n : Int) : val n 0 = n * 1000000000 := by unfold val; rw [show 9 - 0 = 9 from rfl, p10_9]
theorem val_abs (m : Int) (s : Nat) : (val m s).natAbs = m.natAbs * 10 ^ (9 - s) := natAbs_pow10 m (9 - s)
theorem val_neg (m : Int) (s : Nat) : val (-m) s = -val m s := by unfold val; rw [Int.neg_mul]
theorem val_bd {m : Int} {s : Nat} {b : Nat} (h : m.natAbs ≤ b) : (val m s).natAbs ≤ b * 1000000000 := by
  rw [val_abs]
  refine Nat.mul_le_mul h ?_
  have : 10 ^ (9 - s) ≤ 10 ^ 9 := Nat.pow_le_pow_right (by omega) (by omega)
  omega
theorem abs_val (m : Int) (s : Nat) : m.natAbs ≤ (val m s).natAbs := by
  rw [val_abs]; exact Nat.le_mul_of_pos_right _ (pow10_pos _)

/-- A number of 32 bits of any places. -/
structure Sm (m : Int) (s : Nat) : Prop where
  gd : Gd m s
  bd : (val m s).natAbs ≤ 2147483648000000000
theorem sm_tl {v : Int} {s : Nat} (hs : s ≤ 9) (h : v.natAbs ≤ 2147483648) : (tl v s).e = 0 ∧ Sm (tl v s).m (tl v s).s := by
  have h0 : (tl v s).e = 0 := tl_small (by omega)
  obtain ⟨h1, h2⟩ := tl_ok hs h0
  refine ⟨h0, h1, ?_⟩
  rw [h2]
  exact val_bd (s := s) h

section
variable {m n : Int} {s t : Nat}
theorem add_comm' (m n : Int) (s t : Nat) : addD m s n t = addD n t m s := by unfold addD; rw [Int.add_comm]
theorem add_small (hx : Sm m s) (hy : Sm n t) : (addD m s n t).e = 0 := by
  have h1 := hx.bd; have h2 := hy.bd
  exact tl_small (by omega)
theorem sub_small (hx : Sm m s) (hy : Sm n t) : (subD m s n t).e = 0 := by
  have h1 := hx.bd; have h2 := hy.bd
  exact tl_small (by omega)
theorem add_ok (h : (addD m s n t).e = 0) : Gd (addD m s n t).m (addD m s n t).s ∧ val (addD m s n t).m (addD m s n t).s = val m s + val n t := by
  obtain ⟨h1, h2⟩ := tl_ok (v := val m s + val n t) (s := 9) (Nat.le_refl _) h
  exact ⟨h1, by unfold addD; rw [h2]; simp⟩
theorem sub_ok (h : (subD m s n t).e = 0) : Gd (subD m s n t).m (subD m s n t).s ∧ val (subD m s n t).m (subD m s n t).s = val m s - val n t := by
  obtain ⟨h1, h2⟩ := tl_ok (v := val m s - val n t) (s := 9) (Nat.le_refl _) h
  exact ⟨h1, by unfold subD; rw [h2]; simp⟩
/-- What is added is taken away again. -/
theorem sub_add (hx : Gd m s) {p : Int} {k : Nat} (h : val p k = val m s + val n t) : subD p k n t = ⟨m, s, 0⟩ := by
  unfold subD
  rw [h, show val m s + val n t - val n t = val m s by omega, tl_val hx]
theorem mul_comm' (m n : Int) (s t : Nat) : mulD m s n t = mulD n t m s := by unfold mulD; rw [Int.mul_comm, Nat.add_comm]
theorem mul_whole (hs : s ≤ 9) (c : Int) : mulD m s c 0 = tl (m * c) s := by
  unfold mulD
  rw [show s + 0 - 9 = 0 by omega, rndI_zero, show min (s + 0) 9 = s by omega]
/-- What is multiplied by a whole number is divided by it again. -/
theorem div_mul (hx : Gd m s) {c v : Int} {k : Nat} (hc : c ≠ 0) (_hk : k ≤ 9) (h : val v k = val m s * c) : divD v k c 0 = ⟨m, s, 0⟩ := by
  have e1 : v.natAbs * 10 ^ (9 + 0 - k) = (val m s).natAbs * c.natAbs := by rw [Nat.add_zero, ← val_abs, h, Int.natAbs_mul]
  unfold divD
  rw [e1, quo_exact _ _ (by omega)]
  have e2 : sgn (decide (v < 0) != decide (c < 0)) (val m s).natAbs = val m s := by
    rcases Int.lt_trichotomy (val m s) 0 with h1 | h1 | h1
    · have hv : decide (v < 0) = !decide (c < 0) := by
        rcases Int.lt_or_lt_of_ne hc with h2 | h2
        · have h3 : 0 < val v k := by rw [h]; exact Int.mul_pos_of_neg_of_neg h1 h2
          have h4 : ¬ v < 0 := by intro h5; have := (neg_pow10 v (9 - k)).2 h5; unfold val at h3; omega
          simp [h4, h2]
        · have h3 : val v k < 0 := by rw [h]; exact Int.mul_neg_of_neg_of_pos h1 h2
          have h4 : v < 0 := (neg_pow10 v (9 - k)).1 h3
          have h5 : ¬ c < 0 := by omega
          simp [h4, h5]
      rw [hv]
      unfold sgn
      cases decide (c < 0) <;> simp <;> omega
    · rw [h1]; unfold sgn; split <;> rfl
    · have hv : decide (v < 0) = decide (c < 0) := by
        rcases Int.lt_or_lt_of_ne hc with h2 | h2
        · have h3 : val v k < 0 := by rw [h]; exact Int.mul_neg_of_pos_of_neg h1 h2
          have h4 : v < 0 := (neg_pow10 v (9 - k)).1 h3
          simp [h4, h2]
        · have h3 : 0 < val v k := by rw [h]; exact Int.mul_pos h1 h2
          have h4 : ¬ v < 0 := by intro h5; have := (neg_pow10 v (9 - k)).2 h5; unfold val at h3; omega
          have h5 : ¬ c < 0 := by omega
          simp [h4, h5]
      rw [hv]
      unfold sgn
      simp; omega
  rw [e2, tl_val hx]

theorem val_floor (hs : s ≤ 9) : val m s - val (m / 10 ^ s) 0 = (m % 10 ^ s) * 10 ^ (9 - s) := by
  have h := Int.mul_ediv_add_emod m (10 ^ s)
  unfold val
  conv => lhs; lhs; rw [← h]
  rw [Int.add_mul, Int.mul_comm (10 ^ s) (m / 10 ^ s), Int.mul_assoc, ← Int.pow_add, show s + (9 - s) = 9 by omega, show 9 - 0 = 9 from rfl]
  omega
/-- A decimal's rest above its floor. -/
theorem rest_ok (hx : Gd m s) : (subD m s (m / 10 ^ s) 0).e = 0 ∧ 0 ≤ val m s - val (m / 10 ^ s) 0 ∧ val m s - val (m / 10 ^ s) 0 < 1000000000 := by
  have h9 := hx.s9
  have hp : (0 : Int) < 10 ^ s := Int.pow_pos (by omega)
  have hq : (0 : Int) < 10 ^ (9 - s) := Int.pow_pos (by omega)
  have h1 := Int.emod_nonneg m (Int.ne_of_gt hp)
  have h2 := Int.emod_lt_of_pos m hp
  have h3 : 0 ≤ val m s - val (m / 10 ^ s) 0 := by rw [val_floor h9]; exact Int.mul_nonneg h1 (Int.le_of_lt hq)
  have h4 : val m s - val (m / 10 ^ s) 0 < 1000000000 := by
    rw [val_floor h9]
    have e : (10 : Int) ^ s * 10 ^ (9 - s) = 1000000000 := by rw [← Int.pow_add, show s + (9 - s) = 9 by omega, p10_9]
    rw [← e]
    exact Int.mul_lt_mul_of_pos_right h2 hq
  exact ⟨tl_small (by omega), h3, h4⟩
theorem floor_bd (hx : Gd m s) : -9223372036854775808 ≤ m / 10 ^ s ∧ m / 10 ^ s ≤ 9223372036854775807 := by
  have hp : (0 : Int) < 10 ^ s := Int.pow_pos (by omega)
  have h1 := hx.lo
  have h2 := hx.hi
  have h4 : (1 : Int) ≤ 10 ^ s := by omega
  constructor
  · refine (Int.le_ediv_iff_mul_le hp).2 ?_
    have h5 : (-9223372036854775808) * (10 : Int) ^ s ≤ (-9223372036854775808) * 1 := Int.mul_le_mul_of_nonpos_left (by omega) h4
    omega
  · rcases Int.lt_or_le m 0 with h | h
    · have := Int.ediv_neg_of_neg_of_pos h hp; omega
    · have := Int.ediv_le_self (10 ^ s) h; omega
theorem gd_floor (hx : Gd m s) : Gd (m / 10 ^ s) 0 := ⟨(floor_bd hx).1, (floor_bd hx).2, by omega, .inl rfl⟩

theorem round_in {k : Nat} (hk : k ≤ 9) : roundD m s k = tl (rndI m (s - k)) (min s k) := by
  unfold roundD
  rw [if_neg (by omega), show ((s : Int) - (k : Int)).toNat = s - k by omega, show (-(k : Int)).toNat = 0 by omega, show ((k : Int)).toNat = k by omega]
  simp
theorem rndI_abs (v : Int) (k : Nat) : (rndI v k).natAbs ≤ v.natAbs + 1 := by
  unfold rndI; rw [sgn_abs]; exact rnd_le _ _
theorem tl_s (v : Int) (s : Nat) : (tl v s).s ≤ s := by
  have := (strip_spec s v.natAbs).1
  unfold tl tlb
  split <;> simp <;> omega
theorem strip_abs (v : Int) (s : Nat) : (tl v s).m.natAbs ≤ v.natAbs := by
  have := strip_le s v.natAbs
  unfold tl tlb
  split
  · simp only [sgn_abs]; exact this
  · simp
/-- Rounded: it stands, no more places than asked for, once more it is the same. -/
theorem round_ok (hx : Gd m s) (hb : m.natAbs ≤ 9223372036854776) {k : Nat} (hk : k ≤ 9) : (roundD m s k).e = 0 ∧ (roundD m s k).s ≤ k ∧ Gd (roundD m s k).m (roundD m s k).s ∧ roundD (roundD m s k).m (roundD m s k).s k = roundD m s k := by
  have h9 := hx.s9
  rw [round_in hk]
  have h0 : (tl (rndI m (s - k)) (min s k)).e = 0 := tl_small (by have := rndI_abs m (s - k); omega)
  have hs := tl_s (rndI m (s - k)) (min s k)
  obtain ⟨h1, h2⟩ := tl_ok (by omega) h0
  refine ⟨h0, by omega, h1, ?_⟩
  rw [round_in hk]
  generalize hR : tl (rndI m (s - k)) (min s k) = R at *
  rw [show R.s - k = 0 by omega, rndI_zero, show min R.s k = R.s by omega, tl_gd h1, ← h0]
theorem round_val (hx : Gd m s) (hb : m.natAbs ≤ 9223372036854776) {k : Nat} (hk : k ≤ 9) :
    (s ≤ k → roundD m s k = ⟨m, s, 0⟩) ∧ (k < s → (val (roundD m s k).m (roundD m s k).s - val m s).natAbs ≤ (val 5 (k + 1)).natAbs) := by
  have h9 := hx.s9
  constructor
  · intro h
    rw [round_in hk, show s - k = 0 by omega, rndI_zero, show min s k = s by omega, tl_gd hx]
  · intro h
    rw [round_in hk]
    have h0 : (tl (rndI m (s - k)) (min s k)).e = 0 := tl_small (by have := rndI_abs m (s - k); omega)
    obtain ⟨h1, h2⟩ := tl_ok (by omega) h0
    rw [h2]
    obtain ⟨j, rfl⟩ : ∃ j, s = k + j + 1 := ⟨s - k - 1, by omega⟩
    have e1 : k + j + 1 - k = j + 1 := by omega
    have e2 : min (k + j + 1) k = k := by omega
    rw [e1, e2]
    have e3 : rndI m (j + 1) * 10 ^ (9 - k) - val m (k + j + 1) = (rndI m (j + 1) * 10 ^ (j + 1) - m) * 10 ^ (9 - (k + j + 1)) := by
      unfold val
      rw [Int.sub_mul, Int.mul_assoc, ← Int.pow_add, show j + 1 + (9 - (k + j + 1)) = 9 - k by omega]
    rw [e3, natAbs_pow10, val_abs]
    have h3 := rndI_near m j
    have e4 : (5 : Int).natAbs * 10 ^ (9 - (k + 1)) = 5 * 10 ^ j * 10 ^ (9 - (k + j + 1)) := by
      rw [Nat.mul_assoc, ← Nat.pow_add, show j + (9 - (k + j + 1)) = 9 - (k + 1) by omega]; rfl
    rw [e4]
    exact Nat.mul_le_mul_right _ h3
end
end Go.Proofs.YtmbjmgmnicacpaaDoor
