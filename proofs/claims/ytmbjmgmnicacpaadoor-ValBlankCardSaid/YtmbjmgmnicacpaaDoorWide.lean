/- Whole numbers of 128 bits, sign apart: what add tells. No program; no condition. -/
import Derived.Test.YtmbjmgmnicacpaaDoorFit3
namespace Go.Proofs.YtmbjmgmnicacpaaDoor
/-- The sign and the size of a sum. -/
def adb (a b : Bool) (m n : Nat) : Bool := if a = b then a else if m < n then b else a
def adn (a b : Bool) (m n : Nat) : Nat := if a = b then m + n else if m < n then n - m else m - n
theorem ad_sgn (a b : Bool) (m n : Nat) : sgn (adb a b m n) (adn a b m n) = sgn a m + sgn b n := by
  unfold adb adn sgn
  by_cases h : m < n <;> cases a <;> cases b <;> simp [h] <;> omega
theorem adn_le (a b : Bool) (m n : Nat) : adn a b m n ≤ m + n := by
  unfold adn; split <;> (try split) <;> omega
/-- Without the last digits, one by one: the last one dropped tells. -/
theorem rnd_step (n j : Nat) : n / 10 ^ (j + 1) = n / 10 ^ j / 10 := by rw [Nat.pow_succ, Nat.div_div_eq_div_mul]
end Go.Proofs.YtmbjmgmnicacpaaDoor
