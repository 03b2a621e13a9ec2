/- dec's whole numbers of 128 bits: over, drop, shorten by their contracts. Condition: within the bits. -/
import Derived.Test.YtmbjmgmnicacpaaDoorDiv64
import Derived.Test.YtmbjmgmnicacpaaDoorBox
namespace Go.Proofs.YtmbjmgmnicacpaaDoor
open Go.RowKit

/-- A quotient's halves. -/
theorem hl_div {n k : Nat} (_hn : n < 340282366920938463463374607431768211456) (h0 : 0 < k) :
    hi (n / k) = hi n / k ∧ lo (n / k) = (hi n % k * 18446744073709551616 + lo n) / k ∧ n % k = (hi n % k * 18446744073709551616 + lo n) % k := by
  have e : n = (hi n % k * 18446744073709551616 + lo n) + k * (hi n / k * 18446744073709551616) := by
    have h1 := Nat.div_add_mod (hi n) k
    have h2 := hi_lo n
    have h3 : k * (hi n / k * 18446744073709551616) = k * (hi n / k) * 18446744073709551616 := (Nat.mul_assoc ..).symm
    omega
  have hlt : (hi n % k * 18446744073709551616 + lo n) / k < 18446744073709551616 := by
    refine (Nat.div_lt_iff_lt_mul h0).2 ?_
    have h1 := Nat.mod_lt (hi n) h0
    have h2 := lo_lt n
    omega
  have e1 : n / k = (hi n % k * 18446744073709551616 + lo n) / k + hi n / k * 18446744073709551616 := by
    conv => lhs; rw [e]
    rw [Nat.add_mul_div_left _ _ h0]
  refine ⟨?_, ?_, ?_⟩
  · show n / k / 18446744073709551616 = _
    rw [e1]
    generalize (hi n % k * 18446744073709551616 + lo n) / k = x at *
    generalize hi n / k = y at *
    omega
  · show n / k % 18446744073709551616 = _
    rw [e1]
    generalize (hi n % k * 18446744073709551616 + lo n) / k = x at *
    generalize hi n / k = y at *
    omega
  · conv => lhs; rw [e]
    rw [Nat.add_mul_mod_self_left]

end Go.Proofs.YtmbjmgmnicacpaaDoor
