/- math/bits.Div64 by its contract: the quotient and the rest of a number of 128 bits by one of 64. Condition: the higher half below the divisor. -/
import Derived.Test.YtmbjmgmnicacpaaDoorW2
import Derived.Test.YtmbjmgmnicacpaaDoorDiv0
import Derived.Deep.CutBlock
namespace Go.Proofs.YtmbjmgmnicacpaaDoor
open Go.RowKit

/-- What is left behind a digit, as it is reckoned. -/
theorem dv_rest {u d Y q r : Nat} (h : u * 4294967296 + d = q * Y + r) (hr : r < 18446744073709551616) :
    ∃ f g m : Nat, IntKind.u64.wrap ((u : Int) * 4294967296) = (f : Int) ∧ IntKind.u64.wrap ((f : Int) + (d : Int)) = (g : Int) ∧ IntKind.u64.wrap ((q : Int) * (Y : Int)) = (m : Int) ∧ IntKind.u64.wrap ((g : Int) - (m : Int)) = (r : Int) := by
  refine ⟨u * 4294967296 % 18446744073709551616, (u * 4294967296 % 18446744073709551616 + d) % 18446744073709551616, q * Y % 18446744073709551616, ?_, ?_, ?_, ?_⟩
  · rw [IntKind.wrap_u64]; omega
  · rw [IntKind.wrap_u64]; omega
  · rw [IntKind.wrap_u64, ← Int.natCast_mul]; omega
  · rw [IntKind.wrap_u64]; omega

