/- dec's whole numbers of 128 bits: drop, shorten by their contracts. Condition: within the bits. -/
import Derived.Test.YtmbjmgmnicacpaaDoorW3
namespace Go.Proofs.YtmbjmgmnicacpaaDoor
open Go.RowKit

/-- The digit that was dropped last. -/
def dig (n : Nat) : Nat → Nat
  | 0 => 0
  | j + 1 => n / 10 ^ j % 10
theorem rnd_dig (n k : Nat) : rnd n k = n / 10 ^ k + if 5 ≤ dig n k then 1 else 0 := by
  cases k with
  | zero => simp [rnd, dig]
  | succ k => rfl

/-- The three cells of a number. -/
def wc3 (b : Bool) (n : Nat) : Array Value := #[.bool b, .int .u64 (hi n : Nat), .int .u64 (lo n : Nat)]

theorem SB.swap {w W : World} {n : Nat} {x y : Nat × TypeId × Array Value} (h : SB w n [x, y] W) : SB w n [y, x] W :=
  ⟨h.bel, h.size, fun z hz => h.bk z (by simp at hz ⊢; rcases hz with h | h <;> simp [h])⟩

theorem strip_b {s m s' n : Nat} (h : strip s' m = strip s n) (hd : s' = 0 ∨ m % 10 ≠ 0) : (strip s n).1 = m ∧ (strip s n).2 = s' := by
  rw [← h, strip_id hd]; exact ⟨rfl, rfl⟩

end Go.Proofs.YtmbjmgmnicacpaaDoor
