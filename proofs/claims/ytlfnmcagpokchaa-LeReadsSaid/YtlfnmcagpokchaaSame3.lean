/- cashbooklaw3.same by its contract. Condition: both rows of bytes read as such. -/
import Derived.Test.YtlfnmcagpokchaaCur
import Derived.Test.YtlfnmcagpokchaaNum
namespace Go.Proofs.Ytlfnmcagpokchaa
open Go.RowKit

def sameB (x at_ : Int) (l l' : List UInt8) : Bool := decide (x = at_ ∧ l = l')

theorem same_any {w : World} {B B' n c n' c' : Nat} {x at_ : Int} {A A' : Option Addr} {l l' : List UInt8} (h : Rd w B 1 A n (l.map bv)) (h' : Rd w B' 1 A' n' (l'.map bv)) (hB : B ≤ w.heap.size) (hB' : B' ≤ w.heap.size) :
    Calls Try.prog 17 #[.agg #[.slice A n c, .int .i64 x], .slice A' n' c', .int .i64 at_] w fun e w' => e = .returned (.bool (sameB x at_ l l')) ∧ Below w.heap.size w w' := by
  have hbel : ∀ o, Below w.heap.size w (w.alloc o) := fun o => (Below.refl _ _).alloc (Nat.le_refl _) o
  have e3 := strOf_eq l l'
  by_cases hx : x = at_
  · have hb : (x == at_) = true := by simp [hx]
    have HF := Lib.hid (show sameB x at_ l l' = decide (l = l') by simp [sameB, hx])
    have r1 := fun o => run_str (c := c) (h.belowMono (hbel o) hB)
    have r2 := fun o => run_str (c := c') (h'.belowMono (hbel o) hB')
    clear hx
    go_enter Try.func17, Try.ntmps17
    go_wp2
    go_ret
    exact ⟨by rw [HF.out]; rfl, hbel _⟩
  · have hb : (x == at_) = false := by simp [hx]
    have HF := Lib.hid (show sameB x at_ l l' = false by simp [sameB, hx])
    clear hx
    go_enter Try.func17, Try.ntmps17
    go_wp2
    go_ret
    exact ⟨by rw [HF.out]; rfl, hbel _⟩
end Go.Proofs.Ytlfnmcagpokchaa
