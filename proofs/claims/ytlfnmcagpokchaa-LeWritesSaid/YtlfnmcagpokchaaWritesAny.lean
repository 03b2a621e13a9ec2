/- LeWrites by its contract, of whatever bytes. Condition: the bytes read as such. -/
import Derived.Test.YtlfnmcagpokchaaWritesLaw
namespace Go.Proofs.Ytlfnmcagpokchaa
open Go.RowKit

set_option maxRecDepth 100000 in
theorem leWrites_any {w : World} {B n c : Nat} {a k2 k3 : Int} {A : Option Addr} {l : List UInt8} (h : Rd w B 1 A n (l.map bv)) (hB : B ≤ w.heap.size) (h30 : -9223372036854775808 ≤ k3) (h31 : k3 ≤ 9223372036854775807) :
    Calls Try.prog 4 #[.slice A n c, .int .i64 a, .int .i64 k2, .int .i64 k3] w fun e w' => e = .returned (.bool true) ∧ Below w.heap.size w w' := by
  by_cases hn : 200 < n
  · have hn' : (200 : Int) < (n : Int) := by omega
    go_enter Try.func4, Try.ntmps4
    go_wp2_with fail
    refine (known3_any w).mono ?_
    rintro e w0 ⟨rfl, hb0⟩
    go_wp2
    go_ret
    exact ⟨rfl, hb0⟩
  · exact writes_walk h hB (by omega) h30 h31
end Go.Proofs.Ytlfnmcagpokchaa
