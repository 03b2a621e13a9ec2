/- LeReads by its contract, of whatever bytes. Condition: the bytes read as such. -/
import Derived.Test.YtlfnmcagpokchaaReadsLaw
namespace Go.Proofs.Ytlfnmcagpokchaa
open Go.RowKit

set_option maxRecDepth 100000 in
theorem leReads_any {w : World} {B n c : Nat} {at_ k : Int} {A : Option Addr} {l : List UInt8} (h : Rd w B 1 A n (l.map bv)) (hB : B ≤ w.heap.size) (hnc : n ≤ c) :
    Calls Try.prog 3 #[.slice A n c, .int .i64 at_, .int .i64 k] w fun e w' => e = .returned (.bool true) ∧ Below w.heap.size w w' := by
  by_cases hn : 200 < n
  · have hn' : (200 : Int) < (n : Int) := by omega
    go_enter Try.func3, Try.ntmps3
    go_wp2_with fail
    refine (known3_any w).mono ?_
    rintro e w0 ⟨rfl, hb0⟩
    go_wp2
    go_ret
    exact ⟨rfl, hb0⟩
  · exact reads_walk h hB (by omega) (num_lt (tkL_len l at_ 1) (by decide)) (num_lt (tkL_len l at_ 2) (by decide)) (num_lt (tkL_len l at_ 4) (by decide)) rfl
      (Lib.hid fun W hr hB => u8_any hr hnc (by omega) hB) (Lib.hid fun W hr hB => low_any (k := 1) hr (by omega) hB (by omega) (by omega))
      (Lib.hid fun W hr hB => u16_any hr hnc (by omega) hB) (Lib.hid fun W hr hB => low_any (k := 2) hr (by omega) hB (by omega) (by omega))
      (Lib.hid fun W hr hB => u32_any hr hnc (by omega) hB) (Lib.hid fun W hr hB => low_any (k := 4) hr (by omega) hB (by omega) (by omega))
      (Lib.hid fun W hr hB => i64_any hr hnc (by omega) hB) (Lib.hid fun W hr hB => low_any (k := 8) hr (by omega) hB (by omega) (by omega))
      (Lib.hid fun W hr hB => bytes_any hr hnc (by omega) hB) (Lib.hid fun W hr hB => getBytes_any hr hnc (by omega) hB)
      (Lib.hid fun W => end_any (by omega)) (Lib.hid fun W => bEnd_any)
end Go.Proofs.Ytlfnmcagpokchaa
