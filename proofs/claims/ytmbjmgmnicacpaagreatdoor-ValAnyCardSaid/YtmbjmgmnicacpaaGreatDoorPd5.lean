/- The reference's ParseDec of no text, by its contract. No condition. -/
import Derived.Test.YtmbjmgmnicacpaaGreatDoorPd1
namespace Go.Proofs.YtmbjmgmnicacpaaGreatDoor
open Go.RowKit

set_option maxRecDepth 100000 in
theorem pd_empty {w : World} {s : ByteArray} (h0 : s.size = 0) :
    Calls Tryz.prog 33 #[.string s] w fun e w' => e = .returned (.tuple #[.agg #[.int .i64 0, .int .i64 0], .int .i64 2]) ∧ Below w.heap.size w w' := by
  have HBL := Lib.hid (bel1 w (.cells #[.int .i64 0, .int .i64 0] 27) (.cells #[.bool false, .slice none 0 0] 98))
  have hK : Hid (Bk ((w.alloc (.cells #[.int .i64 0, .int .i64 0] 27)).alloc (.cells #[.bool false, .slice none 0 0] 98)) w.heap.size 27 #[.int .i64 0, .int .i64 0]) := Lib.hid ((Bk.new w 27 #[.int .i64 0, .int .i64 0]).alloc _)
  have h1 : ¬ (0 : Int) < (s.size : Int) := by omega
  have h2 : ((s.size : Int) == 0) = true := by rw [show (s.size : Int) = 0 by omega]; rfl
  go_enter Tryz.func33, Tryz.ntmps33
  go_wp2
  generalize (w.alloc (.cells #[.int .i64 0, .int .i64 0] 27)).alloc (.cells #[.bool false, .slice none 0 0] 98) = W1 at *
  go_loopw [7, 8] (fun s7 s8 wr => s7 = .int .i64 (-1) ∧ s8 = .int .i64 0 ∧ wr = W1) (fun _ _ _ => 0)
  case atStart => exact ⟨rfl, rfl, rfl⟩
  case round =>
    obtain ⟨rfl, rfl, rfl⟩ := hrel
    have r0 := hK.out.cell 0
    have r1 := hK.out.cell 1
    have y0 := hK.out.frozen 0
    have y1 := hK.out.frozen 1
    have hbel := HBL.out
    clear hK HBL
    go_wp2
    refine bodyPost_ret (v := .tuple #[.agg #[.int .i64 0, .int .i64 0], .int .i64 2]) ?_ rfl ⟨rfl, (hbel.setCell (by simp) _).setCell (by simp) _⟩
    simp [results, Tryz.results33, go_sem, r0, r1]
end Go.Proofs.YtmbjmgmnicacpaaGreatDoor
