/- The reference's round by its contract. Condition: no more than a hundred places. -/
import Derived.Test.YtmbjmgmnicacpaaGreatDoorRow10
namespace Go.Proofs.YtmbjmgmnicacpaaGreatDoor
open Go.RowKit

def FTup (V q : Int) : Value → World → Prop := fun v W => ∃ y, v = .tuple #[y, .int .i64 q] ∧ BigN W y V
theorem st_tup {V q : Int} : Stable EI (FTup V q) := fun v w w' hE h => by
  obtain ⟨y, h1, h2⟩ := h
  exact ⟨y, h1, BigV.ei h2 hE⟩
theorem digs_i64 {m : Int} (h0 : -9223372036854775808 ≤ m) (h1 : m ≤ 9223372036854775807) : (digs m.natAbs).length ≤ 20 := digs_20 (by omega)
end Go.Proofs.YtmbjmgmnicacpaaGreatDoor
