/- (*sst.parts).putText of any text that str takes by its contract. Conditions: the parts as PI has them, not too long; utf8.ValidString keeps its contract. -/
import Derived.Test.YtllcecnkbndokaaGreatDoorText0
import Derived.Test.YtllcecnkbndokaaGreatDoorText1
import Derived.Test.YtllcecnkbndokaaGreatDoorTx
namespace Go.Proofs.YtllcecnkbndokaaGreatDoor
open Go.RowKit Go.Lib

theorem putText_any {w : World} {base g : Nat} {S : LS} {ps : List Nat} {dv cv pv : Value} (HV : Val w) (h : PI w base g S ps dv cv pv) (hB : base ≤ w.heap.size) (s : ByteArray) (hs : s.size ≤ 100000) (h0 : uE s.data.toList = 0) (hI : Inv S) (hn : S.b.length ≤ 10000000) (hcs : S.cs.length ≤ S.b.length) (hpl : ps.length ≤ 1000000) :
    Calls Tryz.prog 42 #[.pointer (some ⟨g, 0, none⟩), .string s] w fun e w' => e = .returned (.tuple #[]) ∧ ∃ dv' cv' pv', PJ w w' base g (putT S s.data.toList) (ps ++ [S.b.length]) dv cv pv dv' cv' pv' := by
  have hw := flT_le s.data.toList
  rcases (show flT s.data.toList = 0 ∨ flT s.data.toList = 1 by omega) with hf | hf
  · exact putText_any0 HV h hB s hs h0 hf hI hn hcs hpl
  · exact putText_any1 HV h hB s hs h0 hf hI hn hcs hpl
end Go.Proofs.YtllcecnkbndokaaGreatDoor
