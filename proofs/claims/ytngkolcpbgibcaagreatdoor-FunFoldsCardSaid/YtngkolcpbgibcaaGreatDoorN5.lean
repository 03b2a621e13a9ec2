/- fun.truths by its contract. Condition: values may be. -/
import Derived.Test.YtngkolcpbgibcaaGreatDoorN1
set_option linter.unusedVariables false
set_option linter.unusedSimpArgs false
namespace Go.Proofs.YtngkolcpbgibcaaGreatDoor
open Go.RowKit Go.Shelf
attribute [local go_sem] Oper.semAt_some
def hN (l : List Bool) : Nat := (l.filter id).length
end Go.Proofs.YtngkolcpbgibcaaGreatDoor
