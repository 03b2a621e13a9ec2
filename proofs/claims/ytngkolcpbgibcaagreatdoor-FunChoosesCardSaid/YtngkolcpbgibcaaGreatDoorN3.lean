/- fun.extreme by its contract. Condition: values may be. -/
import Derived.Test.YtngkolcpbgibcaaGreatDoorN2
set_option linter.unusedVariables false
set_option linter.unusedSimpArgs false
namespace Go.Proofs.YtngkolcpbgibcaaGreatDoor
open Go.RowKit
end Go.Proofs.YtngkolcpbgibcaaGreatDoor
