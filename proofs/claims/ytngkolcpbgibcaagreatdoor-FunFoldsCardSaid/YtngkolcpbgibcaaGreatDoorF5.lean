/- fun's choices by their contracts. Condition: texts are not too long. -/
import Derived.Test.YtngkolcpbgibcaaGreatDoorF4
set_option linter.unusedVariables false
set_option linter.unusedSimpArgs false
namespace Go.Proofs.YtngkolcpbgibcaaGreatDoor
open Go.RowKit
end Go.Proofs.YtngkolcpbgibcaaGreatDoor
