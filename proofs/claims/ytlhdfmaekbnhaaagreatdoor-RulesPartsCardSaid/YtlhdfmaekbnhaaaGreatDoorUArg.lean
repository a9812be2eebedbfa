/- Package u256: an argument of the document's number type, opened. -/
import Derived.Test.YtlhdfmaekbnhaaaGreatDoorU6
import Derived.Test.YtlhdfmaekbnhaaaGreatDoorOpen
namespace Go.Proofs.YtlhdfmaekbnhaaaGreatDoor
set_option linter.unusedVariables false
set_option linter.unusedSimpArgs false
open Go.RowKit
end Go.Proofs.YtlhdfmaekbnhaaaGreatDoor
