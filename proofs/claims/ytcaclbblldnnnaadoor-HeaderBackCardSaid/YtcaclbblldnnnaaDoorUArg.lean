/- Package u256: an argument of the document's number type, opened. -/
import Derived.Test.YtcaclbblldnnnaaDoorU6
import Derived.Test.YtcaclbblldnnnaaDoorOpen
namespace Go.Proofs.YtcaclbblldnnnaaDoor
set_option linter.unusedVariables false
set_option linter.unusedSimpArgs false
open Go.RowKit
end Go.Proofs.YtcaclbblldnnnaaDoor
