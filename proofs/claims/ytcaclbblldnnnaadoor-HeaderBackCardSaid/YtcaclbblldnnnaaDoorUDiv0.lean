/- Package u256: Div by nothing. -/
import Derived.Test.YtcaclbblldnnnaaDoorUDiv
namespace Go.Proofs.YtcaclbblldnnnaaDoor
set_option linter.unusedVariables false
set_option linter.unusedSimpArgs false
open Go.RowKit
end Go.Proofs.YtcaclbblldnnnaaDoor
