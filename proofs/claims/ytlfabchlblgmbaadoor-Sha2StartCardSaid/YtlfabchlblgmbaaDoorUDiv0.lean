/- Package u256: Div by nothing. -/
import Derived.Test.YtlfabchlblgmbaaDoorUDiv
namespace Go.Proofs.YtlfabchlblgmbaaDoor
set_option linter.unusedVariables false
set_option linter.unusedSimpArgs false
open Go.RowKit
end Go.Proofs.YtlfabchlblgmbaaDoor
