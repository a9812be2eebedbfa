/- Package u256: Div by nothing. -/
import Derived.Test.YtpdgeiflmnhkfaaDoorUDiv
namespace Go.Proofs.YtpdgeiflmnhkfaaDoor
set_option linter.unusedVariables false
set_option linter.unusedSimpArgs false
open Go.RowKit
end Go.Proofs.YtpdgeiflmnhkfaaDoor
