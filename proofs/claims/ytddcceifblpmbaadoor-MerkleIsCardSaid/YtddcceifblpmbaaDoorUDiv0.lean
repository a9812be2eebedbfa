/- Package u256: Div by nothing. -/
import Derived.Test.YtddcceifblpmbaaDoorUDiv
namespace Go.Proofs.YtddcceifblpmbaaDoor
set_option linter.unusedVariables false
set_option linter.unusedSimpArgs false
open Go.RowKit
end Go.Proofs.YtddcceifblpmbaaDoor
