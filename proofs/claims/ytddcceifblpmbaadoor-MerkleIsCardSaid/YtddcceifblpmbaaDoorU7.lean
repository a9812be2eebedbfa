/- Package u256: Mul. -/
import Derived.Test.YtddcceifblpmbaaDoorU6
import Derived.Test.YtddcceifblpmbaaDoorMem
namespace Go.Proofs.YtddcceifblpmbaaDoor
set_option linter.unusedVariables false
set_option linter.unusedSimpArgs false
open Go.RowKit
end Go.Proofs.YtddcceifblpmbaaDoor
