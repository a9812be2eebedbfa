/- Package u256: Mul. -/
import Derived.Test.YtfbhpkhpkaeagaaDoorU6
import Derived.Test.YtfbhpkhpkaeagaaDoorMem
namespace Go.Proofs.YtfbhpkhpkaeagaaDoor
set_option linter.unusedVariables false
set_option linter.unusedSimpArgs false
open Go.RowKit
end Go.Proofs.YtfbhpkhpkaeagaaDoor
