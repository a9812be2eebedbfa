/- Package u256: an argument of the document's number type, opened. -/
import Derived.Test.YtfbhpkhpkaeagaaDoorU6
import Derived.Test.YtfbhpkhpkaeagaaDoorOpen
namespace Go.Proofs.YtfbhpkhpkaeagaaDoor
set_option linter.unusedVariables false
set_option linter.unusedSimpArgs false
open Go.RowKit
end Go.Proofs.YtfbhpkhpkaeagaaDoor
