/- U256Shifts: the walk of the law. -/
import Derived.Test.YtlfabchlblgmbaaUArg
import Derived.Test.YtlfabchlblgmbaaUSh2
import Derived.Test.YtlfabchlblgmbaaUShc
namespace Go.Proofs.Ytlfabchlblgmbaa
set_option linter.unusedVariables false
set_option linter.unusedSimpArgs false
open Go.RowKit
end Go.Proofs.Ytlfabchlblgmbaa
