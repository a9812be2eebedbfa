/- Package u256: Shr, the walks (made by gen_sh.py). -/
import Derived.Test.YtlfabchlblgmbaaDoorUSh1
namespace Go.Proofs.YtlfabchlblgmbaaDoor
set_option linter.unusedVariables false
set_option linter.unusedSimpArgs false
open Go.RowKit
end Go.Proofs.YtlfabchlblgmbaaDoor
