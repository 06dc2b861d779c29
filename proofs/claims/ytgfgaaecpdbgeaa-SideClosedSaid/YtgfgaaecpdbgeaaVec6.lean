/- Contracts of the document's own Bound, of copies and of sameness. -/
import Derived.Test.YtgfgaaecpdbgeaaVec5
import Derived.Test.YtgfgaaecpdbgeaaRegion
namespace Go.Proofs.Ytgfgaaecpdbgeaa
open Go.RowKit
set_option linter.unusedVariables false
set_option linter.unusedSimpArgs false

end Go.Proofs.Ytgfgaaecpdbgeaa
