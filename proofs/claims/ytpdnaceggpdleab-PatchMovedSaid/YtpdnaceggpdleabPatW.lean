/- The laws of patch: the points along a side. -/
import Derived.Test.YtpdnaceggpdleabC19
namespace Go.Proofs.Ytpdnaceggpdleab
open Go.RowKit
set_option linter.unusedVariables false
set_option linter.unusedSimpArgs false
set_option linter.unnecessarySimpa false
set_option maxRecDepth 100000
end Go.Proofs.Ytpdnaceggpdleab
