/- The numbers that the document fixes: alive answers true. -/
import Derived.Test.YtngkimcnolmmoaaMWideB
namespace Go.Proofs.Ytngkimcnolmmoaa
open Go.RowKit
set_option linter.unusedVariables false
set_option linter.unusedSimpArgs false

end Go.Proofs.Ytngkimcnolmmoaa
