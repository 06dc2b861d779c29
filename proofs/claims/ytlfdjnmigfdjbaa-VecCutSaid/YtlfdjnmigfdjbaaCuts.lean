/- Imports for walks with cuts. -/
import Derived.Deep.DeepCutAuto
namespace Go.Proofs.Ytlfdjnmigfdjbaa
end Go.Proofs.Ytlfdjnmigfdjbaa
