/- The numbers that the document fixes for layer 2: alive answers true; facts on wrapped sums. -/
import Derived.Test.YtngkimcnolmmoaaMVecB
namespace Go.Proofs.Ytngkimcnolmmoaa
open Go.RowKit
set_option linter.unusedVariables false
set_option linter.unusedSimpArgs false
theorem wrap_bmod (x : Int) : wrap64 x = Int.bmod x 18446744073709551616 := by
  unfold wrap64 Int.bmod; simp only []; split <;> omega
theorem wrap_id {x : Int} (h0 : -9223372036854775808 ≤ x) (h1 : x ≤ 9223372036854775807) : wrap64 x = x := by unfold wrap64; omega
end Go.Proofs.Ytngkimcnolmmoaa
