/- An argument that is an int. -/
import Derived.Test.YtkekjeggjaefjaaDoorProg
import Derived.Test.YtkekjeggjaefjaaDoorLeaf
import Derived.Test.YtkekjeggjaefjaaDoorOpenS
namespace Go.Proofs.YtkekjeggjaefjaaDoor
open Go.ChangeShapes Go.WideShapes Go.ChangeAt Go.RowKit
set_option linter.unusedVariables false
set_option linter.unusedSimpArgs false
section
variable {H : Type} {enc : TypeId × Value → H} {w : World} {base b0 : Nat} {spare : Nat → Bool} {held : Bool} {v : Value} {d : DataW H} {p : List MemPlace} {r : Reach}
theorem open_int64 (hv : Value.okWide Tryd.prog w r b0 3 v) (h : DataW.Trod enc Tryd.prog w base spare held 3 v d p) : ∃ a : Int, v = .int .i64 a ∧ (-9223372036854775808 ≤ a ∧ a ≤ 9223372036854775807) := by
  obtain ⟨a, rfl, _, _, wa⟩ := open_int Tryd.underlying3 hv h
  exact ⟨a, rfl, bounds_i64 wa⟩
end
end Go.Proofs.YtkekjeggjaefjaaDoor
