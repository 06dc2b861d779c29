/- Arguments opened: points and triangles. -/
import Derived.Test.YtgfgaaecpdbgeaaProg
import Derived.Test.YtgfgaaecpdbgeaaOpenV
import Derived.Test.YtgfgaaecpdbgeaaSideM
namespace Go.Proofs.Ytgfgaaecpdbgeaa
open Go.ChangeShapes Go.WideShapes Go.ChangeAt Go.RowKit
set_option linter.unusedVariables false
set_option linter.unusedSimpArgs false
section
variable {H : Type} {enc : TypeId × Value → H} {w : World} {base b0 : Nat} {spare : Nat → Bool} {held : Bool} {v : Value} {d : DataW H} {p : List MemPlace} {r : Reach}
def In3 (a : P3) : Prop := In64 a.x ∧ In64 a.y ∧ In64 a.z
theorem open_V3 (hv : Value.okWide Try.prog w r b0 36 v) (h : DataW.Trod enc Try.prog w base spare held 36 v d p) :
    ∃ a : P3, v = .agg #[.int .i64 a.x, .int .i64 a.y, .int .i64 a.z] ∧ In3 a := by
  obtain ⟨x, y, z, rfl, hx, hy, hz⟩ := open_V hv h
  exact ⟨⟨x, y, z⟩, rfl, hx, hy, hz⟩
theorem cellsTri : Try.prog.cellsOf 38 = 9 := by kernel_rfl
theorem leavesTri : leavesAt Try.prog 10 0 38 = (List.range 9).map fun i => (i, 3) := by kernel_rfl
theorem open_T3 (hv : Value.okWide Try.prog w r b0 38 v) (h : DataW.Trod enc Try.prog w base spare held 38 v d p) :
    ∃ a b c : P3, v = .agg #[.int .i64 a.x, .int .i64 a.y, .int .i64 a.z, .int .i64 b.x, .int .i64 b.y, .int .i64 b.z, .int .i64 c.x, .int .i64 c.y, .int .i64 c.z] ∧ In3 a ∧ In3 b ∧ In3 c := by
  obtain ⟨g, rfl, hb⟩ := open_ints_agg Try.underlying38 cellsTri leavesTri Try.underlying3 hv h
  exact ⟨⟨g 0, g 1, g 2⟩, ⟨g 3, g 4, g 5⟩, ⟨g 6, g 7, g 8⟩, rfl, ⟨hb 0 (by omega), hb 1 (by omega), hb 2 (by omega)⟩, ⟨hb 3 (by omega), hb 4 (by omega), hb 5 (by omega)⟩, hb 6 (by omega), hb 7 (by omega), hb 8 (by omega)⟩
end
end Go.Proofs.Ytgfgaaecpdbgeaa
