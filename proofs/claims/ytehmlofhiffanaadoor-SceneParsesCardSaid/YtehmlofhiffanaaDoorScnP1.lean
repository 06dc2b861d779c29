/- The program's own scene: what must hold; points and colours. -/
import Derived.Test.YtehmlofhiffanaaDoorScnO
import Derived.WalkLawsBesides
import Derived.Test.YtehmlofhiffanaaDoorProg
import Derived.Test.YtehmlofhiffanaaDoorLeaf
namespace Go.Proofs.YtehmlofhiffanaaDoor
open Go.RowKit
set_option linter.unusedVariables false
set_option linter.unusedSimpArgs false
/-- The program's own panic, by an error. -/
def pan (k : Int) : Ending := .panicked [{ v := .iface 36 (.int .i64 k), recovered := false }]
theorem need_yes (w : World) (k : Int) :
    Calls Tryd.prog 57 #[.bool true, .int .i64 k] w fun e w' => e = .returned (.tuple #[]) ∧ w' = w := by
  go_enter Tryd.func57, Tryd.ntmps57
  go_wp2
  go_end0
  exact ⟨rfl, rfl⟩
theorem need_no (w : World) (k : Int) :
    Calls Tryd.prog 57 #[.bool false, .int .i64 k] w fun e w' => e = .panicked [{ v := .iface 36 (.int .i64 k), recovered := false }] ∧ w' = w := by
  go_enter Tryd.func57, Tryd.ntmps57
  go_wp2
  exact ⟨rfl, rfl, rfl⟩
theorem need_any (w : World) (b : Bool) (k : Int) :
    Calls Tryd.prog 57 #[.bool b, .int .i64 k] w fun e w' => (b = true ∧ e = .returned (.tuple #[]) ∧ w' = w) ∨ (b = false ∧ e = .panicked [{ v := .iface 36 (.int .i64 k), recovered := false }] ∧ w' = w) := by
  cases b
  · exact (need_no w k).mono fun e w' h => .inr ⟨rfl, h.1, h.2⟩
  · exact (need_yes w k).mono fun e w' h => .inl ⟨rfl, h.1, h.2⟩
end Go.Proofs.YtehmlofhiffanaaDoor
