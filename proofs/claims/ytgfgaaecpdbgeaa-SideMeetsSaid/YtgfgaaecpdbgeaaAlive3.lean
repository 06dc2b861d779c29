/- The numbers that the document fixes for layer 3: alive answers true. -/
import Derived.Test.YtgfgaaecpdbgeaaMSideB
namespace Go.Proofs.Ytgfgaaecpdbgeaa
open Go.RowKit
set_option linter.unusedVariables false
set_option linter.unusedSimpArgs false
set_option maxRecDepth 100000 in
theorem alive3_any : Gives Try.prog 22 #[] (.bool true) := by
  refine Gives.mk fun w => ?_
  have m1 := vMeet_any ⟨1, 1, -5⟩ ⟨0, 0, 1⟩ ⟨0, 0, 0⟩ ⟨9, 0, 0⟩ ⟨0, 9, 0⟩
  have m2 := vMeet_any ⟨0, 0, 0⟩ ⟨0, 0, 0⟩ ⟨0, 0, 0⟩ ⟨0, 0, 0⟩ ⟨0, 0, 0⟩
  rw [show hN ⟨1, 1, -5⟩ ⟨0, 0, 1⟩ ⟨0, 0, 0⟩ ⟨9, 0, 0⟩ ⟨0, 9, 0⟩ = 405 from by decide, show hD ⟨1, 1, -5⟩ ⟨0, 0, 1⟩ ⟨0, 0, 0⟩ ⟨9, 0, 0⟩ ⟨0, 9, 0⟩ = 81 from by decide, show hF ⟨1, 1, -5⟩ ⟨0, 0, 1⟩ ⟨0, 0, 0⟩ ⟨9, 0, 0⟩ ⟨0, 9, 0⟩ = false from by decide, show hK ⟨1, 1, -5⟩ ⟨0, 0, 1⟩ ⟨0, 0, 0⟩ ⟨9, 0, 0⟩ ⟨0, 9, 0⟩ = true from by decide, show hE ⟨1, 1, -5⟩ ⟨0, 0, 1⟩ ⟨0, 0, 0⟩ ⟨9, 0, 0⟩ ⟨0, 9, 0⟩ = 0 from by decide] at m1
  rw [show hN ⟨0, 0, 0⟩ ⟨0, 0, 0⟩ ⟨0, 0, 0⟩ ⟨0, 0, 0⟩ ⟨0, 0, 0⟩ = 0 from by decide, show hD ⟨0, 0, 0⟩ ⟨0, 0, 0⟩ ⟨0, 0, 0⟩ ⟨0, 0, 0⟩ ⟨0, 0, 0⟩ = 0 from by decide, show hF ⟨0, 0, 0⟩ ⟨0, 0, 0⟩ ⟨0, 0, 0⟩ ⟨0, 0, 0⟩ ⟨0, 0, 0⟩ = false from by decide, show hK ⟨0, 0, 0⟩ ⟨0, 0, 0⟩ ⟨0, 0, 0⟩ ⟨0, 0, 0⟩ ⟨0, 0, 0⟩ = false from by decide, show hE ⟨0, 0, 0⟩ ⟨0, 0, 0⟩ ⟨0, 0, 0⟩ ⟨0, 0, 0⟩ ⟨0, 0, 0⟩ = 21 from by decide] at m2
  simp only at m1 m2
  go_enter Try.func22, Try.ntmps22
  go_wp2_with (first | (go_at_call 25; first | ((with_reducible refine (m1.at_ _).mono ?_); rintro e w' ⟨rfl, xg, rfl⟩) | ((with_reducible refine (m2.at_ _).mono ?_); rintro e w' ⟨rfl, xg, rfl⟩)))
  go_ret
  exact ⟨rfl, (by repeat (first | exact Below.refl _ _ | refine bel_then ?_ _ | refine bel_grow ?_ _ | refine bel_alloc ?_ _ | refine bel_drew ?_ | refine bel_set ?_ (by simp) _ | refine bel_setRow ?_ (by first | omega | simp; done | exact Nat.le_trans (by simp) (top_le _ _)) _))⟩
end Go.Proofs.Ytgfgaaecpdbgeaa
