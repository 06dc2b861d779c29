/- The numbers that the document fixes for layer 2: alive answers true; facts on wrapped sums. -/
import Derived.Test.YtlfdjnmigfdjbaaVec7
namespace Go.Proofs.Ytlfdjnmigfdjbaa
open Go.RowKit
set_option linter.unusedVariables false
set_option linter.unusedSimpArgs false
theorem wrap_bmod (x : Int) : wrap64 x = Int.bmod x 18446744073709551616 := by
  unfold wrap64 Int.bmod; simp only []; split <;> omega
theorem wrap_id {x : Int} (h0 : -9223372036854775808 ≤ x) (h1 : x ≤ 9223372036854775807) : wrap64 x = x := by unfold wrap64; omega
theorem alive2_any : Gives Try.prog 34 #[] (.bool true) := by
  refine Gives.mk fun w => ?_
  have r1 := vRound_any (-1) 2 (by omega) (by omega) (by omega) (by omega)
  have r2 := vRound_any 1 2 (by omega) (by omega) (by omega) (by omega)
  have k := vCut_yes 5 (-3) 1 2 (by omega) (by omega) (by omega) (by omega) (by omega) (by omega) (by omega) (by omega)
  have d := vDot_any 2 0 0 3 0 0
  rw [show rnd (-1) 2 = 0 from by decide] at r1
  rw [show rnd 1 2 = 1 from by decide] at r2
  rw [show cut3 63 2 5 (-3) 1 = (2, -1, 0) from by decide] at k
  rw [show wrap64 (wrap64 (wrap64 (2 * 3) + wrap64 (0 * 0)) + wrap64 (0 * 0)) = 6 from by unfold wrap64; decide] at d
  go_enter Try.func34, Try.ntmps34
  go_wp2_with (first | (go_at_call 49; first | ((with_reducible refine (r1.at_ _).mono ?_); rintro e w' ⟨rfl, xg, rfl⟩) | ((with_reducible refine (r2.at_ _).mono ?_); rintro e w' ⟨rfl, xg, rfl⟩)) | (go_at_call 47; first | ((with_reducible refine (k.at_ _).mono ?_); rintro e w' ⟨rfl, xg, rfl⟩)) | (go_at_call 41; first | ((with_reducible refine (d.at_ _).mono ?_); rintro e w' ⟨rfl, xg, rfl⟩)))
  go_ret
  exact ⟨rfl, (by repeat (first | exact Below.refl _ _ | refine bel_then ?_ _ | refine bel_grow ?_ _ | refine bel_alloc ?_ _ | refine bel_drew ?_ | refine bel_set ?_ (by simp) _ | refine bel_setRow ?_ (by simp) _))⟩
end Go.Proofs.Ytlfdjnmigfdjbaa
