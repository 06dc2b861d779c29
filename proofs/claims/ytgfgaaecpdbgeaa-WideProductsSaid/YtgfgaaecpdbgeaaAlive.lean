/- The numbers that the document fixes: alive answers true. -/
import Derived.Test.YtgfgaaecpdbgeaaMWideB
namespace Go.Proofs.Ytgfgaaecpdbgeaa
open Go.RowKit
set_option linter.unusedVariables false
set_option linter.unusedSimpArgs false

theorem alive_any : Gives Try.prog 13 #[] (.bool true) := by
  refine Gives.mk fun w => ?_
  have o1 := of_any (-7) (by omega) (by omega)
  have o2 := of_any (-4) (by omega) (by omega)
  have k := div_neg (-7) 2 (by unfold InW; omega) (by omega) (by omega) (by omega)
  rw [show (-7 : Int) / 2 = -4 from by decide, show (-7 : Int) % 2 = 1 from by decide] at k
  have r := order_yes 1 3 2 6 (by omega) (by omega) (by omega) (by omega) (by omega) (by omega) (by omega) (by omega) (.inl (by omega)) (.inl (by omega))
  rw [show cmpOf (1 * 6) (2 * 3) = 0 from by decide] at r
  have m := mul_any 1099511627776 1099511627776 (by omega) (by omega) (by omega) (by omega)
  rw [show hiOf (1099511627776 * 1099511627776) = 65536 from by decide, show loOf (1099511627776 * 1099511627776) = 0 from by decide] at m
  go_enter Try.func13, Try.ntmps13
  go_wp2_with (first | (go_at_call 38; ((with_reducible refine (o1.at_ _).mono ?_); rintro e w' ⟨rfl, x, rfl⟩)) | (go_at_call 14; ((with_reducible refine (k.at_ _).mono ?_); rintro e w' ⟨rfl, x, rfl⟩)) | (go_at_call 18; ((with_reducible refine (r.at_ _).mono ?_); rintro e w' ⟨rfl, x, rfl⟩)))
  refine wp_region_grow (by kernel_rfl) (by kernel_rfl) ?_
  repeat (go_big_quiet_step ((first | (first | with_reducible exact o2.quiet _ | with_reducible exact o2.quiet2 _ _) | (first | with_reducible exact m.quiet _ | with_reducible exact m.quiet2 _ _))))
  refine wpQuiet_nil ?_
  rintro _ ⟨x, rfl⟩
  go_wp2
  go_ret
  exact ⟨rfl, by repeat (first | exact Below.refl _ _ | refine bel_grow ?_ _ | refine bel_alloc ?_ _)⟩
end Go.Proofs.Ytgfgaaecpdbgeaa
