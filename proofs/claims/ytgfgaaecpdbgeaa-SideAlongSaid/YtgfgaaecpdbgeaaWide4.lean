/- The contract of wide's call Order. -/
import Derived.Test.YtgfgaaecpdbgeaaWide3
namespace Go.Proofs.Ytgfgaaecpdbgeaa
open Go.RowKit
set_option linter.unusedVariables false
set_option linter.unusedSimpArgs false

theorem order_yes (pn pd qn qd : Int) (a0 : -9223372036854775808 ≤ pn) (a1 : pn ≤ 9223372036854775807) (b0 : -9223372036854775808 ≤ pd) (b1 : pd ≤ 9223372036854775807)
    (c0 : -9223372036854775808 ≤ qn) (c1 : qn ≤ 9223372036854775807) (d0 : -9223372036854775808 ≤ qd) (d1 : qd ≤ 9223372036854775807) (hp : Right pn pd) (hq : Right qn qd) :
    Gives Try.prog 18 #[.agg #[.int .i64 pn, .int .i64 pd], .agg #[.int .i64 qn, .int .i64 qd]] (.tuple #[.int .i64 (cmpOf (pn * qd) (qn * pd)), .bool true]) := by
  refine Gives.mk fun w => ?_
  have f1 := fraction_yes pn pd b0 hp
  have f2 := fraction_yes qn qd d0 hq
  have m1 := mul_any pn qd a0 a1 d0 d1
  have m2 := mul_any qn pd c0 c1 b0 b1
  have k := cmp_any (pn * qd) (qn * pd) (inW_mul _ _ a0 a1 d0 d1) (inW_mul _ _ c0 c1 b0 b1)
  clear hp hq
  go_enter Try.func18, Try.ntmps18
  go_wp2_with (go_at_call 49; first | ((with_reducible refine (f1.at_ _).mono ?_); rintro e w' ⟨rfl, x, rfl⟩) | ((with_reducible refine (f2.at_ _).mono ?_); rintro e w' ⟨rfl, x, rfl⟩))
  refine wp_region_grow (by kernel_rfl) (by kernel_rfl) ?_
  repeat (go_big_quiet_step ((first | (first | with_reducible exact m1.quiet _ | with_reducible exact m1.quiet2 _ _) | (first | with_reducible exact m2.quiet _ | with_reducible exact m2.quiet2 _ _) | (first | with_reducible exact k.quiet _ | with_reducible exact k.quiet2 _ _))))
  refine wpQuiet_nil ?_
  rintro _ ⟨x, rfl⟩
  go_wp2
  go_ret2
  exact ⟨rfl, by repeat (first | exact Below.refl _ _ | refine bel_grow ?_ _ | refine bel_alloc ?_ _)⟩

theorem order_no (pn pd qn qd : Int) (b0 : -9223372036854775808 ≤ pd) (d0 : -9223372036854775808 ≤ qd) (h : ¬ (Right pn pd ∧ Right qn qd)) :
    Gives Try.prog 18 #[.agg #[.int .i64 pn, .int .i64 pd], .agg #[.int .i64 qn, .int .i64 qd]] (.tuple #[.int .i64 0, .bool false]) := by
  refine Gives.mk fun w => ?_
  by_cases hp : Right pn pd
  · have f1 := fraction_yes pn pd b0 hp
    have f2 := fraction_no qn qd d0 (fun hq => h ⟨hp, hq⟩)
    clear hp h
    go_enter Try.func18, Try.ntmps18
    go_wp2_with (go_at_call 49; first | ((with_reducible refine (f1.at_ _).mono ?_); rintro e w' ⟨rfl, x, rfl⟩) | ((with_reducible refine (f2.at_ _).mono ?_); rintro e w' ⟨rfl, x, rfl⟩))
    go_ret2
    exact ⟨rfl, by repeat (first | exact Below.refl _ _ | refine bel_grow ?_ _ | refine bel_alloc ?_ _)⟩
  · have f1 := fraction_no pn pd b0 hp
    clear hp h
    go_enter Try.func18, Try.ntmps18
    go_wp2_with (go_at_call 49; ((with_reducible refine (f1.at_ _).mono ?_); rintro e w' ⟨rfl, x, rfl⟩))
    go_ret2
    exact ⟨rfl, by repeat (first | exact Below.refl _ _ | refine bel_grow ?_ _ | refine bel_alloc ?_ _)⟩
end Go.Proofs.Ytgfgaaecpdbgeaa
