/- Contracts of vec's calls and the document's own, part 1: sums and products. -/
import Derived.Test.YtgfgaaecpdbgeaaProg
import Derived.Test.YtgfgaaecpdbgeaaBase
import Derived.WalkKit
import Derived.Below
import Derived.Outline
import Derived.Lib.Hide
import Derived.WalkLawsBesides
namespace Go.Proofs.Ytgfgaaecpdbgeaa
open Go.RowKit
set_option linter.unusedVariables false
set_option linter.unusedSimpArgs false

theorem rAdd_any (ax : Int) (ay : Int) (az : Int) (bx : Int) (by_ : Int) (bz : Int) :
    Gives Try.prog 34 #[.agg #[.int .i64 ax, .int .i64 ay, .int .i64 az], .agg #[.int .i64 bx, .int .i64 by_, .int .i64 bz]] (.agg #[.int .i64 (wrap64 (ax + bx)), .int .i64 (wrap64 (ay + by_)), .int .i64 (wrap64 (az + bz))]) := by
  refine Gives.mk fun w => ?_
  go_enter Try.func34, Try.ntmps34
  go_wp2
  refine bodyPost_ret (v := .agg #[.int .i64 (wrap64 (ax + bx)), .int .i64 (wrap64 (ay + by_)), .int .i64 (wrap64 (az + bz))]) (by simp [results, Try.results34, go_sem]) rfl ⟨rfl, (by repeat (first | exact Below.refl _ _ | refine bel_grow ?_ _ | refine bel_alloc ?_ _ | refine bel_set ?_ (by simp) _))⟩

theorem vSub_any (ax : Int) (ay : Int) (az : Int) (bx : Int) (by_ : Int) (bz : Int) :
    Gives Try.prog 56 #[.agg #[.int .i64 ax, .int .i64 ay, .int .i64 az], .agg #[.int .i64 bx, .int .i64 by_, .int .i64 bz]] (.agg #[.int .i64 (wrap64 (ax - bx)), .int .i64 (wrap64 (ay - by_)), .int .i64 (wrap64 (az - bz))]) := by
  refine Gives.mk fun w => ?_
  go_enter Try.func56, Try.ntmps56
  go_wp2
  refine bodyPost_ret (v := .agg #[.int .i64 (wrap64 (ax - bx)), .int .i64 (wrap64 (ay - by_)), .int .i64 (wrap64 (az - bz))]) (by simp [results, Try.results56, go_sem]) rfl ⟨rfl, (by repeat (first | exact Below.refl _ _ | refine bel_grow ?_ _ | refine bel_alloc ?_ _ | refine bel_set ?_ (by simp) _))⟩

theorem rSub_any (ax : Int) (ay : Int) (az : Int) (bx : Int) (by_ : Int) (bz : Int) :
    Gives Try.prog 33 #[.agg #[.int .i64 ax, .int .i64 ay, .int .i64 az], .agg #[.int .i64 bx, .int .i64 by_, .int .i64 bz]] (.agg #[.int .i64 (wrap64 (ax - bx)), .int .i64 (wrap64 (ay - by_)), .int .i64 (wrap64 (az - bz))]) := by
  refine Gives.mk fun w => ?_
  go_enter Try.func33, Try.ntmps33
  go_wp2
  refine bodyPost_ret (v := .agg #[.int .i64 (wrap64 (ax - bx)), .int .i64 (wrap64 (ay - by_)), .int .i64 (wrap64 (az - bz))]) (by simp [results, Try.results33, go_sem]) rfl ⟨rfl, (by repeat (first | exact Below.refl _ _ | refine bel_grow ?_ _ | refine bel_alloc ?_ _ | refine bel_set ?_ (by simp) _))⟩

theorem rScale_any (ax : Int) (ay : Int) (az : Int) (k : Int) :
    Gives Try.prog 37 #[.agg #[.int .i64 ax, .int .i64 ay, .int .i64 az], .int .i64 k] (.agg #[.int .i64 (wrap64 (ax * k)), .int .i64 (wrap64 (ay * k)), .int .i64 (wrap64 (az * k))]) := by
  refine Gives.mk fun w => ?_
  go_enter Try.func37, Try.ntmps37
  go_wp2
  refine bodyPost_ret (v := .agg #[.int .i64 (wrap64 (ax * k)), .int .i64 (wrap64 (ay * k)), .int .i64 (wrap64 (az * k))]) (by simp [results, Try.results37, go_sem]) rfl ⟨rfl, (by repeat (first | exact Below.refl _ _ | refine bel_grow ?_ _ | refine bel_alloc ?_ _ | refine bel_set ?_ (by simp) _))⟩

theorem vDot_any (ax : Int) (ay : Int) (az : Int) (bx : Int) (by_ : Int) (bz : Int) :
    Gives Try.prog 55 #[.agg #[.int .i64 ax, .int .i64 ay, .int .i64 az], .agg #[.int .i64 bx, .int .i64 by_, .int .i64 bz]] (.int .i64 (wrap64 ((wrap64 ((wrap64 (ax * bx)) + (wrap64 (ay * by_)))) + (wrap64 (az * bz))))) := by
  refine Gives.mk fun w => ?_
  go_enter Try.func55, Try.ntmps55
  go_wp2
  go_ret
  exact ⟨rfl, (by repeat (first | exact Below.refl _ _ | refine bel_grow ?_ _ | refine bel_alloc ?_ _ | refine bel_set ?_ (by simp) _))⟩

theorem rDot_any (ax : Int) (ay : Int) (az : Int) (bx : Int) (by_ : Int) (bz : Int) :
    Gives Try.prog 35 #[.agg #[.int .i64 ax, .int .i64 ay, .int .i64 az], .agg #[.int .i64 bx, .int .i64 by_, .int .i64 bz]] (.int .i64 (wrap64 ((wrap64 ((wrap64 (ax * bx)) + (wrap64 (ay * by_)))) + (wrap64 (az * bz))))) := by
  refine Gives.mk fun w => ?_
  go_enter Try.func35, Try.ntmps35
  go_wp2
  go_ret
  exact ⟨rfl, (by repeat (first | exact Below.refl _ _ | refine bel_grow ?_ _ | refine bel_alloc ?_ _ | refine bel_set ?_ (by simp) _))⟩

theorem vCross_any (ax : Int) (ay : Int) (az : Int) (bx : Int) (by_ : Int) (bz : Int) :
    Gives Try.prog 61 #[.agg #[.int .i64 ax, .int .i64 ay, .int .i64 az], .agg #[.int .i64 bx, .int .i64 by_, .int .i64 bz]] (.agg #[.int .i64 (wrap64 ((wrap64 (ay * bz)) - (wrap64 (az * by_)))), .int .i64 (wrap64 ((wrap64 (az * bx)) - (wrap64 (ax * bz)))), .int .i64 (wrap64 ((wrap64 (ax * by_)) - (wrap64 (ay * bx))))]) := by
  refine Gives.mk fun w => ?_
  go_enter Try.func61, Try.ntmps61
  go_wp2
  refine bodyPost_ret (v := .agg #[.int .i64 (wrap64 ((wrap64 (ay * bz)) - (wrap64 (az * by_)))), .int .i64 (wrap64 ((wrap64 (az * bx)) - (wrap64 (ax * bz)))), .int .i64 (wrap64 ((wrap64 (ax * by_)) - (wrap64 (ay * bx))))]) (by simp [results, Try.results61, go_sem]) rfl ⟨rfl, (by repeat (first | exact Below.refl _ _ | refine bel_grow ?_ _ | refine bel_alloc ?_ _ | refine bel_set ?_ (by simp) _))⟩

theorem rCross_any (ax : Int) (ay : Int) (az : Int) (bx : Int) (by_ : Int) (bz : Int) :
    Gives Try.prog 36 #[.agg #[.int .i64 ax, .int .i64 ay, .int .i64 az], .agg #[.int .i64 bx, .int .i64 by_, .int .i64 bz]] (.agg #[.int .i64 (wrap64 ((wrap64 (ay * bz)) - (wrap64 (az * by_)))), .int .i64 (wrap64 ((wrap64 (az * bx)) - (wrap64 (ax * bz)))), .int .i64 (wrap64 ((wrap64 (ax * by_)) - (wrap64 (ay * bx))))]) := by
  refine Gives.mk fun w => ?_
  go_enter Try.func36, Try.ntmps36
  go_wp2
  refine bodyPost_ret (v := .agg #[.int .i64 (wrap64 ((wrap64 (ay * bz)) - (wrap64 (az * by_)))), .int .i64 (wrap64 ((wrap64 (az * bx)) - (wrap64 (ax * bz)))), .int .i64 (wrap64 ((wrap64 (ax * by_)) - (wrap64 (ay * bx))))]) (by simp [results, Try.results36, go_sem]) rfl ⟨rfl, (by repeat (first | exact Below.refl _ _ | refine bel_grow ?_ _ | refine bel_alloc ?_ _ | refine bel_set ?_ (by simp) _))⟩

end Go.Proofs.Ytgfgaaecpdbgeaa
