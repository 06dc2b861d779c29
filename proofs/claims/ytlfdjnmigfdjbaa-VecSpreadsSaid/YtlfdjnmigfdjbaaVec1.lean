/- Contracts of vec's calls and the document's own, part 1: sums and products. -/
import Derived.Test.YtlfdjnmigfdjbaaProg
import Derived.Test.YtlfdjnmigfdjbaaBase
import Derived.WalkKit
import Derived.Below
import Derived.Outline
import Derived.Lib.Hide
import Derived.WalkLawsBesides
namespace Go.Proofs.Ytlfdjnmigfdjbaa
open Go.RowKit
set_option linter.unusedVariables false
set_option linter.unusedSimpArgs false

theorem vAdd_any (ax : Int) (ay : Int) (az : Int) (bx : Int) (by_ : Int) (bz : Int) :
    Gives Try.prog 35 #[.agg #[.int .i64 ax, .int .i64 ay, .int .i64 az], .agg #[.int .i64 bx, .int .i64 by_, .int .i64 bz]] (.agg #[.int .i64 (wrap64 (ax + bx)), .int .i64 (wrap64 (ay + by_)), .int .i64 (wrap64 (az + bz))]) := by
  refine Gives.mk fun w => ?_
  go_enter Try.func35, Try.ntmps35
  go_wp2
  refine bodyPost_ret (v := .agg #[.int .i64 (wrap64 (ax + bx)), .int .i64 (wrap64 (ay + by_)), .int .i64 (wrap64 (az + bz))]) (by simp [results, Try.results35, go_sem]) rfl ⟨rfl, (by repeat (first | exact Below.refl _ _ | refine bel_grow ?_ _ | refine bel_alloc ?_ _ | refine bel_set ?_ (by simp) _))⟩

theorem rAdd_any (ax : Int) (ay : Int) (az : Int) (bx : Int) (by_ : Int) (bz : Int) :
    Gives Try.prog 36 #[.agg #[.int .i64 ax, .int .i64 ay, .int .i64 az], .agg #[.int .i64 bx, .int .i64 by_, .int .i64 bz]] (.agg #[.int .i64 (wrap64 (ax + bx)), .int .i64 (wrap64 (ay + by_)), .int .i64 (wrap64 (az + bz))]) := by
  refine Gives.mk fun w => ?_
  go_enter Try.func36, Try.ntmps36
  go_wp2
  refine bodyPost_ret (v := .agg #[.int .i64 (wrap64 (ax + bx)), .int .i64 (wrap64 (ay + by_)), .int .i64 (wrap64 (az + bz))]) (by simp [results, Try.results36, go_sem]) rfl ⟨rfl, (by repeat (first | exact Below.refl _ _ | refine bel_grow ?_ _ | refine bel_alloc ?_ _ | refine bel_set ?_ (by simp) _))⟩

theorem vSub_any (ax : Int) (ay : Int) (az : Int) (bx : Int) (by_ : Int) (bz : Int) :
    Gives Try.prog 37 #[.agg #[.int .i64 ax, .int .i64 ay, .int .i64 az], .agg #[.int .i64 bx, .int .i64 by_, .int .i64 bz]] (.agg #[.int .i64 (wrap64 (ax - bx)), .int .i64 (wrap64 (ay - by_)), .int .i64 (wrap64 (az - bz))]) := by
  refine Gives.mk fun w => ?_
  go_enter Try.func37, Try.ntmps37
  go_wp2
  refine bodyPost_ret (v := .agg #[.int .i64 (wrap64 (ax - bx)), .int .i64 (wrap64 (ay - by_)), .int .i64 (wrap64 (az - bz))]) (by simp [results, Try.results37, go_sem]) rfl ⟨rfl, (by repeat (first | exact Below.refl _ _ | refine bel_grow ?_ _ | refine bel_alloc ?_ _ | refine bel_set ?_ (by simp) _))⟩

theorem rSub_any (ax : Int) (ay : Int) (az : Int) (bx : Int) (by_ : Int) (bz : Int) :
    Gives Try.prog 38 #[.agg #[.int .i64 ax, .int .i64 ay, .int .i64 az], .agg #[.int .i64 bx, .int .i64 by_, .int .i64 bz]] (.agg #[.int .i64 (wrap64 (ax - bx)), .int .i64 (wrap64 (ay - by_)), .int .i64 (wrap64 (az - bz))]) := by
  refine Gives.mk fun w => ?_
  go_enter Try.func38, Try.ntmps38
  go_wp2
  refine bodyPost_ret (v := .agg #[.int .i64 (wrap64 (ax - bx)), .int .i64 (wrap64 (ay - by_)), .int .i64 (wrap64 (az - bz))]) (by simp [results, Try.results38, go_sem]) rfl ⟨rfl, (by repeat (first | exact Below.refl _ _ | refine bel_grow ?_ _ | refine bel_alloc ?_ _ | refine bel_set ?_ (by simp) _))⟩

theorem vScale_any (ax : Int) (ay : Int) (az : Int) (k : Int) :
    Gives Try.prog 39 #[.agg #[.int .i64 ax, .int .i64 ay, .int .i64 az], .int .i64 k] (.agg #[.int .i64 (wrap64 (ax * k)), .int .i64 (wrap64 (ay * k)), .int .i64 (wrap64 (az * k))]) := by
  refine Gives.mk fun w => ?_
  go_enter Try.func39, Try.ntmps39
  go_wp2
  refine bodyPost_ret (v := .agg #[.int .i64 (wrap64 (ax * k)), .int .i64 (wrap64 (ay * k)), .int .i64 (wrap64 (az * k))]) (by simp [results, Try.results39, go_sem]) rfl ⟨rfl, (by repeat (first | exact Below.refl _ _ | refine bel_grow ?_ _ | refine bel_alloc ?_ _ | refine bel_set ?_ (by simp) _))⟩

theorem rScale_any (ax : Int) (ay : Int) (az : Int) (k : Int) :
    Gives Try.prog 40 #[.agg #[.int .i64 ax, .int .i64 ay, .int .i64 az], .int .i64 k] (.agg #[.int .i64 (wrap64 (ax * k)), .int .i64 (wrap64 (ay * k)), .int .i64 (wrap64 (az * k))]) := by
  refine Gives.mk fun w => ?_
  go_enter Try.func40, Try.ntmps40
  go_wp2
  refine bodyPost_ret (v := .agg #[.int .i64 (wrap64 (ax * k)), .int .i64 (wrap64 (ay * k)), .int .i64 (wrap64 (az * k))]) (by simp [results, Try.results40, go_sem]) rfl ⟨rfl, (by repeat (first | exact Below.refl _ _ | refine bel_grow ?_ _ | refine bel_alloc ?_ _ | refine bel_set ?_ (by simp) _))⟩

theorem vDot_any (ax : Int) (ay : Int) (az : Int) (bx : Int) (by_ : Int) (bz : Int) :
    Gives Try.prog 41 #[.agg #[.int .i64 ax, .int .i64 ay, .int .i64 az], .agg #[.int .i64 bx, .int .i64 by_, .int .i64 bz]] (.int .i64 (wrap64 ((wrap64 ((wrap64 (ax * bx)) + (wrap64 (ay * by_)))) + (wrap64 (az * bz))))) := by
  refine Gives.mk fun w => ?_
  go_enter Try.func41, Try.ntmps41
  go_wp2
  go_ret
  exact ⟨rfl, (by repeat (first | exact Below.refl _ _ | refine bel_grow ?_ _ | refine bel_alloc ?_ _ | refine bel_set ?_ (by simp) _))⟩

theorem rDot_any (ax : Int) (ay : Int) (az : Int) (bx : Int) (by_ : Int) (bz : Int) :
    Gives Try.prog 42 #[.agg #[.int .i64 ax, .int .i64 ay, .int .i64 az], .agg #[.int .i64 bx, .int .i64 by_, .int .i64 bz]] (.int .i64 (wrap64 ((wrap64 ((wrap64 (ax * bx)) + (wrap64 (ay * by_)))) + (wrap64 (az * bz))))) := by
  refine Gives.mk fun w => ?_
  go_enter Try.func42, Try.ntmps42
  go_wp2
  go_ret
  exact ⟨rfl, (by repeat (first | exact Below.refl _ _ | refine bel_grow ?_ _ | refine bel_alloc ?_ _ | refine bel_set ?_ (by simp) _))⟩

theorem vCross_any (ax : Int) (ay : Int) (az : Int) (bx : Int) (by_ : Int) (bz : Int) :
    Gives Try.prog 43 #[.agg #[.int .i64 ax, .int .i64 ay, .int .i64 az], .agg #[.int .i64 bx, .int .i64 by_, .int .i64 bz]] (.agg #[.int .i64 (wrap64 ((wrap64 (ay * bz)) - (wrap64 (az * by_)))), .int .i64 (wrap64 ((wrap64 (az * bx)) - (wrap64 (ax * bz)))), .int .i64 (wrap64 ((wrap64 (ax * by_)) - (wrap64 (ay * bx))))]) := by
  refine Gives.mk fun w => ?_
  go_enter Try.func43, Try.ntmps43
  go_wp2
  refine bodyPost_ret (v := .agg #[.int .i64 (wrap64 ((wrap64 (ay * bz)) - (wrap64 (az * by_)))), .int .i64 (wrap64 ((wrap64 (az * bx)) - (wrap64 (ax * bz)))), .int .i64 (wrap64 ((wrap64 (ax * by_)) - (wrap64 (ay * bx))))]) (by simp [results, Try.results43, go_sem]) rfl ⟨rfl, (by repeat (first | exact Below.refl _ _ | refine bel_grow ?_ _ | refine bel_alloc ?_ _ | refine bel_set ?_ (by simp) _))⟩

theorem rCross_any (ax : Int) (ay : Int) (az : Int) (bx : Int) (by_ : Int) (bz : Int) :
    Gives Try.prog 44 #[.agg #[.int .i64 ax, .int .i64 ay, .int .i64 az], .agg #[.int .i64 bx, .int .i64 by_, .int .i64 bz]] (.agg #[.int .i64 (wrap64 ((wrap64 (ay * bz)) - (wrap64 (az * by_)))), .int .i64 (wrap64 ((wrap64 (az * bx)) - (wrap64 (ax * bz)))), .int .i64 (wrap64 ((wrap64 (ax * by_)) - (wrap64 (ay * bx))))]) := by
  refine Gives.mk fun w => ?_
  go_enter Try.func44, Try.ntmps44
  go_wp2
  refine bodyPost_ret (v := .agg #[.int .i64 (wrap64 ((wrap64 (ay * bz)) - (wrap64 (az * by_)))), .int .i64 (wrap64 ((wrap64 (az * bx)) - (wrap64 (ax * bz)))), .int .i64 (wrap64 ((wrap64 (ax * by_)) - (wrap64 (ay * bx))))]) (by simp [results, Try.results44, go_sem]) rfl ⟨rfl, (by repeat (first | exact Below.refl _ _ | refine bel_grow ?_ _ | refine bel_alloc ?_ _ | refine bel_set ?_ (by simp) _))⟩

end Go.Proofs.Ytlfdjnmigfdjbaa
