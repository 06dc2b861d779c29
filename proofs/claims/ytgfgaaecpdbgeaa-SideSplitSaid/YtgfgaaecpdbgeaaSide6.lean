/- Contracts of the document's own bounds and sums, exact. -/
import Derived.Test.YtgfgaaecpdbgeaaSideL
namespace Go.Proofs.Ytgfgaaecpdbgeaa
open Go.RowKit
set_option linter.unusedVariables false
set_option linter.unusedSimpArgs false
theorem uWithin_any (x y z m : Int) (m0 : 0 ≤ m) (m1 : m ≤ 9223372036854775807) :
    Gives Try.prog 32 #[.agg #[.int .i64 x, .int .i64 y, .int .i64 z], .int .i64 m] (.bool (wiB x y z m)) := by
  refine Gives.mk fun w => ?_
  go_enter Try.func32, Try.ntmps32
  go_wp2
  all_goals
    go_ret
    refine ⟨ret_bool ?_, (by repeat (first | exact Below.refl _ _ | refine bel_then ?_ _ | refine bel_grow ?_ _ | refine bel_alloc ?_ _ | refine bel_drew ?_ | refine bel_set ?_ (by simp) _ | refine bel_setRow ?_ (by first | omega | simp; done | exact Nat.le_trans (by simp) (top_le _ _)) _))⟩
    first | (symm; rw [wiB_iff]; omega) | (symm; apply wiB_no; omega) | (unfold wiB inB; simp [*])
theorem rAdd_P (a b : P3) (h : InP 4611686018427387904 (ad a b)) : Gives Try.prog 34 #[.agg #[.int .i64 a.x, .int .i64 a.y, .int .i64 a.z], .agg #[.int .i64 b.x, .int .i64 b.y, .int .i64 b.z]] (.agg #[.int .i64 (ad a b).x, .int .i64 (ad a b).y, .int .i64 (ad a b).z]) := by
  have k := rAdd_any a.x a.y a.z b.x b.y b.z
  obtain ⟨h1, h2, h3⟩ := h
  rw [show wrap64 (a.x + b.x) = (ad a b).x from wrap_in h1, show wrap64 (a.y + b.y) = (ad a b).y from wrap_in h2, show wrap64 (a.z + b.z) = (ad a b).z from wrap_in h3] at k
  exact k
theorem rScale_P (a : P3) (s : Int) (h : InP 4611686018427387904 (sc a s)) : Gives Try.prog 37 #[.agg #[.int .i64 a.x, .int .i64 a.y, .int .i64 a.z], .int .i64 s] (.agg #[.int .i64 (sc a s).x, .int .i64 (sc a s).y, .int .i64 (sc a s).z]) := by
  have k := rScale_any a.x a.y a.z s
  obtain ⟨h1, h2, h3⟩ := h
  rw [show wrap64 (a.x * s) = (sc a s).x from wrap_in h1, show wrap64 (a.y * s) = (sc a s).y from wrap_in h2, show wrap64 (a.z * s) = (sc a s).z from wrap_in h3] at k
  exact k
theorem alloc_hit (a : Act) (o : Oper) (ho : o.op = .alloc 43) (w : World) : (execOp a.eval o).run Try.prog w = .ok (.value (.pointer (some ⟨w.heap.size, 0, none⟩))) (w.alloc (.cells #[.int .i64 0, .int .i64 0, .bool false, .int .i64 0, .int .i64 0] 43)) := by
  unfold execOp
  rw [ho]
  kernel_rfl
theorem wi_in {a : P3} {m : Int} (h : wiB a.x a.y a.z m = true) : InP m a := ((wiB_iff _ _ _ _).1 h).2
end Go.Proofs.Ytgfgaaecpdbgeaa
