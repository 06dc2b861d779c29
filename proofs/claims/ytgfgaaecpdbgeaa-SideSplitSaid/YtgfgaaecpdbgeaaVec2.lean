/- Contracts of vec's calls and the document's own, part 2: boxes, bounds, rounding. -/
import Derived.Test.YtgfgaaecpdbgeaaVec1
namespace Go.Proofs.Ytgfgaaecpdbgeaa
open Go.RowKit
set_option linter.unusedVariables false
set_option linter.unusedSimpArgs false
/-- Is a point within a box? -/
def inB (lx ly lz hx hy hz x y z : Int) : Bool := decide (lx ≤ x) && decide (x ≤ hx) && (decide (ly ≤ y) && decide (y ≤ hy)) && (decide (lz ≤ z) && decide (z ≤ hz))
theorem inB_iff (lx ly lz hx hy hz x y z : Int) : inB lx ly lz hx hy hz x y z = true ↔ (lx ≤ x ∧ x ≤ hx) ∧ (ly ≤ y ∧ y ≤ hy) ∧ lz ≤ z ∧ z ≤ hz := by
  unfold inB; simp; omega
theorem inB_no (lx ly lz hx hy hz x y z : Int) (h : ¬ ((lx ≤ x ∧ x ≤ hx) ∧ (ly ≤ y ∧ y ≤ hy) ∧ lz ≤ z ∧ z ≤ hz)) : inB lx ly lz hx hy hz x y z = false := by
  rw [← inB_iff] at h; simpa using h
theorem if_min (x y : Int) : (if y < x then y else x) = min x y := by rw [Int.min_def]; split <;> split <;> omega
theorem if_max (x y : Int) : (if x < y then y else x) = max x y := by rw [Int.max_def]; split <;> split <;> omega
attribute [go_sem] if_min if_max
theorem ret_bool {a b : Bool} (h : a = b) : Ending.returned (.bool a) = .returned (.bool b) := by rw [h]

theorem vHas_any (lx : Int) (ly : Int) (lz : Int) (hx : Int) (hy : Int) (hz : Int) (x : Int) (y : Int) (z : Int) :
    Gives Try.prog 72 #[.agg #[.int .i64 lx, .int .i64 ly, .int .i64 lz, .int .i64 hx, .int .i64 hy, .int .i64 hz], .agg #[.int .i64 x, .int .i64 y, .int .i64 z]] (.bool (inB lx ly lz hx hy hz x y z)) := by
  refine Gives.mk fun w => ?_
  go_enter Try.func72, Try.ntmps72
  go_wp2
  all_goals
    go_ret
    refine ⟨ret_bool ?_, (by repeat (first | exact Below.refl _ _ | refine bel_grow ?_ _ | refine bel_alloc ?_ _ | refine bel_set ?_ (by simp) _))⟩
    first | (symm; rw [inB_iff]; omega) | (symm; apply inB_no; omega) | (unfold inB; simp [*])

end Go.Proofs.Ytgfgaaecpdbgeaa
