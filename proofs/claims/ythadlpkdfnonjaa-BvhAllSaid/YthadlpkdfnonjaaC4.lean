/- The document's own numbers, as digits: contracts of its calls, part 11: products. The document's own numbers, as digits: contracts of its calls, part 12: sums and products whole; numbers of 64 bits. The document's own numbers, as digits: contracts of its calls, part 13: Int, Mul, right, Order. The document's own numbers: right, Order, Sqrt. Contracts of vec's calls and the document's own, part 1: sums and products. Contracts of vec's calls and the document's own, part 2: boxes, bounds, rounding. -/
import Derived.WalkKit
import Derived.Below
import Derived.Outline
import Derived.Lib.Hide
import Derived.WalkLawsBesides
import Derived.Test.YthadlpkdfnonjaaProg
import Derived.Test.YthadlpkdfnonjaaC0
import Derived.Test.YthadlpkdfnonjaaC2
import Derived.Test.YthadlpkdfnonjaaC3
namespace Go.Proofs.Ythadlpkdfnonjaa
open Go.RowKit
set_option linter.unusedVariables false
set_option linter.unusedSimpArgs false
end Go.Proofs.Ythadlpkdfnonjaa
namespace Go.Proofs.Ythadlpkdfnonjaa
open Go.RowKit
set_option linter.unusedVariables false
set_option linter.unusedSimpArgs false
end Go.Proofs.Ythadlpkdfnonjaa
namespace Go.Proofs.Ythadlpkdfnonjaa
open Go.RowKit
set_option linter.unusedVariables false
set_option linter.unusedSimpArgs false

end Go.Proofs.Ythadlpkdfnonjaa
namespace Go.Proofs.Ythadlpkdfnonjaa
open Go.RowKit
set_option linter.unusedVariables false
set_option linter.unusedSimpArgs false
end Go.Proofs.Ythadlpkdfnonjaa
namespace Go.Proofs.Ythadlpkdfnonjaa
open Go.RowKit
set_option linter.unusedVariables false
set_option linter.unusedSimpArgs false

theorem vAdd_any (ax : Int) (ay : Int) (az : Int) (bx : Int) (by_ : Int) (bz : Int) :
    Gives Try.prog 40 #[.agg #[.int .i64 ax, .int .i64 ay, .int .i64 az], .agg #[.int .i64 bx, .int .i64 by_, .int .i64 bz]] (.agg #[.int .i64 (wrap64 (ax + bx)), .int .i64 (wrap64 (ay + by_)), .int .i64 (wrap64 (az + bz))]) := by
  refine Gives.mk fun w => ?_
  go_enter Try.func40, Try.ntmps40
  go_wp2
  refine bodyPost_ret (v := .agg #[.int .i64 (wrap64 (ax + bx)), .int .i64 (wrap64 (ay + by_)), .int .i64 (wrap64 (az + bz))]) (by simp [results, Try.results40, go_sem]) rfl ⟨rfl, (by repeat (first | exact Below.refl _ _ | refine bel_grow ?_ _ | refine bel_alloc ?_ _ | refine bel_set ?_ (by simp) _))⟩

theorem vSub_any (ax : Int) (ay : Int) (az : Int) (bx : Int) (by_ : Int) (bz : Int) :
    Gives Try.prog 39 #[.agg #[.int .i64 ax, .int .i64 ay, .int .i64 az], .agg #[.int .i64 bx, .int .i64 by_, .int .i64 bz]] (.agg #[.int .i64 (wrap64 (ax - bx)), .int .i64 (wrap64 (ay - by_)), .int .i64 (wrap64 (az - bz))]) := by
  refine Gives.mk fun w => ?_
  go_enter Try.func39, Try.ntmps39
  go_wp2
  refine bodyPost_ret (v := .agg #[.int .i64 (wrap64 (ax - bx)), .int .i64 (wrap64 (ay - by_)), .int .i64 (wrap64 (az - bz))]) (by simp [results, Try.results39, go_sem]) rfl ⟨rfl, (by repeat (first | exact Below.refl _ _ | refine bel_grow ?_ _ | refine bel_alloc ?_ _ | refine bel_set ?_ (by simp) _))⟩

end Go.Proofs.Ythadlpkdfnonjaa
namespace Go.Proofs.Ythadlpkdfnonjaa
open Go.RowKit
set_option linter.unusedVariables false
set_option linter.unusedSimpArgs false
/-- Is a point within a box? -/
def inB (lx ly lz hx hy hz x y z : Int) : Bool := decide (lx ≤ x) && decide (x ≤ hx) && (decide (ly ≤ y) && decide (y ≤ hy)) && (decide (lz ≤ z) && decide (z ≤ hz))
theorem inB_iff (lx ly lz hx hy hz x y z : Int) : inB lx ly lz hx hy hz x y z = true ↔ (lx ≤ x ∧ x ≤ hx) ∧ (ly ≤ y ∧ y ≤ hy) ∧ lz ≤ z ∧ z ≤ hz := by
  unfold inB; simp; omega
theorem inB_no (lx ly lz hx hy hz x y z : Int) (h : ¬ ((lx ≤ x ∧ x ≤ hx) ∧ (ly ≤ y ∧ y ≤ hy) ∧ lz ≤ z ∧ z ≤ hz)) : inB lx ly lz hx hy hz x y z = false := by
  rw [← inB_iff] at h; simpa using h
theorem if_min (x y : Int) : (if y < x then y else x) = min x y := by rw [Int.min_def]; split <;> split <;> omega
theorem if_max (x y : Int) : (if x < y then y else x) = max x y := by rw [Int.max_def]; split <;> split <;> omega
attribute [go_sem] if_min if_max
theorem ret_bool {a b : Bool} (h : a = b) : Ending.returned (.bool a) = .returned (.bool b) := by rw [h]

theorem vHas_any (lx : Int) (ly : Int) (lz : Int) (hx : Int) (hy : Int) (hz : Int) (x : Int) (y : Int) (z : Int) :
    Gives Try.prog 89 #[.agg #[.int .i64 lx, .int .i64 ly, .int .i64 lz, .int .i64 hx, .int .i64 hy, .int .i64 hz], .agg #[.int .i64 x, .int .i64 y, .int .i64 z]] (.bool (inB lx ly lz hx hy hz x y z)) := by
  refine Gives.mk fun w => ?_
  go_enter Try.func89, Try.ntmps89
  go_wp2
  all_goals
    go_ret
    refine ⟨ret_bool ?_, (by repeat (first | exact Below.refl _ _ | refine bel_grow ?_ _ | refine bel_alloc ?_ _ | refine bel_set ?_ (by simp) _))⟩
    first | (symm; rw [inB_iff]; omega) | (symm; apply inB_no; omega) | (unfold inB; simp [*])

theorem vJoin_any (alx : Int) (aly : Int) (alz : Int) (ahx : Int) (ahy : Int) (ahz : Int) (blx : Int) (bly : Int) (blz : Int) (bhx : Int) (bhy : Int) (bhz : Int) :
    Gives Try.prog 25 #[.agg #[.int .i64 alx, .int .i64 aly, .int .i64 alz, .int .i64 ahx, .int .i64 ahy, .int .i64 ahz], .agg #[.int .i64 blx, .int .i64 bly, .int .i64 blz, .int .i64 bhx, .int .i64 bhy, .int .i64 bhz]] (.agg #[.int .i64 (min alx blx), .int .i64 (min aly bly), .int .i64 (min alz blz), .int .i64 (max ahx bhx), .int .i64 (max ahy bhy), .int .i64 (max ahz bhz)]) := by
  refine Gives.mk fun w => ?_
  go_enter Try.func25, Try.ntmps25
  go_wp2
  refine bodyPost_ret (v := .agg #[.int .i64 (min alx blx), .int .i64 (min aly bly), .int .i64 (min alz blz), .int .i64 (max ahx bhx), .int .i64 (max ahy bhy), .int .i64 (max ahz bhz)]) (by simp [results, Try.results25, go_sem]) rfl ⟨rfl, (by repeat (first | exact Below.refl _ _ | refine bel_grow ?_ _ | refine bel_alloc ?_ _ | refine bel_set ?_ (by simp) _))⟩

end Go.Proofs.Ythadlpkdfnonjaa
