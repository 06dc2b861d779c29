/- Contracts of vec's calls and the document's own, part 1: sums and products. -/
import Derived.Test.YtngkimcnolmmoaaProg
import Derived.Test.YtngkimcnolmmoaaBase
import Derived.WalkKit
import Derived.Below
import Derived.Outline
import Derived.Lib.Hide
import Derived.WalkLawsBesides
namespace Go.Proofs.Ytngkimcnolmmoaa
open Go.RowKit
set_option linter.unusedVariables false
set_option linter.unusedSimpArgs false

theorem rAdd_any (ax : Int) (ay : Int) (az : Int) (bx : Int) (by_ : Int) (bz : Int) :
    Gives Try.prog 19 #[.agg #[.int .i64 ax, .int .i64 ay, .int .i64 az], .agg #[.int .i64 bx, .int .i64 by_, .int .i64 bz]] (.agg #[.int .i64 (wrap64 (ax + bx)), .int .i64 (wrap64 (ay + by_)), .int .i64 (wrap64 (az + bz))]) := by
  refine Gives.mk fun w => ?_
  go_enter Try.func19, Try.ntmps19
  go_wp2
  refine bodyPost_ret (v := .agg #[.int .i64 (wrap64 (ax + bx)), .int .i64 (wrap64 (ay + by_)), .int .i64 (wrap64 (az + bz))]) (by simp [results, Try.results19, go_sem]) rfl ⟨rfl, (by repeat (first | exact Below.refl _ _ | refine bel_grow ?_ _ | refine bel_alloc ?_ _ | refine bel_set ?_ (by simp) _))⟩

theorem vSub_any (ax : Int) (ay : Int) (az : Int) (bx : Int) (by_ : Int) (bz : Int) :
    Gives Try.prog 30 #[.agg #[.int .i64 ax, .int .i64 ay, .int .i64 az], .agg #[.int .i64 bx, .int .i64 by_, .int .i64 bz]] (.agg #[.int .i64 (wrap64 (ax - bx)), .int .i64 (wrap64 (ay - by_)), .int .i64 (wrap64 (az - bz))]) := by
  refine Gives.mk fun w => ?_
  go_enter Try.func30, Try.ntmps30
  go_wp2
  refine bodyPost_ret (v := .agg #[.int .i64 (wrap64 (ax - bx)), .int .i64 (wrap64 (ay - by_)), .int .i64 (wrap64 (az - bz))]) (by simp [results, Try.results30, go_sem]) rfl ⟨rfl, (by repeat (first | exact Below.refl _ _ | refine bel_grow ?_ _ | refine bel_alloc ?_ _ | refine bel_set ?_ (by simp) _))⟩

theorem rScale_any (ax : Int) (ay : Int) (az : Int) (k : Int) :
    Gives Try.prog 20 #[.agg #[.int .i64 ax, .int .i64 ay, .int .i64 az], .int .i64 k] (.agg #[.int .i64 (wrap64 (ax * k)), .int .i64 (wrap64 (ay * k)), .int .i64 (wrap64 (az * k))]) := by
  refine Gives.mk fun w => ?_
  go_enter Try.func20, Try.ntmps20
  go_wp2
  refine bodyPost_ret (v := .agg #[.int .i64 (wrap64 (ax * k)), .int .i64 (wrap64 (ay * k)), .int .i64 (wrap64 (az * k))]) (by simp [results, Try.results20, go_sem]) rfl ⟨rfl, (by repeat (first | exact Below.refl _ _ | refine bel_grow ?_ _ | refine bel_alloc ?_ _ | refine bel_set ?_ (by simp) _))⟩

theorem vDot_any (ax : Int) (ay : Int) (az : Int) (bx : Int) (by_ : Int) (bz : Int) :
    Gives Try.prog 29 #[.agg #[.int .i64 ax, .int .i64 ay, .int .i64 az], .agg #[.int .i64 bx, .int .i64 by_, .int .i64 bz]] (.int .i64 (wrap64 ((wrap64 ((wrap64 (ax * bx)) + (wrap64 (ay * by_)))) + (wrap64 (az * bz))))) := by
  refine Gives.mk fun w => ?_
  go_enter Try.func29, Try.ntmps29
  go_wp2
  go_ret
  exact ⟨rfl, (by repeat (first | exact Below.refl _ _ | refine bel_grow ?_ _ | refine bel_alloc ?_ _ | refine bel_set ?_ (by simp) _))⟩

theorem vCross_any (ax : Int) (ay : Int) (az : Int) (bx : Int) (by_ : Int) (bz : Int) :
    Gives Try.prog 37 #[.agg #[.int .i64 ax, .int .i64 ay, .int .i64 az], .agg #[.int .i64 bx, .int .i64 by_, .int .i64 bz]] (.agg #[.int .i64 (wrap64 ((wrap64 (ay * bz)) - (wrap64 (az * by_)))), .int .i64 (wrap64 ((wrap64 (az * bx)) - (wrap64 (ax * bz)))), .int .i64 (wrap64 ((wrap64 (ax * by_)) - (wrap64 (ay * bx))))]) := by
  refine Gives.mk fun w => ?_
  go_enter Try.func37, Try.ntmps37
  go_wp2
  refine bodyPost_ret (v := .agg #[.int .i64 (wrap64 ((wrap64 (ay * bz)) - (wrap64 (az * by_)))), .int .i64 (wrap64 ((wrap64 (az * bx)) - (wrap64 (ax * bz)))), .int .i64 (wrap64 ((wrap64 (ax * by_)) - (wrap64 (ay * bx))))]) (by simp [results, Try.results37, go_sem]) rfl ⟨rfl, (by repeat (first | exact Below.refl _ _ | refine bel_grow ?_ _ | refine bel_alloc ?_ _ | refine bel_set ?_ (by simp) _))⟩

end Go.Proofs.Ytngkimcnolmmoaa

/- Contracts of vec's calls and the document's own, part 2: boxes, bounds, rounding. -/
namespace Go.Proofs.Ytngkimcnolmmoaa
open Go.RowKit
set_option linter.unusedVariables false
set_option linter.unusedSimpArgs false
/-- Is a point within a box? -/
def inB (lx ly lz hx hy hz x y z : Int) : Bool := decide (lx ≤ x) && decide (x ≤ hx) && (decide (ly ≤ y) && decide (y ≤ hy)) && (decide (lz ≤ z) && decide (z ≤ hz))
theorem inB_iff (lx ly lz hx hy hz x y z : Int) : inB lx ly lz hx hy hz x y z = true ↔ (lx ≤ x ∧ x ≤ hx) ∧ (ly ≤ y ∧ y ≤ hy) ∧ lz ≤ z ∧ z ≤ hz := by
  unfold inB; simp; omega
theorem inB_no (lx ly lz hx hy hz x y z : Int) (h : ¬ ((lx ≤ x ∧ x ≤ hx) ∧ (ly ≤ y ∧ y ≤ hy) ∧ lz ≤ z ∧ z ≤ hz)) : inB lx ly lz hx hy hz x y z = false := by
  rw [← inB_iff] at h; simpa using h
theorem if_min (x y : Int) : (if y < x then y else x) = min x y := by rw [Int.min_def]; split <;> split <;> omega
theorem if_max (x y : Int) : (if x < y then y else x) = max x y := by rw [Int.max_def]; split <;> split <;> omega
attribute [go_sem] if_min if_max
theorem ret_bool {a b : Bool} (h : a = b) : Ending.returned (.bool a) = .returned (.bool b) := by rw [h]

theorem vHas_any (lx : Int) (ly : Int) (lz : Int) (hx : Int) (hy : Int) (hz : Int) (x : Int) (y : Int) (z : Int) :
    Gives Try.prog 17 #[.agg #[.int .i64 lx, .int .i64 ly, .int .i64 lz, .int .i64 hx, .int .i64 hy, .int .i64 hz], .agg #[.int .i64 x, .int .i64 y, .int .i64 z]] (.bool (inB lx ly lz hx hy hz x y z)) := by
  refine Gives.mk fun w => ?_
  go_enter Try.func17, Try.ntmps17
  go_wp2
  all_goals
    go_ret
    refine ⟨ret_bool ?_, (by repeat (first | exact Below.refl _ _ | refine bel_grow ?_ _ | refine bel_alloc ?_ _ | refine bel_set ?_ (by simp) _))⟩
    first | (symm; rw [inB_iff]; omega) | (symm; apply inB_no; omega) | (unfold inB; simp [*])

theorem vJoin_any (alx : Int) (aly : Int) (alz : Int) (ahx : Int) (ahy : Int) (ahz : Int) (blx : Int) (bly : Int) (blz : Int) (bhx : Int) (bhy : Int) (bhz : Int) :
    Gives Try.prog 15 #[.agg #[.int .i64 alx, .int .i64 aly, .int .i64 alz, .int .i64 ahx, .int .i64 ahy, .int .i64 ahz], .agg #[.int .i64 blx, .int .i64 bly, .int .i64 blz, .int .i64 bhx, .int .i64 bhy, .int .i64 bhz]] (.agg #[.int .i64 (min alx blx), .int .i64 (min aly bly), .int .i64 (min alz blz), .int .i64 (max ahx bhx), .int .i64 (max ahy bhy), .int .i64 (max ahz bhz)]) := by
  refine Gives.mk fun w => ?_
  go_enter Try.func15, Try.ntmps15
  go_wp2
  refine bodyPost_ret (v := .agg #[.int .i64 (min alx blx), .int .i64 (min aly bly), .int .i64 (min alz blz), .int .i64 (max ahx bhx), .int .i64 (max ahy bhy), .int .i64 (max ahz bhz)]) (by simp [results, Try.results15, go_sem]) rfl ⟨rfl, (by repeat (first | exact Below.refl _ _ | refine bel_grow ?_ _ | refine bel_alloc ?_ _ | refine bel_set ?_ (by simp) _))⟩

end Go.Proofs.Ytngkimcnolmmoaa

/- Contracts of vec's calls and the document's own, part 3: bounds and rounding. -/
namespace Go.Proofs.Ytngkimcnolmmoaa
open Go.RowKit
set_option linter.unusedVariables false
set_option linter.unusedSimpArgs false
/-- Is each part within a bound? -/
def wiB (x y z m : Int) : Bool := decide (0 ≤ m) && inB (-m) (-m) (-m) m m m x y z
theorem wiB_iff (x y z m : Int) : wiB x y z m = true ↔ 0 ≤ m ∧ (-m ≤ x ∧ x ≤ m) ∧ (-m ≤ y ∧ y ≤ m) ∧ -m ≤ z ∧ z ≤ m := by
  unfold wiB; simp [inB_iff]
theorem wiB_no (x y z m : Int) (h : ¬ (0 ≤ m ∧ (-m ≤ x ∧ x ≤ m) ∧ (-m ≤ y ∧ y ≤ m) ∧ -m ≤ z ∧ z ≤ m)) : wiB x y z m = false := by
  rw [← wiB_iff] at h; simpa using h
theorem wiB_in (x y z m : Int) (h : 0 ≤ m) : inB (-m) (-m) (-m) m m m x y z = wiB x y z m := by
  unfold wiB; simp [h]
theorem vWithin_any (x y z m : Int) (m1 : m ≤ 9223372036854775807) :
    Gives Try.prog 18 #[.agg #[.int .i64 x, .int .i64 y, .int .i64 z], .int .i64 m] (.bool (wiB x y z m)) := by
  refine Gives.mk fun w => ?_
  by_cases h : m < 0
  · have e : Ending.returned (.bool (wiB x y z m)) = .returned (.bool false) := ret_bool (wiB_no _ _ _ _ (by omega))
    rw [e]
    clear e
    go_enter Try.func18, Try.ntmps18
    go_wp2
    go_ret
    exact ⟨rfl, (by repeat (first | exact Below.refl _ _ | refine bel_grow ?_ _ | refine bel_alloc ?_ _ | refine bel_set ?_ (by simp) _))⟩
  · have h0 : 0 ≤ m := by omega
    have k := vHas_any (-m) (-m) (-m) m m m x y z
    rw [wiB_in x y z m h0] at k
    clear h
    go_enter Try.func18, Try.ntmps18
    go_wp2_with (go_at_call 17; ((with_reducible refine (k.at_ _).mono ?_); rintro e w' ⟨rfl, xg, rfl⟩))
    go_ret
    exact ⟨rfl, (by repeat (first | exact Below.refl _ _ | refine bel_grow ?_ _ | refine bel_alloc ?_ _ | refine bel_set ?_ (by simp) _))⟩
/-- The whole number nearest to n/d, the greater one of two; 0 outside the bounds. -/
def rnd (n d : Int) : Int := if n < -2305843009213693952 ∨ 2305843009213693952 < n ∨ d < 1 ∨ 2305843009213693952 < d then 0 else (2 * n + d) / (2 * d)
theorem rnd_out {n d : Int} (h : n < -2305843009213693952 ∨ 2305843009213693952 < n ∨ d < 1 ∨ 2305843009213693952 < d) : rnd n d = 0 := by unfold rnd; rw [if_pos h]
theorem rnd_in {n d : Int} (h : ¬ (n < -2305843009213693952 ∨ 2305843009213693952 < n ∨ d < 1 ∨ 2305843009213693952 < d)) : rnd n d = (2 * n + d) / (2 * d) := by unfold rnd; rw [if_neg h]
theorem floor_mk {a b q r : Int} (hb : 0 < b) (h0 : 0 ≤ r) (h1 : r < b) (e : a = q * b + r) : a / b = q := by
  subst e
  rw [Int.add_comm, Int.add_mul_ediv_right _ _ (by omega), Int.ediv_eq_zero_of_lt h0 h1]; omega
/-- The quotient toward 0 and what is left. -/
theorem tq (a b : Int) (hb : 0 < b) : ∃ q r : Int, a.tdiv b = q ∧ a.tmod b = r ∧ a = q * b + r ∧ -b < r ∧ r < b ∧ (0 ≤ a → 0 ≤ r) ∧ (a ≤ 0 → r ≤ 0) ∧ (0 ≤ a → 0 ≤ q ∧ q ≤ a) ∧ (a ≤ 0 → a ≤ q ∧ q ≤ 0) := by
  refine ⟨a.tdiv b, a.tmod b, rfl, rfl, ?_, ?_, ?_, ?_, ?_, ?_, ?_⟩
  · have := Int.tmod_add_mul_tdiv a b; rw [Int.mul_comm] at this; omega
  · have := Int.lt_tmod_of_pos a hb; omega
  · exact Int.tmod_lt_of_pos a hb
  · intro h; exact Int.tmod_nonneg b h
  · intro h; have := Int.tmod_nonneg b (a := -a) (by omega); rw [Int.neg_tmod] at this; omega
  · intro h
    refine ⟨Int.tdiv_nonneg h (by omega), ?_⟩
    rw [Int.tdiv_eq_ediv_of_nonneg h]; exact Int.ediv_le_self b h
  · intro h
    have h1 := Int.tdiv_nonneg (a := -a) (b := b) (by omega) (by omega)
    have h2 : (-a).tdiv b ≤ -a := by rw [Int.tdiv_eq_ediv_of_nonneg (by omega)]; exact Int.ediv_le_self b (by omega)
    rw [Int.neg_tdiv] at h1 h2
    omega
theorem ret_i64 {a b : Int} (h : a = b) : Ending.returned (.int .i64 a) = .returned (.int .i64 b) := by rw [h]
end Go.Proofs.Ytngkimcnolmmoaa
