/- Contracts of the document's own products and lines. -/
import Derived.Test.YtngkimcnolmmoaaMSideB
import Derived.Test.YtngkimcnolmmoaaMRefC
import Derived.Test.YtngkimcnolmmoaaAlive
namespace Go.Proofs.Ytngkimcnolmmoaa
open Go.RowKit
set_option linter.unusedVariables false
set_option linter.unusedSimpArgs false
theorem inW_prod {a b : Int} (ha : -9223372036854775808 ≤ a ∧ a ≤ 9223372036854775807) (hb : -9223372036854775808 ≤ b ∧ b ≤ 9223372036854775807) : InW (a * b) := by
  have := mul_bd (m := 9223372036854775808) (n := 9223372036854775808) (a := a) (b := b) (by omega) (by omega)
  unfold InW; omega
theorem alloc_wide3 (a : Act) (o : Oper) (ho : o.op = .alloc 70) (w : World) : (execOp a.eval o).run Try.prog w = .ok (.value (.pointer (some ⟨w.heap.size, 0, none⟩))) (w.alloc (.cells #[.int .i64 0, .int .u64 0] 70)) := by
  unfold execOp
  rw [ho]
  kernel_rfl
theorem line_o (o : P3) (dx dy dz : Int) (h : wiB o.x o.y o.z 65536 = false) : Gives Try.prog 24 #[.agg #[.int .i64 o.x, .int .i64 o.y, .int .i64 o.z], .agg #[.int .i64 dx, .int .i64 dy, .int .i64 dz]] (.bool false) := by
  refine Gives.mk fun w => ?_
  have k2 := uWithin_any o.x o.y o.z 65536 (by omega) (by omega)
  have k1 := uWithin_any dx dy dz 32768 (by omega) (by omega)
  rw [h] at k2
  clear h k1
  go_enter Try.func24, Try.ntmps24
  go_wp2_with (first | (go_at_call 25; first | ((with_reducible refine (k2.at_ _).mono ?_); rintro e w' ⟨rfl, xg, rfl⟩)))
  go_ret
  exact ⟨rfl, (by repeat (first | exact Below.refl _ _ | refine bel_then ?_ _ | refine bel_grow ?_ _ | refine bel_alloc ?_ _ | refine bel_drew ?_ | refine bel_set ?_ (by simp) _ | refine bel_setRow ?_ (by first | omega | simp; done | exact Nat.le_trans (by simp) (top_le _ _)) _))⟩
theorem line_d (o : P3) (dx dy dz : Int) (h : wiB o.x o.y o.z 65536 = true) (h1 : wiB dx dy dz 32768 = false) : Gives Try.prog 24 #[.agg #[.int .i64 o.x, .int .i64 o.y, .int .i64 o.z], .agg #[.int .i64 dx, .int .i64 dy, .int .i64 dz]] (.bool false) := by
  refine Gives.mk fun w => ?_
  have k2 := uWithin_any o.x o.y o.z 65536 (by omega) (by omega)
  have k1 := uWithin_any dx dy dz 32768 (by omega) (by omega)
  rw [h] at k2
  rw [h1] at k1
  clear h h1
  go_enter Try.func24, Try.ntmps24
  go_wp2_with (first | (go_at_call 25; first | ((with_reducible refine (k1.at_ _).mono ?_); rintro e w' ⟨rfl, xg, rfl⟩) | ((with_reducible refine (k2.at_ _).mono ?_); rintro e w' ⟨rfl, xg, rfl⟩)))
  go_ret
  exact ⟨rfl, (by repeat (first | exact Below.refl _ _ | refine bel_then ?_ _ | refine bel_grow ?_ _ | refine bel_alloc ?_ _ | refine bel_drew ?_ | refine bel_set ?_ (by simp) _ | refine bel_setRow ?_ (by first | omega | simp; done | exact Nat.le_trans (by simp) (top_le _ _)) _))⟩
theorem line_z (o : P3) (dx dy dz : Int) (h : wiB o.x o.y o.z 65536 = true) (h1 : wiB dx dy dz 32768 = true) (hz : nz ⟨dx, dy, dz⟩ = false) : Gives Try.prog 24 #[.agg #[.int .i64 o.x, .int .i64 o.y, .int .i64 o.z], .agg #[.int .i64 dx, .int .i64 dy, .int .i64 dz]] (.bool false) := by
  refine Gives.mk fun w => ?_
  have k2 := uWithin_any o.x o.y o.z 65536 (by omega) (by omega)
  have k1 := uWithin_any dx dy dz 32768 (by omega) (by omega)
  rw [h] at k2
  rw [h1] at k1
  clear h h1
  have e : dx = 0 ∧ dy = 0 ∧ dz = 0 := by unfold nz at hz; simp at hz; omega
  obtain ⟨rfl, rfl, rfl⟩ := e
  clear hz
  go_enter Try.func24, Try.ntmps24
  go_wp2_with (first | (go_at_call 25; first | ((with_reducible refine (k1.at_ _).mono ?_); rintro e w' ⟨rfl, xg, rfl⟩) | ((with_reducible refine (k2.at_ _).mono ?_); rintro e w' ⟨rfl, xg, rfl⟩)))
  go_ret
  exact ⟨rfl, (by repeat (first | exact Below.refl _ _ | refine bel_then ?_ _ | refine bel_grow ?_ _ | refine bel_alloc ?_ _ | refine bel_drew ?_ | refine bel_set ?_ (by simp) _ | refine bel_setRow ?_ (by first | omega | simp; done | exact Nat.le_trans (by simp) (top_le _ _)) _))⟩
theorem line_y (o : P3) (dx dy dz : Int) (h : wiB o.x o.y o.z 65536 = true) (h1 : wiB dx dy dz 32768 = true) (hz : nz ⟨dx, dy, dz⟩ = true) : Gives Try.prog 24 #[.agg #[.int .i64 o.x, .int .i64 o.y, .int .i64 o.z], .agg #[.int .i64 dx, .int .i64 dy, .int .i64 dz]] (.bool true) := by
  refine Gives.mk fun w => ?_
  have k2 := uWithin_any o.x o.y o.z 65536 (by omega) (by omega)
  have k1 := uWithin_any dx dy dz 32768 (by omega) (by omega)
  rw [h] at k2
  rw [h1] at k1
  clear h h1
  rcases nz_cases hz with h | ⟨rfl, h⟩ | ⟨rfl, rfl, h⟩
  all_goals
    clear hz
    go_enter Try.func24, Try.ntmps24
    go_wp2_with (first | (go_at_call 25; first | ((with_reducible refine (k1.at_ _).mono ?_); rintro e w' ⟨rfl, xg, rfl⟩) | ((with_reducible refine (k2.at_ _).mono ?_); rintro e w' ⟨rfl, xg, rfl⟩)))
    go_ret
    exact ⟨rfl, (by repeat (first | exact Below.refl _ _ | refine bel_then ?_ _ | refine bel_grow ?_ _ | refine bel_alloc ?_ _ | refine bel_drew ?_ | refine bel_set ?_ (by simp) _ | refine bel_setRow ?_ (by first | omega | simp; done | exact Nat.le_trans (by simp) (top_le _ _)) _))⟩
theorem rLine_any (o d : P3) : Gives Try.prog 24 #[.agg #[.int .i64 o.x, .int .i64 o.y, .int .i64 o.z], .agg #[.int .i64 d.x, .int .i64 d.y, .int .i64 d.z]] (.bool (lnB o d)) := by
  obtain ⟨dx, dy, dz⟩ := d
  unfold lnB
  by_cases h2 : wiB o.x o.y o.z 65536 = true
  · by_cases h1 : wiB dx dy dz 32768 = true
    · by_cases h0 : nz ⟨dx, dy, dz⟩ = true
      · have k := line_y o dx dy dz h2 h1 h0
        simp only [h0, h1, h2, Bool.true_and]
        exact k
      · have h0 : nz ⟨dx, dy, dz⟩ = false := by simpa using h0
        have k := line_z o dx dy dz h2 h1 h0
        simp only [h0, h1, h2, Bool.true_and, Bool.false_and]
        exact k
    · have h1 : wiB dx dy dz 32768 = false := by simpa using h1
      have k := line_d o dx dy dz h2 h1
      simp only [h1, h2, Bool.true_and, Bool.false_and, Bool.and_false]
      exact k
  · have h2 : wiB o.x o.y o.z 65536 = false := by simpa using h2
    have k := line_o o dx dy dz h2
    simp only [h2, Bool.true_and, Bool.false_and, Bool.and_false]
    exact k
end Go.Proofs.Ytngkimcnolmmoaa
