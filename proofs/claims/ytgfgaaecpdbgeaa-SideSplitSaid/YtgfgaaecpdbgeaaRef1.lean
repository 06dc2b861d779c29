/- The document's own numbers, as digits: contracts of its calls, part 1. -/
import Derived.Test.YtgfgaaecpdbgeaaBase
import Derived.Test.YtgfgaaecpdbgeaaArr
import Derived.Test.YtgfgaaecpdbgeaaMath
import Derived.Test.YtgfgaaecpdbgeaaProg
namespace Go.Proofs.Ytgfgaaecpdbgeaa
open Go.RowKit
set_option linter.unusedVariables false
set_option linter.unusedSimpArgs false
/-- Eighteen digits in a row. -/
def digs (A : Nat → Int) : Array Value := ((List.range 18).map fun j => Value.int .i64 (A j)).toArray
theorem digs_get (A : Nat → Int) (i : Nat) : (digs A)[i]? = if i < 18 then some (.int .i64 (A i)) else none := by
  unfold digs
  split
  · rename_i h; simp [h]
  · rename_i h; simp; omega
theorem digs_set (A : Nat → Int) (i : Nat) (v : Int) : (digs A).setIfInBounds i (.int .i64 v) = digs (fun j => if j = i then v else A j) := by
  unfold digs
  apply Array.ext_getElem?
  intro k
  simp only [Array.getElem?_setIfInBounds, List.getElem?_toArray, List.getElem?_map, List.size_toArray, List.length_map, List.length_range]
  by_cases hk : k < 18
  · by_cases hi : i = k
    · subst hi; simp [hk]
    · simp [hk, hi, Ne.symm hi]
  · by_cases hi : i = k
    · subst hi; simp [hk]
    · simp [hk, hi]
theorem digs_size (A : Nat → Int) : (digs A).size = 18 := by unfold digs; simp
theorem digs_congr {A B : Nat → Int} (h : ∀ j, j < 18 → A j = B j) : digs A = digs B := by
  unfold digs
  congr 1
  apply List.map_congr_left
  intro j hj
  rw [h j (by simpa using hj)]
theorem digs_one (A : Nat → Int) : (digs A).all (·.oneCell') = true := by unfold digs; simp [Value.oneCell']
theorem digs_zero : digs (fun _ => 0) = #[.int .i64 0, .int .i64 0, .int .i64 0, .int .i64 0, .int .i64 0, .int .i64 0, .int .i64 0, .int .i64 0, .int .i64 0, .int .i64 0, .int .i64 0, .int .i64 0, .int .i64 0, .int .i64 0, .int .i64 0, .int .i64 0, .int .i64 0, .int .i64 0] := rfl
attribute [go_sem] digs_get digs_set digs_size
/-- The highest digit that differs tells. -/
def cmpD (A B : Nat → Int) : Nat → Int
  | 0 => 0
  | k + 1 => if A k < B k then -1 else if B k < A k then 1 else cmpD A B k
set_option maxHeartbeats 1000000 in
theorem cmpDigits_any (A B : Nat → Int) : Gives Try.prog 64 #[.agg (digs A), .agg (digs B)] (.int .i64 (cmpD A B 18)) := by
  refine Gives.mk fun w => ?_
  go_enter Try.func64, Try.ntmps64
  go_wp2_with fail
  go_loopw [5] (fun t wr => ∃ k : Nat, t = .int .i64 ((k : Int) - 1) ∧ k ≤ 18 ∧ cmpD A B 18 = cmpD A B k ∧ ∃ x, wr = grow ((w.alloc (Obj.cells (digs A) 68)).alloc (Obj.cells (digs B) 68)) x) (fun t _ => (intOf t + 1).toNat)
  case atStart => exact ⟨18, rfl, by omega, rfl, grow_of (Below.refl _ _)⟩
  case round =>
    obtain ⟨k, rfl, hk, hc, x, rfl⟩ := hrel
    have hc := Lib.hid hc
    rcases Nat.eq_zero_or_pos k with hz | hz
    · subst hz
      have hc := hc.out
      have hc : Ending.returned (.int .i64 (cmpD A B 18)) = .returned (.int .i64 0) := by rw [hc]; rfl
      go_wp2_with fail
      go_ret
      exact ⟨hc.symm, (by repeat (first | exact Below.refl _ _ | refine bel_grow ?_ _ | refine bel_alloc ?_ _ | refine bel_set ?_ (by simp) _))⟩
    · obtain ⟨q, rfl⟩ : ∃ q, k = q + 1 := ⟨k - 1, by omega⟩
      have e1 : ((q + 1 : Nat) : Int) - 1 = (q : Int) := by omega
      rw [e1]
      clear e1
      rcases Int.lt_trichotomy (A q) (B q) with h | h | h
      · have hv : Ending.returned (.int .i64 (cmpD A B 18)) = .returned (.int .i64 (-1)) := by rw [hc.out, cmpD, if_pos h]
        have hv := Lib.hid hv
        clear hc hz
        go_wp2_with fail
        refine wp_region_grow (by kernel_rfl) (by kernel_rfl) ?_
        repeat (go_big_quiet_step ((fail)))
        refine wpQuiet_nil ?_
        rintro _ ⟨xg, rfl⟩
        go_wp2_with fail
        go_ret
        exact ⟨hv.out.symm, (by repeat (first | exact Below.refl _ _ | refine bel_grow ?_ _ | refine bel_alloc ?_ _ | refine bel_set ?_ (by simp) _))⟩
      · have hn : cmpD A B 18 = cmpD A B q := by rw [hc.out, cmpD, if_neg (by omega), if_neg (by omega)]
        have hn := Lib.hid hn
        have d1 : decide (A q < B q) = false := by simp; omega
        have d2 : decide (B q < A q) = false := by simp; omega
        clear hc hz h
        go_wp2_with fail
        refine wp_region_grow (by kernel_rfl) (by kernel_rfl) ?_
        repeat (go_big_quiet_step ((fail)))
        refine wpQuiet_nil ?_
        rintro _ ⟨xg, rfl⟩
        go_wp2_with fail
        refine wp_region_grow (by kernel_rfl) (by kernel_rfl) ?_
        repeat (go_big_quiet_step ((fail)))
        refine wpQuiet_nil ?_
        rintro _ ⟨xg, rfl⟩
        go_wp2_with fail
        exact ⟨⟨q, rfl, by omega, hn.out, grow_of (by repeat (first | exact Below.refl _ _ | refine bel_grow ?_ _ | refine bel_alloc ?_ _ | refine bel_set ?_ (by simp) _))⟩, by simp [intOf] <;> omega⟩
      · have hv : Ending.returned (.int .i64 (cmpD A B 18)) = .returned (.int .i64 1) := by rw [hc.out, cmpD, if_neg (by omega), if_pos h]
        have hv := Lib.hid hv
        have d1 : decide (A q < B q) = false := by simp; omega
        have d2 : decide (B q < A q) = true := by simp; omega
        clear hc hz h
        go_wp2_with fail
        refine wp_region_grow (by kernel_rfl) (by kernel_rfl) ?_
        repeat (go_big_quiet_step ((fail)))
        refine wpQuiet_nil ?_
        rintro _ ⟨xg, rfl⟩
        go_wp2_with fail
        refine wp_region_grow (by kernel_rfl) (by kernel_rfl) ?_
        repeat (go_big_quiet_step ((fail)))
        refine wpQuiet_nil ?_
        rintro _ ⟨xg, rfl⟩
        go_wp2_with fail
        go_ret
        exact ⟨hv.out.symm, (by repeat (first | exact Below.refl _ _ | refine bel_grow ?_ _ | refine bel_alloc ?_ _ | refine bel_set ?_ (by simp) _))⟩
end Go.Proofs.Ytgfgaaecpdbgeaa
