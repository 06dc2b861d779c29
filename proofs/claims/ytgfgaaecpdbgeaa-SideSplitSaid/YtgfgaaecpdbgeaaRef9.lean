/- The document's own numbers, as digits: contracts of its calls, part 9: sums. -/
import Derived.Test.YtgfgaaecpdbgeaaRef8
namespace Go.Proofs.Ytgfgaaecpdbgeaa
open Go.RowKit
set_option linter.unusedVariables false
set_option linter.unusedSimpArgs false
theorem partOf_0 (N : Nat) : partOf N 0 = fun _ => 0 := by funext j; unfold partOf; simp
theorem partOf_s (N k : Nat) (v : Int) (hv : v = dg N k) : (fun j => if j = k then v else partOf N k j) = partOf N (k + 1) := by
  funext j
  unfold partOf
  by_cases e : j = k
  · subst e; rw [if_pos rfl, if_pos (by omega), hv]
  · rw [if_neg e]
    by_cases h : j < k
    · rw [if_pos h, if_pos (by omega)]
    · rw [if_neg h, if_neg (by omega)]
theorem partOf_18 (N : Nat) (s : Bool) : numc s (partOf N 18) = numc s (dg N) := numc_congr fun j hj => by unfold partOf; rw [if_pos hj]
theorem digs_18 (N : Nat) : digs (partOf N 18) = digs (dg N) := digs_congr fun j hj => by unfold partOf; rw [if_pos hj]
theorem dg_bd (N k : Nat) : 0 ≤ dg N k ∧ dg N k ≤ 65535 := by have := dN_lt N k; rw [dg_dN]; omega
theorem dg_sum (A B k : Nat) : (dg A k + dg B k + ((carryN A B k : Nat) : Int)) % 65536 = dg (A + B) k ∧ (dg A k + dg B k + ((carryN A B k : Nat) : Int)) / 65536 = ((carryN A B (k + 1) : Nat) : Int) := by
  have h := carry_s A B k
  rw [dg_dN, dg_dN, dg_dN, ← h.1, ← h.2]
  omega

set_option maxRecDepth 100000 in
set_option maxHeartbeats 4000000 in
theorem plus_pos (A B : Nat) (bs : Big (A + B)) : Gives Try.prog 42 #[.agg (numc false (dg A)), .agg (numc false (dg B))] (.agg (numc false (dg (A + B)))) := by
  refine Gives.mk fun w => ?_
  clear bs
  have e18 := Lib.hid (partOf_18 (A + B) false)
  go_enter Try.func42, Try.ntmps42
  go_upto_region 1 with (first | (refine wpList_val rfl _ _ (alloc_num _ _ rfl _ _ rfl) ?_; simp only [World.size_alloc]) | (refine wpList_val rfl _ _ (build_num0 _ _ rfl _) ?_) | (refine wpList_store_row rfl 70 _ _ rfl (w.heap.size + 1 + 1 + 1) (numc false fun _ => 0) rfl rfl 70 (numc false fun _ => 0) (by simp only [grow_heap, alloc_heap_at, alloc_heap_past, setRow_alloc_at, setRow_alloc_past, grow_setRow, size_setRow, World.size_alloc, grow_lt, grow_lt1, grow_lt2, grow_lt3, grow_lt4, grow_lt5, grow_lt6, grow_self1, grow_self2, grow_self3, or_true, ltd2, ltd3, ltd4, ltd5, ltd6, ltd7, Nat.lt_add_one, true_or, if_true, ite_true]) (by rw [numc_size]; exact info30) (by simp only [numc_size]) (numc_one _ _) ?_))
  simp only [Act.put, List.setIfInBounds_toArray, List.set_cons_succ, List.set_cons_zero]
  go_wp2_with (first | (refine wpList_val rfl _ _ (alloc_num _ _ rfl _ _ rfl) ?_; simp only [World.size_alloc]) | (refine wpList_val rfl _ _ (build_num0 _ _ rfl _) ?_) | (refine wpList_store_row rfl 70 _ _ rfl (w.heap.size + 1 + 1 + 1) (numc false fun _ => 0) rfl rfl 70 (numc false fun _ => 0) (by simp only [grow_heap, alloc_heap_at, alloc_heap_past, setRow_alloc_at, setRow_alloc_past, grow_setRow, size_setRow, World.size_alloc, grow_lt, grow_lt1, grow_lt2, grow_lt3, grow_lt4, grow_lt5, grow_lt6, grow_self1, grow_self2, grow_self3, or_true, ltd2, ltd3, ltd4, ltd5, ltd6, ltd7, Nat.lt_add_one, true_or, if_true, ite_true]) (by rw [numc_size]; exact info30) (by simp only [numc_size]) (numc_one _ _) ?_))
  rw [← partOf_0 (A + B)]
  go_loopw [6, 7] (fun c i wr => ∃ k : Nat, i = .int .i64 k ∧ c = .int .i64 ((carryN A B k : Nat) : Int) ∧ k ≤ 18 ∧ ∃ x, wr = grow ((((w.alloc (.cells (numc false (dg A)) 70)).alloc (.cells (numc false (dg B)) 70)).alloc (.cells (numc false fun _ => 0) 70)).alloc (.cells (numc false (partOf (A + B) k)) 70)) x) (fun _ i _ => (18 - intOf i).toNat)
  case atStart => exact ⟨0, rfl, by rw [carry_0]; rfl, by omega, grow_of (Below.refl _ _)⟩
  case round =>
    obtain ⟨k, rfl, rfl, hk, xx, rfl⟩ := hrel
    by_cases hlt : k < 18
    · have e1 := (dg_sum A B k).1
      have e2 := (dg_sum A B k).2
      have b1 := dg_bd A k
      have b2 := dg_bd B k
      have cl := carry_le A B k
      have ps := partOf_s (A + B) k (dg (A + B) k) rfl
      generalize carryN A B k = c at *
      have i0 : (0 : Int) ≤ (k : Int) := by omega
      have i1 : (k : Int) < 18 := by omega
      go_wp2_with fail
      refine wp_region_grow (by kernel_rfl) (by kernel_rfl) ?_
      repeat (go_big_quiet_step ((fail)))
      refine wpQuiet_nil ?_
      rintro _ ⟨xg, rfl⟩
      go_wp2_with fail
      go_roundw
      case rel => exact ⟨k + 1, by go_num, by rw [e2], by omega, grow_of (by repeat (first | exact Below.refl _ _ | refine bel_then ?_ _ | refine bel_grow ?_ _ | refine bel_alloc ?_ _ | refine bel_drew ?_ | refine bel_set ?_ (by simp) _ | refine bel_setRow ?_ (by first | omega | simp) _))⟩
      case measure => simp [intOf] <;> omega
    · obtain rfl : k = 18 := by omega
      rw [e18.out]
      clear e18
      go_wp2_with (first | (refine wpList_part rfl _ rfl (w.heap.size + 1 + 1 + 1) rfl (false) (dg (A + B)) (by simp only [grow_heap, alloc_heap_at, alloc_heap_past, setRow_alloc_at, setRow_alloc_past, grow_setRow, size_setRow, World.size_alloc, grow_lt, grow_lt1, grow_lt2, grow_lt3, grow_lt4, grow_lt5, grow_lt6, grow_self1, grow_self2, grow_self3, or_true, ltd2, ltd3, ltd4, ltd5, ltd6, ltd7, Nat.lt_add_one, true_or, if_true, ite_true]) ?_) | (refine wpList_load_row rfl 70 _ rfl (w.heap.size + 1 + 1 + 1) rfl 70 (numc false (dg (A + B))) (0, 0) _ (by simp only [grow_heap, alloc_heap_at, alloc_heap_past, setRow_alloc_at, setRow_alloc_past, grow_setRow, size_setRow, World.size_alloc, grow_lt, grow_lt1, grow_lt2, grow_lt3, grow_lt4, grow_lt5, grow_lt6, grow_self1, grow_self2, grow_self3, or_true, ltd2, ltd3, ltd4, ltd5, ltd6, ltd7, Nat.lt_add_one, true_or, if_true, ite_true]) Try.underlying70 rfl (by rw [numc_size]; exact info30) ?_) | (refine wpList_store_row rfl 70 _ _ rfl (w.heap.size + 1 + 1) (numc false (dg (A + B))) rfl rfl 70 (numc false fun _ => 0) (by simp only [grow_heap, alloc_heap_at, alloc_heap_past, setRow_alloc_at, setRow_alloc_past, grow_setRow, size_setRow, World.size_alloc, grow_lt, grow_lt1, grow_lt2, grow_lt3, grow_lt4, grow_lt5, grow_lt6, grow_self1, grow_self2, grow_self3, or_true, ltd2, ltd3, ltd4, ltd5, ltd6, ltd7, Nat.lt_add_one, true_or, if_true, ite_true]) (by rw [numc_size]; exact info30) (by simp only [numc_size]) (numc_one _ _) ?_))
      refine bodyPost_ret (results_cell_row rfl _ _ (w.heap.size + 1 + 1) 70 (numc false (dg (A + B))) (0, 0) _ rfl (by simp only [grow_heap, alloc_heap_at, alloc_heap_past, setRow_alloc_at, setRow_alloc_past, grow_setRow, size_setRow, World.size_alloc, grow_lt, grow_lt1, grow_lt2, grow_lt3, grow_lt4, grow_lt5, grow_lt6, grow_self1, grow_self2, grow_self3, or_true, ltd2, ltd3, ltd4, ltd5, ltd6, ltd7, Nat.lt_add_one, true_or, if_true, ite_true]) Try.underlying70 rfl (by rw [numc_size]; exact info30)) rfl ⟨rfl, (by repeat (first | exact Below.refl _ _ | refine bel_then ?_ _ | refine bel_grow ?_ _ | refine bel_alloc ?_ _ | refine bel_drew ?_ | refine bel_set ?_ (by simp) _ | refine bel_setRow ?_ (by first | omega | simp) _))⟩

set_option maxRecDepth 100000 in
set_option maxHeartbeats 4000000 in
theorem plus_neg (A B : Nat) (bs : Big (A + B)) (hz : A + B ≠ 0) : Gives Try.prog 42 #[.agg (numc true (dg A)), .agg (numc true (dg B))] (.agg (numc true (dg (A + B)))) := by
  refine Gives.mk fun w => ?_
  have z := zero_any (dg (A + B))
  rw [allZ_dg _ bs, show decide (A + B = 0) = false by simp; omega] at z
  clear hz
  clear bs
  have e18 := Lib.hid (partOf_18 (A + B) false)
  go_enter Try.func42, Try.ntmps42
  go_upto_region 1 with (first | (refine wpList_val rfl _ _ (alloc_num _ _ rfl _ _ rfl) ?_; simp only [World.size_alloc]) | (refine wpList_val rfl _ _ (build_num0 _ _ rfl _) ?_) | (refine wpList_store_row rfl 70 _ _ rfl (w.heap.size + 1 + 1 + 1) (numc false fun _ => 0) rfl rfl 70 (numc false fun _ => 0) (by simp only [grow_heap, alloc_heap_at, alloc_heap_past, setRow_alloc_at, setRow_alloc_past, grow_setRow, size_setRow, World.size_alloc, grow_lt, grow_lt1, grow_lt2, grow_lt3, grow_lt4, grow_lt5, grow_lt6, grow_self1, grow_self2, grow_self3, or_true, ltd2, ltd3, ltd4, ltd5, ltd6, ltd7, Nat.lt_add_one, true_or, if_true, ite_true]) (by rw [numc_size]; exact info30) (by simp only [numc_size]) (numc_one _ _) ?_))
  simp only [Act.put, List.setIfInBounds_toArray, List.set_cons_succ, List.set_cons_zero]
  go_wp2_with (first | (refine wpList_val rfl _ _ (alloc_num _ _ rfl _ _ rfl) ?_; simp only [World.size_alloc]) | (refine wpList_val rfl _ _ (build_num0 _ _ rfl _) ?_) | (refine wpList_store_row rfl 70 _ _ rfl (w.heap.size + 1 + 1 + 1) (numc false fun _ => 0) rfl rfl 70 (numc false fun _ => 0) (by simp only [grow_heap, alloc_heap_at, alloc_heap_past, setRow_alloc_at, setRow_alloc_past, grow_setRow, size_setRow, World.size_alloc, grow_lt, grow_lt1, grow_lt2, grow_lt3, grow_lt4, grow_lt5, grow_lt6, grow_self1, grow_self2, grow_self3, or_true, ltd2, ltd3, ltd4, ltd5, ltd6, ltd7, Nat.lt_add_one, true_or, if_true, ite_true]) (by rw [numc_size]; exact info30) (by simp only [numc_size]) (numc_one _ _) ?_))
  rw [← partOf_0 (A + B)]
  go_loopw [6, 7] (fun c i wr => ∃ k : Nat, i = .int .i64 k ∧ c = .int .i64 ((carryN A B k : Nat) : Int) ∧ k ≤ 18 ∧ ∃ x, wr = grow ((((w.alloc (.cells (numc true (dg A)) 70)).alloc (.cells (numc true (dg B)) 70)).alloc (.cells (numc false fun _ => 0) 70)).alloc (.cells (numc false (partOf (A + B) k)) 70)) x) (fun _ i _ => (18 - intOf i).toNat)
  case atStart => exact ⟨0, rfl, by rw [carry_0]; rfl, by omega, grow_of (Below.refl _ _)⟩
  case round =>
    obtain ⟨k, rfl, rfl, hk, xx, rfl⟩ := hrel
    by_cases hlt : k < 18
    · have e1 := (dg_sum A B k).1
      have e2 := (dg_sum A B k).2
      have b1 := dg_bd A k
      have b2 := dg_bd B k
      have cl := carry_le A B k
      have ps := partOf_s (A + B) k (dg (A + B) k) rfl
      generalize carryN A B k = c at *
      have i0 : (0 : Int) ≤ (k : Int) := by omega
      have i1 : (k : Int) < 18 := by omega
      go_wp2_with fail
      refine wp_region_grow (by kernel_rfl) (by kernel_rfl) ?_
      repeat (go_big_quiet_step ((fail)))
      refine wpQuiet_nil ?_
      rintro _ ⟨xg, rfl⟩
      go_wp2_with fail
      go_roundw
      case rel => exact ⟨k + 1, by go_num, by rw [e2], by omega, grow_of (by repeat (first | exact Below.refl _ _ | refine bel_then ?_ _ | refine bel_grow ?_ _ | refine bel_alloc ?_ _ | refine bel_drew ?_ | refine bel_set ?_ (by simp) _ | refine bel_setRow ?_ (by first | omega | simp) _))⟩
      case measure => simp [intOf] <;> omega
    · obtain rfl : k = 18 := by omega
      rw [e18.out]
      clear e18
      go_wp2_with (first | (refine wpList_part rfl _ rfl (w.heap.size + 1 + 1 + 1) rfl (false) (dg (A + B)) (by simp only [grow_heap, alloc_heap_at, alloc_heap_past, setRow_alloc_at, setRow_alloc_past, grow_setRow, size_setRow, World.size_alloc, grow_lt, grow_lt1, grow_lt2, grow_lt3, grow_lt4, grow_lt5, grow_lt6, grow_self1, grow_self2, grow_self3, or_true, ltd2, ltd3, ltd4, ltd5, ltd6, ltd7, Nat.lt_add_one, true_or, if_true, ite_true]) ?_) | (refine wpList_load_row rfl 70 _ rfl (w.heap.size + 1 + 1 + 1) rfl 70 (numc true (dg (A + B))) (0, 0) _ (by simp only [grow_heap, alloc_heap_at, alloc_heap_past, setRow_alloc_at, setRow_alloc_past, grow_setRow, size_setRow, World.size_alloc, grow_lt, grow_lt1, grow_lt2, grow_lt3, grow_lt4, grow_lt5, grow_lt6, grow_self1, grow_self2, grow_self3, or_true, ltd2, ltd3, ltd4, ltd5, ltd6, ltd7, Nat.lt_add_one, true_or, if_true, ite_true]) Try.underlying70 rfl (by rw [numc_size]; exact info30) ?_) | (refine wpList_store_row rfl 70 _ _ rfl (w.heap.size + 1 + 1) (numc true (dg (A + B))) rfl rfl 70 (numc false fun _ => 0) (by simp only [grow_heap, alloc_heap_at, alloc_heap_past, setRow_alloc_at, setRow_alloc_past, grow_setRow, size_setRow, World.size_alloc, grow_lt, grow_lt1, grow_lt2, grow_lt3, grow_lt4, grow_lt5, grow_lt6, grow_self1, grow_self2, grow_self3, or_true, ltd2, ltd3, ltd4, ltd5, ltd6, ltd7, Nat.lt_add_one, true_or, if_true, ite_true]) (by rw [numc_size]; exact info30) (by simp only [numc_size]) (numc_one _ _) ?_) | (go_at_call 41; first | ((with_reducible refine (z.at_ _).mono ?_); rintro e w' ⟨rfl, xg, rfl⟩)))
      refine bodyPost_ret (results_cell_row rfl _ _ (w.heap.size + 1 + 1) 70 (numc true (dg (A + B))) (0, 0) _ rfl (by simp only [grow_heap, alloc_heap_at, alloc_heap_past, setRow_alloc_at, setRow_alloc_past, grow_setRow, size_setRow, World.size_alloc, grow_lt, grow_lt1, grow_lt2, grow_lt3, grow_lt4, grow_lt5, grow_lt6, grow_self1, grow_self2, grow_self3, or_true, ltd2, ltd3, ltd4, ltd5, ltd6, ltd7, Nat.lt_add_one, true_or, if_true, ite_true]) Try.underlying70 rfl (by rw [numc_size]; exact info30)) rfl ⟨rfl, (by repeat (first | exact Below.refl _ _ | refine bel_then ?_ _ | refine bel_grow ?_ _ | refine bel_alloc ?_ _ | refine bel_drew ?_ | refine bel_set ?_ (by simp) _ | refine bel_setRow ?_ (by first | omega | simp) _))⟩

end Go.Proofs.Ytgfgaaecpdbgeaa
