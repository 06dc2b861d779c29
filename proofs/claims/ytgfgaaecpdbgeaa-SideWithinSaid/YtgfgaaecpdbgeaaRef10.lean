/- The document's own numbers, as digits: contracts of its calls, part 10: differences. -/
import Derived.Test.YtgfgaaecpdbgeaaRef9
namespace Go.Proofs.Ytgfgaaecpdbgeaa
open Go.RowKit
set_option linter.unusedVariables false
set_option linter.unusedSimpArgs false
theorem dg_diff (A B k : Nat) (h : B ≤ A) : (dg A k - dg B k - ((borrowN A B k : Nat) : Int) < 0 → dg A k - dg B k - ((borrowN A B k : Nat) : Int) + 65536 = dg (A - B) k ∧ borrowN A B (k + 1) = 1) ∧
    (¬ dg A k - dg B k - ((borrowN A B k : Nat) : Int) < 0 → dg A k - dg B k - ((borrowN A B k : Nat) : Int) = dg (A - B) k ∧ borrowN A B (k + 1) = 0) := by
  obtain ⟨h1, h2⟩ := borrow_s A B k h
  rw [dg_dN, dg_dN, dg_dN]
  constructor
  · intro hl
    obtain ⟨e1, e2⟩ := h1 (by omega)
    exact ⟨by omega, e2⟩
  · intro hl
    obtain ⟨e1, e2⟩ := h2 (by omega)
    exact ⟨by omega, e2⟩
theorem borrow_le (A B k : Nat) : borrowN A B k ≤ 1 := by unfold borrowN; split <;> omega

set_option maxRecDepth 100000 in
set_option maxHeartbeats 4000000 in
theorem diff_tf (A B : Nat) (ba : Big A) (bb : Big B) (h : B ≤ A) (hz : A ≠ B) : Gives Try.prog 42 #[.agg (numc true (dg A)), .agg (numc false (dg B))] (.agg (numc true (dg (A - B)))) := by
  refine Gives.mk fun w => ?_
  have k0 := cmpDigits_dg A B ba bb
  obtain ⟨c, hc, h1⟩ : ∃ c, cmpOf (A : Int) (B : Int) = c ∧ 0 ≤ c := ⟨_, rfl, by unfold cmpOf; split <;> (try split) <;> omega⟩
  rw [hc] at k0
  have bd : Big (A - B) := Nat.lt_of_le_of_lt (Nat.sub_le A B) ba
  have z := zero_any (dg (A - B))
  rw [allZ_dg _ bd, show decide (A - B = 0) = false by simp; omega] at z
  have step := fun k => dg_diff A B k (by omega)
  replace step := Lib.hid step
  have e18 := Lib.hid (partOf_18 (A - B) false)
  clear ba bb h hc bd hz
  go_enter Try.func42, Try.ntmps42
  go_upto_region 1 with (first | (refine wpList_val rfl _ _ (alloc_num _ _ rfl _ _ rfl) ?_; simp only [World.size_alloc]) | (refine wpList_val rfl _ _ (build_num0 _ _ rfl _) ?_) | (refine wpList_store_row rfl 70 _ _ rfl (w.heap.size + 1 + 1 + 1) (numc false fun _ => 0) rfl rfl 70 (numc false fun _ => 0) (by simp only [grow_heap, alloc_heap_at, alloc_heap_past, setRow_alloc_at, setRow_alloc_past, grow_setRow, size_setRow, World.size_alloc, grow_lt, grow_lt1, grow_lt2, grow_lt3, grow_lt4, grow_lt5, grow_lt6, grow_self1, grow_self2, grow_self3, or_true, ltd2, ltd3, ltd4, ltd5, ltd6, ltd7, Nat.lt_add_one, true_or, if_true, ite_true]) (by rw [numc_size]; exact info30) (by simp only [numc_size]) (numc_one _ _) ?_))
  simp only [Act.put, List.setIfInBounds_toArray, List.set_cons_succ, List.set_cons_zero]
  go_wp2_with (first | (refine wpList_val rfl _ _ (alloc_num _ _ rfl _ _ rfl) ?_; simp only [World.size_alloc]) | (refine wpList_val rfl _ _ (build_num0 _ _ rfl _) ?_) | (refine wpList_store_row rfl 70 _ _ rfl (w.heap.size + 1 + 1 + 1) (numc false fun _ => 0) rfl rfl 70 (numc false fun _ => 0) (by simp only [grow_heap, alloc_heap_at, alloc_heap_past, setRow_alloc_at, setRow_alloc_past, grow_setRow, size_setRow, World.size_alloc, grow_lt, grow_lt1, grow_lt2, grow_lt3, grow_lt4, grow_lt5, grow_lt6, grow_self1, grow_self2, grow_self3, or_true, ltd2, ltd3, ltd4, ltd5, ltd6, ltd7, Nat.lt_add_one, true_or, if_true, ite_true]) (by rw [numc_size]; exact info30) (by simp only [numc_size]) (numc_one _ _) ?_) | (refine wpList_part rfl _ rfl (w.heap.size) rfl (true) (dg A) (by simp only [grow_heap, alloc_heap_at, alloc_heap_past, setRow_alloc_at, setRow_alloc_past, grow_setRow, size_setRow, World.size_alloc, grow_lt, grow_lt1, grow_lt2, grow_lt3, grow_lt4, grow_lt5, grow_lt6, grow_self1, grow_self2, grow_self3, or_true, ltd2, ltd3, ltd4, ltd5, ltd6, ltd7, Nat.lt_add_one, true_or, if_true, ite_true]) ?_) | (refine wpList_part rfl _ rfl (w.heap.size + 1) rfl (false) (dg B) (by simp only [grow_heap, alloc_heap_at, alloc_heap_past, setRow_alloc_at, setRow_alloc_past, grow_setRow, size_setRow, World.size_alloc, grow_lt, grow_lt1, grow_lt2, grow_lt3, grow_lt4, grow_lt5, grow_lt6, grow_self1, grow_self2, grow_self3, or_true, ltd2, ltd3, ltd4, ltd5, ltd6, ltd7, Nat.lt_add_one, true_or, if_true, ite_true]) ?_) | (go_at_call 64; first | ((with_reducible refine (k0.at_ _).mono ?_); rintro e w' ⟨rfl, xg, rfl⟩)))
  rw [← partOf_0 (A - B)]
  go_loopw [9, 10] (fun c i wr => ∃ k : Nat, i = .int .i64 k ∧ c = .int .i64 ((borrowN A B k : Nat) : Int) ∧ k ≤ 18 ∧ ∃ x, wr = grow ((((w.alloc (.cells (numc true (dg A)) 70)).alloc (.cells (numc false (dg B)) 70)).alloc (.cells (numc false fun _ => 0) 70)).alloc (.cells (numc false (partOf (A - B) k)) 70)) x) (fun _ i _ => (18 - intOf i).toNat)
  case atStart => exact ⟨0, rfl, by rw [borrow_0]; rfl, by omega, grow_of (by repeat (first | exact Below.refl _ _ | refine bel_then ?_ _ | refine bel_grow ?_ _ | refine bel_alloc ?_ _ | refine bel_drew ?_ | refine bel_set ?_ (by simp) _ | refine bel_setRow ?_ (by first | omega | simp) _))⟩
  case round =>
    obtain ⟨k, rfl, rfl, hk, xx, rfl⟩ := hrel
    by_cases hlt : k < 18
    · have e := step.out k
      have b1 := dg_bd A k
      have b2 := dg_bd B k
      have cl := borrow_le A B k
      obtain ⟨c, hc⟩ : ∃ c, borrowN A B k = c := ⟨_, rfl⟩
      rw [hc] at e cl ⊢
      clear hc step k0
      have i0 : (0 : Int) ≤ (k : Int) := by omega
      have i1 : (k : Int) < 18 := by omega
      by_cases hs : dg A k - dg B k - (c : Int) < 0
      · obtain ⟨e1, e2⟩ := e.1 hs
        have ps := partOf_s (A - B) k (dg A k - dg B k - (c : Int) + 65536) e1
        replace e1 := Lib.hid e1
        replace e2 := Lib.hid e2
        clear e
        go_wp2_with fail
        refine wp_region_grow (by kernel_rfl) (by kernel_rfl) ?_
        repeat (go_big_quiet_step ((fail)))
        refine wpQuiet_nil ?_
        rintro _ ⟨xg, rfl⟩
        go_wp2_with fail
        go_roundw
        case rel => exact ⟨k + 1, by go_num, by rw [e2.out]; rfl, by omega, grow_of (by repeat (first | exact Below.refl _ _ | refine bel_then ?_ _ | refine bel_grow ?_ _ | refine bel_alloc ?_ _ | refine bel_drew ?_ | refine bel_set ?_ (by simp) _ | refine bel_setRow ?_ (by first | omega | simp) _))⟩
        case measure => simp [intOf] <;> omega
      · obtain ⟨e1, e2⟩ := e.2 (by omega)
        have ps := partOf_s (A - B) k (dg A k - dg B k - (c : Int)) e1
        have hs2 : 0 ≤ dg A k - dg B k - (c : Int) := by omega
        replace e1 := Lib.hid e1
        replace e2 := Lib.hid e2
        clear e hs
        go_wp2_with fail
        refine wp_region_grow (by kernel_rfl) (by kernel_rfl) ?_
        repeat (go_big_quiet_step ((fail)))
        refine wpQuiet_nil ?_
        rintro _ ⟨xg, rfl⟩
        go_wp2_with fail
        go_roundw
        case rel => exact ⟨k + 1, by go_num, by rw [e2.out]; rfl, by omega, grow_of (by repeat (first | exact Below.refl _ _ | refine bel_then ?_ _ | refine bel_grow ?_ _ | refine bel_alloc ?_ _ | refine bel_drew ?_ | refine bel_set ?_ (by simp) _ | refine bel_setRow ?_ (by first | omega | simp) _))⟩
        case measure => simp [intOf] <;> omega
    · obtain rfl : k = 18 := by omega
      rw [e18.out]
      clear e18 step k0
      go_wp2_with (first | (refine wpList_part rfl _ rfl (w.heap.size + 1 + 1 + 1) rfl (false) (dg (A - B)) (by simp only [grow_heap, alloc_heap_at, alloc_heap_past, setRow_alloc_at, setRow_alloc_past, grow_setRow, size_setRow, World.size_alloc, grow_lt, grow_lt1, grow_lt2, grow_lt3, grow_lt4, grow_lt5, grow_lt6, grow_self1, grow_self2, grow_self3, or_true, ltd2, ltd3, ltd4, ltd5, ltd6, ltd7, Nat.lt_add_one, true_or, if_true, ite_true]) ?_) | (refine wpList_load_row rfl 70 _ rfl (w.heap.size + 1 + 1 + 1) rfl 70 (numc true (dg (A - B))) (0, 0) _ (by simp only [grow_heap, alloc_heap_at, alloc_heap_past, setRow_alloc_at, setRow_alloc_past, grow_setRow, size_setRow, World.size_alloc, grow_lt, grow_lt1, grow_lt2, grow_lt3, grow_lt4, grow_lt5, grow_lt6, grow_self1, grow_self2, grow_self3, or_true, ltd2, ltd3, ltd4, ltd5, ltd6, ltd7, Nat.lt_add_one, true_or, if_true, ite_true]) Try.underlying70 rfl (by rw [numc_size]; exact info30) ?_) | (refine wpList_store_row rfl 70 _ _ rfl (w.heap.size + 1 + 1) (numc true (dg (A - B))) rfl rfl 70 (numc false fun _ => 0) (by simp only [grow_heap, alloc_heap_at, alloc_heap_past, setRow_alloc_at, setRow_alloc_past, grow_setRow, size_setRow, World.size_alloc, grow_lt, grow_lt1, grow_lt2, grow_lt3, grow_lt4, grow_lt5, grow_lt6, grow_self1, grow_self2, grow_self3, or_true, ltd2, ltd3, ltd4, ltd5, ltd6, ltd7, Nat.lt_add_one, true_or, if_true, ite_true]) (by rw [numc_size]; exact info30) (by simp only [numc_size]) (numc_one _ _) ?_) | (go_at_call 41; first | ((with_reducible refine (z.at_ _).mono ?_); rintro e w' ⟨rfl, xg, rfl⟩)))
      refine bodyPost_ret (results_cell_row rfl _ _ (w.heap.size + 1 + 1) 70 (numc true (dg (A - B))) (0, 0) _ rfl (by simp only [grow_heap, alloc_heap_at, alloc_heap_past, setRow_alloc_at, setRow_alloc_past, grow_setRow, size_setRow, World.size_alloc, grow_lt, grow_lt1, grow_lt2, grow_lt3, grow_lt4, grow_lt5, grow_lt6, grow_self1, grow_self2, grow_self3, or_true, ltd2, ltd3, ltd4, ltd5, ltd6, ltd7, Nat.lt_add_one, true_or, if_true, ite_true]) Try.underlying70 rfl (by rw [numc_size]; exact info30)) rfl ⟨rfl, (by repeat (first | exact Below.refl _ _ | refine bel_then ?_ _ | refine bel_grow ?_ _ | refine bel_alloc ?_ _ | refine bel_drew ?_ | refine bel_set ?_ (by simp) _ | refine bel_setRow ?_ (by first | omega | simp) _))⟩

set_option maxRecDepth 100000 in
set_option maxHeartbeats 4000000 in
theorem diff_tf0 (A B : Nat) (ba : Big A) (bb : Big B) (h : B ≤ A) (hz : A = B) : Gives Try.prog 42 #[.agg (numc true (dg A)), .agg (numc false (dg B))] (.agg (numc false (dg (A - B)))) := by
  refine Gives.mk fun w => ?_
  have k0 := cmpDigits_dg A B ba bb
  obtain ⟨c, hc, h1⟩ : ∃ c, cmpOf (A : Int) (B : Int) = c ∧ 0 ≤ c := ⟨_, rfl, by unfold cmpOf; split <;> (try split) <;> omega⟩
  rw [hc] at k0
  have bd : Big (A - B) := Nat.lt_of_le_of_lt (Nat.sub_le A B) ba
  have z := zero_any (dg (A - B))
  rw [allZ_dg _ bd, show decide (A - B = 0) = true by simp; omega] at z
  have step := fun k => dg_diff A B k (by omega)
  replace step := Lib.hid step
  have e18 := Lib.hid (partOf_18 (A - B) false)
  clear ba bb h hc bd hz
  go_enter Try.func42, Try.ntmps42
  go_upto_region 1 with (first | (refine wpList_val rfl _ _ (alloc_num _ _ rfl _ _ rfl) ?_; simp only [World.size_alloc]) | (refine wpList_val rfl _ _ (build_num0 _ _ rfl _) ?_) | (refine wpList_store_row rfl 70 _ _ rfl (w.heap.size + 1 + 1 + 1) (numc false fun _ => 0) rfl rfl 70 (numc false fun _ => 0) (by simp only [grow_heap, alloc_heap_at, alloc_heap_past, setRow_alloc_at, setRow_alloc_past, grow_setRow, size_setRow, World.size_alloc, grow_lt, grow_lt1, grow_lt2, grow_lt3, grow_lt4, grow_lt5, grow_lt6, grow_self1, grow_self2, grow_self3, or_true, ltd2, ltd3, ltd4, ltd5, ltd6, ltd7, Nat.lt_add_one, true_or, if_true, ite_true]) (by rw [numc_size]; exact info30) (by simp only [numc_size]) (numc_one _ _) ?_))
  simp only [Act.put, List.setIfInBounds_toArray, List.set_cons_succ, List.set_cons_zero]
  go_wp2_with (first | (refine wpList_val rfl _ _ (alloc_num _ _ rfl _ _ rfl) ?_; simp only [World.size_alloc]) | (refine wpList_val rfl _ _ (build_num0 _ _ rfl _) ?_) | (refine wpList_store_row rfl 70 _ _ rfl (w.heap.size + 1 + 1 + 1) (numc false fun _ => 0) rfl rfl 70 (numc false fun _ => 0) (by simp only [grow_heap, alloc_heap_at, alloc_heap_past, setRow_alloc_at, setRow_alloc_past, grow_setRow, size_setRow, World.size_alloc, grow_lt, grow_lt1, grow_lt2, grow_lt3, grow_lt4, grow_lt5, grow_lt6, grow_self1, grow_self2, grow_self3, or_true, ltd2, ltd3, ltd4, ltd5, ltd6, ltd7, Nat.lt_add_one, true_or, if_true, ite_true]) (by rw [numc_size]; exact info30) (by simp only [numc_size]) (numc_one _ _) ?_) | (refine wpList_part rfl _ rfl (w.heap.size) rfl (true) (dg A) (by simp only [grow_heap, alloc_heap_at, alloc_heap_past, setRow_alloc_at, setRow_alloc_past, grow_setRow, size_setRow, World.size_alloc, grow_lt, grow_lt1, grow_lt2, grow_lt3, grow_lt4, grow_lt5, grow_lt6, grow_self1, grow_self2, grow_self3, or_true, ltd2, ltd3, ltd4, ltd5, ltd6, ltd7, Nat.lt_add_one, true_or, if_true, ite_true]) ?_) | (refine wpList_part rfl _ rfl (w.heap.size + 1) rfl (false) (dg B) (by simp only [grow_heap, alloc_heap_at, alloc_heap_past, setRow_alloc_at, setRow_alloc_past, grow_setRow, size_setRow, World.size_alloc, grow_lt, grow_lt1, grow_lt2, grow_lt3, grow_lt4, grow_lt5, grow_lt6, grow_self1, grow_self2, grow_self3, or_true, ltd2, ltd3, ltd4, ltd5, ltd6, ltd7, Nat.lt_add_one, true_or, if_true, ite_true]) ?_) | (go_at_call 64; first | ((with_reducible refine (k0.at_ _).mono ?_); rintro e w' ⟨rfl, xg, rfl⟩)))
  rw [← partOf_0 (A - B)]
  go_loopw [9, 10] (fun c i wr => ∃ k : Nat, i = .int .i64 k ∧ c = .int .i64 ((borrowN A B k : Nat) : Int) ∧ k ≤ 18 ∧ ∃ x, wr = grow ((((w.alloc (.cells (numc true (dg A)) 70)).alloc (.cells (numc false (dg B)) 70)).alloc (.cells (numc false fun _ => 0) 70)).alloc (.cells (numc false (partOf (A - B) k)) 70)) x) (fun _ i _ => (18 - intOf i).toNat)
  case atStart => exact ⟨0, rfl, by rw [borrow_0]; rfl, by omega, grow_of (by repeat (first | exact Below.refl _ _ | refine bel_then ?_ _ | refine bel_grow ?_ _ | refine bel_alloc ?_ _ | refine bel_drew ?_ | refine bel_set ?_ (by simp) _ | refine bel_setRow ?_ (by first | omega | simp) _))⟩
  case round =>
    obtain ⟨k, rfl, rfl, hk, xx, rfl⟩ := hrel
    by_cases hlt : k < 18
    · have e := step.out k
      have b1 := dg_bd A k
      have b2 := dg_bd B k
      have cl := borrow_le A B k
      obtain ⟨c, hc⟩ : ∃ c, borrowN A B k = c := ⟨_, rfl⟩
      rw [hc] at e cl ⊢
      clear hc step k0
      have i0 : (0 : Int) ≤ (k : Int) := by omega
      have i1 : (k : Int) < 18 := by omega
      by_cases hs : dg A k - dg B k - (c : Int) < 0
      · obtain ⟨e1, e2⟩ := e.1 hs
        have ps := partOf_s (A - B) k (dg A k - dg B k - (c : Int) + 65536) e1
        replace e1 := Lib.hid e1
        replace e2 := Lib.hid e2
        clear e
        go_wp2_with fail
        refine wp_region_grow (by kernel_rfl) (by kernel_rfl) ?_
        repeat (go_big_quiet_step ((fail)))
        refine wpQuiet_nil ?_
        rintro _ ⟨xg, rfl⟩
        go_wp2_with fail
        go_roundw
        case rel => exact ⟨k + 1, by go_num, by rw [e2.out]; rfl, by omega, grow_of (by repeat (first | exact Below.refl _ _ | refine bel_then ?_ _ | refine bel_grow ?_ _ | refine bel_alloc ?_ _ | refine bel_drew ?_ | refine bel_set ?_ (by simp) _ | refine bel_setRow ?_ (by first | omega | simp) _))⟩
        case measure => simp [intOf] <;> omega
      · obtain ⟨e1, e2⟩ := e.2 (by omega)
        have ps := partOf_s (A - B) k (dg A k - dg B k - (c : Int)) e1
        have hs2 : 0 ≤ dg A k - dg B k - (c : Int) := by omega
        replace e1 := Lib.hid e1
        replace e2 := Lib.hid e2
        clear e hs
        go_wp2_with fail
        refine wp_region_grow (by kernel_rfl) (by kernel_rfl) ?_
        repeat (go_big_quiet_step ((fail)))
        refine wpQuiet_nil ?_
        rintro _ ⟨xg, rfl⟩
        go_wp2_with fail
        go_roundw
        case rel => exact ⟨k + 1, by go_num, by rw [e2.out]; rfl, by omega, grow_of (by repeat (first | exact Below.refl _ _ | refine bel_then ?_ _ | refine bel_grow ?_ _ | refine bel_alloc ?_ _ | refine bel_drew ?_ | refine bel_set ?_ (by simp) _ | refine bel_setRow ?_ (by first | omega | simp) _))⟩
        case measure => simp [intOf] <;> omega
    · obtain rfl : k = 18 := by omega
      rw [e18.out]
      clear e18 step k0
      go_wp2_with (first | (refine wpList_part rfl _ rfl (w.heap.size + 1 + 1 + 1) rfl (false) (dg (A - B)) (by simp only [grow_heap, alloc_heap_at, alloc_heap_past, setRow_alloc_at, setRow_alloc_past, grow_setRow, size_setRow, World.size_alloc, grow_lt, grow_lt1, grow_lt2, grow_lt3, grow_lt4, grow_lt5, grow_lt6, grow_self1, grow_self2, grow_self3, or_true, ltd2, ltd3, ltd4, ltd5, ltd6, ltd7, Nat.lt_add_one, true_or, if_true, ite_true]) ?_) | (refine wpList_load_row rfl 70 _ rfl (w.heap.size + 1 + 1 + 1) rfl 70 (numc false (dg (A - B))) (0, 0) _ (by simp only [grow_heap, alloc_heap_at, alloc_heap_past, setRow_alloc_at, setRow_alloc_past, grow_setRow, size_setRow, World.size_alloc, grow_lt, grow_lt1, grow_lt2, grow_lt3, grow_lt4, grow_lt5, grow_lt6, grow_self1, grow_self2, grow_self3, or_true, ltd2, ltd3, ltd4, ltd5, ltd6, ltd7, Nat.lt_add_one, true_or, if_true, ite_true]) Try.underlying70 rfl (by rw [numc_size]; exact info30) ?_) | (refine wpList_store_row rfl 70 _ _ rfl (w.heap.size + 1 + 1) (numc false (dg (A - B))) rfl rfl 70 (numc false fun _ => 0) (by simp only [grow_heap, alloc_heap_at, alloc_heap_past, setRow_alloc_at, setRow_alloc_past, grow_setRow, size_setRow, World.size_alloc, grow_lt, grow_lt1, grow_lt2, grow_lt3, grow_lt4, grow_lt5, grow_lt6, grow_self1, grow_self2, grow_self3, or_true, ltd2, ltd3, ltd4, ltd5, ltd6, ltd7, Nat.lt_add_one, true_or, if_true, ite_true]) (by rw [numc_size]; exact info30) (by simp only [numc_size]) (numc_one _ _) ?_) | (go_at_call 41; first | ((with_reducible refine (z.at_ _).mono ?_); rintro e w' ⟨rfl, xg, rfl⟩)))
      refine bodyPost_ret (results_cell_row rfl _ _ (w.heap.size + 1 + 1) 70 (numc false (dg (A - B))) (0, 0) _ rfl (by simp only [grow_heap, alloc_heap_at, alloc_heap_past, setRow_alloc_at, setRow_alloc_past, grow_setRow, size_setRow, World.size_alloc, grow_lt, grow_lt1, grow_lt2, grow_lt3, grow_lt4, grow_lt5, grow_lt6, grow_self1, grow_self2, grow_self3, or_true, ltd2, ltd3, ltd4, ltd5, ltd6, ltd7, Nat.lt_add_one, true_or, if_true, ite_true]) Try.underlying70 rfl (by rw [numc_size]; exact info30)) rfl ⟨rfl, (by repeat (first | exact Below.refl _ _ | refine bel_then ?_ _ | refine bel_grow ?_ _ | refine bel_alloc ?_ _ | refine bel_drew ?_ | refine bel_set ?_ (by simp) _ | refine bel_setRow ?_ (by first | omega | simp) _))⟩

set_option maxRecDepth 100000 in
set_option maxHeartbeats 4000000 in
theorem diff_ft (A B : Nat) (ba : Big A) (bb : Big B) (h : B ≤ A) : Gives Try.prog 42 #[.agg (numc false (dg A)), .agg (numc true (dg B))] (.agg (numc false (dg (A - B)))) := by
  refine Gives.mk fun w => ?_
  have k0 := cmpDigits_dg A B ba bb
  obtain ⟨c, hc, h1⟩ : ∃ c, cmpOf (A : Int) (B : Int) = c ∧ 0 ≤ c := ⟨_, rfl, by unfold cmpOf; split <;> (try split) <;> omega⟩
  rw [hc] at k0
  have bd : Big (A - B) := Nat.lt_of_le_of_lt (Nat.sub_le A B) ba
  have step := fun k => dg_diff A B k (by omega)
  replace step := Lib.hid step
  have e18 := Lib.hid (partOf_18 (A - B) false)
  clear ba bb h hc bd
  go_enter Try.func42, Try.ntmps42
  go_upto_region 1 with (first | (refine wpList_val rfl _ _ (alloc_num _ _ rfl _ _ rfl) ?_; simp only [World.size_alloc]) | (refine wpList_val rfl _ _ (build_num0 _ _ rfl _) ?_) | (refine wpList_store_row rfl 70 _ _ rfl (w.heap.size + 1 + 1 + 1) (numc false fun _ => 0) rfl rfl 70 (numc false fun _ => 0) (by simp only [grow_heap, alloc_heap_at, alloc_heap_past, setRow_alloc_at, setRow_alloc_past, grow_setRow, size_setRow, World.size_alloc, grow_lt, grow_lt1, grow_lt2, grow_lt3, grow_lt4, grow_lt5, grow_lt6, grow_self1, grow_self2, grow_self3, or_true, ltd2, ltd3, ltd4, ltd5, ltd6, ltd7, Nat.lt_add_one, true_or, if_true, ite_true]) (by rw [numc_size]; exact info30) (by simp only [numc_size]) (numc_one _ _) ?_))
  simp only [Act.put, List.setIfInBounds_toArray, List.set_cons_succ, List.set_cons_zero]
  go_wp2_with (first | (refine wpList_val rfl _ _ (alloc_num _ _ rfl _ _ rfl) ?_; simp only [World.size_alloc]) | (refine wpList_val rfl _ _ (build_num0 _ _ rfl _) ?_) | (refine wpList_store_row rfl 70 _ _ rfl (w.heap.size + 1 + 1 + 1) (numc false fun _ => 0) rfl rfl 70 (numc false fun _ => 0) (by simp only [grow_heap, alloc_heap_at, alloc_heap_past, setRow_alloc_at, setRow_alloc_past, grow_setRow, size_setRow, World.size_alloc, grow_lt, grow_lt1, grow_lt2, grow_lt3, grow_lt4, grow_lt5, grow_lt6, grow_self1, grow_self2, grow_self3, or_true, ltd2, ltd3, ltd4, ltd5, ltd6, ltd7, Nat.lt_add_one, true_or, if_true, ite_true]) (by rw [numc_size]; exact info30) (by simp only [numc_size]) (numc_one _ _) ?_) | (refine wpList_part rfl _ rfl (w.heap.size) rfl (false) (dg A) (by simp only [grow_heap, alloc_heap_at, alloc_heap_past, setRow_alloc_at, setRow_alloc_past, grow_setRow, size_setRow, World.size_alloc, grow_lt, grow_lt1, grow_lt2, grow_lt3, grow_lt4, grow_lt5, grow_lt6, grow_self1, grow_self2, grow_self3, or_true, ltd2, ltd3, ltd4, ltd5, ltd6, ltd7, Nat.lt_add_one, true_or, if_true, ite_true]) ?_) | (refine wpList_part rfl _ rfl (w.heap.size + 1) rfl (true) (dg B) (by simp only [grow_heap, alloc_heap_at, alloc_heap_past, setRow_alloc_at, setRow_alloc_past, grow_setRow, size_setRow, World.size_alloc, grow_lt, grow_lt1, grow_lt2, grow_lt3, grow_lt4, grow_lt5, grow_lt6, grow_self1, grow_self2, grow_self3, or_true, ltd2, ltd3, ltd4, ltd5, ltd6, ltd7, Nat.lt_add_one, true_or, if_true, ite_true]) ?_) | (go_at_call 64; first | ((with_reducible refine (k0.at_ _).mono ?_); rintro e w' ⟨rfl, xg, rfl⟩)))
  rw [← partOf_0 (A - B)]
  go_loopw [9, 10] (fun c i wr => ∃ k : Nat, i = .int .i64 k ∧ c = .int .i64 ((borrowN A B k : Nat) : Int) ∧ k ≤ 18 ∧ ∃ x, wr = grow ((((w.alloc (.cells (numc false (dg A)) 70)).alloc (.cells (numc true (dg B)) 70)).alloc (.cells (numc false fun _ => 0) 70)).alloc (.cells (numc false (partOf (A - B) k)) 70)) x) (fun _ i _ => (18 - intOf i).toNat)
  case atStart => exact ⟨0, rfl, by rw [borrow_0]; rfl, by omega, grow_of (by repeat (first | exact Below.refl _ _ | refine bel_then ?_ _ | refine bel_grow ?_ _ | refine bel_alloc ?_ _ | refine bel_drew ?_ | refine bel_set ?_ (by simp) _ | refine bel_setRow ?_ (by first | omega | simp) _))⟩
  case round =>
    obtain ⟨k, rfl, rfl, hk, xx, rfl⟩ := hrel
    by_cases hlt : k < 18
    · have e := step.out k
      have b1 := dg_bd A k
      have b2 := dg_bd B k
      have cl := borrow_le A B k
      obtain ⟨c, hc⟩ : ∃ c, borrowN A B k = c := ⟨_, rfl⟩
      rw [hc] at e cl ⊢
      clear hc step k0
      have i0 : (0 : Int) ≤ (k : Int) := by omega
      have i1 : (k : Int) < 18 := by omega
      by_cases hs : dg A k - dg B k - (c : Int) < 0
      · obtain ⟨e1, e2⟩ := e.1 hs
        have ps := partOf_s (A - B) k (dg A k - dg B k - (c : Int) + 65536) e1
        replace e1 := Lib.hid e1
        replace e2 := Lib.hid e2
        clear e
        go_wp2_with fail
        refine wp_region_grow (by kernel_rfl) (by kernel_rfl) ?_
        repeat (go_big_quiet_step ((fail)))
        refine wpQuiet_nil ?_
        rintro _ ⟨xg, rfl⟩
        go_wp2_with fail
        go_roundw
        case rel => exact ⟨k + 1, by go_num, by rw [e2.out]; rfl, by omega, grow_of (by repeat (first | exact Below.refl _ _ | refine bel_then ?_ _ | refine bel_grow ?_ _ | refine bel_alloc ?_ _ | refine bel_drew ?_ | refine bel_set ?_ (by simp) _ | refine bel_setRow ?_ (by first | omega | simp) _))⟩
        case measure => simp [intOf] <;> omega
      · obtain ⟨e1, e2⟩ := e.2 (by omega)
        have ps := partOf_s (A - B) k (dg A k - dg B k - (c : Int)) e1
        have hs2 : 0 ≤ dg A k - dg B k - (c : Int) := by omega
        replace e1 := Lib.hid e1
        replace e2 := Lib.hid e2
        clear e hs
        go_wp2_with fail
        refine wp_region_grow (by kernel_rfl) (by kernel_rfl) ?_
        repeat (go_big_quiet_step ((fail)))
        refine wpQuiet_nil ?_
        rintro _ ⟨xg, rfl⟩
        go_wp2_with fail
        go_roundw
        case rel => exact ⟨k + 1, by go_num, by rw [e2.out]; rfl, by omega, grow_of (by repeat (first | exact Below.refl _ _ | refine bel_then ?_ _ | refine bel_grow ?_ _ | refine bel_alloc ?_ _ | refine bel_drew ?_ | refine bel_set ?_ (by simp) _ | refine bel_setRow ?_ (by first | omega | simp) _))⟩
        case measure => simp [intOf] <;> omega
    · obtain rfl : k = 18 := by omega
      rw [e18.out]
      clear e18 step k0
      go_wp2_with (first | (refine wpList_part rfl _ rfl (w.heap.size + 1 + 1 + 1) rfl (false) (dg (A - B)) (by simp only [grow_heap, alloc_heap_at, alloc_heap_past, setRow_alloc_at, setRow_alloc_past, grow_setRow, size_setRow, World.size_alloc, grow_lt, grow_lt1, grow_lt2, grow_lt3, grow_lt4, grow_lt5, grow_lt6, grow_self1, grow_self2, grow_self3, or_true, ltd2, ltd3, ltd4, ltd5, ltd6, ltd7, Nat.lt_add_one, true_or, if_true, ite_true]) ?_) | (refine wpList_load_row rfl 70 _ rfl (w.heap.size + 1 + 1 + 1) rfl 70 (numc false (dg (A - B))) (0, 0) _ (by simp only [grow_heap, alloc_heap_at, alloc_heap_past, setRow_alloc_at, setRow_alloc_past, grow_setRow, size_setRow, World.size_alloc, grow_lt, grow_lt1, grow_lt2, grow_lt3, grow_lt4, grow_lt5, grow_lt6, grow_self1, grow_self2, grow_self3, or_true, ltd2, ltd3, ltd4, ltd5, ltd6, ltd7, Nat.lt_add_one, true_or, if_true, ite_true]) Try.underlying70 rfl (by rw [numc_size]; exact info30) ?_) | (refine wpList_store_row rfl 70 _ _ rfl (w.heap.size + 1 + 1) (numc false (dg (A - B))) rfl rfl 70 (numc false fun _ => 0) (by simp only [grow_heap, alloc_heap_at, alloc_heap_past, setRow_alloc_at, setRow_alloc_past, grow_setRow, size_setRow, World.size_alloc, grow_lt, grow_lt1, grow_lt2, grow_lt3, grow_lt4, grow_lt5, grow_lt6, grow_self1, grow_self2, grow_self3, or_true, ltd2, ltd3, ltd4, ltd5, ltd6, ltd7, Nat.lt_add_one, true_or, if_true, ite_true]) (by rw [numc_size]; exact info30) (by simp only [numc_size]) (numc_one _ _) ?_))
      refine bodyPost_ret (results_cell_row rfl _ _ (w.heap.size + 1 + 1) 70 (numc false (dg (A - B))) (0, 0) _ rfl (by simp only [grow_heap, alloc_heap_at, alloc_heap_past, setRow_alloc_at, setRow_alloc_past, grow_setRow, size_setRow, World.size_alloc, grow_lt, grow_lt1, grow_lt2, grow_lt3, grow_lt4, grow_lt5, grow_lt6, grow_self1, grow_self2, grow_self3, or_true, ltd2, ltd3, ltd4, ltd5, ltd6, ltd7, Nat.lt_add_one, true_or, if_true, ite_true]) Try.underlying70 rfl (by rw [numc_size]; exact info30)) rfl ⟨rfl, (by repeat (first | exact Below.refl _ _ | refine bel_then ?_ _ | refine bel_grow ?_ _ | refine bel_alloc ?_ _ | refine bel_drew ?_ | refine bel_set ?_ (by simp) _ | refine bel_setRow ?_ (by first | omega | simp) _))⟩

set_option maxRecDepth 100000 in
set_option maxHeartbeats 4000000 in
theorem diff_tf_s (A B : Nat) (ba : Big A) (bb : Big B) (h : B < A) : Gives Try.prog 42 #[.agg (numc true (dg B)), .agg (numc false (dg A))] (.agg (numc false (dg (A - B)))) := by
  refine Gives.mk fun w => ?_
  have k0 := cmpDigits_dg B A bb ba
  obtain ⟨c, hc, h1⟩ : ∃ c, cmpOf (B : Int) (A : Int) = c ∧ c < 0 := ⟨_, rfl, by unfold cmpOf; split <;> (try split) <;> omega⟩
  rw [hc] at k0
  have bd : Big (A - B) := Nat.lt_of_le_of_lt (Nat.sub_le A B) ba
  have step := fun k => dg_diff A B k (by omega)
  replace step := Lib.hid step
  have e18 := Lib.hid (partOf_18 (A - B) false)
  clear ba bb h hc bd
  go_enter Try.func42, Try.ntmps42
  go_upto_region 1 with (first | (refine wpList_val rfl _ _ (alloc_num _ _ rfl _ _ rfl) ?_; simp only [World.size_alloc]) | (refine wpList_val rfl _ _ (build_num0 _ _ rfl _) ?_) | (refine wpList_store_row rfl 70 _ _ rfl (w.heap.size + 1 + 1 + 1) (numc false fun _ => 0) rfl rfl 70 (numc false fun _ => 0) (by simp only [grow_heap, alloc_heap_at, alloc_heap_past, setRow_alloc_at, setRow_alloc_past, grow_setRow, size_setRow, World.size_alloc, grow_lt, grow_lt1, grow_lt2, grow_lt3, grow_lt4, grow_lt5, grow_lt6, grow_self1, grow_self2, grow_self3, or_true, ltd2, ltd3, ltd4, ltd5, ltd6, ltd7, Nat.lt_add_one, true_or, if_true, ite_true]) (by rw [numc_size]; exact info30) (by simp only [numc_size]) (numc_one _ _) ?_))
  simp only [Act.put, List.setIfInBounds_toArray, List.set_cons_succ, List.set_cons_zero]
  go_wp2_with (first | (refine wpList_val rfl _ _ (alloc_num _ _ rfl _ _ rfl) ?_; simp only [World.size_alloc]) | (refine wpList_val rfl _ _ (build_num0 _ _ rfl _) ?_) | (refine wpList_store_row rfl 70 _ _ rfl (w.heap.size) (numc false (dg A)) rfl rfl 70 (numc true (dg B)) (by simp only [grow_heap, alloc_heap_at, alloc_heap_past, setRow_alloc_at, setRow_alloc_past, grow_setRow, size_setRow, World.size_alloc, grow_lt, grow_lt1, grow_lt2, grow_lt3, grow_lt4, grow_lt5, grow_lt6, grow_self1, grow_self2, grow_self3, or_true, ltd2, ltd3, ltd4, ltd5, ltd6, ltd7, Nat.lt_add_one, true_or, if_true, ite_true]) (by rw [numc_size]; exact info30) (by simp only [numc_size]) (numc_one _ _) ?_) | (refine wpList_store_row rfl 70 _ _ rfl (w.heap.size + 1) (numc true (dg B)) rfl rfl 70 (numc false (dg A)) (by simp only [grow_heap, alloc_heap_at, alloc_heap_past, setRow_alloc_at, setRow_alloc_past, grow_setRow, size_setRow, World.size_alloc, grow_lt, grow_lt1, grow_lt2, grow_lt3, grow_lt4, grow_lt5, grow_lt6, grow_self1, grow_self2, grow_self3, or_true, ltd2, ltd3, ltd4, ltd5, ltd6, ltd7, Nat.lt_add_one, true_or, if_true, ite_true]) (by rw [numc_size]; exact info30) (by simp only [numc_size]) (numc_one _ _) ?_) | (refine wpList_store_row rfl 70 _ _ rfl (w.heap.size + 1 + 1 + 1) (numc false fun _ => 0) rfl rfl 70 (numc false fun _ => 0) (by simp only [grow_heap, alloc_heap_at, alloc_heap_past, setRow_alloc_at, setRow_alloc_past, grow_setRow, size_setRow, World.size_alloc, grow_lt, grow_lt1, grow_lt2, grow_lt3, grow_lt4, grow_lt5, grow_lt6, grow_self1, grow_self2, grow_self3, or_true, ltd2, ltd3, ltd4, ltd5, ltd6, ltd7, Nat.lt_add_one, true_or, if_true, ite_true]) (by rw [numc_size]; exact info30) (by simp only [numc_size]) (numc_one _ _) ?_) | (refine wpList_part rfl _ rfl (w.heap.size) rfl (true) (dg B) (by simp only [grow_heap, alloc_heap_at, alloc_heap_past, setRow_alloc_at, setRow_alloc_past, grow_setRow, size_setRow, World.size_alloc, grow_lt, grow_lt1, grow_lt2, grow_lt3, grow_lt4, grow_lt5, grow_lt6, grow_self1, grow_self2, grow_self3, or_true, ltd2, ltd3, ltd4, ltd5, ltd6, ltd7, Nat.lt_add_one, true_or, if_true, ite_true]) ?_) | (refine wpList_part rfl _ rfl (w.heap.size + 1) rfl (false) (dg A) (by simp only [grow_heap, alloc_heap_at, alloc_heap_past, setRow_alloc_at, setRow_alloc_past, grow_setRow, size_setRow, World.size_alloc, grow_lt, grow_lt1, grow_lt2, grow_lt3, grow_lt4, grow_lt5, grow_lt6, grow_self1, grow_self2, grow_self3, or_true, ltd2, ltd3, ltd4, ltd5, ltd6, ltd7, Nat.lt_add_one, true_or, if_true, ite_true]) ?_) | (refine wpList_load_row rfl 70 _ rfl (w.heap.size + 1) rfl 70 (numc false (dg A)) (0, 0) _ (by simp only [grow_heap, alloc_heap_at, alloc_heap_past, setRow_alloc_at, setRow_alloc_past, grow_setRow, size_setRow, World.size_alloc, grow_lt, grow_lt1, grow_lt2, grow_lt3, grow_lt4, grow_lt5, grow_lt6, grow_self1, grow_self2, grow_self3, or_true, ltd2, ltd3, ltd4, ltd5, ltd6, ltd7, Nat.lt_add_one, true_or, if_true, ite_true]) Try.underlying70 rfl (by rw [numc_size]; exact info30) ?_) | (refine wpList_load_row rfl 70 _ rfl (w.heap.size) rfl 70 (numc true (dg B)) (0, 0) _ (by simp only [grow_heap, alloc_heap_at, alloc_heap_past, setRow_alloc_at, setRow_alloc_past, grow_setRow, size_setRow, World.size_alloc, grow_lt, grow_lt1, grow_lt2, grow_lt3, grow_lt4, grow_lt5, grow_lt6, grow_self1, grow_self2, grow_self3, or_true, ltd2, ltd3, ltd4, ltd5, ltd6, ltd7, Nat.lt_add_one, true_or, if_true, ite_true]) Try.underlying70 rfl (by rw [numc_size]; exact info30) ?_) | (go_at_call 64; first | ((with_reducible refine (k0.at_ _).mono ?_); rintro e w' ⟨rfl, xg, rfl⟩)))
  rw [← partOf_0 (A - B)]
  go_loopw [9, 10] (fun c i wr => ∃ k : Nat, i = .int .i64 k ∧ c = .int .i64 ((borrowN A B k : Nat) : Int) ∧ k ≤ 18 ∧ ∃ x, wr = grow ((((w.alloc (.cells (numc false (dg A)) 70)).alloc (.cells (numc true (dg B)) 70)).alloc (.cells (numc false fun _ => 0) 70)).alloc (.cells (numc false (partOf (A - B) k)) 70)) x) (fun _ i _ => (18 - intOf i).toNat)
  case atStart => exact ⟨0, rfl, by rw [borrow_0]; rfl, by omega, grow_of (by repeat (first | exact Below.refl _ _ | refine bel_then ?_ _ | refine bel_grow ?_ _ | refine bel_alloc ?_ _ | refine bel_drew ?_ | refine bel_set ?_ (by simp) _ | refine bel_setRow ?_ (by first | omega | simp) _))⟩
  case round =>
    obtain ⟨k, rfl, rfl, hk, xx, rfl⟩ := hrel
    by_cases hlt : k < 18
    · have e := step.out k
      have b1 := dg_bd A k
      have b2 := dg_bd B k
      have cl := borrow_le A B k
      obtain ⟨c, hc⟩ : ∃ c, borrowN A B k = c := ⟨_, rfl⟩
      rw [hc] at e cl ⊢
      clear hc step k0
      have i0 : (0 : Int) ≤ (k : Int) := by omega
      have i1 : (k : Int) < 18 := by omega
      by_cases hs : dg A k - dg B k - (c : Int) < 0
      · obtain ⟨e1, e2⟩ := e.1 hs
        have ps := partOf_s (A - B) k (dg A k - dg B k - (c : Int) + 65536) e1
        replace e1 := Lib.hid e1
        replace e2 := Lib.hid e2
        clear e
        go_wp2_with fail
        refine wp_region_grow (by kernel_rfl) (by kernel_rfl) ?_
        repeat (go_big_quiet_step ((fail)))
        refine wpQuiet_nil ?_
        rintro _ ⟨xg, rfl⟩
        go_wp2_with fail
        go_roundw
        case rel => exact ⟨k + 1, by go_num, by rw [e2.out]; rfl, by omega, grow_of (by repeat (first | exact Below.refl _ _ | refine bel_then ?_ _ | refine bel_grow ?_ _ | refine bel_alloc ?_ _ | refine bel_drew ?_ | refine bel_set ?_ (by simp) _ | refine bel_setRow ?_ (by first | omega | simp) _))⟩
        case measure => simp [intOf] <;> omega
      · obtain ⟨e1, e2⟩ := e.2 (by omega)
        have ps := partOf_s (A - B) k (dg A k - dg B k - (c : Int)) e1
        have hs2 : 0 ≤ dg A k - dg B k - (c : Int) := by omega
        replace e1 := Lib.hid e1
        replace e2 := Lib.hid e2
        clear e hs
        go_wp2_with fail
        refine wp_region_grow (by kernel_rfl) (by kernel_rfl) ?_
        repeat (go_big_quiet_step ((fail)))
        refine wpQuiet_nil ?_
        rintro _ ⟨xg, rfl⟩
        go_wp2_with fail
        go_roundw
        case rel => exact ⟨k + 1, by go_num, by rw [e2.out]; rfl, by omega, grow_of (by repeat (first | exact Below.refl _ _ | refine bel_then ?_ _ | refine bel_grow ?_ _ | refine bel_alloc ?_ _ | refine bel_drew ?_ | refine bel_set ?_ (by simp) _ | refine bel_setRow ?_ (by first | omega | simp) _))⟩
        case measure => simp [intOf] <;> omega
    · obtain rfl : k = 18 := by omega
      rw [e18.out]
      clear e18 step k0
      go_wp2_with (first | (refine wpList_part rfl _ rfl (w.heap.size + 1 + 1 + 1) rfl (false) (dg (A - B)) (by simp only [grow_heap, alloc_heap_at, alloc_heap_past, setRow_alloc_at, setRow_alloc_past, grow_setRow, size_setRow, World.size_alloc, grow_lt, grow_lt1, grow_lt2, grow_lt3, grow_lt4, grow_lt5, grow_lt6, grow_self1, grow_self2, grow_self3, or_true, ltd2, ltd3, ltd4, ltd5, ltd6, ltd7, Nat.lt_add_one, true_or, if_true, ite_true]) ?_) | (refine wpList_load_row rfl 70 _ rfl (w.heap.size + 1 + 1 + 1) rfl 70 (numc false (dg (A - B))) (0, 0) _ (by simp only [grow_heap, alloc_heap_at, alloc_heap_past, setRow_alloc_at, setRow_alloc_past, grow_setRow, size_setRow, World.size_alloc, grow_lt, grow_lt1, grow_lt2, grow_lt3, grow_lt4, grow_lt5, grow_lt6, grow_self1, grow_self2, grow_self3, or_true, ltd2, ltd3, ltd4, ltd5, ltd6, ltd7, Nat.lt_add_one, true_or, if_true, ite_true]) Try.underlying70 rfl (by rw [numc_size]; exact info30) ?_) | (refine wpList_store_row rfl 70 _ _ rfl (w.heap.size + 1 + 1) (numc false (dg (A - B))) rfl rfl 70 (numc false fun _ => 0) (by simp only [grow_heap, alloc_heap_at, alloc_heap_past, setRow_alloc_at, setRow_alloc_past, grow_setRow, size_setRow, World.size_alloc, grow_lt, grow_lt1, grow_lt2, grow_lt3, grow_lt4, grow_lt5, grow_lt6, grow_self1, grow_self2, grow_self3, or_true, ltd2, ltd3, ltd4, ltd5, ltd6, ltd7, Nat.lt_add_one, true_or, if_true, ite_true]) (by rw [numc_size]; exact info30) (by simp only [numc_size]) (numc_one _ _) ?_))
      refine bodyPost_ret (results_cell_row rfl _ _ (w.heap.size + 1 + 1) 70 (numc false (dg (A - B))) (0, 0) _ rfl (by simp only [grow_heap, alloc_heap_at, alloc_heap_past, setRow_alloc_at, setRow_alloc_past, grow_setRow, size_setRow, World.size_alloc, grow_lt, grow_lt1, grow_lt2, grow_lt3, grow_lt4, grow_lt5, grow_lt6, grow_self1, grow_self2, grow_self3, or_true, ltd2, ltd3, ltd4, ltd5, ltd6, ltd7, Nat.lt_add_one, true_or, if_true, ite_true]) Try.underlying70 rfl (by rw [numc_size]; exact info30)) rfl ⟨rfl, (by repeat (first | exact Below.refl _ _ | refine bel_then ?_ _ | refine bel_grow ?_ _ | refine bel_alloc ?_ _ | refine bel_drew ?_ | refine bel_set ?_ (by simp) _ | refine bel_setRow ?_ (by first | omega | simp) _))⟩

set_option maxRecDepth 100000 in
set_option maxHeartbeats 4000000 in
theorem diff_ft_s (A B : Nat) (ba : Big A) (bb : Big B) (h : B < A) (hz : A ≠ B) : Gives Try.prog 42 #[.agg (numc false (dg B)), .agg (numc true (dg A))] (.agg (numc true (dg (A - B)))) := by
  refine Gives.mk fun w => ?_
  have k0 := cmpDigits_dg B A bb ba
  obtain ⟨c, hc, h1⟩ : ∃ c, cmpOf (B : Int) (A : Int) = c ∧ c < 0 := ⟨_, rfl, by unfold cmpOf; split <;> (try split) <;> omega⟩
  rw [hc] at k0
  have bd : Big (A - B) := Nat.lt_of_le_of_lt (Nat.sub_le A B) ba
  have z := zero_any (dg (A - B))
  rw [allZ_dg _ bd, show decide (A - B = 0) = false by simp; omega] at z
  have step := fun k => dg_diff A B k (by omega)
  replace step := Lib.hid step
  have e18 := Lib.hid (partOf_18 (A - B) false)
  clear ba bb h hc bd hz
  go_enter Try.func42, Try.ntmps42
  go_upto_region 1 with (first | (refine wpList_val rfl _ _ (alloc_num _ _ rfl _ _ rfl) ?_; simp only [World.size_alloc]) | (refine wpList_val rfl _ _ (build_num0 _ _ rfl _) ?_) | (refine wpList_store_row rfl 70 _ _ rfl (w.heap.size + 1 + 1 + 1) (numc false fun _ => 0) rfl rfl 70 (numc false fun _ => 0) (by simp only [grow_heap, alloc_heap_at, alloc_heap_past, setRow_alloc_at, setRow_alloc_past, grow_setRow, size_setRow, World.size_alloc, grow_lt, grow_lt1, grow_lt2, grow_lt3, grow_lt4, grow_lt5, grow_lt6, grow_self1, grow_self2, grow_self3, or_true, ltd2, ltd3, ltd4, ltd5, ltd6, ltd7, Nat.lt_add_one, true_or, if_true, ite_true]) (by rw [numc_size]; exact info30) (by simp only [numc_size]) (numc_one _ _) ?_))
  simp only [Act.put, List.setIfInBounds_toArray, List.set_cons_succ, List.set_cons_zero]
  go_wp2_with (first | (refine wpList_val rfl _ _ (alloc_num _ _ rfl _ _ rfl) ?_; simp only [World.size_alloc]) | (refine wpList_val rfl _ _ (build_num0 _ _ rfl _) ?_) | (refine wpList_store_row rfl 70 _ _ rfl (w.heap.size) (numc true (dg A)) rfl rfl 70 (numc false (dg B)) (by simp only [grow_heap, alloc_heap_at, alloc_heap_past, setRow_alloc_at, setRow_alloc_past, grow_setRow, size_setRow, World.size_alloc, grow_lt, grow_lt1, grow_lt2, grow_lt3, grow_lt4, grow_lt5, grow_lt6, grow_self1, grow_self2, grow_self3, or_true, ltd2, ltd3, ltd4, ltd5, ltd6, ltd7, Nat.lt_add_one, true_or, if_true, ite_true]) (by rw [numc_size]; exact info30) (by simp only [numc_size]) (numc_one _ _) ?_) | (refine wpList_store_row rfl 70 _ _ rfl (w.heap.size + 1) (numc false (dg B)) rfl rfl 70 (numc true (dg A)) (by simp only [grow_heap, alloc_heap_at, alloc_heap_past, setRow_alloc_at, setRow_alloc_past, grow_setRow, size_setRow, World.size_alloc, grow_lt, grow_lt1, grow_lt2, grow_lt3, grow_lt4, grow_lt5, grow_lt6, grow_self1, grow_self2, grow_self3, or_true, ltd2, ltd3, ltd4, ltd5, ltd6, ltd7, Nat.lt_add_one, true_or, if_true, ite_true]) (by rw [numc_size]; exact info30) (by simp only [numc_size]) (numc_one _ _) ?_) | (refine wpList_store_row rfl 70 _ _ rfl (w.heap.size + 1 + 1 + 1) (numc false fun _ => 0) rfl rfl 70 (numc false fun _ => 0) (by simp only [grow_heap, alloc_heap_at, alloc_heap_past, setRow_alloc_at, setRow_alloc_past, grow_setRow, size_setRow, World.size_alloc, grow_lt, grow_lt1, grow_lt2, grow_lt3, grow_lt4, grow_lt5, grow_lt6, grow_self1, grow_self2, grow_self3, or_true, ltd2, ltd3, ltd4, ltd5, ltd6, ltd7, Nat.lt_add_one, true_or, if_true, ite_true]) (by rw [numc_size]; exact info30) (by simp only [numc_size]) (numc_one _ _) ?_) | (refine wpList_part rfl _ rfl (w.heap.size) rfl (false) (dg B) (by simp only [grow_heap, alloc_heap_at, alloc_heap_past, setRow_alloc_at, setRow_alloc_past, grow_setRow, size_setRow, World.size_alloc, grow_lt, grow_lt1, grow_lt2, grow_lt3, grow_lt4, grow_lt5, grow_lt6, grow_self1, grow_self2, grow_self3, or_true, ltd2, ltd3, ltd4, ltd5, ltd6, ltd7, Nat.lt_add_one, true_or, if_true, ite_true]) ?_) | (refine wpList_part rfl _ rfl (w.heap.size + 1) rfl (true) (dg A) (by simp only [grow_heap, alloc_heap_at, alloc_heap_past, setRow_alloc_at, setRow_alloc_past, grow_setRow, size_setRow, World.size_alloc, grow_lt, grow_lt1, grow_lt2, grow_lt3, grow_lt4, grow_lt5, grow_lt6, grow_self1, grow_self2, grow_self3, or_true, ltd2, ltd3, ltd4, ltd5, ltd6, ltd7, Nat.lt_add_one, true_or, if_true, ite_true]) ?_) | (refine wpList_load_row rfl 70 _ rfl (w.heap.size + 1) rfl 70 (numc true (dg A)) (0, 0) _ (by simp only [grow_heap, alloc_heap_at, alloc_heap_past, setRow_alloc_at, setRow_alloc_past, grow_setRow, size_setRow, World.size_alloc, grow_lt, grow_lt1, grow_lt2, grow_lt3, grow_lt4, grow_lt5, grow_lt6, grow_self1, grow_self2, grow_self3, or_true, ltd2, ltd3, ltd4, ltd5, ltd6, ltd7, Nat.lt_add_one, true_or, if_true, ite_true]) Try.underlying70 rfl (by rw [numc_size]; exact info30) ?_) | (refine wpList_load_row rfl 70 _ rfl (w.heap.size) rfl 70 (numc false (dg B)) (0, 0) _ (by simp only [grow_heap, alloc_heap_at, alloc_heap_past, setRow_alloc_at, setRow_alloc_past, grow_setRow, size_setRow, World.size_alloc, grow_lt, grow_lt1, grow_lt2, grow_lt3, grow_lt4, grow_lt5, grow_lt6, grow_self1, grow_self2, grow_self3, or_true, ltd2, ltd3, ltd4, ltd5, ltd6, ltd7, Nat.lt_add_one, true_or, if_true, ite_true]) Try.underlying70 rfl (by rw [numc_size]; exact info30) ?_) | (go_at_call 64; first | ((with_reducible refine (k0.at_ _).mono ?_); rintro e w' ⟨rfl, xg, rfl⟩)))
  rw [← partOf_0 (A - B)]
  go_loopw [9, 10] (fun c i wr => ∃ k : Nat, i = .int .i64 k ∧ c = .int .i64 ((borrowN A B k : Nat) : Int) ∧ k ≤ 18 ∧ ∃ x, wr = grow ((((w.alloc (.cells (numc true (dg A)) 70)).alloc (.cells (numc false (dg B)) 70)).alloc (.cells (numc false fun _ => 0) 70)).alloc (.cells (numc false (partOf (A - B) k)) 70)) x) (fun _ i _ => (18 - intOf i).toNat)
  case atStart => exact ⟨0, rfl, by rw [borrow_0]; rfl, by omega, grow_of (by repeat (first | exact Below.refl _ _ | refine bel_then ?_ _ | refine bel_grow ?_ _ | refine bel_alloc ?_ _ | refine bel_drew ?_ | refine bel_set ?_ (by simp) _ | refine bel_setRow ?_ (by first | omega | simp) _))⟩
  case round =>
    obtain ⟨k, rfl, rfl, hk, xx, rfl⟩ := hrel
    by_cases hlt : k < 18
    · have e := step.out k
      have b1 := dg_bd A k
      have b2 := dg_bd B k
      have cl := borrow_le A B k
      obtain ⟨c, hc⟩ : ∃ c, borrowN A B k = c := ⟨_, rfl⟩
      rw [hc] at e cl ⊢
      clear hc step k0
      have i0 : (0 : Int) ≤ (k : Int) := by omega
      have i1 : (k : Int) < 18 := by omega
      by_cases hs : dg A k - dg B k - (c : Int) < 0
      · obtain ⟨e1, e2⟩ := e.1 hs
        have ps := partOf_s (A - B) k (dg A k - dg B k - (c : Int) + 65536) e1
        replace e1 := Lib.hid e1
        replace e2 := Lib.hid e2
        clear e
        go_wp2_with fail
        refine wp_region_grow (by kernel_rfl) (by kernel_rfl) ?_
        repeat (go_big_quiet_step ((fail)))
        refine wpQuiet_nil ?_
        rintro _ ⟨xg, rfl⟩
        go_wp2_with fail
        go_roundw
        case rel => exact ⟨k + 1, by go_num, by rw [e2.out]; rfl, by omega, grow_of (by repeat (first | exact Below.refl _ _ | refine bel_then ?_ _ | refine bel_grow ?_ _ | refine bel_alloc ?_ _ | refine bel_drew ?_ | refine bel_set ?_ (by simp) _ | refine bel_setRow ?_ (by first | omega | simp) _))⟩
        case measure => simp [intOf] <;> omega
      · obtain ⟨e1, e2⟩ := e.2 (by omega)
        have ps := partOf_s (A - B) k (dg A k - dg B k - (c : Int)) e1
        have hs2 : 0 ≤ dg A k - dg B k - (c : Int) := by omega
        replace e1 := Lib.hid e1
        replace e2 := Lib.hid e2
        clear e hs
        go_wp2_with fail
        refine wp_region_grow (by kernel_rfl) (by kernel_rfl) ?_
        repeat (go_big_quiet_step ((fail)))
        refine wpQuiet_nil ?_
        rintro _ ⟨xg, rfl⟩
        go_wp2_with fail
        go_roundw
        case rel => exact ⟨k + 1, by go_num, by rw [e2.out]; rfl, by omega, grow_of (by repeat (first | exact Below.refl _ _ | refine bel_then ?_ _ | refine bel_grow ?_ _ | refine bel_alloc ?_ _ | refine bel_drew ?_ | refine bel_set ?_ (by simp) _ | refine bel_setRow ?_ (by first | omega | simp) _))⟩
        case measure => simp [intOf] <;> omega
    · obtain rfl : k = 18 := by omega
      rw [e18.out]
      clear e18 step k0
      go_wp2_with (first | (refine wpList_part rfl _ rfl (w.heap.size + 1 + 1 + 1) rfl (false) (dg (A - B)) (by simp only [grow_heap, alloc_heap_at, alloc_heap_past, setRow_alloc_at, setRow_alloc_past, grow_setRow, size_setRow, World.size_alloc, grow_lt, grow_lt1, grow_lt2, grow_lt3, grow_lt4, grow_lt5, grow_lt6, grow_self1, grow_self2, grow_self3, or_true, ltd2, ltd3, ltd4, ltd5, ltd6, ltd7, Nat.lt_add_one, true_or, if_true, ite_true]) ?_) | (refine wpList_load_row rfl 70 _ rfl (w.heap.size + 1 + 1 + 1) rfl 70 (numc true (dg (A - B))) (0, 0) _ (by simp only [grow_heap, alloc_heap_at, alloc_heap_past, setRow_alloc_at, setRow_alloc_past, grow_setRow, size_setRow, World.size_alloc, grow_lt, grow_lt1, grow_lt2, grow_lt3, grow_lt4, grow_lt5, grow_lt6, grow_self1, grow_self2, grow_self3, or_true, ltd2, ltd3, ltd4, ltd5, ltd6, ltd7, Nat.lt_add_one, true_or, if_true, ite_true]) Try.underlying70 rfl (by rw [numc_size]; exact info30) ?_) | (refine wpList_store_row rfl 70 _ _ rfl (w.heap.size + 1 + 1) (numc true (dg (A - B))) rfl rfl 70 (numc false fun _ => 0) (by simp only [grow_heap, alloc_heap_at, alloc_heap_past, setRow_alloc_at, setRow_alloc_past, grow_setRow, size_setRow, World.size_alloc, grow_lt, grow_lt1, grow_lt2, grow_lt3, grow_lt4, grow_lt5, grow_lt6, grow_self1, grow_self2, grow_self3, or_true, ltd2, ltd3, ltd4, ltd5, ltd6, ltd7, Nat.lt_add_one, true_or, if_true, ite_true]) (by rw [numc_size]; exact info30) (by simp only [numc_size]) (numc_one _ _) ?_) | (go_at_call 41; first | ((with_reducible refine (z.at_ _).mono ?_); rintro e w' ⟨rfl, xg, rfl⟩)))
      refine bodyPost_ret (results_cell_row rfl _ _ (w.heap.size + 1 + 1) 70 (numc true (dg (A - B))) (0, 0) _ rfl (by simp only [grow_heap, alloc_heap_at, alloc_heap_past, setRow_alloc_at, setRow_alloc_past, grow_setRow, size_setRow, World.size_alloc, grow_lt, grow_lt1, grow_lt2, grow_lt3, grow_lt4, grow_lt5, grow_lt6, grow_self1, grow_self2, grow_self3, or_true, ltd2, ltd3, ltd4, ltd5, ltd6, ltd7, Nat.lt_add_one, true_or, if_true, ite_true]) Try.underlying70 rfl (by rw [numc_size]; exact info30)) rfl ⟨rfl, (by repeat (first | exact Below.refl _ _ | refine bel_then ?_ _ | refine bel_grow ?_ _ | refine bel_alloc ?_ _ | refine bel_drew ?_ | refine bel_set ?_ (by simp) _ | refine bel_setRow ?_ (by first | omega | simp) _))⟩

end Go.Proofs.Ytgfgaaecpdbgeaa
