/- The document's own numbers, as digits: contracts of its calls, part 11: products. -/
import Derived.Test.YtngkimcnolmmoaaMRefB
import Derived.Test.YtngkimcnolmmoaaMDig
namespace Go.Proofs.Ytngkimcnolmmoaa
open Go.RowKit
set_option linter.unusedVariables false
set_option linter.unusedSimpArgs false
theorem cast_set (D : Nat → Nat) (i v : Nat) (u : Int) (h : u = (v : Int)) : (fun j => if j = i then u else ((D j : Nat) : Int)) = fun j => (((if j = i then v else D j) : Nat) : Int) := by
  funext j; split <;> simp_all

set_option maxRecDepth 100000 in
set_option maxHeartbeats 4000000 in
theorem times_ff (A B : Nat) (ba : A < 65536 ^ 5) (bb : B < 65536 ^ 5)  : Gives Try.prog 42 #[.agg (numc false (dg A)), .agg (numc false (dg B))] (.agg (numc false (dg (A * B)))) := by
  refine Gives.mk fun w => ?_
  replace ba := Lib.hid ba
  replace bb := Lib.hid bb
  have first := Lib.hid (times_first A B)
  go_enter Try.func42, Try.ntmps42
  go_upto_region 1 with (first | (refine wpList_val rfl _ _ (alloc_num _ _ rfl _ _ rfl) ?_; simp only [World.size_alloc]) | (refine wpList_val rfl _ _ (build_num0 _ _ rfl _) ?_) | (refine wpList_store_row rfl 79 _ _ rfl (w.heap.size + 1 + 1 + 1) (numc false fun _ => 0) rfl rfl 79 (numc false fun _ => 0) (by simp only [grow_heap, alloc_heap_at, alloc_heap_past, setRow_alloc_at, setRow_alloc_past, grow_setRow, size_setRow, World.size_alloc, grow_lt, grow_lt1, grow_lt2, grow_lt3, grow_lt4, grow_lt5, grow_lt6, grow_self1, grow_self2, grow_self3, or_true, ltd2, ltd3, ltd4, ltd5, ltd6, ltd7, Nat.lt_add_one, true_or, if_true, ite_true]) (by rw [numc_size]; exact info30) (by simp only [numc_size]) (numc_one _ _) ?_))
  simp only [Act.put, List.setIfInBounds_toArray, List.set_cons_succ, List.set_cons_zero]
  go_wp2_with (first | (refine wpList_val rfl _ _ (alloc_num _ _ rfl _ _ rfl) ?_; simp only [World.size_alloc]) | (refine wpList_val rfl _ _ (build_num0 _ _ rfl _) ?_) | (refine wpList_store_row rfl 79 _ _ rfl (w.heap.size + 1 + 1 + 1) (numc false fun _ => 0) rfl rfl 79 (numc false fun _ => 0) (by simp only [grow_heap, alloc_heap_at, alloc_heap_past, setRow_alloc_at, setRow_alloc_past, grow_setRow, size_setRow, World.size_alloc, grow_lt, grow_lt1, grow_lt2, grow_lt3, grow_lt4, grow_lt5, grow_lt6, grow_self1, grow_self2, grow_self3, or_true, ltd2, ltd3, ltd4, ltd5, ltd6, ltd7, Nat.lt_add_one, true_or, if_true, ite_true]) (by rw [numc_size]; exact info30) (by simp only [numc_size]) (numc_one _ _) ?_))
  go_loopw [6] (fun i wr => ∃ n : Nat, i = .int .i64 n ∧ n ≤ 9 ∧ ∃ D : Nat → Nat, Hid (TimesInv A B n 0 D 0) ∧ ∃ x, wr = grow ((((w.alloc (.cells (numc false (dg A)) 79)).alloc (.cells (numc false (dg B)) 79)).alloc (.cells (numc false fun _ => 0) 79)).alloc (.cells (numc false (fun j => ((D j : Nat) : Int))) 79)) x) (fun i _ => (9 - intOf i).toNat)
  case atStart => exact ⟨0, rfl, by omega, fun _ => 0, first.out, grow_of (by repeat (first | exact Below.refl _ _ | refine bel_then ?_ _ | refine bel_grow ?_ _ | refine bel_alloc ?_ _ | refine bel_drew ?_ | refine bel_set ?_ (by simp) _ | refine bel_setRow ?_ (by first | omega | simp) _))⟩
  case round =>
    obtain ⟨n, rfl, hn, D, hD, xx, rfl⟩ := hrel
    clear first
    by_cases hlt : n < 9
    · go_wp2_with fail
      go_loopw [7, 8] (fun c i wr => ∃ (m : Nat), i = .int .i64 m ∧ m ≤ 9 ∧ ∃ (D : Nat → Nat) (cc : Nat), c = .int .i64 cc ∧ Hid (TimesInv A B n m D cc) ∧ ∃ x, wr = grow ((((w.alloc (.cells (numc false (dg A)) 79)).alloc (.cells (numc false (dg B)) 79)).alloc (.cells (numc false fun _ => 0) 79)).alloc (.cells (numc false (fun j => ((D j : Nat) : Int))) 79)) x) (fun _ i _ => (9 - intOf i).toNat)
      case atStart => exact ⟨0, rfl, by omega, D, 0, rfl, hD.out, grow_of (by repeat (first | exact Below.refl _ _ | refine bel_then ?_ _ | refine bel_grow ?_ _ | refine bel_alloc ?_ _ | refine bel_drew ?_ | refine bel_set ?_ (by simp) _ | refine bel_setRow ?_ (by first | omega | simp) _))⟩
      case round =>
        obtain ⟨m, rfl, hm, D, cc, rfl, hD, yy, rfl⟩ := hrel
        by_cases hlm : m < 9
        · have next := Lib.hid (times_step hD.out (show n + m < 18 by omega))
          have d0 := hD.out.dig (n + m)
          have c0 := hD.out.car
          have a0 := dN_lt A n
          have b0 := dN_lt B m
          have p0 : dN A n * dN B m ≤ 65535 * 65535 := Nat.mul_le_mul (by omega) (by omega)
          have pe : dg A n * dg B m = ((dN A n * dN B m : Nat) : Int) := by rw [dg_dN, dg_dN]; simp
          generalize dN A n * dN B m = p at next p0 pe
          have ps := cast_set D (n + m) ((D (n + m) + p + cc) % 65536) ((((D (n + m) : Nat) : Int) + (p : Int) + (cc : Int)) % 65536) (by omega)
          have n0 : (0 : Int) ≤ (n : Int) + (m : Int) := by omega
          have n1 : (n : Int) + (m : Int) < 18 := by omega
          have n2 : (0 : Int) ≤ (n : Int) := by omega
          have n3 : (n : Int) < 18 := by omega
          have n4 : (0 : Int) ≤ (m : Int) := by omega
          have n5 : (m : Int) < 18 := by omega
          go_wp2_with fail
          refine wp_region_grow (by kernel_rfl) (by kernel_rfl) ?_
          repeat (go_big_quiet_step ((fail)))
          refine wpQuiet_nil ?_
          rintro _ ⟨xg, rfl⟩
          go_wp2_with fail
          go_roundw
          case rel => exact ⟨m + 1, by go_num, by omega, _, _, by simp, next, grow_of (by repeat (first | exact Below.refl _ _ | refine bel_then ?_ _ | refine bel_grow ?_ _ | refine bel_alloc ?_ _ | refine bel_drew ?_ | refine bel_set ?_ (by simp) _ | refine bel_setRow ?_ (by first | omega | simp) _))⟩
          case measure => simp [intOf] <;> omega
        · obtain rfl : m = 9 := by omega
          have next := Lib.hid (times_next hD.out bb.out)
          go_wp2_with fail
          go_roundw
          case rel => exact ⟨n + 1, by go_num, by omega, D, next, grow_of (by repeat (first | exact Below.refl _ _ | refine bel_then ?_ _ | refine bel_grow ?_ _ | refine bel_alloc ?_ _ | refine bel_drew ?_ | refine bel_set ?_ (by simp) _ | refine bel_setRow ?_ (by first | omega | simp) _))⟩
          case measure => simp [intOf] <;> omega
    · obtain rfl : n = 9 := by omega
      have e18 : numc false (fun j => ((D j : Nat) : Int)) = numc false (dg (A * B)) := numc_congr fun j hj => by rw [times_end hD.out rfl ba.out j hj]; rfl
      rw [e18]
      clear e18 hD ba bb
      go_wp2_with (first | (refine wpList_part rfl _ rfl (w.heap.size + 1 + 1 + 1) rfl (false) (dg (A * B)) (by simp only [grow_heap, alloc_heap_at, alloc_heap_past, setRow_alloc_at, setRow_alloc_past, grow_setRow, size_setRow, World.size_alloc, grow_lt, grow_lt1, grow_lt2, grow_lt3, grow_lt4, grow_lt5, grow_lt6, grow_self1, grow_self2, grow_self3, or_true, ltd2, ltd3, ltd4, ltd5, ltd6, ltd7, Nat.lt_add_one, true_or, if_true, ite_true]) ?_) | (refine wpList_load_row rfl 79 _ rfl (w.heap.size + 1 + 1 + 1) rfl 79 (numc false (dg (A * B))) (0, 0) _ (by simp only [grow_heap, alloc_heap_at, alloc_heap_past, setRow_alloc_at, setRow_alloc_past, grow_setRow, size_setRow, World.size_alloc, grow_lt, grow_lt1, grow_lt2, grow_lt3, grow_lt4, grow_lt5, grow_lt6, grow_self1, grow_self2, grow_self3, or_true, ltd2, ltd3, ltd4, ltd5, ltd6, ltd7, Nat.lt_add_one, true_or, if_true, ite_true]) Try.underlying79 rfl (by rw [numc_size]; exact info30) ?_) | (refine wpList_store_row rfl 79 _ _ rfl (w.heap.size + 1 + 1) (numc false (dg (A * B))) rfl rfl 79 (numc false fun _ => 0) (by simp only [grow_heap, alloc_heap_at, alloc_heap_past, setRow_alloc_at, setRow_alloc_past, grow_setRow, size_setRow, World.size_alloc, grow_lt, grow_lt1, grow_lt2, grow_lt3, grow_lt4, grow_lt5, grow_lt6, grow_self1, grow_self2, grow_self3, or_true, ltd2, ltd3, ltd4, ltd5, ltd6, ltd7, Nat.lt_add_one, true_or, if_true, ite_true]) (by rw [numc_size]; exact info30) (by simp only [numc_size]) (numc_one _ _) ?_))
      refine bodyPost_ret (results_cell_row rfl _ _ (w.heap.size + 1 + 1) 79 (numc false (dg (A * B))) (0, 0) _ rfl (by simp only [grow_heap, alloc_heap_at, alloc_heap_past, setRow_alloc_at, setRow_alloc_past, grow_setRow, size_setRow, World.size_alloc, grow_lt, grow_lt1, grow_lt2, grow_lt3, grow_lt4, grow_lt5, grow_lt6, grow_self1, grow_self2, grow_self3, or_true, ltd2, ltd3, ltd4, ltd5, ltd6, ltd7, Nat.lt_add_one, true_or, if_true, ite_true]) Try.underlying79 rfl (by rw [numc_size]; exact info30)) rfl ⟨rfl, (by repeat (first | exact Below.refl _ _ | refine bel_then ?_ _ | refine bel_grow ?_ _ | refine bel_alloc ?_ _ | refine bel_drew ?_ | refine bel_set ?_ (by simp) _ | refine bel_setRow ?_ (by first | omega | simp) _))⟩

set_option maxRecDepth 100000 in
set_option maxHeartbeats 4000000 in
theorem times_tt (A B : Nat) (ba : A < 65536 ^ 5) (bb : B < 65536 ^ 5)  : Gives Try.prog 42 #[.agg (numc true (dg A)), .agg (numc true (dg B))] (.agg (numc false (dg (A * B)))) := by
  refine Gives.mk fun w => ?_
  replace ba := Lib.hid ba
  replace bb := Lib.hid bb
  have first := Lib.hid (times_first A B)
  go_enter Try.func42, Try.ntmps42
  go_upto_region 1 with (first | (refine wpList_val rfl _ _ (alloc_num _ _ rfl _ _ rfl) ?_; simp only [World.size_alloc]) | (refine wpList_val rfl _ _ (build_num0 _ _ rfl _) ?_) | (refine wpList_store_row rfl 79 _ _ rfl (w.heap.size + 1 + 1 + 1) (numc false fun _ => 0) rfl rfl 79 (numc false fun _ => 0) (by simp only [grow_heap, alloc_heap_at, alloc_heap_past, setRow_alloc_at, setRow_alloc_past, grow_setRow, size_setRow, World.size_alloc, grow_lt, grow_lt1, grow_lt2, grow_lt3, grow_lt4, grow_lt5, grow_lt6, grow_self1, grow_self2, grow_self3, or_true, ltd2, ltd3, ltd4, ltd5, ltd6, ltd7, Nat.lt_add_one, true_or, if_true, ite_true]) (by rw [numc_size]; exact info30) (by simp only [numc_size]) (numc_one _ _) ?_))
  simp only [Act.put, List.setIfInBounds_toArray, List.set_cons_succ, List.set_cons_zero]
  go_wp2_with (first | (refine wpList_val rfl _ _ (alloc_num _ _ rfl _ _ rfl) ?_; simp only [World.size_alloc]) | (refine wpList_val rfl _ _ (build_num0 _ _ rfl _) ?_) | (refine wpList_store_row rfl 79 _ _ rfl (w.heap.size + 1 + 1 + 1) (numc false fun _ => 0) rfl rfl 79 (numc false fun _ => 0) (by simp only [grow_heap, alloc_heap_at, alloc_heap_past, setRow_alloc_at, setRow_alloc_past, grow_setRow, size_setRow, World.size_alloc, grow_lt, grow_lt1, grow_lt2, grow_lt3, grow_lt4, grow_lt5, grow_lt6, grow_self1, grow_self2, grow_self3, or_true, ltd2, ltd3, ltd4, ltd5, ltd6, ltd7, Nat.lt_add_one, true_or, if_true, ite_true]) (by rw [numc_size]; exact info30) (by simp only [numc_size]) (numc_one _ _) ?_))
  go_loopw [6] (fun i wr => ∃ n : Nat, i = .int .i64 n ∧ n ≤ 9 ∧ ∃ D : Nat → Nat, Hid (TimesInv A B n 0 D 0) ∧ ∃ x, wr = grow ((((w.alloc (.cells (numc true (dg A)) 79)).alloc (.cells (numc true (dg B)) 79)).alloc (.cells (numc false fun _ => 0) 79)).alloc (.cells (numc false (fun j => ((D j : Nat) : Int))) 79)) x) (fun i _ => (9 - intOf i).toNat)
  case atStart => exact ⟨0, rfl, by omega, fun _ => 0, first.out, grow_of (by repeat (first | exact Below.refl _ _ | refine bel_then ?_ _ | refine bel_grow ?_ _ | refine bel_alloc ?_ _ | refine bel_drew ?_ | refine bel_set ?_ (by simp) _ | refine bel_setRow ?_ (by first | omega | simp) _))⟩
  case round =>
    obtain ⟨n, rfl, hn, D, hD, xx, rfl⟩ := hrel
    clear first
    by_cases hlt : n < 9
    · go_wp2_with fail
      go_loopw [7, 8] (fun c i wr => ∃ (m : Nat), i = .int .i64 m ∧ m ≤ 9 ∧ ∃ (D : Nat → Nat) (cc : Nat), c = .int .i64 cc ∧ Hid (TimesInv A B n m D cc) ∧ ∃ x, wr = grow ((((w.alloc (.cells (numc true (dg A)) 79)).alloc (.cells (numc true (dg B)) 79)).alloc (.cells (numc false fun _ => 0) 79)).alloc (.cells (numc false (fun j => ((D j : Nat) : Int))) 79)) x) (fun _ i _ => (9 - intOf i).toNat)
      case atStart => exact ⟨0, rfl, by omega, D, 0, rfl, hD.out, grow_of (by repeat (first | exact Below.refl _ _ | refine bel_then ?_ _ | refine bel_grow ?_ _ | refine bel_alloc ?_ _ | refine bel_drew ?_ | refine bel_set ?_ (by simp) _ | refine bel_setRow ?_ (by first | omega | simp) _))⟩
      case round =>
        obtain ⟨m, rfl, hm, D, cc, rfl, hD, yy, rfl⟩ := hrel
        by_cases hlm : m < 9
        · have next := Lib.hid (times_step hD.out (show n + m < 18 by omega))
          have d0 := hD.out.dig (n + m)
          have c0 := hD.out.car
          have a0 := dN_lt A n
          have b0 := dN_lt B m
          have p0 : dN A n * dN B m ≤ 65535 * 65535 := Nat.mul_le_mul (by omega) (by omega)
          have pe : dg A n * dg B m = ((dN A n * dN B m : Nat) : Int) := by rw [dg_dN, dg_dN]; simp
          generalize dN A n * dN B m = p at next p0 pe
          have ps := cast_set D (n + m) ((D (n + m) + p + cc) % 65536) ((((D (n + m) : Nat) : Int) + (p : Int) + (cc : Int)) % 65536) (by omega)
          have n0 : (0 : Int) ≤ (n : Int) + (m : Int) := by omega
          have n1 : (n : Int) + (m : Int) < 18 := by omega
          have n2 : (0 : Int) ≤ (n : Int) := by omega
          have n3 : (n : Int) < 18 := by omega
          have n4 : (0 : Int) ≤ (m : Int) := by omega
          have n5 : (m : Int) < 18 := by omega
          go_wp2_with fail
          refine wp_region_grow (by kernel_rfl) (by kernel_rfl) ?_
          repeat (go_big_quiet_step ((fail)))
          refine wpQuiet_nil ?_
          rintro _ ⟨xg, rfl⟩
          go_wp2_with fail
          go_roundw
          case rel => exact ⟨m + 1, by go_num, by omega, _, _, by simp, next, grow_of (by repeat (first | exact Below.refl _ _ | refine bel_then ?_ _ | refine bel_grow ?_ _ | refine bel_alloc ?_ _ | refine bel_drew ?_ | refine bel_set ?_ (by simp) _ | refine bel_setRow ?_ (by first | omega | simp) _))⟩
          case measure => simp [intOf] <;> omega
        · obtain rfl : m = 9 := by omega
          have next := Lib.hid (times_next hD.out bb.out)
          go_wp2_with fail
          go_roundw
          case rel => exact ⟨n + 1, by go_num, by omega, D, next, grow_of (by repeat (first | exact Below.refl _ _ | refine bel_then ?_ _ | refine bel_grow ?_ _ | refine bel_alloc ?_ _ | refine bel_drew ?_ | refine bel_set ?_ (by simp) _ | refine bel_setRow ?_ (by first | omega | simp) _))⟩
          case measure => simp [intOf] <;> omega
    · obtain rfl : n = 9 := by omega
      have e18 : numc false (fun j => ((D j : Nat) : Int)) = numc false (dg (A * B)) := numc_congr fun j hj => by rw [times_end hD.out rfl ba.out j hj]; rfl
      rw [e18]
      clear e18 hD ba bb
      go_wp2_with (first | (refine wpList_part rfl _ rfl (w.heap.size + 1 + 1 + 1) rfl (false) (dg (A * B)) (by simp only [grow_heap, alloc_heap_at, alloc_heap_past, setRow_alloc_at, setRow_alloc_past, grow_setRow, size_setRow, World.size_alloc, grow_lt, grow_lt1, grow_lt2, grow_lt3, grow_lt4, grow_lt5, grow_lt6, grow_self1, grow_self2, grow_self3, or_true, ltd2, ltd3, ltd4, ltd5, ltd6, ltd7, Nat.lt_add_one, true_or, if_true, ite_true]) ?_) | (refine wpList_load_row rfl 79 _ rfl (w.heap.size + 1 + 1 + 1) rfl 79 (numc false (dg (A * B))) (0, 0) _ (by simp only [grow_heap, alloc_heap_at, alloc_heap_past, setRow_alloc_at, setRow_alloc_past, grow_setRow, size_setRow, World.size_alloc, grow_lt, grow_lt1, grow_lt2, grow_lt3, grow_lt4, grow_lt5, grow_lt6, grow_self1, grow_self2, grow_self3, or_true, ltd2, ltd3, ltd4, ltd5, ltd6, ltd7, Nat.lt_add_one, true_or, if_true, ite_true]) Try.underlying79 rfl (by rw [numc_size]; exact info30) ?_) | (refine wpList_store_row rfl 79 _ _ rfl (w.heap.size + 1 + 1) (numc false (dg (A * B))) rfl rfl 79 (numc false fun _ => 0) (by simp only [grow_heap, alloc_heap_at, alloc_heap_past, setRow_alloc_at, setRow_alloc_past, grow_setRow, size_setRow, World.size_alloc, grow_lt, grow_lt1, grow_lt2, grow_lt3, grow_lt4, grow_lt5, grow_lt6, grow_self1, grow_self2, grow_self3, or_true, ltd2, ltd3, ltd4, ltd5, ltd6, ltd7, Nat.lt_add_one, true_or, if_true, ite_true]) (by rw [numc_size]; exact info30) (by simp only [numc_size]) (numc_one _ _) ?_))
      refine bodyPost_ret (results_cell_row rfl _ _ (w.heap.size + 1 + 1) 79 (numc false (dg (A * B))) (0, 0) _ rfl (by simp only [grow_heap, alloc_heap_at, alloc_heap_past, setRow_alloc_at, setRow_alloc_past, grow_setRow, size_setRow, World.size_alloc, grow_lt, grow_lt1, grow_lt2, grow_lt3, grow_lt4, grow_lt5, grow_lt6, grow_self1, grow_self2, grow_self3, or_true, ltd2, ltd3, ltd4, ltd5, ltd6, ltd7, Nat.lt_add_one, true_or, if_true, ite_true]) Try.underlying79 rfl (by rw [numc_size]; exact info30)) rfl ⟨rfl, (by repeat (first | exact Below.refl _ _ | refine bel_then ?_ _ | refine bel_grow ?_ _ | refine bel_alloc ?_ _ | refine bel_drew ?_ | refine bel_set ?_ (by simp) _ | refine bel_setRow ?_ (by first | omega | simp) _))⟩

set_option maxRecDepth 100000 in
set_option maxHeartbeats 4000000 in
theorem times_tf (A B : Nat) (ba : A < 65536 ^ 5) (bb : B < 65536 ^ 5) (hz : A * B ≠ 0) : Gives Try.prog 42 #[.agg (numc true (dg A)), .agg (numc false (dg B))] (.agg (numc true (dg (A * B)))) := by
  refine Gives.mk fun w => ?_
  have z := zero_any (dg (A * B))
  rw [allZ_dg _ (Nat.lt_of_lt_of_le (Nat.mul_lt_mul_of_lt_of_lt ba bb) (by rw [← Nat.pow_add]; exact Nat.pow_le_pow_right (by omega) (by omega))), show decide (A * B = 0) = false by simp only [decide_eq_false_iff_not]; exact hz] at z
  clear hz
  replace ba := Lib.hid ba
  replace bb := Lib.hid bb
  have first := Lib.hid (times_first A B)
  go_enter Try.func42, Try.ntmps42
  go_upto_region 1 with (first | (refine wpList_val rfl _ _ (alloc_num _ _ rfl _ _ rfl) ?_; simp only [World.size_alloc]) | (refine wpList_val rfl _ _ (build_num0 _ _ rfl _) ?_) | (refine wpList_store_row rfl 79 _ _ rfl (w.heap.size + 1 + 1 + 1) (numc false fun _ => 0) rfl rfl 79 (numc false fun _ => 0) (by simp only [grow_heap, alloc_heap_at, alloc_heap_past, setRow_alloc_at, setRow_alloc_past, grow_setRow, size_setRow, World.size_alloc, grow_lt, grow_lt1, grow_lt2, grow_lt3, grow_lt4, grow_lt5, grow_lt6, grow_self1, grow_self2, grow_self3, or_true, ltd2, ltd3, ltd4, ltd5, ltd6, ltd7, Nat.lt_add_one, true_or, if_true, ite_true]) (by rw [numc_size]; exact info30) (by simp only [numc_size]) (numc_one _ _) ?_))
  simp only [Act.put, List.setIfInBounds_toArray, List.set_cons_succ, List.set_cons_zero]
  go_wp2_with (first | (refine wpList_val rfl _ _ (alloc_num _ _ rfl _ _ rfl) ?_; simp only [World.size_alloc]) | (refine wpList_val rfl _ _ (build_num0 _ _ rfl _) ?_) | (refine wpList_store_row rfl 79 _ _ rfl (w.heap.size + 1 + 1 + 1) (numc false fun _ => 0) rfl rfl 79 (numc false fun _ => 0) (by simp only [grow_heap, alloc_heap_at, alloc_heap_past, setRow_alloc_at, setRow_alloc_past, grow_setRow, size_setRow, World.size_alloc, grow_lt, grow_lt1, grow_lt2, grow_lt3, grow_lt4, grow_lt5, grow_lt6, grow_self1, grow_self2, grow_self3, or_true, ltd2, ltd3, ltd4, ltd5, ltd6, ltd7, Nat.lt_add_one, true_or, if_true, ite_true]) (by rw [numc_size]; exact info30) (by simp only [numc_size]) (numc_one _ _) ?_))
  go_loopw [6] (fun i wr => ∃ n : Nat, i = .int .i64 n ∧ n ≤ 9 ∧ ∃ D : Nat → Nat, Hid (TimesInv A B n 0 D 0) ∧ ∃ x, wr = grow ((((w.alloc (.cells (numc true (dg A)) 79)).alloc (.cells (numc false (dg B)) 79)).alloc (.cells (numc false fun _ => 0) 79)).alloc (.cells (numc false (fun j => ((D j : Nat) : Int))) 79)) x) (fun i _ => (9 - intOf i).toNat)
  case atStart => exact ⟨0, rfl, by omega, fun _ => 0, first.out, grow_of (by repeat (first | exact Below.refl _ _ | refine bel_then ?_ _ | refine bel_grow ?_ _ | refine bel_alloc ?_ _ | refine bel_drew ?_ | refine bel_set ?_ (by simp) _ | refine bel_setRow ?_ (by first | omega | simp) _))⟩
  case round =>
    obtain ⟨n, rfl, hn, D, hD, xx, rfl⟩ := hrel
    clear first
    by_cases hlt : n < 9
    · go_wp2_with fail
      go_loopw [7, 8] (fun c i wr => ∃ (m : Nat), i = .int .i64 m ∧ m ≤ 9 ∧ ∃ (D : Nat → Nat) (cc : Nat), c = .int .i64 cc ∧ Hid (TimesInv A B n m D cc) ∧ ∃ x, wr = grow ((((w.alloc (.cells (numc true (dg A)) 79)).alloc (.cells (numc false (dg B)) 79)).alloc (.cells (numc false fun _ => 0) 79)).alloc (.cells (numc false (fun j => ((D j : Nat) : Int))) 79)) x) (fun _ i _ => (9 - intOf i).toNat)
      case atStart => exact ⟨0, rfl, by omega, D, 0, rfl, hD.out, grow_of (by repeat (first | exact Below.refl _ _ | refine bel_then ?_ _ | refine bel_grow ?_ _ | refine bel_alloc ?_ _ | refine bel_drew ?_ | refine bel_set ?_ (by simp) _ | refine bel_setRow ?_ (by first | omega | simp) _))⟩
      case round =>
        obtain ⟨m, rfl, hm, D, cc, rfl, hD, yy, rfl⟩ := hrel
        by_cases hlm : m < 9
        · have next := Lib.hid (times_step hD.out (show n + m < 18 by omega))
          have d0 := hD.out.dig (n + m)
          have c0 := hD.out.car
          have a0 := dN_lt A n
          have b0 := dN_lt B m
          have p0 : dN A n * dN B m ≤ 65535 * 65535 := Nat.mul_le_mul (by omega) (by omega)
          have pe : dg A n * dg B m = ((dN A n * dN B m : Nat) : Int) := by rw [dg_dN, dg_dN]; simp
          generalize dN A n * dN B m = p at next p0 pe
          have ps := cast_set D (n + m) ((D (n + m) + p + cc) % 65536) ((((D (n + m) : Nat) : Int) + (p : Int) + (cc : Int)) % 65536) (by omega)
          have n0 : (0 : Int) ≤ (n : Int) + (m : Int) := by omega
          have n1 : (n : Int) + (m : Int) < 18 := by omega
          have n2 : (0 : Int) ≤ (n : Int) := by omega
          have n3 : (n : Int) < 18 := by omega
          have n4 : (0 : Int) ≤ (m : Int) := by omega
          have n5 : (m : Int) < 18 := by omega
          go_wp2_with fail
          refine wp_region_grow (by kernel_rfl) (by kernel_rfl) ?_
          repeat (go_big_quiet_step ((fail)))
          refine wpQuiet_nil ?_
          rintro _ ⟨xg, rfl⟩
          go_wp2_with fail
          go_roundw
          case rel => exact ⟨m + 1, by go_num, by omega, _, _, by simp, next, grow_of (by repeat (first | exact Below.refl _ _ | refine bel_then ?_ _ | refine bel_grow ?_ _ | refine bel_alloc ?_ _ | refine bel_drew ?_ | refine bel_set ?_ (by simp) _ | refine bel_setRow ?_ (by first | omega | simp) _))⟩
          case measure => simp [intOf] <;> omega
        · obtain rfl : m = 9 := by omega
          have next := Lib.hid (times_next hD.out bb.out)
          go_wp2_with fail
          go_roundw
          case rel => exact ⟨n + 1, by go_num, by omega, D, next, grow_of (by repeat (first | exact Below.refl _ _ | refine bel_then ?_ _ | refine bel_grow ?_ _ | refine bel_alloc ?_ _ | refine bel_drew ?_ | refine bel_set ?_ (by simp) _ | refine bel_setRow ?_ (by first | omega | simp) _))⟩
          case measure => simp [intOf] <;> omega
    · obtain rfl : n = 9 := by omega
      have e18 : numc false (fun j => ((D j : Nat) : Int)) = numc false (dg (A * B)) := numc_congr fun j hj => by rw [times_end hD.out rfl ba.out j hj]; rfl
      rw [e18]
      clear e18 hD ba bb
      go_wp2_with (first | (refine wpList_part rfl _ rfl (w.heap.size + 1 + 1 + 1) rfl (false) (dg (A * B)) (by simp only [grow_heap, alloc_heap_at, alloc_heap_past, setRow_alloc_at, setRow_alloc_past, grow_setRow, size_setRow, World.size_alloc, grow_lt, grow_lt1, grow_lt2, grow_lt3, grow_lt4, grow_lt5, grow_lt6, grow_self1, grow_self2, grow_self3, or_true, ltd2, ltd3, ltd4, ltd5, ltd6, ltd7, Nat.lt_add_one, true_or, if_true, ite_true]) ?_) | (refine wpList_load_row rfl 79 _ rfl (w.heap.size + 1 + 1 + 1) rfl 79 (numc true (dg (A * B))) (0, 0) _ (by simp only [grow_heap, alloc_heap_at, alloc_heap_past, setRow_alloc_at, setRow_alloc_past, grow_setRow, size_setRow, World.size_alloc, grow_lt, grow_lt1, grow_lt2, grow_lt3, grow_lt4, grow_lt5, grow_lt6, grow_self1, grow_self2, grow_self3, or_true, ltd2, ltd3, ltd4, ltd5, ltd6, ltd7, Nat.lt_add_one, true_or, if_true, ite_true]) Try.underlying79 rfl (by rw [numc_size]; exact info30) ?_) | (refine wpList_store_row rfl 79 _ _ rfl (w.heap.size + 1 + 1) (numc true (dg (A * B))) rfl rfl 79 (numc false fun _ => 0) (by simp only [grow_heap, alloc_heap_at, alloc_heap_past, setRow_alloc_at, setRow_alloc_past, grow_setRow, size_setRow, World.size_alloc, grow_lt, grow_lt1, grow_lt2, grow_lt3, grow_lt4, grow_lt5, grow_lt6, grow_self1, grow_self2, grow_self3, or_true, ltd2, ltd3, ltd4, ltd5, ltd6, ltd7, Nat.lt_add_one, true_or, if_true, ite_true]) (by rw [numc_size]; exact info30) (by simp only [numc_size]) (numc_one _ _) ?_) | (go_at_call 47; first | ((with_reducible refine (z.at_ _).mono ?_); rintro e w' ⟨rfl, xg, rfl⟩)))
      refine bodyPost_ret (results_cell_row rfl _ _ (w.heap.size + 1 + 1) 79 (numc true (dg (A * B))) (0, 0) _ rfl (by simp only [grow_heap, alloc_heap_at, alloc_heap_past, setRow_alloc_at, setRow_alloc_past, grow_setRow, size_setRow, World.size_alloc, grow_lt, grow_lt1, grow_lt2, grow_lt3, grow_lt4, grow_lt5, grow_lt6, grow_self1, grow_self2, grow_self3, or_true, ltd2, ltd3, ltd4, ltd5, ltd6, ltd7, Nat.lt_add_one, true_or, if_true, ite_true]) Try.underlying79 rfl (by rw [numc_size]; exact info30)) rfl ⟨rfl, (by repeat (first | exact Below.refl _ _ | refine bel_then ?_ _ | refine bel_grow ?_ _ | refine bel_alloc ?_ _ | refine bel_drew ?_ | refine bel_set ?_ (by simp) _ | refine bel_setRow ?_ (by first | omega | simp) _))⟩

set_option maxRecDepth 100000 in
set_option maxHeartbeats 4000000 in
theorem times_tf0 (A B : Nat) (ba : A < 65536 ^ 5) (bb : B < 65536 ^ 5) (hz : A * B = 0) : Gives Try.prog 42 #[.agg (numc true (dg A)), .agg (numc false (dg B))] (.agg (numc false (dg (A * B)))) := by
  refine Gives.mk fun w => ?_
  have z := zero_any (dg (A * B))
  rw [allZ_dg _ (Nat.lt_of_lt_of_le (Nat.mul_lt_mul_of_lt_of_lt ba bb) (by rw [← Nat.pow_add]; exact Nat.pow_le_pow_right (by omega) (by omega))), show decide (A * B = 0) = true by simp only [decide_eq_true_eq]; exact hz] at z
  clear hz
  replace ba := Lib.hid ba
  replace bb := Lib.hid bb
  have first := Lib.hid (times_first A B)
  go_enter Try.func42, Try.ntmps42
  go_upto_region 1 with (first | (refine wpList_val rfl _ _ (alloc_num _ _ rfl _ _ rfl) ?_; simp only [World.size_alloc]) | (refine wpList_val rfl _ _ (build_num0 _ _ rfl _) ?_) | (refine wpList_store_row rfl 79 _ _ rfl (w.heap.size + 1 + 1 + 1) (numc false fun _ => 0) rfl rfl 79 (numc false fun _ => 0) (by simp only [grow_heap, alloc_heap_at, alloc_heap_past, setRow_alloc_at, setRow_alloc_past, grow_setRow, size_setRow, World.size_alloc, grow_lt, grow_lt1, grow_lt2, grow_lt3, grow_lt4, grow_lt5, grow_lt6, grow_self1, grow_self2, grow_self3, or_true, ltd2, ltd3, ltd4, ltd5, ltd6, ltd7, Nat.lt_add_one, true_or, if_true, ite_true]) (by rw [numc_size]; exact info30) (by simp only [numc_size]) (numc_one _ _) ?_))
  simp only [Act.put, List.setIfInBounds_toArray, List.set_cons_succ, List.set_cons_zero]
  go_wp2_with (first | (refine wpList_val rfl _ _ (alloc_num _ _ rfl _ _ rfl) ?_; simp only [World.size_alloc]) | (refine wpList_val rfl _ _ (build_num0 _ _ rfl _) ?_) | (refine wpList_store_row rfl 79 _ _ rfl (w.heap.size + 1 + 1 + 1) (numc false fun _ => 0) rfl rfl 79 (numc false fun _ => 0) (by simp only [grow_heap, alloc_heap_at, alloc_heap_past, setRow_alloc_at, setRow_alloc_past, grow_setRow, size_setRow, World.size_alloc, grow_lt, grow_lt1, grow_lt2, grow_lt3, grow_lt4, grow_lt5, grow_lt6, grow_self1, grow_self2, grow_self3, or_true, ltd2, ltd3, ltd4, ltd5, ltd6, ltd7, Nat.lt_add_one, true_or, if_true, ite_true]) (by rw [numc_size]; exact info30) (by simp only [numc_size]) (numc_one _ _) ?_))
  go_loopw [6] (fun i wr => ∃ n : Nat, i = .int .i64 n ∧ n ≤ 9 ∧ ∃ D : Nat → Nat, Hid (TimesInv A B n 0 D 0) ∧ ∃ x, wr = grow ((((w.alloc (.cells (numc true (dg A)) 79)).alloc (.cells (numc false (dg B)) 79)).alloc (.cells (numc false fun _ => 0) 79)).alloc (.cells (numc false (fun j => ((D j : Nat) : Int))) 79)) x) (fun i _ => (9 - intOf i).toNat)
  case atStart => exact ⟨0, rfl, by omega, fun _ => 0, first.out, grow_of (by repeat (first | exact Below.refl _ _ | refine bel_then ?_ _ | refine bel_grow ?_ _ | refine bel_alloc ?_ _ | refine bel_drew ?_ | refine bel_set ?_ (by simp) _ | refine bel_setRow ?_ (by first | omega | simp) _))⟩
  case round =>
    obtain ⟨n, rfl, hn, D, hD, xx, rfl⟩ := hrel
    clear first
    by_cases hlt : n < 9
    · go_wp2_with fail
      go_loopw [7, 8] (fun c i wr => ∃ (m : Nat), i = .int .i64 m ∧ m ≤ 9 ∧ ∃ (D : Nat → Nat) (cc : Nat), c = .int .i64 cc ∧ Hid (TimesInv A B n m D cc) ∧ ∃ x, wr = grow ((((w.alloc (.cells (numc true (dg A)) 79)).alloc (.cells (numc false (dg B)) 79)).alloc (.cells (numc false fun _ => 0) 79)).alloc (.cells (numc false (fun j => ((D j : Nat) : Int))) 79)) x) (fun _ i _ => (9 - intOf i).toNat)
      case atStart => exact ⟨0, rfl, by omega, D, 0, rfl, hD.out, grow_of (by repeat (first | exact Below.refl _ _ | refine bel_then ?_ _ | refine bel_grow ?_ _ | refine bel_alloc ?_ _ | refine bel_drew ?_ | refine bel_set ?_ (by simp) _ | refine bel_setRow ?_ (by first | omega | simp) _))⟩
      case round =>
        obtain ⟨m, rfl, hm, D, cc, rfl, hD, yy, rfl⟩ := hrel
        by_cases hlm : m < 9
        · have next := Lib.hid (times_step hD.out (show n + m < 18 by omega))
          have d0 := hD.out.dig (n + m)
          have c0 := hD.out.car
          have a0 := dN_lt A n
          have b0 := dN_lt B m
          have p0 : dN A n * dN B m ≤ 65535 * 65535 := Nat.mul_le_mul (by omega) (by omega)
          have pe : dg A n * dg B m = ((dN A n * dN B m : Nat) : Int) := by rw [dg_dN, dg_dN]; simp
          generalize dN A n * dN B m = p at next p0 pe
          have ps := cast_set D (n + m) ((D (n + m) + p + cc) % 65536) ((((D (n + m) : Nat) : Int) + (p : Int) + (cc : Int)) % 65536) (by omega)
          have n0 : (0 : Int) ≤ (n : Int) + (m : Int) := by omega
          have n1 : (n : Int) + (m : Int) < 18 := by omega
          have n2 : (0 : Int) ≤ (n : Int) := by omega
          have n3 : (n : Int) < 18 := by omega
          have n4 : (0 : Int) ≤ (m : Int) := by omega
          have n5 : (m : Int) < 18 := by omega
          go_wp2_with fail
          refine wp_region_grow (by kernel_rfl) (by kernel_rfl) ?_
          repeat (go_big_quiet_step ((fail)))
          refine wpQuiet_nil ?_
          rintro _ ⟨xg, rfl⟩
          go_wp2_with fail
          go_roundw
          case rel => exact ⟨m + 1, by go_num, by omega, _, _, by simp, next, grow_of (by repeat (first | exact Below.refl _ _ | refine bel_then ?_ _ | refine bel_grow ?_ _ | refine bel_alloc ?_ _ | refine bel_drew ?_ | refine bel_set ?_ (by simp) _ | refine bel_setRow ?_ (by first | omega | simp) _))⟩
          case measure => simp [intOf] <;> omega
        · obtain rfl : m = 9 := by omega
          have next := Lib.hid (times_next hD.out bb.out)
          go_wp2_with fail
          go_roundw
          case rel => exact ⟨n + 1, by go_num, by omega, D, next, grow_of (by repeat (first | exact Below.refl _ _ | refine bel_then ?_ _ | refine bel_grow ?_ _ | refine bel_alloc ?_ _ | refine bel_drew ?_ | refine bel_set ?_ (by simp) _ | refine bel_setRow ?_ (by first | omega | simp) _))⟩
          case measure => simp [intOf] <;> omega
    · obtain rfl : n = 9 := by omega
      have e18 : numc false (fun j => ((D j : Nat) : Int)) = numc false (dg (A * B)) := numc_congr fun j hj => by rw [times_end hD.out rfl ba.out j hj]; rfl
      rw [e18]
      clear e18 hD ba bb
      go_wp2_with (first | (refine wpList_part rfl _ rfl (w.heap.size + 1 + 1 + 1) rfl (false) (dg (A * B)) (by simp only [grow_heap, alloc_heap_at, alloc_heap_past, setRow_alloc_at, setRow_alloc_past, grow_setRow, size_setRow, World.size_alloc, grow_lt, grow_lt1, grow_lt2, grow_lt3, grow_lt4, grow_lt5, grow_lt6, grow_self1, grow_self2, grow_self3, or_true, ltd2, ltd3, ltd4, ltd5, ltd6, ltd7, Nat.lt_add_one, true_or, if_true, ite_true]) ?_) | (refine wpList_load_row rfl 79 _ rfl (w.heap.size + 1 + 1 + 1) rfl 79 (numc false (dg (A * B))) (0, 0) _ (by simp only [grow_heap, alloc_heap_at, alloc_heap_past, setRow_alloc_at, setRow_alloc_past, grow_setRow, size_setRow, World.size_alloc, grow_lt, grow_lt1, grow_lt2, grow_lt3, grow_lt4, grow_lt5, grow_lt6, grow_self1, grow_self2, grow_self3, or_true, ltd2, ltd3, ltd4, ltd5, ltd6, ltd7, Nat.lt_add_one, true_or, if_true, ite_true]) Try.underlying79 rfl (by rw [numc_size]; exact info30) ?_) | (refine wpList_store_row rfl 79 _ _ rfl (w.heap.size + 1 + 1) (numc false (dg (A * B))) rfl rfl 79 (numc false fun _ => 0) (by simp only [grow_heap, alloc_heap_at, alloc_heap_past, setRow_alloc_at, setRow_alloc_past, grow_setRow, size_setRow, World.size_alloc, grow_lt, grow_lt1, grow_lt2, grow_lt3, grow_lt4, grow_lt5, grow_lt6, grow_self1, grow_self2, grow_self3, or_true, ltd2, ltd3, ltd4, ltd5, ltd6, ltd7, Nat.lt_add_one, true_or, if_true, ite_true]) (by rw [numc_size]; exact info30) (by simp only [numc_size]) (numc_one _ _) ?_) | (go_at_call 47; first | ((with_reducible refine (z.at_ _).mono ?_); rintro e w' ⟨rfl, xg, rfl⟩)))
      refine bodyPost_ret (results_cell_row rfl _ _ (w.heap.size + 1 + 1) 79 (numc false (dg (A * B))) (0, 0) _ rfl (by simp only [grow_heap, alloc_heap_at, alloc_heap_past, setRow_alloc_at, setRow_alloc_past, grow_setRow, size_setRow, World.size_alloc, grow_lt, grow_lt1, grow_lt2, grow_lt3, grow_lt4, grow_lt5, grow_lt6, grow_self1, grow_self2, grow_self3, or_true, ltd2, ltd3, ltd4, ltd5, ltd6, ltd7, Nat.lt_add_one, true_or, if_true, ite_true]) Try.underlying79 rfl (by rw [numc_size]; exact info30)) rfl ⟨rfl, (by repeat (first | exact Below.refl _ _ | refine bel_then ?_ _ | refine bel_grow ?_ _ | refine bel_alloc ?_ _ | refine bel_drew ?_ | refine bel_set ?_ (by simp) _ | refine bel_setRow ?_ (by first | omega | simp) _))⟩

set_option maxRecDepth 100000 in
set_option maxHeartbeats 4000000 in
theorem times_ft (A B : Nat) (ba : A < 65536 ^ 5) (bb : B < 65536 ^ 5) (hz : A * B ≠ 0) : Gives Try.prog 42 #[.agg (numc false (dg A)), .agg (numc true (dg B))] (.agg (numc true (dg (A * B)))) := by
  refine Gives.mk fun w => ?_
  have z := zero_any (dg (A * B))
  rw [allZ_dg _ (Nat.lt_of_lt_of_le (Nat.mul_lt_mul_of_lt_of_lt ba bb) (by rw [← Nat.pow_add]; exact Nat.pow_le_pow_right (by omega) (by omega))), show decide (A * B = 0) = false by simp only [decide_eq_false_iff_not]; exact hz] at z
  clear hz
  replace ba := Lib.hid ba
  replace bb := Lib.hid bb
  have first := Lib.hid (times_first A B)
  go_enter Try.func42, Try.ntmps42
  go_upto_region 1 with (first | (refine wpList_val rfl _ _ (alloc_num _ _ rfl _ _ rfl) ?_; simp only [World.size_alloc]) | (refine wpList_val rfl _ _ (build_num0 _ _ rfl _) ?_) | (refine wpList_store_row rfl 79 _ _ rfl (w.heap.size + 1 + 1 + 1) (numc false fun _ => 0) rfl rfl 79 (numc false fun _ => 0) (by simp only [grow_heap, alloc_heap_at, alloc_heap_past, setRow_alloc_at, setRow_alloc_past, grow_setRow, size_setRow, World.size_alloc, grow_lt, grow_lt1, grow_lt2, grow_lt3, grow_lt4, grow_lt5, grow_lt6, grow_self1, grow_self2, grow_self3, or_true, ltd2, ltd3, ltd4, ltd5, ltd6, ltd7, Nat.lt_add_one, true_or, if_true, ite_true]) (by rw [numc_size]; exact info30) (by simp only [numc_size]) (numc_one _ _) ?_))
  simp only [Act.put, List.setIfInBounds_toArray, List.set_cons_succ, List.set_cons_zero]
  go_wp2_with (first | (refine wpList_val rfl _ _ (alloc_num _ _ rfl _ _ rfl) ?_; simp only [World.size_alloc]) | (refine wpList_val rfl _ _ (build_num0 _ _ rfl _) ?_) | (refine wpList_store_row rfl 79 _ _ rfl (w.heap.size + 1 + 1 + 1) (numc false fun _ => 0) rfl rfl 79 (numc false fun _ => 0) (by simp only [grow_heap, alloc_heap_at, alloc_heap_past, setRow_alloc_at, setRow_alloc_past, grow_setRow, size_setRow, World.size_alloc, grow_lt, grow_lt1, grow_lt2, grow_lt3, grow_lt4, grow_lt5, grow_lt6, grow_self1, grow_self2, grow_self3, or_true, ltd2, ltd3, ltd4, ltd5, ltd6, ltd7, Nat.lt_add_one, true_or, if_true, ite_true]) (by rw [numc_size]; exact info30) (by simp only [numc_size]) (numc_one _ _) ?_))
  go_loopw [6] (fun i wr => ∃ n : Nat, i = .int .i64 n ∧ n ≤ 9 ∧ ∃ D : Nat → Nat, Hid (TimesInv A B n 0 D 0) ∧ ∃ x, wr = grow ((((w.alloc (.cells (numc false (dg A)) 79)).alloc (.cells (numc true (dg B)) 79)).alloc (.cells (numc false fun _ => 0) 79)).alloc (.cells (numc false (fun j => ((D j : Nat) : Int))) 79)) x) (fun i _ => (9 - intOf i).toNat)
  case atStart => exact ⟨0, rfl, by omega, fun _ => 0, first.out, grow_of (by repeat (first | exact Below.refl _ _ | refine bel_then ?_ _ | refine bel_grow ?_ _ | refine bel_alloc ?_ _ | refine bel_drew ?_ | refine bel_set ?_ (by simp) _ | refine bel_setRow ?_ (by first | omega | simp) _))⟩
  case round =>
    obtain ⟨n, rfl, hn, D, hD, xx, rfl⟩ := hrel
    clear first
    by_cases hlt : n < 9
    · go_wp2_with fail
      go_loopw [7, 8] (fun c i wr => ∃ (m : Nat), i = .int .i64 m ∧ m ≤ 9 ∧ ∃ (D : Nat → Nat) (cc : Nat), c = .int .i64 cc ∧ Hid (TimesInv A B n m D cc) ∧ ∃ x, wr = grow ((((w.alloc (.cells (numc false (dg A)) 79)).alloc (.cells (numc true (dg B)) 79)).alloc (.cells (numc false fun _ => 0) 79)).alloc (.cells (numc false (fun j => ((D j : Nat) : Int))) 79)) x) (fun _ i _ => (9 - intOf i).toNat)
      case atStart => exact ⟨0, rfl, by omega, D, 0, rfl, hD.out, grow_of (by repeat (first | exact Below.refl _ _ | refine bel_then ?_ _ | refine bel_grow ?_ _ | refine bel_alloc ?_ _ | refine bel_drew ?_ | refine bel_set ?_ (by simp) _ | refine bel_setRow ?_ (by first | omega | simp) _))⟩
      case round =>
        obtain ⟨m, rfl, hm, D, cc, rfl, hD, yy, rfl⟩ := hrel
        by_cases hlm : m < 9
        · have next := Lib.hid (times_step hD.out (show n + m < 18 by omega))
          have d0 := hD.out.dig (n + m)
          have c0 := hD.out.car
          have a0 := dN_lt A n
          have b0 := dN_lt B m
          have p0 : dN A n * dN B m ≤ 65535 * 65535 := Nat.mul_le_mul (by omega) (by omega)
          have pe : dg A n * dg B m = ((dN A n * dN B m : Nat) : Int) := by rw [dg_dN, dg_dN]; simp
          generalize dN A n * dN B m = p at next p0 pe
          have ps := cast_set D (n + m) ((D (n + m) + p + cc) % 65536) ((((D (n + m) : Nat) : Int) + (p : Int) + (cc : Int)) % 65536) (by omega)
          have n0 : (0 : Int) ≤ (n : Int) + (m : Int) := by omega
          have n1 : (n : Int) + (m : Int) < 18 := by omega
          have n2 : (0 : Int) ≤ (n : Int) := by omega
          have n3 : (n : Int) < 18 := by omega
          have n4 : (0 : Int) ≤ (m : Int) := by omega
          have n5 : (m : Int) < 18 := by omega
          go_wp2_with fail
          refine wp_region_grow (by kernel_rfl) (by kernel_rfl) ?_
          repeat (go_big_quiet_step ((fail)))
          refine wpQuiet_nil ?_
          rintro _ ⟨xg, rfl⟩
          go_wp2_with fail
          go_roundw
          case rel => exact ⟨m + 1, by go_num, by omega, _, _, by simp, next, grow_of (by repeat (first | exact Below.refl _ _ | refine bel_then ?_ _ | refine bel_grow ?_ _ | refine bel_alloc ?_ _ | refine bel_drew ?_ | refine bel_set ?_ (by simp) _ | refine bel_setRow ?_ (by first | omega | simp) _))⟩
          case measure => simp [intOf] <;> omega
        · obtain rfl : m = 9 := by omega
          have next := Lib.hid (times_next hD.out bb.out)
          go_wp2_with fail
          go_roundw
          case rel => exact ⟨n + 1, by go_num, by omega, D, next, grow_of (by repeat (first | exact Below.refl _ _ | refine bel_then ?_ _ | refine bel_grow ?_ _ | refine bel_alloc ?_ _ | refine bel_drew ?_ | refine bel_set ?_ (by simp) _ | refine bel_setRow ?_ (by first | omega | simp) _))⟩
          case measure => simp [intOf] <;> omega
    · obtain rfl : n = 9 := by omega
      have e18 : numc false (fun j => ((D j : Nat) : Int)) = numc false (dg (A * B)) := numc_congr fun j hj => by rw [times_end hD.out rfl ba.out j hj]; rfl
      rw [e18]
      clear e18 hD ba bb
      go_wp2_with (first | (refine wpList_part rfl _ rfl (w.heap.size + 1 + 1 + 1) rfl (false) (dg (A * B)) (by simp only [grow_heap, alloc_heap_at, alloc_heap_past, setRow_alloc_at, setRow_alloc_past, grow_setRow, size_setRow, World.size_alloc, grow_lt, grow_lt1, grow_lt2, grow_lt3, grow_lt4, grow_lt5, grow_lt6, grow_self1, grow_self2, grow_self3, or_true, ltd2, ltd3, ltd4, ltd5, ltd6, ltd7, Nat.lt_add_one, true_or, if_true, ite_true]) ?_) | (refine wpList_load_row rfl 79 _ rfl (w.heap.size + 1 + 1 + 1) rfl 79 (numc true (dg (A * B))) (0, 0) _ (by simp only [grow_heap, alloc_heap_at, alloc_heap_past, setRow_alloc_at, setRow_alloc_past, grow_setRow, size_setRow, World.size_alloc, grow_lt, grow_lt1, grow_lt2, grow_lt3, grow_lt4, grow_lt5, grow_lt6, grow_self1, grow_self2, grow_self3, or_true, ltd2, ltd3, ltd4, ltd5, ltd6, ltd7, Nat.lt_add_one, true_or, if_true, ite_true]) Try.underlying79 rfl (by rw [numc_size]; exact info30) ?_) | (refine wpList_store_row rfl 79 _ _ rfl (w.heap.size + 1 + 1) (numc true (dg (A * B))) rfl rfl 79 (numc false fun _ => 0) (by simp only [grow_heap, alloc_heap_at, alloc_heap_past, setRow_alloc_at, setRow_alloc_past, grow_setRow, size_setRow, World.size_alloc, grow_lt, grow_lt1, grow_lt2, grow_lt3, grow_lt4, grow_lt5, grow_lt6, grow_self1, grow_self2, grow_self3, or_true, ltd2, ltd3, ltd4, ltd5, ltd6, ltd7, Nat.lt_add_one, true_or, if_true, ite_true]) (by rw [numc_size]; exact info30) (by simp only [numc_size]) (numc_one _ _) ?_) | (go_at_call 47; first | ((with_reducible refine (z.at_ _).mono ?_); rintro e w' ⟨rfl, xg, rfl⟩)))
      refine bodyPost_ret (results_cell_row rfl _ _ (w.heap.size + 1 + 1) 79 (numc true (dg (A * B))) (0, 0) _ rfl (by simp only [grow_heap, alloc_heap_at, alloc_heap_past, setRow_alloc_at, setRow_alloc_past, grow_setRow, size_setRow, World.size_alloc, grow_lt, grow_lt1, grow_lt2, grow_lt3, grow_lt4, grow_lt5, grow_lt6, grow_self1, grow_self2, grow_self3, or_true, ltd2, ltd3, ltd4, ltd5, ltd6, ltd7, Nat.lt_add_one, true_or, if_true, ite_true]) Try.underlying79 rfl (by rw [numc_size]; exact info30)) rfl ⟨rfl, (by repeat (first | exact Below.refl _ _ | refine bel_then ?_ _ | refine bel_grow ?_ _ | refine bel_alloc ?_ _ | refine bel_drew ?_ | refine bel_set ?_ (by simp) _ | refine bel_setRow ?_ (by first | omega | simp) _))⟩

set_option maxRecDepth 100000 in
set_option maxHeartbeats 4000000 in
theorem times_ft0 (A B : Nat) (ba : A < 65536 ^ 5) (bb : B < 65536 ^ 5) (hz : A * B = 0) : Gives Try.prog 42 #[.agg (numc false (dg A)), .agg (numc true (dg B))] (.agg (numc false (dg (A * B)))) := by
  refine Gives.mk fun w => ?_
  have z := zero_any (dg (A * B))
  rw [allZ_dg _ (Nat.lt_of_lt_of_le (Nat.mul_lt_mul_of_lt_of_lt ba bb) (by rw [← Nat.pow_add]; exact Nat.pow_le_pow_right (by omega) (by omega))), show decide (A * B = 0) = true by simp only [decide_eq_true_eq]; exact hz] at z
  clear hz
  replace ba := Lib.hid ba
  replace bb := Lib.hid bb
  have first := Lib.hid (times_first A B)
  go_enter Try.func42, Try.ntmps42
  go_upto_region 1 with (first | (refine wpList_val rfl _ _ (alloc_num _ _ rfl _ _ rfl) ?_; simp only [World.size_alloc]) | (refine wpList_val rfl _ _ (build_num0 _ _ rfl _) ?_) | (refine wpList_store_row rfl 79 _ _ rfl (w.heap.size + 1 + 1 + 1) (numc false fun _ => 0) rfl rfl 79 (numc false fun _ => 0) (by simp only [grow_heap, alloc_heap_at, alloc_heap_past, setRow_alloc_at, setRow_alloc_past, grow_setRow, size_setRow, World.size_alloc, grow_lt, grow_lt1, grow_lt2, grow_lt3, grow_lt4, grow_lt5, grow_lt6, grow_self1, grow_self2, grow_self3, or_true, ltd2, ltd3, ltd4, ltd5, ltd6, ltd7, Nat.lt_add_one, true_or, if_true, ite_true]) (by rw [numc_size]; exact info30) (by simp only [numc_size]) (numc_one _ _) ?_))
  simp only [Act.put, List.setIfInBounds_toArray, List.set_cons_succ, List.set_cons_zero]
  go_wp2_with (first | (refine wpList_val rfl _ _ (alloc_num _ _ rfl _ _ rfl) ?_; simp only [World.size_alloc]) | (refine wpList_val rfl _ _ (build_num0 _ _ rfl _) ?_) | (refine wpList_store_row rfl 79 _ _ rfl (w.heap.size + 1 + 1 + 1) (numc false fun _ => 0) rfl rfl 79 (numc false fun _ => 0) (by simp only [grow_heap, alloc_heap_at, alloc_heap_past, setRow_alloc_at, setRow_alloc_past, grow_setRow, size_setRow, World.size_alloc, grow_lt, grow_lt1, grow_lt2, grow_lt3, grow_lt4, grow_lt5, grow_lt6, grow_self1, grow_self2, grow_self3, or_true, ltd2, ltd3, ltd4, ltd5, ltd6, ltd7, Nat.lt_add_one, true_or, if_true, ite_true]) (by rw [numc_size]; exact info30) (by simp only [numc_size]) (numc_one _ _) ?_))
  go_loopw [6] (fun i wr => ∃ n : Nat, i = .int .i64 n ∧ n ≤ 9 ∧ ∃ D : Nat → Nat, Hid (TimesInv A B n 0 D 0) ∧ ∃ x, wr = grow ((((w.alloc (.cells (numc false (dg A)) 79)).alloc (.cells (numc true (dg B)) 79)).alloc (.cells (numc false fun _ => 0) 79)).alloc (.cells (numc false (fun j => ((D j : Nat) : Int))) 79)) x) (fun i _ => (9 - intOf i).toNat)
  case atStart => exact ⟨0, rfl, by omega, fun _ => 0, first.out, grow_of (by repeat (first | exact Below.refl _ _ | refine bel_then ?_ _ | refine bel_grow ?_ _ | refine bel_alloc ?_ _ | refine bel_drew ?_ | refine bel_set ?_ (by simp) _ | refine bel_setRow ?_ (by first | omega | simp) _))⟩
  case round =>
    obtain ⟨n, rfl, hn, D, hD, xx, rfl⟩ := hrel
    clear first
    by_cases hlt : n < 9
    · go_wp2_with fail
      go_loopw [7, 8] (fun c i wr => ∃ (m : Nat), i = .int .i64 m ∧ m ≤ 9 ∧ ∃ (D : Nat → Nat) (cc : Nat), c = .int .i64 cc ∧ Hid (TimesInv A B n m D cc) ∧ ∃ x, wr = grow ((((w.alloc (.cells (numc false (dg A)) 79)).alloc (.cells (numc true (dg B)) 79)).alloc (.cells (numc false fun _ => 0) 79)).alloc (.cells (numc false (fun j => ((D j : Nat) : Int))) 79)) x) (fun _ i _ => (9 - intOf i).toNat)
      case atStart => exact ⟨0, rfl, by omega, D, 0, rfl, hD.out, grow_of (by repeat (first | exact Below.refl _ _ | refine bel_then ?_ _ | refine bel_grow ?_ _ | refine bel_alloc ?_ _ | refine bel_drew ?_ | refine bel_set ?_ (by simp) _ | refine bel_setRow ?_ (by first | omega | simp) _))⟩
      case round =>
        obtain ⟨m, rfl, hm, D, cc, rfl, hD, yy, rfl⟩ := hrel
        by_cases hlm : m < 9
        · have next := Lib.hid (times_step hD.out (show n + m < 18 by omega))
          have d0 := hD.out.dig (n + m)
          have c0 := hD.out.car
          have a0 := dN_lt A n
          have b0 := dN_lt B m
          have p0 : dN A n * dN B m ≤ 65535 * 65535 := Nat.mul_le_mul (by omega) (by omega)
          have pe : dg A n * dg B m = ((dN A n * dN B m : Nat) : Int) := by rw [dg_dN, dg_dN]; simp
          generalize dN A n * dN B m = p at next p0 pe
          have ps := cast_set D (n + m) ((D (n + m) + p + cc) % 65536) ((((D (n + m) : Nat) : Int) + (p : Int) + (cc : Int)) % 65536) (by omega)
          have n0 : (0 : Int) ≤ (n : Int) + (m : Int) := by omega
          have n1 : (n : Int) + (m : Int) < 18 := by omega
          have n2 : (0 : Int) ≤ (n : Int) := by omega
          have n3 : (n : Int) < 18 := by omega
          have n4 : (0 : Int) ≤ (m : Int) := by omega
          have n5 : (m : Int) < 18 := by omega
          go_wp2_with fail
          refine wp_region_grow (by kernel_rfl) (by kernel_rfl) ?_
          repeat (go_big_quiet_step ((fail)))
          refine wpQuiet_nil ?_
          rintro _ ⟨xg, rfl⟩
          go_wp2_with fail
          go_roundw
          case rel => exact ⟨m + 1, by go_num, by omega, _, _, by simp, next, grow_of (by repeat (first | exact Below.refl _ _ | refine bel_then ?_ _ | refine bel_grow ?_ _ | refine bel_alloc ?_ _ | refine bel_drew ?_ | refine bel_set ?_ (by simp) _ | refine bel_setRow ?_ (by first | omega | simp) _))⟩
          case measure => simp [intOf] <;> omega
        · obtain rfl : m = 9 := by omega
          have next := Lib.hid (times_next hD.out bb.out)
          go_wp2_with fail
          go_roundw
          case rel => exact ⟨n + 1, by go_num, by omega, D, next, grow_of (by repeat (first | exact Below.refl _ _ | refine bel_then ?_ _ | refine bel_grow ?_ _ | refine bel_alloc ?_ _ | refine bel_drew ?_ | refine bel_set ?_ (by simp) _ | refine bel_setRow ?_ (by first | omega | simp) _))⟩
          case measure => simp [intOf] <;> omega
    · obtain rfl : n = 9 := by omega
      have e18 : numc false (fun j => ((D j : Nat) : Int)) = numc false (dg (A * B)) := numc_congr fun j hj => by rw [times_end hD.out rfl ba.out j hj]; rfl
      rw [e18]
      clear e18 hD ba bb
      go_wp2_with (first | (refine wpList_part rfl _ rfl (w.heap.size + 1 + 1 + 1) rfl (false) (dg (A * B)) (by simp only [grow_heap, alloc_heap_at, alloc_heap_past, setRow_alloc_at, setRow_alloc_past, grow_setRow, size_setRow, World.size_alloc, grow_lt, grow_lt1, grow_lt2, grow_lt3, grow_lt4, grow_lt5, grow_lt6, grow_self1, grow_self2, grow_self3, or_true, ltd2, ltd3, ltd4, ltd5, ltd6, ltd7, Nat.lt_add_one, true_or, if_true, ite_true]) ?_) | (refine wpList_load_row rfl 79 _ rfl (w.heap.size + 1 + 1 + 1) rfl 79 (numc false (dg (A * B))) (0, 0) _ (by simp only [grow_heap, alloc_heap_at, alloc_heap_past, setRow_alloc_at, setRow_alloc_past, grow_setRow, size_setRow, World.size_alloc, grow_lt, grow_lt1, grow_lt2, grow_lt3, grow_lt4, grow_lt5, grow_lt6, grow_self1, grow_self2, grow_self3, or_true, ltd2, ltd3, ltd4, ltd5, ltd6, ltd7, Nat.lt_add_one, true_or, if_true, ite_true]) Try.underlying79 rfl (by rw [numc_size]; exact info30) ?_) | (refine wpList_store_row rfl 79 _ _ rfl (w.heap.size + 1 + 1) (numc false (dg (A * B))) rfl rfl 79 (numc false fun _ => 0) (by simp only [grow_heap, alloc_heap_at, alloc_heap_past, setRow_alloc_at, setRow_alloc_past, grow_setRow, size_setRow, World.size_alloc, grow_lt, grow_lt1, grow_lt2, grow_lt3, grow_lt4, grow_lt5, grow_lt6, grow_self1, grow_self2, grow_self3, or_true, ltd2, ltd3, ltd4, ltd5, ltd6, ltd7, Nat.lt_add_one, true_or, if_true, ite_true]) (by rw [numc_size]; exact info30) (by simp only [numc_size]) (numc_one _ _) ?_) | (go_at_call 47; first | ((with_reducible refine (z.at_ _).mono ?_); rintro e w' ⟨rfl, xg, rfl⟩)))
      refine bodyPost_ret (results_cell_row rfl _ _ (w.heap.size + 1 + 1) 79 (numc false (dg (A * B))) (0, 0) _ rfl (by simp only [grow_heap, alloc_heap_at, alloc_heap_past, setRow_alloc_at, setRow_alloc_past, grow_setRow, size_setRow, World.size_alloc, grow_lt, grow_lt1, grow_lt2, grow_lt3, grow_lt4, grow_lt5, grow_lt6, grow_self1, grow_self2, grow_self3, or_true, ltd2, ltd3, ltd4, ltd5, ltd6, ltd7, Nat.lt_add_one, true_or, if_true, ite_true]) Try.underlying79 rfl (by rw [numc_size]; exact info30)) rfl ⟨rfl, (by repeat (first | exact Below.refl _ _ | refine bel_then ?_ _ | refine bel_grow ?_ _ | refine bel_alloc ?_ _ | refine bel_drew ?_ | refine bel_set ?_ (by simp) _ | refine bel_setRow ?_ (by first | omega | simp) _))⟩

end Go.Proofs.Ytngkimcnolmmoaa

/- The document's own numbers, as digits: contracts of its calls, part 12: sums and products whole; numbers of 64 bits. -/
namespace Go.Proofs.Ytngkimcnolmmoaa
open Go.RowKit
set_option linter.unusedVariables false
set_option linter.unusedSimpArgs false
def Half (N : Nat) : Prop := N < 65536 ^ 5
theorem times_any (x y : Int) (bx : Half x.natAbs) (by_ : Half y.natAbs) : Gives Try.prog 42 #[.agg (numc (sg x) (dg x.natAbs)), .agg (numc (sg y) (dg y.natAbs))] (.agg (numc (sg (x * y)) (dg (x * y).natAbs))) := by
  rw [Int.natAbs_mul]
  have hm : x.natAbs * y.natAbs = 0 ↔ x = 0 ∨ y = 0 := by rw [Nat.mul_eq_zero]; omega
  by_cases hx : x < 0 <;> by_cases hy : y < 0
  · rw [sg_yes hx, sg_yes hy, sg_no (Int.le_of_lt (Int.mul_pos_of_neg_of_neg hx hy))]
    exact times_tt _ _ bx by_
  · rw [sg_yes hx, sg_no (by omega)]
    by_cases h0 : y = 0
    · rw [sg_no (by subst h0; simp)]; exact times_tf0 _ _ bx by_ (hm.2 (.inr h0))
    · rw [sg_yes (Int.mul_neg_of_neg_of_pos hx (by omega))]; exact times_tf _ _ bx by_ (fun h => by have := hm.1 h; omega)
  · rw [sg_no (by omega), sg_yes hy]
    by_cases h0 : x = 0
    · rw [sg_no (by subst h0; simp)]; exact times_ft0 _ _ bx by_ (hm.2 (.inl h0))
    · rw [sg_yes (Int.mul_neg_of_pos_of_neg (by omega) hy)]; exact times_ft _ _ bx by_ (fun h => by have := hm.1 h; omega)
  · rw [sg_no (by omega), sg_no (by omega), sg_no (Int.mul_nonneg (by omega) (by omega))]
    exact times_ff _ _ bx by_
theorem big_w {x : Int} (h : InW x) : Big x.natAbs := by
  unfold InW at h
  exact Nat.lt_of_le_of_lt (show x.natAbs ≤ 170141183460469231731687303715884105728 by omega) (by decide)
theorem big_i {x : Int} (h0 : -9223372036854775808 ≤ x) (h1 : x ≤ 9223372036854775807) : Big x.natAbs := Nat.lt_of_le_of_lt (show x.natAbs ≤ 9223372036854775808 by omega) (by decide)
theorem half_i {x : Int} (h0 : -9223372036854775808 ≤ x) (h1 : x ≤ 9223372036854775807) : Half x.natAbs := Nat.lt_of_le_of_lt (show x.natAbs ≤ 9223372036854775808 by omega) (by decide)
/-- A whole number's block, loaded in a drawn region. -/
theorem quiet_num {ops : Array Oper} {C : World → Prop} {Q : Act → Prop} {o : Oper} {rest : List Oper} {a : Act} (x : Operand) (ho : o.op = .load 79 x) (hg : Region.wanted o (yielded ops a.tmps) = true) (g : Nat) (hx : a.eval x = .pointer (some ⟨g, 0, none⟩))
    (s : Bool) (A : Nat → Int) (h : ∀ u, C u → u.heap[g]? = some (.cells (numc s A) 79 (0, 0))) (k : wpQuiet Try.prog ops C Q rest (a.put o.dst (.agg (numc s A)))) : wpQuiet Try.prog ops C Q (o :: rest) a :=
  quiet_by hg _ (fun u hu => by
    have hr : u.rangeAt g 0 (numc s A).toList := fun j v hv => by
      rw [Nat.zero_add, cell_of_row u g j _ _ _ (h u hu)]
      rw [Array.getElem?_toList] at hv
      exact hv
    have := run_loadAt_mid (P := Try.prog) u g 0 79 (numc s A).toList _ hr Try.underlying79 rfl (by rw [Array.length_toList, numc_size]; exact info30)
    unfold execOp
    simp only [ho, hx, Sem.run_bind, this, Result.andThen_ok, Sem.run_pure]) k

end Go.Proofs.Ytngkimcnolmmoaa

/- The document's own numbers, as digits: contracts of its calls, part 13: Int, Mul, right, Order. -/
namespace Go.Proofs.Ytngkimcnolmmoaa
open Go.RowKit
set_option linter.unusedVariables false
set_option linter.unusedSimpArgs false

end Go.Proofs.Ytngkimcnolmmoaa
