/- The document's own numbers, as digits: contracts of its calls, part 6: the other sign; to and from wide numbers. -/
import Derived.Test.YtlfdjnmigfdjbaaRef5
namespace Go.Proofs.Ytlfdjnmigfdjbaa
open Go.RowKit
set_option linter.unusedVariables false
set_option linter.unusedSimpArgs false
theorem split_dN (H L : Nat) (hl : L < 18446744073709551616) (j : Nat) : dN (H * 18446744073709551616 + L) j = if j < 4 then dN L j else dN H (j - 4) := by
  have e : (18446744073709551616 : Nat) = 65536 ^ 4 := by decide
  unfold dN
  rw [e] at hl ⊢
  split
  · rename_i h
    rw [show H * 65536 ^ 4 = 65536 ^ j * (65536 * (65536 ^ (3 - j) * H)) by
      rw [Nat.mul_comm, ← Nat.mul_assoc, ← Nat.mul_assoc, ← Nat.pow_succ, ← Nat.pow_add, show j + 1 + (3 - j) = 4 by omega], Nat.add_comm, Nat.add_mul_div_left _ _ (pow_pos j), Nat.add_mul_mod_self_left]
  · rename_i h
    rw [show 65536 ^ j = 65536 ^ 4 * 65536 ^ (j - 4) by rw [← Nat.pow_add]; congr 1; omega, ← Nat.div_div_eq_div_mul]
    congr 2
    rw [Nat.add_comm, Nat.add_mul_div_right _ _ (pow_pos 4), Nat.div_eq_of_lt hl, Nat.zero_add]

set_option maxHeartbeats 1000000 in
theorem minus_neg (x : Int) (h : x < 0) (bx : Big x.natAbs) :
    Gives Try.prog 20 #[.agg (numc true (dg x.natAbs))] (.agg (numc false (dg x.natAbs))) := by
  refine Gives.mk fun w => ?_
  clear h bx
  go_enter Try.func20, Try.ntmps20
  go_wp2_with (first | (refine wpList_val rfl _ _ (alloc_num _ _ rfl _ (w.heap.size + 1) (by simp)) ?_))
  simp only [Act.put, List.setIfInBounds_toArray, List.set_cons_succ, List.set_cons_zero]
  refine wp_region_tail 12 ?_ (by kernel_rfl) (by kernel_rfl) (by kernel_rfl) (fun xx => ?_) (fun xx => ?_)
  rotate_left
  · simp only [List.take_succ_cons, List.take_zero]
    repeat (first | (refine quiet_part _ rfl rfl (w.heap.size) rfl (true) (dg x.natAbs) (fun u hu => by obtain ⟨y, rfl⟩ := hu; simp only [grow_heap, alloc_heap_at, alloc_heap_past, setRow_alloc_at, setRow_alloc_past, grow_setRow, size_setRow, World.size_alloc, grow_lt, grow_lt1, grow_lt2, grow_lt3, grow_lt4, grow_lt5, grow_lt6, grow_self1, grow_self2, grow_self3, or_true, ltd2, ltd3, ltd4, ltd5, ltd6, ltd7, Nat.lt_add_one, true_or, if_true, ite_true]) ?_; simp only [Act.put, List.setIfInBounds_toArray, List.set_cons_succ, List.set_cons_zero]) | (refine quiet_by rfl (.agg (numc false (dg x.natAbs))) (fun u hu => build_num2 _ _ _ _ rfl _ false _ rfl rfl) ?_; simp only [Act.put, List.setIfInBounds_toArray, List.set_cons_succ, List.set_cons_zero]) | go_big_quiet_step (fail))
    refine wpQuiet_nil ?_
    exact rfl
  · simp only [List.drop_succ_cons, List.drop_zero]
    go_wp2_with (first | (refine wpList_store_row rfl 30 _ _ rfl (w.heap.size + 1) (numc false (dg x.natAbs)) rfl rfl 30 (numc false fun _ => 0) (by simp only [grow_heap, alloc_heap_at, alloc_heap_past, setRow_alloc_at, setRow_alloc_past, grow_setRow, size_setRow, World.size_alloc, grow_lt, grow_lt1, grow_lt2, grow_lt3, grow_lt4, grow_lt5, grow_lt6, grow_self1, grow_self2, grow_self3, or_true, ltd2, ltd3, ltd4, ltd5, ltd6, ltd7, Nat.lt_add_one, true_or, if_true, ite_true]) (by rw [numc_size]; exact info30) (by simp only [numc_size]) (numc_one _ _) ?_))
    refine bodyPost_ret (results_cell_row rfl _ _ (w.heap.size + 1) 30 (numc false (dg x.natAbs)) (0, 0) _ rfl (by simp only [grow_heap, alloc_heap_at, alloc_heap_past, setRow_alloc_at, setRow_alloc_past, grow_setRow, size_setRow, World.size_alloc, grow_lt, grow_lt1, grow_lt2, grow_lt3, grow_lt4, grow_lt5, grow_lt6, grow_self1, grow_self2, grow_self3, or_true, ltd2, ltd3, ltd4, ltd5, ltd6, ltd7, Nat.lt_add_one, true_or, if_true, ite_true]) Try.underlying30 rfl (by rw [numc_size]; exact info30)) rfl ⟨rfl, (by repeat (first | exact Below.refl _ _ | refine bel_then ?_ _ | refine bel_grow ?_ _ | refine bel_alloc ?_ _ | refine bel_drew ?_ | refine bel_set ?_ (by simp) _ | refine bel_setRow ?_ (by first | omega | simp) _))⟩

set_option maxHeartbeats 1000000 in
theorem minus_zero (x : Int) (h : x = 0) (bx : Big x.natAbs) :
    Gives Try.prog 20 #[.agg (numc false (dg x.natAbs))] (.agg (numc false (dg x.natAbs))) := by
  refine Gives.mk fun w => ?_
  have z := zero_any (dg x.natAbs)
  rw [allZ_dg _ bx, show decide (x.natAbs = 0) = true by simp; omega] at z
  clear h bx
  go_enter Try.func20, Try.ntmps20
  go_wp2_with (first | (refine wpList_val rfl _ _ (alloc_num _ _ rfl _ (w.heap.size + 1) (by simp)) ?_))
  simp only [Act.put, List.setIfInBounds_toArray, List.set_cons_succ, List.set_cons_zero]
  refine wp_region_tail 12 ?_ (by kernel_rfl) (by kernel_rfl) (by kernel_rfl) (fun xx => ?_) (fun xx => ?_)
  rotate_left
  · simp only [List.take_succ_cons, List.take_zero]
    repeat (first | (refine quiet_part _ rfl rfl (w.heap.size) rfl (false) (dg x.natAbs) (fun u hu => by obtain ⟨y, rfl⟩ := hu; simp only [grow_heap, alloc_heap_at, alloc_heap_past, setRow_alloc_at, setRow_alloc_past, grow_setRow, size_setRow, World.size_alloc, grow_lt, grow_lt1, grow_lt2, grow_lt3, grow_lt4, grow_lt5, grow_lt6, grow_self1, grow_self2, grow_self3, or_true, ltd2, ltd3, ltd4, ltd5, ltd6, ltd7, Nat.lt_add_one, true_or, if_true, ite_true]) ?_; simp only [Act.put, List.setIfInBounds_toArray, List.set_cons_succ, List.set_cons_zero]) | (refine quiet_by rfl (.agg (numc false (dg x.natAbs))) (fun u hu => build_num2 _ _ _ _ rfl _ false _ rfl rfl) ?_; simp only [Act.put, List.setIfInBounds_toArray, List.set_cons_succ, List.set_cons_zero]) | go_big_quiet_step (((first | with_reducible exact z.quiet _ | with_reducible exact z.quiet2 _ _))))
    refine wpQuiet_nil ?_
    exact rfl
  · simp only [List.drop_succ_cons, List.drop_zero]
    go_wp2_with (first | (refine wpList_store_row rfl 30 _ _ rfl (w.heap.size + 1) (numc false (dg x.natAbs)) rfl rfl 30 (numc false fun _ => 0) (by simp only [grow_heap, alloc_heap_at, alloc_heap_past, setRow_alloc_at, setRow_alloc_past, grow_setRow, size_setRow, World.size_alloc, grow_lt, grow_lt1, grow_lt2, grow_lt3, grow_lt4, grow_lt5, grow_lt6, grow_self1, grow_self2, grow_self3, or_true, ltd2, ltd3, ltd4, ltd5, ltd6, ltd7, Nat.lt_add_one, true_or, if_true, ite_true]) (by rw [numc_size]; exact info30) (by simp only [numc_size]) (numc_one _ _) ?_))
    refine bodyPost_ret (results_cell_row rfl _ _ (w.heap.size + 1) 30 (numc false (dg x.natAbs)) (0, 0) _ rfl (by simp only [grow_heap, alloc_heap_at, alloc_heap_past, setRow_alloc_at, setRow_alloc_past, grow_setRow, size_setRow, World.size_alloc, grow_lt, grow_lt1, grow_lt2, grow_lt3, grow_lt4, grow_lt5, grow_lt6, grow_self1, grow_self2, grow_self3, or_true, ltd2, ltd3, ltd4, ltd5, ltd6, ltd7, Nat.lt_add_one, true_or, if_true, ite_true]) Try.underlying30 rfl (by rw [numc_size]; exact info30)) rfl ⟨rfl, (by repeat (first | exact Below.refl _ _ | refine bel_then ?_ _ | refine bel_grow ?_ _ | refine bel_alloc ?_ _ | refine bel_drew ?_ | refine bel_set ?_ (by simp) _ | refine bel_setRow ?_ (by first | omega | simp) _))⟩

set_option maxHeartbeats 1000000 in
theorem minus_pos (x : Int) (h : 0 < x) (bx : Big x.natAbs) :
    Gives Try.prog 20 #[.agg (numc false (dg x.natAbs))] (.agg (numc true (dg x.natAbs))) := by
  refine Gives.mk fun w => ?_
  have z := zero_any (dg x.natAbs)
  rw [allZ_dg _ bx, show decide (x.natAbs = 0) = false by simp; omega] at z
  clear h bx
  go_enter Try.func20, Try.ntmps20
  go_wp2_with (first | (refine wpList_val rfl _ _ (alloc_num _ _ rfl _ (w.heap.size + 1) (by simp)) ?_))
  simp only [Act.put, List.setIfInBounds_toArray, List.set_cons_succ, List.set_cons_zero]
  refine wp_region_tail 12 ?_ (by kernel_rfl) (by kernel_rfl) (by kernel_rfl) (fun xx => ?_) (fun xx => ?_)
  rotate_left
  · simp only [List.take_succ_cons, List.take_zero]
    repeat (first | (refine quiet_part _ rfl rfl (w.heap.size) rfl (false) (dg x.natAbs) (fun u hu => by obtain ⟨y, rfl⟩ := hu; simp only [grow_heap, alloc_heap_at, alloc_heap_past, setRow_alloc_at, setRow_alloc_past, grow_setRow, size_setRow, World.size_alloc, grow_lt, grow_lt1, grow_lt2, grow_lt3, grow_lt4, grow_lt5, grow_lt6, grow_self1, grow_self2, grow_self3, or_true, ltd2, ltd3, ltd4, ltd5, ltd6, ltd7, Nat.lt_add_one, true_or, if_true, ite_true]) ?_; simp only [Act.put, List.setIfInBounds_toArray, List.set_cons_succ, List.set_cons_zero]) | (refine quiet_by rfl (.agg (numc true (dg x.natAbs))) (fun u hu => build_num2 _ _ _ _ rfl _ true _ rfl rfl) ?_; simp only [Act.put, List.setIfInBounds_toArray, List.set_cons_succ, List.set_cons_zero]) | go_big_quiet_step (((first | with_reducible exact z.quiet _ | with_reducible exact z.quiet2 _ _))))
    refine wpQuiet_nil ?_
    exact rfl
  · simp only [List.drop_succ_cons, List.drop_zero]
    go_wp2_with (first | (refine wpList_store_row rfl 30 _ _ rfl (w.heap.size + 1) (numc true (dg x.natAbs)) rfl rfl 30 (numc false fun _ => 0) (by simp only [grow_heap, alloc_heap_at, alloc_heap_past, setRow_alloc_at, setRow_alloc_past, grow_setRow, size_setRow, World.size_alloc, grow_lt, grow_lt1, grow_lt2, grow_lt3, grow_lt4, grow_lt5, grow_lt6, grow_self1, grow_self2, grow_self3, or_true, ltd2, ltd3, ltd4, ltd5, ltd6, ltd7, Nat.lt_add_one, true_or, if_true, ite_true]) (by rw [numc_size]; exact info30) (by simp only [numc_size]) (numc_one _ _) ?_))
    refine bodyPost_ret (results_cell_row rfl _ _ (w.heap.size + 1) 30 (numc true (dg x.natAbs)) (0, 0) _ rfl (by simp only [grow_heap, alloc_heap_at, alloc_heap_past, setRow_alloc_at, setRow_alloc_past, grow_setRow, size_setRow, World.size_alloc, grow_lt, grow_lt1, grow_lt2, grow_lt3, grow_lt4, grow_lt5, grow_lt6, grow_self1, grow_self2, grow_self3, or_true, ltd2, ltd3, ltd4, ltd5, ltd6, ltd7, Nat.lt_add_one, true_or, if_true, ite_true]) Try.underlying30 rfl (by rw [numc_size]; exact info30)) rfl ⟨rfl, (by repeat (first | exact Below.refl _ _ | refine bel_then ?_ _ | refine bel_grow ?_ _ | refine bel_alloc ?_ _ | refine bel_drew ?_ | refine bel_set ?_ (by simp) _ | refine bel_setRow ?_ (by first | omega | simp) _))⟩

end Go.Proofs.Ytlfdjnmigfdjbaa
