/- The document's own numbers, as digits: contracts of its calls, part 13: Int, Mul, right, Order. -/
import Derived.Test.YtgfgaaecpdbgeaaRef12
namespace Go.Proofs.Ytgfgaaecpdbgeaa
open Go.RowKit
set_option linter.unusedVariables false
set_option linter.unusedSimpArgs false

set_option maxHeartbeats 1000000 in
theorem rInt_yes (x : Int) (hx : InW x) (h : -9223372036854775808 ≤ x ∧ x ≤ 9223372036854775807) : Gives Try.prog 73 #[.agg #[.int .i64 (hiOf x), .int .u64 (loOf x)]] (.tuple #[.int .i64 x, .bool true]) := by
  refine Gives.mk fun w => ?_
  have fr := from_any x hx
  have lb := lo_bd x
  obtain ⟨sl, Dl, c1, f1, k1, b1⟩ : ∃ sl Dl c1, Gives Try.prog 43 #[.int .i64 (-9223372036854775808)] (.agg (numc sl Dl)) ∧ Gives Try.prog 47 #[.agg (numc (sg x) (dg x.natAbs)), .agg (numc sl Dl)] (.int .i64 c1) ∧ decide (c1 < 0) = false :=
    ⟨_, _, _, fromInt_any (-9223372036854775808) (by omega) (by omega), compare_any x (-9223372036854775808) (big_w hx) (big_i (by omega) (by omega)), by simp only [decide_eq_false_iff_not]; unfold cmpOf; split <;> (try split) <;> omega⟩
  obtain ⟨sm, Dm, c2, f2, k2, b2⟩ : ∃ sm Dm c2, Gives Try.prog 43 #[.int .i64 9223372036854775807] (.agg (numc sm Dm)) ∧ Gives Try.prog 47 #[.agg (numc (sg x) (dg x.natAbs)), .agg (numc sm Dm)] (.int .i64 c2) ∧ decide (0 < c2) = false :=
    ⟨_, _, _, fromInt_any 9223372036854775807 (by omega) (by omega), compare_any x 9223372036854775807 (big_w hx) (big_i (by omega) (by omega)), by simp only [decide_eq_false_iff_not]; (unfold cmpOf; split <;> (try split) <;> omega)⟩
  have e := Lib.hid (show wrap64 (loOf x) = x by unfold wrap64 loOf; omega)
  generalize sg x = sx at *
  generalize dg x.natAbs = dx at *
  clear hx h
  go_enter Try.func73, Try.ntmps73
  go_wp2_with (first | (refine wpList_store_row rfl 70 _ _ rfl ((grow (w.alloc (.cells #[.int .i64 (hiOf x), .int .u64 (loOf x)] 24)) xf).heap.size) (numc sx dx) rfl rfl 70 (numc false fun _ => 0) (by simp only [grow_heap, alloc_heap_at, alloc_heap_past, setRow_alloc_at, setRow_alloc_past, grow_setRow, size_setRow, World.size_alloc, grow_lt, grow_lt1, grow_lt2, grow_lt3, grow_lt4, grow_lt5, grow_lt6, grow_self1, grow_self2, grow_self3, or_true, ltd2, ltd3, ltd4, ltd5, ltd6, ltd7, Nat.lt_add_one, true_or, if_true, ite_true]) (by rw [numc_size]; exact info30) (by simp only [numc_size]) (numc_one _ _) ?_) | (refine wpList_val rfl _ _ (alloc_num _ _ rfl _ _ rfl) ?_; simp only [World.size_alloc]) | (go_at_call 40; ((with_reducible refine (fr.at_ _).mono ?_); rintro e w' ⟨rfl, xf, rfl⟩)))
  refine wp_region_grow (by kernel_rfl) (by kernel_rfl) ?_
  repeat (first | (refine quiet_num _ rfl rfl ((grow (w.alloc (.cells #[.int .i64 (hiOf x), .int .u64 (loOf x)] 24)) xf).heap.size) rfl sx dx (fun u hu => by obtain ⟨y, rfl⟩ := hu; simp only [grow_heap, alloc_heap_at, alloc_heap_past, setRow_alloc_at, setRow_alloc_past, grow_setRow, size_setRow, World.size_alloc, grow_lt, grow_lt1, grow_lt2, grow_lt3, grow_lt4, grow_lt5, grow_lt6, grow_self1, grow_self2, grow_self3, or_true, ltd2, ltd3, ltd4, ltd5, ltd6, ltd7, Nat.lt_add_one, true_or, if_true, ite_true]) ?_; simp only [Act.put, List.setIfInBounds_toArray, List.set_cons_succ, List.set_cons_zero]) | go_big_quiet_step (((first | with_reducible exact f1.quiet _ | with_reducible exact f1.quiet2 _ _ | with_reducible exact k1.quiet _ | with_reducible exact k1.quiet2 _ _ | with_reducible exact f2.quiet _ | with_reducible exact f2.quiet2 _ _ | with_reducible exact k2.quiet _ | with_reducible exact k2.quiet2 _ _))))
  refine wpQuiet_nil ?_
  rintro _ ⟨xg, rfl⟩
  go_wp2_with fail
  rw [e.out]
  go_ret2
  exact ⟨rfl, (by repeat (first | exact Below.refl _ _ | refine bel_then ?_ _ | refine bel_grow ?_ _ | refine bel_alloc ?_ _ | refine bel_drew ?_ | refine bel_set ?_ (by simp) _ | refine bel_setRow ?_ (by first | omega | simp; done | exact Nat.le_trans (by simp) (top_le _ _)) _))⟩

set_option maxHeartbeats 1000000 in
theorem rInt_low (x : Int) (hx : InW x) (h : x < -9223372036854775808) : Gives Try.prog 73 #[.agg #[.int .i64 (hiOf x), .int .u64 (loOf x)]] (.tuple #[.int .i64 0, .bool false]) := by
  refine Gives.mk fun w => ?_
  have fr := from_any x hx
  have lb := lo_bd x
  obtain ⟨sl, Dl, c1, f1, k1, b1⟩ : ∃ sl Dl c1, Gives Try.prog 43 #[.int .i64 (-9223372036854775808)] (.agg (numc sl Dl)) ∧ Gives Try.prog 47 #[.agg (numc (sg x) (dg x.natAbs)), .agg (numc sl Dl)] (.int .i64 c1) ∧ decide (c1 < 0) = true :=
    ⟨_, _, _, fromInt_any (-9223372036854775808) (by omega) (by omega), compare_any x (-9223372036854775808) (big_w hx) (big_i (by omega) (by omega)), by simp only [decide_eq_true_eq]; unfold cmpOf; split <;> (try split) <;> omega⟩
  obtain ⟨sm, Dm, c2, f2, k2, b2⟩ : ∃ sm Dm c2, Gives Try.prog 43 #[.int .i64 9223372036854775807] (.agg (numc sm Dm)) ∧ Gives Try.prog 47 #[.agg (numc (sg x) (dg x.natAbs)), .agg (numc sm Dm)] (.int .i64 c2) ∧ True :=
    ⟨_, _, _, fromInt_any 9223372036854775807 (by omega) (by omega), compare_any x 9223372036854775807 (big_w hx) (big_i (by omega) (by omega)), by first | trivial | (unfold cmpOf; split <;> (try split) <;> omega)⟩
  have e := Lib.hid (show True by trivial)
  generalize sg x = sx at *
  generalize dg x.natAbs = dx at *
  clear hx h
  go_enter Try.func73, Try.ntmps73
  go_wp2_with (first | (refine wpList_store_row rfl 70 _ _ rfl ((grow (w.alloc (.cells #[.int .i64 (hiOf x), .int .u64 (loOf x)] 24)) xf).heap.size) (numc sx dx) rfl rfl 70 (numc false fun _ => 0) (by simp only [grow_heap, alloc_heap_at, alloc_heap_past, setRow_alloc_at, setRow_alloc_past, grow_setRow, size_setRow, World.size_alloc, grow_lt, grow_lt1, grow_lt2, grow_lt3, grow_lt4, grow_lt5, grow_lt6, grow_self1, grow_self2, grow_self3, or_true, ltd2, ltd3, ltd4, ltd5, ltd6, ltd7, Nat.lt_add_one, true_or, if_true, ite_true]) (by rw [numc_size]; exact info30) (by simp only [numc_size]) (numc_one _ _) ?_) | (refine wpList_val rfl _ _ (alloc_num _ _ rfl _ _ rfl) ?_; simp only [World.size_alloc]) | (go_at_call 40; ((with_reducible refine (fr.at_ _).mono ?_); rintro e w' ⟨rfl, xf, rfl⟩)))
  refine wp_region_grow (by kernel_rfl) (by kernel_rfl) ?_
  repeat (first | (refine quiet_num _ rfl rfl ((grow (w.alloc (.cells #[.int .i64 (hiOf x), .int .u64 (loOf x)] 24)) xf).heap.size) rfl sx dx (fun u hu => by obtain ⟨y, rfl⟩ := hu; simp only [grow_heap, alloc_heap_at, alloc_heap_past, setRow_alloc_at, setRow_alloc_past, grow_setRow, size_setRow, World.size_alloc, grow_lt, grow_lt1, grow_lt2, grow_lt3, grow_lt4, grow_lt5, grow_lt6, grow_self1, grow_self2, grow_self3, or_true, ltd2, ltd3, ltd4, ltd5, ltd6, ltd7, Nat.lt_add_one, true_or, if_true, ite_true]) ?_; simp only [Act.put, List.setIfInBounds_toArray, List.set_cons_succ, List.set_cons_zero]) | go_big_quiet_step (((first | with_reducible exact f1.quiet _ | with_reducible exact f1.quiet2 _ _ | with_reducible exact k1.quiet _ | with_reducible exact k1.quiet2 _ _ | with_reducible exact f2.quiet _ | with_reducible exact f2.quiet2 _ _ | with_reducible exact k2.quiet _ | with_reducible exact k2.quiet2 _ _))))
  refine wpQuiet_nil ?_
  rintro _ ⟨xg, rfl⟩
  go_wp2_with fail
  skip
  go_ret2
  exact ⟨rfl, (by repeat (first | exact Below.refl _ _ | refine bel_then ?_ _ | refine bel_grow ?_ _ | refine bel_alloc ?_ _ | refine bel_drew ?_ | refine bel_set ?_ (by simp) _ | refine bel_setRow ?_ (by first | omega | simp; done | exact Nat.le_trans (by simp) (top_le _ _)) _))⟩

set_option maxHeartbeats 1000000 in
theorem rInt_high (x : Int) (hx : InW x) (h : 9223372036854775807 < x) : Gives Try.prog 73 #[.agg #[.int .i64 (hiOf x), .int .u64 (loOf x)]] (.tuple #[.int .i64 0, .bool false]) := by
  refine Gives.mk fun w => ?_
  have fr := from_any x hx
  have lb := lo_bd x
  obtain ⟨sl, Dl, c1, f1, k1, b1⟩ : ∃ sl Dl c1, Gives Try.prog 43 #[.int .i64 (-9223372036854775808)] (.agg (numc sl Dl)) ∧ Gives Try.prog 47 #[.agg (numc (sg x) (dg x.natAbs)), .agg (numc sl Dl)] (.int .i64 c1) ∧ decide (c1 < 0) = false :=
    ⟨_, _, _, fromInt_any (-9223372036854775808) (by omega) (by omega), compare_any x (-9223372036854775808) (big_w hx) (big_i (by omega) (by omega)), by simp only [decide_eq_false_iff_not]; unfold cmpOf; split <;> (try split) <;> omega⟩
  obtain ⟨sm, Dm, c2, f2, k2, b2⟩ : ∃ sm Dm c2, Gives Try.prog 43 #[.int .i64 9223372036854775807] (.agg (numc sm Dm)) ∧ Gives Try.prog 47 #[.agg (numc (sg x) (dg x.natAbs)), .agg (numc sm Dm)] (.int .i64 c2) ∧ decide (0 < c2) = true :=
    ⟨_, _, _, fromInt_any 9223372036854775807 (by omega) (by omega), compare_any x 9223372036854775807 (big_w hx) (big_i (by omega) (by omega)), by simp only [decide_eq_true_eq]; (unfold cmpOf; split <;> (try split) <;> omega)⟩
  have e := Lib.hid (show True by trivial)
  generalize sg x = sx at *
  generalize dg x.natAbs = dx at *
  clear hx h
  go_enter Try.func73, Try.ntmps73
  go_wp2_with (first | (refine wpList_store_row rfl 70 _ _ rfl ((grow (w.alloc (.cells #[.int .i64 (hiOf x), .int .u64 (loOf x)] 24)) xf).heap.size) (numc sx dx) rfl rfl 70 (numc false fun _ => 0) (by simp only [grow_heap, alloc_heap_at, alloc_heap_past, setRow_alloc_at, setRow_alloc_past, grow_setRow, size_setRow, World.size_alloc, grow_lt, grow_lt1, grow_lt2, grow_lt3, grow_lt4, grow_lt5, grow_lt6, grow_self1, grow_self2, grow_self3, or_true, ltd2, ltd3, ltd4, ltd5, ltd6, ltd7, Nat.lt_add_one, true_or, if_true, ite_true]) (by rw [numc_size]; exact info30) (by simp only [numc_size]) (numc_one _ _) ?_) | (refine wpList_val rfl _ _ (alloc_num _ _ rfl _ _ rfl) ?_; simp only [World.size_alloc]) | (go_at_call 40; ((with_reducible refine (fr.at_ _).mono ?_); rintro e w' ⟨rfl, xf, rfl⟩)))
  refine wp_region_grow (by kernel_rfl) (by kernel_rfl) ?_
  repeat (first | (refine quiet_num _ rfl rfl ((grow (w.alloc (.cells #[.int .i64 (hiOf x), .int .u64 (loOf x)] 24)) xf).heap.size) rfl sx dx (fun u hu => by obtain ⟨y, rfl⟩ := hu; simp only [grow_heap, alloc_heap_at, alloc_heap_past, setRow_alloc_at, setRow_alloc_past, grow_setRow, size_setRow, World.size_alloc, grow_lt, grow_lt1, grow_lt2, grow_lt3, grow_lt4, grow_lt5, grow_lt6, grow_self1, grow_self2, grow_self3, or_true, ltd2, ltd3, ltd4, ltd5, ltd6, ltd7, Nat.lt_add_one, true_or, if_true, ite_true]) ?_; simp only [Act.put, List.setIfInBounds_toArray, List.set_cons_succ, List.set_cons_zero]) | go_big_quiet_step (((first | with_reducible exact f1.quiet _ | with_reducible exact f1.quiet2 _ _ | with_reducible exact k1.quiet _ | with_reducible exact k1.quiet2 _ _ | with_reducible exact f2.quiet _ | with_reducible exact f2.quiet2 _ _ | with_reducible exact k2.quiet _ | with_reducible exact k2.quiet2 _ _))))
  refine wpQuiet_nil ?_
  rintro _ ⟨xg, rfl⟩
  go_wp2_with fail
  skip
  go_ret2
  exact ⟨rfl, (by repeat (first | exact Below.refl _ _ | refine bel_then ?_ _ | refine bel_grow ?_ _ | refine bel_alloc ?_ _ | refine bel_drew ?_ | refine bel_set ?_ (by simp) _ | refine bel_setRow ?_ (by first | omega | simp; done | exact Nat.le_trans (by simp) (top_le _ _)) _))⟩

end Go.Proofs.Ytgfgaaecpdbgeaa
