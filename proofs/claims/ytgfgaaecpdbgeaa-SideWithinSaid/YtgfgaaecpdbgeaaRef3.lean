/- The document's own numbers, as digits: contracts of its calls, part 3: a number of 64 bits. -/
import Derived.Test.YtgfgaaecpdbgeaaRef2
namespace Go.Proofs.Ytgfgaaecpdbgeaa
open Go.RowKit
set_option linter.unusedVariables false
set_option linter.unusedSimpArgs false
/-- A sign and eighteen digits. -/
def numc (s : Bool) (A : Nat → Int) : Array Value := (Value.bool s :: (List.range 18).map fun j => Value.int .i64 (A j)).toArray
theorem numc_get0 (s : Bool) (A : Nat → Int) : (numc s A)[0]? = some (.bool s) := by unfold numc; simp
theorem numc_get (s : Bool) (A : Nat → Int) (i : Nat) : (numc s A)[i + 1]? = if i < 18 then some (.int .i64 (A i)) else none := by
  unfold numc
  split
  · rename_i h; simp [h]
  · rename_i h; simp; omega
theorem numc_set (s : Bool) (A : Nat → Int) (i : Nat) (v : Int) : (numc s A).setIfInBounds (i + 1) (.int .i64 v) = numc s (fun j => if j = i then v else A j) := by
  unfold numc
  apply Array.ext_getElem?
  intro k
  simp only [Array.getElem?_setIfInBounds, List.getElem?_toArray, List.size_toArray, List.length_cons, List.length_map, List.length_range]
  cases k with
  | zero => simp
  | succ k =>
    simp only [List.getElem?_cons_succ, List.getElem?_map]
    by_cases hk : k < 18
    · by_cases hi : i = k
      · subst hi; simp [hk]
      · simp [hk, hi, Ne.symm hi]
    · by_cases hi : i = k
      · subst hi; simp [hk]; omega
      · simp [hk, hi]
theorem numc_set0 (s u : Bool) (A : Nat → Int) : (numc s A).setIfInBounds 0 (.bool u) = numc u A := by
  unfold numc; simp
theorem numc_size (s : Bool) (A : Nat → Int) : (numc s A).size = 19 := by unfold numc; simp
theorem numc_one (s : Bool) (A : Nat → Int) : (numc s A).all (·.oneCell') = true := by unfold numc; simp [Value.oneCell']
theorem numc_congr {s : Bool} {A B : Nat → Int} (h : ∀ j, j < 18 → A j = B j) : numc s A = numc s B := by
  unfold numc
  congr 2
  apply List.map_congr_left
  intro j hj
  rw [h j (by simpa using hj)]
theorem numc_at0 (s : Bool) (A : Nat → Int) (h : 0 < (numc s A).size) : (numc s A)[0]'h = .bool s := (Array.getElem?_eq_some_iff.1 (numc_get0 s A)).2
theorem numc_at (s : Bool) (A : Nat → Int) (i : Nat) (h : i + 1 < (numc s A).size) : (numc s A)[i + 1]'h = .int .i64 (A i) := by
  have hi : i < 18 := by rw [numc_size] at h; omega
  have := numc_get s A i
  rw [if_pos hi] at this
  exact (Array.getElem?_eq_some_iff.1 this).2
theorem digs_at (A : Nat → Int) (i : Nat) (h : i < (digs A).size) : (digs A)[i]'h = .int .i64 (A i) := by
  have hi : i < 18 := by rw [digs_size] at h; exact h
  have := digs_get A i
  rw [if_pos hi] at this
  exact (Array.getElem?_eq_some_iff.1 this).2
theorem numc_get1 (s : Bool) (A : Nat → Int) (i : Nat) : (numc s A)[1 + i]? = if i < 18 then some (.int .i64 (A i)) else none := by rw [Nat.add_comm]; exact numc_get s A i
theorem numc_at1 (s : Bool) (A : Nat → Int) (i : Nat) (h : 1 + i < (numc s A).size) : (numc s A)[1 + i]'h = .int .i64 (A i) := by
  have := numc_get1 s A i
  rw [if_pos (by rw [numc_size] at h; omega)] at this
  exact (Array.getElem?_eq_some_iff.1 this).2
theorem numc_set1 (s : Bool) (A : Nat → Int) (i : Nat) (v : Int) : (numc s A).setIfInBounds (1 + i) (.int .i64 v) = numc s (fun j => if j = i then v else A j) := by rw [Nat.add_comm]; exact numc_set s A i v
attribute [go_sem] numc_get1 numc_at1 numc_set1
attribute [go_sem] numc_at0 numc_at digs_at
attribute [go_sem] numc_get0 numc_get numc_set numc_set0 numc_size
theorem info30 : (Try.prog.info? 70).map (·.size) = some 19 := by kernel_rfl
theorem alloc_num (a : Act) (o : Oper) (ho : o.op = .alloc 70) (w : World) (n : Nat) (hn : n = w.heap.size) :
    (execOp a.eval o).run Try.prog w = .ok (.value (.pointer (some ⟨n, 0, none⟩))) (w.alloc (.cells (numc false fun _ => 0) 70)) := by
  subst hn
  unfold execOp
  rw [ho]
  kernel_rfl
theorem build_num2 (a : Act) (o : Oper) (x y : Operand) (ho : o.op = .build 70 #[(0, y), (1, x)]) (w : World) (s : Bool) (A : Nat → Int) (hy : a.eval y = .bool s) (hx : a.eval x = .agg (digs A)) :
    (execOp a.eval o).run Try.prog w = .ok (.value (.agg (numc s A))) w := by
  unfold execOp
  rw [ho]
  simp only [List.map_toArray, List.map_cons, List.map_nil, hx, hy]
  kernel_rfl
theorem build_num1 (a : Act) (o : Oper) (x : Operand) (ho : o.op = .build 70 #[(1, x)]) (w : World) (A : Nat → Int) (hx : a.eval x = .agg (digs A)) :
    (execOp a.eval o).run Try.prog w = .ok (.value (.agg (numc false A))) w := by
  unfold execOp
  rw [ho]
  simp only [List.map_toArray, List.map_cons, List.map_nil, hx]
  kernel_rfl
theorem build_num0 (a : Act) (o : Oper) (ho : o.op = .build 70 #[]) (w : World) :
    (execOp a.eval o).run Try.prog w = .ok (.value (.agg (numc false fun _ => 0))) w := by
  unfold execOp
  rw [ho]
  kernel_rfl
set_option maxHeartbeats 1000000 in
theorem fromInt_neg (n : Int) (h0 : -9223372036854775808 ≤ n) (h1 : n < 0) :
    Gives Try.prog 43 #[.int .i64 n] (.agg (numc true (dg n.natAbs))) := by
  refine Gives.mk fun w => ?_
  have d := digits_any n.natAbs (by omega)
  rw [show ((n.natAbs : Nat) : Int) = -n from by omega] at d
  have e1 : -(n + 1) + 1 = -n := by omega
  go_enter Try.func43, Try.ntmps43
  go_wp2_with (first | (refine wpList_val rfl _ _ (alloc_num _ _ rfl _ (w.heap.size) rfl) ?_) | (go_at_call 63; first | ((with_reducible refine (d.at_ _).mono ?_); rintro e w' ⟨rfl, xg, rfl⟩)) | (refine wpList_val rfl _ _ (build_num2 _ _ _ _ rfl _ true _ rfl rfl) ?_) | (refine wpList_store_row rfl 70 _ _ rfl (w.heap.size) (numc true (dg n.natAbs)) rfl rfl 70 (numc false fun _ => 0) (by simp only [grow_heap, alloc_heap_at, alloc_heap_past, setRow_alloc_at, setRow_alloc_past, grow_setRow, size_setRow, World.size_alloc, grow_lt, grow_lt1, grow_lt2, grow_lt3, grow_lt4, grow_lt5, grow_lt6, lt_add_one_deep, Nat.lt_add_one, true_or, if_true, ite_true]) (by rw [numc_size]; exact info30) (by rw [numc_size, numc_size]) (numc_one _ _) ?_))
  refine bodyPost_ret (results_cell_row rfl _ _ (w.heap.size) 70 (numc true (dg n.natAbs)) (0, 0) _ rfl (by simp only [grow_heap, alloc_heap_at, alloc_heap_past, setRow_alloc_at, setRow_alloc_past, grow_setRow, size_setRow, World.size_alloc, grow_lt, grow_lt1, grow_lt2, grow_lt3, grow_lt4, grow_lt5, grow_lt6, lt_add_one_deep, Nat.lt_add_one, true_or, if_true, ite_true]) Try.underlying70 rfl (by rw [numc_size]; exact info30)) rfl ⟨rfl, (by repeat (first | exact Below.refl _ _ | refine bel_grow ?_ _ | refine bel_alloc ?_ _ | refine bel_setRow ?_ (by simp) _ | refine bel_set ?_ (by simp) _))⟩
set_option maxHeartbeats 1000000 in
theorem fromInt_pos (n : Int) (h0 : 0 ≤ n) (h1 : n ≤ 9223372036854775807) :
    Gives Try.prog 43 #[.int .i64 n] (.agg (numc false (dg n.natAbs))) := by
  refine Gives.mk fun w => ?_
  have d := digits_any n.natAbs (by omega)
  rw [show ((n.natAbs : Nat) : Int) = n from by omega] at d
  go_enter Try.func43, Try.ntmps43
  go_wp2_with (first | (refine wpList_val rfl _ _ (alloc_num _ _ rfl _ (w.heap.size) rfl) ?_) | (go_at_call 63; first | ((with_reducible refine (d.at_ _).mono ?_); rintro e w' ⟨rfl, xg, rfl⟩)) | (refine wpList_val rfl _ _ (build_num1 _ _ _ rfl _ _ rfl) ?_) | (refine wpList_store_row rfl 70 _ _ rfl (w.heap.size) (numc false (dg n.natAbs)) rfl rfl 70 (numc false fun _ => 0) (by simp only [grow_heap, alloc_heap_at, alloc_heap_past, setRow_alloc_at, setRow_alloc_past, grow_setRow, size_setRow, World.size_alloc, grow_lt, grow_lt1, grow_lt2, grow_lt3, grow_lt4, grow_lt5, grow_lt6, lt_add_one_deep, Nat.lt_add_one, true_or, if_true, ite_true]) (by rw [numc_size]; exact info30) (by rw [numc_size, numc_size]) (numc_one _ _) ?_))
  refine bodyPost_ret (results_cell_row rfl _ _ (w.heap.size) 70 (numc false (dg n.natAbs)) (0, 0) _ rfl (by simp only [grow_heap, alloc_heap_at, alloc_heap_past, setRow_alloc_at, setRow_alloc_past, grow_setRow, size_setRow, World.size_alloc, grow_lt, grow_lt1, grow_lt2, grow_lt3, grow_lt4, grow_lt5, grow_lt6, lt_add_one_deep, Nat.lt_add_one, true_or, if_true, ite_true]) Try.underlying70 rfl (by rw [numc_size]; exact info30)) rfl ⟨rfl, (by repeat (first | exact Below.refl _ _ | refine bel_grow ?_ _ | refine bel_alloc ?_ _ | refine bel_setRow ?_ (by simp) _ | refine bel_set ?_ (by simp) _))⟩
end Go.Proofs.Ytgfgaaecpdbgeaa
