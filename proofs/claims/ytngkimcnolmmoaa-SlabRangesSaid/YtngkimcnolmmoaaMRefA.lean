/- The document's own numbers, as digits: contracts of its calls, part 1. -/
import Derived.Test.YtngkimcnolmmoaaBase
import Derived.Test.YtngkimcnolmmoaaMRegion
import Derived.Test.YtngkimcnolmmoaaMMath
import Derived.Test.YtngkimcnolmmoaaProg
import Derived.Test.YtngkimcnolmmoaaMDig
import Derived.Test.YtngkimcnolmmoaaMWide
import Derived.ChangeKeysEq
import Derived.Deep.MidRow
namespace Go.Proofs.Ytngkimcnolmmoaa
open Go.RowKit
set_option linter.unusedVariables false
set_option linter.unusedSimpArgs false
/-- Eighteen digits in a row. -/
def digs (A : Nat → Int) : Array Value := ((List.range 18).map fun j => Value.int .i64 (A j)).toArray
theorem digs_get (A : Nat → Int) (i : Nat) : (digs A)[i]? = if i < 18 then some (.int .i64 (A i)) else none := by
  unfold digs
  split
  · rename_i h; simp [h]
  · rename_i h; simp; omega
theorem digs_set (A : Nat → Int) (i : Nat) (v : Int) : (digs A).setIfInBounds i (.int .i64 v) = digs (fun j => if j = i then v else A j) := by
  unfold digs
  apply Array.ext_getElem?
  intro k
  simp only [Array.getElem?_setIfInBounds, List.getElem?_toArray, List.getElem?_map, List.size_toArray, List.length_map, List.length_range]
  by_cases hk : k < 18
  · by_cases hi : i = k
    · subst hi; simp [hk]
    · simp [hk, hi, Ne.symm hi]
  · by_cases hi : i = k
    · subst hi; simp [hk]
    · simp [hk, hi]
theorem digs_size (A : Nat → Int) : (digs A).size = 18 := by unfold digs; simp
theorem digs_congr {A B : Nat → Int} (h : ∀ j, j < 18 → A j = B j) : digs A = digs B := by
  unfold digs
  congr 1
  apply List.map_congr_left
  intro j hj
  rw [h j (by simpa using hj)]
theorem digs_one (A : Nat → Int) : (digs A).all (·.oneCell') = true := by unfold digs; simp [Value.oneCell']
theorem digs_zero : digs (fun _ => 0) = #[.int .i64 0, .int .i64 0, .int .i64 0, .int .i64 0, .int .i64 0, .int .i64 0, .int .i64 0, .int .i64 0, .int .i64 0, .int .i64 0, .int .i64 0, .int .i64 0, .int .i64 0, .int .i64 0, .int .i64 0, .int .i64 0, .int .i64 0, .int .i64 0] := rfl
attribute [go_sem] digs_get digs_set digs_size
/-- The highest digit that differs tells. -/
def cmpD (A B : Nat → Int) : Nat → Int
  | 0 => 0
  | k + 1 => if A k < B k then -1 else if B k < A k then 1 else cmpD A B k
set_option maxHeartbeats 1000000 in
theorem cmpDigits_any (A B : Nat → Int) : Gives Try.prog 46 #[.agg (digs A), .agg (digs B)] (.int .i64 (cmpD A B 18)) := by
  refine Gives.mk fun w => ?_
  go_enter Try.func46, Try.ntmps46
  go_wp2_with fail
  go_loopw [5] (fun t wr => ∃ k : Nat, t = .int .i64 ((k : Int) - 1) ∧ k ≤ 18 ∧ cmpD A B 18 = cmpD A B k ∧ ∃ x, wr = grow ((w.alloc (Obj.cells (digs A) 77)).alloc (Obj.cells (digs B) 77)) x) (fun t _ => (intOf t + 1).toNat)
  case atStart => exact ⟨18, rfl, by omega, rfl, grow_of (Below.refl _ _)⟩
  case round =>
    obtain ⟨k, rfl, hk, hc, x, rfl⟩ := hrel
    have hc := Lib.hid hc
    rcases Nat.eq_zero_or_pos k with hz | hz
    · subst hz
      have hc := hc.out
      have hc : Ending.returned (.int .i64 (cmpD A B 18)) = .returned (.int .i64 0) := by rw [hc]; rfl
      go_wp2_with fail
      go_ret
      exact ⟨hc.symm, (by repeat (first | exact Below.refl _ _ | refine bel_grow ?_ _ | refine bel_alloc ?_ _ | refine bel_set ?_ (by simp) _))⟩
    · obtain ⟨q, rfl⟩ : ∃ q, k = q + 1 := ⟨k - 1, by omega⟩
      have e1 : ((q + 1 : Nat) : Int) - 1 = (q : Int) := by omega
      rw [e1]
      clear e1
      rcases Int.lt_trichotomy (A q) (B q) with h | h | h
      · have hv : Ending.returned (.int .i64 (cmpD A B 18)) = .returned (.int .i64 (-1)) := by rw [hc.out, cmpD, if_pos h]
        have hv := Lib.hid hv
        clear hc hz
        go_wp2_with fail
        refine wp_region_grow (by kernel_rfl) (by kernel_rfl) ?_
        repeat (go_big_quiet_step ((fail)))
        refine wpQuiet_nil ?_
        rintro _ ⟨xg, rfl⟩
        go_wp2_with fail
        go_ret
        exact ⟨hv.out.symm, (by repeat (first | exact Below.refl _ _ | refine bel_grow ?_ _ | refine bel_alloc ?_ _ | refine bel_set ?_ (by simp) _))⟩
      · have hn : cmpD A B 18 = cmpD A B q := by rw [hc.out, cmpD, if_neg (by omega), if_neg (by omega)]
        have hn := Lib.hid hn
        have d1 : decide (A q < B q) = false := by simp; omega
        have d2 : decide (B q < A q) = false := by simp; omega
        clear hc hz h
        go_wp2_with fail
        refine wp_region_grow (by kernel_rfl) (by kernel_rfl) ?_
        repeat (go_big_quiet_step ((fail)))
        refine wpQuiet_nil ?_
        rintro _ ⟨xg, rfl⟩
        go_wp2_with fail
        refine wp_region_grow (by kernel_rfl) (by kernel_rfl) ?_
        repeat (go_big_quiet_step ((fail)))
        refine wpQuiet_nil ?_
        rintro _ ⟨xg, rfl⟩
        go_wp2_with fail
        exact ⟨⟨q, rfl, by omega, hn.out, grow_of (by repeat (first | exact Below.refl _ _ | refine bel_grow ?_ _ | refine bel_alloc ?_ _ | refine bel_set ?_ (by simp) _))⟩, by simp [intOf] <;> omega⟩
      · have hv : Ending.returned (.int .i64 (cmpD A B 18)) = .returned (.int .i64 1) := by rw [hc.out, cmpD, if_neg (by omega), if_pos h]
        have hv := Lib.hid hv
        have d1 : decide (A q < B q) = false := by simp; omega
        have d2 : decide (B q < A q) = true := by simp; omega
        clear hc hz h
        go_wp2_with fail
        refine wp_region_grow (by kernel_rfl) (by kernel_rfl) ?_
        repeat (go_big_quiet_step ((fail)))
        refine wpQuiet_nil ?_
        rintro _ ⟨xg, rfl⟩
        go_wp2_with fail
        refine wp_region_grow (by kernel_rfl) (by kernel_rfl) ?_
        repeat (go_big_quiet_step ((fail)))
        refine wpQuiet_nil ?_
        rintro _ ⟨xg, rfl⟩
        go_wp2_with fail
        go_ret
        exact ⟨hv.out.symm, (by repeat (first | exact Below.refl _ _ | refine bel_grow ?_ _ | refine bel_alloc ?_ _ | refine bel_set ?_ (by simp) _))⟩
end Go.Proofs.Ytngkimcnolmmoaa

/- The document's own numbers, as digits: contracts of its calls, part 2: digits of a number. -/
namespace Go.Proofs.Ytngkimcnolmmoaa
open Go.RowKit
set_option linter.unusedVariables false
set_option linter.unusedSimpArgs false
/-- The digits of a number to the base 65536. -/
def dg (N : Nat) (j : Nat) : Int := ((N / 65536 ^ j % 65536 : Nat) : Int)
theorem dg_div (N k : Nat) : dg N k = ((N / 65536 ^ k % 65536 : Nat) : Int) := rfl
def partOf (N k j : Nat) : Int := if j < k then dg N j else 0
theorem info28 : (Try.prog.info? 77).map (·.size) = some 18 := by kernel_rfl
theorem row_ty (t e : TypeId) : (match (TypeDesc.array 18 e) with | .struct _ | .array _ _ => true | _ => false) = true := rfl
theorem alloc_digs (a : Act) (o : Oper) (ho : o.op = .alloc 77) (w : World) (n : Nat) (hn : n = w.heap.size) : (execOp a.eval o).run Try.prog w = .ok (.value (.pointer (some ⟨n, 0, none⟩))) (w.alloc (.cells (digs fun _ => 0) 77)) := by
  subst hn
  unfold execOp
  rw [ho]
  kernel_rfl
theorem build_digs (a : Act) (o : Oper) (ho : o.op = .build 77 #[]) (w : World) : (execOp a.eval o).run Try.prog w = .ok (.value (.agg (digs fun _ => 0))) w := by
  unfold execOp
  rw [ho]
  kernel_rfl
set_option maxRecDepth 100000 in
set_option maxHeartbeats 1000000 in
theorem digits_any (N : Nat) (h1 : N < 18446744073709551616) :
    Gives Try.prog 48 #[.int .u64 N] (.agg (digs (dg N))) := by
  refine Gives.mk fun w => ?_
  have nfin : ∀ j, 4 ≤ j → dg N j = 0 := fun j hj => by
    unfold dg
    have : N / 65536 ^ j = 0 := Nat.div_eq_of_lt (by
      have h2 : 65536 ^ 4 ≤ 65536 ^ j := Nat.pow_le_pow_right (by omega) hj
      omega)
    rw [this]; rfl
  have nfin := Lib.hid nfin
  go_enter Try.func48, Try.ntmps48
  go_wp2_with (first | (refine wpList_val rfl _ _ (alloc_digs _ _ rfl _ w.heap.size rfl) ?_) | (refine wpList_val rfl _ _ (alloc_digs _ _ rfl _ (w.heap.size + 1) (by simp)) ?_) | (refine wpList_val rfl _ _ (build_digs _ _ rfl _) ?_) | (refine wpList_store_row rfl 77 _ _ rfl (w.heap.size + 1) (digs fun _ => 0) rfl rfl 77 (digs fun _ => 0) (heap_alloc2_new _ _ _) (by rw [digs_size]; exact info28) rfl (digs_one _) ?_))
  go_loopw [4, 0] (fun t u wr => ∃ (k : Nat) (A : Nat → Int), t = .int .i64 (k : Int) ∧ u = .int .u64 ((N / 65536 ^ k : Nat) : Int) ∧ k ≤ 4 ∧ Hid (∀ j, A j = partOf N k j) ∧ wr = (w.alloc (Obj.cells (digs fun _ => 0) 77)).alloc (Obj.cells (digs A) 77)) (fun t _ _ => (4 - intOf t).toNat)
  case atStart => exact ⟨0, fun _ => 0, rfl, by simp, by omega, fun j => by simp [partOf], rfl⟩
  case round =>
    obtain ⟨k, A, rfl, rfl, hk, hA, rfl⟩ := hrel
    by_cases hlt : k < 4
    · obtain ⟨m, hm⟩ : ∃ m, N / 65536 ^ k = m := ⟨_, rfl⟩
      have hm1 : m ≤ 18446744073709551615 := by rw [← hm]; have := Nat.div_le_self N (65536 ^ k); omega
      have hd : (m : Int) % 65536 = dg N k := by unfold dg; rw [hm]; omega
      have hnx : m / 65536 = N / 65536 ^ (k + 1) := by rw [← hm, Nat.pow_succ, Nat.div_div_eq_div_mul]
      rw [hm]
      have hm := Lib.hid hm
      have hnx := Lib.hid hnx
      have hb := Nat.mod_lt (N / 65536 ^ k) (by omega : 0 < 65536)
      have hb2 : 0 ≤ dg N k ∧ dg N k ≤ 65535 := by unfold dg; omega
      clear hb
      go_wp2
      go_roundw
      case rel => exact ⟨k + 1, _, by go_num, by rw [← hnx.out]; simp, by omega, (fun j => by
        show (if j = k then dg N k else A j) = _
        rw [hA.out]; unfold partOf
        by_cases hj : j = k
        · subst hj; simp
        · by_cases hj2 : j < k
          · simp [hj, hj2, Nat.lt_succ_of_lt hj2]
          · simp [hj, hj2]; omega), rfl⟩
      case measure => simp [intOf] <;> omega
    · have hk4 : k = 4 := by omega
      subst hk4
      go_wp2_with (first | (refine wpList_load_row rfl 77 _ rfl (w.heap.size + 1) rfl 77 (digs A) (0, 0) _ (heap_alloc2_new _ _ _) Try.underlying77 rfl (by rw [digs_size]; exact info28) ?_) | (refine wpList_store_row rfl 77 _ _ rfl w.heap.size (digs A) rfl rfl 77 (digs fun _ => 0) (heap_alloc2_old _ _ _) (by rw [digs_size]; exact info28) (by rw [digs_size, digs_size]) (digs_one A) ?_))
      have hf : digs A = digs (dg N) := digs_congr fun j hj => by
        rw [hA.out]; unfold partOf
        split
        · rfl
        · rename_i h; exact (nfin.out j (by omega)).symm
      refine bodyPost_ret (results_cell_row rfl _ _ w.heap.size 77 (digs A) (0, 0) _ rfl (by first | exact setRow_heap _ _ _ _ _ _ (heap_alloc2_old _ _ _) | exact heap_alloc2_old _ _ _) Try.underlying77 rfl (by rw [digs_size]; exact info28)) rfl ⟨by rw [hf], ?_⟩
      repeat (first | exact Below.refl _ _ | refine bel_alloc ?_ _ | refine bel_setRow ?_ (by simp) _)
end Go.Proofs.Ytngkimcnolmmoaa

/- The document's own numbers, as digits: contracts of its calls, part 3: a number of 64 bits. -/
namespace Go.Proofs.Ytngkimcnolmmoaa
open Go.RowKit
set_option linter.unusedVariables false
set_option linter.unusedSimpArgs false
/-- A sign and eighteen digits. -/
def numc (s : Bool) (A : Nat → Int) : Array Value := (Value.bool s :: (List.range 18).map fun j => Value.int .i64 (A j)).toArray
theorem numc_get0 (s : Bool) (A : Nat → Int) : (numc s A)[0]? = some (.bool s) := by unfold numc; simp
theorem numc_get (s : Bool) (A : Nat → Int) (i : Nat) : (numc s A)[i + 1]? = if i < 18 then some (.int .i64 (A i)) else none := by
  unfold numc
  split
  · rename_i h; simp [h]
  · rename_i h; simp; omega
theorem numc_set (s : Bool) (A : Nat → Int) (i : Nat) (v : Int) : (numc s A).setIfInBounds (i + 1) (.int .i64 v) = numc s (fun j => if j = i then v else A j) := by
  unfold numc
  apply Array.ext_getElem?
  intro k
  simp only [Array.getElem?_setIfInBounds, List.getElem?_toArray, List.size_toArray, List.length_cons, List.length_map, List.length_range]
  cases k with
  | zero => simp
  | succ k =>
    simp only [List.getElem?_cons_succ, List.getElem?_map]
    by_cases hk : k < 18
    · by_cases hi : i = k
      · subst hi; simp [hk]
      · simp [hk, hi, Ne.symm hi]
    · by_cases hi : i = k
      · subst hi; simp [hk]; omega
      · simp [hk, hi]
theorem numc_set0 (s u : Bool) (A : Nat → Int) : (numc s A).setIfInBounds 0 (.bool u) = numc u A := by
  unfold numc; simp
theorem numc_size (s : Bool) (A : Nat → Int) : (numc s A).size = 19 := by unfold numc; simp
theorem numc_one (s : Bool) (A : Nat → Int) : (numc s A).all (·.oneCell') = true := by unfold numc; simp [Value.oneCell']
theorem numc_congr {s : Bool} {A B : Nat → Int} (h : ∀ j, j < 18 → A j = B j) : numc s A = numc s B := by
  unfold numc
  congr 2
  apply List.map_congr_left
  intro j hj
  rw [h j (by simpa using hj)]
theorem numc_at0 (s : Bool) (A : Nat → Int) (h : 0 < (numc s A).size) : (numc s A)[0]'h = .bool s := (Array.getElem?_eq_some_iff.1 (numc_get0 s A)).2
theorem numc_at (s : Bool) (A : Nat → Int) (i : Nat) (h : i + 1 < (numc s A).size) : (numc s A)[i + 1]'h = .int .i64 (A i) := by
  have hi : i < 18 := by rw [numc_size] at h; omega
  have := numc_get s A i
  rw [if_pos hi] at this
  exact (Array.getElem?_eq_some_iff.1 this).2
theorem digs_at (A : Nat → Int) (i : Nat) (h : i < (digs A).size) : (digs A)[i]'h = .int .i64 (A i) := by
  have hi : i < 18 := by rw [digs_size] at h; exact h
  have := digs_get A i
  rw [if_pos hi] at this
  exact (Array.getElem?_eq_some_iff.1 this).2
theorem numc_get1 (s : Bool) (A : Nat → Int) (i : Nat) : (numc s A)[1 + i]? = if i < 18 then some (.int .i64 (A i)) else none := by rw [Nat.add_comm]; exact numc_get s A i
theorem numc_at1 (s : Bool) (A : Nat → Int) (i : Nat) (h : 1 + i < (numc s A).size) : (numc s A)[1 + i]'h = .int .i64 (A i) := by
  have := numc_get1 s A i
  rw [if_pos (by rw [numc_size] at h; omega)] at this
  exact (Array.getElem?_eq_some_iff.1 this).2
theorem numc_set1 (s : Bool) (A : Nat → Int) (i : Nat) (v : Int) : (numc s A).setIfInBounds (1 + i) (.int .i64 v) = numc s (fun j => if j = i then v else A j) := by rw [Nat.add_comm]; exact numc_set s A i v
attribute [go_sem] numc_get1 numc_at1 numc_set1
attribute [go_sem] numc_at0 numc_at digs_at
attribute [go_sem] numc_get0 numc_get numc_set numc_set0 numc_size
theorem info30 : (Try.prog.info? 79).map (·.size) = some 19 := by kernel_rfl
theorem alloc_num (a : Act) (o : Oper) (ho : o.op = .alloc 79) (w : World) (n : Nat) (hn : n = w.heap.size) :
    (execOp a.eval o).run Try.prog w = .ok (.value (.pointer (some ⟨n, 0, none⟩))) (w.alloc (.cells (numc false fun _ => 0) 79)) := by
  subst hn
  unfold execOp
  rw [ho]
  kernel_rfl
theorem build_num2 (a : Act) (o : Oper) (x y : Operand) (ho : o.op = .build 79 #[(0, y), (1, x)]) (w : World) (s : Bool) (A : Nat → Int) (hy : a.eval y = .bool s) (hx : a.eval x = .agg (digs A)) :
    (execOp a.eval o).run Try.prog w = .ok (.value (.agg (numc s A))) w := by
  unfold execOp
  rw [ho]
  simp only [List.map_toArray, List.map_cons, List.map_nil, hx, hy]
  kernel_rfl
theorem build_num1 (a : Act) (o : Oper) (x : Operand) (ho : o.op = .build 79 #[(1, x)]) (w : World) (A : Nat → Int) (hx : a.eval x = .agg (digs A)) :
    (execOp a.eval o).run Try.prog w = .ok (.value (.agg (numc false A))) w := by
  unfold execOp
  rw [ho]
  simp only [List.map_toArray, List.map_cons, List.map_nil, hx]
  kernel_rfl
theorem build_num0 (a : Act) (o : Oper) (ho : o.op = .build 79 #[]) (w : World) :
    (execOp a.eval o).run Try.prog w = .ok (.value (.agg (numc false fun _ => 0))) w := by
  unfold execOp
  rw [ho]
  kernel_rfl
set_option maxHeartbeats 1000000 in
theorem fromInt_neg (n : Int) (h0 : -9223372036854775808 ≤ n) (h1 : n < 0) :
    Gives Try.prog 43 #[.int .i64 n] (.agg (numc true (dg n.natAbs))) := by
  refine Gives.mk fun w => ?_
  have d := digits_any n.natAbs (by omega)
  rw [show ((n.natAbs : Nat) : Int) = -n from by omega] at d
  have e1 : -(n + 1) + 1 = -n := by omega
  go_enter Try.func43, Try.ntmps43
  go_wp2_with (first | (refine wpList_val rfl _ _ (alloc_num _ _ rfl _ (w.heap.size) rfl) ?_) | (go_at_call 48; first | ((with_reducible refine (d.at_ _).mono ?_); rintro e w' ⟨rfl, xg, rfl⟩)) | (refine wpList_val rfl _ _ (build_num2 _ _ _ _ rfl _ true _ rfl rfl) ?_) | (refine wpList_store_row rfl 79 _ _ rfl (w.heap.size) (numc true (dg n.natAbs)) rfl rfl 79 (numc false fun _ => 0) (by simp only [grow_heap, alloc_heap_at, alloc_heap_past, setRow_alloc_at, setRow_alloc_past, grow_setRow, size_setRow, World.size_alloc, grow_lt, grow_lt1, grow_lt2, grow_lt3, grow_lt4, grow_lt5, grow_lt6, lt_add_one_deep, Nat.lt_add_one, true_or, if_true, ite_true]) (by rw [numc_size]; exact info30) (by rw [numc_size, numc_size]) (numc_one _ _) ?_))
  refine bodyPost_ret (results_cell_row rfl _ _ (w.heap.size) 79 (numc true (dg n.natAbs)) (0, 0) _ rfl (by simp only [grow_heap, alloc_heap_at, alloc_heap_past, setRow_alloc_at, setRow_alloc_past, grow_setRow, size_setRow, World.size_alloc, grow_lt, grow_lt1, grow_lt2, grow_lt3, grow_lt4, grow_lt5, grow_lt6, lt_add_one_deep, Nat.lt_add_one, true_or, if_true, ite_true]) Try.underlying79 rfl (by rw [numc_size]; exact info30)) rfl ⟨rfl, (by repeat (first | exact Below.refl _ _ | refine bel_grow ?_ _ | refine bel_alloc ?_ _ | refine bel_setRow ?_ (by simp) _ | refine bel_set ?_ (by simp) _))⟩
set_option maxHeartbeats 1000000 in
theorem fromInt_pos (n : Int) (h0 : 0 ≤ n) (h1 : n ≤ 9223372036854775807) :
    Gives Try.prog 43 #[.int .i64 n] (.agg (numc false (dg n.natAbs))) := by
  refine Gives.mk fun w => ?_
  have d := digits_any n.natAbs (by omega)
  rw [show ((n.natAbs : Nat) : Int) = n from by omega] at d
  go_enter Try.func43, Try.ntmps43
  go_wp2_with (first | (refine wpList_val rfl _ _ (alloc_num _ _ rfl _ (w.heap.size) rfl) ?_) | (go_at_call 48; first | ((with_reducible refine (d.at_ _).mono ?_); rintro e w' ⟨rfl, xg, rfl⟩)) | (refine wpList_val rfl _ _ (build_num1 _ _ _ rfl _ _ rfl) ?_) | (refine wpList_store_row rfl 79 _ _ rfl (w.heap.size) (numc false (dg n.natAbs)) rfl rfl 79 (numc false fun _ => 0) (by simp only [grow_heap, alloc_heap_at, alloc_heap_past, setRow_alloc_at, setRow_alloc_past, grow_setRow, size_setRow, World.size_alloc, grow_lt, grow_lt1, grow_lt2, grow_lt3, grow_lt4, grow_lt5, grow_lt6, lt_add_one_deep, Nat.lt_add_one, true_or, if_true, ite_true]) (by rw [numc_size]; exact info30) (by rw [numc_size, numc_size]) (numc_one _ _) ?_))
  refine bodyPost_ret (results_cell_row rfl _ _ (w.heap.size) 79 (numc false (dg n.natAbs)) (0, 0) _ rfl (by simp only [grow_heap, alloc_heap_at, alloc_heap_past, setRow_alloc_at, setRow_alloc_past, grow_setRow, size_setRow, World.size_alloc, grow_lt, grow_lt1, grow_lt2, grow_lt3, grow_lt4, grow_lt5, grow_lt6, lt_add_one_deep, Nat.lt_add_one, true_or, if_true, ite_true]) Try.underlying79 rfl (by rw [numc_size]; exact info30)) rfl ⟨rfl, (by repeat (first | exact Below.refl _ _ | refine bel_grow ?_ _ | refine bel_alloc ?_ _ | refine bel_setRow ?_ (by simp) _ | refine bel_set ?_ (by simp) _))⟩
end Go.Proofs.Ytngkimcnolmmoaa

/- The document's own numbers, as digits: contracts of its calls, part 4: digits held against each other, their value, noughts. -/
namespace Go.Proofs.Ytngkimcnolmmoaa
open Go.RowKit
set_option linter.unusedVariables false
set_option linter.unusedSimpArgs false
theorem dg_dN (N j : Nat) : dg N j = ((dN N j : Nat) : Int) := rfl
theorem cmpD_mod (A B : Nat) : ∀ k, cmpD (dg A) (dg B) k = cmpOf ((A % 65536 ^ k : Nat) : Int) ((B % 65536 ^ k : Nat) : Int)
  | 0 => by simp [cmpD, cmpOf, Nat.mod_one]
  | k + 1 => by
    rw [cmpD, cmpD_mod A B k, dg_dN, dg_dN]
    have h1 := mod_cmp A B k
    have h2 := mod_cmp B A k
    have h3 := mod_s A k
    have h4 := mod_s B k
    unfold cmpOf
    by_cases hl : dN A k < dN B k
    · rw [if_pos (by omega), if_pos (by have := h1.2 (.inl hl); omega)]
    · by_cases hg : dN B k < dN A k
      · rw [if_neg (by omega), if_pos (by omega)]
        have := h2.2 (.inl hg)
        rw [if_neg (by omega), if_neg (by omega)]
      · have he : dN A k = dN B k := by omega
        rw [if_neg (by omega), if_neg (by omega)]
        rw [he] at h3
        by_cases h : A % 65536 ^ k < B % 65536 ^ k
        · rw [if_pos (by omega), if_pos (by omega)]
        · by_cases h' : A % 65536 ^ k = B % 65536 ^ k
          · rw [if_neg (by omega), if_pos (by omega), if_neg (by omega), if_pos (by omega)]
          · rw [if_neg (by omega), if_neg (by omega), if_neg (by omega), if_neg (by omega)]
def Big (N : Nat) : Prop := N < 65536 ^ 18
theorem cmpDigits_dg (A B : Nat) (ha : Big A) (hb : Big B) : Gives Try.prog 46 #[.agg (digs (dg A)), .agg (digs (dg B))] (.int .i64 (cmpOf (A : Int) (B : Int))) := by
  have := cmpDigits_any (dg A) (dg B)
  rw [cmpD_mod, Nat.mod_eq_of_lt ha, Nat.mod_eq_of_lt hb] at this
  exact this
theorem value_step (N f k : Nat) (hk : k < 4) : (N / 65536 ^ (f + (k + 1)) % 65536 ^ (4 - (k + 1))) * 65536 + dN N (f + k) = N / 65536 ^ (f + k) % 65536 ^ (4 - k) := by
  rw [show 4 - k = 4 - (k + 1) + 1 by omega, pow_s, Nat.mod_mul, show f + (k + 1) = f + k + 1 by omega, Nat.pow_succ 65536 (f + k), ← Nat.div_div_eq_div_mul]
  unfold dN
  omega

def allZ (A : Nat → Int) : Bool := (List.range 18).all fun j => A j == 0
theorem items (A B : Nat → Int) (w : World) : ∀ is : List Nat, (∀ i ∈ is, i < 18) → (Op.eqItems 9999 3 1 (digs A) (digs B) is).run Try.prog w = .ok (is.all fun i => A i == B i) w
  | [], _ => by simp [Op.eqItems]
  | i :: is, h => by
    have hi : i < 18 := h i (by simp)
    have ih := items A B w is (fun j hj => h j (by simp [hj]))
    have p1 : ∀ C : Nat → Int, (part 3 (digs C) (i * 1)).run Try.prog w = .ok (.int .i64 (C i)) w := fun C => by
      simp [go_sem, part, Try.underlying3, hi]
    rw [Op.eqItems]
    simp only [Sem.run_bind, p1, Result.andThen_ok]
    rw [show (9999 : Nat) = 9998 + 1 from rfl, run_equalIn_int _ _ _ _ _ _ _ Try.underlying3]
    simp only [Result.andThen_ok, List.all_cons]
    cases hb : (A i == B i)
    · simp
    · simpa using ih
theorem eq_digs (A : Nat → Int) (w : World) : (binOp .eql 77 (.agg (digs A)) (.agg (digs fun _ => 0))).run Try.prog w = .ok (.bool (allZ A)) w := by
  obtain ⟨i, hi, _⟩ := Option.map_eq_some_iff.1 (show (Try.prog.info? 3).map (·.size) = some 1 from by kernel_rfl)
  simp only [binOp]
  have h := run_equalIn_array (P := Try.prog) w 9999 (digs A) (digs fun _ => 0) Try.underlying77 hi
  rw [show Try.prog.cellsOf 3 = 1 from by kernel_rfl, items A (fun _ => 0) w (List.range 18) (fun i hi => by simpa using hi)] at h
  simp [Op.equal, Op.maxDepth, h, allZ]
theorem zero_any (A : Nat → Int) : Gives Try.prog 47 #[.agg (digs A)] (.bool (allZ A)) := by
  refine Gives.mk fun w => ?_
  have e := eq_digs A
  obtain ⟨b, hb⟩ : ∃ b, allZ A = b := ⟨_, rfl⟩
  rw [hb] at e ⊢
  clear hb
  go_enter Try.func47, Try.ntmps47
  go_wp2_with (first | (refine wpList_load_row rfl 77 _ rfl (w.heap.size) rfl 77 (digs A) (0, 0) _ (by simp only [grow_heap, alloc_heap_at, alloc_heap_past, setRow_alloc_at, setRow_alloc_past, grow_setRow, size_setRow, World.size_alloc, grow_lt, grow_lt1, grow_lt2, grow_lt3, grow_lt4, grow_lt5, grow_lt6, grow_self1, grow_self2, grow_self3, or_true, ltd2, ltd3, ltd4, ltd5, ltd6, ltd7, Nat.lt_add_one, true_or, if_true, ite_true]) Try.underlying77 rfl (by rw [digs_size]; exact info28) ?_) | (refine wpList_val rfl _ _ (build_digs _ _ rfl _) ?_))
  go_ret
  exact ⟨rfl, (by repeat (first | exact Below.refl _ _ | refine bel_then ?_ _ | refine bel_grow ?_ _ | refine bel_alloc ?_ _ | refine bel_drew ?_ | refine bel_set ?_ (by simp) _ | refine bel_setRow ?_ (by first | omega | simp; done | exact Nat.le_trans (by simp) (top_le _ _)) _))⟩

end Go.Proofs.Ytngkimcnolmmoaa

/- The document's own numbers, as digits: contracts of its calls, part 5: signs, order. -/
namespace Go.Proofs.Ytngkimcnolmmoaa
open Go.RowKit
set_option linter.unusedVariables false
set_option linter.unusedSimpArgs false
/-- Below 0? -/
def sg (x : Int) : Bool := decide (x < 0)
theorem sg_yes {x : Int} (h : x < 0) : sg x = true := by simp [sg, h]
theorem sg_no {x : Int} (h : 0 ≤ x) : sg x = false := by simp [sg]; omega
theorem allZ_dg (N : Nat) (h : Big N) : allZ (dg N) = decide (N = 0) := by
  rw [Bool.eq_iff_iff]
  simp only [allZ, List.all_eq_true, List.mem_range, beq_iff_eq, decide_eq_true_eq]
  constructor
  · intro hz
    have h1 := valD_all N 18 h
    have h2 : valD (dN N) 18 = valD (fun _ => 0) 18 := valD_congr 18 fun j hj => by have := hz j hj; rw [dg_dN] at this; omega
    have h3 : valD (fun _ => 0) 18 = 0 := by decide
    omega
  · rintro rfl j _
    rw [dg_dN]; unfold dN; simp
/-- The digits out of a number's block. -/
theorem load_part {w : World} (g : Nat) (s : Bool) (A : Nat → Int) (h : w.heap[g]? = some (.cells (numc s A) 79 (0, 0))) :
    (Instr.loadAt 77 (.pointer (some ⟨g, 1, none⟩))).run Try.prog w = .ok (.agg (digs A)) w := by
  have hr : w.rangeAt g 1 (digs A).toList := fun j v hv => by
    rw [cell_of_row w g (1 + j) _ _ _ h, Nat.add_comm, numc_get]
    rw [Array.getElem?_toList, digs_get] at hv
    exact hv
  have := run_loadAt_mid (P := Try.prog) w g 1 77 (digs A).toList _ hr Try.underlying77 rfl (by rw [Array.length_toList, digs_size]; exact info28)
  simpa using this
theorem wpList_valw {P : Program} {ops : Array Oper} {rest : List Oper} {o : Oper} {a : Act} {w : World} {Q : Exit → Act → World → Prop} (hw : Region.wanted o (yielded ops a.tmps) = true) (v : Value) (w' : World)
    (hrun : (execOp a.eval o).run P w = .ok (.value v) w') (h : wpList P ops Q rest (a.put o.dst v) w') : wpList P ops Q (o :: rest) a w :=
  BigFrame.wpList_want hw fun _ hK => by
    unfold Oper.wp
    rw [hrun]
    exact hK _ _ h
theorem wpList_part {ops : Array Oper} {rest : List Oper} {op : Oper} {a : Act} {w : World} {Q : Exit → Act → World → Prop} (hgd : Region.wanted op (yielded ops a.tmps) = true) (x : Operand) (ho : op.op = .load 77 x) (g : Nat) (hx : a.eval x = .pointer (some ⟨g, 1, none⟩))
    (s : Bool) (A : Nat → Int) (h : w.heap[g]? = some (.cells (numc s A) 79 (0, 0))) (k : wpList Try.prog ops Q rest (a.put op.dst (.agg (digs A))) w) : wpList Try.prog ops Q (op :: rest) a w :=
  wpList_valw hgd _ _ (by unfold execOp; simp only [ho, hx, Sem.run_bind, load_part g s A h, Result.andThen_ok, Sem.run_pure]) k
/-- In a drawn region: one operation by an equation of its own. -/
theorem quiet_by {P : Program} {ops : Array Oper} {C : World → Prop} {Q : Act → Prop} {o : Oper} {rest : List Oper} {a : Act} (hg : Region.wanted o (yielded ops a.tmps) = true) (v : Value) (h : ∀ u, C u → (execOp a.eval o).run P u = .ok (.value v) u)
    (k : wpQuiet P ops C Q rest (a.put o.dst v)) : wpQuiet P ops C Q (o :: rest) a := by
  unfold wpQuiet
  rw [if_pos hg]
  exact ⟨v, fun u hu => by unfold Oper.quietAt; rw [h u hu]; exact ⟨rfl, rfl⟩, k⟩
theorem quiet_part {ops : Array Oper} {C : World → Prop} {Q : Act → Prop} {o : Oper} {rest : List Oper} {a : Act} (x : Operand) (ho : o.op = .load 77 x) (hg : Region.wanted o (yielded ops a.tmps) = true) (g : Nat) (hx : a.eval x = .pointer (some ⟨g, 1, none⟩))
    (s : Bool) (A : Nat → Int) (h : ∀ u, C u → u.heap[g]? = some (.cells (numc s A) 79 (0, 0))) (k : wpQuiet Try.prog ops C Q rest (a.put o.dst (.agg (digs A)))) : wpQuiet Try.prog ops C Q (o :: rest) a :=
  quiet_by hg _ (fun u hu => by unfold execOp; simp only [ho, hx, Sem.run_bind, load_part g s A (h u hu), Result.andThen_ok, Sem.run_pure]) k

set_option maxHeartbeats 1000000 in
theorem cmp_lt (x y : Int) (hx : x < 0) (hy : 0 ≤ y) :
    Gives Try.prog 41 #[.agg (numc (sg x) (dg x.natAbs)), .agg (numc (sg y) (dg y.natAbs))] (.int .i64 (-1)) := by
  refine Gives.mk fun w => ?_
  rw [sg_yes hx, sg_no hy]
  clear hx hy
  go_enter Try.func41, Try.ntmps41
  go_wp2
  go_ret
  exact ⟨rfl, (by repeat (first | exact Below.refl _ _ | refine bel_then ?_ _ | refine bel_grow ?_ _ | refine bel_alloc ?_ _ | refine bel_drew ?_ | refine bel_set ?_ (by simp) _ | refine bel_setRow ?_ (by first | omega | simp) _))⟩

set_option maxHeartbeats 1000000 in
theorem cmp_gt (x y : Int) (hx : 0 ≤ x) (hy : y < 0) :
    Gives Try.prog 41 #[.agg (numc (sg x) (dg x.natAbs)), .agg (numc (sg y) (dg y.natAbs))] (.int .i64 1) := by
  refine Gives.mk fun w => ?_
  rw [sg_no hx, sg_yes hy]
  clear hx hy
  go_enter Try.func41, Try.ntmps41
  go_wp2
  go_ret
  exact ⟨rfl, (by repeat (first | exact Below.refl _ _ | refine bel_then ?_ _ | refine bel_grow ?_ _ | refine bel_alloc ?_ _ | refine bel_drew ?_ | refine bel_set ?_ (by simp) _ | refine bel_setRow ?_ (by first | omega | simp) _))⟩

set_option maxHeartbeats 1000000 in
theorem cmp_pos (x y : Int) (hx : 0 ≤ x) (hy : 0 ≤ y) (bx : Big x.natAbs) (by_ : Big y.natAbs) :
    Gives Try.prog 41 #[.agg (numc (sg x) (dg x.natAbs)), .agg (numc (sg y) (dg y.natAbs))] (.int .i64 (cmpOf x y)) := by
  refine Gives.mk fun w => ?_
  rw [sg_no hx, sg_no hy]
  have k := cmpDigits_dg x.natAbs y.natAbs bx by_
  obtain ⟨c, hc⟩ : ∃ c, cmpOf ((x.natAbs : Nat) : Int) ((y.natAbs : Nat) : Int) = c := ⟨_, rfl⟩
  have hb : -1 ≤ c ∧ c ≤ 1 := by rw [← hc]; unfold cmpOf; split <;> (try split) <;> omega
  have fin : c = cmpOf x y := by
    rw [← hc]; unfold cmpOf
    rcases Int.lt_trichotomy x y with h | h | h
    · rw [if_pos (by omega), if_pos h]
    · rw [if_neg (by omega), if_pos (by omega), if_neg (by omega), if_pos h]
    · rw [if_neg (by omega), if_neg (by omega), if_neg (by omega), if_neg (by omega)]
  rw [hc] at k
  rw [← fin]
  clear hx hy bx by_ hc fin
  go_enter Try.func41, Try.ntmps41
  go_wp2_with (first | (refine wpList_part rfl _ rfl (w.heap.size) rfl (false) (dg x.natAbs) (by simp only [grow_heap, alloc_heap_at, alloc_heap_past, setRow_alloc_at, setRow_alloc_past, grow_setRow, size_setRow, World.size_alloc, grow_lt, grow_lt1, grow_lt2, grow_lt3, grow_lt4, grow_lt5, grow_lt6, grow_self1, grow_self2, grow_self3, or_true, ltd2, ltd3, ltd4, ltd5, ltd6, ltd7, Nat.lt_add_one, true_or, if_true, ite_true]) ?_) | (refine wpList_part rfl _ rfl (w.heap.size + 1) rfl (false) (dg y.natAbs) (by simp only [grow_heap, alloc_heap_at, alloc_heap_past, setRow_alloc_at, setRow_alloc_past, grow_setRow, size_setRow, World.size_alloc, grow_lt, grow_lt1, grow_lt2, grow_lt3, grow_lt4, grow_lt5, grow_lt6, grow_self1, grow_self2, grow_self3, or_true, ltd2, ltd3, ltd4, ltd5, ltd6, ltd7, Nat.lt_add_one, true_or, if_true, ite_true]) ?_) | (go_at_call 46; first | ((with_reducible refine (k.at_ _).mono ?_); rintro e w' ⟨rfl, xg, rfl⟩)))
  go_ret
  exact ⟨rfl, (by repeat (first | exact Below.refl _ _ | refine bel_then ?_ _ | refine bel_grow ?_ _ | refine bel_alloc ?_ _ | refine bel_drew ?_ | refine bel_set ?_ (by simp) _ | refine bel_setRow ?_ (by first | omega | simp) _))⟩

set_option maxHeartbeats 1000000 in
theorem cmp_neg (x y : Int) (hx : x < 0) (hy : y < 0) (bx : Big x.natAbs) (by_ : Big y.natAbs) :
    Gives Try.prog 41 #[.agg (numc (sg x) (dg x.natAbs)), .agg (numc (sg y) (dg y.natAbs))] (.int .i64 (cmpOf x y)) := by
  refine Gives.mk fun w => ?_
  rw [sg_yes hx, sg_yes hy]
  have k := cmpDigits_dg x.natAbs y.natAbs bx by_
  obtain ⟨c, hc⟩ : ∃ c, cmpOf ((x.natAbs : Nat) : Int) ((y.natAbs : Nat) : Int) = c := ⟨_, rfl⟩
  have hb : -1 ≤ c ∧ c ≤ 1 := by rw [← hc]; unfold cmpOf; split <;> (try split) <;> omega
  have fin : -c = cmpOf x y := by
    rw [← hc]; unfold cmpOf
    rcases Int.lt_trichotomy x y with h | h | h
    · rw [if_neg (by omega), if_neg (by omega), if_pos h]; try omega
    · rw [if_neg (by omega), if_pos (by omega), if_neg (by omega), if_pos h]; try rfl
    · rw [if_pos (by omega), if_neg (by omega), if_neg (by omega)]; omega
  rw [hc] at k
  rw [← fin]
  clear hx hy bx by_ hc fin
  go_enter Try.func41, Try.ntmps41
  go_wp2_with (first | (refine wpList_part rfl _ rfl (w.heap.size) rfl (true) (dg x.natAbs) (by simp only [grow_heap, alloc_heap_at, alloc_heap_past, setRow_alloc_at, setRow_alloc_past, grow_setRow, size_setRow, World.size_alloc, grow_lt, grow_lt1, grow_lt2, grow_lt3, grow_lt4, grow_lt5, grow_lt6, grow_self1, grow_self2, grow_self3, or_true, ltd2, ltd3, ltd4, ltd5, ltd6, ltd7, Nat.lt_add_one, true_or, if_true, ite_true]) ?_) | (refine wpList_part rfl _ rfl (w.heap.size + 1) rfl (true) (dg y.natAbs) (by simp only [grow_heap, alloc_heap_at, alloc_heap_past, setRow_alloc_at, setRow_alloc_past, grow_setRow, size_setRow, World.size_alloc, grow_lt, grow_lt1, grow_lt2, grow_lt3, grow_lt4, grow_lt5, grow_lt6, grow_self1, grow_self2, grow_self3, or_true, ltd2, ltd3, ltd4, ltd5, ltd6, ltd7, Nat.lt_add_one, true_or, if_true, ite_true]) ?_) | (go_at_call 46; first | ((with_reducible refine (k.at_ _).mono ?_); rintro e w' ⟨rfl, xg, rfl⟩)))
  go_ret
  exact ⟨rfl, (by repeat (first | exact Below.refl _ _ | refine bel_then ?_ _ | refine bel_grow ?_ _ | refine bel_alloc ?_ _ | refine bel_drew ?_ | refine bel_set ?_ (by simp) _ | refine bel_setRow ?_ (by first | omega | simp) _))⟩

theorem compare_any (x y : Int) (bx : Big x.natAbs) (by_ : Big y.natAbs) :
    Gives Try.prog 41 #[.agg (numc (sg x) (dg x.natAbs)), .agg (numc (sg y) (dg y.natAbs))] (.int .i64 (cmpOf x y)) := by
  by_cases hx : x < 0 <;> by_cases hy : y < 0
  · exact cmp_neg x y hx hy bx by_
  · rw [show cmpOf x y = -1 by unfold cmpOf; rw [if_pos (by omega)]]; exact cmp_lt x y hx (by omega)
  · rw [show cmpOf x y = 1 by unfold cmpOf; rw [if_neg (by omega), if_neg (by omega)]]; exact cmp_gt x y (by omega) hy
  · exact cmp_pos x y (by omega) (by omega) bx by_

end Go.Proofs.Ytngkimcnolmmoaa

/- The document's own numbers, as digits: contracts of its calls, part 6: the other sign; to and from wide numbers. -/
namespace Go.Proofs.Ytngkimcnolmmoaa
open Go.RowKit
set_option linter.unusedVariables false
set_option linter.unusedSimpArgs false
theorem split_dN (H L : Nat) (hl : L < 18446744073709551616) (j : Nat) : dN (H * 18446744073709551616 + L) j = if j < 4 then dN L j else dN H (j - 4) := by
  have e : (18446744073709551616 : Nat) = 65536 ^ 4 := by decide
  unfold dN
  rw [e] at hl ⊢
  split
  · rename_i h
    rw [show H * 65536 ^ 4 = 65536 ^ j * (65536 * (65536 ^ (3 - j) * H)) by
      rw [Nat.mul_comm, ← Nat.mul_assoc, ← Nat.mul_assoc, ← Nat.pow_succ, ← Nat.pow_add, show j + 1 + (3 - j) = 4 by omega], Nat.add_comm, Nat.add_mul_div_left _ _ (pow_pos j), Nat.add_mul_mod_self_left]
  · rename_i h
    rw [show 65536 ^ j = 65536 ^ 4 * 65536 ^ (j - 4) by rw [← Nat.pow_add]; congr 1; omega, ← Nat.div_div_eq_div_mul]
    congr 2
    rw [Nat.add_comm, Nat.add_mul_div_right _ _ (pow_pos 4), Nat.div_eq_of_lt hl, Nat.zero_add]

end Go.Proofs.Ytngkimcnolmmoaa

/- The document's own numbers, as digits: contracts of its calls, part 7: to wide numbers. -/
namespace Go.Proofs.Ytngkimcnolmmoaa
open Go.RowKit
set_option linter.unusedVariables false
set_option linter.unusedSimpArgs false
theorem most_eq : digs (fun j => if j = 7 then 32768 else 0) = digs (dg 170141183460469231731687303715884105728) := digs_congr fun j hj => by
  match j, hj with
  | 0, _ => decide
  | 1, _ => decide
  | 2, _ => decide
  | 3, _ => decide
  | 4, _ => decide
  | 5, _ => decide
  | 6, _ => decide
  | 7, _ => decide
  | 8, _ => decide
  | 9, _ => decide
  | 10, _ => decide
  | 11, _ => decide
  | 12, _ => decide
  | 13, _ => decide
  | 14, _ => decide
  | 15, _ => decide
  | 16, _ => decide
  | 17, _ => decide
  | _ + 18, h => exact absurd h (by omega)
theorem big_most : Big 170141183460469231731687303715884105728 := by unfold Big; decide
theorem cmp_most (N : Nat) (h : Big N) : Gives Try.prog 46 #[.agg (digs (dg N)), .agg (digs fun j => if j = 7 then 32768 else 0)] (.int .i64 (cmpOf (N : Int) 170141183460469231731687303715884105728)) := by
  rw [most_eq]; exact cmpDigits_dg N 170141183460469231731687303715884105728 h big_most
theorem val_parts (N : Nat) : N / 65536 ^ 0 % 18446744073709551616 = N % 18446744073709551616 ∧ N / 65536 ^ 4 % 18446744073709551616 = N / 18446744073709551616 % 18446744073709551616 := by
  constructor
  · simp
  · rw [show (65536 : Nat) ^ 4 = 18446744073709551616 by decide]

theorem u64_max_xor (x : Int) (h0 : 0 ≤ x) (h1 : x ≤ 18446744073709551615) : bits .xor .u64 IntKind.u64.max x = 18446744073709551615 - x := by
  have h : BitVec.ofInt 64 18446744073709551615 = BitVec.allOnes 64 := by decide
  have hm : IntKind.u64.max = 18446744073709551615 := by decide
  rw [hm]
  show IntKind.u64.wrap ((BitVec.ofInt 64 18446744073709551615 ^^^ BitVec.ofInt 64 x).toNat : Int) = _
  rw [h, BitVec.allOnes_xor, BitVec.toNat_not, BitVec.toNat_ofInt, IntKind.wrap_u64]
  omega

end Go.Proofs.Ytngkimcnolmmoaa
