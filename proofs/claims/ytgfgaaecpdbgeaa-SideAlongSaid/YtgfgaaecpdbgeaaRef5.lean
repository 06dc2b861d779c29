/- The document's own numbers, as digits: contracts of its calls, part 5: signs, order. -/
import Derived.Test.YtgfgaaecpdbgeaaRef4
import Derived.Deep.MidRow
import Derived.Test.YtgfgaaecpdbgeaaRegion
namespace Go.Proofs.Ytgfgaaecpdbgeaa
open Go.RowKit
set_option linter.unusedVariables false
set_option linter.unusedSimpArgs false
/-- Below 0? -/
def sg (x : Int) : Bool := decide (x < 0)
theorem sg_yes {x : Int} (h : x < 0) : sg x = true := by simp [sg, h]
theorem sg_no {x : Int} (h : 0 ≤ x) : sg x = false := by simp [sg]; omega
theorem allZ_dg (N : Nat) (h : Big N) : allZ (dg N) = decide (N = 0) := by
  rw [Bool.eq_iff_iff]
  simp only [allZ, List.all_eq_true, List.mem_range, beq_iff_eq, decide_eq_true_eq]
  constructor
  · intro hz
    have h1 := valD_all N 18 h
    have h2 : valD (dN N) 18 = valD (fun _ => 0) 18 := valD_congr 18 fun j hj => by have := hz j hj; rw [dg_dN] at this; omega
    have h3 : valD (fun _ => 0) 18 = 0 := by decide
    omega
  · rintro rfl j _
    rw [dg_dN]; unfold dN; simp
/-- The digits out of a number's block. -/
theorem load_part {w : World} (g : Nat) (s : Bool) (A : Nat → Int) (h : w.heap[g]? = some (.cells (numc s A) 70 (0, 0))) :
    (Instr.loadAt 68 (.pointer (some ⟨g, 1, none⟩))).run Try.prog w = .ok (.agg (digs A)) w := by
  have hr : w.rangeAt g 1 (digs A).toList := fun j v hv => by
    rw [cell_of_row w g (1 + j) _ _ _ h, Nat.add_comm, numc_get]
    rw [Array.getElem?_toList, digs_get] at hv
    exact hv
  have := run_loadAt_mid (P := Try.prog) w g 1 68 (digs A).toList _ hr Try.underlying68 rfl (by rw [Array.length_toList, digs_size]; exact info28)
  simpa using this
theorem wpList_valw {P : Program} {ops : Array Oper} {rest : List Oper} {o : Oper} {a : Act} {w : World} {Q : Exit → Act → World → Prop} (hw : Region.wanted o (yielded ops a.tmps) = true) (v : Value) (w' : World)
    (hrun : (execOp a.eval o).run P w = .ok (.value v) w') (h : wpList P ops Q rest (a.put o.dst v) w') : wpList P ops Q (o :: rest) a w :=
  BigFrame.wpList_want hw fun _ hK => by
    unfold Oper.wp
    rw [hrun]
    exact hK _ _ h
theorem wpList_part {ops : Array Oper} {rest : List Oper} {op : Oper} {a : Act} {w : World} {Q : Exit → Act → World → Prop} (hgd : Region.wanted op (yielded ops a.tmps) = true) (x : Operand) (ho : op.op = .load 68 x) (g : Nat) (hx : a.eval x = .pointer (some ⟨g, 1, none⟩))
    (s : Bool) (A : Nat → Int) (h : w.heap[g]? = some (.cells (numc s A) 70 (0, 0))) (k : wpList Try.prog ops Q rest (a.put op.dst (.agg (digs A))) w) : wpList Try.prog ops Q (op :: rest) a w :=
  wpList_valw hgd _ _ (by unfold execOp; simp only [ho, hx, Sem.run_bind, load_part g s A h, Result.andThen_ok, Sem.run_pure]) k
/-- In a drawn region: one operation by an equation of its own. -/
theorem quiet_by {P : Program} {ops : Array Oper} {C : World → Prop} {Q : Act → Prop} {o : Oper} {rest : List Oper} {a : Act} (hg : Region.wanted o (yielded ops a.tmps) = true) (v : Value) (h : ∀ u, C u → (execOp a.eval o).run P u = .ok (.value v) u)
    (k : wpQuiet P ops C Q rest (a.put o.dst v)) : wpQuiet P ops C Q (o :: rest) a := by
  unfold wpQuiet
  rw [if_pos hg]
  exact ⟨v, fun u hu => by unfold Oper.quietAt; rw [h u hu]; exact ⟨rfl, rfl⟩, k⟩
theorem quiet_part {ops : Array Oper} {C : World → Prop} {Q : Act → Prop} {o : Oper} {rest : List Oper} {a : Act} (x : Operand) (ho : o.op = .load 68 x) (hg : Region.wanted o (yielded ops a.tmps) = true) (g : Nat) (hx : a.eval x = .pointer (some ⟨g, 1, none⟩))
    (s : Bool) (A : Nat → Int) (h : ∀ u, C u → u.heap[g]? = some (.cells (numc s A) 70 (0, 0))) (k : wpQuiet Try.prog ops C Q rest (a.put o.dst (.agg (digs A)))) : wpQuiet Try.prog ops C Q (o :: rest) a :=
  quiet_by hg _ (fun u hu => by unfold execOp; simp only [ho, hx, Sem.run_bind, load_part g s A (h u hu), Result.andThen_ok, Sem.run_pure]) k

set_option maxHeartbeats 1000000 in
theorem cmp_lt (x y : Int) (hx : x < 0) (hy : 0 ≤ y) :
    Gives Try.prog 47 #[.agg (numc (sg x) (dg x.natAbs)), .agg (numc (sg y) (dg y.natAbs))] (.int .i64 (-1)) := by
  refine Gives.mk fun w => ?_
  rw [sg_yes hx, sg_no hy]
  clear hx hy
  go_enter Try.func47, Try.ntmps47
  go_wp2
  go_ret
  exact ⟨rfl, (by repeat (first | exact Below.refl _ _ | refine bel_then ?_ _ | refine bel_grow ?_ _ | refine bel_alloc ?_ _ | refine bel_drew ?_ | refine bel_set ?_ (by simp) _ | refine bel_setRow ?_ (by first | omega | simp) _))⟩

set_option maxHeartbeats 1000000 in
theorem cmp_gt (x y : Int) (hx : 0 ≤ x) (hy : y < 0) :
    Gives Try.prog 47 #[.agg (numc (sg x) (dg x.natAbs)), .agg (numc (sg y) (dg y.natAbs))] (.int .i64 1) := by
  refine Gives.mk fun w => ?_
  rw [sg_no hx, sg_yes hy]
  clear hx hy
  go_enter Try.func47, Try.ntmps47
  go_wp2
  go_ret
  exact ⟨rfl, (by repeat (first | exact Below.refl _ _ | refine bel_then ?_ _ | refine bel_grow ?_ _ | refine bel_alloc ?_ _ | refine bel_drew ?_ | refine bel_set ?_ (by simp) _ | refine bel_setRow ?_ (by first | omega | simp) _))⟩

set_option maxHeartbeats 1000000 in
theorem cmp_pos (x y : Int) (hx : 0 ≤ x) (hy : 0 ≤ y) (bx : Big x.natAbs) (by_ : Big y.natAbs) :
    Gives Try.prog 47 #[.agg (numc (sg x) (dg x.natAbs)), .agg (numc (sg y) (dg y.natAbs))] (.int .i64 (cmpOf x y)) := by
  refine Gives.mk fun w => ?_
  rw [sg_no hx, sg_no hy]
  have k := cmpDigits_dg x.natAbs y.natAbs bx by_
  obtain ⟨c, hc⟩ : ∃ c, cmpOf ((x.natAbs : Nat) : Int) ((y.natAbs : Nat) : Int) = c := ⟨_, rfl⟩
  have hb : -1 ≤ c ∧ c ≤ 1 := by rw [← hc]; unfold cmpOf; split <;> (try split) <;> omega
  have fin : c = cmpOf x y := by
    rw [← hc]; unfold cmpOf
    rcases Int.lt_trichotomy x y with h | h | h
    · rw [if_pos (by omega), if_pos h]
    · rw [if_neg (by omega), if_pos (by omega), if_neg (by omega), if_pos h]
    · rw [if_neg (by omega), if_neg (by omega), if_neg (by omega), if_neg (by omega)]
  rw [hc] at k
  rw [← fin]
  clear hx hy bx by_ hc fin
  go_enter Try.func47, Try.ntmps47
  go_wp2_with (first | (refine wpList_part rfl _ rfl (w.heap.size) rfl (false) (dg x.natAbs) (by simp only [grow_heap, alloc_heap_at, alloc_heap_past, setRow_alloc_at, setRow_alloc_past, grow_setRow, size_setRow, World.size_alloc, grow_lt, grow_lt1, grow_lt2, grow_lt3, grow_lt4, grow_lt5, grow_lt6, grow_self1, grow_self2, grow_self3, or_true, ltd2, ltd3, ltd4, ltd5, ltd6, ltd7, Nat.lt_add_one, true_or, if_true, ite_true]) ?_) | (refine wpList_part rfl _ rfl (w.heap.size + 1) rfl (false) (dg y.natAbs) (by simp only [grow_heap, alloc_heap_at, alloc_heap_past, setRow_alloc_at, setRow_alloc_past, grow_setRow, size_setRow, World.size_alloc, grow_lt, grow_lt1, grow_lt2, grow_lt3, grow_lt4, grow_lt5, grow_lt6, grow_self1, grow_self2, grow_self3, or_true, ltd2, ltd3, ltd4, ltd5, ltd6, ltd7, Nat.lt_add_one, true_or, if_true, ite_true]) ?_) | (go_at_call 64; first | ((with_reducible refine (k.at_ _).mono ?_); rintro e w' ⟨rfl, xg, rfl⟩)))
  go_ret
  exact ⟨rfl, (by repeat (first | exact Below.refl _ _ | refine bel_then ?_ _ | refine bel_grow ?_ _ | refine bel_alloc ?_ _ | refine bel_drew ?_ | refine bel_set ?_ (by simp) _ | refine bel_setRow ?_ (by first | omega | simp) _))⟩

set_option maxHeartbeats 1000000 in
theorem cmp_neg (x y : Int) (hx : x < 0) (hy : y < 0) (bx : Big x.natAbs) (by_ : Big y.natAbs) :
    Gives Try.prog 47 #[.agg (numc (sg x) (dg x.natAbs)), .agg (numc (sg y) (dg y.natAbs))] (.int .i64 (cmpOf x y)) := by
  refine Gives.mk fun w => ?_
  rw [sg_yes hx, sg_yes hy]
  have k := cmpDigits_dg x.natAbs y.natAbs bx by_
  obtain ⟨c, hc⟩ : ∃ c, cmpOf ((x.natAbs : Nat) : Int) ((y.natAbs : Nat) : Int) = c := ⟨_, rfl⟩
  have hb : -1 ≤ c ∧ c ≤ 1 := by rw [← hc]; unfold cmpOf; split <;> (try split) <;> omega
  have fin : -c = cmpOf x y := by
    rw [← hc]; unfold cmpOf
    rcases Int.lt_trichotomy x y with h | h | h
    · rw [if_neg (by omega), if_neg (by omega), if_pos h]; try omega
    · rw [if_neg (by omega), if_pos (by omega), if_neg (by omega), if_pos h]; try rfl
    · rw [if_pos (by omega), if_neg (by omega), if_neg (by omega)]; omega
  rw [hc] at k
  rw [← fin]
  clear hx hy bx by_ hc fin
  go_enter Try.func47, Try.ntmps47
  go_wp2_with (first | (refine wpList_part rfl _ rfl (w.heap.size) rfl (true) (dg x.natAbs) (by simp only [grow_heap, alloc_heap_at, alloc_heap_past, setRow_alloc_at, setRow_alloc_past, grow_setRow, size_setRow, World.size_alloc, grow_lt, grow_lt1, grow_lt2, grow_lt3, grow_lt4, grow_lt5, grow_lt6, grow_self1, grow_self2, grow_self3, or_true, ltd2, ltd3, ltd4, ltd5, ltd6, ltd7, Nat.lt_add_one, true_or, if_true, ite_true]) ?_) | (refine wpList_part rfl _ rfl (w.heap.size + 1) rfl (true) (dg y.natAbs) (by simp only [grow_heap, alloc_heap_at, alloc_heap_past, setRow_alloc_at, setRow_alloc_past, grow_setRow, size_setRow, World.size_alloc, grow_lt, grow_lt1, grow_lt2, grow_lt3, grow_lt4, grow_lt5, grow_lt6, grow_self1, grow_self2, grow_self3, or_true, ltd2, ltd3, ltd4, ltd5, ltd6, ltd7, Nat.lt_add_one, true_or, if_true, ite_true]) ?_) | (go_at_call 64; first | ((with_reducible refine (k.at_ _).mono ?_); rintro e w' ⟨rfl, xg, rfl⟩)))
  go_ret
  exact ⟨rfl, (by repeat (first | exact Below.refl _ _ | refine bel_then ?_ _ | refine bel_grow ?_ _ | refine bel_alloc ?_ _ | refine bel_drew ?_ | refine bel_set ?_ (by simp) _ | refine bel_setRow ?_ (by first | omega | simp) _))⟩

theorem compare_any (x y : Int) (bx : Big x.natAbs) (by_ : Big y.natAbs) :
    Gives Try.prog 47 #[.agg (numc (sg x) (dg x.natAbs)), .agg (numc (sg y) (dg y.natAbs))] (.int .i64 (cmpOf x y)) := by
  by_cases hx : x < 0 <;> by_cases hy : y < 0
  · exact cmp_neg x y hx hy bx by_
  · rw [show cmpOf x y = -1 by unfold cmpOf; rw [if_pos (by omega)]]; exact cmp_lt x y hx (by omega)
  · rw [show cmpOf x y = 1 by unfold cmpOf; rw [if_neg (by omega), if_neg (by omega)]]; exact cmp_gt x y (by omega) hy
  · exact cmp_pos x y (by omega) (by omega) bx by_

end Go.Proofs.Ytgfgaaecpdbgeaa
