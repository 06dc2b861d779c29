/- The laws of patch: a patch read out of a row; four points compared. -/
import Derived.DeepKeys
import Derived.Test.YtgmifpicilfcdabPatW
namespace Go.Proofs.Ytgmifpicilfcdab
open Go.RowKit
set_option linter.unusedVariables false
set_option linter.unusedSimpArgs false
set_option linter.unnecessarySimpa false
set_option maxRecDepth 100000
theorem rng_patch {W : World} {g n : Nat} {q : Nat → PtD} {t : TypeId} (h : Blk W g t (patC n q)) {v : Nat} (hv : v < n) : W.rangeAt g (v * 65) (q v).row.toList := fun j u hu => by
  have hj : j < 65 := by have := (List.getElem?_eq_some_iff.1 hu).1; rw [Array.length_toList, PtD.row_size] at this; exact this
  rw [cell_patch h hv hj, ← (q v).at_ hj]
  simpa using hu
theorem load_PtAt {ops : Array Oper} {rest : List Oper} {op : Oper} {a : Act} {w : World} {Q : Exit → Act → World → Prop} (hgd : op.guard = none) (x : Operand) (ho : op.op = .load 48 x) (g n v : Nat) (hv : v < n) (q : Nat → PtD) (hx : a.eval x = .pointer (some ⟨g, v * 65, none⟩)) (t : TypeId) (h : Blk w g t (patC n q))
    (k : wpList Try.prog ops Q rest (a.put op.dst (.agg (q v).row)) w) : wpList Try.prog ops Q (op :: rest) a w := by
  refine wpList_load_mid hgd 48 x ho g (v * 65) hx (q v).row.toList _ (rng_patch h hv) Try.underlying48 rfl (by rw [Array.length_toList, PtD.row_size]; exact infoPt1) ?_
  rw [Array.toArray_toList]
  exact k
theorem alloc_P4 (a : Act) (o : Oper) (ho : o.op = .alloc 46) (w : World) : (execOp a.eval o).run Try.prog w = .ok (.value (.pointer (some ⟨w.heap.size, 0, none⟩))) (w.alloc (.cells (rowCs 3 4 (pC fun _ => Z3)) 46)) := by
  unfold execOp
  rw [ho]
  kernel_rfl
theorem load_run_Pt (a : Act) (o : Oper) (x : Operand) (ho : o.op = .load 48 x) (w : World) (b : Nat) (hx : a.eval x = .pointer (some ⟨b, 0, none⟩)) (p : PtD) (h : Blk w b 48 p.row) : (execOp a.eval o).run Try.prog w = .ok (.value (.agg p.row)) w := by
  have := run_loadAt_mid (P := Try.prog) w b 0 48 p.row.toList _ (rng_blkN h) Try.underlying48 rfl (by rw [Array.length_toList, p.row_size]; exact infoPt1)
  unfold execOp
  simp only [ho, hx, Sem.run_bind, this, Result.andThen_ok, Sem.run_pure, Array.toArray_toList]
theorem patK_at {W : World} {g : Nat} {t : TypeId} {p : PtD} (h : Blk W g t p.row) {k : Nat} (hk : k < 4) : W.cell? ⟨g, 48 + k, none⟩ = some (.int .i64 (p.co.getD k 0)) := by
  rw [h.cell, p.at_ (by omega)]
  unfold PtD.c
  rw [if_neg (by omega), if_pos (by omega), show 48 + k - 48 = k by omega]
theorem patM_at {W : World} {g : Nat} {t : TypeId} {p : PtD} (h : Blk W g t p.row) {k : Nat} (hk : k < 4) : W.cell? ⟨g, 52 + k * 3, none⟩ = some (.int .i64 (p.nm k).x) ∧ W.cell? ⟨g, 52 + k * 3 + 1, none⟩ = some (.int .i64 (p.nm k).y) ∧ W.cell? ⟨g, 52 + k * 3 + 2, none⟩ = some (.int .i64 (p.nm k).z) := by
  rw [h.cell, h.cell, h.cell, p.at_ (by omega), p.at_ (by omega), p.at_ (by omega)]
  unfold PtD.c pC
  refine ⟨?_, ?_, ?_⟩
  · rw [if_neg (by omega), if_neg (by omega), if_pos (by omega), if_pos (by omega), show (52 + k * 3 - 52) / 3 = k by omega]
  · rw [if_neg (by omega), if_neg (by omega), if_pos (by omega), if_neg (by omega), if_pos (by omega), show (52 + k * 3 + 1 - 52) / 3 = k by omega]
  · rw [if_neg (by omega), if_neg (by omega), if_pos (by omega), if_neg (by omega), if_neg (by omega), show (52 + k * 3 + 2 - 52) / 3 = k by omega]
theorem rC4 (q : Nat → P3) : rowCs 3 4 (pC q) = #[.int .i64 (q 0).x, .int .i64 (q 0).y, .int .i64 (q 0).z, .int .i64 (q 1).x, .int .i64 (q 1).y, .int .i64 (q 1).z, .int .i64 (q 2).x, .int .i64 (q 2).y, .int .i64 (q 2).z, .int .i64 (q 3).x, .int .i64 (q 3).y, .int .i64 (q 3).z] := by kernel_rfl
def litsR (q : Nat → P3) : List Lit := [.int .i64 (q 0).x, .int .i64 (q 0).y, .int .i64 (q 0).z, .int .i64 (q 1).x, .int .i64 (q 1).y, .int .i64 (q 1).z, .int .i64 (q 2).x, .int .i64 (q 2).y, .int .i64 (q 2).z, .int .i64 (q 3).x, .int .i64 (q 3).y, .int .i64 (q 3).z]
theorem formR (q : Nat → P3) : (Value.agg #[.int .i64 (q 0).x, .int .i64 (q 0).y, .int .i64 (q 0).z, .int .i64 (q 1).x, .int .i64 (q 1).y, .int .i64 (q 1).z, .int .i64 (q 2).x, .int .i64 (q 2).y, .int .i64 (q 2).z, .int .i64 (q 3).x, .int .i64 (q 3).y, .int .i64 (q 3).z]).formed Try.prog 46 = true := rfl
theorem wfR {a : Int} (h : i64B a) : (Lit.int .i64 a).wf = true := by
  unfold i64B at h
  show (decide (IntKind.i64.min ≤ a) && decide (a ≤ IntKind.i64.max)) = true
  rw [show IntKind.i64.min = -9223372036854775808 by rfl, show IntKind.i64.max = 9223372036854775807 by rfl]
  simp only [Bool.and_eq_true, decide_eq_true_eq]
  exact h
theorem cellsVR : Try.prog.cellsOf 43 = 3 := by kernel_rfl
theorem cellsAR : Try.prog.cellsOf 46 = 12 := by kernel_rfl
theorem litR1 (n : Nat) {a : Int} (h : i64B a) : Try.prog.keyLits (n + 1) 3 [.int .i64 a] = some [.int .i64 a] := by
  unfold Program.keyLits
  rw [Try.underlying3]
  simp [wfR h]
theorem litR3 (n : Nat) {q : P3} (h : I3 q) : Try.prog.keyLits (n + 2) 43 [.int .i64 q.x, .int .i64 q.y, .int .i64 q.z] = some [.int .i64 q.x, .int .i64 q.y, .int .i64 q.z] := by
  unfold Program.keyLits
  rw [Try.underlying43]
  have c1 := litR1 n h.1
  have c2 := litR1 n h.2.1
  have c3 := litR1 n h.2.2
  have ci : Try.prog.cellsOf 3 = 1 := by kernel_rfl
  simp [cellsVR, ci, c1, c2, c3]
theorem litsR_of (q : Nat → P3) (hq : ∀ k, k < 4 → I3 (q k)) : Try.prog.keyLits 12 46 (Value.agg #[.int .i64 (q 0).x, .int .i64 (q 0).y, .int .i64 (q 0).z, .int .i64 (q 1).x, .int .i64 (q 1).y, .int .i64 (q 1).z, .int .i64 (q 2).x, .int .i64 (q 2).y, .int .i64 (q 2).z, .int .i64 (q 3).x, .int .i64 (q 3).y, .int .i64 (q 3).z]).cells.toList = some (litsR q) := by
  have c0 := litR3 9 (hq 0 (by omega))
  have c1 := litR3 9 (hq 1 (by omega))
  have c2 := litR3 9 (hq 2 (by omega))
  have c3 := litR3 9 (hq 3 (by omega))
  unfold Program.keyLits
  rw [Try.underlying46]
  simp [cellsAR, cellsVR, List.range_succ, Value.cells, c0, c1, c2, c3, litsR]
theorem neq4 (q : Nat → P3) (hq : ∀ k, k < 4 → I3 (q k)) (w : World) : (binOp .neq 46 (.agg #[.int .i64 (q 0).x, .int .i64 (q 0).y, .int .i64 (q 0).z, .int .i64 (q 1).x, .int .i64 (q 1).y, .int .i64 (q 1).z, .int .i64 (q 2).x, .int .i64 (q 2).y, .int .i64 (q 2).z, .int .i64 (q 3).x, .int .i64 (q 3).y, .int .i64 (q 3).z]) (.agg #[.int .i64 (q 0).x, .int .i64 (q 0).y, .int .i64 (q 0).z, .int .i64 (q 1).x, .int .i64 (q 1).y, .int .i64 (q 1).z, .int .i64 (q 2).x, .int .i64 (q 2).y, .int .i64 (q 2).z, .int .i64 (q 3).x, .int .i64 (q 3).y, .int .i64 (q 3).z])).run Try.prog w = .ok (.bool false) w := by
  obtain ⟨r, hr, hi⟩ := run_equalIn_deep (P := Try.prog) 9990 10 46 (by kernel_rfl) w 12 12 _ _ _ _ (formR q) (formR q) (litsR_of q hq) (litsR_of q hq)
  rw [hi.2 rfl] at hr
  rw [run_neq_struct, hr]
  rfl
theorem quiet_neq4 {ops : Array Oper} {C : World → Prop} {Q : Act → Prop} {o : Oper} {rest : List Oper} {a : Act} (x y : Operand) (ho : o.op = .binOp .neq 46 x y 46) (hg : Region.wanted o (yielded ops a.tmps) = true) (q : Nat → P3) (hx : a.eval x = .agg #[.int .i64 (q 0).x, .int .i64 (q 0).y, .int .i64 (q 0).z, .int .i64 (q 1).x, .int .i64 (q 1).y, .int .i64 (q 1).z, .int .i64 (q 2).x, .int .i64 (q 2).y, .int .i64 (q 2).z, .int .i64 (q 3).x, .int .i64 (q 3).y, .int .i64 (q 3).z]) (hy : a.eval y = .agg #[.int .i64 (q 0).x, .int .i64 (q 0).y, .int .i64 (q 0).z, .int .i64 (q 1).x, .int .i64 (q 1).y, .int .i64 (q 1).z, .int .i64 (q 2).x, .int .i64 (q 2).y, .int .i64 (q 2).z, .int .i64 (q 3).x, .int .i64 (q 3).y, .int .i64 (q 3).z]) (hq : ∀ k, k < 4 → I3 (q k))
    (K : wpQuiet Try.prog ops C Q rest (a.put o.dst (.bool false))) : wpQuiet Try.prog ops C Q (o :: rest) a :=
  quiet_by3 hg _ (fun u _ => by
    have := neq4 q hq u
    have hg := run_eqGuard_agg (P := Try.prog) (w := u) .neq 46 x y #[.int .i64 (q 0).x, .int .i64 (q 0).y, .int .i64 (q 0).z, .int .i64 (q 1).x, .int .i64 (q 1).y, .int .i64 (q 1).z, .int .i64 (q 2).x, .int .i64 (q 2).y, .int .i64 (q 2).z, .int .i64 (q 3).x, .int .i64 (q 3).y, .int .i64 (q 3).z] #[.int .i64 (q 0).x, .int .i64 (q 0).y, .int .i64 (q 0).z, .int .i64 (q 1).x, .int .i64 (q 1).y, .int .i64 (q 1).z, .int .i64 (q 2).x, .int .i64 (q 2).y, .int .i64 (q 2).z, .int .i64 (q 3).x, .int .i64 (q 3).y, .int .i64 (q 3).z] (by kernel_rfl)
    unfold execOp
    simp only [ho, hx, hy, Sem.run_bind, hg, this, Result.andThen_ok, Sem.run_pure]) K
end Go.Proofs.Ytgmifpicilfcdab
