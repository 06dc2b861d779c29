/- An array of sixteen points, read as a whole. -/
import Derived.Deep.MidRow
import Derived.DeepKeys
import Derived.Test.YtiaikceoodeboabC4
namespace Go.Proofs.Ytiaikceoodeboab
open Go.RowKit
set_option linter.unusedVariables false
set_option linter.unusedSimpArgs false
set_option linter.unnecessarySimpa false
theorem rng_pts {W : World} {b n : Nat} {t : TypeId} {p : Nat → P3} (h : Blk W b t (ptsC n p)) : W.rangeAt b 0 (ptsC n p).toList := by
  intro j v hv
  rw [h.cell, Nat.zero_add]
  simpa using hv
theorem size16 (p : Nat → P3) : (Try.prog.info? 24).map (·.size) = some (ptsC 16 p).toList.length := by
  rw [Array.length_toList, ptsC_size]; kernel_rfl
theorem load16 {ops : Array Oper} {rest : List Oper} {op : Oper} {a : Act} {w : World} {Q : Exit → Act → World → Prop} (hgd : op.guard = none) (x : Operand) (ho : op.op = .load 24 x) (b : Nat) (hx : a.eval x = .pointer (some ⟨b, 0, none⟩)) (p : Nat → P3) (h : Blk w b 24 (ptsC 16 p))
    (k : wpList Try.prog ops Q rest (a.put op.dst (.agg (ptsC 16 p))) w) : wpList Try.prog ops Q (op :: rest) a w := by
  refine wpList_load_mid hgd 24 x ho b 0 hx (ptsC 16 p).toList _ (rng_pts h) Try.underlying24 rfl (size16 p) ?_
  rw [Array.toArray_toList]
  exact k
theorem quiet_by2 {P : Program} {ops : Array Oper} {C : World → Prop} {Q : Act → Prop} {o : Oper} {rest : List Oper} {a : Act} (hg : Region.wanted o (yielded ops a.tmps) = true) (v : Value) (h : ∀ u, C u → (execOp a.eval o).run P u = .ok (.value v) u)
    (k : wpQuiet P ops C Q rest (a.put o.dst v)) : wpQuiet P ops C Q (o :: rest) a := by
  unfold wpQuiet
  rw [if_pos hg]
  exact ⟨v, fun u hu => by unfold Oper.quietAt; rw [h u hu]; exact ⟨rfl, rfl⟩, k⟩
theorem quiet_load16 {ops : Array Oper} {C : World → Prop} {Q : Act → Prop} {o : Oper} {rest : List Oper} {a : Act} (x : Operand) (ho : o.op = .load 24 x) (hg : Region.wanted o (yielded ops a.tmps) = true) (b : Nat) (hx : a.eval x = .pointer (some ⟨b, 0, none⟩)) (p : Nat → P3)
    (h : ∀ u, C u → Blk u b 24 (ptsC 16 p)) (K : wpQuiet Try.prog ops C Q rest (a.put o.dst (.agg (ptsC 16 p)))) : wpQuiet Try.prog ops C Q (o :: rest) a :=
  quiet_by2 hg _ (fun u hu => by
    have := run_loadAt_mid (P := Try.prog) u b 0 24 (ptsC 16 p).toList _ (rng_pts (h u hu)) Try.underlying24 rfl (size16 p)
    unfold execOp
    simp only [ho, hx, Sem.run_bind, this, Result.andThen_ok, Sem.run_pure, Array.toArray_toList]) K
def lits4 (q : Nat → P3) : List Lit := [.int .i64 (q 0).x, .int .i64 (q 0).y, .int .i64 (q 0).z, .int .i64 (q 1).x, .int .i64 (q 1).y, .int .i64 (q 1).z, .int .i64 (q 2).x, .int .i64 (q 2).y, .int .i64 (q 2).z, .int .i64 (q 3).x, .int .i64 (q 3).y, .int .i64 (q 3).z]
theorem form4 (q : Nat → P3) : (Value.agg (ptsC 4 q)).formed Try.prog 26 = true := by rw [ptsC4]; rfl
theorem wf_of {a : Int} (h : In64 a) : (Lit.int .i64 a).wf = true := by
  unfold In64 at h
  show (decide (IntKind.i64.min ≤ a) && decide (a ≤ IntKind.i64.max)) = true
  rw [show IntKind.i64.min = -9223372036854775808 by rfl, show IntKind.i64.max = 9223372036854775807 by rfl]
  simp only [Bool.and_eq_true, decide_eq_true_eq]
  exact h
theorem cellsV3 : Try.prog.cellsOf 23 = 3 := by kernel_rfl
theorem lit1 (n : Nat) {a : Int} (h : In64 a) : Try.prog.keyLits (n + 1) 3 [.int .i64 a] = some [.int .i64 a] := by
  unfold Program.keyLits
  rw [Try.underlying3]
  simp [wf_of h]
theorem lit3 (n : Nat) {q : P3} (h : In3 q) : Try.prog.keyLits (n + 2) 23 [.int .i64 q.x, .int .i64 q.y, .int .i64 q.z] = some [.int .i64 q.x, .int .i64 q.y, .int .i64 q.z] := by
  unfold Program.keyLits
  rw [Try.underlying23]
  have c1 := lit1 n h.1
  have c2 := lit1 n h.2.1
  have c3 := lit1 n h.2.2
  have ci : Try.prog.cellsOf 3 = 1 := by kernel_rfl
  simp [cellsV3, ci, c1, c2, c3]
theorem lits4_of (q : Nat → P3) (hq : ∀ k, k < 4 → In3 (q k)) : Try.prog.keyLits 12 26 (Value.agg (ptsC 4 q)).cells.toList = some (lits4 q) := by
  rw [ptsC4]
  have c0 := lit3 9 (hq 0 (by omega))
  have c1 := lit3 9 (hq 1 (by omega))
  have c2 := lit3 9 (hq 2 (by omega))
  have c3 := lit3 9 (hq 3 (by omega))
  unfold Program.keyLits
  rw [Try.underlying26]
  simp [cellsA4, cellsV3, List.range_succ, Value.cells, c0, c1, c2, c3, lits4]
theorem eq4 (q : Nat → P3) (hq : ∀ k, k < 4 → In3 (q k)) (w : World) : (binOp .eql 26 (.agg (ptsC 4 q)) (.agg (ptsC 4 q))).run Try.prog w = .ok (.bool true) w := by
  obtain ⟨r, hr, hi⟩ := run_equalIn_deep (P := Try.prog) 9990 10 26 (by kernel_rfl) w 12 12 _ _ _ _ (form4 q) (form4 q) (lits4_of q hq) (lits4_of q hq)
  rw [hi.2 rfl] at hr
  rw [run_eql_struct, hr]
  rfl
theorem quiet_eq4 {ops : Array Oper} {C : World → Prop} {Q : Act → Prop} {o : Oper} {rest : List Oper} {a : Act} (x y : Operand) (ho : o.op = .binOp .eql 26 x y 26) (hg : Region.wanted o (yielded ops a.tmps) = true) (q : Nat → P3) (hx : a.eval x = .agg (ptsC 4 q)) (hy : a.eval y = .agg (ptsC 4 q)) (hq : ∀ k, k < 4 → In3 (q k))
    (K : wpQuiet Try.prog ops C Q rest (a.put o.dst (.bool true))) : wpQuiet Try.prog ops C Q (o :: rest) a :=
  quiet_by2 hg _ (fun u _ => by
    have := eq4 q hq u
    have hg := run_eqGuard_agg (P := Try.prog) (w := u) .eql 26 x y (ptsC 4 q) (ptsC 4 q) (by kernel_rfl)
    unfold execOp
    simp only [ho, hx, hy, Sem.run_bind, hg, this, Result.andThen_ok, Sem.run_pure]) K
end Go.Proofs.Ytiaikceoodeboab
