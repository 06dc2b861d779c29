/- The laws of patch: two patches compared. -/
import Derived.Test.YtpdnaceggpdleabPatX
import Derived.Test.YtpdnaceggpdleabPatY
namespace Go.Proofs.Ytpdnaceggpdleab
open Go.RowKit
set_option linter.unusedVariables false
set_option linter.unusedSimpArgs false
set_option linter.unnecessarySimpa false
set_option maxRecDepth 100000
theorem rPt (p : PtD) : p.row = #[.int .i64 (p.pt 0).x, .int .i64 (p.pt 0).y, .int .i64 (p.pt 0).z, .int .i64 (p.pt 1).x, .int .i64 (p.pt 1).y, .int .i64 (p.pt 1).z, .int .i64 (p.pt 2).x, .int .i64 (p.pt 2).y, .int .i64 (p.pt 2).z, .int .i64 (p.pt 3).x, .int .i64 (p.pt 3).y, .int .i64 (p.pt 3).z, .int .i64 (p.pt 4).x, .int .i64 (p.pt 4).y, .int .i64 (p.pt 4).z, .int .i64 (p.pt 5).x, .int .i64 (p.pt 5).y, .int .i64 (p.pt 5).z, .int .i64 (p.pt 6).x, .int .i64 (p.pt 6).y, .int .i64 (p.pt 6).z, .int .i64 (p.pt 7).x, .int .i64 (p.pt 7).y, .int .i64 (p.pt 7).z, .int .i64 (p.pt 8).x, .int .i64 (p.pt 8).y, .int .i64 (p.pt 8).z, .int .i64 (p.pt 9).x, .int .i64 (p.pt 9).y, .int .i64 (p.pt 9).z, .int .i64 (p.pt 10).x, .int .i64 (p.pt 10).y, .int .i64 (p.pt 10).z, .int .i64 (p.pt 11).x, .int .i64 (p.pt 11).y, .int .i64 (p.pt 11).z, .int .i64 (p.pt 12).x, .int .i64 (p.pt 12).y, .int .i64 (p.pt 12).z, .int .i64 (p.pt 13).x, .int .i64 (p.pt 13).y, .int .i64 (p.pt 13).z, .int .i64 (p.pt 14).x, .int .i64 (p.pt 14).y, .int .i64 (p.pt 14).z, .int .i64 (p.pt 15).x, .int .i64 (p.pt 15).y, .int .i64 (p.pt 15).z, .int .i64 (p.co.getD 0 0), .int .i64 (p.co.getD 1 0), .int .i64 (p.co.getD 2 0), .int .i64 (p.co.getD 3 0), .int .i64 (p.nm 0).x, .int .i64 (p.nm 0).y, .int .i64 (p.nm 0).z, .int .i64 (p.nm 1).x, .int .i64 (p.nm 1).y, .int .i64 (p.nm 1).z, .int .i64 (p.nm 2).x, .int .i64 (p.nm 2).y, .int .i64 (p.nm 2).z, .int .i64 (p.nm 3).x, .int .i64 (p.nm 3).y, .int .i64 (p.nm 3).z, .int .i64 p.sk] := by kernel_rfl
theorem formPt (p : PtD) : (Value.agg #[.int .i64 (p.pt 0).x, .int .i64 (p.pt 0).y, .int .i64 (p.pt 0).z, .int .i64 (p.pt 1).x, .int .i64 (p.pt 1).y, .int .i64 (p.pt 1).z, .int .i64 (p.pt 2).x, .int .i64 (p.pt 2).y, .int .i64 (p.pt 2).z, .int .i64 (p.pt 3).x, .int .i64 (p.pt 3).y, .int .i64 (p.pt 3).z, .int .i64 (p.pt 4).x, .int .i64 (p.pt 4).y, .int .i64 (p.pt 4).z, .int .i64 (p.pt 5).x, .int .i64 (p.pt 5).y, .int .i64 (p.pt 5).z, .int .i64 (p.pt 6).x, .int .i64 (p.pt 6).y, .int .i64 (p.pt 6).z, .int .i64 (p.pt 7).x, .int .i64 (p.pt 7).y, .int .i64 (p.pt 7).z, .int .i64 (p.pt 8).x, .int .i64 (p.pt 8).y, .int .i64 (p.pt 8).z, .int .i64 (p.pt 9).x, .int .i64 (p.pt 9).y, .int .i64 (p.pt 9).z, .int .i64 (p.pt 10).x, .int .i64 (p.pt 10).y, .int .i64 (p.pt 10).z, .int .i64 (p.pt 11).x, .int .i64 (p.pt 11).y, .int .i64 (p.pt 11).z, .int .i64 (p.pt 12).x, .int .i64 (p.pt 12).y, .int .i64 (p.pt 12).z, .int .i64 (p.pt 13).x, .int .i64 (p.pt 13).y, .int .i64 (p.pt 13).z, .int .i64 (p.pt 14).x, .int .i64 (p.pt 14).y, .int .i64 (p.pt 14).z, .int .i64 (p.pt 15).x, .int .i64 (p.pt 15).y, .int .i64 (p.pt 15).z, .int .i64 (p.co.getD 0 0), .int .i64 (p.co.getD 1 0), .int .i64 (p.co.getD 2 0), .int .i64 (p.co.getD 3 0), .int .i64 (p.nm 0).x, .int .i64 (p.nm 0).y, .int .i64 (p.nm 0).z, .int .i64 (p.nm 1).x, .int .i64 (p.nm 1).y, .int .i64 (p.nm 1).z, .int .i64 (p.nm 2).x, .int .i64 (p.nm 2).y, .int .i64 (p.nm 2).z, .int .i64 (p.nm 3).x, .int .i64 (p.nm 3).y, .int .i64 (p.nm 3).z, .int .i64 p.sk]).formed Try.prog 43 = true := rfl
theorem cellsA16R : Try.prog.cellsOf 40 = 48 := by kernel_rfl
theorem cellsI4R : Try.prog.cellsOf 36 = 4 := by kernel_rfl
theorem cellsIR : Try.prog.cellsOf 3 = 1 := by kernel_rfl
theorem cellsPtR : Try.prog.cellsOf 43 = 65 := by kernel_rfl
theorem lits16 (n : Nat) (q : Nat → P3) (hq : ∀ k, k < 16 → I3 (q k)) : Try.prog.keyLits (n + 3) 40 [.int .i64 (q 0).x, .int .i64 (q 0).y, .int .i64 (q 0).z, .int .i64 (q 1).x, .int .i64 (q 1).y, .int .i64 (q 1).z, .int .i64 (q 2).x, .int .i64 (q 2).y, .int .i64 (q 2).z, .int .i64 (q 3).x, .int .i64 (q 3).y, .int .i64 (q 3).z, .int .i64 (q 4).x, .int .i64 (q 4).y, .int .i64 (q 4).z, .int .i64 (q 5).x, .int .i64 (q 5).y, .int .i64 (q 5).z, .int .i64 (q 6).x, .int .i64 (q 6).y, .int .i64 (q 6).z, .int .i64 (q 7).x, .int .i64 (q 7).y, .int .i64 (q 7).z, .int .i64 (q 8).x, .int .i64 (q 8).y, .int .i64 (q 8).z, .int .i64 (q 9).x, .int .i64 (q 9).y, .int .i64 (q 9).z, .int .i64 (q 10).x, .int .i64 (q 10).y, .int .i64 (q 10).z, .int .i64 (q 11).x, .int .i64 (q 11).y, .int .i64 (q 11).z, .int .i64 (q 12).x, .int .i64 (q 12).y, .int .i64 (q 12).z, .int .i64 (q 13).x, .int .i64 (q 13).y, .int .i64 (q 13).z, .int .i64 (q 14).x, .int .i64 (q 14).y, .int .i64 (q 14).z, .int .i64 (q 15).x, .int .i64 (q 15).y, .int .i64 (q 15).z] = some [.int .i64 (q 0).x, .int .i64 (q 0).y, .int .i64 (q 0).z, .int .i64 (q 1).x, .int .i64 (q 1).y, .int .i64 (q 1).z, .int .i64 (q 2).x, .int .i64 (q 2).y, .int .i64 (q 2).z, .int .i64 (q 3).x, .int .i64 (q 3).y, .int .i64 (q 3).z, .int .i64 (q 4).x, .int .i64 (q 4).y, .int .i64 (q 4).z, .int .i64 (q 5).x, .int .i64 (q 5).y, .int .i64 (q 5).z, .int .i64 (q 6).x, .int .i64 (q 6).y, .int .i64 (q 6).z, .int .i64 (q 7).x, .int .i64 (q 7).y, .int .i64 (q 7).z, .int .i64 (q 8).x, .int .i64 (q 8).y, .int .i64 (q 8).z, .int .i64 (q 9).x, .int .i64 (q 9).y, .int .i64 (q 9).z, .int .i64 (q 10).x, .int .i64 (q 10).y, .int .i64 (q 10).z, .int .i64 (q 11).x, .int .i64 (q 11).y, .int .i64 (q 11).z, .int .i64 (q 12).x, .int .i64 (q 12).y, .int .i64 (q 12).z, .int .i64 (q 13).x, .int .i64 (q 13).y, .int .i64 (q 13).z, .int .i64 (q 14).x, .int .i64 (q 14).y, .int .i64 (q 14).z, .int .i64 (q 15).x, .int .i64 (q 15).y, .int .i64 (q 15).z] := by
  have c0 := litR3 n (hq 0 (by omega))
  have c1 := litR3 n (hq 1 (by omega))
  have c2 := litR3 n (hq 2 (by omega))
  have c3 := litR3 n (hq 3 (by omega))
  have c4 := litR3 n (hq 4 (by omega))
  have c5 := litR3 n (hq 5 (by omega))
  have c6 := litR3 n (hq 6 (by omega))
  have c7 := litR3 n (hq 7 (by omega))
  have c8 := litR3 n (hq 8 (by omega))
  have c9 := litR3 n (hq 9 (by omega))
  have c10 := litR3 n (hq 10 (by omega))
  have c11 := litR3 n (hq 11 (by omega))
  have c12 := litR3 n (hq 12 (by omega))
  have c13 := litR3 n (hq 13 (by omega))
  have c14 := litR3 n (hq 14 (by omega))
  have c15 := litR3 n (hq 15 (by omega))
  unfold Program.keyLits
  rw [Try.underlying40]
  simp [cellsA16R, cellsVR, List.range_succ, c0, c1, c2, c3, c4, c5, c6, c7, c8, c9, c10, c11, c12, c13, c14, c15]
theorem litsN4 (n : Nat) (q : Nat → P3) (hq : ∀ k, k < 4 → I3 (q k)) : Try.prog.keyLits (n + 3) 41 [.int .i64 (q 0).x, .int .i64 (q 0).y, .int .i64 (q 0).z, .int .i64 (q 1).x, .int .i64 (q 1).y, .int .i64 (q 1).z, .int .i64 (q 2).x, .int .i64 (q 2).y, .int .i64 (q 2).z, .int .i64 (q 3).x, .int .i64 (q 3).y, .int .i64 (q 3).z] = some [.int .i64 (q 0).x, .int .i64 (q 0).y, .int .i64 (q 0).z, .int .i64 (q 1).x, .int .i64 (q 1).y, .int .i64 (q 1).z, .int .i64 (q 2).x, .int .i64 (q 2).y, .int .i64 (q 2).z, .int .i64 (q 3).x, .int .i64 (q 3).y, .int .i64 (q 3).z] := by
  have c0 := litR3 n (hq 0 (by omega))
  have c1 := litR3 n (hq 1 (by omega))
  have c2 := litR3 n (hq 2 (by omega))
  have c3 := litR3 n (hq 3 (by omega))
  unfold Program.keyLits
  rw [Try.underlying41]
  simp [cellsAR, cellsVR, List.range_succ, c0, c1, c2, c3]
theorem litsI4 (n : Nat) (x : Nat → Int) (hq : ∀ k, k < 4 → i64B (x k)) : Try.prog.keyLits (n + 2) 36 [.int .i64 (x 0), .int .i64 (x 1), .int .i64 (x 2), .int .i64 (x 3)] = some [.int .i64 (x 0), .int .i64 (x 1), .int .i64 (x 2), .int .i64 (x 3)] := by
  have c0 := litR1 n (hq 0 (by omega))
  have c1 := litR1 n (hq 1 (by omega))
  have c2 := litR1 n (hq 2 (by omega))
  have c3 := litR1 n (hq 3 (by omega))
  unfold Program.keyLits
  rw [Try.underlying36]
  simp [cellsI4R, cellsIR, List.range_succ, c0, c1, c2, c3]
/-- A patch's numbers are of the type. -/
def PtD.I (p : PtD) : Prop := (∀ k, k < 16 → I3 (p.pt k)) ∧ (∀ k, k < 4 → i64B (p.co.getD k 0)) ∧ (∀ k, k < 4 → I3 (p.nm k)) ∧ i64B p.sk
theorem litsPt (p : PtD) (h : p.I) : Try.prog.keyLits 12 43 (Value.agg #[.int .i64 (p.pt 0).x, .int .i64 (p.pt 0).y, .int .i64 (p.pt 0).z, .int .i64 (p.pt 1).x, .int .i64 (p.pt 1).y, .int .i64 (p.pt 1).z, .int .i64 (p.pt 2).x, .int .i64 (p.pt 2).y, .int .i64 (p.pt 2).z, .int .i64 (p.pt 3).x, .int .i64 (p.pt 3).y, .int .i64 (p.pt 3).z, .int .i64 (p.pt 4).x, .int .i64 (p.pt 4).y, .int .i64 (p.pt 4).z, .int .i64 (p.pt 5).x, .int .i64 (p.pt 5).y, .int .i64 (p.pt 5).z, .int .i64 (p.pt 6).x, .int .i64 (p.pt 6).y, .int .i64 (p.pt 6).z, .int .i64 (p.pt 7).x, .int .i64 (p.pt 7).y, .int .i64 (p.pt 7).z, .int .i64 (p.pt 8).x, .int .i64 (p.pt 8).y, .int .i64 (p.pt 8).z, .int .i64 (p.pt 9).x, .int .i64 (p.pt 9).y, .int .i64 (p.pt 9).z, .int .i64 (p.pt 10).x, .int .i64 (p.pt 10).y, .int .i64 (p.pt 10).z, .int .i64 (p.pt 11).x, .int .i64 (p.pt 11).y, .int .i64 (p.pt 11).z, .int .i64 (p.pt 12).x, .int .i64 (p.pt 12).y, .int .i64 (p.pt 12).z, .int .i64 (p.pt 13).x, .int .i64 (p.pt 13).y, .int .i64 (p.pt 13).z, .int .i64 (p.pt 14).x, .int .i64 (p.pt 14).y, .int .i64 (p.pt 14).z, .int .i64 (p.pt 15).x, .int .i64 (p.pt 15).y, .int .i64 (p.pt 15).z, .int .i64 (p.co.getD 0 0), .int .i64 (p.co.getD 1 0), .int .i64 (p.co.getD 2 0), .int .i64 (p.co.getD 3 0), .int .i64 (p.nm 0).x, .int .i64 (p.nm 0).y, .int .i64 (p.nm 0).z, .int .i64 (p.nm 1).x, .int .i64 (p.nm 1).y, .int .i64 (p.nm 1).z, .int .i64 (p.nm 2).x, .int .i64 (p.nm 2).y, .int .i64 (p.nm 2).z, .int .i64 (p.nm 3).x, .int .i64 (p.nm 3).y, .int .i64 (p.nm 3).z, .int .i64 p.sk]).cells.toList = some [.int .i64 (p.pt 0).x, .int .i64 (p.pt 0).y, .int .i64 (p.pt 0).z, .int .i64 (p.pt 1).x, .int .i64 (p.pt 1).y, .int .i64 (p.pt 1).z, .int .i64 (p.pt 2).x, .int .i64 (p.pt 2).y, .int .i64 (p.pt 2).z, .int .i64 (p.pt 3).x, .int .i64 (p.pt 3).y, .int .i64 (p.pt 3).z, .int .i64 (p.pt 4).x, .int .i64 (p.pt 4).y, .int .i64 (p.pt 4).z, .int .i64 (p.pt 5).x, .int .i64 (p.pt 5).y, .int .i64 (p.pt 5).z, .int .i64 (p.pt 6).x, .int .i64 (p.pt 6).y, .int .i64 (p.pt 6).z, .int .i64 (p.pt 7).x, .int .i64 (p.pt 7).y, .int .i64 (p.pt 7).z, .int .i64 (p.pt 8).x, .int .i64 (p.pt 8).y, .int .i64 (p.pt 8).z, .int .i64 (p.pt 9).x, .int .i64 (p.pt 9).y, .int .i64 (p.pt 9).z, .int .i64 (p.pt 10).x, .int .i64 (p.pt 10).y, .int .i64 (p.pt 10).z, .int .i64 (p.pt 11).x, .int .i64 (p.pt 11).y, .int .i64 (p.pt 11).z, .int .i64 (p.pt 12).x, .int .i64 (p.pt 12).y, .int .i64 (p.pt 12).z, .int .i64 (p.pt 13).x, .int .i64 (p.pt 13).y, .int .i64 (p.pt 13).z, .int .i64 (p.pt 14).x, .int .i64 (p.pt 14).y, .int .i64 (p.pt 14).z, .int .i64 (p.pt 15).x, .int .i64 (p.pt 15).y, .int .i64 (p.pt 15).z, .int .i64 (p.co.getD 0 0), .int .i64 (p.co.getD 1 0), .int .i64 (p.co.getD 2 0), .int .i64 (p.co.getD 3 0), .int .i64 (p.nm 0).x, .int .i64 (p.nm 0).y, .int .i64 (p.nm 0).z, .int .i64 (p.nm 1).x, .int .i64 (p.nm 1).y, .int .i64 (p.nm 1).z, .int .i64 (p.nm 2).x, .int .i64 (p.nm 2).y, .int .i64 (p.nm 2).z, .int .i64 (p.nm 3).x, .int .i64 (p.nm 3).y, .int .i64 (p.nm 3).z, .int .i64 p.sk] := by
  obtain ⟨h1, h2, h3, h4⟩ := h
  have c0 := lits16 8 p.pt h1
  have c1 := litsI4 9 (fun k => p.co.getD k 0) h2
  have c2 := litsN4 8 p.nm h3
  have c3 := litR1 10 h4
  unfold Program.keyLits
  rw [Try.underlying43]
  simp only [Nat.reduceAdd] at c0 c1 c2 c3
  generalize p.co.getD 0 0 = y0 at *
  generalize p.co.getD 1 0 = y1 at *
  generalize p.co.getD 2 0 = y2 at *
  generalize p.co.getD 3 0 = y3 at *
  simp [cellsA16R, cellsAR, cellsI4R, cellsIR, cellsPtR, Value.cells, c0, c1, c2, c3]
theorem neqPt (p : PtD) (h : p.I) (w : World) : (binOp .neq 43 (.agg p.row) (.agg p.row)).run Try.prog w = .ok (.bool false) w := by
  rw [rPt]
  obtain ⟨r, hr, hi⟩ := run_equalIn_deep (P := Try.prog) 9990 10 43 (by kernel_rfl) w 12 12 _ _ _ _ (formPt p) (formPt p) (litsPt p h) (litsPt p h)
  rw [hi.2 rfl] at hr
  rw [run_neq_struct, hr]
  rfl
theorem quiet_neqPt {ops : Array Oper} {C : World → Prop} {Q : Act → Prop} {o : Oper} {rest : List Oper} {a : Act} (x y : Operand) (ho : o.op = .binOp .neq 43 x y 43) (hg : Region.wanted o (yielded ops a.tmps) = true) (p : PtD) (h : p.I) (hx : a.eval x = .agg p.row) (hy : a.eval y = .agg p.row)
    (K : wpQuiet Try.prog ops C Q rest (a.put o.dst (.bool false))) : wpQuiet Try.prog ops C Q (o :: rest) a :=
  quiet_by3 hg _ (fun u _ => by
    have := neqPt p h u
    have hg := run_eqGuard_agg (P := Try.prog) (w := u) .neq 43 x y p.row p.row (by kernel_rfl)
    unfold execOp
    simp only [ho, hx, hy, Sem.run_bind, hg, this, Result.andThen_ok, Sem.run_pure]) K
theorem quiet_PtAt {ops : Array Oper} {C : World → Prop} {Q : Act → Prop} {o : Oper} {rest : List Oper} {a : Act} (x : Operand) (ho : o.op = .load 43 x) (hg : Region.wanted o (yielded ops a.tmps) = true) (g n v : Nat) (hv : v < n) (q : Nat → PtD) (hx : a.eval x = .pointer (some ⟨g, v * 65, none⟩)) (t : TypeId)
    (h : ∀ u, C u → Blk u g t (patC n q)) (K : wpQuiet Try.prog ops C Q rest (a.put o.dst (.agg (q v).row))) : wpQuiet Try.prog ops C Q (o :: rest) a :=
  quiet_by3 hg _ (fun u hu => by
    have := run_loadAt_mid (P := Try.prog) u g (v * 65) 43 (q v).row.toList _ (rng_patch (h u hu) hv) Try.underlying43 rfl (by rw [Array.length_toList, PtD.row_size]; exact infoPt1)
    unfold execOp
    simp only [ho, hx, Sem.run_bind, this, Result.andThen_ok, Sem.run_pure, Array.toArray_toList]) K
/-- A row of patches, the first v moved, the next one so far. -/
def rowP (q : Nat → PtD) (b : P3) (v k : Nat) : Nat → PtD := fun u => if u < v then (q u).mov b 16 else if u = v then (q u).mov b k else q u
theorem mov_zero (p : PtD) (b : P3) : p.mov b 0 = p := by cases p; simp [PtD.mov]
theorem rowP_start (q : Nat → PtD) (b : P3) : rowP q b 0 0 = q := by
  funext u
  unfold rowP
  rw [if_neg (by omega)]
  split
  · exact mov_zero _ _
  · rfl
theorem rowP_next (q : Nat → PtD) (b : P3) (v : Nat) : rowP q b (v + 1) 0 = rowP q b v 16 := by
  funext u
  unfold rowP
  by_cases h1 : u < v
  · rw [if_pos (by omega), if_pos h1]
  · by_cases h2 : u = v
    · rw [if_pos (by omega), if_neg h1, if_pos h2]
    · rw [if_neg (by omega), if_neg h1, if_neg h2]
      split
      · exact mov_zero _ _
      · rfl
/-- One point of a row's patch set. -/
theorem Blk.setPt3 {b : P3} {v k : Nat} {W : World} {t : TypeId} {g n : Nat} {q : Nat → PtD} (h : Blk W g t (patC n (rowP q b v k))) (hv : v < n) (hk : k < 16) : Blk (((W.setCell ⟨g, v * 65 + k * 3, none⟩ (.int .i64 (((q v).pt k).x + b.x))).setCell ⟨g, v * 65 + k * 3 + 1, none⟩ (.int .i64 (((q v).pt k).y + b.y))).setCell ⟨g, v * 65 + k * 3 + 2, none⟩ (.int .i64 (((q v).pt k).z + b.z))) g t (patC n (rowP q b v (k + 1))) := by
  have h2 := ((h.set (v * 65 + k * 3) (.int .i64 (((q v).pt k).x + b.x))).set (v * 65 + k * 3 + 1) (.int .i64 (((q v).pt k).y + b.y))).set (v * 65 + k * 3 + 2) (.int .i64 (((q v).pt k).z + b.z))
  have e : (((patC n (rowP q b v k)).setIfInBounds (v * 65 + k * 3) (.int .i64 (((q v).pt k).x + b.x))).setIfInBounds (v * 65 + k * 3 + 1) (.int .i64 (((q v).pt k).y + b.y))).setIfInBounds (v * 65 + k * 3 + 2) (.int .i64 (((q v).pt k).z + b.z)) = patC n (rowP q b v (k + 1)) := by
    have g1 : ∀ (q' : Nat → PtD) (i : Nat), i < n * 65 → (patC n q')[i]? = some ((q' (i / 65)).c (i % 65)) := fun q' i hi => by
      have := rowCs_at (k := 65) (n := n) (fun v j => (q' v).c j) (v := i / 65) (j := i % 65) (by omega) (by omega)
      rw [show i / 65 * 65 + i % 65 = i by omega] at this
      exact this
    refine Array.ext_getElem? fun i => ?_
    by_cases hi : i < n * 65
    · have hs := patC_size n (rowP q b v k)
      simp only [Array.getElem?_setIfInBounds, Array.size_setIfInBounds, hs, g1 _ i hi]
      by_cases hr : i / 65 = v
      · unfold rowP
        simp only [hr, Nat.lt_irrefl, if_false, if_true]
        unfold PtD.mov PtD.c pC movP
        by_cases h48 : i % 65 < 48
        · simp only [h48, if_true]
          by_cases e : i % 65 / 3 = k
          · rcases (by omega : i = v * 65 + k * 3 ∨ i = v * 65 + k * 3 + 1 ∨ i = v * 65 + k * 3 + 2) with e2 | e2 | e2
            · have m3 : i % 65 % 3 = 0 := by omega
              rw [if_neg (by omega), if_neg (by omega), if_pos (by omega)]
              simp [e, m3, hi, e2.symm]
            · have m3 : i % 65 % 3 = 1 := by omega
              rw [if_neg (by omega), if_pos (by omega)]
              simp [e, m3, hi, e2.symm]
            · have m3 : i % 65 % 3 = 2 := by omega
              rw [if_pos (by omega)]
              simp [e, m3, hi, e2.symm]
          · rw [if_neg (by omega), if_neg (by omega), if_neg (by omega)]
            have : (i % 65 / 3 < k + 1) = (i % 65 / 3 < k) := propext ⟨fun _ => by omega, fun _ => by omega⟩
            simp only [this]
        · rw [if_neg (by omega), if_neg (by omega), if_neg (by omega)]
          simp only [h48, if_false]
      · rw [if_neg (by omega), if_neg (by omega), if_neg (by omega)]
        unfold rowP
        simp only [hr, if_false]
    · rw [Array.getElem?_eq_none (by simp only [Array.size_setIfInBounds, patC_size]; omega), Array.getElem?_eq_none (by rw [patC_size]; omega)]
  rw [e] at h2
  exact h2
end Go.Proofs.Ytpdnaceggpdleab
