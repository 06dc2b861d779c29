/- A row of four triangles, kept behind one name. -/
import Derived.Test.YtgfgaaecpdbgeaaSide6
import Derived.Test.YtgfgaaecpdbgeaaBlk
import Derived.Test.YtgfgaaecpdbgeaaRef5
import Derived.Test.YtgfgaaecpdbgeaaSideC
namespace Go.Proofs.Ytgfgaaecpdbgeaa
open Go.RowKit
set_option linter.unusedVariables false
set_option linter.unusedSimpArgs false
def tet (a b c p : P3) : Array Value := #[.int .i64 a.x, .int .i64 a.y, .int .i64 a.z, .int .i64 b.x, .int .i64 b.y, .int .i64 b.z, .int .i64 c.x, .int .i64 c.y, .int .i64 c.z, .int .i64 a.x, .int .i64 a.y, .int .i64 a.z, .int .i64 c.x, .int .i64 c.y, .int .i64 c.z, .int .i64 p.x, .int .i64 p.y, .int .i64 p.z, .int .i64 a.x, .int .i64 a.y, .int .i64 a.z, .int .i64 p.x, .int .i64 p.y, .int .i64 p.z, .int .i64 b.x, .int .i64 b.y, .int .i64 b.z, .int .i64 b.x, .int .i64 b.y, .int .i64 b.z, .int .i64 p.x, .int .i64 p.y, .int .i64 p.z, .int .i64 c.x, .int .i64 c.y, .int .i64 c.z]
theorem tet_size (a b c p : P3) : (tet a b c p).size = 36 := rfl
theorem tet_one (a b c p : P3) : (tet a b c p).all (·.oneCell') = true := by unfold tet; simp [Value.oneCell']
theorem infoT4 : (Try.prog.info? 51).map (·.size) = some 36 := by kernel_rfl
theorem infoTri : (Try.prog.info? 38).map (·.size) = some 9 := by kernel_rfl
theorem alloc_tet (a : Act) (o : Oper) (ho : o.op = .alloc 51) (w : World) (n : Nat) (hn : n = w.heap.size) :
    (execOp a.eval o).run Try.prog w = .ok (.value (.pointer (some ⟨n, 0, none⟩))) (w.alloc (.cells (tet ⟨0, 0, 0⟩ ⟨0, 0, 0⟩ ⟨0, 0, 0⟩ ⟨0, 0, 0⟩) 51)) := by
  subst hn
  unfold execOp
  rw [ho]
  kernel_rfl
theorem build_tet (e : Act) (o : Oper) (x0 x1 x2 x3 : Operand) (ho : o.op = .build 51 #[(0, x0), (1, x1), (2, x2), (3, x3)]) (w : World) (a b c p : P3)
    (h0 : e.eval x0 = .agg #[.int .i64 a.x, .int .i64 a.y, .int .i64 a.z, .int .i64 b.x, .int .i64 b.y, .int .i64 b.z, .int .i64 c.x, .int .i64 c.y, .int .i64 c.z]) (h1 : e.eval x1 = .agg #[.int .i64 a.x, .int .i64 a.y, .int .i64 a.z, .int .i64 c.x, .int .i64 c.y, .int .i64 c.z, .int .i64 p.x, .int .i64 p.y, .int .i64 p.z]) (h2 : e.eval x2 = .agg #[.int .i64 a.x, .int .i64 a.y, .int .i64 a.z, .int .i64 p.x, .int .i64 p.y, .int .i64 p.z, .int .i64 b.x, .int .i64 b.y, .int .i64 b.z]) (h3 : e.eval x3 = .agg #[.int .i64 b.x, .int .i64 b.y, .int .i64 b.z, .int .i64 p.x, .int .i64 p.y, .int .i64 p.z, .int .i64 c.x, .int .i64 c.y, .int .i64 c.z]) :
    (execOp e.eval o).run Try.prog w = .ok (.value (.agg (tet a b c p))) w := by
  unfold execOp
  rw [ho]
  simp only [List.map_toArray, List.map_cons, List.map_nil, h0, h1, h2, h3]
  kernel_rfl
theorem wpList_store_tet {ops : Array Oper} {rest : List Oper} {o : Oper} {e : Act} {w : World} {Q : Exit → Act → World → Prop} (hgd : o.guard = none) (x y : Operand) (ho : o.op = .store 51 x y)
    (W : World) (a b c p : P3) (hx : e.eval x = .pointer (some ⟨W.heap.size, 0, none⟩)) (hy : e.eval y = .agg (tet a b c p)) (hw : w = W.alloc (.cells (tet ⟨0, 0, 0⟩ ⟨0, 0, 0⟩ ⟨0, 0, 0⟩ ⟨0, 0, 0⟩) 51))
    (h : wpList Try.prog ops Q rest (e.put o.dst undef) (W.alloc (.cells (tet a b c p) 51))) : wpList Try.prog ops Q (o :: rest) e w := by
  subst hw
  refine wpList_store_row hgd 51 x y ho W.heap.size (tet a b c p) hx hy 51 (tet ⟨0, 0, 0⟩ ⟨0, 0, 0⟩ ⟨0, 0, 0⟩ ⟨0, 0, 0⟩) (heap_alloc_new _ _) (by rw [tet_size]; exact infoT4) (by rw [tet_size, tet_size]) (tet_one _ _ _ _) ?_
  rw [setRow_alloc_at _ _ _ _ _ rfl]
  exact h
/-- One triangle out of the row. -/
theorem tet_part {w : World} {g : Nat} {a b c p : P3} (h : Blk w g 51 (tet a b c p)) :
    w.rangeAt g 0 [.int .i64 a.x, .int .i64 a.y, .int .i64 a.z, .int .i64 b.x, .int .i64 b.y, .int .i64 b.z, .int .i64 c.x, .int .i64 c.y, .int .i64 c.z] ∧ w.rangeAt g 9 [.int .i64 a.x, .int .i64 a.y, .int .i64 a.z, .int .i64 c.x, .int .i64 c.y, .int .i64 c.z, .int .i64 p.x, .int .i64 p.y, .int .i64 p.z] ∧ w.rangeAt g 18 [.int .i64 a.x, .int .i64 a.y, .int .i64 a.z, .int .i64 p.x, .int .i64 p.y, .int .i64 p.z, .int .i64 b.x, .int .i64 b.y, .int .i64 b.z] ∧ w.rangeAt g 27 [.int .i64 b.x, .int .i64 b.y, .int .i64 b.z, .int .i64 p.x, .int .i64 p.y, .int .i64 p.z, .int .i64 c.x, .int .i64 c.y, .int .i64 c.z] := by
  refine ⟨?_, ?_, ?_, ?_⟩
  all_goals
    intro j v hv
    rw [h.cell]
    have hj : j < 9 := by have := (List.getElem?_eq_some_iff.1 hv).1; simpa using this
    match j, hj with
    | 0, _ => exact hv
    | 1, _ => exact hv
    | 2, _ => exact hv
    | 3, _ => exact hv
    | 4, _ => exact hv
    | 5, _ => exact hv
    | 6, _ => exact hv
    | 7, _ => exact hv
    | 8, _ => exact hv
theorem quiet_tri {ops : Array Oper} {C : World → Prop} {Q : Act → Prop} {o : Oper} {rest : List Oper} {a : Act} (x : Operand) (ho : o.op = .load 38 x) (hg : Region.wanted o (yielded ops a.tmps) = true) (g k : Nat) (hx : a.eval x = .pointer (some ⟨g, k, none⟩))
    (cs : Array Value) (hcs : cs.size = 9) (h : ∀ u, C u → u.rangeAt g k cs.toList) (K : wpQuiet Try.prog ops C Q rest (a.put o.dst (.agg cs))) : wpQuiet Try.prog ops C Q (o :: rest) a :=
  quiet_by hg _ (fun u hu => by
    have := run_loadAt_mid (P := Try.prog) u g k 38 cs.toList _ (h u hu) Try.underlying38 rfl (by rw [Array.length_toList, hcs]; exact infoTri)
    unfold execOp
    simp only [ho, hx, Sem.run_bind, this, Result.andThen_ok, Sem.run_pure, Array.toArray_toList]) K
end Go.Proofs.Ytgfgaaecpdbgeaa
