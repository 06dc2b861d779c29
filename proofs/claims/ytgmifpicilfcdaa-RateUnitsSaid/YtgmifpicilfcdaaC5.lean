/- An array of sixteen points, read as a whole. Sides of both. Two arrays of four whole numbers compared. The last step of a law's row: it answered true, and all that was there is as it was. No program is imported. -/
import Derived.Deep.MidRow
import Derived.DeepKeys
import Derived.ProofKit
import Derived.OpenShut
import Derived.Carry
import Derived.Test.YtgmifpicilfcdaaC0
import Derived.Test.YtgmifpicilfcdaaC4
namespace Go.Proofs.Ytgmifpicilfcdaa
open Go.RowKit
set_option linter.unusedVariables false
set_option linter.unusedSimpArgs false
set_option linter.unnecessarySimpa false
theorem rng_pts {W : World} {b n : Nat} {t : TypeId} {p : Nat → P3} (h : Blk W b t (ptsC n p)) : W.rangeAt b 0 (ptsC n p).toList := by
  intro j v hv
  rw [h.cell, Nat.zero_add]
  simpa using hv
theorem size16 (p : Nat → P3) : (Try.prog.info? 24).map (·.size) = some (ptsC 16 p).toList.length := by
  rw [Array.length_toList, ptsC_size]; kernel_rfl
theorem load16 {ops : Array Oper} {rest : List Oper} {op : Oper} {a : Act} {w : World} {Q : Exit → Act → World → Prop} (hgd : op.guard = none) (x : Operand) (ho : op.op = .load 24 x) (b : Nat) (hx : a.eval x = .pointer (some ⟨b, 0, none⟩)) (p : Nat → P3) (h : Blk w b 24 (ptsC 16 p))
    (k : wpList Try.prog ops Q rest (a.put op.dst (.agg (ptsC 16 p))) w) : wpList Try.prog ops Q (op :: rest) a w := by
  refine wpList_load_mid hgd 24 x ho b 0 hx (ptsC 16 p).toList _ (rng_pts h) Try.underlying24 rfl (size16 p) ?_
  rw [Array.toArray_toList]
  exact k
theorem quiet_by2 {P : Program} {ops : Array Oper} {C : World → Prop} {Q : Act → Prop} {o : Oper} {rest : List Oper} {a : Act} (hg : Region.wanted o (yielded ops a.tmps) = true) (v : Value) (h : ∀ u, C u → (execOp a.eval o).run P u = .ok (.value v) u)
    (k : wpQuiet P ops C Q rest (a.put o.dst v)) : wpQuiet P ops C Q (o :: rest) a := by
  unfold wpQuiet
  rw [if_pos hg]
  exact ⟨v, fun u hu => by unfold Oper.quietAt; rw [h u hu]; exact ⟨rfl, rfl⟩, k⟩
theorem quiet_load16 {ops : Array Oper} {C : World → Prop} {Q : Act → Prop} {o : Oper} {rest : List Oper} {a : Act} (x : Operand) (ho : o.op = .load 24 x) (hg : Region.wanted o (yielded ops a.tmps) = true) (b : Nat) (hx : a.eval x = .pointer (some ⟨b, 0, none⟩)) (p : Nat → P3)
    (h : ∀ u, C u → Blk u b 24 (ptsC 16 p)) (K : wpQuiet Try.prog ops C Q rest (a.put o.dst (.agg (ptsC 16 p)))) : wpQuiet Try.prog ops C Q (o :: rest) a :=
  quiet_by2 hg _ (fun u hu => by
    have := run_loadAt_mid (P := Try.prog) u b 0 24 (ptsC 16 p).toList _ (rng_pts (h u hu)) Try.underlying24 rfl (size16 p)
    unfold execOp
    simp only [ho, hx, Sem.run_bind, this, Result.andThen_ok, Sem.run_pure, Array.toArray_toList]) K
def lits4 (q : Nat → P3) : List Lit := [.int .i64 (q 0).x, .int .i64 (q 0).y, .int .i64 (q 0).z, .int .i64 (q 1).x, .int .i64 (q 1).y, .int .i64 (q 1).z, .int .i64 (q 2).x, .int .i64 (q 2).y, .int .i64 (q 2).z, .int .i64 (q 3).x, .int .i64 (q 3).y, .int .i64 (q 3).z]
theorem form4 (q : Nat → P3) : (Value.agg (ptsC 4 q)).formed Try.prog 26 = true := by rw [ptsC4]; rfl
theorem wf_of {a : Int} (h : In64 a) : (Lit.int .i64 a).wf = true := by
  unfold In64 at h
  show (decide (IntKind.i64.min ≤ a) && decide (a ≤ IntKind.i64.max)) = true
  rw [show IntKind.i64.min = -9223372036854775808 by rfl, show IntKind.i64.max = 9223372036854775807 by rfl]
  simp only [Bool.and_eq_true, decide_eq_true_eq]
  exact h
theorem cellsV3 : Try.prog.cellsOf 23 = 3 := by kernel_rfl
theorem lit1 (n : Nat) {a : Int} (h : In64 a) : Try.prog.keyLits (n + 1) 3 [.int .i64 a] = some [.int .i64 a] := by
  unfold Program.keyLits
  rw [Try.underlying3]
  simp [wf_of h]
theorem lit3 (n : Nat) {q : P3} (h : In3 q) : Try.prog.keyLits (n + 2) 23 [.int .i64 q.x, .int .i64 q.y, .int .i64 q.z] = some [.int .i64 q.x, .int .i64 q.y, .int .i64 q.z] := by
  unfold Program.keyLits
  rw [Try.underlying23]
  have c1 := lit1 n h.1
  have c2 := lit1 n h.2.1
  have c3 := lit1 n h.2.2
  have ci : Try.prog.cellsOf 3 = 1 := by kernel_rfl
  simp [cellsV3, ci, c1, c2, c3]
theorem lits4_of (q : Nat → P3) (hq : ∀ k, k < 4 → In3 (q k)) : Try.prog.keyLits 12 26 (Value.agg (ptsC 4 q)).cells.toList = some (lits4 q) := by
  rw [ptsC4]
  have c0 := lit3 9 (hq 0 (by omega))
  have c1 := lit3 9 (hq 1 (by omega))
  have c2 := lit3 9 (hq 2 (by omega))
  have c3 := lit3 9 (hq 3 (by omega))
  unfold Program.keyLits
  rw [Try.underlying26]
  simp [cellsA4, cellsV3, List.range_succ, Value.cells, c0, c1, c2, c3, lits4]
theorem eq4 (q : Nat → P3) (hq : ∀ k, k < 4 → In3 (q k)) (w : World) : (binOp .eql 26 (.agg (ptsC 4 q)) (.agg (ptsC 4 q))).run Try.prog w = .ok (.bool true) w := by
  obtain ⟨r, hr, hi⟩ := run_equalIn_deep (P := Try.prog) 9990 10 26 (by kernel_rfl) w 12 12 _ _ _ _ (form4 q) (form4 q) (lits4_of q hq) (lits4_of q hq)
  rw [hi.2 rfl] at hr
  rw [run_eql_struct, hr]
  rfl
theorem quiet_eq4 {ops : Array Oper} {C : World → Prop} {Q : Act → Prop} {o : Oper} {rest : List Oper} {a : Act} (x y : Operand) (ho : o.op = .binOp .eql 26 x y 26) (hg : Region.wanted o (yielded ops a.tmps) = true) (q : Nat → P3) (hx : a.eval x = .agg (ptsC 4 q)) (hy : a.eval y = .agg (ptsC 4 q)) (hq : ∀ k, k < 4 → In3 (q k))
    (K : wpQuiet Try.prog ops C Q rest (a.put o.dst (.bool true))) : wpQuiet Try.prog ops C Q (o :: rest) a :=
  quiet_by2 hg _ (fun u _ => by
    have := eq4 q hq u
    have hg := run_eqGuard_agg (P := Try.prog) (w := u) .eql 26 x y (ptsC 4 q) (ptsC 4 q) (by kernel_rfl)
    unfold execOp
    simp only [ho, hx, hy, Sem.run_bind, hg, this, Result.andThen_ok, Sem.run_pure]) K
end Go.Proofs.Ytgmifpicilfcdaa
namespace Go.Proofs.Ytgmifpicilfcdaa
open Go.RowKit
set_option linter.unusedVariables false
set_option linter.unusedSimpArgs false
set_option linter.unnecessarySimpa false
set_option maxRecDepth 100000
def sdV (p : Nat → P3) (u : Int) : Value := .agg #[.int .i64 (edK (rowF p 0) u), .int .i64 (edK (rowF p 1) u), .int .i64 (edK (rowF p 2) u), .int .i64 (edK (rowF p 3) u)]
set_option maxHeartbeats 4000000 in
theorem sides_any (p : Nat → P3) (u : Int) : Gives Try.prog 12 #[.agg (ptsC 16 p), .int .i64 u] (sdV p u) := by
  have r0 := vRow_any p 0
  have m0 := edge_any (rowF p 0) u
  have r1 := vRow_any p 1
  have m1 := edge_any (rowF p 1) u
  have r2 := vRow_any p 2
  have m2 := edge_any (rowF p 2) u
  have r3 := vRow_any p 3
  have m3 := edge_any (rowF p 3) u
  unfold sdV
  generalize edK (rowF p 0) u = e0 at *
  generalize edK (rowF p 1) u = e1 at *
  generalize edK (rowF p 2) u = e2 at *
  generalize edK (rowF p 3) u = e3 at *
  refine Gives.mk fun w => ?_
  have hP0 : Blk (((w.alloc (.cells (ptsC 16 p) 24)).alloc (.cells #[.int .i64 0, .int .i64 0, .int .i64 0, .int .i64 0] 30)).alloc (.cells #[.int .i64 0, .int .i64 0, .int .i64 0, .int .i64 0] 30)) w.heap.size 24 (ptsC 16 p) := ((Blk.new _ _ _ _ rfl).alloc _).alloc _
  have hQ0 : Blk (((w.alloc (.cells (ptsC 16 p) 24)).alloc (.cells #[.int .i64 0, .int .i64 0, .int .i64 0, .int .i64 0] 30)).alloc (.cells #[.int .i64 0, .int .i64 0, .int .i64 0, .int .i64 0] 30)) (w.heap.size + 1) 30 #[.int .i64 0, .int .i64 0, .int .i64 0, .int .i64 0] := (Blk.new _ _ _ _ (by simp)).alloc _
  have hR0 : Blk (((w.alloc (.cells (ptsC 16 p) 24)).alloc (.cells #[.int .i64 0, .int .i64 0, .int .i64 0, .int .i64 0] 30)).alloc (.cells #[.int .i64 0, .int .i64 0, .int .i64 0, .int .i64 0] 30)) (w.heap.size + 1 + 1) 30 #[.int .i64 0, .int .i64 0, .int .i64 0, .int .i64 0] := Blk.new _ _ _ _ (by simp)
  have hB0 : Below w.heap.size w (((w.alloc (.cells (ptsC 16 p) 24)).alloc (.cells #[.int .i64 0, .int .i64 0, .int .i64 0, .int .i64 0] 30)).alloc (.cells #[.int .i64 0, .int .i64 0, .int .i64 0, .int .i64 0] 30)) := bel_alloc (bel_alloc (bel_alloc (Below.refl _ _) _) _) _
  go_enter Try.func12, Try.ntmps12
  go_upto_region 2 with (fail)
  generalize (((w.alloc (.cells (ptsC 16 p) 24)).alloc (.cells #[.int .i64 0, .int .i64 0, .int .i64 0, .int .i64 0] 30)).alloc (.cells #[.int .i64 0, .int .i64 0, .int .i64 0, .int .i64 0] 30)) = W0 at *
  go_wp2
  go_loopw [7] (fun iv wr => Below w.heap.size w wr ∧ Blk wr w.heap.size 24 (ptsC 16 p) ∧ Blk wr (w.heap.size + 1) 30 #[.int .i64 0, .int .i64 0, .int .i64 0, .int .i64 0] ∧ ((iv = .int .i64 0 ∧ Blk wr (w.heap.size + 1 + 1) 30 #[.int .i64 0, .int .i64 0, .int .i64 0, .int .i64 0]) ∨ (iv = .int .i64 1 ∧ Blk wr (w.heap.size + 1 + 1) 30 #[.int .i64 e0, .int .i64 0, .int .i64 0, .int .i64 0]) ∨ (iv = .int .i64 2 ∧ Blk wr (w.heap.size + 1 + 1) 30 #[.int .i64 e0, .int .i64 e1, .int .i64 0, .int .i64 0]) ∨ (iv = .int .i64 3 ∧ Blk wr (w.heap.size + 1 + 1) 30 #[.int .i64 e0, .int .i64 e1, .int .i64 e2, .int .i64 0]) ∨ (iv = .int .i64 4 ∧ Blk wr (w.heap.size + 1 + 1) 30 #[.int .i64 e0, .int .i64 e1, .int .i64 e2, .int .i64 e3]))) (fun iv _ => 4 - (intOf iv).toNat)
  case atStart => exact ⟨hB0, hP0, hQ0, .inl ⟨rfl, hR0⟩⟩
  case round =>
    obtain ⟨hBr, hPr, hQr, hi⟩ := hrel
    clear hB0 hP0 hQ0 hR0
    rename World => wr
    rcases hi with ⟨rfl, hRr⟩ | ⟨rfl, hRr⟩ | ⟨rfl, hRr⟩ | ⟨rfl, hRr⟩ | ⟨rfl, hRr⟩
    · have pl := hPr.lt
      go_upto_region 5 with (fail)
      go_wp2_with (first | ((refine load16 rfl _ rfl w.heap.size rfl p hPr ?_); simp only [Act.put, List.setIfInBounds_toArray, List.set_cons_succ, List.set_cons_zero]) | (go_at_call 21; (with_reducible refine (r0.at_ _).mono ?_); rintro e w' ⟨rfl, xr, rfl⟩) | (go_at_call 10; (with_reducible refine (m0.at_ _).mono ?_); rintro e Wo ⟨rfl, xe, hWo⟩; have hP3 : Blk Wo w.heap.size 24 (ptsC 16 p) := hWo ▸ (hPr.grow xr).grow xe; have hQ3 : Blk Wo (w.heap.size + 1) 30 #[.int .i64 0, .int .i64 0, .int .i64 0, .int .i64 0] := hWo ▸ (hQr.grow xr).grow xe; have hR3 : Blk Wo (w.heap.size + 1 + 1) 30 #[.int .i64 0, .int .i64 0, .int .i64 0, .int .i64 0] := hWo ▸ (hRr.grow xr).grow xe; have hB3 : Below w.heap.size w Wo := hWo ▸ bel_grow (bel_grow hBr xr) xe; clear hWo; have rl := hR3.lt; have f0 := hR3.frozen 0; have q0 := hR3.cell 0) | fail)
      go_roundw
      case rel => exact ⟨bel_set hB3 (by show w.heap.size ≤ w.heap.size + 1 + 1; omega) _, hP3.far _ _ (by omega), hQ3.far _ _ (by omega), .inr (.inl ⟨rfl, hR3.set 0 _⟩)⟩
      case measure => simp [intOf]
    · have pl := hPr.lt
      go_upto_region 5 with (fail)
      go_wp2_with (first | ((refine load16 rfl _ rfl w.heap.size rfl p hPr ?_); simp only [Act.put, List.setIfInBounds_toArray, List.set_cons_succ, List.set_cons_zero]) | (go_at_call 21; (with_reducible refine (r1.at_ _).mono ?_); rintro e w' ⟨rfl, xr, rfl⟩) | (go_at_call 10; (with_reducible refine (m1.at_ _).mono ?_); rintro e Wo ⟨rfl, xe, hWo⟩; have hP3 : Blk Wo w.heap.size 24 (ptsC 16 p) := hWo ▸ (hPr.grow xr).grow xe; have hQ3 : Blk Wo (w.heap.size + 1) 30 #[.int .i64 0, .int .i64 0, .int .i64 0, .int .i64 0] := hWo ▸ (hQr.grow xr).grow xe; have hR3 : Blk Wo (w.heap.size + 1 + 1) 30 #[.int .i64 e0, .int .i64 0, .int .i64 0, .int .i64 0] := hWo ▸ (hRr.grow xr).grow xe; have hB3 : Below w.heap.size w Wo := hWo ▸ bel_grow (bel_grow hBr xr) xe; clear hWo; have rl := hR3.lt; have f0 := hR3.frozen 1; have q0 := hR3.cell 1) | fail)
      go_roundw
      case rel => exact ⟨bel_set hB3 (by show w.heap.size ≤ w.heap.size + 1 + 1; omega) _, hP3.far _ _ (by omega), hQ3.far _ _ (by omega), .inr (.inr (.inl ⟨rfl, hR3.set 1 _⟩))⟩
      case measure => simp [intOf]
    · have pl := hPr.lt
      go_upto_region 5 with (fail)
      go_wp2_with (first | ((refine load16 rfl _ rfl w.heap.size rfl p hPr ?_); simp only [Act.put, List.setIfInBounds_toArray, List.set_cons_succ, List.set_cons_zero]) | (go_at_call 21; (with_reducible refine (r2.at_ _).mono ?_); rintro e w' ⟨rfl, xr, rfl⟩) | (go_at_call 10; (with_reducible refine (m2.at_ _).mono ?_); rintro e Wo ⟨rfl, xe, hWo⟩; have hP3 : Blk Wo w.heap.size 24 (ptsC 16 p) := hWo ▸ (hPr.grow xr).grow xe; have hQ3 : Blk Wo (w.heap.size + 1) 30 #[.int .i64 0, .int .i64 0, .int .i64 0, .int .i64 0] := hWo ▸ (hQr.grow xr).grow xe; have hR3 : Blk Wo (w.heap.size + 1 + 1) 30 #[.int .i64 e0, .int .i64 e1, .int .i64 0, .int .i64 0] := hWo ▸ (hRr.grow xr).grow xe; have hB3 : Below w.heap.size w Wo := hWo ▸ bel_grow (bel_grow hBr xr) xe; clear hWo; have rl := hR3.lt; have f0 := hR3.frozen 2; have q0 := hR3.cell 2) | fail)
      go_roundw
      case rel => exact ⟨bel_set hB3 (by show w.heap.size ≤ w.heap.size + 1 + 1; omega) _, hP3.far _ _ (by omega), hQ3.far _ _ (by omega), .inr (.inr (.inr (.inl ⟨rfl, hR3.set 2 _⟩)))⟩
      case measure => simp [intOf]
    · have pl := hPr.lt
      go_upto_region 5 with (fail)
      go_wp2_with (first | ((refine load16 rfl _ rfl w.heap.size rfl p hPr ?_); simp only [Act.put, List.setIfInBounds_toArray, List.set_cons_succ, List.set_cons_zero]) | (go_at_call 21; (with_reducible refine (r3.at_ _).mono ?_); rintro e w' ⟨rfl, xr, rfl⟩) | (go_at_call 10; (with_reducible refine (m3.at_ _).mono ?_); rintro e Wo ⟨rfl, xe, hWo⟩; have hP3 : Blk Wo w.heap.size 24 (ptsC 16 p) := hWo ▸ (hPr.grow xr).grow xe; have hQ3 : Blk Wo (w.heap.size + 1) 30 #[.int .i64 0, .int .i64 0, .int .i64 0, .int .i64 0] := hWo ▸ (hQr.grow xr).grow xe; have hR3 : Blk Wo (w.heap.size + 1 + 1) 30 #[.int .i64 e0, .int .i64 e1, .int .i64 e2, .int .i64 0] := hWo ▸ (hRr.grow xr).grow xe; have hB3 : Below w.heap.size w Wo := hWo ▸ bel_grow (bel_grow hBr xr) xe; clear hWo; have rl := hR3.lt; have f0 := hR3.frozen 3; have q0 := hR3.cell 3) | fail)
      go_roundw
      case rel => exact ⟨bel_set hB3 (by show w.heap.size ≤ w.heap.size + 1 + 1; omega) _, hP3.far _ _ (by omega), hQ3.far _ _ (by omega), .inr (.inr (.inr (.inr (⟨rfl, hR3.set 3 _⟩))))⟩
      case measure => simp [intOf]
    · have rl := hRr.lt
      have ql := hQr.lt
      have c0 := hRr.cell 0
      have o0 := hQr.cell 0
      have f0 := hQr.frozen 0
      have c1 := hRr.cell 1
      have o1 := hQr.cell 1
      have f1 := hQr.frozen 1
      have c2 := hRr.cell 2
      have o2 := hQr.cell 2
      have f2 := hQr.frozen 2
      have c3 := hRr.cell 3
      have o3 := hQr.cell 3
      have f3 := hQr.frozen 3
      go_wp2
      have hQ5 := (((hQr.set 0 (.int .i64 e0)).set 1 (.int .i64 e1)).set 2 (.int .i64 e2)).set 3 (.int .i64 e3)
      have hB5 : Below w.heap.size w ((((wr.setCell ⟨w.heap.size + 1, 0, none⟩ (.int .i64 e0)).setCell ⟨w.heap.size + 1, 1, none⟩ (.int .i64 e1)).setCell ⟨w.heap.size + 1, 2, none⟩ (.int .i64 e2)).setCell ⟨w.heap.size + 1, 3, none⟩ (.int .i64 e3)) := bel_set (bel_set (bel_set (bel_set hBr (by simp) _) (by simp) _) (by simp) _) (by simp) _
      generalize ((((wr.setCell ⟨w.heap.size + 1, 0, none⟩ (.int .i64 e0)).setCell ⟨w.heap.size + 1, 1, none⟩ (.int .i64 e1)).setCell ⟨w.heap.size + 1, 2, none⟩ (.int .i64 e2)).setCell ⟨w.heap.size + 1, 3, none⟩ (.int .i64 e3)) = WE at *
      have w0 : WE.cell? ⟨w.heap.size + 1, 0, none⟩ = some (.int .i64 e0) := hQ5.cell 0
      have w1 : WE.cell? ⟨w.heap.size + 1, 1, none⟩ = some (.int .i64 e1) := hQ5.cell 1
      have w2 : WE.cell? ⟨w.heap.size + 1, 2, none⟩ = some (.int .i64 e2) := hQ5.cell 2
      have w3 : WE.cell? ⟨w.heap.size + 1, 3, none⟩ = some (.int .i64 e3) := hQ5.cell 3
      refine bodyPost_ret (v := .agg #[.int .i64 e0, .int .i64 e1, .int .i64 e2, .int .i64 e3]) (by simp [results, Try.results12, go_sem, w0, w1, w2, w3]) rfl ⟨rfl, hB5⟩
set_option maxHeartbeats 4000000 in
theorem rSides_any (p : Nat → P3) (u : Int) : Gives Try.prog 13 #[.agg (ptsC 16 p), .int .i64 u] (sdV p u) := by
  have r0 := rRow_any p 0
  have m0 := rEdge_any (rowF p 0) u
  have r1 := rRow_any p 1
  have m1 := rEdge_any (rowF p 1) u
  have r2 := rRow_any p 2
  have m2 := rEdge_any (rowF p 2) u
  have r3 := rRow_any p 3
  have m3 := rEdge_any (rowF p 3) u
  unfold sdV
  generalize edK (rowF p 0) u = e0 at *
  generalize edK (rowF p 1) u = e1 at *
  generalize edK (rowF p 2) u = e2 at *
  generalize edK (rowF p 3) u = e3 at *
  refine Gives.mk fun w => ?_
  have hP0 : Blk (((w.alloc (.cells (ptsC 16 p) 24)).alloc (.cells #[.int .i64 0, .int .i64 0, .int .i64 0, .int .i64 0] 30)).alloc (.cells #[.int .i64 0, .int .i64 0, .int .i64 0, .int .i64 0] 30)) w.heap.size 24 (ptsC 16 p) := ((Blk.new _ _ _ _ rfl).alloc _).alloc _
  have hQ0 : Blk (((w.alloc (.cells (ptsC 16 p) 24)).alloc (.cells #[.int .i64 0, .int .i64 0, .int .i64 0, .int .i64 0] 30)).alloc (.cells #[.int .i64 0, .int .i64 0, .int .i64 0, .int .i64 0] 30)) (w.heap.size + 1) 30 #[.int .i64 0, .int .i64 0, .int .i64 0, .int .i64 0] := (Blk.new _ _ _ _ (by simp)).alloc _
  have hR0 : Blk (((w.alloc (.cells (ptsC 16 p) 24)).alloc (.cells #[.int .i64 0, .int .i64 0, .int .i64 0, .int .i64 0] 30)).alloc (.cells #[.int .i64 0, .int .i64 0, .int .i64 0, .int .i64 0] 30)) (w.heap.size + 1 + 1) 30 #[.int .i64 0, .int .i64 0, .int .i64 0, .int .i64 0] := Blk.new _ _ _ _ (by simp)
  have hB0 : Below w.heap.size w (((w.alloc (.cells (ptsC 16 p) 24)).alloc (.cells #[.int .i64 0, .int .i64 0, .int .i64 0, .int .i64 0] 30)).alloc (.cells #[.int .i64 0, .int .i64 0, .int .i64 0, .int .i64 0] 30)) := bel_alloc (bel_alloc (bel_alloc (Below.refl _ _) _) _) _
  go_enter Try.func13, Try.ntmps13
  go_upto_region 2 with (fail)
  generalize (((w.alloc (.cells (ptsC 16 p) 24)).alloc (.cells #[.int .i64 0, .int .i64 0, .int .i64 0, .int .i64 0] 30)).alloc (.cells #[.int .i64 0, .int .i64 0, .int .i64 0, .int .i64 0] 30)) = W0 at *
  go_wp2
  go_loopw [6] (fun iv wr => Below w.heap.size w wr ∧ Blk wr w.heap.size 24 (ptsC 16 p) ∧ Blk wr (w.heap.size + 1) 30 #[.int .i64 0, .int .i64 0, .int .i64 0, .int .i64 0] ∧ ((iv = .int .i64 0 ∧ Blk wr (w.heap.size + 1 + 1) 30 #[.int .i64 0, .int .i64 0, .int .i64 0, .int .i64 0]) ∨ (iv = .int .i64 1 ∧ Blk wr (w.heap.size + 1 + 1) 30 #[.int .i64 e0, .int .i64 0, .int .i64 0, .int .i64 0]) ∨ (iv = .int .i64 2 ∧ Blk wr (w.heap.size + 1 + 1) 30 #[.int .i64 e0, .int .i64 e1, .int .i64 0, .int .i64 0]) ∨ (iv = .int .i64 3 ∧ Blk wr (w.heap.size + 1 + 1) 30 #[.int .i64 e0, .int .i64 e1, .int .i64 e2, .int .i64 0]) ∨ (iv = .int .i64 4 ∧ Blk wr (w.heap.size + 1 + 1) 30 #[.int .i64 e0, .int .i64 e1, .int .i64 e2, .int .i64 e3]))) (fun iv _ => 4 - (intOf iv).toNat)
  case atStart => exact ⟨hB0, hP0, hQ0, .inl ⟨rfl, hR0⟩⟩
  case round =>
    obtain ⟨hBr, hPr, hQr, hi⟩ := hrel
    clear hB0 hP0 hQ0 hR0
    rename World => wr
    rcases hi with ⟨rfl, hRr⟩ | ⟨rfl, hRr⟩ | ⟨rfl, hRr⟩ | ⟨rfl, hRr⟩ | ⟨rfl, hRr⟩
    · have pl := hPr.lt
      go_upto_region 5 with (fail)
      go_wp2_with (first | ((refine load16 rfl _ rfl w.heap.size rfl p hPr ?_); simp only [Act.put, List.setIfInBounds_toArray, List.set_cons_succ, List.set_cons_zero]) | (go_at_call 22; (with_reducible refine (r0.at_ _).mono ?_); rintro e w' ⟨rfl, xr, rfl⟩) | (go_at_call 11; (with_reducible refine (m0.at_ _).mono ?_); rintro e Wo ⟨rfl, xe, hWo⟩; have hP3 : Blk Wo w.heap.size 24 (ptsC 16 p) := hWo ▸ (hPr.grow xr).grow xe; have hQ3 : Blk Wo (w.heap.size + 1) 30 #[.int .i64 0, .int .i64 0, .int .i64 0, .int .i64 0] := hWo ▸ (hQr.grow xr).grow xe; have hR3 : Blk Wo (w.heap.size + 1 + 1) 30 #[.int .i64 0, .int .i64 0, .int .i64 0, .int .i64 0] := hWo ▸ (hRr.grow xr).grow xe; have hB3 : Below w.heap.size w Wo := hWo ▸ bel_grow (bel_grow hBr xr) xe; clear hWo; have rl := hR3.lt; have f0 := hR3.frozen 0; have q0 := hR3.cell 0) | fail)
      go_roundw
      case rel => exact ⟨bel_set hB3 (by show w.heap.size ≤ w.heap.size + 1 + 1; omega) _, hP3.far _ _ (by omega), hQ3.far _ _ (by omega), .inr (.inl ⟨rfl, hR3.set 0 _⟩)⟩
      case measure => simp [intOf]
    · have pl := hPr.lt
      go_upto_region 5 with (fail)
      go_wp2_with (first | ((refine load16 rfl _ rfl w.heap.size rfl p hPr ?_); simp only [Act.put, List.setIfInBounds_toArray, List.set_cons_succ, List.set_cons_zero]) | (go_at_call 22; (with_reducible refine (r1.at_ _).mono ?_); rintro e w' ⟨rfl, xr, rfl⟩) | (go_at_call 11; (with_reducible refine (m1.at_ _).mono ?_); rintro e Wo ⟨rfl, xe, hWo⟩; have hP3 : Blk Wo w.heap.size 24 (ptsC 16 p) := hWo ▸ (hPr.grow xr).grow xe; have hQ3 : Blk Wo (w.heap.size + 1) 30 #[.int .i64 0, .int .i64 0, .int .i64 0, .int .i64 0] := hWo ▸ (hQr.grow xr).grow xe; have hR3 : Blk Wo (w.heap.size + 1 + 1) 30 #[.int .i64 e0, .int .i64 0, .int .i64 0, .int .i64 0] := hWo ▸ (hRr.grow xr).grow xe; have hB3 : Below w.heap.size w Wo := hWo ▸ bel_grow (bel_grow hBr xr) xe; clear hWo; have rl := hR3.lt; have f0 := hR3.frozen 1; have q0 := hR3.cell 1) | fail)
      go_roundw
      case rel => exact ⟨bel_set hB3 (by show w.heap.size ≤ w.heap.size + 1 + 1; omega) _, hP3.far _ _ (by omega), hQ3.far _ _ (by omega), .inr (.inr (.inl ⟨rfl, hR3.set 1 _⟩))⟩
      case measure => simp [intOf]
    · have pl := hPr.lt
      go_upto_region 5 with (fail)
      go_wp2_with (first | ((refine load16 rfl _ rfl w.heap.size rfl p hPr ?_); simp only [Act.put, List.setIfInBounds_toArray, List.set_cons_succ, List.set_cons_zero]) | (go_at_call 22; (with_reducible refine (r2.at_ _).mono ?_); rintro e w' ⟨rfl, xr, rfl⟩) | (go_at_call 11; (with_reducible refine (m2.at_ _).mono ?_); rintro e Wo ⟨rfl, xe, hWo⟩; have hP3 : Blk Wo w.heap.size 24 (ptsC 16 p) := hWo ▸ (hPr.grow xr).grow xe; have hQ3 : Blk Wo (w.heap.size + 1) 30 #[.int .i64 0, .int .i64 0, .int .i64 0, .int .i64 0] := hWo ▸ (hQr.grow xr).grow xe; have hR3 : Blk Wo (w.heap.size + 1 + 1) 30 #[.int .i64 e0, .int .i64 e1, .int .i64 0, .int .i64 0] := hWo ▸ (hRr.grow xr).grow xe; have hB3 : Below w.heap.size w Wo := hWo ▸ bel_grow (bel_grow hBr xr) xe; clear hWo; have rl := hR3.lt; have f0 := hR3.frozen 2; have q0 := hR3.cell 2) | fail)
      go_roundw
      case rel => exact ⟨bel_set hB3 (by show w.heap.size ≤ w.heap.size + 1 + 1; omega) _, hP3.far _ _ (by omega), hQ3.far _ _ (by omega), .inr (.inr (.inr (.inl ⟨rfl, hR3.set 2 _⟩)))⟩
      case measure => simp [intOf]
    · have pl := hPr.lt
      go_upto_region 5 with (fail)
      go_wp2_with (first | ((refine load16 rfl _ rfl w.heap.size rfl p hPr ?_); simp only [Act.put, List.setIfInBounds_toArray, List.set_cons_succ, List.set_cons_zero]) | (go_at_call 22; (with_reducible refine (r3.at_ _).mono ?_); rintro e w' ⟨rfl, xr, rfl⟩) | (go_at_call 11; (with_reducible refine (m3.at_ _).mono ?_); rintro e Wo ⟨rfl, xe, hWo⟩; have hP3 : Blk Wo w.heap.size 24 (ptsC 16 p) := hWo ▸ (hPr.grow xr).grow xe; have hQ3 : Blk Wo (w.heap.size + 1) 30 #[.int .i64 0, .int .i64 0, .int .i64 0, .int .i64 0] := hWo ▸ (hQr.grow xr).grow xe; have hR3 : Blk Wo (w.heap.size + 1 + 1) 30 #[.int .i64 e0, .int .i64 e1, .int .i64 e2, .int .i64 0] := hWo ▸ (hRr.grow xr).grow xe; have hB3 : Below w.heap.size w Wo := hWo ▸ bel_grow (bel_grow hBr xr) xe; clear hWo; have rl := hR3.lt; have f0 := hR3.frozen 3; have q0 := hR3.cell 3) | fail)
      go_roundw
      case rel => exact ⟨bel_set hB3 (by show w.heap.size ≤ w.heap.size + 1 + 1; omega) _, hP3.far _ _ (by omega), hQ3.far _ _ (by omega), .inr (.inr (.inr (.inr (⟨rfl, hR3.set 3 _⟩))))⟩
      case measure => simp [intOf]
    · have rl := hRr.lt
      have ql := hQr.lt
      have c0 := hRr.cell 0
      have o0 := hQr.cell 0
      have f0 := hQr.frozen 0
      have c1 := hRr.cell 1
      have o1 := hQr.cell 1
      have f1 := hQr.frozen 1
      have c2 := hRr.cell 2
      have o2 := hQr.cell 2
      have f2 := hQr.frozen 2
      have c3 := hRr.cell 3
      have o3 := hQr.cell 3
      have f3 := hQr.frozen 3
      go_wp2
      have hQ5 := (((hQr.set 0 (.int .i64 e0)).set 1 (.int .i64 e1)).set 2 (.int .i64 e2)).set 3 (.int .i64 e3)
      have hB5 : Below w.heap.size w ((((wr.setCell ⟨w.heap.size + 1, 0, none⟩ (.int .i64 e0)).setCell ⟨w.heap.size + 1, 1, none⟩ (.int .i64 e1)).setCell ⟨w.heap.size + 1, 2, none⟩ (.int .i64 e2)).setCell ⟨w.heap.size + 1, 3, none⟩ (.int .i64 e3)) := bel_set (bel_set (bel_set (bel_set hBr (by simp) _) (by simp) _) (by simp) _) (by simp) _
      generalize ((((wr.setCell ⟨w.heap.size + 1, 0, none⟩ (.int .i64 e0)).setCell ⟨w.heap.size + 1, 1, none⟩ (.int .i64 e1)).setCell ⟨w.heap.size + 1, 2, none⟩ (.int .i64 e2)).setCell ⟨w.heap.size + 1, 3, none⟩ (.int .i64 e3)) = WE at *
      have w0 : WE.cell? ⟨w.heap.size + 1, 0, none⟩ = some (.int .i64 e0) := hQ5.cell 0
      have w1 : WE.cell? ⟨w.heap.size + 1, 1, none⟩ = some (.int .i64 e1) := hQ5.cell 1
      have w2 : WE.cell? ⟨w.heap.size + 1, 2, none⟩ = some (.int .i64 e2) := hQ5.cell 2
      have w3 : WE.cell? ⟨w.heap.size + 1, 3, none⟩ = some (.int .i64 e3) := hQ5.cell 3
      refine bodyPost_ret (v := .agg #[.int .i64 e0, .int .i64 e1, .int .i64 e2, .int .i64 e3]) (by simp [results, Try.results13, go_sem, w0, w1, w2, w3]) rfl ⟨rfl, hB5⟩
def alP (k : Nat) : P3 := if k = 0 then ⟨0, 0, 0⟩ else if k = 1 then ⟨3, 0, 0⟩ else if k = 2 then ⟨3, -3, 0⟩ else ⟨3, -3, 3⟩
theorem alive12_any : Gives Try.prog 7 #[] (.bool true) := by
  have k1 := length_any alP
  have k2 := edge_any alP 4
  have k3 := edge_any alP 0
  rw [show lenK alP = 9 by decide +kernel, show okB alP 4 = true by decide +kernel, show ptsC 4 alP = #[.int .i64 0, .int .i64 0, .int .i64 0, .int .i64 3, .int .i64 0, .int .i64 0, .int .i64 3, .int .i64 (-3), .int .i64 0, .int .i64 3, .int .i64 (-3), .int .i64 3] by kernel_rfl] at k1
  rw [show edK alP 4 = 3 by decide +kernel, show ptsC 4 alP = #[.int .i64 0, .int .i64 0, .int .i64 0, .int .i64 3, .int .i64 0, .int .i64 0, .int .i64 3, .int .i64 (-3), .int .i64 0, .int .i64 3, .int .i64 (-3), .int .i64 3] by kernel_rfl] at k2
  rw [show edK alP 0 = 0 by decide +kernel, show ptsC 4 alP = #[.int .i64 0, .int .i64 0, .int .i64 0, .int .i64 3, .int .i64 0, .int .i64 0, .int .i64 3, .int .i64 (-3), .int .i64 0, .int .i64 3, .int .i64 (-3), .int .i64 3] by kernel_rfl] at k3
  refine Gives.mk fun w => ?_
  go_enter Try.func7, Try.ntmps7
  go_wp2_with (first | (go_at_call 8; ((with_reducible refine (k1.at_ _).mono ?_); rintro e w' ⟨rfl, xg, rfl⟩)) | (go_at_call 10; first | ((with_reducible refine (k2.at_ _).mono ?_); rintro e w' ⟨rfl, xh, rfl⟩) | ((with_reducible refine (k3.at_ _).mono ?_); rintro e w' ⟨rfl, xi, rfl⟩)) | fail)
  go_ret
  exact ⟨rfl, (by repeat (first | exact Below.refl _ _ | refine bel_then ?_ _ | refine bel_grow ?_ _ | refine bel_alloc ?_ _ | refine bel_drew ?_ | refine bel_set ?_ (by simp) _ | refine bel_setRow ?_ (by first | omega | (simp; done) | (refine Nat.le_trans ?_ (top_le _ _); simp; done) | (refine Nat.le_succ_of_le (Nat.le_trans ?_ (top_le _ _)); simp; done) | (refine Nat.le_trans ?_ (top_le _ _); simp only [World.size_alloc]; refine Nat.le_succ_of_le (Nat.le_trans ?_ (top_le _ _)); simp; done)) _))⟩
end Go.Proofs.Ytgmifpicilfcdaa
namespace Go.Proofs.Ytgmifpicilfcdaa
open Go.RowKit
set_option linter.unusedVariables false
set_option linter.unusedSimpArgs false
set_option linter.unnecessarySimpa false
set_option maxRecDepth 100000
theorem edK_bd (p : Nat → P3) (u : Int) : 0 ≤ edK p u ∧ edK p u ≤ 16 := by
  unfold edK
  split
  · rename_i h
    have := edF_bd (lenF_bd h.1).1 h.2
    omega
  · omega
def sm16 (e : Int) : Prop := 0 ≤ e ∧ e ≤ 16
theorem sm16_wf {a : Int} (h : sm16 a) : (Lit.int .i64 a).wf = true := wf_of ⟨by have := h.1; omega, by have := h.2; omega⟩
theorem formI (a b c d : Int) : (Value.agg #[.int .i64 a, .int .i64 b, .int .i64 c, .int .i64 d]).formed Try.prog 30 = true := by rfl
theorem cellsI4 : Try.prog.cellsOf 30 = 4 := by kernel_rfl
theorem lit1s (n : Nat) {a : Int} (h : sm16 a) : Try.prog.keyLits (n + 1) 3 [.int .i64 a] = some [.int .i64 a] := by
  unfold Program.keyLits
  rw [Try.underlying3]
  simp [sm16_wf h]
theorem litsI {a b c d : Int} (ha : sm16 a) (hb : sm16 b) (hc : sm16 c) (hd : sm16 d) : Try.prog.keyLits 12 30 (Value.agg #[.int .i64 a, .int .i64 b, .int .i64 c, .int .i64 d]).cells.toList = some [.int .i64 a, .int .i64 b, .int .i64 c, .int .i64 d] := by
  have c0 := lit1s 10 ha
  have c1 := lit1s 10 hb
  have c2 := lit1s 10 hc
  have c3 := lit1s 10 hd
  have ci : Try.prog.cellsOf 3 = 1 := by kernel_rfl
  unfold Program.keyLits
  rw [Try.underlying30]
  simp [cellsI4, ci, List.range_succ, Value.cells, c0, c1, c2, c3]
theorem eqI {a b c d : Int} (ha : sm16 a) (hb : sm16 b) (hc : sm16 c) (hd : sm16 d) (w : World) : (binOp .eql 30 (.agg #[.int .i64 a, .int .i64 b, .int .i64 c, .int .i64 d]) (.agg #[.int .i64 a, .int .i64 b, .int .i64 c, .int .i64 d])).run Try.prog w = .ok (.bool true) w := by
  obtain ⟨r, hr, hi⟩ := run_equalIn_deep (P := Try.prog) 9990 10 30 (by kernel_rfl) w 12 12 _ _ _ _ (formI a b c d) (formI a b c d) (litsI ha hb hc hd) (litsI ha hb hc hd)
  rw [hi.2 rfl] at hr
  rw [run_eql_struct, hr]
  rfl
theorem quiet_eqI {ops : Array Oper} {C : World → Prop} {Q : Act → Prop} {o : Oper} {rest : List Oper} {A : Act} (x y : Operand) (ho : o.op = .binOp .eql 30 x y 30) (hg : Region.wanted o (yielded ops A.tmps) = true) (a b c d : Int) (hx : A.eval x = .agg #[.int .i64 a, .int .i64 b, .int .i64 c, .int .i64 d]) (hy : A.eval y = .agg #[.int .i64 a, .int .i64 b, .int .i64 c, .int .i64 d])
    (ha : sm16 a) (hb : sm16 b) (hc : sm16 c) (hd : sm16 d) (K : wpQuiet Try.prog ops C Q rest (A.put o.dst (.bool true))) : wpQuiet Try.prog ops C Q (o :: rest) A :=
  quiet_by2 hg _ (fun u _ => by
    have := eqI ha hb hc hd u
    have hg := run_eqGuard_agg (P := Try.prog) (w := u) .eql 30 x y #[.int .i64 a, .int .i64 b, .int .i64 c, .int .i64 d] #[.int .i64 a, .int .i64 b, .int .i64 c, .int .i64 d] (by kernel_rfl)
    unfold execOp
    simp only [ho, hx, hy, Sem.run_bind, hg, this, Result.andThen_ok, Sem.run_pure]) K
def Z3 (_ : Nat) : P3 := N3
theorem ptsC_one (n : Nat) (p : Nat → P3) : (ptsC n p).all (·.oneCell') = true := by
  unfold ptsC rowCs
  simp only [List.all_toArray, List.all_map, List.all_eq_true]
  intro j _
  rfl
theorem info16 : (Try.prog.info? 24).map (·.size) = some 48 := by kernel_rfl
theorem alloc_Z16 (a : Act) (o : Oper) (ho : o.op = .alloc 24) (w : World) (n : Nat) (hn : n = w.heap.size) :
    (execOp a.eval o).run Try.prog w = .ok (.value (.pointer (some ⟨n, 0, none⟩))) (w.alloc (.cells (ptsC 16 Z3) 24)) := by
  subst hn
  unfold execOp
  rw [ho]
  kernel_rfl
theorem build_Z16 (e : Act) (o : Oper) (ho : o.op = .build 24 #[]) (w : World) : (execOp e.eval o).run Try.prog w = .ok (.value (.agg (ptsC 16 Z3))) w := by
  unfold execOp
  rw [ho]
  kernel_rfl
theorem wpList_store_Z16 {ops : Array Oper} {rest : List Oper} {o : Oper} {e : Act} {w : World} {Q : Exit → Act → World → Prop} (hgd : o.guard = none) (x y : Operand) (ho : o.op = .store 24 x y)
    (W : World) (p : Nat → P3) (hx : e.eval x = .pointer (some ⟨W.heap.size, 0, none⟩)) (hy : e.eval y = .agg (ptsC 16 p)) (hw : w = W.alloc (.cells (ptsC 16 Z3) 24))
    (h : wpList Try.prog ops Q rest (e.put o.dst undef) (W.alloc (.cells (ptsC 16 p) 24))) : wpList Try.prog ops Q (o :: rest) e w := by
  subst hw
  refine wpList_store_row hgd 24 x y ho W.heap.size (ptsC 16 p) hx hy 24 (ptsC 16 Z3) (heap_alloc_new _ _) (by rw [ptsC_size]; exact info16) (by rw [ptsC_size, ptsC_size]) (ptsC_one _ _) ?_
  rw [setRow_alloc_at _ _ _ _ _ rfl]
  exact h
/-- A patch that is turned: as many of its points as are laid. -/
def trn (p : Nat → P3) (m k : Nat) : P3 := if k < m then p (4 * (k % 4) + 3 - k / 4) else N3
theorem trn_next (p : Nat → P3) {m s : Nat} (hm : m < 16) (hs : s = 4 * (m % 4) + 3 - m / 4) : ((((ptsC 16 (trn p m)).setIfInBounds (m * 3) (.int .i64 (p s).x)).setIfInBounds (m * 3 + 1) (.int .i64 (p s).y)).setIfInBounds (m * 3 + 2) (.int .i64 (p s).z)) = ptsC 16 (trn p (m + 1)) := by
  subst hs
  rw [ptsC_set _ hm]
  refine ptsC_ext fun v hv => ?_
  unfold trn
  by_cases e : v = m
  · subst e; rw [if_pos rfl, if_pos (by omega)]
  · rw [if_neg e]
    by_cases e2 : v < m
    · rw [if_pos e2, if_pos (by omega)]
    · rw [if_neg e2, if_neg (by omega)]
theorem trn_zero (p : Nat → P3) : ptsC 16 (trn p 0) = ptsC 16 Z3 := ptsC_ext fun v hv => by unfold trn Z3; simp
theorem edK_ext {p q : Nat → P3} (h : ∀ k, k < 4 → p k = q k) (u : Int) : edK p u = edK q u := by
  rw [← edK_pr p, ← edK_pr q, h 0 (by omega), h 1 (by omega), h 2 (by omega), h 3 (by omega)]
theorem trn_ed (p : Nat → P3) (u : Int) : edK (rowF (trn p 16) 0) u = edK (rowF p 1) u ∧ edK (rowF (trn p 16) 1) u = edK (rowF p 2) u ∧ edK (rowF (trn p 16) 2) u = edK (rowF p 3) u ∧ edK (rowF (trn p 16) 3) u = edK (rowF p 0) u := by
  refine ⟨edK_ext (fun k hk => ?_) u, edK_ext (fun k hk => ?_) u, edK_ext (fun k hk => ?_) u, edK_ext (fun k hk => ?_) u⟩ <;> rcases (by omega : k = 0 ∨ k = 1 ∨ k = 2 ∨ k = 3) with rfl | rfl | rfl | rfl <;> rfl
end Go.Proofs.Ytgmifpicilfcdaa
namespace Go.Proofs.Ytgmifpicilfcdaa
open Go.ChangeShapes Go.WideShapes Go.ChangeAt Go.RowKit
set_option linter.unusedVariables false
set_option linter.unusedSimpArgs false
variable {H : Type} {enc : TypeId × Value → H} {P : Program}
theorem args_below (hl : laidOutB P = true) {W W' : World} (hb : Below W.heap.size W W') : ∀ (ts : List TypeId) (vs : List Value) (ds : List (DataW H)) (ps : List MemPlace),
    (ts.all fun t => P.readableRec t && decide (t < P.types.size)) = true → (∀ x ∈ ps, x.block < W.heap.size) →
    DataW.TrodAll enc P W 0 (fun _ => true) true ts vs ds ps → DataW.TrodAll enc P W' 0 (fun b => decide (b < W.heap.size)) true ts vs ds ps := by
  intro ts
  induction ts with
  | nil =>
    intro vs ds ps _ _ h
    obtain ⟨rfl, rfl, rfl⟩ := trodAll_nil h
    exact trodAll_mk0
  | cons t ts ih =>
    intro vs ds ps ht hx h
    simp only [List.all_cons, Bool.and_eq_true, decide_eq_true_eq] at ht
    obtain ⟨v, vs', d, ds', p, q, rfl, rfl, rfl, h0, h1⟩ := trodAll_cons h
    exact trodAll_cons_mk (Below.trod hl ht.1.1 ht.1.2 h0 hb fun x hp => hx x (by simp [hp])) (ih vs' ds' q ht.2 (fun x hp => hx x (by simp [hp])) h1)
theorem law_post {f : Func} {s : ChangeSpec} {W W' : World} {args : Array Value} {ds gs : List (DataW H)} {before : List MemPlace} {tb : TypeId}
    (hl : laidOutB P = true) (hts : (f.params.toList.all fun t => P.readableRec t && decide (t < P.types.size)) = true) (hv : s.vars = [])
    (hres : f.resultTypes = #[tb]) (htb : P.underlying tb = some .bool) (hr : (s.fn H ds).results = [.lit (.bool true)]) (ha : (s.fn H ds).args = ds) (hg : (s.fn H ds).vars = [])
    (hW : DataW.Whole enc P f.params.toList s.vars false W args.toList ds gs before) (hb : Below W.heap.size W W') :
    s.post enc P f false true false false W args (.bool true) W' := by
  have hlt := fun p hp => hW.lt (p := p) hp
  have hW0 := hW
  obtain ⟨p, q, h1, h2, rfl, hz, hn⟩ := hW
  rw [hv] at h2
  obtain ⟨rfl, rfl⟩ := trodVars_none h2
  simp only [List.append_nil] at *
  refine ⟨ds, [], p, [], p, [], hW0, ?_, ?_, ?_, World.keptBut_mono (fun _ h => h.elim) (hb.frame fun _ => False), fun h => by cases h⟩
  · simp only [List.append_nil, hr, hres]
    exact trodAll_cons_mk (shut_bool htb true) trodAll_mk0
  · simp only [List.append_nil, ha]
    exact args_below hl hb _ _ _ _ hts (fun x hx => hlt x hx) h1
  · simp only [List.append_nil, hg, hv]
    rfl
end Go.Proofs.Ytgmifpicilfcdaa
