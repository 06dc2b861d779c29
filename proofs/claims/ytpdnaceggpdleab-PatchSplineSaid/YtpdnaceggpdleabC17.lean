/- Package patch: a patch's control points but those at its corners. Package patch: the faces by their four corners. A region in any order in which one operation makes a block and one changes the memory behind it, all the others read: whatever the order, the same is found. No program is imported. Package patch: the rows of sharp edges' other ends, as they grow. Package patch: a cage's net. Package patch: a cage's net keeps to what its walks ask. -/
import Derived.Maps.AppendAt
import Derived.Test.YtpdnaceggpdleabC11
import Derived.Test.YtpdnaceggpdleabC13
import Derived.Test.YtpdnaceggpdleabC16
namespace Go.Proofs.Ytpdnaceggpdleab
open Go.RowKit
set_option linter.unusedVariables false
set_option linter.unusedSimpArgs false
set_option linter.unnecessarySimpa false
set_option maxRecDepth 100000
def NetD.side4 (N : NetD) (f c0 c1 c2 c3 : Int) (u : Nat) : P3 := if u = 13 then N.near c3 c2 else (if u = 8 then N.near c3 c0 else (if u = 9 then N.inner f c3 else (if u = 11 then N.near c2 c1 else (if u = 14 then N.near c2 c3 else (if u = 10 then N.inner f c2 else (if u = 2 then N.near c1 c0 else (if u = 7 then N.near c1 c2 else (if u = 6 then N.inner f c1 else (if u = 4 then N.near c0 c3 else (if u = 1 then N.near c0 c1 else (if u = 5 then N.inner f c0 else (Z3))))))))))))
/-- A face's control points but those at its corners. -/
def NetD.side (N : NetD) (f : Nat) : Nat → P3 := N.side4 (f : Int) ((N.fs.getD f []).getD 0 0) ((N.fs.getD f []).getD 1 0) ((N.fs.getD f []).getD 2 0) ((N.fs.getD f []).getD 3 0)
theorem pC_one (n : Nat) (f : Nat → P3) : (rowCs 3 n (pC f)).all (·.oneCell') = true := by
  unfold rowCs
  simp only [List.all_toArray, List.all_map, List.all_eq_true]
  intro j _
  rfl
theorem info16 : (Try.prog.info? 40).map (·.size) = some 48 := by kernel_rfl
theorem alloc_P16 (a : Act) (o : Oper) (ho : o.op = .alloc 40) (w : World) (n : Nat) (hn : n = w.heap.size) :
    (execOp a.eval o).run Try.prog w = .ok (.value (.pointer (some ⟨n, 0, none⟩))) (w.alloc (.cells (rowCs 3 16 (pC fun _ => Z3)) 40)) := by
  subst hn
  unfold execOp
  rw [ho]
  kernel_rfl
theorem load_P16 {ops : Array Oper} {rest : List Oper} {op : Oper} {a : Act} {w : World} {Q : Exit → Act → World → Prop} (hgd : op.guard = none) (x : Operand) (ho : op.op = .load 40 x) (b : Nat) (hx : a.eval x = .pointer (some ⟨b, 0, none⟩)) (f : Nat → P3) (h : Blk w b 40 (rowCs 3 16 (pC f)))
    (k : wpList Try.prog ops Q rest (a.put op.dst (.agg (rowCs 3 16 (pC f)))) w) : wpList Try.prog ops Q (op :: rest) a w := by
  refine wpList_load_mid hgd 40 x ho b 0 hx (rowCs 3 16 (pC f)).toList _ (rng_blkN h) Try.underlying40 rfl (by rw [Array.length_toList, rowCs_size]; exact info16) ?_
  rw [Array.toArray_toList]
  exact k
theorem store_P16 {ops : Array Oper} {rest : List Oper} {o : Oper} {a : Act} {w : World} {Q : Exit → Act → World → Prop} (hgd : o.guard = none) (x y : Operand) (ho : o.op = .store 40 x y) (g : Nat) (f e : Nat → P3) (hx : a.eval x = .pointer (some ⟨g, 0, none⟩)) (hy : a.eval y = .agg (rowCs 3 16 (pC f))) (h : Blk w g 40 (rowCs 3 16 (pC e)))
    (k : wpList Try.prog ops Q rest (a.put o.dst undef) (w.setRow g (rowCs 3 16 (pC f)))) : wpList Try.prog ops Q (o :: rest) a w :=
  wpList_store_row hgd 40 x y ho g _ hx hy 40 _ h (by rw [rowCs_size]; exact info16) (by rw [rowCs_size, rowCs_size]) (pC_one _ _) k
set_option maxHeartbeats 8000000 in
theorem sides_any (W : World) (N : NetD) (a : NetA) (hN : NetV W N a) (ok : NetOk N) (f : Nat) (hf : f < N.fs.length) :
    Calls Try.prog 17 #[.agg (netC N a), .int .i64 (f : Int)] W fun e W' => e = .returned (.agg (rowCs 3 16 (pC (N.side f)))) ∧ Below W.heap.size W W' := by
  obtain ⟨h4, hin⟩ := ok.four _ (List.getElem_mem hf)
  have hed := ok.edge _ (List.getElem_mem hf)
  obtain ⟨bq, oq, hbq, hql, hqc⟩ : ∃ b off, a.Q = some ⟨b, off, none⟩ ∧ b < W.heap.size ∧ ∀ k, k < 4 → W.cell? ⟨b, off + f * 4 + k, none⟩ = some (.int .i64 (N.fs[f].getD k 0)) := by
    obtain ⟨b, off, h1, h2, h3⟩ := hN.fs (by omega)
    exact ⟨b, off, h1, h2, fun k hk => h3 f hf k hk⟩
  have hse : N.side f = N.side4 (f : Int) (N.fs[f].getD 0 0) (N.fs[f].getD 1 0) (N.fs[f].getD 2 0) (N.fs[f].getD 3 0) := by
    have e : N.fs.getD f [] = N.fs[f] := by rw [List.getD_eq_getElem?_getD, List.getElem?_eq_getElem hf]; rfl
    unfold NetD.side
    rw [e]
  have kI := fun (u : World) (hu : NetV u N a) (v : Nat) (hv : v < N.vs.length) (hm : (v : Int) ∈ N.fs[f]) => inner_any u N a hu ok f v hf hv hm
  have kN := fun (u : World) (hu : NetV u N a) (v w : Nat) (hv : v < N.vs.length) (hw : w < N.vs.length) (hi : eix N.t.es (v : Int) (w : Int) < N.t.es.length) => near_any u N a hu ok v w hv hw hi
  obtain ⟨x0, x1, x2, x3, hx⟩ := four_of h4
  rw [hx] at hin hqc hed hse kI
  have e01 := hed 0 (by omega)
  have e12 := hed 1 (by omega)
  have e23 := hed 2 (by omega)
  have e30 := hed 3 (by omega)
  have c0 := hqc 0 (by omega)
  have c1 := hqc 1 (by omega)
  have c2 := hqc 2 (by omega)
  have c3 := hqc 3 (by omega)
  simp only [List.getD_cons_zero, List.getD_cons_succ, Nat.add_zero, Nat.reduceAdd, Nat.reduceMod] at c0 c1 c2 c3 e01 e12 e23 e30 hse
  clear hqc h4 hx hed
  obtain ⟨⟨h00, h01⟩, ⟨h10, h11⟩, ⟨h20, h21⟩, h30, h31⟩ : (0 ≤ x0 ∧ x0 < N.vs.length) ∧ (0 ≤ x1 ∧ x1 < N.vs.length) ∧ (0 ≤ x2 ∧ x2 < N.vs.length) ∧ 0 ≤ x3 ∧ x3 < N.vs.length := ⟨hin _ (by simp), hin _ (by simp), hin _ (by simp), hin _ (by simp)⟩
  clear hin
  obtain ⟨y0, rfl⟩ := Int.eq_ofNat_of_zero_le h00
  obtain ⟨y1, rfl⟩ := Int.eq_ofNat_of_zero_le h10
  obtain ⟨y2, rfl⟩ := Int.eq_ofNat_of_zero_le h20
  obtain ⟨y3, rfl⟩ := Int.eq_ofNat_of_zero_le h30
  have kI0 := fun (u : World) (hu : NetV u N a) => kI u hu y0 (by omega) (by simp)
  have kI1 := fun (u : World) (hu : NetV u N a) => kI u hu y1 (by omega) (by simp)
  have kI2 := fun (u : World) (hu : NetV u N a) => kI u hu y2 (by omega) (by simp)
  have kI3 := fun (u : World) (hu : NetV u N a) => kI u hu y3 (by omega) (by simp)
  have kN01 := fun (u : World) (hu : NetV u N a) => kN u hu y0 y1 (by omega) (by omega) e01
  have kN03 := fun (u : World) (hu : NetV u N a) => kN u hu y0 y3 (by omega) (by omega) (by rw [eix_symm]; exact e30)
  have kN12 := fun (u : World) (hu : NetV u N a) => kN u hu y1 y2 (by omega) (by omega) e12
  have kN10 := fun (u : World) (hu : NetV u N a) => kN u hu y1 y0 (by omega) (by omega) (by rw [eix_symm]; exact e01)
  have kN23 := fun (u : World) (hu : NetV u N a) => kN u hu y2 y3 (by omega) (by omega) e23
  have kN21 := fun (u : World) (hu : NetV u N a) => kN u hu y2 y1 (by omega) (by omega) (by rw [eix_symm]; exact e12)
  have kN30 := fun (u : World) (hu : NetV u N a) => kN u hu y3 y0 (by omega) (by omega) e30
  have kN32 := fun (u : World) (hu : NetV u N a) => kN u hu y3 y2 (by omega) (by omega) (by rw [eix_symm]; exact e23)
  clear kI kN e01 e12 e23 e30
  rw [hse]
  obtain ⟨D0, hD0⟩ : ∃ g : Nat → P3, g = fun _ => Z3 := ⟨_, rfl⟩
  obtain ⟨D1, hD1⟩ : ∃ g : Nat → P3, g = fun u => if u = 5 then N.inner (f : Int) (y0 : Int) else D0 u := ⟨_, rfl⟩
  obtain ⟨D2, hD2⟩ : ∃ g : Nat → P3, g = fun u => if u = 1 then N.near (y0 : Int) (y1 : Int) else D1 u := ⟨_, rfl⟩
  obtain ⟨D3, hD3⟩ : ∃ g : Nat → P3, g = fun u => if u = 4 then N.near (y0 : Int) (y3 : Int) else D2 u := ⟨_, rfl⟩
  obtain ⟨D4, hD4⟩ : ∃ g : Nat → P3, g = fun u => if u = 6 then N.inner (f : Int) (y1 : Int) else D3 u := ⟨_, rfl⟩
  obtain ⟨D5, hD5⟩ : ∃ g : Nat → P3, g = fun u => if u = 7 then N.near (y1 : Int) (y2 : Int) else D4 u := ⟨_, rfl⟩
  obtain ⟨D6, hD6⟩ : ∃ g : Nat → P3, g = fun u => if u = 2 then N.near (y1 : Int) (y0 : Int) else D5 u := ⟨_, rfl⟩
  obtain ⟨D7, hD7⟩ : ∃ g : Nat → P3, g = fun u => if u = 10 then N.inner (f : Int) (y2 : Int) else D6 u := ⟨_, rfl⟩
  obtain ⟨D8, hD8⟩ : ∃ g : Nat → P3, g = fun u => if u = 14 then N.near (y2 : Int) (y3 : Int) else D7 u := ⟨_, rfl⟩
  obtain ⟨D9, hD9⟩ : ∃ g : Nat → P3, g = fun u => if u = 11 then N.near (y2 : Int) (y1 : Int) else D8 u := ⟨_, rfl⟩
  obtain ⟨D10, hD10⟩ : ∃ g : Nat → P3, g = fun u => if u = 9 then N.inner (f : Int) (y3 : Int) else D9 u := ⟨_, rfl⟩
  obtain ⟨D11, hD11⟩ : ∃ g : Nat → P3, g = fun u => if u = 8 then N.near (y3 : Int) (y0 : Int) else D10 u := ⟨_, rfl⟩
  obtain ⟨D12, hD12⟩ : ∃ g : Nat → P3, g = fun u => if u = 13 then N.near (y3 : Int) (y2 : Int) else D11 u := ⟨_, rfl⟩
  have hDe : N.side4 (f : Int) (y0 : Int) (y1 : Int) (y2 : Int) (y3 : Int) = D12 := by rw [hD12, hD11, hD10, hD9, hD8, hD7, hD6, hD5, hD4, hD3, hD2, hD1, hD0]; rfl
  rw [hDe]
  clear hDe hse
  generalize N.inner (f : Int) (y0 : Int) = i0 at *
  generalize N.near (y0 : Int) (y1 : Int) = a0 at *
  generalize N.near (y0 : Int) (y3 : Int) = b0 at *
  generalize N.inner (f : Int) (y1 : Int) = i1 at *
  generalize N.near (y1 : Int) (y2 : Int) = a1 at *
  generalize N.near (y1 : Int) (y0 : Int) = b1 at *
  generalize N.inner (f : Int) (y2 : Int) = i2 at *
  generalize N.near (y2 : Int) (y3 : Int) = a2 at *
  generalize N.near (y2 : Int) (y1 : Int) = b2 at *
  generalize N.inner (f : Int) (y3 : Int) = i3 at *
  generalize N.near (y3 : Int) (y0 : Int) = a3 at *
  generalize N.near (y3 : Int) (y2 : Int) = b3 at *
  have hn0 : set3 (rowCs 3 16 (pC D0)) (5 * 3) i0 = rowCs 3 16 (pC D1) := by rw [pC_set D0 (show 5 < 16 by omega), hD1]
  replace hn0 := Lib.hid hn0
  have hn1 : set3 (rowCs 3 16 (pC D1)) (1 * 3) a0 = rowCs 3 16 (pC D2) := by rw [pC_set D1 (show 1 < 16 by omega), hD2]
  replace hn1 := Lib.hid hn1
  have hn2 : set3 (rowCs 3 16 (pC D2)) (4 * 3) b0 = rowCs 3 16 (pC D3) := by rw [pC_set D2 (show 4 < 16 by omega), hD3]
  replace hn2 := Lib.hid hn2
  have hn3 : set3 (rowCs 3 16 (pC D3)) (6 * 3) i1 = rowCs 3 16 (pC D4) := by rw [pC_set D3 (show 6 < 16 by omega), hD4]
  replace hn3 := Lib.hid hn3
  have hn4 : set3 (rowCs 3 16 (pC D4)) (7 * 3) a1 = rowCs 3 16 (pC D5) := by rw [pC_set D4 (show 7 < 16 by omega), hD5]
  replace hn4 := Lib.hid hn4
  have hn5 : set3 (rowCs 3 16 (pC D5)) (2 * 3) b1 = rowCs 3 16 (pC D6) := by rw [pC_set D5 (show 2 < 16 by omega), hD6]
  replace hn5 := Lib.hid hn5
  have hn6 : set3 (rowCs 3 16 (pC D6)) (10 * 3) i2 = rowCs 3 16 (pC D7) := by rw [pC_set D6 (show 10 < 16 by omega), hD7]
  replace hn6 := Lib.hid hn6
  have hn7 : set3 (rowCs 3 16 (pC D7)) (14 * 3) a2 = rowCs 3 16 (pC D8) := by rw [pC_set D7 (show 14 < 16 by omega), hD8]
  replace hn7 := Lib.hid hn7
  have hn8 : set3 (rowCs 3 16 (pC D8)) (11 * 3) b2 = rowCs 3 16 (pC D9) := by rw [pC_set D8 (show 11 < 16 by omega), hD9]
  replace hn8 := Lib.hid hn8
  have hn9 : set3 (rowCs 3 16 (pC D9)) (9 * 3) i3 = rowCs 3 16 (pC D10) := by rw [pC_set D9 (show 9 < 16 by omega), hD10]
  replace hn9 := Lib.hid hn9
  have hn10 : set3 (rowCs 3 16 (pC D10)) (8 * 3) a3 = rowCs 3 16 (pC D11) := by rw [pC_set D10 (show 8 < 16 by omega), hD11]
  replace hn10 := Lib.hid hn10
  have hn11 : set3 (rowCs 3 16 (pC D11)) (13 * 3) b3 = rowCs 3 16 (pC D12) := by rw [pC_set D11 (show 13 < 16 by omega), hD12]
  replace hn11 := Lib.hid hn11
  replace hD0 := Lib.hid hD0
  clear hD1 hD2 hD3 hD4 hD5 hD6 hD7 hD8 hD9 hD10 hD11 hD12
  have hb0 : Below W.heap.size W (((W.alloc (.cells (netC N a) 60)).alloc (.cells (rowCs 3 16 (pC fun _ => Z3)) 40)).alloc (.cells (rowCs 3 16 (pC fun _ => Z3)) 40)) := bel_alloc (bel_alloc (bel_alloc (Below.refl _ _) _) _) _
  have hC0 : Blk (((W.alloc (.cells (netC N a) 60)).alloc (.cells (rowCs 3 16 (pC fun _ => Z3)) 40)).alloc (.cells (rowCs 3 16 (pC fun _ => Z3)) 40)) W.heap.size 60 (netC N a) := ((Blk.new _ _ _ _ rfl).alloc _).alloc _
  have hR0 : Blk (((W.alloc (.cells (netC N a) 60)).alloc (.cells (rowCs 3 16 (pC fun _ => Z3)) 40)).alloc (.cells (rowCs 3 16 (pC fun _ => Z3)) 40)) (W.heap.size + 1) 40 (rowCs 3 16 (pC fun _ => Z3)) := (Blk.new _ _ _ _ (by simp)).alloc _
  have hP0 : Blk (((W.alloc (.cells (netC N a) 60)).alloc (.cells (rowCs 3 16 (pC fun _ => Z3)) 40)).alloc (.cells (rowCs 3 16 (pC fun _ => Z3)) 40)) (W.heap.size + 1 + 1) 40 (rowCs 3 16 (pC D0)) := by rw [hD0.out]; exact Blk.new _ _ _ _ (by simp)
  have tr := fun (b j : Nat) (v : Value) (hb : b < W.heap.size) (h : W.cell? ⟨b, j, none⟩ = some v) => (hb0.cell (p := ⟨b, j, none⟩) hb).trans h
  replace c0 := tr _ _ _ hql c0
  replace c1 := tr _ _ _ hql c1
  replace c2 := tr _ _ _ hql c2
  replace c3 := tr _ _ _ hql c3
  replace hql := Nat.lt_of_lt_of_le hql hb0.size
  clear tr
  replace hN := Lib.hid hN
  have q0 : (0 : Int) ≤ (f : Int) := by omega
  have q1 : (f : Int) < (N.fs.length : Int) := by omega
  go_enter Try.func17, Try.ntmps17
  go_upto_region 2 with (first | (refine wpList_val rfl _ _ (alloc_P16 _ _ rfl _ _ rfl) ?_; simp only [World.size_alloc, Act.put, List.setIfInBounds_toArray, List.set_cons_succ, List.set_cons_zero]) | fail)
  generalize (((W.alloc (.cells (netC N a) 60)).alloc (.cells (rowCs 3 16 (pC fun _ => Z3)) 40)).alloc (.cells (rowCs 3 16 (pC fun _ => Z3)) 40)) = W0 at *
  have y4 : W0.cell? ⟨W.heap.size, 4, none⟩ = some (.slice (some ⟨bq, oq, none⟩) N.fs.length a.k2) := by rw [← hbq]; exact hC0.cell 4
  have yl := hC0.lt
  clear hbq
  go_upto_region 3 with (fail)
  have hb1 : Below W.heap.size W (W0.alloc (.cells #[.int .i64 (y0 : Int), .int .i64 (y1 : Int), .int .i64 (y2 : Int), .int .i64 (y3 : Int)] 36)) := bel_alloc hb0 _
  have hC1 := hC0.alloc (.cells #[.int .i64 (y0 : Int), .int .i64 (y1 : Int), .int .i64 (y2 : Int), .int .i64 (y3 : Int)] 36)
  have hR1 := hR0.alloc (.cells #[.int .i64 (y0 : Int), .int .i64 (y1 : Int), .int .i64 (y2 : Int), .int .i64 (y3 : Int)] 36)
  have hP1 := hP0.alloc (.cells #[.int .i64 (y0 : Int), .int .i64 (y1 : Int), .int .i64 (y2 : Int), .int .i64 (y3 : Int)] 36)
  have hF1 : Blk (W0.alloc (.cells #[.int .i64 (y0 : Int), .int .i64 (y1 : Int), .int .i64 (y2 : Int), .int .i64 (y3 : Int)] 36)) W0.heap.size 36 #[.int .i64 (y0 : Int), .int .i64 (y1 : Int), .int .i64 (y2 : Int), .int .i64 (y3 : Int)] := Blk.new _ _ _ _ rfl
  have hgf : W.heap.size + 1 + 1 < W0.heap.size := hP0.lt
  clear hb0 hC0 hR0 hP0 c0 c1 c2 c3 y4 yl hql
  generalize W0.alloc (.cells #[.int .i64 (y0 : Int), .int .i64 (y1 : Int), .int .i64 (y2 : Int), .int .i64 (y3 : Int)] 36) = W1 at *
  generalize W0.heap.size = gf at *
  go_wp2
  go_loopw [20] (fun iv wr => Below W.heap.size W wr ∧ Blk wr W.heap.size 60 (netC N a) ∧ Blk wr (W.heap.size + 1) 40 (rowCs 3 16 (pC fun _ => Z3)) ∧ Blk wr gf 36 #[.int .i64 (y0 : Int), .int .i64 (y1 : Int), .int .i64 (y2 : Int), .int .i64 (y3 : Int)] ∧ ((iv = .int .i64 0 ∧ Blk wr (W.heap.size + 1 + 1) 40 (rowCs 3 16 (pC D0))) ∨ (iv = .int .i64 1 ∧ Blk wr (W.heap.size + 1 + 1) 40 (rowCs 3 16 (pC D3))) ∨ (iv = .int .i64 2 ∧ Blk wr (W.heap.size + 1 + 1) 40 (rowCs 3 16 (pC D6))) ∨ (iv = .int .i64 3 ∧ Blk wr (W.heap.size + 1 + 1) 40 (rowCs 3 16 (pC D9))) ∨ (iv = .int .i64 4 ∧ Blk wr (W.heap.size + 1 + 1) 40 (rowCs 3 16 (pC D12))))) (fun iv _ => 4 - (intOf iv).toNat)
  case atStart => exact ⟨hb1, hC1, hR1, hF1, .inl ⟨rfl, hP1⟩⟩
  case round =>
    obtain ⟨hBr, hCr, hRr, hFr, hi⟩ := hrel
    clear hb1 hC1 hR1 hP1 hF1
    rename World => wr
    rcases hi with ⟨rfl, hPr⟩ | ⟨rfl, hPr⟩ | ⟨rfl, hPr⟩ | ⟨rfl, hPr⟩ | ⟨rfl, hPr⟩
    · have p0 := hFr.cell 0
      have p1 := hFr.cell 1
      have p2 := hFr.cell 2
      have p3 := hFr.cell 3
      have pl := hFr.lt
      go_upto_region 5 with (fail)
      refine wp_region_lit ?_
      refine wpList_val rfl (.int .i64 0) wr (by kernel_rfl) ?_
      simp only [Act.put, List.setIfInBounds_toArray, List.set_cons_succ, List.set_cons_zero]
      refine wpList_val rfl (.agg #[.int .i64 5, .int .i64 1, .int .i64 4]) wr (by kernel_rfl) ?_
      simp only [Act.put, List.setIfInBounds_toArray, List.set_cons_succ, List.set_cons_zero]
      go_upto_region 7 with (fail)
      have hA2 : Blk (wr.alloc (.cells #[.int .i64 5, .int .i64 1, .int .i64 4] 86)) wr.heap.size 86 #[.int .i64 5, .int .i64 1, .int .i64 4] := Blk.new _ _ _ _ rfl
      have hC2 := hCr.alloc (.cells #[.int .i64 5, .int .i64 1, .int .i64 4] 86)
      have hR2 := hRr.alloc (.cells #[.int .i64 5, .int .i64 1, .int .i64 4] 86)
      have hF2 := hFr.alloc (.cells #[.int .i64 5, .int .i64 1, .int .i64 4] 86)
      have hP2 := hPr.alloc (.cells #[.int .i64 5, .int .i64 1, .int .i64 4] 86)
      have hB2 : Below W.heap.size W (wr.alloc (.cells #[.int .i64 5, .int .i64 1, .int .i64 4] 86)) := bel_alloc hBr _
      have hga : gf < wr.heap.size := hFr.lt
      clear hCr hRr hFr hPr hBr p0 p1 p2 p3 pl
      generalize wr.alloc (.cells #[.int .i64 5, .int .i64 1, .int .i64 4] 86) = V2 at *
      generalize wr.heap.size = ga at *
      have z0 := hA2.cell 0
      have zl := hA2.lt
      have pl := hF2.lt
      have o0 := hF2.cell 0
      have o1 := hF2.cell 1
      have o2 := hF2.cell 2
      have o3 := hF2.cell 3
      have kJ := fun (x : More) => kI0 (grow V2 x) (hN.out.below (bel_grow hB2 x))
      refine wp_region_tail 7 ?_ (by kernel_rfl) (by kernel_rfl) (by kernel_rfl) (fun x => ?_) (fun x => ?_)
      rotate_left
      · simp only [List.take_succ_cons, List.take_zero]
        repeat (first | (refine quiet_net _ rfl rfl W.heap.size rfl N a (fun z hz => by obtain ⟨y, rfl⟩ := hz; exact (hC2.grow _).grow _) ?_; simp only [Act.put, List.setIfInBounds_toArray, List.set_cons_succ, List.set_cons_zero]) | go_big_quiet_step (((first | with_reducible exact cqa _ (kJ _) | with_reducible exact cqb _ _ (kJ _)))))
        refine wpQuiet_nil ?_
        exact rfl
      simp only [List.drop_succ_cons, List.drop_zero]
      try simp only [Act.put, List.setIfInBounds_toArray, List.set_cons_succ, List.set_cons_zero]
      clear kJ z0 zl pl o0 o1 o2 o3
      replace hA2 := hA2.grow x
      replace hC2 := hC2.grow x
      replace hR2 := hR2.grow x
      replace hF2 := hF2.grow x
      replace hP2 := hP2.grow x
      replace hB2 := bel_grow hB2 x
      generalize grow V2 x = V3 at *
      obtain ⟨⟨g0, g1, g2⟩, gl, f0, f1, f2⟩ := row3P hP2 (show 5 < 16 by omega)
      go_upto_region 8 with (fail)
      have hP3 := (((hP2.set (5 * 3) (.int .i64 i0.x)).set (5 * 3 + 1) (.int .i64 i0.y)).set (5 * 3 + 2) (.int .i64 i0.z))
      have hnx := hn0.out
      unfold set3 at hnx
      rw [hnx] at hP3
      have hC3 := (((hC2.far (b := W.heap.size + 1 + 1) 15 (.int .i64 i0.x) (by omega)).far (b := W.heap.size + 1 + 1) 16 (.int .i64 i0.y) (by omega)).far (b := W.heap.size + 1 + 1) 17 (.int .i64 i0.z) (by omega))
      have hR3 := (((hR2.far (b := W.heap.size + 1 + 1) 15 (.int .i64 i0.x) (by omega)).far (b := W.heap.size + 1 + 1) 16 (.int .i64 i0.y) (by omega)).far (b := W.heap.size + 1 + 1) 17 (.int .i64 i0.z) (by omega))
      have hF3 := (((hF2.far (b := W.heap.size + 1 + 1) 15 (.int .i64 i0.x) (by omega)).far (b := W.heap.size + 1 + 1) 16 (.int .i64 i0.y) (by omega)).far (b := W.heap.size + 1 + 1) 17 (.int .i64 i0.z) (by omega))
      have hA3 := (((hA2.far (b := W.heap.size + 1 + 1) 15 (.int .i64 i0.x) (by omega)).far (b := W.heap.size + 1 + 1) 16 (.int .i64 i0.y) (by omega)).far (b := W.heap.size + 1 + 1) 17 (.int .i64 i0.z) (by omega))
      have hB3 := bel_set (bel_set (bel_set hB2 (p := ⟨W.heap.size + 1 + 1, 15, none⟩) (by show W.heap.size ≤ W.heap.size + 1 + 1; omega) (.int .i64 i0.x)) (p := ⟨W.heap.size + 1 + 1, 16, none⟩) (by show W.heap.size ≤ W.heap.size + 1 + 1; omega) (.int .i64 i0.y)) (p := ⟨W.heap.size + 1 + 1, 17, none⟩) (by show W.heap.size ≤ W.heap.size + 1 + 1; omega) (.int .i64 i0.z)
      replace hP3 : Blk (((V3.setCell ⟨W.heap.size + 1 + 1, 15, none⟩ (.int .i64 i0.x)).setCell ⟨W.heap.size + 1 + 1, 16, none⟩ (.int .i64 i0.y)).setCell ⟨W.heap.size + 1 + 1, 17, none⟩ (.int .i64 i0.z)) _ _ _ := hP3
      replace hC3 : Blk (((V3.setCell ⟨W.heap.size + 1 + 1, 15, none⟩ (.int .i64 i0.x)).setCell ⟨W.heap.size + 1 + 1, 16, none⟩ (.int .i64 i0.y)).setCell ⟨W.heap.size + 1 + 1, 17, none⟩ (.int .i64 i0.z)) _ _ _ := hC3
      replace hR3 : Blk (((V3.setCell ⟨W.heap.size + 1 + 1, 15, none⟩ (.int .i64 i0.x)).setCell ⟨W.heap.size + 1 + 1, 16, none⟩ (.int .i64 i0.y)).setCell ⟨W.heap.size + 1 + 1, 17, none⟩ (.int .i64 i0.z)) _ _ _ := hR3
      replace hF3 : Blk (((V3.setCell ⟨W.heap.size + 1 + 1, 15, none⟩ (.int .i64 i0.x)).setCell ⟨W.heap.size + 1 + 1, 16, none⟩ (.int .i64 i0.y)).setCell ⟨W.heap.size + 1 + 1, 17, none⟩ (.int .i64 i0.z)) _ _ _ := hF3
      replace hA3 : Blk (((V3.setCell ⟨W.heap.size + 1 + 1, 15, none⟩ (.int .i64 i0.x)).setCell ⟨W.heap.size + 1 + 1, 16, none⟩ (.int .i64 i0.y)).setCell ⟨W.heap.size + 1 + 1, 17, none⟩ (.int .i64 i0.z)) _ _ _ := hA3
      clear hP2 hC2 hR2 hF2 hA2 hB2 g0 g1 g2 gl f0 f1 f2 hnx
      generalize (((V3.setCell ⟨W.heap.size + 1 + 1, 15, none⟩ (.int .i64 i0.x)).setCell ⟨W.heap.size + 1 + 1, 16, none⟩ (.int .i64 i0.y)).setCell ⟨W.heap.size + 1 + 1, 17, none⟩ (.int .i64 i0.z)) = V4 at *
      have hP2 := hP3
      have hC2 := hC3
      have hR2 := hR3
      have hF2 := hF3
      have hA2 := hA3
      have hB2 := hB3
      clear hP3 hC3 hR3 hF3 hA3 hB3
      have z1 := hA2.cell 1
      have zl := hA2.lt
      have pl := hF2.lt
      have o0 := hF2.cell 0
      have o1 := hF2.cell 1
      have o2 := hF2.cell 2
      have o3 := hF2.cell 3
      have kJ := fun (x : More) => kN01 (grow V4 x) (hN.out.below (bel_grow hB2 x))
      go_upto_region 8 with (fail)
      refine wp_region_tail 11 ?_ (by kernel_rfl) (by kernel_rfl) (by kernel_rfl) (fun x => ?_) (fun x => ?_)
      rotate_left
      · simp only [List.take_succ_cons, List.take_zero]
        repeat (first | (refine quiet_net _ rfl rfl W.heap.size rfl N a (fun z hz => by obtain ⟨y, rfl⟩ := hz; exact (hC2.grow _).grow _) ?_; simp only [Act.put, List.setIfInBounds_toArray, List.set_cons_succ, List.set_cons_zero]) | go_big_quiet_step (((first | with_reducible exact cqa _ (kJ _) | with_reducible exact cqb _ _ (kJ _)))))
        refine wpQuiet_nil ?_
        exact rfl
      simp only [List.drop_succ_cons, List.drop_zero]
      try simp only [Act.put, List.setIfInBounds_toArray, List.set_cons_succ, List.set_cons_zero]
      clear kJ z1 zl pl o0 o1 o2 o3
      replace hA2 := hA2.grow x
      replace hC2 := hC2.grow x
      replace hR2 := hR2.grow x
      replace hF2 := hF2.grow x
      replace hP2 := hP2.grow x
      replace hB2 := bel_grow hB2 x
      generalize grow V4 x = V5 at *
      obtain ⟨⟨g0, g1, g2⟩, gl, f0, f1, f2⟩ := row3P hP2 (show 1 < 16 by omega)
      go_upto_region 9 with (fail)
      have hP3 := (((hP2.set (1 * 3) (.int .i64 a0.x)).set (1 * 3 + 1) (.int .i64 a0.y)).set (1 * 3 + 2) (.int .i64 a0.z))
      have hnx := hn1.out
      unfold set3 at hnx
      rw [hnx] at hP3
      have hC3 := (((hC2.far (b := W.heap.size + 1 + 1) 3 (.int .i64 a0.x) (by omega)).far (b := W.heap.size + 1 + 1) 4 (.int .i64 a0.y) (by omega)).far (b := W.heap.size + 1 + 1) 5 (.int .i64 a0.z) (by omega))
      have hR3 := (((hR2.far (b := W.heap.size + 1 + 1) 3 (.int .i64 a0.x) (by omega)).far (b := W.heap.size + 1 + 1) 4 (.int .i64 a0.y) (by omega)).far (b := W.heap.size + 1 + 1) 5 (.int .i64 a0.z) (by omega))
      have hF3 := (((hF2.far (b := W.heap.size + 1 + 1) 3 (.int .i64 a0.x) (by omega)).far (b := W.heap.size + 1 + 1) 4 (.int .i64 a0.y) (by omega)).far (b := W.heap.size + 1 + 1) 5 (.int .i64 a0.z) (by omega))
      have hA3 := (((hA2.far (b := W.heap.size + 1 + 1) 3 (.int .i64 a0.x) (by omega)).far (b := W.heap.size + 1 + 1) 4 (.int .i64 a0.y) (by omega)).far (b := W.heap.size + 1 + 1) 5 (.int .i64 a0.z) (by omega))
      have hB3 := bel_set (bel_set (bel_set hB2 (p := ⟨W.heap.size + 1 + 1, 3, none⟩) (by show W.heap.size ≤ W.heap.size + 1 + 1; omega) (.int .i64 a0.x)) (p := ⟨W.heap.size + 1 + 1, 4, none⟩) (by show W.heap.size ≤ W.heap.size + 1 + 1; omega) (.int .i64 a0.y)) (p := ⟨W.heap.size + 1 + 1, 5, none⟩) (by show W.heap.size ≤ W.heap.size + 1 + 1; omega) (.int .i64 a0.z)
      replace hP3 : Blk (((V5.setCell ⟨W.heap.size + 1 + 1, 3, none⟩ (.int .i64 a0.x)).setCell ⟨W.heap.size + 1 + 1, 4, none⟩ (.int .i64 a0.y)).setCell ⟨W.heap.size + 1 + 1, 5, none⟩ (.int .i64 a0.z)) _ _ _ := hP3
      replace hC3 : Blk (((V5.setCell ⟨W.heap.size + 1 + 1, 3, none⟩ (.int .i64 a0.x)).setCell ⟨W.heap.size + 1 + 1, 4, none⟩ (.int .i64 a0.y)).setCell ⟨W.heap.size + 1 + 1, 5, none⟩ (.int .i64 a0.z)) _ _ _ := hC3
      replace hR3 : Blk (((V5.setCell ⟨W.heap.size + 1 + 1, 3, none⟩ (.int .i64 a0.x)).setCell ⟨W.heap.size + 1 + 1, 4, none⟩ (.int .i64 a0.y)).setCell ⟨W.heap.size + 1 + 1, 5, none⟩ (.int .i64 a0.z)) _ _ _ := hR3
      replace hF3 : Blk (((V5.setCell ⟨W.heap.size + 1 + 1, 3, none⟩ (.int .i64 a0.x)).setCell ⟨W.heap.size + 1 + 1, 4, none⟩ (.int .i64 a0.y)).setCell ⟨W.heap.size + 1 + 1, 5, none⟩ (.int .i64 a0.z)) _ _ _ := hF3
      replace hA3 : Blk (((V5.setCell ⟨W.heap.size + 1 + 1, 3, none⟩ (.int .i64 a0.x)).setCell ⟨W.heap.size + 1 + 1, 4, none⟩ (.int .i64 a0.y)).setCell ⟨W.heap.size + 1 + 1, 5, none⟩ (.int .i64 a0.z)) _ _ _ := hA3
      clear hP2 hC2 hR2 hF2 hA2 hB2 g0 g1 g2 gl f0 f1 f2 hnx
      generalize (((V5.setCell ⟨W.heap.size + 1 + 1, 3, none⟩ (.int .i64 a0.x)).setCell ⟨W.heap.size + 1 + 1, 4, none⟩ (.int .i64 a0.y)).setCell ⟨W.heap.size + 1 + 1, 5, none⟩ (.int .i64 a0.z)) = V6 at *
      have hP2 := hP3
      have hC2 := hC3
      have hR2 := hR3
      have hF2 := hF3
      have hA2 := hA3
      have hB2 := hB3
      clear hP3 hC3 hR3 hF3 hA3 hB3
      have z2 := hA2.cell 2
      have zl := hA2.lt
      have pl := hF2.lt
      have o0 := hF2.cell 0
      have o1 := hF2.cell 1
      have o2 := hF2.cell 2
      have o3 := hF2.cell 3
      have kJ := fun (x : More) => kN03 (grow V6 x) (hN.out.below (bel_grow hB2 x))
      go_upto_region 9 with (fail)
      refine wp_region_tail 11 ?_ (by kernel_rfl) (by kernel_rfl) (by kernel_rfl) (fun x => ?_) (fun x => ?_)
      rotate_left
      · simp only [List.take_succ_cons, List.take_zero]
        repeat (first | (refine quiet_net _ rfl rfl W.heap.size rfl N a (fun z hz => by obtain ⟨y, rfl⟩ := hz; exact (hC2.grow _).grow _) ?_; simp only [Act.put, List.setIfInBounds_toArray, List.set_cons_succ, List.set_cons_zero]) | go_big_quiet_step (((first | with_reducible exact cqa _ (kJ _) | with_reducible exact cqb _ _ (kJ _)))))
        refine wpQuiet_nil ?_
        exact rfl
      simp only [List.drop_succ_cons, List.drop_zero]
      try simp only [Act.put, List.setIfInBounds_toArray, List.set_cons_succ, List.set_cons_zero]
      clear kJ z2 zl pl o0 o1 o2 o3
      replace hA2 := hA2.grow x
      replace hC2 := hC2.grow x
      replace hR2 := hR2.grow x
      replace hF2 := hF2.grow x
      replace hP2 := hP2.grow x
      replace hB2 := bel_grow hB2 x
      generalize grow V6 x = V7 at *
      obtain ⟨⟨g0, g1, g2⟩, gl, f0, f1, f2⟩ := row3P hP2 (show 4 < 16 by omega)
      go_wp2
      go_roundw
      case rel =>
        have hP3 := (((hP2.set (4 * 3) (.int .i64 b0.x)).set (4 * 3 + 1) (.int .i64 b0.y)).set (4 * 3 + 2) (.int .i64 b0.z))
        have hnx := hn2.out
        unfold set3 at hnx
        rw [hnx] at hP3
        have hC3 := (((hC2.far (b := W.heap.size + 1 + 1) 12 (.int .i64 b0.x) (by omega)).far (b := W.heap.size + 1 + 1) 13 (.int .i64 b0.y) (by omega)).far (b := W.heap.size + 1 + 1) 14 (.int .i64 b0.z) (by omega))
        have hR3 := (((hR2.far (b := W.heap.size + 1 + 1) 12 (.int .i64 b0.x) (by omega)).far (b := W.heap.size + 1 + 1) 13 (.int .i64 b0.y) (by omega)).far (b := W.heap.size + 1 + 1) 14 (.int .i64 b0.z) (by omega))
        have hF3 := (((hF2.far (b := W.heap.size + 1 + 1) 12 (.int .i64 b0.x) (by omega)).far (b := W.heap.size + 1 + 1) 13 (.int .i64 b0.y) (by omega)).far (b := W.heap.size + 1 + 1) 14 (.int .i64 b0.z) (by omega))
        have hA3 := (((hA2.far (b := W.heap.size + 1 + 1) 12 (.int .i64 b0.x) (by omega)).far (b := W.heap.size + 1 + 1) 13 (.int .i64 b0.y) (by omega)).far (b := W.heap.size + 1 + 1) 14 (.int .i64 b0.z) (by omega))
        have hB3 := bel_set (bel_set (bel_set hB2 (p := ⟨W.heap.size + 1 + 1, 12, none⟩) (by show W.heap.size ≤ W.heap.size + 1 + 1; omega) (.int .i64 b0.x)) (p := ⟨W.heap.size + 1 + 1, 13, none⟩) (by show W.heap.size ≤ W.heap.size + 1 + 1; omega) (.int .i64 b0.y)) (p := ⟨W.heap.size + 1 + 1, 14, none⟩) (by show W.heap.size ≤ W.heap.size + 1 + 1; omega) (.int .i64 b0.z)
        exact ⟨hB3, hC3, hR3, hF3, .inr (.inl ⟨rfl, hP3⟩)⟩
      case measure => simp [intOf]
    · have p0 := hFr.cell 0
      have p1 := hFr.cell 1
      have p2 := hFr.cell 2
      have p3 := hFr.cell 3
      have pl := hFr.lt
      go_upto_region 5 with (fail)
      refine wp_region_lit ?_
      refine wpList_val rfl (.int .i64 1) wr (by kernel_rfl) ?_
      simp only [Act.put, List.setIfInBounds_toArray, List.set_cons_succ, List.set_cons_zero]
      refine wpList_val rfl (.agg #[.int .i64 6, .int .i64 7, .int .i64 2]) wr (by kernel_rfl) ?_
      simp only [Act.put, List.setIfInBounds_toArray, List.set_cons_succ, List.set_cons_zero]
      go_upto_region 7 with (fail)
      have hA2 : Blk (wr.alloc (.cells #[.int .i64 6, .int .i64 7, .int .i64 2] 86)) wr.heap.size 86 #[.int .i64 6, .int .i64 7, .int .i64 2] := Blk.new _ _ _ _ rfl
      have hC2 := hCr.alloc (.cells #[.int .i64 6, .int .i64 7, .int .i64 2] 86)
      have hR2 := hRr.alloc (.cells #[.int .i64 6, .int .i64 7, .int .i64 2] 86)
      have hF2 := hFr.alloc (.cells #[.int .i64 6, .int .i64 7, .int .i64 2] 86)
      have hP2 := hPr.alloc (.cells #[.int .i64 6, .int .i64 7, .int .i64 2] 86)
      have hB2 : Below W.heap.size W (wr.alloc (.cells #[.int .i64 6, .int .i64 7, .int .i64 2] 86)) := bel_alloc hBr _
      have hga : gf < wr.heap.size := hFr.lt
      clear hCr hRr hFr hPr hBr p0 p1 p2 p3 pl
      generalize wr.alloc (.cells #[.int .i64 6, .int .i64 7, .int .i64 2] 86) = V2 at *
      generalize wr.heap.size = ga at *
      have z0 := hA2.cell 0
      have zl := hA2.lt
      have pl := hF2.lt
      have o0 := hF2.cell 0
      have o1 := hF2.cell 1
      have o2 := hF2.cell 2
      have o3 := hF2.cell 3
      have kJ := fun (x : More) => kI1 (grow V2 x) (hN.out.below (bel_grow hB2 x))
      refine wp_region_tail 7 ?_ (by kernel_rfl) (by kernel_rfl) (by kernel_rfl) (fun x => ?_) (fun x => ?_)
      rotate_left
      · simp only [List.take_succ_cons, List.take_zero]
        repeat (first | (refine quiet_net _ rfl rfl W.heap.size rfl N a (fun z hz => by obtain ⟨y, rfl⟩ := hz; exact (hC2.grow _).grow _) ?_; simp only [Act.put, List.setIfInBounds_toArray, List.set_cons_succ, List.set_cons_zero]) | go_big_quiet_step (((first | with_reducible exact cqa _ (kJ _) | with_reducible exact cqb _ _ (kJ _)))))
        refine wpQuiet_nil ?_
        exact rfl
      simp only [List.drop_succ_cons, List.drop_zero]
      try simp only [Act.put, List.setIfInBounds_toArray, List.set_cons_succ, List.set_cons_zero]
      clear kJ z0 zl pl o0 o1 o2 o3
      replace hA2 := hA2.grow x
      replace hC2 := hC2.grow x
      replace hR2 := hR2.grow x
      replace hF2 := hF2.grow x
      replace hP2 := hP2.grow x
      replace hB2 := bel_grow hB2 x
      generalize grow V2 x = V3 at *
      obtain ⟨⟨g0, g1, g2⟩, gl, f0, f1, f2⟩ := row3P hP2 (show 6 < 16 by omega)
      go_upto_region 8 with (fail)
      have hP3 := (((hP2.set (6 * 3) (.int .i64 i1.x)).set (6 * 3 + 1) (.int .i64 i1.y)).set (6 * 3 + 2) (.int .i64 i1.z))
      have hnx := hn3.out
      unfold set3 at hnx
      rw [hnx] at hP3
      have hC3 := (((hC2.far (b := W.heap.size + 1 + 1) 18 (.int .i64 i1.x) (by omega)).far (b := W.heap.size + 1 + 1) 19 (.int .i64 i1.y) (by omega)).far (b := W.heap.size + 1 + 1) 20 (.int .i64 i1.z) (by omega))
      have hR3 := (((hR2.far (b := W.heap.size + 1 + 1) 18 (.int .i64 i1.x) (by omega)).far (b := W.heap.size + 1 + 1) 19 (.int .i64 i1.y) (by omega)).far (b := W.heap.size + 1 + 1) 20 (.int .i64 i1.z) (by omega))
      have hF3 := (((hF2.far (b := W.heap.size + 1 + 1) 18 (.int .i64 i1.x) (by omega)).far (b := W.heap.size + 1 + 1) 19 (.int .i64 i1.y) (by omega)).far (b := W.heap.size + 1 + 1) 20 (.int .i64 i1.z) (by omega))
      have hA3 := (((hA2.far (b := W.heap.size + 1 + 1) 18 (.int .i64 i1.x) (by omega)).far (b := W.heap.size + 1 + 1) 19 (.int .i64 i1.y) (by omega)).far (b := W.heap.size + 1 + 1) 20 (.int .i64 i1.z) (by omega))
      have hB3 := bel_set (bel_set (bel_set hB2 (p := ⟨W.heap.size + 1 + 1, 18, none⟩) (by show W.heap.size ≤ W.heap.size + 1 + 1; omega) (.int .i64 i1.x)) (p := ⟨W.heap.size + 1 + 1, 19, none⟩) (by show W.heap.size ≤ W.heap.size + 1 + 1; omega) (.int .i64 i1.y)) (p := ⟨W.heap.size + 1 + 1, 20, none⟩) (by show W.heap.size ≤ W.heap.size + 1 + 1; omega) (.int .i64 i1.z)
      replace hP3 : Blk (((V3.setCell ⟨W.heap.size + 1 + 1, 18, none⟩ (.int .i64 i1.x)).setCell ⟨W.heap.size + 1 + 1, 19, none⟩ (.int .i64 i1.y)).setCell ⟨W.heap.size + 1 + 1, 20, none⟩ (.int .i64 i1.z)) _ _ _ := hP3
      replace hC3 : Blk (((V3.setCell ⟨W.heap.size + 1 + 1, 18, none⟩ (.int .i64 i1.x)).setCell ⟨W.heap.size + 1 + 1, 19, none⟩ (.int .i64 i1.y)).setCell ⟨W.heap.size + 1 + 1, 20, none⟩ (.int .i64 i1.z)) _ _ _ := hC3
      replace hR3 : Blk (((V3.setCell ⟨W.heap.size + 1 + 1, 18, none⟩ (.int .i64 i1.x)).setCell ⟨W.heap.size + 1 + 1, 19, none⟩ (.int .i64 i1.y)).setCell ⟨W.heap.size + 1 + 1, 20, none⟩ (.int .i64 i1.z)) _ _ _ := hR3
      replace hF3 : Blk (((V3.setCell ⟨W.heap.size + 1 + 1, 18, none⟩ (.int .i64 i1.x)).setCell ⟨W.heap.size + 1 + 1, 19, none⟩ (.int .i64 i1.y)).setCell ⟨W.heap.size + 1 + 1, 20, none⟩ (.int .i64 i1.z)) _ _ _ := hF3
      replace hA3 : Blk (((V3.setCell ⟨W.heap.size + 1 + 1, 18, none⟩ (.int .i64 i1.x)).setCell ⟨W.heap.size + 1 + 1, 19, none⟩ (.int .i64 i1.y)).setCell ⟨W.heap.size + 1 + 1, 20, none⟩ (.int .i64 i1.z)) _ _ _ := hA3
      clear hP2 hC2 hR2 hF2 hA2 hB2 g0 g1 g2 gl f0 f1 f2 hnx
      generalize (((V3.setCell ⟨W.heap.size + 1 + 1, 18, none⟩ (.int .i64 i1.x)).setCell ⟨W.heap.size + 1 + 1, 19, none⟩ (.int .i64 i1.y)).setCell ⟨W.heap.size + 1 + 1, 20, none⟩ (.int .i64 i1.z)) = V4 at *
      have hP2 := hP3
      have hC2 := hC3
      have hR2 := hR3
      have hF2 := hF3
      have hA2 := hA3
      have hB2 := hB3
      clear hP3 hC3 hR3 hF3 hA3 hB3
      have z1 := hA2.cell 1
      have zl := hA2.lt
      have pl := hF2.lt
      have o0 := hF2.cell 0
      have o1 := hF2.cell 1
      have o2 := hF2.cell 2
      have o3 := hF2.cell 3
      have kJ := fun (x : More) => kN12 (grow V4 x) (hN.out.below (bel_grow hB2 x))
      go_upto_region 8 with (fail)
      refine wp_region_tail 11 ?_ (by kernel_rfl) (by kernel_rfl) (by kernel_rfl) (fun x => ?_) (fun x => ?_)
      rotate_left
      · simp only [List.take_succ_cons, List.take_zero]
        repeat (first | (refine quiet_net _ rfl rfl W.heap.size rfl N a (fun z hz => by obtain ⟨y, rfl⟩ := hz; exact (hC2.grow _).grow _) ?_; simp only [Act.put, List.setIfInBounds_toArray, List.set_cons_succ, List.set_cons_zero]) | go_big_quiet_step (((first | with_reducible exact cqa _ (kJ _) | with_reducible exact cqb _ _ (kJ _)))))
        refine wpQuiet_nil ?_
        exact rfl
      simp only [List.drop_succ_cons, List.drop_zero]
      try simp only [Act.put, List.setIfInBounds_toArray, List.set_cons_succ, List.set_cons_zero]
      clear kJ z1 zl pl o0 o1 o2 o3
      replace hA2 := hA2.grow x
      replace hC2 := hC2.grow x
      replace hR2 := hR2.grow x
      replace hF2 := hF2.grow x
      replace hP2 := hP2.grow x
      replace hB2 := bel_grow hB2 x
      generalize grow V4 x = V5 at *
      obtain ⟨⟨g0, g1, g2⟩, gl, f0, f1, f2⟩ := row3P hP2 (show 7 < 16 by omega)
      go_upto_region 9 with (fail)
      have hP3 := (((hP2.set (7 * 3) (.int .i64 a1.x)).set (7 * 3 + 1) (.int .i64 a1.y)).set (7 * 3 + 2) (.int .i64 a1.z))
      have hnx := hn4.out
      unfold set3 at hnx
      rw [hnx] at hP3
      have hC3 := (((hC2.far (b := W.heap.size + 1 + 1) 21 (.int .i64 a1.x) (by omega)).far (b := W.heap.size + 1 + 1) 22 (.int .i64 a1.y) (by omega)).far (b := W.heap.size + 1 + 1) 23 (.int .i64 a1.z) (by omega))
      have hR3 := (((hR2.far (b := W.heap.size + 1 + 1) 21 (.int .i64 a1.x) (by omega)).far (b := W.heap.size + 1 + 1) 22 (.int .i64 a1.y) (by omega)).far (b := W.heap.size + 1 + 1) 23 (.int .i64 a1.z) (by omega))
      have hF3 := (((hF2.far (b := W.heap.size + 1 + 1) 21 (.int .i64 a1.x) (by omega)).far (b := W.heap.size + 1 + 1) 22 (.int .i64 a1.y) (by omega)).far (b := W.heap.size + 1 + 1) 23 (.int .i64 a1.z) (by omega))
      have hA3 := (((hA2.far (b := W.heap.size + 1 + 1) 21 (.int .i64 a1.x) (by omega)).far (b := W.heap.size + 1 + 1) 22 (.int .i64 a1.y) (by omega)).far (b := W.heap.size + 1 + 1) 23 (.int .i64 a1.z) (by omega))
      have hB3 := bel_set (bel_set (bel_set hB2 (p := ⟨W.heap.size + 1 + 1, 21, none⟩) (by show W.heap.size ≤ W.heap.size + 1 + 1; omega) (.int .i64 a1.x)) (p := ⟨W.heap.size + 1 + 1, 22, none⟩) (by show W.heap.size ≤ W.heap.size + 1 + 1; omega) (.int .i64 a1.y)) (p := ⟨W.heap.size + 1 + 1, 23, none⟩) (by show W.heap.size ≤ W.heap.size + 1 + 1; omega) (.int .i64 a1.z)
      replace hP3 : Blk (((V5.setCell ⟨W.heap.size + 1 + 1, 21, none⟩ (.int .i64 a1.x)).setCell ⟨W.heap.size + 1 + 1, 22, none⟩ (.int .i64 a1.y)).setCell ⟨W.heap.size + 1 + 1, 23, none⟩ (.int .i64 a1.z)) _ _ _ := hP3
      replace hC3 : Blk (((V5.setCell ⟨W.heap.size + 1 + 1, 21, none⟩ (.int .i64 a1.x)).setCell ⟨W.heap.size + 1 + 1, 22, none⟩ (.int .i64 a1.y)).setCell ⟨W.heap.size + 1 + 1, 23, none⟩ (.int .i64 a1.z)) _ _ _ := hC3
      replace hR3 : Blk (((V5.setCell ⟨W.heap.size + 1 + 1, 21, none⟩ (.int .i64 a1.x)).setCell ⟨W.heap.size + 1 + 1, 22, none⟩ (.int .i64 a1.y)).setCell ⟨W.heap.size + 1 + 1, 23, none⟩ (.int .i64 a1.z)) _ _ _ := hR3
      replace hF3 : Blk (((V5.setCell ⟨W.heap.size + 1 + 1, 21, none⟩ (.int .i64 a1.x)).setCell ⟨W.heap.size + 1 + 1, 22, none⟩ (.int .i64 a1.y)).setCell ⟨W.heap.size + 1 + 1, 23, none⟩ (.int .i64 a1.z)) _ _ _ := hF3
      replace hA3 : Blk (((V5.setCell ⟨W.heap.size + 1 + 1, 21, none⟩ (.int .i64 a1.x)).setCell ⟨W.heap.size + 1 + 1, 22, none⟩ (.int .i64 a1.y)).setCell ⟨W.heap.size + 1 + 1, 23, none⟩ (.int .i64 a1.z)) _ _ _ := hA3
      clear hP2 hC2 hR2 hF2 hA2 hB2 g0 g1 g2 gl f0 f1 f2 hnx
      generalize (((V5.setCell ⟨W.heap.size + 1 + 1, 21, none⟩ (.int .i64 a1.x)).setCell ⟨W.heap.size + 1 + 1, 22, none⟩ (.int .i64 a1.y)).setCell ⟨W.heap.size + 1 + 1, 23, none⟩ (.int .i64 a1.z)) = V6 at *
      have hP2 := hP3
      have hC2 := hC3
      have hR2 := hR3
      have hF2 := hF3
      have hA2 := hA3
      have hB2 := hB3
      clear hP3 hC3 hR3 hF3 hA3 hB3
      have z2 := hA2.cell 2
      have zl := hA2.lt
      have pl := hF2.lt
      have o0 := hF2.cell 0
      have o1 := hF2.cell 1
      have o2 := hF2.cell 2
      have o3 := hF2.cell 3
      have kJ := fun (x : More) => kN10 (grow V6 x) (hN.out.below (bel_grow hB2 x))
      go_upto_region 9 with (fail)
      refine wp_region_tail 11 ?_ (by kernel_rfl) (by kernel_rfl) (by kernel_rfl) (fun x => ?_) (fun x => ?_)
      rotate_left
      · simp only [List.take_succ_cons, List.take_zero]
        repeat (first | (refine quiet_net _ rfl rfl W.heap.size rfl N a (fun z hz => by obtain ⟨y, rfl⟩ := hz; exact (hC2.grow _).grow _) ?_; simp only [Act.put, List.setIfInBounds_toArray, List.set_cons_succ, List.set_cons_zero]) | go_big_quiet_step (((first | with_reducible exact cqa _ (kJ _) | with_reducible exact cqb _ _ (kJ _)))))
        refine wpQuiet_nil ?_
        exact rfl
      simp only [List.drop_succ_cons, List.drop_zero]
      try simp only [Act.put, List.setIfInBounds_toArray, List.set_cons_succ, List.set_cons_zero]
      clear kJ z2 zl pl o0 o1 o2 o3
      replace hA2 := hA2.grow x
      replace hC2 := hC2.grow x
      replace hR2 := hR2.grow x
      replace hF2 := hF2.grow x
      replace hP2 := hP2.grow x
      replace hB2 := bel_grow hB2 x
      generalize grow V6 x = V7 at *
      obtain ⟨⟨g0, g1, g2⟩, gl, f0, f1, f2⟩ := row3P hP2 (show 2 < 16 by omega)
      go_wp2
      go_roundw
      case rel =>
        have hP3 := (((hP2.set (2 * 3) (.int .i64 b1.x)).set (2 * 3 + 1) (.int .i64 b1.y)).set (2 * 3 + 2) (.int .i64 b1.z))
        have hnx := hn5.out
        unfold set3 at hnx
        rw [hnx] at hP3
        have hC3 := (((hC2.far (b := W.heap.size + 1 + 1) 6 (.int .i64 b1.x) (by omega)).far (b := W.heap.size + 1 + 1) 7 (.int .i64 b1.y) (by omega)).far (b := W.heap.size + 1 + 1) 8 (.int .i64 b1.z) (by omega))
        have hR3 := (((hR2.far (b := W.heap.size + 1 + 1) 6 (.int .i64 b1.x) (by omega)).far (b := W.heap.size + 1 + 1) 7 (.int .i64 b1.y) (by omega)).far (b := W.heap.size + 1 + 1) 8 (.int .i64 b1.z) (by omega))
        have hF3 := (((hF2.far (b := W.heap.size + 1 + 1) 6 (.int .i64 b1.x) (by omega)).far (b := W.heap.size + 1 + 1) 7 (.int .i64 b1.y) (by omega)).far (b := W.heap.size + 1 + 1) 8 (.int .i64 b1.z) (by omega))
        have hA3 := (((hA2.far (b := W.heap.size + 1 + 1) 6 (.int .i64 b1.x) (by omega)).far (b := W.heap.size + 1 + 1) 7 (.int .i64 b1.y) (by omega)).far (b := W.heap.size + 1 + 1) 8 (.int .i64 b1.z) (by omega))
        have hB3 := bel_set (bel_set (bel_set hB2 (p := ⟨W.heap.size + 1 + 1, 6, none⟩) (by show W.heap.size ≤ W.heap.size + 1 + 1; omega) (.int .i64 b1.x)) (p := ⟨W.heap.size + 1 + 1, 7, none⟩) (by show W.heap.size ≤ W.heap.size + 1 + 1; omega) (.int .i64 b1.y)) (p := ⟨W.heap.size + 1 + 1, 8, none⟩) (by show W.heap.size ≤ W.heap.size + 1 + 1; omega) (.int .i64 b1.z)
        exact ⟨hB3, hC3, hR3, hF3, .inr (.inr (.inl ⟨rfl, hP3⟩))⟩
      case measure => simp [intOf]
    · have p0 := hFr.cell 0
      have p1 := hFr.cell 1
      have p2 := hFr.cell 2
      have p3 := hFr.cell 3
      have pl := hFr.lt
      go_upto_region 5 with (fail)
      refine wp_region_lit ?_
      refine wpList_val rfl (.int .i64 2) wr (by kernel_rfl) ?_
      simp only [Act.put, List.setIfInBounds_toArray, List.set_cons_succ, List.set_cons_zero]
      refine wpList_val rfl (.agg #[.int .i64 10, .int .i64 14, .int .i64 11]) wr (by kernel_rfl) ?_
      simp only [Act.put, List.setIfInBounds_toArray, List.set_cons_succ, List.set_cons_zero]
      go_upto_region 7 with (fail)
      have hA2 : Blk (wr.alloc (.cells #[.int .i64 10, .int .i64 14, .int .i64 11] 86)) wr.heap.size 86 #[.int .i64 10, .int .i64 14, .int .i64 11] := Blk.new _ _ _ _ rfl
      have hC2 := hCr.alloc (.cells #[.int .i64 10, .int .i64 14, .int .i64 11] 86)
      have hR2 := hRr.alloc (.cells #[.int .i64 10, .int .i64 14, .int .i64 11] 86)
      have hF2 := hFr.alloc (.cells #[.int .i64 10, .int .i64 14, .int .i64 11] 86)
      have hP2 := hPr.alloc (.cells #[.int .i64 10, .int .i64 14, .int .i64 11] 86)
      have hB2 : Below W.heap.size W (wr.alloc (.cells #[.int .i64 10, .int .i64 14, .int .i64 11] 86)) := bel_alloc hBr _
      have hga : gf < wr.heap.size := hFr.lt
      clear hCr hRr hFr hPr hBr p0 p1 p2 p3 pl
      generalize wr.alloc (.cells #[.int .i64 10, .int .i64 14, .int .i64 11] 86) = V2 at *
      generalize wr.heap.size = ga at *
      have z0 := hA2.cell 0
      have zl := hA2.lt
      have pl := hF2.lt
      have o0 := hF2.cell 0
      have o1 := hF2.cell 1
      have o2 := hF2.cell 2
      have o3 := hF2.cell 3
      have kJ := fun (x : More) => kI2 (grow V2 x) (hN.out.below (bel_grow hB2 x))
      refine wp_region_tail 7 ?_ (by kernel_rfl) (by kernel_rfl) (by kernel_rfl) (fun x => ?_) (fun x => ?_)
      rotate_left
      · simp only [List.take_succ_cons, List.take_zero]
        repeat (first | (refine quiet_net _ rfl rfl W.heap.size rfl N a (fun z hz => by obtain ⟨y, rfl⟩ := hz; exact (hC2.grow _).grow _) ?_; simp only [Act.put, List.setIfInBounds_toArray, List.set_cons_succ, List.set_cons_zero]) | go_big_quiet_step (((first | with_reducible exact cqa _ (kJ _) | with_reducible exact cqb _ _ (kJ _)))))
        refine wpQuiet_nil ?_
        exact rfl
      simp only [List.drop_succ_cons, List.drop_zero]
      try simp only [Act.put, List.setIfInBounds_toArray, List.set_cons_succ, List.set_cons_zero]
      clear kJ z0 zl pl o0 o1 o2 o3
      replace hA2 := hA2.grow x
      replace hC2 := hC2.grow x
      replace hR2 := hR2.grow x
      replace hF2 := hF2.grow x
      replace hP2 := hP2.grow x
      replace hB2 := bel_grow hB2 x
      generalize grow V2 x = V3 at *
      obtain ⟨⟨g0, g1, g2⟩, gl, f0, f1, f2⟩ := row3P hP2 (show 10 < 16 by omega)
      go_upto_region 8 with (fail)
      have hP3 := (((hP2.set (10 * 3) (.int .i64 i2.x)).set (10 * 3 + 1) (.int .i64 i2.y)).set (10 * 3 + 2) (.int .i64 i2.z))
      have hnx := hn6.out
      unfold set3 at hnx
      rw [hnx] at hP3
      have hC3 := (((hC2.far (b := W.heap.size + 1 + 1) 30 (.int .i64 i2.x) (by omega)).far (b := W.heap.size + 1 + 1) 31 (.int .i64 i2.y) (by omega)).far (b := W.heap.size + 1 + 1) 32 (.int .i64 i2.z) (by omega))
      have hR3 := (((hR2.far (b := W.heap.size + 1 + 1) 30 (.int .i64 i2.x) (by omega)).far (b := W.heap.size + 1 + 1) 31 (.int .i64 i2.y) (by omega)).far (b := W.heap.size + 1 + 1) 32 (.int .i64 i2.z) (by omega))
      have hF3 := (((hF2.far (b := W.heap.size + 1 + 1) 30 (.int .i64 i2.x) (by omega)).far (b := W.heap.size + 1 + 1) 31 (.int .i64 i2.y) (by omega)).far (b := W.heap.size + 1 + 1) 32 (.int .i64 i2.z) (by omega))
      have hA3 := (((hA2.far (b := W.heap.size + 1 + 1) 30 (.int .i64 i2.x) (by omega)).far (b := W.heap.size + 1 + 1) 31 (.int .i64 i2.y) (by omega)).far (b := W.heap.size + 1 + 1) 32 (.int .i64 i2.z) (by omega))
      have hB3 := bel_set (bel_set (bel_set hB2 (p := ⟨W.heap.size + 1 + 1, 30, none⟩) (by show W.heap.size ≤ W.heap.size + 1 + 1; omega) (.int .i64 i2.x)) (p := ⟨W.heap.size + 1 + 1, 31, none⟩) (by show W.heap.size ≤ W.heap.size + 1 + 1; omega) (.int .i64 i2.y)) (p := ⟨W.heap.size + 1 + 1, 32, none⟩) (by show W.heap.size ≤ W.heap.size + 1 + 1; omega) (.int .i64 i2.z)
      replace hP3 : Blk (((V3.setCell ⟨W.heap.size + 1 + 1, 30, none⟩ (.int .i64 i2.x)).setCell ⟨W.heap.size + 1 + 1, 31, none⟩ (.int .i64 i2.y)).setCell ⟨W.heap.size + 1 + 1, 32, none⟩ (.int .i64 i2.z)) _ _ _ := hP3
      replace hC3 : Blk (((V3.setCell ⟨W.heap.size + 1 + 1, 30, none⟩ (.int .i64 i2.x)).setCell ⟨W.heap.size + 1 + 1, 31, none⟩ (.int .i64 i2.y)).setCell ⟨W.heap.size + 1 + 1, 32, none⟩ (.int .i64 i2.z)) _ _ _ := hC3
      replace hR3 : Blk (((V3.setCell ⟨W.heap.size + 1 + 1, 30, none⟩ (.int .i64 i2.x)).setCell ⟨W.heap.size + 1 + 1, 31, none⟩ (.int .i64 i2.y)).setCell ⟨W.heap.size + 1 + 1, 32, none⟩ (.int .i64 i2.z)) _ _ _ := hR3
      replace hF3 : Blk (((V3.setCell ⟨W.heap.size + 1 + 1, 30, none⟩ (.int .i64 i2.x)).setCell ⟨W.heap.size + 1 + 1, 31, none⟩ (.int .i64 i2.y)).setCell ⟨W.heap.size + 1 + 1, 32, none⟩ (.int .i64 i2.z)) _ _ _ := hF3
      replace hA3 : Blk (((V3.setCell ⟨W.heap.size + 1 + 1, 30, none⟩ (.int .i64 i2.x)).setCell ⟨W.heap.size + 1 + 1, 31, none⟩ (.int .i64 i2.y)).setCell ⟨W.heap.size + 1 + 1, 32, none⟩ (.int .i64 i2.z)) _ _ _ := hA3
      clear hP2 hC2 hR2 hF2 hA2 hB2 g0 g1 g2 gl f0 f1 f2 hnx
      generalize (((V3.setCell ⟨W.heap.size + 1 + 1, 30, none⟩ (.int .i64 i2.x)).setCell ⟨W.heap.size + 1 + 1, 31, none⟩ (.int .i64 i2.y)).setCell ⟨W.heap.size + 1 + 1, 32, none⟩ (.int .i64 i2.z)) = V4 at *
      have hP2 := hP3
      have hC2 := hC3
      have hR2 := hR3
      have hF2 := hF3
      have hA2 := hA3
      have hB2 := hB3
      clear hP3 hC3 hR3 hF3 hA3 hB3
      have z1 := hA2.cell 1
      have zl := hA2.lt
      have pl := hF2.lt
      have o0 := hF2.cell 0
      have o1 := hF2.cell 1
      have o2 := hF2.cell 2
      have o3 := hF2.cell 3
      have kJ := fun (x : More) => kN23 (grow V4 x) (hN.out.below (bel_grow hB2 x))
      go_upto_region 8 with (fail)
      refine wp_region_tail 11 ?_ (by kernel_rfl) (by kernel_rfl) (by kernel_rfl) (fun x => ?_) (fun x => ?_)
      rotate_left
      · simp only [List.take_succ_cons, List.take_zero]
        repeat (first | (refine quiet_net _ rfl rfl W.heap.size rfl N a (fun z hz => by obtain ⟨y, rfl⟩ := hz; exact (hC2.grow _).grow _) ?_; simp only [Act.put, List.setIfInBounds_toArray, List.set_cons_succ, List.set_cons_zero]) | go_big_quiet_step (((first | with_reducible exact cqa _ (kJ _) | with_reducible exact cqb _ _ (kJ _)))))
        refine wpQuiet_nil ?_
        exact rfl
      simp only [List.drop_succ_cons, List.drop_zero]
      try simp only [Act.put, List.setIfInBounds_toArray, List.set_cons_succ, List.set_cons_zero]
      clear kJ z1 zl pl o0 o1 o2 o3
      replace hA2 := hA2.grow x
      replace hC2 := hC2.grow x
      replace hR2 := hR2.grow x
      replace hF2 := hF2.grow x
      replace hP2 := hP2.grow x
      replace hB2 := bel_grow hB2 x
      generalize grow V4 x = V5 at *
      obtain ⟨⟨g0, g1, g2⟩, gl, f0, f1, f2⟩ := row3P hP2 (show 14 < 16 by omega)
      go_upto_region 9 with (fail)
      have hP3 := (((hP2.set (14 * 3) (.int .i64 a2.x)).set (14 * 3 + 1) (.int .i64 a2.y)).set (14 * 3 + 2) (.int .i64 a2.z))
      have hnx := hn7.out
      unfold set3 at hnx
      rw [hnx] at hP3
      have hC3 := (((hC2.far (b := W.heap.size + 1 + 1) 42 (.int .i64 a2.x) (by omega)).far (b := W.heap.size + 1 + 1) 43 (.int .i64 a2.y) (by omega)).far (b := W.heap.size + 1 + 1) 44 (.int .i64 a2.z) (by omega))
      have hR3 := (((hR2.far (b := W.heap.size + 1 + 1) 42 (.int .i64 a2.x) (by omega)).far (b := W.heap.size + 1 + 1) 43 (.int .i64 a2.y) (by omega)).far (b := W.heap.size + 1 + 1) 44 (.int .i64 a2.z) (by omega))
      have hF3 := (((hF2.far (b := W.heap.size + 1 + 1) 42 (.int .i64 a2.x) (by omega)).far (b := W.heap.size + 1 + 1) 43 (.int .i64 a2.y) (by omega)).far (b := W.heap.size + 1 + 1) 44 (.int .i64 a2.z) (by omega))
      have hA3 := (((hA2.far (b := W.heap.size + 1 + 1) 42 (.int .i64 a2.x) (by omega)).far (b := W.heap.size + 1 + 1) 43 (.int .i64 a2.y) (by omega)).far (b := W.heap.size + 1 + 1) 44 (.int .i64 a2.z) (by omega))
      have hB3 := bel_set (bel_set (bel_set hB2 (p := ⟨W.heap.size + 1 + 1, 42, none⟩) (by show W.heap.size ≤ W.heap.size + 1 + 1; omega) (.int .i64 a2.x)) (p := ⟨W.heap.size + 1 + 1, 43, none⟩) (by show W.heap.size ≤ W.heap.size + 1 + 1; omega) (.int .i64 a2.y)) (p := ⟨W.heap.size + 1 + 1, 44, none⟩) (by show W.heap.size ≤ W.heap.size + 1 + 1; omega) (.int .i64 a2.z)
      replace hP3 : Blk (((V5.setCell ⟨W.heap.size + 1 + 1, 42, none⟩ (.int .i64 a2.x)).setCell ⟨W.heap.size + 1 + 1, 43, none⟩ (.int .i64 a2.y)).setCell ⟨W.heap.size + 1 + 1, 44, none⟩ (.int .i64 a2.z)) _ _ _ := hP3
      replace hC3 : Blk (((V5.setCell ⟨W.heap.size + 1 + 1, 42, none⟩ (.int .i64 a2.x)).setCell ⟨W.heap.size + 1 + 1, 43, none⟩ (.int .i64 a2.y)).setCell ⟨W.heap.size + 1 + 1, 44, none⟩ (.int .i64 a2.z)) _ _ _ := hC3
      replace hR3 : Blk (((V5.setCell ⟨W.heap.size + 1 + 1, 42, none⟩ (.int .i64 a2.x)).setCell ⟨W.heap.size + 1 + 1, 43, none⟩ (.int .i64 a2.y)).setCell ⟨W.heap.size + 1 + 1, 44, none⟩ (.int .i64 a2.z)) _ _ _ := hR3
      replace hF3 : Blk (((V5.setCell ⟨W.heap.size + 1 + 1, 42, none⟩ (.int .i64 a2.x)).setCell ⟨W.heap.size + 1 + 1, 43, none⟩ (.int .i64 a2.y)).setCell ⟨W.heap.size + 1 + 1, 44, none⟩ (.int .i64 a2.z)) _ _ _ := hF3
      replace hA3 : Blk (((V5.setCell ⟨W.heap.size + 1 + 1, 42, none⟩ (.int .i64 a2.x)).setCell ⟨W.heap.size + 1 + 1, 43, none⟩ (.int .i64 a2.y)).setCell ⟨W.heap.size + 1 + 1, 44, none⟩ (.int .i64 a2.z)) _ _ _ := hA3
      clear hP2 hC2 hR2 hF2 hA2 hB2 g0 g1 g2 gl f0 f1 f2 hnx
      generalize (((V5.setCell ⟨W.heap.size + 1 + 1, 42, none⟩ (.int .i64 a2.x)).setCell ⟨W.heap.size + 1 + 1, 43, none⟩ (.int .i64 a2.y)).setCell ⟨W.heap.size + 1 + 1, 44, none⟩ (.int .i64 a2.z)) = V6 at *
      have hP2 := hP3
      have hC2 := hC3
      have hR2 := hR3
      have hF2 := hF3
      have hA2 := hA3
      have hB2 := hB3
      clear hP3 hC3 hR3 hF3 hA3 hB3
      have z2 := hA2.cell 2
      have zl := hA2.lt
      have pl := hF2.lt
      have o0 := hF2.cell 0
      have o1 := hF2.cell 1
      have o2 := hF2.cell 2
      have o3 := hF2.cell 3
      have kJ := fun (x : More) => kN21 (grow V6 x) (hN.out.below (bel_grow hB2 x))
      go_upto_region 9 with (fail)
      refine wp_region_tail 11 ?_ (by kernel_rfl) (by kernel_rfl) (by kernel_rfl) (fun x => ?_) (fun x => ?_)
      rotate_left
      · simp only [List.take_succ_cons, List.take_zero]
        repeat (first | (refine quiet_net _ rfl rfl W.heap.size rfl N a (fun z hz => by obtain ⟨y, rfl⟩ := hz; exact (hC2.grow _).grow _) ?_; simp only [Act.put, List.setIfInBounds_toArray, List.set_cons_succ, List.set_cons_zero]) | go_big_quiet_step (((first | with_reducible exact cqa _ (kJ _) | with_reducible exact cqb _ _ (kJ _)))))
        refine wpQuiet_nil ?_
        exact rfl
      simp only [List.drop_succ_cons, List.drop_zero]
      try simp only [Act.put, List.setIfInBounds_toArray, List.set_cons_succ, List.set_cons_zero]
      clear kJ z2 zl pl o0 o1 o2 o3
      replace hA2 := hA2.grow x
      replace hC2 := hC2.grow x
      replace hR2 := hR2.grow x
      replace hF2 := hF2.grow x
      replace hP2 := hP2.grow x
      replace hB2 := bel_grow hB2 x
      generalize grow V6 x = V7 at *
      obtain ⟨⟨g0, g1, g2⟩, gl, f0, f1, f2⟩ := row3P hP2 (show 11 < 16 by omega)
      go_wp2
      go_roundw
      case rel =>
        have hP3 := (((hP2.set (11 * 3) (.int .i64 b2.x)).set (11 * 3 + 1) (.int .i64 b2.y)).set (11 * 3 + 2) (.int .i64 b2.z))
        have hnx := hn8.out
        unfold set3 at hnx
        rw [hnx] at hP3
        have hC3 := (((hC2.far (b := W.heap.size + 1 + 1) 33 (.int .i64 b2.x) (by omega)).far (b := W.heap.size + 1 + 1) 34 (.int .i64 b2.y) (by omega)).far (b := W.heap.size + 1 + 1) 35 (.int .i64 b2.z) (by omega))
        have hR3 := (((hR2.far (b := W.heap.size + 1 + 1) 33 (.int .i64 b2.x) (by omega)).far (b := W.heap.size + 1 + 1) 34 (.int .i64 b2.y) (by omega)).far (b := W.heap.size + 1 + 1) 35 (.int .i64 b2.z) (by omega))
        have hF3 := (((hF2.far (b := W.heap.size + 1 + 1) 33 (.int .i64 b2.x) (by omega)).far (b := W.heap.size + 1 + 1) 34 (.int .i64 b2.y) (by omega)).far (b := W.heap.size + 1 + 1) 35 (.int .i64 b2.z) (by omega))
        have hA3 := (((hA2.far (b := W.heap.size + 1 + 1) 33 (.int .i64 b2.x) (by omega)).far (b := W.heap.size + 1 + 1) 34 (.int .i64 b2.y) (by omega)).far (b := W.heap.size + 1 + 1) 35 (.int .i64 b2.z) (by omega))
        have hB3 := bel_set (bel_set (bel_set hB2 (p := ⟨W.heap.size + 1 + 1, 33, none⟩) (by show W.heap.size ≤ W.heap.size + 1 + 1; omega) (.int .i64 b2.x)) (p := ⟨W.heap.size + 1 + 1, 34, none⟩) (by show W.heap.size ≤ W.heap.size + 1 + 1; omega) (.int .i64 b2.y)) (p := ⟨W.heap.size + 1 + 1, 35, none⟩) (by show W.heap.size ≤ W.heap.size + 1 + 1; omega) (.int .i64 b2.z)
        exact ⟨hB3, hC3, hR3, hF3, .inr (.inr (.inr (.inl ⟨rfl, hP3⟩)))⟩
      case measure => simp [intOf]
    · have p0 := hFr.cell 0
      have p1 := hFr.cell 1
      have p2 := hFr.cell 2
      have p3 := hFr.cell 3
      have pl := hFr.lt
      go_upto_region 5 with (fail)
      refine wp_region_lit ?_
      refine wpList_val rfl (.int .i64 3) wr (by kernel_rfl) ?_
      simp only [Act.put, List.setIfInBounds_toArray, List.set_cons_succ, List.set_cons_zero]
      refine wpList_val rfl (.agg #[.int .i64 9, .int .i64 8, .int .i64 13]) wr (by kernel_rfl) ?_
      simp only [Act.put, List.setIfInBounds_toArray, List.set_cons_succ, List.set_cons_zero]
      go_upto_region 7 with (fail)
      have hA2 : Blk (wr.alloc (.cells #[.int .i64 9, .int .i64 8, .int .i64 13] 86)) wr.heap.size 86 #[.int .i64 9, .int .i64 8, .int .i64 13] := Blk.new _ _ _ _ rfl
      have hC2 := hCr.alloc (.cells #[.int .i64 9, .int .i64 8, .int .i64 13] 86)
      have hR2 := hRr.alloc (.cells #[.int .i64 9, .int .i64 8, .int .i64 13] 86)
      have hF2 := hFr.alloc (.cells #[.int .i64 9, .int .i64 8, .int .i64 13] 86)
      have hP2 := hPr.alloc (.cells #[.int .i64 9, .int .i64 8, .int .i64 13] 86)
      have hB2 : Below W.heap.size W (wr.alloc (.cells #[.int .i64 9, .int .i64 8, .int .i64 13] 86)) := bel_alloc hBr _
      have hga : gf < wr.heap.size := hFr.lt
      clear hCr hRr hFr hPr hBr p0 p1 p2 p3 pl
      generalize wr.alloc (.cells #[.int .i64 9, .int .i64 8, .int .i64 13] 86) = V2 at *
      generalize wr.heap.size = ga at *
      have z0 := hA2.cell 0
      have zl := hA2.lt
      have pl := hF2.lt
      have o0 := hF2.cell 0
      have o1 := hF2.cell 1
      have o2 := hF2.cell 2
      have o3 := hF2.cell 3
      have kJ := fun (x : More) => kI3 (grow V2 x) (hN.out.below (bel_grow hB2 x))
      refine wp_region_tail 7 ?_ (by kernel_rfl) (by kernel_rfl) (by kernel_rfl) (fun x => ?_) (fun x => ?_)
      rotate_left
      · simp only [List.take_succ_cons, List.take_zero]
        repeat (first | (refine quiet_net _ rfl rfl W.heap.size rfl N a (fun z hz => by obtain ⟨y, rfl⟩ := hz; exact (hC2.grow _).grow _) ?_; simp only [Act.put, List.setIfInBounds_toArray, List.set_cons_succ, List.set_cons_zero]) | go_big_quiet_step (((first | with_reducible exact cqa _ (kJ _) | with_reducible exact cqb _ _ (kJ _)))))
        refine wpQuiet_nil ?_
        exact rfl
      simp only [List.drop_succ_cons, List.drop_zero]
      try simp only [Act.put, List.setIfInBounds_toArray, List.set_cons_succ, List.set_cons_zero]
      clear kJ z0 zl pl o0 o1 o2 o3
      replace hA2 := hA2.grow x
      replace hC2 := hC2.grow x
      replace hR2 := hR2.grow x
      replace hF2 := hF2.grow x
      replace hP2 := hP2.grow x
      replace hB2 := bel_grow hB2 x
      generalize grow V2 x = V3 at *
      obtain ⟨⟨g0, g1, g2⟩, gl, f0, f1, f2⟩ := row3P hP2 (show 9 < 16 by omega)
      go_upto_region 8 with (fail)
      have hP3 := (((hP2.set (9 * 3) (.int .i64 i3.x)).set (9 * 3 + 1) (.int .i64 i3.y)).set (9 * 3 + 2) (.int .i64 i3.z))
      have hnx := hn9.out
      unfold set3 at hnx
      rw [hnx] at hP3
      have hC3 := (((hC2.far (b := W.heap.size + 1 + 1) 27 (.int .i64 i3.x) (by omega)).far (b := W.heap.size + 1 + 1) 28 (.int .i64 i3.y) (by omega)).far (b := W.heap.size + 1 + 1) 29 (.int .i64 i3.z) (by omega))
      have hR3 := (((hR2.far (b := W.heap.size + 1 + 1) 27 (.int .i64 i3.x) (by omega)).far (b := W.heap.size + 1 + 1) 28 (.int .i64 i3.y) (by omega)).far (b := W.heap.size + 1 + 1) 29 (.int .i64 i3.z) (by omega))
      have hF3 := (((hF2.far (b := W.heap.size + 1 + 1) 27 (.int .i64 i3.x) (by omega)).far (b := W.heap.size + 1 + 1) 28 (.int .i64 i3.y) (by omega)).far (b := W.heap.size + 1 + 1) 29 (.int .i64 i3.z) (by omega))
      have hA3 := (((hA2.far (b := W.heap.size + 1 + 1) 27 (.int .i64 i3.x) (by omega)).far (b := W.heap.size + 1 + 1) 28 (.int .i64 i3.y) (by omega)).far (b := W.heap.size + 1 + 1) 29 (.int .i64 i3.z) (by omega))
      have hB3 := bel_set (bel_set (bel_set hB2 (p := ⟨W.heap.size + 1 + 1, 27, none⟩) (by show W.heap.size ≤ W.heap.size + 1 + 1; omega) (.int .i64 i3.x)) (p := ⟨W.heap.size + 1 + 1, 28, none⟩) (by show W.heap.size ≤ W.heap.size + 1 + 1; omega) (.int .i64 i3.y)) (p := ⟨W.heap.size + 1 + 1, 29, none⟩) (by show W.heap.size ≤ W.heap.size + 1 + 1; omega) (.int .i64 i3.z)
      replace hP3 : Blk (((V3.setCell ⟨W.heap.size + 1 + 1, 27, none⟩ (.int .i64 i3.x)).setCell ⟨W.heap.size + 1 + 1, 28, none⟩ (.int .i64 i3.y)).setCell ⟨W.heap.size + 1 + 1, 29, none⟩ (.int .i64 i3.z)) _ _ _ := hP3
      replace hC3 : Blk (((V3.setCell ⟨W.heap.size + 1 + 1, 27, none⟩ (.int .i64 i3.x)).setCell ⟨W.heap.size + 1 + 1, 28, none⟩ (.int .i64 i3.y)).setCell ⟨W.heap.size + 1 + 1, 29, none⟩ (.int .i64 i3.z)) _ _ _ := hC3
      replace hR3 : Blk (((V3.setCell ⟨W.heap.size + 1 + 1, 27, none⟩ (.int .i64 i3.x)).setCell ⟨W.heap.size + 1 + 1, 28, none⟩ (.int .i64 i3.y)).setCell ⟨W.heap.size + 1 + 1, 29, none⟩ (.int .i64 i3.z)) _ _ _ := hR3
      replace hF3 : Blk (((V3.setCell ⟨W.heap.size + 1 + 1, 27, none⟩ (.int .i64 i3.x)).setCell ⟨W.heap.size + 1 + 1, 28, none⟩ (.int .i64 i3.y)).setCell ⟨W.heap.size + 1 + 1, 29, none⟩ (.int .i64 i3.z)) _ _ _ := hF3
      replace hA3 : Blk (((V3.setCell ⟨W.heap.size + 1 + 1, 27, none⟩ (.int .i64 i3.x)).setCell ⟨W.heap.size + 1 + 1, 28, none⟩ (.int .i64 i3.y)).setCell ⟨W.heap.size + 1 + 1, 29, none⟩ (.int .i64 i3.z)) _ _ _ := hA3
      clear hP2 hC2 hR2 hF2 hA2 hB2 g0 g1 g2 gl f0 f1 f2 hnx
      generalize (((V3.setCell ⟨W.heap.size + 1 + 1, 27, none⟩ (.int .i64 i3.x)).setCell ⟨W.heap.size + 1 + 1, 28, none⟩ (.int .i64 i3.y)).setCell ⟨W.heap.size + 1 + 1, 29, none⟩ (.int .i64 i3.z)) = V4 at *
      have hP2 := hP3
      have hC2 := hC3
      have hR2 := hR3
      have hF2 := hF3
      have hA2 := hA3
      have hB2 := hB3
      clear hP3 hC3 hR3 hF3 hA3 hB3
      have z1 := hA2.cell 1
      have zl := hA2.lt
      have pl := hF2.lt
      have o0 := hF2.cell 0
      have o1 := hF2.cell 1
      have o2 := hF2.cell 2
      have o3 := hF2.cell 3
      have kJ := fun (x : More) => kN30 (grow V4 x) (hN.out.below (bel_grow hB2 x))
      go_upto_region 8 with (fail)
      refine wp_region_tail 11 ?_ (by kernel_rfl) (by kernel_rfl) (by kernel_rfl) (fun x => ?_) (fun x => ?_)
      rotate_left
      · simp only [List.take_succ_cons, List.take_zero]
        repeat (first | (refine quiet_net _ rfl rfl W.heap.size rfl N a (fun z hz => by obtain ⟨y, rfl⟩ := hz; exact (hC2.grow _).grow _) ?_; simp only [Act.put, List.setIfInBounds_toArray, List.set_cons_succ, List.set_cons_zero]) | go_big_quiet_step (((first | with_reducible exact cqa _ (kJ _) | with_reducible exact cqb _ _ (kJ _)))))
        refine wpQuiet_nil ?_
        exact rfl
      simp only [List.drop_succ_cons, List.drop_zero]
      try simp only [Act.put, List.setIfInBounds_toArray, List.set_cons_succ, List.set_cons_zero]
      clear kJ z1 zl pl o0 o1 o2 o3
      replace hA2 := hA2.grow x
      replace hC2 := hC2.grow x
      replace hR2 := hR2.grow x
      replace hF2 := hF2.grow x
      replace hP2 := hP2.grow x
      replace hB2 := bel_grow hB2 x
      generalize grow V4 x = V5 at *
      obtain ⟨⟨g0, g1, g2⟩, gl, f0, f1, f2⟩ := row3P hP2 (show 8 < 16 by omega)
      go_upto_region 9 with (fail)
      have hP3 := (((hP2.set (8 * 3) (.int .i64 a3.x)).set (8 * 3 + 1) (.int .i64 a3.y)).set (8 * 3 + 2) (.int .i64 a3.z))
      have hnx := hn10.out
      unfold set3 at hnx
      rw [hnx] at hP3
      have hC3 := (((hC2.far (b := W.heap.size + 1 + 1) 24 (.int .i64 a3.x) (by omega)).far (b := W.heap.size + 1 + 1) 25 (.int .i64 a3.y) (by omega)).far (b := W.heap.size + 1 + 1) 26 (.int .i64 a3.z) (by omega))
      have hR3 := (((hR2.far (b := W.heap.size + 1 + 1) 24 (.int .i64 a3.x) (by omega)).far (b := W.heap.size + 1 + 1) 25 (.int .i64 a3.y) (by omega)).far (b := W.heap.size + 1 + 1) 26 (.int .i64 a3.z) (by omega))
      have hF3 := (((hF2.far (b := W.heap.size + 1 + 1) 24 (.int .i64 a3.x) (by omega)).far (b := W.heap.size + 1 + 1) 25 (.int .i64 a3.y) (by omega)).far (b := W.heap.size + 1 + 1) 26 (.int .i64 a3.z) (by omega))
      have hA3 := (((hA2.far (b := W.heap.size + 1 + 1) 24 (.int .i64 a3.x) (by omega)).far (b := W.heap.size + 1 + 1) 25 (.int .i64 a3.y) (by omega)).far (b := W.heap.size + 1 + 1) 26 (.int .i64 a3.z) (by omega))
      have hB3 := bel_set (bel_set (bel_set hB2 (p := ⟨W.heap.size + 1 + 1, 24, none⟩) (by show W.heap.size ≤ W.heap.size + 1 + 1; omega) (.int .i64 a3.x)) (p := ⟨W.heap.size + 1 + 1, 25, none⟩) (by show W.heap.size ≤ W.heap.size + 1 + 1; omega) (.int .i64 a3.y)) (p := ⟨W.heap.size + 1 + 1, 26, none⟩) (by show W.heap.size ≤ W.heap.size + 1 + 1; omega) (.int .i64 a3.z)
      replace hP3 : Blk (((V5.setCell ⟨W.heap.size + 1 + 1, 24, none⟩ (.int .i64 a3.x)).setCell ⟨W.heap.size + 1 + 1, 25, none⟩ (.int .i64 a3.y)).setCell ⟨W.heap.size + 1 + 1, 26, none⟩ (.int .i64 a3.z)) _ _ _ := hP3
      replace hC3 : Blk (((V5.setCell ⟨W.heap.size + 1 + 1, 24, none⟩ (.int .i64 a3.x)).setCell ⟨W.heap.size + 1 + 1, 25, none⟩ (.int .i64 a3.y)).setCell ⟨W.heap.size + 1 + 1, 26, none⟩ (.int .i64 a3.z)) _ _ _ := hC3
      replace hR3 : Blk (((V5.setCell ⟨W.heap.size + 1 + 1, 24, none⟩ (.int .i64 a3.x)).setCell ⟨W.heap.size + 1 + 1, 25, none⟩ (.int .i64 a3.y)).setCell ⟨W.heap.size + 1 + 1, 26, none⟩ (.int .i64 a3.z)) _ _ _ := hR3
      replace hF3 : Blk (((V5.setCell ⟨W.heap.size + 1 + 1, 24, none⟩ (.int .i64 a3.x)).setCell ⟨W.heap.size + 1 + 1, 25, none⟩ (.int .i64 a3.y)).setCell ⟨W.heap.size + 1 + 1, 26, none⟩ (.int .i64 a3.z)) _ _ _ := hF3
      replace hA3 : Blk (((V5.setCell ⟨W.heap.size + 1 + 1, 24, none⟩ (.int .i64 a3.x)).setCell ⟨W.heap.size + 1 + 1, 25, none⟩ (.int .i64 a3.y)).setCell ⟨W.heap.size + 1 + 1, 26, none⟩ (.int .i64 a3.z)) _ _ _ := hA3
      clear hP2 hC2 hR2 hF2 hA2 hB2 g0 g1 g2 gl f0 f1 f2 hnx
      generalize (((V5.setCell ⟨W.heap.size + 1 + 1, 24, none⟩ (.int .i64 a3.x)).setCell ⟨W.heap.size + 1 + 1, 25, none⟩ (.int .i64 a3.y)).setCell ⟨W.heap.size + 1 + 1, 26, none⟩ (.int .i64 a3.z)) = V6 at *
      have hP2 := hP3
      have hC2 := hC3
      have hR2 := hR3
      have hF2 := hF3
      have hA2 := hA3
      have hB2 := hB3
      clear hP3 hC3 hR3 hF3 hA3 hB3
      have z2 := hA2.cell 2
      have zl := hA2.lt
      have pl := hF2.lt
      have o0 := hF2.cell 0
      have o1 := hF2.cell 1
      have o2 := hF2.cell 2
      have o3 := hF2.cell 3
      have kJ := fun (x : More) => kN32 (grow V6 x) (hN.out.below (bel_grow hB2 x))
      go_upto_region 9 with (fail)
      refine wp_region_tail 11 ?_ (by kernel_rfl) (by kernel_rfl) (by kernel_rfl) (fun x => ?_) (fun x => ?_)
      rotate_left
      · simp only [List.take_succ_cons, List.take_zero]
        repeat (first | (refine quiet_net _ rfl rfl W.heap.size rfl N a (fun z hz => by obtain ⟨y, rfl⟩ := hz; exact (hC2.grow _).grow _) ?_; simp only [Act.put, List.setIfInBounds_toArray, List.set_cons_succ, List.set_cons_zero]) | go_big_quiet_step (((first | with_reducible exact cqa _ (kJ _) | with_reducible exact cqb _ _ (kJ _)))))
        refine wpQuiet_nil ?_
        exact rfl
      simp only [List.drop_succ_cons, List.drop_zero]
      try simp only [Act.put, List.setIfInBounds_toArray, List.set_cons_succ, List.set_cons_zero]
      clear kJ z2 zl pl o0 o1 o2 o3
      replace hA2 := hA2.grow x
      replace hC2 := hC2.grow x
      replace hR2 := hR2.grow x
      replace hF2 := hF2.grow x
      replace hP2 := hP2.grow x
      replace hB2 := bel_grow hB2 x
      generalize grow V6 x = V7 at *
      obtain ⟨⟨g0, g1, g2⟩, gl, f0, f1, f2⟩ := row3P hP2 (show 13 < 16 by omega)
      go_wp2
      go_roundw
      case rel =>
        have hP3 := (((hP2.set (13 * 3) (.int .i64 b3.x)).set (13 * 3 + 1) (.int .i64 b3.y)).set (13 * 3 + 2) (.int .i64 b3.z))
        have hnx := hn11.out
        unfold set3 at hnx
        rw [hnx] at hP3
        have hC3 := (((hC2.far (b := W.heap.size + 1 + 1) 39 (.int .i64 b3.x) (by omega)).far (b := W.heap.size + 1 + 1) 40 (.int .i64 b3.y) (by omega)).far (b := W.heap.size + 1 + 1) 41 (.int .i64 b3.z) (by omega))
        have hR3 := (((hR2.far (b := W.heap.size + 1 + 1) 39 (.int .i64 b3.x) (by omega)).far (b := W.heap.size + 1 + 1) 40 (.int .i64 b3.y) (by omega)).far (b := W.heap.size + 1 + 1) 41 (.int .i64 b3.z) (by omega))
        have hF3 := (((hF2.far (b := W.heap.size + 1 + 1) 39 (.int .i64 b3.x) (by omega)).far (b := W.heap.size + 1 + 1) 40 (.int .i64 b3.y) (by omega)).far (b := W.heap.size + 1 + 1) 41 (.int .i64 b3.z) (by omega))
        have hA3 := (((hA2.far (b := W.heap.size + 1 + 1) 39 (.int .i64 b3.x) (by omega)).far (b := W.heap.size + 1 + 1) 40 (.int .i64 b3.y) (by omega)).far (b := W.heap.size + 1 + 1) 41 (.int .i64 b3.z) (by omega))
        have hB3 := bel_set (bel_set (bel_set hB2 (p := ⟨W.heap.size + 1 + 1, 39, none⟩) (by show W.heap.size ≤ W.heap.size + 1 + 1; omega) (.int .i64 b3.x)) (p := ⟨W.heap.size + 1 + 1, 40, none⟩) (by show W.heap.size ≤ W.heap.size + 1 + 1; omega) (.int .i64 b3.y)) (p := ⟨W.heap.size + 1 + 1, 41, none⟩) (by show W.heap.size ≤ W.heap.size + 1 + 1; omega) (.int .i64 b3.z)
        exact ⟨hB3, hC3, hR3, hF3, .inr (.inr (.inr (.inr (⟨rfl, hP3⟩))))⟩
      case measure => simp [intOf]
    · go_wp2_with (first | (refine load_P16 rfl _ rfl (W.heap.size + 1 + 1) rfl D12 hPr ?_; simp only [Act.put, List.setIfInBounds_toArray, List.set_cons_succ, List.set_cons_zero]) | (refine store_P16 rfl _ _ rfl (W.heap.size + 1) D12 (fun _ => Z3) rfl rfl hRr ?_; simp only [Act.put, List.setIfInBounds_toArray, List.set_cons_succ, List.set_cons_zero]) | fail)
      have hRe := hRr.setRow (rowCs 3 16 (pC D12))
      exact bodyPost_ret (results_cell_row rfl _ _ (W.heap.size + 1) 40 _ (0, 0) _ rfl hRe Try.underlying40 rfl (by rw [rowCs_size]; exact info16)) rfl ⟨rfl, bel_setRow hBr (by omega) _⟩
end Go.Proofs.Ytpdnaceggpdleab
namespace Go.Proofs.Ytpdnaceggpdleab
open Go.RowKit
set_option linter.unusedVariables false
set_option linter.unusedSimpArgs false
set_option linter.unnecessarySimpa false
set_option maxRecDepth 100000
/-- The cells of rows of four numbers. -/
def fC (g : Nat → List Int) : Nat → Nat → Value := fun v j => .int .i64 ((g v).getD j 0)
def Q0 : List Int := [0, 0, 0, 0]
theorem fC_set (g : Nat → List Int) {n v : Nat} (hv : v < n) (a b c d : Int) : ((((rowCs 4 n (fC g)).setIfInBounds (v * 4) (.int .i64 a)).setIfInBounds (v * 4 + 1) (.int .i64 b)).setIfInBounds (v * 4 + 2) (.int .i64 c)).setIfInBounds (v * 4 + 3) (.int .i64 d) = rowCs 4 n (fC fun u => if u = v then [a, b, c, d] else g u) := by
  have e0 := rowCs_set (k := 4) (fC g) hv (show 0 < 4 by omega) (.int .i64 a)
  rw [Nat.add_zero] at e0
  rw [e0, rowCs_set _ hv (show 1 < 4 by omega), rowCs_set _ hv (show 2 < 4 by omega), rowCs_set _ hv (show 3 < 4 by omega)]
  refine rowCs_ext fun x y hx hy => ?_
  unfold setC fC
  by_cases e : x = v
  · subst e
    rcases (by omega : y = 0 ∨ y = 1 ∨ y = 2 ∨ y = 3) with rfl | rfl | rfl | rfl <;> simp
  · simp [e]
theorem fC_ext {n : Nat} {f g : Nat → List Int} (h : ∀ v, v < n → f v = g v) : rowCs 4 n (fC f) = rowCs 4 n (fC g) := rowCs_ext fun a b ha hb => by unfold fC; rw [h a ha]
theorem fC_made (n : Nat) : madeCells #[.int .i64 0, .int .i64 0, .int .i64 0, .int .i64 0] (n * 4) = rowCs 4 n (fC fun _ => Q0) := by
  rw [rowCs_made (k := 4) rfl (by omega)]
  refine rowCs_ext fun a b ha hb => ?_
  unfold fC Q0
  rcases (by omega : b = 0 ∨ b = 1 ∨ b = 2 ∨ b = 3) with rfl | rfl | rfl | rfl <;> rfl
theorem QL_of {W : World} {g : Nat} {t : TypeId} {fs : List (List Int)} (h : Blk W g t (rowCs 4 fs.length (fC fun f => fs.getD f []))) : QL W (some ⟨g, 0, none⟩) fs := fun hn => by
  refine ⟨g, 0, rfl, h.lt, fun i hi k hk => ?_⟩
  rw [Nat.zero_add, h.cell, rowCs_at _ hi hk]
  have e : fs.getD i [] = fs[i] := by rw [List.getD_eq_getElem?_getD, List.getElem?_eq_getElem hi]; rfl
  unfold fC
  simp only [e]
theorem infoF4 : (Try.prog.info? 36).map (fun i => (i.zero, i.size, i.bytes)) = some (some (.agg #[.int .i64 0, .int .i64 0, .int .i64 0, .int .i64 0]), 4, 32) := by kernel_rfl
/-- Have all faces four corners? -/
def fourB (fs : List (List Int)) : Bool := fs.all fun x => x.length == 4
set_option maxHeartbeats 4000000 in
theorem squares_any (W : World) (A : Option Addr) (c : Nat) (fs : List (List Int)) (hF : FL W A fs) (hl : fs.length < 1000000000) (hxl : ∀ x ∈ fs, x.length < 1000000000000) :
    Calls Try.prog 26 #[.slice A fs.length c] W fun e W' => Below W.heap.size W W' ∧ ((fourB fs = true ∧ ∃ g, e = .returned (.tuple #[.slice (some ⟨g, 0, none⟩) fs.length fs.length, .bool true]) ∧ W.heap.size ≤ g ∧ Blk W' g 36 (rowCs 4 fs.length (fC fun f => fs.getD f []))) ∨ (fourB fs = false ∧ e = .returned (.tuple #[.slice none 0 0, .bool false]))) := by
  obtain ⟨i0, hi0, hz0, hz1, hz2⟩ := info_parts infoF4
  obtain ⟨HF, hHF⟩ : ∃ f : Nat → List Int, f = fun f : Nat => fs.getD f [] := ⟨_, rfl⟩
  rw [← hHF]
  have hHk : ∀ k (h : k < fs.length), HF k = fs[k] := fun k h => by
    rw [hHF]
    simp only [List.getD_eq_getElem?_getD, List.getElem?_eq_getElem h, Option.getD_some]
  clear hHF
  replace hHk := Lib.hid hHk
  obtain ⟨fb, hfb⟩ : ∃ b, b = fourB fs := ⟨_, rfl⟩
  rw [← hfb]
  replace hfb := Lib.hid hfb
  go_enter Try.func26, Try.ntmps26
  go_upto_region 2 with (first | ((refine wpList_make_full _ rfl _ _ 57 rfl W.heap.size 36 i0 _ 4 Try.underlying57 hi0 hz0 hz1 .i64 .i64 (fs.length : Int) (fs.length : Int) fs.length rfl rfl rfl rfl (by rw [hz2]; omega) (by unfold maxLen; omega) (Nat.le_refl _) ?_); intro W1 own1 hg1) | fail)
  have hG1 : Blk W1 W.heap.size 36 (rowCs 4 fs.length (fC fun _ => Q0)) := by
    have := made_blk own1
    rw [show (Value.agg #[Value.int .i64 0, Value.int .i64 0, Value.int .i64 0, Value.int .i64 0]).cells = #[.int .i64 0, .int .i64 0, .int .i64 0, .int .i64 0] from rfl, fC_made] at this
    exact this
  have hB1 : Below W.heap.size W W1 := bel_own (Below.refl _ _) hg1 (by intro k h; cases h)
  clear own1 hg1
  go_wp2
  go_loopw [12] (fun iv wr => ∃ k : Nat, iv = .int .i64 (k : Int) ∧ k ≤ fs.length ∧ (∀ j (h : j < fs.length), j < k → fs[j].length = 4) ∧ Below W.heap.size W wr ∧ Blk wr W.heap.size 36 (rowCs 4 fs.length (fC fun i => if i < k then HF i else Q0))) (fun iv _ => fs.length - (intOf iv).toNat)
  case atStart => exact ⟨0, rfl, by omega, fun j h hj => by omega, hB1, by simpa using hG1⟩
  case round =>
    obtain ⟨k, rfl, hk, hal, hBr, hGr⟩ := hrel
    clear hB1 hG1
    rename World => wr
    replace hal := Lib.hid hal
    by_cases hlt : k < fs.length
    · obtain ⟨b2, o2, B, m, rfl, hl2, hcell, hIL⟩ := (hF.below hBr).at_ k hlt
      have hH := hHk.out k hlt
      have hxl1 := hxl _ (List.getElem_mem hlt)
      have hno : fs[k].length ≠ 4 → fb = false := fun h => by
        rw [hfb.out]
        cases e : fourB fs
        · rfl
        · unfold fourB at e
          rw [List.all_eq_true] at e
          exact absurd (by simpa using e _ (List.getElem_mem hlt)) h
      have hal2 : fs[k].length = 4 → ∀ j (h : j < fs.length), j < k + 1 → fs[j].length = 4 := fun h4 j h hj => by
        by_cases e : j < k
        · exact hal.out j h e
        · obtain rfl : j = k := by omega
          exact h4
      generalize fs[k] = x at *
      replace hno := Lib.hid hno
      replace hal2 := Lib.hid hal2
      have q0 : (0 : Int) ≤ (k : Int) := by omega
      have q1 : (k : Int) < (fs.length : Int) := by omega
      by_cases h4 : x.length = 4
      · have hal3 := hal2.out h4
        obtain ⟨a0, a1, a2, a3, rfl⟩ := four_of h4
        obtain ⟨bx, ox, rfl, hbx, hcx⟩ := hIL (by simp)
        have c0 := hcx 0 (by simp)
        have c1 := hcx 1 (by simp)
        have c2 := hcx 2 (by simp)
        have c3 := hcx 3 (by simp)
        simp only [List.getElem_cons_zero, List.getElem_cons_succ, Nat.add_zero] at c0 c1 c2 c3
        clear hcx hIL h4
        replace hal3 := Lib.hid hal3
        have hnx := fC_set (fun i => if i < k then HF i else Q0) hlt a0 a1 a2 a3
        have hst : rowCs 4 fs.length (fC fun u => if u = k then [a0, a1, a2, a3] else if u < k then HF u else Q0) = rowCs 4 fs.length (fC fun i => if i < k + 1 then HF i else Q0) := fC_ext fun v hv => by
          by_cases e : v = k
          · subst e; rw [if_pos rfl, if_pos (by omega), hH]
          · rw [if_neg e]
            by_cases e2 : v < k
            · rw [if_pos e2, if_pos (by omega)]
            · rw [if_neg e2, if_neg (by omega)]
        rw [hst] at hnx
        clear hst
        replace hnx := Lib.hid hnx
        replace hH := Lib.hid hH
        obtain ⟨⟨g0, g1, g2, g3⟩, gl, f0, f1, f2, f3⟩ := row4W hGr hlt
        go_upto_region 7 with (fail)
        refine wp_region_lit ?_
        refine wpList_val rfl (.slice (some ⟨W.heap.size, 0, none⟩) fs.length fs.length) wr (by kernel_rfl) ?_
        simp only [Act.put, List.setIfInBounds_toArray, List.set_cons_succ, List.set_cons_zero]
        refine wpList_val rfl (.int .i64 (k : Int)) wr (by kernel_rfl) ?_
        simp only [Act.put, List.setIfInBounds_toArray, List.set_cons_succ, List.set_cons_zero]
        refine wpList_val rfl (.slice (some ⟨bx, ox, none⟩) 4 m) wr (by kernel_rfl) ?_
        simp only [Act.put, List.setIfInBounds_toArray, List.set_cons_succ, List.set_cons_zero]
        refine wpList_val rfl (.pointer (some ⟨bx, ox, none⟩)) wr (by kernel_rfl) ?_
        simp only [Act.put, List.setIfInBounds_toArray, List.set_cons_succ, List.set_cons_zero]
        go_wp2
        go_roundw
        case rel =>
          have hs := (((hGr.set (k * 4) (.int .i64 a0)).set (k * 4 + 1) (.int .i64 a1)).set (k * 4 + 2) (.int .i64 a2)).set (k * 4 + 3) (.int .i64 a3)
          rw [hnx.out] at hs
          exact ⟨k + 1, by go_num, by omega, hal3.out, bel_set (bel_set (bel_set (bel_set hBr (by simp) _) (by simp) _) (by simp) _) (by simp) _, hs⟩
        case measure => simp [intOf]; omega
      · have hf := hno.out h4
        have h5 : ((x.length : Int) == 4) = false := by simp; omega
        replace hf := Lib.hid hf
        clear h4
        go_wp2
        go_ret2
        exact ⟨hBr, .inr ⟨hf.out, rfl⟩⟩
    · obtain rfl : k = fs.length := by omega
      have hb : fb = true := by
        rw [hfb.out]
        unfold fourB
        rw [List.all_eq_true]
        intro x hx
        obtain ⟨j, hj, rfl⟩ := List.getElem_of_mem hx
        simpa using hal.out j hj hj
      have hG9 : Blk wr W.heap.size 36 (rowCs 4 fs.length (fC HF)) := by
        rw [fC_ext (f := HF) (g := fun i => if i < fs.length then HF i else Q0) (fun u hu => (if_pos hu).symm)]
        exact hGr
      clear hGr
      replace hb := Lib.hid hb
      go_wp2
      go_ret2
      exact ⟨hBr, .inl ⟨hb.out, W.heap.size, rfl, Nat.le_refl _, hG9⟩⟩
end Go.Proofs.Ytpdnaceggpdleab
namespace Go.Proofs.Ytpdnaceggpdleab
open Go.RowKit
set_option linter.unusedVariables false
set_option linter.unusedSimpArgs false
section
variable {P : Program} {l : List Oper} {n : Nat} {Q : Exit → Act → World → Prop} {R : Nat → Value → Prop} {a0 : Act} {J : Array Bool → World → Prop}
structure MonoK (ops : Array Oper) (R : Nat → Value → Prop) (a0 : Act) (J : Array Bool → World → Prop) (listed : Array Bool) (a : Act) (w : World) : Prop where
  inv : J listed w
  size : a.tmps.size = a0.tmps.size
  defers : a.defers = a0.defers
  keep : ∀ t, (∀ (j : Nat) (o : Oper), ops[j]? = some o → o.dst ≠ some t) → a.tmps[t]? = a0.tmps[t]?
  got : ∀ (j : Nat) (o : Oper) (d : Tmp), ops[j]? = some o → o.dst = some d → listed.getD j false = true → ∃ v, a.tmps[d]? = some v ∧ R j v
def MonoKS (P : Program) (ops : Array Oper) (R : Nat → Value → Prop) (a0 : Act) (J : Array Bool → World → Prop) (Q : Exit → Act → World → Prop) (i : Nat) (o : Oper) : Prop :=
  o.guard = none ∧ ∀ (a : Act) (w : World) (listed : Array Bool), J listed w → listed.getD i true = false → (∀ e ∈ o.after, Region.binds .any e = true → listed.getD e.on false = true) → a.tmps.size = a0.tmps.size → a.defers = a0.defers → (∀ t, (∀ (j : Nat) (o : Oper), ops[j]? = some o → o.dst ≠ some t) → a.tmps[t]? = a0.tmps[t]?) →
    (∀ e ∈ o.after, Region.binds .any e = true → ∀ (oj : Oper) (d : Tmp), ops[e.on]? = some oj → oj.dst = some d → ∃ v, a.tmps[d]? = some v ∧ R e.on v) →
    o.wp P a w (fun a' w' => ∃ v, a' = a.put o.dst v ∧ J (listed.setIfInBounds i true) w' ∧ (∀ d, o.dst = some d → R i v)) Q
theorem MonoK.step {ops : Array Oper} {listed : Array Bool} {a : Act} {w w' : World} {i : Nat} {o : Oper} {v : Value} (h : MonoK ops R a0 J listed a w) (hi : ops[i]? = some o)
    (hd : ∀ (i j : Nat) (oi oj : Oper) (d : Tmp), ops[i]? = some oi → ops[j]? = some oj → oi.dst = some d → oj.dst = some d → i = j) (hsz : ∀ (j : Nat) (oj : Oper) (d : Tmp), ops[j]? = some oj → oj.dst = some d → d < a0.tmps.size)
    (hJ : J (listed.setIfInBounds i true) w') (hR : ∀ d, o.dst = some d → R i v) : MonoK ops R a0 J (listed.setIfInBounds i true) (a.put o.dst v) w' := by
  obtain ⟨p1, p2, p3, p4⟩ := put_tmps a o.dst v
  refine ⟨hJ, p2.trans h.size, p1.trans h.defers, fun t ht => (p3 t (ht i o hi)).trans (h.keep t ht), fun j oj d hj hjd hl => ?_⟩
  by_cases hij : i = j
  · subst hij
    obtain rfl := Option.some.inj (hi.symm.trans hj)
    exact ⟨v, p4 d hjd (by rw [h.size]; exact hsz i o d hi hjd), hR d hjd⟩
  · rw [getD_set_ne false hij] at hl
    obtain ⟨u, hu, hr⟩ := h.got j oj d hj hjd hl
    exact ⟨u, (p3 d (fun e => hij (hd i j o oj d hi hj e hjd))).trans hu, hr⟩
theorem monoK_sound (hE : ∀ (i : Nat) (o : Oper), l.toArray[i]? = some o → ∀ e ∈ o.after, Region.binds .any e = true → e.on < i) (hW : ∀ (listed : Array Bool), Closed l listed → ∀ (k : Nat) (o : Oper), l.toArray[k]? = some o → n ≤ k → (∀ e ∈ o.after, Region.binds .any e = true → listed.getD e.on false = true) → ∀ j, j < n → listed.getD j false = true)
    (hnl : n ≤ l.length) (hseq : Region.seqB .any l.toArray (l.length - n) n (doneA l.length n) = true)
    (hd : ∀ (i j : Nat) (oi oj : Oper) (d : Tmp), (l.take n).toArray[i]? = some oi → (l.take n).toArray[j]? = some oj → oi.dst = some d → oj.dst = some d → i = j) (hsz : ∀ (j : Nat) (oj : Oper) (d : Tmp), (l.take n).toArray[j]? = some oj → oj.dst = some d → d < a0.tmps.size)
    (hS : ∀ (i : Nat) (o : Oper), (l.take n).toArray[i]? = some o → MonoKS P (l.take n).toArray R a0 J Q i o)
    (hend : ∀ (a : Act) (w : World) (listed : Array Bool), J listed w → (∀ j, j < n → listed.getD j false = true) → a.tmps.size = a0.tmps.size → a.defers = a0.defers → (∀ t, (∀ (j : Nat) (o : Oper), (l.take n).toArray[j]? = some o → o.dst ≠ some t) → a.tmps[t]? = a0.tmps[t]?) → (∀ (j : Nat) (o : Oper) (d : Tmp), (l.take n).toArray[j]? = some o → o.dst = some d → ∃ v, a.tmps[d]? = some v ∧ R j v) → wpList P l.toArray Q (l.drop n) a w) :
    ∀ (fuel : Nat) (listed : Array Bool) (a : Act) (w : World), listed.size = l.length → Closed l listed → left listed = fuel → (∀ j, n ≤ j → j < l.length → listed.getD j true = false) → MonoK (l.take n).toArray R a0 J listed a w → wpAny P .any l.toArray Q fuel listed a w := by
  intro fuel
  induction fuel with
  | zero =>
    intro listed a w hl hcl h0 hf hI
    by_cases hnn : n < l.length
    · have := left_set (hf n (Nat.le_refl _) hnn); omega
    · obtain rfl : n = l.length := by omega
      have hall : ∀ j, j < l.length → listed.getD j true = true := fun j hj => by
        cases hq : listed.getD j true with
        | true => rfl
        | false => have := left_set hq; omega
      have hall2 : ∀ j, j < l.length → listed.getD j false = true := fun j hj2 => by
        have := hall j hj2
        have hjl : j < listed.size := by omega
        simp only [Array.getD, hjl, dif_pos] at this ⊢
        exact this
      have e : listed = doneA l.length l.length := by
        apply Array.ext
        · simp [doneA, hl]
        · intro i h1 h2
          have := hall i (by omega)
          simp only [Array.getD, h1, dif_pos] at this
          simp [doneA, show i < l.length by omega]; exact this
      have hs := wpAny_of_seq (P := P) (Q' := Q) (md := .any) (ops := l.toArray) (l.drop l.length) l.length listed a w (fun j => by simp) (by simpa [e] using hseq) (hend a w listed hI.inv hall2 hI.size hI.defers hI.keep (fun j o d hj hjd => hI.got j o d hj hjd (hall2 j (by have := (Array.getElem?_eq_some_iff.1 hj).1; simpa using this))))
      simpa using hs
  | succ f ih =>
    intro listed a w hl hcl hf hT hI
    by_cases hdone : ∀ j, j < n → listed.getD j false = true
    · have e : listed = doneA l.length n := by
        apply Array.ext
        · simp [doneA, hl]
        · intro i h1 h2
          by_cases hi : i < n
          · have := hdone i hi
            simp only [Array.getD, h1, dif_pos] at this
            simp [doneA, hi]; exact this
          · have := hT i (by omega) (by omega)
            simp only [Array.getD, h1, dif_pos] at this
            simp [doneA, hi]; exact this
      have hfl : f + 1 = (l.drop n).length := by
        rw [← hf, e]
        unfold left doneA
        simp only [List.length_drop]
        have : ∀ len, n ≤ len → (((List.range len).map fun j => decide (j < n)).filter fun b => !b).length = len - n := fun len => by
          induction len with
          | zero => intro h; simp
          | succ m ihm =>
            intro h
            rw [List.range_succ, List.map_append, List.filter_append, List.length_append]
            by_cases hm : n ≤ m
            · rw [ihm hm]
              simp [show ¬ m < n by omega]; omega
            · obtain rfl : n = m + 1 := by omega
              have : ((List.range m).map fun j => decide (j < m + 1)).filter (fun b => !b) = [] := by
                rw [List.filter_eq_nil_iff]
                intro b hb
                obtain ⟨j, hj, rfl⟩ := List.mem_map.1 hb
                have : j < m := by simpa using hj
                simp; omega
              rw [this]
              simp
        exact this _ hnl
      rw [hfl]
      exact wpAny_of_seq (P := P) (Q' := Q) (md := .any) (ops := l.toArray) (l.drop n) n listed a w (fun j => by simp [List.getElem?_drop]) (by rw [e, List.length_drop]; exact hseq) (hend a w listed hI.inv hdone hI.size hI.defers hI.keep (fun j o d hj hjd => hI.got j o d hj hjd (hdone j (by have := (Array.getElem?_eq_some_iff.1 hj).1; simp at this; omega))))
    · have hready : ∀ i ∈ Region.ready .any l.toArray listed, i < n := fun i hi => by
        obtain ⟨hun, o, ho, hall⟩ := mem_ready.1 hi
        rcases Nat.lt_or_ge i n with h | h
        · exact h
        · exfalso
          apply hdone
          exact hW listed hcl i o ho h hall
      refine ⟨fun hr => ?_, fun i hi => ?_⟩
      · exfalso
        apply hdone
        intro j
        induction j using Nat.strongRecOn with
        | _ j ihj =>
          intro hj
          cases hq : listed.getD j true with
          | true =>
            have hjl : j < listed.size := by omega
            simp only [Array.getD, hjl, dif_pos] at hq ⊢
            exact hq
          | false =>
            have hjl : j < l.length := by omega
            have : j ∈ Region.ready .any l.toArray listed := mem_ready.2 ⟨hq, l[j], by simp [hjl], fun e he hb => by
              have hlt := hE j l[j] (by simp [hjl]) e he hb
              exact ihj e.on hlt (by omega)⟩
            rw [hr] at this
            cases this
      · have hin := hready i hi
        obtain ⟨hun, o, ho, hall⟩ := mem_ready.1 hi
        have ho2 : (l.take n).toArray[i]? = some o := by rw [take_get hin]; exact ho
        obtain ⟨hg, hs⟩ := hS i o ho2
        unfold wpOp
        simp only [ho]
        rw [if_pos (by simp [Region.wanted, hg])]
        left
        refine Oper.wp_mono ?_ (hs a w listed hI.inv hun hall hI.size hI.defers hI.keep (fun e he hb oj d hoj hdj => hI.got e.on oj d hoj hdj (hall e he hb)))
        rintro a' w' ⟨v, rfl, hJ, hR⟩
        refine ih _ _ _ (by simp [hl]) (closed_set hcl ho hall) (by have := left_set hun; omega) (fun j h1 h2 => ?_) (hI.step ho2 hd hsz hJ hR)
        rw [getD_set_ne true (by omega)]
        exact hT j h1 h2
theorem wp_region_monoK {id : Nat} {w0 : World} (n : Nat) (R : Nat → Value → Prop) (J : Array Bool → World → Prop) (hm : P.follows .mixedOrders = true) (N : Nat) (hn : a0.tmps.size = N) (hE : edgesB l = true) (hW : waitB l n = true) (hnl : decide (n ≤ l.length) = true) (hseq : Region.seqB .any l.toArray (l.length - n) n (doneA l.length n) = true) (hD : dstB (l.take n) N = true)
    (hJ0 : J (Array.replicate l.toArray.size false) { w0 with drawn := w0.drawn + 1 })
    (hS : allI (MonoKS P (l.take n).toArray R a0 J Q) 0 (l.take n))
    (hend : ∀ (a : Act) (w : World) (listed : Array Bool), J listed w → (∀ j, j < n → listed.getD j false = true) → a.tmps.size = a0.tmps.size → a.defers = a0.defers → (∀ t, (∀ (j : Nat) (o : Oper), (l.take n).toArray[j]? = some o → o.dst ≠ some t) → a.tmps[t]? = a0.tmps[t]?) → (∀ (j : Nat) (o : Oper) (d : Tmp), (l.take n).toArray[j]? = some o → o.dst = some d → ∃ v, a.tmps[d]? = some v ∧ R j v) → wpList P l.toArray Q (l.drop n) a w) :
    (Code.region id l.toArray true).wp P Q a0 w0 := by
  have hl : left (Array.replicate l.toArray.size false) = l.toArray.size := by unfold left; simp
  refine wp_region_any hm ?_
  have := monoK_sound (a0 := a0) (R := R) (J := J) (n := n) (Q := Q) (P := P) (edges_of hE) (wait_of hW) (by simpa using hnl) hseq (dst_one hD) (fun j oj d h1 h2 => by rw [hn]; exact dst_lt hD j oj d h1 h2) (allI_arr hS) hend (l.toArray.size) (Array.replicate l.toArray.size false) a0 { w0 with drawn := w0.drawn + 1 } (by simp) (fun i hi => by simp [Array.getD] at hi) hl (fun j h1 h2 => by simp [Array.getD, h2]) ⟨hJ0, rfl, rfl, fun t _ => rfl, fun j o d _ _ hq => by simp [Array.getD] at hq⟩
  exact this
/-- The world, by whether operation p and operation q have been done: q waits for p. -/
def PhJ (p q : Nat) (u0 u1 u2 : World) (listed : Array Bool) (w : World) : Prop :=
  p < listed.size ∧ q < listed.size ∧ (listed.getD q false = true → listed.getD p false = true) ∧ w = if listed.getD q false = true then u2 else if listed.getD p false = true then u1 else u0
theorem PhJ.cases {p q : Nat} {u0 u1 u2 : World} {listed : Array Bool} {w : World} (h : PhJ p q u0 u1 u2 listed w) : w = u0 ∨ w = u1 ∨ w = u2 := by
  obtain ⟨_, _, _, rfl⟩ := h
  by_cases a : listed.getD q false = true
  · exact .inr (.inr (if_pos a))
  · by_cases b : listed.getD p false = true
    · exact .inr (.inl ((if_neg a).trans (if_pos b)))
    · exact .inl ((if_neg a).trans (if_neg b))
theorem getD_tf {listed : Array Bool} {i : Nat} (h : listed.getD i true = false) : listed.getD i false = false ∧ i < listed.size := by
  rcases Nat.lt_or_ge i listed.size with q | q
  · simp only [Array.getD, q, dif_pos] at h ⊢; exact ⟨h, trivial⟩
  · simp [Array.getD, Nat.not_lt.2 q] at h
theorem getD_self {listed : Array Bool} {i : Nat} (h : i < listed.size) : (listed.setIfInBounds i true).getD i false = true := by simp [Array.getD, h]
/-- An operation that reads, whatever else has been done. -/
theorem mono_read {ops : Array Oper} {p q : Nat} {u0 u1 u2 : World} {i : Nat} {o : Oper} (hg : o.guard = none) (hp : i ≠ p) (hq : i ≠ q)
    (h : ∀ (a : Act) (u : World), (u = u0 ∨ u = u1 ∨ u = u2) → (∀ t, (∀ (j : Nat) (o : Oper), ops[j]? = some o → o.dst ≠ some t) → a.tmps[t]? = a0.tmps[t]?) →
      (∀ e ∈ o.after, Region.binds .any e = true → ∀ (oj : Oper) (d : Tmp), ops[e.on]? = some oj → oj.dst = some d → ∃ v, a.tmps[d]? = some v ∧ R e.on v) → ∃ v, (execOp a.eval o).run P u = .ok (.value v) u ∧ R i v) : MonoKS P ops R a0 (PhJ p q u0 u1 u2) Q i o :=
  ⟨hg, fun a w listed hJ hu hall hsz hdf hk hgot => by
    obtain ⟨v, hr, hR⟩ := h a w hJ.cases hk hgot
    refine wp_value hr ⟨v, rfl, ?_, fun _ _ => hR⟩
    obtain ⟨h1, h2, h3, h4⟩ := hJ
    refine ⟨by simpa using h1, by simpa using h2, ?_, ?_⟩
    · rw [getD_set_ne false hq, getD_set_ne false hp]; exact h3
    · rw [getD_set_ne false hq, getD_set_ne false hp]; exact h4⟩
/-- The first operation that changes the memory. -/
theorem mono_first {ops : Array Oper} {p q : Nat} {u0 u1 u2 : World} {o : Oper} (hg : o.guard = none) (hpq : p ≠ q)
    (h : ∀ (a : Act), (∀ t, (∀ (j : Nat) (o : Oper), ops[j]? = some o → o.dst ≠ some t) → a.tmps[t]? = a0.tmps[t]?) →
      (∀ e ∈ o.after, Region.binds .any e = true → ∀ (oj : Oper) (d : Tmp), ops[e.on]? = some oj → oj.dst = some d → ∃ v, a.tmps[d]? = some v ∧ R e.on v) → ∃ v, (execOp a.eval o).run P u0 = .ok (.value v) u1 ∧ R p v) : MonoKS P ops R a0 (PhJ p q u0 u1 u2) Q p o :=
  ⟨hg, fun a w listed hJ hu hall hsz hdf hk hgot => by
    obtain ⟨h1, h2, h3, h4⟩ := hJ
    obtain ⟨hpf, _⟩ := getD_tf hu
    have hqf : listed.getD q false = false := by
      cases e : listed.getD q false
      · rfl
      · rw [h3 e] at hpf; cases hpf
    rw [hqf, hpf] at h4
    simp only [Bool.false_eq_true, if_false] at h4
    subst h4
    obtain ⟨v, hr, hR⟩ := h a hk hgot
    refine wp_value hr ⟨v, rfl, ⟨by simpa using h1, by simpa using h2, ?_, ?_⟩, fun _ _ => hR⟩
    · intro _; exact getD_self h1
    · rw [getD_set_ne false hpq, getD_self h1, hqf]; rfl⟩
/-- The second one. -/
theorem mono_second {ops : Array Oper} {p q : Nat} {u0 u1 u2 : World} {o : Oper} (hg : o.guard = none) (hpq : p ≠ q) (hw : ∃ e ∈ o.after, Region.binds .any e = true ∧ e.on = p)
    (h : ∀ (a : Act), (∀ t, (∀ (j : Nat) (o : Oper), ops[j]? = some o → o.dst ≠ some t) → a.tmps[t]? = a0.tmps[t]?) →
      (∀ e ∈ o.after, Region.binds .any e = true → ∀ (oj : Oper) (d : Tmp), ops[e.on]? = some oj → oj.dst = some d → ∃ v, a.tmps[d]? = some v ∧ R e.on v) → ∃ v, (execOp a.eval o).run P u1 = .ok (.value v) u2 ∧ R q v) : MonoKS P ops R a0 (PhJ p q u0 u1 u2) Q q o :=
  ⟨hg, fun a w listed hJ hu hall hsz hdf hk hgot => by
    obtain ⟨h1, h2, h3, h4⟩ := hJ
    obtain ⟨hqf, _⟩ := getD_tf hu
    obtain ⟨e, he, hb, rfl⟩ := hw
    have hpt := hall e he hb
    rw [hqf, hpt] at h4
    simp only [Bool.false_eq_true, if_false, if_true] at h4
    subst h4
    obtain ⟨v, hr, hR⟩ := h a hk hgot
    refine wp_value hr ⟨v, rfl, ⟨by simpa using h1, by simpa using h2, ?_, ?_⟩, fun _ _ => hR⟩
    · intro _; rw [getD_set_ne false (Ne.symm hpq)]; exact hpt
    · rw [getD_self h2]; rfl⟩
theorem phJ_end {p q n : Nat} {u0 u1 u2 : World} {listed : Array Bool} {w : World} (h : PhJ p q u0 u1 u2 listed w) (hq : q < n) (hall : ∀ j, j < n → listed.getD j false = true) : w = u2 := by
  obtain ⟨_, _, _, rfl⟩ := h
  rw [hall q hq]; rfl
end
end Go.Proofs.Ytpdnaceggpdleab
namespace Go.Proofs.Ytpdnaceggpdleab
open Go.RowKit
set_option linter.unusedVariables false
set_option linter.unusedSimpArgs false
set_option linter.unnecessarySimpa false
set_option maxRecDepth 100000
def w4 (q : P3 × Int) : List Value := [.int .i64 q.1.x, .int .i64 q.1.y, .int .i64 q.1.z, .int .i64 q.2]
def w4s (l : List (P3 × Int)) : List Value := l.flatMap w4
theorem w4s_snoc (l : List (P3 × Int)) (q : P3 × Int) : w4s (l ++ [q]) = w4s l ++ w4 q := by simp [w4s, List.flatMap_append]
theorem w4s_at : ∀ (l : List (P3 × Int)) (i : Nat) (h : i < l.length), (w4s l)[i * 4]? = some (.int .i64 l[i].1.x) ∧ (w4s l)[i * 4 + 1]? = some (.int .i64 l[i].1.y) ∧ (w4s l)[i * 4 + 2]? = some (.int .i64 l[i].1.z) ∧ (w4s l)[i * 4 + 3]? = some (.int .i64 l[i].2)
  | [], i, h => by simp at h
  | q :: l, 0, _ => ⟨rfl, rfl, rfl, rfl⟩
  | q :: l, i + 1, h => by
    have hi : i < l.length := by simpa using h
    obtain ⟨h1, h2, h3, h4⟩ := w4s_at l i hi
    have e : ∀ j, (w4s (q :: l))[(i + 1) * 4 + j]? = (w4s l)[i * 4 + j]? := fun j => by
      show (w4 q ++ w4s l)[(i + 1) * 4 + j]? = _
      rw [List.getElem?_append_right (by show 4 ≤ _; omega)]
      congr 1
      show (i + 1) * 4 + j - 4 = _
      omega
    refine ⟨(e 0).trans h1, (e 1).trans h2, (e 2).trans h3, (e 3).trans h4⟩
theorem WL_own {W : World} {base : Nat} {A : Option Addr} {c : Nat} {l : List (P3 × Int)} (h : W.ownsRow base 82 4 (.slice A l.length c) l.length (w4s l)) : WL W A l := fun hn => by
  obtain ⟨_, h1 | ⟨g, cap, cur, h1, h2, h3, _⟩⟩ := id h
  · omega
  · simp only [Value.slice.injEq] at h1
    obtain ⟨rfl, _, rfl⟩ := h1
    refine ⟨g, 0, rfl, (Array.getElem?_eq_some_iff.1 h3).1, fun i hi => ?_⟩
    obtain ⟨e1, e2, e3, e4⟩ := w4s_at l i hi
    rw [Nat.zero_add]
    exact ⟨(h.cellAt (i * 4) (by omega)).trans e1, (h.cellAt (i * 4 + 1) (by omega)).trans e2, (h.cellAt (i * 4 + 2) (by omega)).trans e3, (h.cellAt (i * 4 + 3) (by omega)).trans e4⟩
def svC (n : Nat) (sv : Nat → Value) : Array Value := ((List.range n).map sv).toArray
theorem svC_at {n : Nat} (sv : Nat → Value) {v : Nat} (hv : v < n) : (svC n sv)[v]? = some (sv v) := by simp [svC, hv]
theorem svC_set {n : Nat} (sv : Nat → Value) (v : Nat) (x : Value) : (svC n sv).setIfInBounds v x = svC n (fun u => if u = v then x else sv u) := by
  apply Array.ext_getElem?
  intro i
  unfold svC
  rcases Nat.lt_or_ge i n with hi | hi
  · by_cases e : v = i
    · subst e; simp [hi]
    · rw [Array.getElem?_setIfInBounds_ne e]
      simp [hi, Ne.symm e]
  · rw [Array.getElem?_eq_none (by simp; exact hi), Array.getElem?_eq_none (by simp; exact hi)]
structure OwnE (W : World) (base n gE : Nat) (sv : Nat → Value) (L : Nat → List (P3 × Int)) : Prop where
  lt : gE < base
  le : base ≤ W.heap.size
  blk : Blk W gE 80 (svC n sv)
  own : ∀ v, v < n → W.ownsRow base 82 4 (sv v) (L v).length (w4s (L v))
  apart : ∀ u v, u < n → v < n → u ≠ v → (sv u).ownBlock = none ∨ (sv u).ownBlock ≠ (sv v).ownBlock
theorem OwnE.below {W W' : World} {base n gE : Nat} {sv : Nat → Value} {L : Nat → List (P3 × Int)} (h : OwnE W base n gE sv L) (hb : Below W.heap.size W W') : OwnE W' base n gE sv L :=
  ⟨h.lt, Nat.le_trans h.le hb.size, h.blk.below hb, fun v hv => own_lay (h.own v hv) hb, h.apart⟩
theorem OwnE.ext {W : World} {base n gE : Nat} {sv : Nat → Value} {L M : Nat → List (P3 × Int)} (h : OwnE W base n gE sv L) (e : ∀ v, v < n → M v = L v) : OwnE W base n gE sv M :=
  ⟨h.lt, h.le, h.blk, fun v hv => by rw [e v hv]; exact h.own v hv, h.apart⟩
theorem own_setE {W : World} {base : Nat} {T : TypeId} {sz n : Nat} {v : Value} {xs : List Value} (h : W.ownsRow base T sz v n xs) {g : Nat} (hne : g < base) (i : Nat) (u : Value) : (W.setCell ⟨g, i, none⟩ u).ownsRow base T sz v n xs := by
  obtain ⟨h0, h | ⟨g2, cap, cur, h1, h2, h3, h4⟩⟩ := h
  · exact ⟨h0, .inl h⟩
  · exact ⟨h0, .inr ⟨g2, cap, cur, h1, h2, ((set_grown W g i u).block g2 (Array.getElem?_eq_some_iff.1 h3).1 (by intro e; cases e; omega)).trans h3, h4⟩⟩
theorem infoWp : ∃ i : TypeInfo, Try.prog.info? 82 = some i ∧ i.zero = some (.agg #[.int .i64 0, .int .i64 0, .int .i64 0, .int .i64 0]) ∧ i.size = 4 ∧ i.bytes = 32 := by
  obtain ⟨i0, hi0, hz0, hz1, hz2⟩ := info_parts infoWt
  exact ⟨i0, hi0, hz0, hz1, hz2⟩
/-- One more end at a vertex: what append answers, and what is there when it is stored. -/
theorem OwnE.app {W : World} {base n gE : Nat} {sv : Nat → Value} {L : Nat → List (P3 × Int)} (h : OwnE W base n gE sv L) (v : Nat) (hv : v < n) (q : P3 × Int) (hl : (L v).length < 1000000000) (ty : TypeId) :
    ∃ v' u2, (Builtin.append_ #[80, 80] ty #[sv v, .slice (some ⟨W.heap.size, 0, none⟩) 1 1]).run Try.prog (W.alloc (.cells (w4 q).toArray 82)) = .ok v' u2 ∧
      (∀ b, b < base → u2.heap[b]? = W.heap[b]?) ∧ W.heap.size ≤ u2.heap.size ∧ (∀ a : World, Below a.heap.size a W → a.heap.size ≤ base → Below a.heap.size a u2) ∧ (∀ g, g < W.heap.size → (∀ u, u < n → (sv u).ownBlock ≠ some g) → u2.heap[g]? = W.heap[g]? ∧ ∀ u, u < n → (if u = v then v' else sv u).ownBlock ≠ some g) ∧
      OwnE (u2.setCell ⟨gE, v, none⟩ v') base n gE (fun u => if u = v then v' else sv u) (fun u => if u = v then L v ++ [q] else L u) := by
  obtain ⟨i0, hi0, hz0, hz1, hz2⟩ := infoWp
  have hb1 : Below W.heap.size W (W.alloc (.cells (w4 q).toArray 82)) := bel_alloc (Below.refl _ _) _
  have hN := Blk.new W 82 (w4 q).toArray _ rfl
  have hown := own_lay (h.own v hv) hb1
  obtain ⟨v', u2, hr, h1, h2, h3, h4⟩ := run_append_own_at (P := Try.prog) (w := W.alloc (.cells (w4 q).toArray 82)) base 80 ty 82 i0 _ 4 32 Try.underlying80 hi0 hz0 hz1 hz2 rfl (by omega) (sv v) (L v).length (w4s (L v)) hown ⟨W.heap.size, 0, none⟩ 1 1 (w4 q) rfl
    (fun j u hj => by
      have e : ((⟨W.heap.size, 0, none⟩ : Addr).add j) = ⟨W.heap.size, j, none⟩ := by simp [Addr.add]; intro h; exact h.symm
      rw [e, hN.cell]
      simpa using hj) (by intro u hu; simp [w4] at hu; rcases hu with rfl | rfl | rfl | rfl <;> rfl) (by unfold maxLen; omega) (by omega) (Nat.le_trans h.le hb1.size)
  rw [← w4s_snoc] at h1
  have hle := h.le
  have hkeep : ∀ b, b < base → u2.heap[b]? = W.heap[b]? := fun b hb => by
    have e1 := h2.block b (by have := hb1.size; omega) (by
      intro e
      have := (own_block hown b e.symm).1
      omega)
    rw [e1, hb1.block b (by omega)]
  refine ⟨v', u2, hr, hkeep, Nat.le_trans hb1.size h2.size, fun a ha hab => ?_, fun g hg ho => ⟨?_, fun u hu => ?_⟩, ?_⟩
  · exact bel_own (bel_trans ha hb1) h2 (fun k e => Nat.le_trans hab (own_block hown k e).1)
  · rw [h2.block g (by have := hb1.size; omega) (fun e => ho v hv e.symm), hb1.block g hg]
  · by_cases e : u = v
    · rw [if_pos e]
      rcases h4 with h4 | h4
      · rw [h4]; exact ho v hv
      · rw [h4]
        intro e2
        have := hb1.size
        cases e2
        omega
    · rw [if_neg e]; exact ho u hu
  · have hE2 : Blk u2 gE 80 (svC n sv) := (hkeep gE h.lt).trans h.blk
    refine ⟨h.lt, ?_, ?_, fun u hu => ?_, fun u w hu hw huw => ?_⟩
    · have := (set_grown u2 gE v v').size
      have := h2.size
      have := hb1.size
      omega
    · rw [← svC_set]
      exact hE2.set v v'
    · by_cases e : u = v
      · subst e
        simp only [if_true]
        rw [List.length_append, List.length_singleton]
        exact own_setE h1 h.lt _ _
      · simp only [if_neg e]
        refine own_setE ((own_lay (h.own u hu) hb1).kept h2 ?_) h.lt _ _
        exact h.apart u v hu hv e
    · have hf : ∀ x, x < n → (sv x).ownBlock = none ∨ (sv x).ownBlock ≠ some (W.alloc (.cells (w4 q).toArray 82)).heap.size := fun x hx => by
        cases e : (sv x).ownBlock with
        | none => exact .inl rfl
        | some k =>
          right
          intro e2
          have := (own_block (h.own x hx) k e).2
          have := hb1.size
          cases e2
          omega
      by_cases e1 : u = v
      · subst e1
        have e2 : ¬ w = u := fun e => huw e.symm
        simp only [if_true, if_neg e2]
        rcases h4 with h4 | h4
        · rw [h4]; exact h.apart u w hu hw huw
        · rw [h4]
          right
          rcases hf w hw with h5 | h5
          · rw [h5]; simp
          · exact fun e => h5 e.symm
      · simp only [if_neg e1]
        by_cases e2 : w = v
        · subst e2
          simp only [if_true]
          rcases h4 with h4 | h4
          · rw [h4]; exact h.apart u w hu hw e1
          · rw [h4]; exact hf u hu
        · simp only [if_neg e2]
          exact h.apart u w hu hw huw
end Go.Proofs.Ytpdnaceggpdleab
namespace Go.Proofs.Ytpdnaceggpdleab
open Go.RowKit
set_option linter.unusedVariables false
set_option linter.unusedSimpArgs false
set_option linter.unnecessarySimpa false
set_option maxRecDepth 100000
theorem far_GP (p : P3) : Gives Try.prog 25 #[.agg #[.int .i64 p.x, .int .i64 p.y, .int .i64 p.z]] (.bool (farB p)) := by
  have k1 := vWithin_any p.x p.y p.z 65536 (by omega)
  unfold farB
  refine Gives.mk fun w => ?_
  go_enter Try.func25, Try.ntmps25
  go_wp2_with (first | (go_at_call 6; (with_reducible refine (k1.at_ _).mono ?_); rintro e w' ⟨rfl, xg, rfl⟩) | fail)
  go_ret
  exact ⟨by simp, (by repeat (first | exact Below.refl _ _ | refine bel_then ?_ _ | refine bel_grow ?_ _ | refine bel_alloc ?_ _ | refine bel_drew ?_ | refine bel_set ?_ (by simp) _ | refine bel_setRow ?_ (by first | omega | (simp; done) | (refine Nat.le_trans ?_ (top_le _ _); simp; done) | (refine Nat.le_succ_of_le (Nat.le_trans ?_ (top_le _ _)); simp; done) | (refine Nat.le_trans ?_ (top_le _ _); simp only [World.size_alloc]; refine Nat.le_succ_of_le (Nat.le_trans ?_ (top_le _ _)); simp; done)) _))⟩
set_option maxHeartbeats 1000000 in
theorem index_farP (W : World) (A : Option Addr) (c : Nat) (vs : List P3) (hV : VL W A vs) (hl : vs.length < 1099511627776) :
    Calls Try.prog 51 #[.slice A vs.length c, .func (.func 25) #[] #[]] W fun e W' => Below W.heap.size W W' ∧ ∃ i : Int, e = .returned (.int .i64 i) ∧ (i < 0 ↔ vs.any farB = false) ∧ -1 ≤ i := by
  go_enter Try.func51, Try.ntmps51
  go_wp2
  go_loopw [8] (fun iv wr => ∃ k : Nat, iv = .int .i64 (k : Int) ∧ k ≤ vs.length ∧ (vs.take k).any farB = false ∧ Below W.heap.size W wr) (fun iv _ => vs.length - (intOf iv).toNat)
  case atStart => exact ⟨0, rfl, by omega, by simp, Below.refl _ _⟩
  case round =>
    obtain ⟨k, rfl, hk, hno, hBr⟩ := hrel
    by_cases hlt : k < vs.length
    · obtain ⟨bv, ov, rfl, hlv, c1, c2, c3⟩ := (hV.below hBr).at_ k hlt
      have htk : vs.take (k + 1) = vs.take k ++ [vs[k]] := List.take_succ_eq_append_getElem hlt
      have hmem := List.getElem_mem hlt
      generalize vs[k] = p at *
      have q0 : (0 : Int) ≤ (k : Int) := by omega
      have q1 : (k : Int) < (vs.length : Int) := by omega
      have kF := far_GP p
      replace htk := Lib.hid htk
      replace hno := Lib.hid hno
      cases hb : farB p with
      | true =>
        rw [hb] at kF
        go_wp2_with (first | (go_at_call 25; (with_reducible refine (kF.at_ _).mono ?_); rintro e w' ⟨rfl, xg, rfl⟩) | fail)
        go_ret
        exact ⟨bel_grow hBr _, (k : Int), rfl, ⟨fun h => by omega, fun h => by rw [List.any_eq_false] at h; have := h p hmem; rw [hb] at this; simp at this⟩, by omega⟩
      | false =>
        rw [hb] at kF
        go_wp2_with (first | (go_at_call 25; (with_reducible refine (kF.at_ _).mono ?_); rintro e w' ⟨rfl, xg, rfl⟩) | fail)
        go_roundw
        case rel => exact ⟨k + 1, by go_num, by omega, by rw [htk.out, List.any_append, hno.out]; simp [hb], bel_grow hBr _⟩
        case measure => simp [intOf]; omega
    · obtain rfl : k = vs.length := by omega
      rw [List.take_length] at hno
      replace hno := Lib.hid hno
      go_wp2
      go_ret
      exact ⟨hBr, -1, rfl, ⟨fun _ => hno.out, fun _ => by omega⟩, by omega⟩
theorem far_anyP (W : World) (A : Option Addr) (c : Nat) (vs : List P3) (hV : VL W A vs) (hl : vs.length < 1099511627776) :
    Calls Try.prog 24 #[.slice A vs.length c, .func (.func 25) #[] #[]] W fun e W' => Below W.heap.size W W' ∧ e = .returned (.bool (vs.any farB)) := by
  have cI := index_farP W A c vs hV hl
  replace cI := Lib.hid cI
  go_enter Try.func24, Try.ntmps24
  go_wp2_with (first | (go_at_call 51; (with_reducible refine cI.out.mono ?_); rintro e W2 ⟨hb2, i, rfl, hi, hi1⟩; replace hi := Lib.hid hi) | fail)
  go_ret
  refine ⟨hb2, ?_⟩
  have := hi.out
  cases hv : vs.any farB with
  | true =>
    rw [hv] at this
    have h2 : ¬ i < 0 := fun h => by have := this.1 h; cases this
    simp; omega
  | false =>
    rw [hv] at this
    have h2 := this.2 rfl
    simp; omega
theorem alloc_Net (a : Act) (o : Oper) (ho : o.op = .alloc 60) (w : World) : (execOp a.eval o).run Try.prog w = .ok (.value (.pointer (some ⟨w.heap.size, 0, none⟩))) (w.alloc (.cells #[.slice none 0 0, .slice none 0 0, .slice none 0 0, .slice none 0 0, .slice none 0 0, .slice none 0 0, .slice none 0 0] 60)) := by
  unfold execOp
  rw [ho]
  kernel_rfl
theorem infoSW : (Try.prog.info? 80).map (fun i => (i.zero, i.size, i.bytes)) = some (some (.slice none 0 0), 1, 24) := by kernel_rfl
theorem svC_made (n : Nat) : madeCells #[.slice none 0 0] (n * 1) = svC n (fun _ => .slice none 0 0) := by
  unfold svC
  apply Array.ext'
  simp [madeCells, Nat.mod_one]
/-- A row of nil rows; a net whose rows of ends lie there. -/
def PSW (base n : Nat) : World → Value → Prop := fun w v => ∃ g, v = .slice (some ⟨g, 0, none⟩) n n ∧ base ≤ g ∧ Blk w g 80 (svC n (fun _ => .slice none 0 0))
theorem PSW.stays (base n : Nat) : Stays (PSW base n) := fun w w' v hB ⟨g, e, h1, h2⟩ => ⟨g, e, h1, h2.below hB⟩
def PNE (base n : Nat) (CK : Nat → Array Value) : World → Value → Prop := fun w v => ∃ g, v = .agg (CK g) ∧ base ≤ g ∧ Blk w g 80 (svC n (fun _ => .slice none 0 0))
theorem PNE.stays (base n : Nat) (CK : Nat → Array Value) : Stays (PNE base n CK) := fun w w' v hB ⟨g, e, h1, h2⟩ => ⟨g, e, h1, h2.below hB⟩
def NetD.endsK (N : NetD) (k : Nat) (v : Int) : List P3 := ((N.t.es.zip N.sh).take k).filterMap fun q => if q.2 = 0 then none else (other v q.1).map (vat N.vs)
theorem NetD.endsK_next {N : NetD} {k : Nat} (h1 : k < N.t.es.length) (h2 : k < N.sh.length) (v : Int) : N.endsK (k + 1) v = N.endsK k v ++ (if N.sh[k] = 0 then none else (other v N.t.es[k]).map (vat N.vs)).toList := by
  unfold NetD.endsK
  have hz : k < (N.t.es.zip N.sh).length := by rw [List.length_zip]; omega
  rw [List.take_succ_eq_append_getElem hz, List.filterMap_append, List.getElem_zip]
  congr 1
theorem NetD.endsK_all (N : NetD) (h : N.sh.length = N.t.es.length) (v : Int) : N.endsK N.t.es.length v = N.ends v := by
  unfold NetD.endsK NetD.ends
  rw [List.take_of_length_le (by rw [List.length_zip]; omega)]
theorem NetD.endsK_len (N : NetD) (k : Nat) (v : Int) : (N.endsK k v).length ≤ k := by
  unfold NetD.endsK
  exact Nat.le_trans (List.length_filterMap_le _ _) (by rw [List.length_take]; omega)
def RK (vs : List Value) : Nat → Value → Prop := fun j v => v = vs.getD j undef
theorem run_app {P : Program} {a : Act} {w w' : World} {o : Oper} {v v' x : Value} (s y : Operand) (t : TypeId) (ho : o.op = .call { callee := .builtin .append, args := #[s, y], argTypes := #[t, t] }) (hs : a.eval s = v) (hx : a.eval y = x) (hr : (Builtin.append_ #[t, t] o.type #[v, x]).run P w = .ok v' w') :
    (execOp a.eval o).run P w = .ok (.value v') w' := by
  unfold execOp
  simp only [ho, resolve, invoke, builtin, Sem.run_bind, Sem.run_pure, Result.andThen_ok, List.map_toArray, List.map_cons, List.map_nil, hs, hx, hr]
/-- Two more ends, one at either vertex of an edge. -/
theorem endsK_two {N : NetD} {k : Nat} (h1 : k < N.t.es.length) (h2 : k < N.sh.length) {va vb : Nat} (ha : N.t.es[k].a = (va : Int)) (hb : N.t.es[k].b = (vb : Int)) (hab : va ≠ vb) (hs : N.sh[k] ≠ 0) (u : Nat) :
    (N.endsK (k + 1) (u : Int)).map (fun p => (p, (1 : Int))) = if u = vb then (if vb = va then (N.endsK k (va : Int)).map (fun p => (p, (1 : Int))) ++ [(vat N.vs (vb : Int), 1)] else (N.endsK k (vb : Int)).map (fun p => (p, (1 : Int)))) ++ [(vat N.vs (va : Int), 1)] else if u = va then (N.endsK k (va : Int)).map (fun p => (p, (1 : Int))) ++ [(vat N.vs (vb : Int), 1)] else (N.endsK k (u : Int)).map (fun p => (p, (1 : Int))) := by
  rw [NetD.endsK_next h1 h2, if_neg hs]
  unfold other
  rw [ha, hb]
  by_cases e1 : u = vb
  · subst e1
    rw [if_neg (by omega), if_pos rfl, if_pos rfl, if_neg (by omega)]
    simp
  · rw [if_neg e1]
    by_cases e2 : u = va
    · subst e2
      rw [if_pos rfl, if_pos rfl]
      simp
    · rw [if_neg (by omega), if_neg (by omega), if_neg e2]
      simp
theorem endsK_none {N : NetD} {k : Nat} (h1 : k < N.t.es.length) (h2 : k < N.sh.length) (hs : N.sh[k] = 0) (v : Int) : N.endsK (k + 1) v = N.endsK k v := by
  rw [NetD.endsK_next h1 h2, if_pos hs]; simp
theorem setRow_grown (W : World) (g : Nat) (cs : Array Value) : W.grownBy (W.setRow g cs) (some g) := ⟨rfl, rfl, rfl, by simp, fun k hk hne => setRow_other W g k cs (fun e => hne (by rw [e]))⟩
theorem EL.kept_slices {W W' : World} {A : Option Addr} {es : List Ed} {b : Nat} {t : TypeId} {cs : Array Value} (h : EL W A es) (hg : W.grownBy W' (some b)) (hb : Blk W b t cs) (hs : ∀ (i : Nat) (v : Value), cs[i]? = some v → ∃ a n c, v = .slice a n c) : EL W' A es := fun hp => by
  obtain ⟨b2, o2, e, hl, hc⟩ := h hp
  have hne : b2 ≠ b := fun hbb => by
    subst hbb
    have h0 := (hc 0 hp).1
    rw [hb.cell] at h0
    obtain ⟨a, n, c, hv⟩ := hs _ _ h0
    cases hv
  have q : ∀ j v, W.cell? ⟨b2, j, none⟩ = some v → W'.cell? ⟨b2, j, none⟩ = some v := fun j v h => hg.cell h (by simp only; intro e; cases e; exact hne rfl)
  exact ⟨b2, o2, e, Nat.lt_of_lt_of_le hl hg.size, fun i hi => ⟨q _ _ (hc i hi).1, q _ _ (hc i hi).2.1, q _ _ (hc i hi).2.2.1, q _ _ (hc i hi).2.2.2⟩⟩
theorem BL.kept_slices {W W' : World} {A : Option Addr} {rs : List Bool} {b : Nat} {t : TypeId} {cs : Array Value} (h : BL W A rs) (hg : W.grownBy W' (some b)) (hb : Blk W b t cs) (hs : ∀ (i : Nat) (v : Value), cs[i]? = some v → ∃ a n c, v = .slice a n c) : BL W' A rs := fun hp => by
  obtain ⟨b2, o2, e, hl, hc⟩ := h hp
  have hne : b2 ≠ b := fun hbb => by
    subst hbb
    have h0 := hc 0 hp
    rw [hb.cell] at h0
    obtain ⟨a, n, c, hv⟩ := hs _ _ h0
    cases hv
  exact ⟨b2, o2, e, Nat.lt_of_lt_of_le hl hg.size, fun i hi => hg.cell (hc i hi) (by simp only; intro e; cases e; exact hne rfl)⟩
set_option maxHeartbeats 16000000 in
theorem knit_any (W : World) (c : Cg) (A1 A2 A3 : Option Addr) (k1 k2 k3 : Nat) (hc : CgV W c A1 A2 A3) (hS : Surf (c.vs.length : Int) c.fs) (hSh : ∀ t, TopoS (c.vs.length : Int) c.fs t → ∃ sh, sharpP t.es c.ks = some sh) (hIn : ∀ p ∈ c.vs, InP 65536 p) (h4 : ∀ x ∈ c.fs, x.length = 4) :
    Calls Try.prog 14 #[.agg #[.slice A1 c.vs.length k1, .slice A2 c.fs.length k2, .slice A3 c.ks.length k3]] W fun e W' => ∃ (N : NetD) (a : NetA), e = .returned (.tuple #[.agg (netC N a), .int .i64 0]) ∧ Below W.heap.size W W' ∧ NetV W' N a ∧ N.vs = c.vs ∧ N.fs = c.fs ∧ TopoS (c.vs.length : Int) c.fs N.t ∧ sharpP N.t.es c.ks = some N.sh := by
  obtain ⟨W0, hW0⟩ : ∃ W0, W0 = (W.alloc (.cells #[.slice A1 c.vs.length k1, .slice A2 c.fs.length k2, .slice A3 c.ks.length k3] 27)).alloc (.cells #[.slice none 0 0, .slice none 0 0, .slice none 0 0, .slice none 0 0, .slice none 0 0, .slice none 0 0, .slice none 0 0] 60) := ⟨_, rfl⟩
  have hB0 : Below W.heap.size W W0 := by rw [hW0]; exact bel_alloc (bel_alloc (Below.refl _ _) _) _
  have hC0 : Blk W0 W.heap.size 27 #[.slice A1 c.vs.length k1, .slice A2 c.fs.length k2, .slice A3 c.ks.length k3] := by rw [hW0]; exact (Blk.new _ _ _ _ rfl).alloc _
  have hR0 : Blk W0 (W.heap.size + 1) 60 #[.slice none 0 0, .slice none 0 0, .slice none 0 0, .slice none 0 0, .slice none 0 0, .slice none 0 0, .slice none 0 0] := by rw [hW0]; exact Blk.new _ _ _ _ (by simp)
  have hcW := hc
  obtain ⟨hi1, hi2, hi3, hV, hF, hK, few⟩ := hc
  obtain ⟨vs, fs, ks⟩ := c
  simp only at hi1 hi2 hi3 hV hF hK few hC0 hW0 hS hSh hIn h4 ⊢
  have hxl : ∀ x ∈ fs, x.length ≤ tot fs := fun x hx => len_tot hx
  have hall : vs.any farB = false := by
    rw [List.any_eq_false]
    intro p hp
    rw [(far_iff p).2 (hIn p hp)]
    simp
  have h4b : fourB fs = true := by unfold fourB; rw [List.all_eq_true]; intro x hx; simpa using h4 x hx
  have cB := built_any W0 (vs.length : Int) k2 fs A2 (hF.below hB0) (by unfold i64B; omega) hi2 (by omega)
  replace hS := Lib.hid hS
  replace hSh := Lib.hid hSh
  replace hIn := Lib.hid hIn
  replace h4 := Lib.hid h4
  replace hall := Lib.hid hall
  replace h4b := Lib.hid h4b
  replace hcW := Lib.hid hcW
  go_enter Try.func14, Try.ntmps14
  go_upto_region 1 with (fail)
  simp only [← hW0]
  clear hW0
  have x0 : W0.cell? ⟨W.heap.size, 0, none⟩ = some (.slice A1 vs.length k1) := hC0.cell 0
  have x1 : W0.cell? ⟨W.heap.size, 1, none⟩ = some (.slice A2 fs.length k2) := hC0.cell 1
  have xl := hC0.lt
  go_upto_region 2 with (first | (go_at_call 22; (with_reducible refine cB.mono ?_); rintro e W1 ⟨B1, B2, B3, t, d1, d2, d3, ee, rfl, hP⟩) | fail)
  have hT2 : Blk (W1.alloc (.cells #[.slice B1 t.es.length d1, .slice B2 t.fans.length d2, .slice B3 t.rs.length d3] 56)) W1.heap.size 56 #[.slice B1 t.es.length d1, .slice B2 t.fans.length d2, .slice B3 t.rs.length d3] := Blk.new _ _ _ _ rfl
  have hb2 := bel_alloc hP.bel (.cells #[.slice B1 t.es.length d1, .slice B2 t.fans.length d2, .slice B3 t.rs.length d3] 56)
  have hV2 := TopoV.below hP.isV (bel_alloc (Below.refl _ _) (.cells #[.slice B1 t.es.length d1, .slice B2 t.fans.length d2, .slice B3 t.rs.length d3] 56))
  have hgood := Lib.hid hP.good
  have hsz1 := hP.bel.size
  clear hP cB
  generalize W1.alloc (.cells #[.slice B1 t.es.length d1, .slice B2 t.fans.length d2, .slice B3 t.rs.length d3] 56) = W2 at *
  obtain ⟨T, hT⟩ : ∃ T, W1.heap.size = T := ⟨_, rfl⟩
  simp only [hT] at *
  clear hT x0 x1 xl
  have hC2 := hC0.below hb2
  have hR2 := hR0.below hb2
  have hB2 := bel_trans hB0 hb2
  have hR0l := hR0.lt
  clear hC0 hR0 hB0 hb2
  rcases hgood.out with ⟨rfl, hsf, hTS⟩ | ⟨rfl, hns, rfl, rfl, rfl, rfl, rfl, rfl, rfl⟩
  rotate_left
  · exact absurd hS.out hns
  clear hgood hsf
  obtain ⟨es, fans, rs⟩ := t
  simp only at *
  have hel : es.length ≤ tot fs := by have h1 := edges_le hTS.walk hTS.edges; rw [waysL_len] at h1; exact h1
  obtain ⟨sh, hsh⟩ := hSh.out _ hTS
  simp only at hsh
  have hshl : sh.length = es.length := by
    have := sharpK_len hsh
    simpa using this
  have hTS0 := Lib.hid hTS
  clear hTS
  replace hsh := Lib.hid hsh
  have cS := sharp_any W2 A1 A2 A3 B1 B2 B3 vs.length fs.length fans.length rs.length k1 k2 k3 d1 d2 d3 es ks hV2.es hTS0.out.edges.sorted (hK.below hB2) (by omega) (by omega)
  replace cS : Calls Try.prog 23 #[.agg #[.slice A1 vs.length k1, .slice A2 fs.length k2, .slice A3 ks.length k3], .agg #[.slice B1 es.length d1, .slice B2 fans.length d2, .slice B3 rs.length d3]] W2 fun e W' => Below W2.heap.size W2 W' ∧ ∃ g, e = .returned (.tuple #[.slice (some ⟨g, 0, none⟩) es.length es.length, .int .i64 0]) ∧ Blk W' g 3 (iC sh) := cS.mono fun e W' ⟨hb, hcase⟩ => by
    rcases hcase with ⟨hno, _⟩ | ⟨sh2, g, h1, h2, h3, h4⟩
    · rw [hsh.out] at hno; cases hno
    · obtain rfl : sh2 = sh := by rw [hsh.out] at h1; exact (Option.some.inj h1).symm
      exact ⟨hb, g, h4, h3⟩
  replace hshl := Lib.hid hshl
  have x0 : W2.cell? ⟨W.heap.size, 0, none⟩ = some (.slice A1 vs.length k1) := hC2.cell 0
  have x1 : W2.cell? ⟨W.heap.size, 1, none⟩ = some (.slice A2 fs.length k2) := hC2.cell 1
  have x2 : W2.cell? ⟨W.heap.size, 2, none⟩ = some (.slice A3 ks.length k3) := hC2.cell 2
  have xl := hC2.lt
  have t0 : W2.cell? ⟨T, 0, none⟩ = some (.slice B1 es.length d1) := hT2.cell 0
  have t1 : W2.cell? ⟨T, 1, none⟩ = some (.slice B2 fans.length d2) := hT2.cell 1
  have t2 : W2.cell? ⟨T, 2, none⟩ = some (.slice B3 rs.length d3) := hT2.cell 2
  have tl := hT2.lt
  go_upto_region 5 with (first | (go_at_call 23; (with_reducible refine cS.mono ?_); rintro e W3 ⟨hb3, gs, rfl, hGs⟩) | fail)
  have hC3 := hC2.below hb3
  have hR3 := hR2.below hb3
  have hT3 := hT2.below hb3
  have hB3 := bel_trans hB2 hb3
  have hV3 := TopoV.below hV2 hb3
  clear hC2 hR2 hT2 hB2 hV2 cS x0 x1 x2 xl t0 t1 t2 tl hb3
  have cF := far_anyP W3 A1 k1 vs (hV.below hB3) (by omega)
  rw [hall.out] at cF
  have x0 : W3.cell? ⟨W.heap.size, 0, none⟩ = some (.slice A1 vs.length k1) := hC3.cell 0
  have xl := hC3.lt
  go_upto_region 9 with (first | (go_at_call 24; (with_reducible refine cF.mono ?_); rintro e W4 ⟨hb4, rfl⟩) | fail)
  have hC4 := hC3.below hb4
  have hR4 := hR3.below hb4
  have hT4 := hT3.below hb4
  have hB4 := bel_trans hB3 hb4
  have hV4 := TopoV.below hV3 hb4
  have hG4 := hGs.below hb4
  clear hC3 hR3 hT3 hB3 hV3 cF x0 xl hb4 hGs
  have cQ := squares_any W4 A2 k2 fs (hF.below hB4) (by omega) (fun x hx => by have := hxl x hx; omega)
  replace cQ : Calls Try.prog 26 #[.slice A2 fs.length k2] W4 fun e W' => Below W4.heap.size W4 W' ∧ ∃ g, e = .returned (.tuple #[.slice (some ⟨g, 0, none⟩) fs.length fs.length, .bool true]) ∧ Blk W' g 36 (rowCs 4 fs.length (fC fun f => fs.getD f [])) := cQ.mono fun e W' ⟨hb, hcase⟩ => by
    rcases hcase with ⟨_, g, h1, h2, h3⟩ | ⟨h1, _⟩
    · exact ⟨hb, g, h1, h3⟩
    · rw [h4b.out] at h1; cases h1
  have x1 : W4.cell? ⟨W.heap.size, 1, none⟩ = some (.slice A2 fs.length k2) := hC4.cell 1
  have xl := hC4.lt
  go_upto_region 12 with (first | (go_at_call 26; (with_reducible refine cQ.mono ?_); rintro e W5 ⟨hb5, gq, rfl, hGq⟩) | fail)
  have hC5 := hC4.below hb5
  have hR5 := hR4.below hb5
  have hT5 := hT4.below hb5
  have hB5 := bel_trans hB4 hb5
  have hV5 := TopoV.below hV4 hb5
  have hG5 := hG4.below hb5
  clear hC4 hR4 hT4 hB4 hV4 cQ x1 xl hb5 hG4
  have xl := hC5.lt
  have tl := hT5.lt
  have x0 : W5.cell? ⟨W.heap.size, 0, none⟩ = some (.slice A1 vs.length k1) := hC5.cell 0
  obtain ⟨i0, hi0, hz0, hz1, hz2⟩ := info_parts infoSW
  refine wp_region_monoT 11 (RL [PE (.agg #[.slice B1 es.length d1, .slice B2 fans.length d2, .slice B3 rs.length d3]), PE (.pointer (some ⟨W.heap.size, 0, none⟩)), PE (.slice A1 vs.length k1), PE (.slice (some ⟨gq, 0, none⟩) fs.length fs.length), PE (.slice (some ⟨gs, 0, none⟩) es.length es.length), PE (.pointer (some ⟨W.heap.size, 0, none⟩)), PE (.slice A1 vs.length k1), PE (.int .i64 (vs.length : Int)), PSW W5.heap.size vs.length, PNE W5.heap.size vs.length (fun g => #[.slice B1 es.length d1, .slice B2 fans.length d2, .slice B3 rs.length d3, .slice A1 vs.length k1, .slice (some ⟨gq, 0, none⟩) fs.length fs.length, .slice (some ⟨gs, 0, none⟩) es.length es.length, .slice (some ⟨g, 0, none⟩) vs.length vs.length]), PB W5.heap.size 60 #[.slice none 0 0, .slice none 0 0, .slice none 0 0, .slice none 0 0, .slice none 0 0, .slice none 0 0, .slice none 0 0]]) (by kernel_rfl) _ rfl (by kernel_rfl) (by kernel_rfl) (by kernel_rfl) (by kernel_rfl) (by kernel_rfl) (RL.stays ?_) ?_ ?_
  · intro p hp
    simp only [List.mem_cons, List.not_mem_nil, or_false] at hp
    rcases hp with rfl | rfl | rfl | rfl | rfl | rfl | rfl | rfl | rfl | rfl | rfl <;> first | exact PE.stays _ | exact PV.stays _ _ _ | exact PSW.stays _ _ | exact PNE.stays _ _ _ | exact PB.stays _ _ _
  · simp only [List.take_succ_cons, List.take_zero]
    refine ⟨?_, ?_, ?_, ?_, ?_, ?_, ?_, ?_, ?_, ?_, ?_, ?_⟩
    · refine mono_val rfl (fun a w hB hk hp => ?_)
      have es4 := (hk 4 (keep_of (by kernel_rfl))).trans (show _ = some (.pointer (some ⟨T, 0, none⟩)) from rfl)
      exact ⟨.agg #[.slice B1 es.length d1, .slice B2 fans.length d2, .slice B3 rs.length d3], w, ldmS_run _ _ _ 56 _ rfl (T) 0 (eval_tmp es4) [.slice B1 es.length d1, .slice B2 fans.length d2, .slice B3 rs.length d3] _ (rng_all ((hT5).below hB)) Try.underlying56 rfl (by kernel_rfl), Below.refl _ _, fun _ _ => rfl⟩
    · refine mono_val rfl (fun a w hB hk hp => ?_)
      have es1 := (hk 1 (keep_of (by kernel_rfl))).trans (show _ = some (.pointer (some ⟨W.heap.size, 0, none⟩)) from rfl)
      exact ⟨.pointer (some ⟨W.heap.size, 0, none⟩), w, by simp [execOp, go_sem, es1], Below.refl _ _, fun _ _ => rfl⟩
    · refine mono_val rfl (fun a w hB hk hp => ?_)
      obtain ⟨x1, ex1, rx1⟩ := hp ⟨1, .data⟩ (by simp) rfl _ _ rfl rfl
      obtain rfl : x1 = _ := rx1
      have fc0 := (hB.cell (p := ⟨W.heap.size, 0, none⟩) xl).trans x0
      exact ⟨.slice A1 vs.length k1, w, by simp [execOp, go_sem, ex1, fc0], Below.refl _ _, fun _ _ => rfl⟩
    · refine mono_val rfl (fun a w hB hk hp => ?_)
      have es7 := (hk 7 (keep_of (by kernel_rfl))).trans (show _ = some (.slice (some ⟨gq, 0, none⟩) fs.length fs.length) from rfl)
      exact ⟨.slice (some ⟨gq, 0, none⟩) fs.length fs.length, w, by simp [execOp, go_sem, es7], Below.refl _ _, fun _ _ => rfl⟩
    · refine mono_val rfl (fun a w hB hk hp => ?_)
      have es6 := (hk 6 (keep_of (by kernel_rfl))).trans (show _ = some (.slice (some ⟨gs, 0, none⟩) es.length es.length) from rfl)
      exact ⟨.slice (some ⟨gs, 0, none⟩) es.length es.length, w, by simp [execOp, go_sem, es6], Below.refl _ _, fun _ _ => rfl⟩
    · refine mono_val rfl (fun a w hB hk hp => ?_)
      have es1 := (hk 1 (keep_of (by kernel_rfl))).trans (show _ = some (.pointer (some ⟨W.heap.size, 0, none⟩)) from rfl)
      exact ⟨.pointer (some ⟨W.heap.size, 0, none⟩), w, by simp [execOp, go_sem, es1], Below.refl _ _, fun _ _ => rfl⟩
    · refine mono_val rfl (fun a w hB hk hp => ?_)
      obtain ⟨x5, ex5, rx5⟩ := hp ⟨5, .data⟩ (by simp) rfl _ _ rfl rfl
      obtain rfl : x5 = _ := rx5
      have fc0 := (hB.cell (p := ⟨W.heap.size, 0, none⟩) xl).trans x0
      exact ⟨.slice A1 vs.length k1, w, by simp [execOp, go_sem, ex5, fc0], Below.refl _ _, fun _ _ => rfl⟩
    · refine mono_val rfl (fun a w hB hk hp => ?_)
      obtain ⟨x6, ex6, rx6⟩ := hp ⟨6, .data⟩ (by simp) rfl _ _ rfl rfl
      obtain rfl : x6 = _ := rx6
      exact ⟨.int .i64 (vs.length : Int), w, by simp [execOp, go_sem, ex6], Below.refl _ _, fun _ _ => rfl⟩
    · refine mono_val rfl (fun a w hB hk hp => ?_)
      obtain ⟨x7, ex7, rx7⟩ := hp ⟨7, .data⟩ (by simp) rfl _ _ rfl rfl
      obtain rfl : x7 = _ := rx7
      obtain ⟨w', hrun, r1, r2⟩ := run_make_full (P := Try.prog) w w.heap.size 58 80 i0 _ 1 Try.underlying58 hi0 hz0 hz1 .i64 .i64 vs.length (by rw [hz2]; omega) (by unfold maxLen; omega) (Nat.le_refl _)
      exact ⟨.slice (some ⟨w.heap.size, 0, none⟩) vs.length vs.length, w', by simp [execOp, go_sem, ex7, hrun], bel_own (Below.refl _ _) r2 (by intro k h; cases h), fun _ _ => ⟨w.heap.size, rfl, hB.size, by rw [← svC_made]; exact made_blk r1⟩⟩
    · refine mono_val rfl (fun a w hB hk hp => ?_)
      obtain ⟨x0, ex0, rx0⟩ := hp ⟨0, .data⟩ (by simp) rfl _ _ rfl rfl
      obtain rfl : x0 = _ := rx0
      obtain ⟨x2, ex2, rx2⟩ := hp ⟨2, .data⟩ (by simp) rfl _ _ rfl rfl
      obtain rfl : x2 = _ := rx2
      obtain ⟨x3, ex3, rx3⟩ := hp ⟨3, .data⟩ (by simp) rfl _ _ rfl rfl
      obtain rfl : x3 = _ := rx3
      obtain ⟨x4, ex4, rx4⟩ := hp ⟨4, .data⟩ (by simp) rfl _ _ rfl rfl
      obtain rfl : x4 = _ := rx4
      obtain ⟨x8, ex8, rx8⟩ := hp ⟨8, .data⟩ (by simp) rfl _ _ rfl rfl
      obtain ⟨gE, rfl, hgE, hbE⟩ : PSW W5.heap.size vs.length w x8 := rx8
      exact ⟨.agg #[.slice B1 es.length d1, .slice B2 fans.length d2, .slice B3 rs.length d3, .slice A1 vs.length k1, .slice (some ⟨gq, 0, none⟩) fs.length fs.length, .slice (some ⟨gs, 0, none⟩) es.length es.length, .slice (some ⟨gE, 0, none⟩) vs.length vs.length], w, by simp [execOp, go_sem, ex0, ex2, ex3, ex4, ex8], Below.refl _ _, fun _ _ => ⟨gE, rfl, hgE, hbE⟩⟩
    · refine mono_val rfl (fun a w hB hk hp => ?_)
      exact ⟨.pointer (some ⟨w.heap.size, 0, none⟩), w.alloc (.cells #[.slice none 0 0, .slice none 0 0, .slice none 0 0, .slice none 0 0, .slice none 0 0, .slice none 0 0, .slice none 0 0] 60), alloc_Net _ _ rfl w, bel_alloc (Below.refl _ _) _, fun _ _ => ⟨w.heap.size, rfl, hB.size, Blk.new _ _ _ _ rfl⟩⟩
    · trivial
  · intro a w6 hB hsz hdf hk hgot
    obtain ⟨v9, ev9, rv9⟩ := hgot 9 _ 57 rfl rfl
    obtain ⟨gE, rfl, hgE, hbE⟩ : PNE W5.heap.size vs.length (fun g => #[.slice B1 es.length d1, .slice B2 fans.length d2, .slice B3 rs.length d3, .slice A1 vs.length k1, .slice (some ⟨gq, 0, none⟩) fs.length fs.length, .slice (some ⟨gs, 0, none⟩) es.length es.length, .slice (some ⟨g, 0, none⟩) vs.length vs.length]) w6 v9 := rv9
    obtain ⟨v10, ev10, rv10⟩ := hgot 10 _ 9 rfl rfl
    obtain ⟨P, rfl, hgp, hbp⟩ : PB W5.heap.size 60 #[.slice none 0 0, .slice none 0 0, .slice none 0 0, .slice none 0 0, .slice none 0 0, .slice none 0 0, .slice none 0 0] w6 v10 := rv10
    obtain ⟨f, hf, rfl⟩ := frame_eq hsz hdf hk [48, 49, 50, 51, 52, 53, 54, 55, 56, 57, 9] (by rfl)
    have f57 := hf 57 _ ev9
    have f9 := hf 9 _ ev10
    clear hsz hdf hk hgot hf ev9 ev10
    simp only [List.drop_succ_cons, List.drop_zero, setAll, List.setIfInBounds_toArray, List.set_cons_succ, List.set_cons_zero, f57, f9]
    clear f57 f9
    generalize f 48 = uu48; generalize f 49 = uu49; generalize f 50 = uu50; generalize f 51 = uu51; generalize f 52 = uu52; generalize f 53 = uu53; generalize f 54 = uu54; generalize f 55 = uu55; generalize f 56 = uu56
    have hB6 := bel_trans hB5 hB
    have hC6 := hC5.below hB
    have hR6 := hR5.below hB
    have hT6 := hT5.below hB
    have hne : gE ≠ P := hbE.ne_ hbp (by decide)
    have hxP : W.heap.size < W5.heap.size := hC5.lt
    have htP : T < W5.heap.size := hT5.lt
    have hrP : W.heap.size + 1 < W5.heap.size := hR5.lt
    clear x0 xl tl
    go_upto_region 13 with (first | ((refine wpList_store_row rfl 60 _ _ rfl P #[.slice B1 es.length d1, .slice B2 fans.length d2, .slice B3 rs.length d3, .slice A1 vs.length k1, .slice (some ⟨gq, 0, none⟩) fs.length fs.length, .slice (some ⟨gs, 0, none⟩) es.length es.length, .slice (some ⟨gE, 0, none⟩) vs.length vs.length] rfl rfl 60 #[.slice none 0 0, .slice none 0 0, .slice none 0 0, .slice none 0 0, .slice none 0 0, .slice none 0 0, .slice none 0 0] hbp (by kernel_rfl) rfl (by simp [Value.oneCell']) ?_); simp only [Act.put, List.setIfInBounds_toArray, List.set_cons_succ, List.set_cons_zero]) | fail)
    have hP7 : Blk (w6.setRow P #[.slice B1 es.length d1, .slice B2 fans.length d2, .slice B3 rs.length d3, .slice A1 vs.length k1, .slice (some ⟨gq, 0, none⟩) fs.length fs.length, .slice (some ⟨gs, 0, none⟩) es.length es.length, .slice (some ⟨gE, 0, none⟩) vs.length vs.length]) P 60 #[.slice B1 es.length d1, .slice B2 fans.length d2, .slice B3 rs.length d3, .slice A1 vs.length k1, .slice (some ⟨gq, 0, none⟩) fs.length fs.length, .slice (some ⟨gs, 0, none⟩) es.length es.length, .slice (some ⟨gE, 0, none⟩) vs.length vs.length] := hbp.setRow _
    have hE7 : Blk (w6.setRow P #[.slice B1 es.length d1, .slice B2 fans.length d2, .slice B3 rs.length d3, .slice A1 vs.length k1, .slice (some ⟨gq, 0, none⟩) fs.length fs.length, .slice (some ⟨gs, 0, none⟩) es.length es.length, .slice (some ⟨gE, 0, none⟩) vs.length vs.length]) gE 80 (svC vs.length (fun _ => .slice none 0 0)) := hbE.farRow _ (Ne.symm hne)
    have hC7 : Blk (w6.setRow P #[.slice B1 es.length d1, .slice B2 fans.length d2, .slice B3 rs.length d3, .slice A1 vs.length k1, .slice (some ⟨gq, 0, none⟩) fs.length fs.length, .slice (some ⟨gs, 0, none⟩) es.length es.length, .slice (some ⟨gE, 0, none⟩) vs.length vs.length]) W.heap.size 27 _ := hC6.farRow #[.slice B1 es.length d1, .slice B2 fans.length d2, .slice B3 rs.length d3, .slice A1 vs.length k1, .slice (some ⟨gq, 0, none⟩) fs.length fs.length, .slice (some ⟨gs, 0, none⟩) es.length es.length, .slice (some ⟨gE, 0, none⟩) vs.length vs.length] (b := P) (by omega)
    have hR7 : Blk (w6.setRow P #[.slice B1 es.length d1, .slice B2 fans.length d2, .slice B3 rs.length d3, .slice A1 vs.length k1, .slice (some ⟨gq, 0, none⟩) fs.length fs.length, .slice (some ⟨gs, 0, none⟩) es.length es.length, .slice (some ⟨gE, 0, none⟩) vs.length vs.length]) (W.heap.size + 1) 60 _ := hR6.farRow #[.slice B1 es.length d1, .slice B2 fans.length d2, .slice B3 rs.length d3, .slice A1 vs.length k1, .slice (some ⟨gq, 0, none⟩) fs.length fs.length, .slice (some ⟨gs, 0, none⟩) es.length es.length, .slice (some ⟨gE, 0, none⟩) vs.length vs.length] (b := P) (by omega)
    have hT7 : Blk (w6.setRow P #[.slice B1 es.length d1, .slice B2 fans.length d2, .slice B3 rs.length d3, .slice A1 vs.length k1, .slice (some ⟨gq, 0, none⟩) fs.length fs.length, .slice (some ⟨gs, 0, none⟩) es.length es.length, .slice (some ⟨gE, 0, none⟩) vs.length vs.length]) T 56 _ := hT6.farRow #[.slice B1 es.length d1, .slice B2 fans.length d2, .slice B3 rs.length d3, .slice A1 vs.length k1, .slice (some ⟨gq, 0, none⟩) fs.length fs.length, .slice (some ⟨gs, 0, none⟩) es.length es.length, .slice (some ⟨gE, 0, none⟩) vs.length vs.length] (b := P) (by omega)
    have hB7 : Below W.heap.size W (w6.setRow P #[.slice B1 es.length d1, .slice B2 fans.length d2, .slice B3 rs.length d3, .slice A1 vs.length k1, .slice (some ⟨gq, 0, none⟩) fs.length fs.length, .slice (some ⟨gs, 0, none⟩) es.length es.length, .slice (some ⟨gE, 0, none⟩) vs.length vs.length]) := bel_setRow hB6 (by omega) _
    have h57 : Below W5.heap.size W5 (w6.setRow P #[.slice B1 es.length d1, .slice B2 fans.length d2, .slice B3 rs.length d3, .slice A1 vs.length k1, .slice (some ⟨gq, 0, none⟩) fs.length fs.length, .slice (some ⟨gs, 0, none⟩) es.length es.length, .slice (some ⟨gE, 0, none⟩) vs.length vs.length]) := bel_setRow hB (by omega) _
    have hP7l := hP7.lt
    clear hC6 hR6 hT6 hbp hbE hB6 hB
    generalize w6.setRow P #[.slice B1 es.length d1, .slice B2 fans.length d2, .slice B3 rs.length d3, .slice A1 vs.length k1, .slice (some ⟨gq, 0, none⟩) fs.length fs.length, .slice (some ⟨gs, 0, none⟩) es.length es.length, .slice (some ⟨gE, 0, none⟩) vs.length vs.length] = w7 at *
    have t0 : w7.cell? ⟨T, 0, none⟩ = some (.slice B1 es.length d1) := hT7.cell 0
    have tl := hT7.lt
    obtain ⟨N, hN⟩ : ∃ N : NetD, N = ⟨vs, fs, sh, ⟨es, fans, rs⟩⟩ := ⟨_, rfl⟩
    have hO7 : OwnE w7 w7.heap.size vs.length gE (fun _ => .slice none 0 0) (fun v => (N.endsK 0 (v : Int)).map fun p => (p, (1 : Int))) := by
      refine ⟨hE7.lt, Nat.le_refl _, hE7, fun v hv => ?_, fun u v hu hv huv => .inl rfl⟩
      have : N.endsK 0 (v : Int) = [] := by simp [NetD.endsK]
      rw [this]
      exact World.ownsRow_nil _ _ _ _
    replace hN := Lib.hid hN
    go_wp2
    clear t0 tl hC7 hR7 hT7
    go_loopw [61] (fun iv wr => ∃ (k : Nat) (sv : Nat → Value), iv = .int .i64 (k : Int) ∧ k ≤ es.length ∧ Below W5.heap.size W5 wr ∧ Blk wr P 60 #[.slice B1 es.length d1, .slice B2 fans.length d2, .slice B3 rs.length d3, .slice A1 vs.length k1, .slice (some ⟨gq, 0, none⟩) fs.length fs.length, .slice (some ⟨gs, 0, none⟩) es.length es.length, .slice (some ⟨gE, 0, none⟩) vs.length vs.length] ∧ OwnE wr w7.heap.size vs.length gE sv (fun v => (N.endsK k (v : Int)).map fun p => (p, (1 : Int)))) (fun iv _ => es.length - (intOf iv).toNat)
    case atStart => exact ⟨0, _, rfl, by omega, h57, hP7, hO7⟩
    case round =>
      obtain ⟨k, sv, rfl, hk, hBr, hPr, hOr⟩ := hrel
      clear hO7 hP7
      rename World => wr
      by_cases hlt : k < es.length
      · have hks : k < sh.length := by rw [hshl.out]; exact hlt
        have h5r := hBr
        obtain ⟨be, oe, rfl, hbe, c0, c1, c2, c3⟩ : ∃ b off, B1 = some ⟨b, off, none⟩ ∧ b < wr.heap.size ∧ _ := by
          obtain ⟨b, off, h1, h2, h3⟩ := (hV5.es.below h5r) (show 0 < es.length by omega)
          exact ⟨b, off, h1, h2, h3 k hlt⟩
        have cs : wr.cell? ⟨gs, k, none⟩ = some (.int .i64 sh[k]) := by rw [(hG5.below h5r).cell, iC_at hks]
        have hsl := (hG5.below h5r).lt
        obtain ⟨⟨ha0, ha1⟩, ⟨hb0, hb1⟩, hab, _⟩ := edge_rng hTS0.out (List.getElem_mem hlt)
        have hne1 := @endsK_none N k (by rw [hN.out]; exact hlt) (by rw [hN.out]; exact hks)
        have hne2 := @endsK_two N k (by rw [hN.out]; exact hlt) (by rw [hN.out]; exact hks)
        have hNs : N.sh[k]'(by rw [hN.out]; exact hks) = sh[k] := by simp only [hN.out]
        have hNe : N.t.es[k]'(by rw [hN.out]; exact hlt) = es[k] := by simp only [hN.out]
        have hNv : N.vs = vs := by rw [hN.out]
        rw [hNs] at hne1 hne2
        rw [hNe, hNv] at hne2
        clear hNs hNe hNv
        have hq0 : (0 : Int) ≤ (k : Int) := by omega
        have hq1 : (k : Int) < (es.length : Int) := by omega
        generalize es[k] = e at *
        generalize sh[k] = s at *
        obtain ⟨va, hva⟩ := Int.eq_ofNat_of_zero_le ha0
        obtain ⟨vb, hvb⟩ := Int.eq_ofNat_of_zero_le hb0
        obtain ⟨e1, e2, e3, e4⟩ := e
        simp only at hva hvb c0 c1 c2 c3 hne1 hne2 ha0 ha1 hb0 hb1 hab
        subst hva hvb
        have hva2 : va < vs.length := by omega
        have hvb2 : vb < vs.length := by omega
        have hvab : va ≠ vb := by omega
        replace hne2 := fun (h : s ≠ 0) (u : Nat) => hne2 rfl rfl hvab h u
        replace hne1 := Lib.hid hne1
        replace hne2 := Lib.hid hne2
        have hD : Blk (wr.alloc (.cells #[.int .i64 (va : Int), .int .i64 (vb : Int), .int .i64 e3, .int .i64 e4] 79)) wr.heap.size 79 #[.int .i64 (va : Int), .int .i64 (vb : Int), .int .i64 e3, .int .i64 e4] := Blk.new _ _ _ _ rfl
        have hb8 : Below wr.heap.size wr (wr.alloc (.cells #[.int .i64 (va : Int), .int .i64 (vb : Int), .int .i64 e3, .int .i64 e4] 79)) := bel_alloc (Below.refl _ _) _
        have hO8 := hOr.below hb8
        have hgo : ∀ u, u < vs.length → (sv u).ownBlock ≠ some wr.heap.size := fun u hu e => by
          exact absurd (own_block (hOr.own u hu) _ e).2 (Nat.lt_irrefl _)
        have hB8 := bel_trans hBr hb8
        have hP8 := hPr.below hb8
        have hle8 := hOr.le
        have cs8 := (hb8.cell (p := ⟨gs, k, none⟩) hsl).trans cs
        have hsl8 := Nat.lt_of_lt_of_le hsl hb8.size
        have hgeb : w7.heap.size ≤ wr.heap.size := hOr.le
        clear hOr hPr h5r ha0 ha1 hb0 hb1 hab
        go_upto_region 16 with (fail)
        generalize wr.alloc (.cells #[.int .i64 (va : Int), .int .i64 (vb : Int), .int .i64 e3, .int .i64 e4] 79) = w8 at *
        generalize wr.heap.size = ge at *
        clear c0 c1 c2 c3 hbe cs hsl
        by_cases hs : s = 0
        · subst hs
          have hO9 := hO8.ext (M := fun v => (N.endsK (k + 1) (v : Int)).map fun p => (p, (1 : Int))) (fun v hv => by rw [hne1.out rfl])
          replace hO9 := Lib.hid hO9
          replace hB8 := Lib.hid hB8
          replace hP8 := Lib.hid hP8
          clear hO8 hD
          go_wp2
          go_roundw
          case rel => exact ⟨k + 1, sv, by go_num, by omega, hB8.out, hP8.out, hO9.out⟩
          case measure => simp [intOf]; omega
        · have hsf : (s == 0) = false := by simpa using hs
          have hO9 := hne2.out hs
          replace hO9 := Lib.hid hO9
          replace hs := trivial
          go_upto_region 17 with (fail)
          obtain ⟨bv, ov, rfl, lV5, pac0, pac1, pac2⟩ : ∃ b off, A1 = some ⟨b, off, none⟩ ∧ b < W5.heap.size ∧ W5.cell? ⟨b, off + va * 3, none⟩ = some (.int .i64 vs[va].x) ∧ W5.cell? ⟨b, off + va * 3 + 1, none⟩ = some (.int .i64 vs[va].y) ∧ W5.cell? ⟨b, off + va * 3 + 2, none⟩ = some (.int .i64 vs[va].z) := (hV.below hB5).at_ va hva2
          obtain ⟨bv2, ov2, ev2, _, pbc0, pbc1, pbc2⟩ := (hV.below hB5).at_ vb hvb2
          obtain ⟨rfl, rfl⟩ : bv = bv2 ∧ ov = ov2 := by simpa using ev2
          rw [← vat_get hva2] at pac0 pac1 pac2
          rw [← vat_get hvb2] at pbc0 pbc1 pbc2
          generalize vat vs (va : Int) = pa at *
          generalize vat vs (vb : Int) = pb at *
          have qva0 : (0 : Int) ≤ (va : Int) := by omega
          have qva1 : (va : Int) < (vs.length : Int) := by omega
          have qvb0 : (0 : Int) ≤ (vb : Int) := by omega
          have qvb1 : (vb : Int) < (vs.length : Int) := by omega
          have h57s := h57.size
          have lP : P < w7.heap.size := hP7l
          have lC : W.heap.size < w7.heap.size := by omega
          have lV : bv < w7.heap.size := by omega
          clear ev2 cs8 hsl8 hsf
          obtain ⟨v1, u2, hr1, hkp, hsz9, hbel, hge2, hO2⟩ := OwnE.app (hO8.below (bel_drew (Below.refl _ _))) va hva2 (pb, 1) (by show (List.map _ _).length < _; rw [List.length_map]; have := NetD.endsK_len N k (va : Int); omega) 80
          obtain ⟨Av1, nv1, cv1, rfl⟩ : ∃ A n c, v1 = .slice A n c := by
            obtain ⟨A, c, h⟩ := own_form (hO2.own va hva2)
            exact ⟨A, _, c, by simpa using h⟩
          have hk1 : ∀ u, (u = (w8.drew) ∨ u = (((w8.drew)).alloc (.cells #[.int .i64 pb.x, .int .i64 pb.y, .int .i64 pb.z, .int .i64 1] 82)) ∨ u = u2) → (∀ b j x, b < w7.heap.size → w8.cell? ⟨b, j, none⟩ = some x → u.cell? ⟨b, j, none⟩ = some x) ∧ (∀ j x, w8.cell? ⟨ge, j, none⟩ = some x → u.cell? ⟨ge, j, none⟩ = some x) := by
            have hge8 : ge < w8.heap.size := hD.lt
            have hle9 := hO8.le
            rintro u (rfl | rfl | rfl)
            · exact ⟨fun b j x hb h => h, fun j x h => h⟩
            · have hba : Below (w8.drew).heap.size (w8.drew) (((w8.drew)).alloc (.cells #[.int .i64 pb.x, .int .i64 pb.y, .int .i64 pb.z, .int .i64 1] 82)) := bel_alloc (Below.refl _ _) _
              exact ⟨fun b j x hb h => (hba.cell (p := ⟨b, j, none⟩) (by show b < w8.heap.size; omega)).trans h, fun j x h => (hba.cell (p := ⟨ge, j, none⟩) hge8).trans h⟩
            · exact ⟨fun b j x hb h => (World.cell?_of_block (hkp b hb)).trans h, fun j x h => (World.cell?_of_block (hge2 ge hge8 hgo).1).trans h⟩
          have n6 : w8.cell? ⟨P, 6, none⟩ = some (.slice (some ⟨gE, 0, none⟩) vs.length vs.length) := hP8.cell 6
          have e0 : w8.cell? ⟨ge, 0, none⟩ = some (.int .i64 (va : Int)) := hD.cell 0
          have e1 : w8.cell? ⟨ge, 1, none⟩ = some (.int .i64 (vb : Int)) := hD.cell 1
          have csv : w8.cell? ⟨gE, va, none⟩ = some (sv va) := (hO8.blk.cell va).trans (svC_at sv hva2)
          have x0 : w8.cell? ⟨W.heap.size, 0, none⟩ = some (.slice (some ⟨bv, ov, none⟩) vs.length k1) := (hC5.below hB8).cell 0
          have pb0 := (hB8.cell (p := ⟨bv, ov + vb * 3, none⟩) lV5).trans pbc0
          have pb1 := (hB8.cell (p := ⟨bv, ov + vb * 3 + 1, none⟩) lV5).trans pbc1
          have pb2 := (hB8.cell (p := ⟨bv, ov + vb * 3 + 2, none⟩) lV5).trans pbc2
          have lE := hO8.lt
          replace hr1 := hr1
          refine wp_region_monoK 19 (RK [.pointer (some ⟨P, 6, none⟩), .slice (some ⟨gE, 0, none⟩) vs.length vs.length, .pointer (some ⟨ge, 0, none⟩), .int .i64 (va : Int), .pointer (some ⟨P, 6, none⟩), .slice (some ⟨gE, 0, none⟩) vs.length vs.length, .pointer (some ⟨ge, 0, none⟩), .int .i64 (va : Int), .pointer (some ⟨gE, va, none⟩), sv va, .pointer (some ⟨W.heap.size, 0, none⟩), .slice (some ⟨bv, ov, none⟩) vs.length k1, .pointer (some ⟨ge, 1, none⟩), .int .i64 (vb : Int), .pointer (some ⟨bv, ov + vb * 3, none⟩), .agg #[.int .i64 pb.x, .int .i64 pb.y, .int .i64 pb.z], .agg #[.int .i64 pb.x, .int .i64 pb.y, .int .i64 pb.z, .int .i64 1], .slice (some ⟨(w8.drew).heap.size, 0, none⟩) 1 1, .slice Av1 nv1 cv1]) (PhJ 17 18 (w8.drew) ((w8.drew).alloc (.cells #[.int .i64 pb.x, .int .i64 pb.y, .int .i64 pb.z, .int .i64 1] 82)) u2) (by kernel_rfl) _ rfl (by kernel_rfl) (by kernel_rfl) (by kernel_rfl) (by kernel_rfl) (by kernel_rfl) ⟨by decide, by decide, fun h => by simp [Array.getD] at h, rfl⟩ ?_ ?_
          · simp only [List.take_succ_cons, List.take_zero]
            refine ⟨?_, ?_, ?_, ?_, ?_, ?_, ?_, ?_, ?_, ?_, ?_, ?_, ?_, ?_, ?_, ?_, ?_, ?_, ?_, ?_⟩
            · refine mono_read rfl (by decide) (by decide) (fun a u hu hk hp => ?_)
              have es9 := (hk 9 (keep_of (by kernel_rfl))).trans (show _ = some (.pointer (some ⟨P, 0, none⟩)) from rfl)
              exact ⟨_, by simp [execOp, go_sem, es9], rfl⟩
            · refine mono_read rfl (by decide) (by decide) (fun a u hu hk hp => ?_)
              obtain ⟨x0, ex0, rx0⟩ := hp ⟨0, .data⟩ (by simp) rfl _ _ rfl rfl
              obtain rfl : x0 = _ := rx0
              have fc0 := (hk1 u hu).1 P (6) _ lP n6
              exact ⟨_, by simp [execOp, go_sem, ex0, fc0], rfl⟩
            · refine mono_read rfl (by decide) (by decide) (fun a u hu hk hp => ?_)
              have es11 := (hk 11 (keep_of (by kernel_rfl))).trans (show _ = some (.pointer (some ⟨ge, 0, none⟩)) from rfl)
              exact ⟨_, by simp [execOp, go_sem, es11], rfl⟩
            · refine mono_read rfl (by decide) (by decide) (fun a u hu hk hp => ?_)
              obtain ⟨x2, ex2, rx2⟩ := hp ⟨2, .data⟩ (by simp) rfl _ _ rfl rfl
              obtain rfl : x2 = _ := rx2
              have fc0 := (hk1 u hu).2 (0) _ e0
              exact ⟨_, by simp [execOp, go_sem, ex2, fc0], rfl⟩
            · refine mono_read rfl (by decide) (by decide) (fun a u hu hk hp => ?_)
              have es9 := (hk 9 (keep_of (by kernel_rfl))).trans (show _ = some (.pointer (some ⟨P, 0, none⟩)) from rfl)
              exact ⟨_, by simp [execOp, go_sem, es9], rfl⟩
            · refine mono_read rfl (by decide) (by decide) (fun a u hu hk hp => ?_)
              obtain ⟨x4, ex4, rx4⟩ := hp ⟨4, .data⟩ (by simp) rfl _ _ rfl rfl
              obtain rfl : x4 = _ := rx4
              have fc0 := (hk1 u hu).1 P (6) _ lP n6
              exact ⟨_, by simp [execOp, go_sem, ex4, fc0], rfl⟩
            · refine mono_read rfl (by decide) (by decide) (fun a u hu hk hp => ?_)
              have es11 := (hk 11 (keep_of (by kernel_rfl))).trans (show _ = some (.pointer (some ⟨ge, 0, none⟩)) from rfl)
              exact ⟨_, by simp [execOp, go_sem, es11], rfl⟩
            · refine mono_read rfl (by decide) (by decide) (fun a u hu hk hp => ?_)
              obtain ⟨x6, ex6, rx6⟩ := hp ⟨6, .data⟩ (by simp) rfl _ _ rfl rfl
              obtain rfl : x6 = _ := rx6
              have fc0 := (hk1 u hu).2 (0) _ e0
              exact ⟨_, by simp [execOp, go_sem, ex6, fc0], rfl⟩
            · refine mono_read rfl (by decide) (by decide) (fun a u hu hk hp => ?_)
              obtain ⟨x5, ex5, rx5⟩ := hp ⟨5, .data⟩ (by simp) rfl _ _ rfl rfl
              obtain rfl : x5 = _ := rx5
              obtain ⟨x7, ex7, rx7⟩ := hp ⟨7, .data⟩ (by simp) rfl _ _ rfl rfl
              obtain rfl : x7 = _ := rx7
              have fc0 := qva0
              have fc1 := qva1
              exact ⟨_, by simp [execOp, go_sem, ex5, ex7, fc0, fc1], rfl⟩
            · refine mono_read rfl (by decide) (by decide) (fun a u hu hk hp => ?_)
              obtain ⟨x8, ex8, rx8⟩ := hp ⟨8, .data⟩ (by simp) rfl _ _ rfl rfl
              obtain rfl : x8 = _ := rx8
              have fc0 := (hk1 u hu).1 gE (va) _ lE csv
              exact ⟨_, by simp [execOp, go_sem, ex8, fc0], rfl⟩
            · refine mono_read rfl (by decide) (by decide) (fun a u hu hk hp => ?_)
              have es1 := (hk 1 (keep_of (by kernel_rfl))).trans (show _ = some (.pointer (some ⟨W.heap.size, 0, none⟩)) from rfl)
              exact ⟨_, by simp [execOp, go_sem, es1], rfl⟩
            · refine mono_read rfl (by decide) (by decide) (fun a u hu hk hp => ?_)
              obtain ⟨x10, ex10, rx10⟩ := hp ⟨10, .data⟩ (by simp) rfl _ _ rfl rfl
              obtain rfl : x10 = _ := rx10
              have fc0 := (hk1 u hu).1 W.heap.size (0) _ lC x0
              exact ⟨_, by simp [execOp, go_sem, ex10, fc0], rfl⟩
            · refine mono_read rfl (by decide) (by decide) (fun a u hu hk hp => ?_)
              have es11 := (hk 11 (keep_of (by kernel_rfl))).trans (show _ = some (.pointer (some ⟨ge, 0, none⟩)) from rfl)
              exact ⟨_, by simp [execOp, go_sem, es11], rfl⟩
            · refine mono_read rfl (by decide) (by decide) (fun a u hu hk hp => ?_)
              obtain ⟨x12, ex12, rx12⟩ := hp ⟨12, .data⟩ (by simp) rfl _ _ rfl rfl
              obtain rfl : x12 = _ := rx12
              have fc0 := (hk1 u hu).2 (1) _ e1
              exact ⟨_, by simp [execOp, go_sem, ex12, fc0], rfl⟩
            · refine mono_read rfl (by decide) (by decide) (fun a u hu hk hp => ?_)
              obtain ⟨x11, ex11, rx11⟩ := hp ⟨11, .data⟩ (by simp) rfl _ _ rfl rfl
              obtain rfl : x11 = _ := rx11
              obtain ⟨x13, ex13, rx13⟩ := hp ⟨13, .data⟩ (by simp) rfl _ _ rfl rfl
              obtain rfl : x13 = _ := rx13
              have fc0 := qvb0
              have fc1 := qvb1
              exact ⟨_, by simp [execOp, go_sem, ex11, ex13, fc0, fc1], rfl⟩
            · refine mono_read rfl (by decide) (by decide) (fun a u hu hk hp => ?_)
              obtain ⟨x14, ex14, rx14⟩ := hp ⟨14, .data⟩ (by simp) rfl _ _ rfl rfl
              obtain rfl : x14 = _ := rx14
              have fc0 := (hk1 u hu).1 bv (ov + vb * 3) _ lV pb0
              have fc1 := (hk1 u hu).1 bv (ov + vb * 3 + 1) _ lV pb1
              have fc2 := (hk1 u hu).1 bv (ov + vb * 3 + 2) _ lV pb2
              exact ⟨_, ldmS_run _ _ _ 30 _ rfl (bv) (ov + vb * 3) (eval_tmp ex14) _ _ (rng3V fc0 fc1 fc2) Try.underlying30 rfl infoV3, rfl⟩
            · refine mono_read rfl (by decide) (by decide) (fun a u hu hk hp => ?_)
              obtain ⟨x15, ex15, rx15⟩ := hp ⟨15, .data⟩ (by simp) rfl _ _ rfl rfl
              obtain rfl : x15 = _ := rx15
              exact ⟨_, by simp [execOp, go_sem, ex15], rfl⟩
            · refine mono_first rfl (by decide) (fun a hk hp => ?_)
              obtain ⟨x16, ex16, rx16⟩ := hp ⟨16, .data⟩ (by simp) rfl _ _ rfl rfl
              obtain rfl : x16 = _ := rx16
              exact ⟨_, by simp [execOp, go_sem, ex16], rfl⟩
            · refine mono_second rfl (by decide) ⟨⟨17, .data⟩, by simp, rfl, rfl⟩ (fun a hk hp => ?_)
              obtain ⟨x9, ex9, rx9⟩ := hp ⟨9, .data⟩ (by simp) rfl _ _ rfl rfl
              obtain rfl : x9 = _ := rx9
              obtain ⟨x17, ex17, rx17⟩ := hp ⟨17, .data⟩ (by simp) rfl _ _ rfl rfl
              obtain rfl : x17 = _ := rx17
              exact ⟨_, run_app _ _ _ rfl (eval_tmp ex9) (eval_tmp ex17) hr1, rfl⟩
            · trivial
          · intro a wz listed hJ hall hsz hdf hk hgot
            have hwz : u2 = wz := (phJ_end hJ (by decide) hall).symm
            clear hJ
            subst hwz
            obtain ⟨vv1, ev1, rv1⟩ := hgot 1 _ 72 rfl rfl
            obtain rfl : vv1 = _ := rv1
            obtain ⟨vv3, ev3, rv3⟩ := hgot 3 _ 74 rfl rfl
            obtain rfl : vv3 = _ := rv3
            obtain ⟨vv18, ev18, rv18⟩ := hgot 18 _ 89 rfl rfl
            obtain rfl : vv18 = _ := rv18
            obtain ⟨f, hf, rfl⟩ := frame_eq hsz hdf hk [71, 72, 73, 74, 75, 76, 77, 78, 79, 80, 81, 82, 83, 84, 85, 86, 87, 88, 89] (by rfl)
            have f72 := hf 72 _ ev1
            have f74 := hf 74 _ ev3
            have f89 := hf 89 _ ev18
            clear hsz hdf hk hgot hf hall ev1 ev3 ev18
            simp only [List.drop_succ_cons, List.drop_zero, setAll, List.setIfInBounds_toArray, List.set_cons_succ, List.set_cons_zero, f72, f74, f89]
            clear f72 f74 f89
            generalize f 71 = uu71; generalize f 73 = uu73; generalize f 75 = uu75; generalize f 76 = uu76; generalize f 77 = uu77; generalize f 78 = uu78; generalize f 79 = uu79; generalize f 80 = uu80; generalize f 81 = uu81; generalize f 82 = uu82; generalize f 83 = uu83; generalize f 84 = uu84; generalize f 85 = uu85; generalize f 86 = uu86; generalize f 87 = uu87; generalize f 88 = uu88
            have s0 : u2.cell? ⟨gE, va, none⟩ = some (sv va) := (World.cell?_of_block (hkp gE lE)).trans csv
            have sf : u2.frozen? ⟨gE, va, none⟩ = false := (World.frozen?_of_block (hkp gE lE)).trans (hO8.blk.frozen va)
            have sl : gE < u2.heap.size := by have := hO8.le; have h9 : w8.heap.size ≤ u2.heap.size := hsz9; omega
            have hga : ∀ u, u < vs.length → (if u = va then Value.slice Av1 nv1 cv1 else sv u).ownBlock ≠ some ge := (hge2 ge hD.lt hgo).2
            have hDa : Blk (u2.setCell ⟨gE, va, none⟩ (.slice Av1 nv1 cv1)) ge 79 #[.int .i64 (va : Int), .int .i64 (vb : Int), .int .i64 e3, .int .i64 e4] := Blk.far (((hge2 ge hD.lt hgo).1).trans hD) _ _ (by have := hO8.le; intro e; have := hgeb; omega)
            have hPa : Blk (u2.setCell ⟨gE, va, none⟩ (.slice Av1 nv1 cv1)) P 60 _ := Blk.far ((hkp P lP).trans hP8) _ _ hne
            have hBa : Below W5.heap.size W5 (u2.setCell ⟨gE, va, none⟩ (.slice Av1 nv1 cv1)) := bel_set (hbel W5 (by exact bel_trans hB8 (bel_drew (Below.refl _ _))) (by omega)) (by exact hgE) _
            obtain ⟨sv1, hsv1⟩ : ∃ f : Nat → Value, f = fun u => if u = va then .slice Av1 nv1 cv1 else sv u := ⟨_, rfl⟩
            obtain ⟨L1, hL1⟩ : ∃ f : Nat → List (P3 × Int), f = fun u => if u = va then (N.endsK k (va : Int)).map (fun p => (p, (1 : Int))) ++ [(pb, 1)] else (N.endsK k (u : Int)).map (fun p => (p, (1 : Int))) := ⟨_, rfl⟩
            have hOa : OwnE (u2.setCell ⟨gE, va, none⟩ (.slice Av1 nv1 cv1)) w7.heap.size vs.length gE sv1 L1 := by rw [hsv1, hL1]; exact hO2
            replace hga : ∀ u, u < vs.length → (sv1 u).ownBlock ≠ some ge := fun u hu => by rw [hsv1]; exact hga u hu
            replace hsv1 := Lib.hid hsv1
            replace hL1 := Lib.hid hL1
            replace hO9 := hO9
            clear hO2 hO8 hD hB8 hP8 hgo hkp hsz9 hbel hge2 hk1 hr1 n6 e0 e1 csv x0 pb0 pb1 pb2 lE
            go_upto_region 18 with (fail)
            clear s0 sf sl
            generalize u2.setCell ⟨gE, va, none⟩ (.slice Av1 nv1 cv1) = w9 at *
            have hlen : (L1 vb).length < 1000000000 := by
              rw [hL1.out]
              simp only [if_neg (show ¬ vb = va from fun e => hvab e.symm), List.length_map]
              have := NetD.endsK_len N k (vb : Int)
              omega
            obtain ⟨v2, z2, hr2, hkp, hsz9, hbel, hge2, hO2⟩ := OwnE.app (hOa.below (bel_drew (Below.refl _ _))) vb hvb2 (pa, 1) hlen 80
            obtain ⟨Av2, nv2, cv2, rfl⟩ : ∃ A n c, v2 = .slice A n c := by
              obtain ⟨A, c, h⟩ := own_form (hO2.own vb hvb2)
              exact ⟨A, _, c, by simpa using h⟩
            have hk2 : ∀ u, (u = (w9.drew) ∨ u = (((w9.drew)).alloc (.cells #[.int .i64 pa.x, .int .i64 pa.y, .int .i64 pa.z, .int .i64 1] 82)) ∨ u = z2) → (∀ b j x, b < w7.heap.size → w9.cell? ⟨b, j, none⟩ = some x → u.cell? ⟨b, j, none⟩ = some x) ∧ (∀ j x, w9.cell? ⟨ge, j, none⟩ = some x → u.cell? ⟨ge, j, none⟩ = some x) := by
              have hge8 : ge < w9.heap.size := hDa.lt
              have hle9 := hOa.le
              rintro u (rfl | rfl | rfl)
              · exact ⟨fun b j x hb h => h, fun j x h => h⟩
              · have hba : Below (w9.drew).heap.size (w9.drew) (((w9.drew)).alloc (.cells #[.int .i64 pa.x, .int .i64 pa.y, .int .i64 pa.z, .int .i64 1] 82)) := bel_alloc (Below.refl _ _) _
                exact ⟨fun b j x hb h => (hba.cell (p := ⟨b, j, none⟩) (by show b < w9.heap.size; omega)).trans h, fun j x h => (hba.cell (p := ⟨ge, j, none⟩) hge8).trans h⟩
              · exact ⟨fun b j x hb h => (World.cell?_of_block (hkp b hb)).trans h, fun j x h => (World.cell?_of_block (hge2 ge hge8 hga).1).trans h⟩
            have n6 : w9.cell? ⟨P, 6, none⟩ = some (.slice (some ⟨gE, 0, none⟩) vs.length vs.length) := hPa.cell 6
            have e0 : w9.cell? ⟨ge, 0, none⟩ = some (.int .i64 (va : Int)) := hDa.cell 0
            have e1 : w9.cell? ⟨ge, 1, none⟩ = some (.int .i64 (vb : Int)) := hDa.cell 1
            have csv1 : w9.cell? ⟨gE, vb, none⟩ = some (sv1 vb) := (hOa.blk.cell vb).trans (svC_at sv1 hvb2)
            have x0 : w9.cell? ⟨W.heap.size, 0, none⟩ = some (.slice (some ⟨bv, ov, none⟩) vs.length k1) := (hC5.below hBa).cell 0
            have pa0 := (hBa.cell (p := ⟨bv, ov + va * 3, none⟩) lV5).trans pac0
            have pa1 := (hBa.cell (p := ⟨bv, ov + va * 3 + 1, none⟩) lV5).trans pac1
            have pa2 := (hBa.cell (p := ⟨bv, ov + va * 3 + 2, none⟩) lV5).trans pac2
            have lE := hOa.lt
            refine wp_region_monoK 19 (RK [.pointer (some ⟨P, 6, none⟩), .slice (some ⟨gE, 0, none⟩) vs.length vs.length, .pointer (some ⟨ge, 1, none⟩), .int .i64 (vb : Int), .pointer (some ⟨P, 6, none⟩), .slice (some ⟨gE, 0, none⟩) vs.length vs.length, .pointer (some ⟨ge, 1, none⟩), .int .i64 (vb : Int), .pointer (some ⟨gE, vb, none⟩), sv1 vb, .pointer (some ⟨W.heap.size, 0, none⟩), .slice (some ⟨bv, ov, none⟩) vs.length k1, .pointer (some ⟨ge, 0, none⟩), .int .i64 (va : Int), .pointer (some ⟨bv, ov + va * 3, none⟩), .agg #[.int .i64 pa.x, .int .i64 pa.y, .int .i64 pa.z], .agg #[.int .i64 pa.x, .int .i64 pa.y, .int .i64 pa.z, .int .i64 1], .slice (some ⟨(w9.drew).heap.size, 0, none⟩) 1 1, .slice Av2 nv2 cv2]) (PhJ 17 18 (w9.drew) ((w9.drew).alloc (.cells #[.int .i64 pa.x, .int .i64 pa.y, .int .i64 pa.z, .int .i64 1] 82)) z2) (by kernel_rfl) _ rfl (by kernel_rfl) (by kernel_rfl) (by kernel_rfl) (by kernel_rfl) (by kernel_rfl) ⟨by decide, by decide, fun h => by simp [Array.getD] at h, rfl⟩ ?_ ?_
            · simp only [List.take_succ_cons, List.take_zero]
              refine ⟨?_, ?_, ?_, ?_, ?_, ?_, ?_, ?_, ?_, ?_, ?_, ?_, ?_, ?_, ?_, ?_, ?_, ?_, ?_, ?_⟩
              · refine mono_read rfl (by decide) (by decide) (fun a u hu hk hp => ?_)
                have es9 := (hk 9 (keep_of (by kernel_rfl))).trans (show _ = some (.pointer (some ⟨P, 0, none⟩)) from rfl)
                exact ⟨_, by simp [execOp, go_sem, es9], rfl⟩
              · refine mono_read rfl (by decide) (by decide) (fun a u hu hk hp => ?_)
                obtain ⟨x0, ex0, rx0⟩ := hp ⟨0, .data⟩ (by simp) rfl _ _ rfl rfl
                obtain rfl : x0 = _ := rx0
                have fc0 := (hk2 u hu).1 P (6) _ lP n6
                exact ⟨_, by simp [execOp, go_sem, ex0, fc0], rfl⟩
              · refine mono_read rfl (by decide) (by decide) (fun a u hu hk hp => ?_)
                have es11 := (hk 11 (keep_of (by kernel_rfl))).trans (show _ = some (.pointer (some ⟨ge, 0, none⟩)) from rfl)
                exact ⟨_, by simp [execOp, go_sem, es11], rfl⟩
              · refine mono_read rfl (by decide) (by decide) (fun a u hu hk hp => ?_)
                obtain ⟨x2, ex2, rx2⟩ := hp ⟨2, .data⟩ (by simp) rfl _ _ rfl rfl
                obtain rfl : x2 = _ := rx2
                have fc0 := (hk2 u hu).2 (1) _ e1
                exact ⟨_, by simp [execOp, go_sem, ex2, fc0], rfl⟩
              · refine mono_read rfl (by decide) (by decide) (fun a u hu hk hp => ?_)
                have es9 := (hk 9 (keep_of (by kernel_rfl))).trans (show _ = some (.pointer (some ⟨P, 0, none⟩)) from rfl)
                exact ⟨_, by simp [execOp, go_sem, es9], rfl⟩
              · refine mono_read rfl (by decide) (by decide) (fun a u hu hk hp => ?_)
                obtain ⟨x4, ex4, rx4⟩ := hp ⟨4, .data⟩ (by simp) rfl _ _ rfl rfl
                obtain rfl : x4 = _ := rx4
                have fc0 := (hk2 u hu).1 P (6) _ lP n6
                exact ⟨_, by simp [execOp, go_sem, ex4, fc0], rfl⟩
              · refine mono_read rfl (by decide) (by decide) (fun a u hu hk hp => ?_)
                have es11 := (hk 11 (keep_of (by kernel_rfl))).trans (show _ = some (.pointer (some ⟨ge, 0, none⟩)) from rfl)
                exact ⟨_, by simp [execOp, go_sem, es11], rfl⟩
              · refine mono_read rfl (by decide) (by decide) (fun a u hu hk hp => ?_)
                obtain ⟨x6, ex6, rx6⟩ := hp ⟨6, .data⟩ (by simp) rfl _ _ rfl rfl
                obtain rfl : x6 = _ := rx6
                have fc0 := (hk2 u hu).2 (1) _ e1
                exact ⟨_, by simp [execOp, go_sem, ex6, fc0], rfl⟩
              · refine mono_read rfl (by decide) (by decide) (fun a u hu hk hp => ?_)
                obtain ⟨x5, ex5, rx5⟩ := hp ⟨5, .data⟩ (by simp) rfl _ _ rfl rfl
                obtain rfl : x5 = _ := rx5
                obtain ⟨x7, ex7, rx7⟩ := hp ⟨7, .data⟩ (by simp) rfl _ _ rfl rfl
                obtain rfl : x7 = _ := rx7
                have fc0 := qvb0
                have fc1 := qvb1
                exact ⟨_, by simp [execOp, go_sem, ex5, ex7, fc0, fc1], rfl⟩
              · refine mono_read rfl (by decide) (by decide) (fun a u hu hk hp => ?_)
                obtain ⟨x8, ex8, rx8⟩ := hp ⟨8, .data⟩ (by simp) rfl _ _ rfl rfl
                obtain rfl : x8 = _ := rx8
                have fc0 := (hk2 u hu).1 gE (vb) _ lE csv1
                exact ⟨_, by simp [execOp, go_sem, ex8, fc0], rfl⟩
              · refine mono_read rfl (by decide) (by decide) (fun a u hu hk hp => ?_)
                have es1 := (hk 1 (keep_of (by kernel_rfl))).trans (show _ = some (.pointer (some ⟨W.heap.size, 0, none⟩)) from rfl)
                exact ⟨_, by simp [execOp, go_sem, es1], rfl⟩
              · refine mono_read rfl (by decide) (by decide) (fun a u hu hk hp => ?_)
                obtain ⟨x10, ex10, rx10⟩ := hp ⟨10, .data⟩ (by simp) rfl _ _ rfl rfl
                obtain rfl : x10 = _ := rx10
                have fc0 := (hk2 u hu).1 W.heap.size (0) _ lC x0
                exact ⟨_, by simp [execOp, go_sem, ex10, fc0], rfl⟩
              · refine mono_read rfl (by decide) (by decide) (fun a u hu hk hp => ?_)
                have es11 := (hk 11 (keep_of (by kernel_rfl))).trans (show _ = some (.pointer (some ⟨ge, 0, none⟩)) from rfl)
                exact ⟨_, by simp [execOp, go_sem, es11], rfl⟩
              · refine mono_read rfl (by decide) (by decide) (fun a u hu hk hp => ?_)
                obtain ⟨x12, ex12, rx12⟩ := hp ⟨12, .data⟩ (by simp) rfl _ _ rfl rfl
                obtain rfl : x12 = _ := rx12
                have fc0 := (hk2 u hu).2 (0) _ e0
                exact ⟨_, by simp [execOp, go_sem, ex12, fc0], rfl⟩
              · refine mono_read rfl (by decide) (by decide) (fun a u hu hk hp => ?_)
                obtain ⟨x11, ex11, rx11⟩ := hp ⟨11, .data⟩ (by simp) rfl _ _ rfl rfl
                obtain rfl : x11 = _ := rx11
                obtain ⟨x13, ex13, rx13⟩ := hp ⟨13, .data⟩ (by simp) rfl _ _ rfl rfl
                obtain rfl : x13 = _ := rx13
                have fc0 := qva0
                have fc1 := qva1
                exact ⟨_, by simp [execOp, go_sem, ex11, ex13, fc0, fc1], rfl⟩
              · refine mono_read rfl (by decide) (by decide) (fun a u hu hk hp => ?_)
                obtain ⟨x14, ex14, rx14⟩ := hp ⟨14, .data⟩ (by simp) rfl _ _ rfl rfl
                obtain rfl : x14 = _ := rx14
                have fc0 := (hk2 u hu).1 bv (ov + va * 3) _ lV pa0
                have fc1 := (hk2 u hu).1 bv (ov + va * 3 + 1) _ lV pa1
                have fc2 := (hk2 u hu).1 bv (ov + va * 3 + 2) _ lV pa2
                exact ⟨_, ldmS_run _ _ _ 30 _ rfl (bv) (ov + va * 3) (eval_tmp ex14) _ _ (rng3V fc0 fc1 fc2) Try.underlying30 rfl infoV3, rfl⟩
              · refine mono_read rfl (by decide) (by decide) (fun a u hu hk hp => ?_)
                obtain ⟨x15, ex15, rx15⟩ := hp ⟨15, .data⟩ (by simp) rfl _ _ rfl rfl
                obtain rfl : x15 = _ := rx15
                exact ⟨_, by simp [execOp, go_sem, ex15], rfl⟩
              · refine mono_first rfl (by decide) (fun a hk hp => ?_)
                obtain ⟨x16, ex16, rx16⟩ := hp ⟨16, .data⟩ (by simp) rfl _ _ rfl rfl
                obtain rfl : x16 = _ := rx16
                exact ⟨_, by simp [execOp, go_sem, ex16], rfl⟩
              · refine mono_second rfl (by decide) ⟨⟨17, .data⟩, by simp, rfl, rfl⟩ (fun a hk hp => ?_)
                obtain ⟨x9, ex9, rx9⟩ := hp ⟨9, .data⟩ (by simp) rfl _ _ rfl rfl
                obtain rfl : x9 = _ := rx9
                obtain ⟨x17, ex17, rx17⟩ := hp ⟨17, .data⟩ (by simp) rfl _ _ rfl rfl
                obtain rfl : x17 = _ := rx17
                exact ⟨_, run_app _ _ _ rfl (eval_tmp ex9) (eval_tmp ex17) hr2, rfl⟩
              · trivial
            · intro a wz listed hJ hall hsz hdf hk hgot
              have hwz : z2 = wz := (phJ_end hJ (by decide) hall).symm
              clear hJ
              subst hwz
              obtain ⟨vv1, ev1, rv1⟩ := hgot 1 _ 92 rfl rfl
              obtain rfl : vv1 = _ := rv1
              obtain ⟨vv3, ev3, rv3⟩ := hgot 3 _ 94 rfl rfl
              obtain rfl : vv3 = _ := rv3
              obtain ⟨vv18, ev18, rv18⟩ := hgot 18 _ 109 rfl rfl
              obtain rfl : vv18 = _ := rv18
              obtain ⟨f, hf, rfl⟩ := frame_eq hsz hdf hk [91, 92, 93, 94, 95, 96, 97, 98, 99, 100, 101, 102, 103, 104, 105, 106, 107, 108, 109] (by rfl)
              have f92 := hf 92 _ ev1
              have f94 := hf 94 _ ev3
              have f109 := hf 109 _ ev18
              clear hsz hdf hk hgot hf hall ev1 ev3 ev18
              simp only [List.drop_succ_cons, List.drop_zero, setAll, List.setIfInBounds_toArray, List.set_cons_succ, List.set_cons_zero, f92, f94, f109]
              clear f92 f94 f109
              generalize f 91 = uu91; generalize f 93 = uu93; generalize f 95 = uu95; generalize f 96 = uu96; generalize f 97 = uu97; generalize f 98 = uu98; generalize f 99 = uu99; generalize f 100 = uu100; generalize f 101 = uu101; generalize f 102 = uu102; generalize f 103 = uu103; generalize f 104 = uu104; generalize f 105 = uu105; generalize f 106 = uu106; generalize f 107 = uu107; generalize f 108 = uu108
              have s0 : z2.cell? ⟨gE, vb, none⟩ = some (sv1 vb) := (World.cell?_of_block (hkp gE lE)).trans csv1
              have sf : z2.frozen? ⟨gE, vb, none⟩ = false := (World.frozen?_of_block (hkp gE lE)).trans (hOa.blk.frozen vb)
              have sl : gE < z2.heap.size := by have := hOa.le; have h9 : w9.heap.size ≤ z2.heap.size := hsz9; omega
              have hPb : Blk (z2.setCell ⟨gE, vb, none⟩ (.slice Av2 nv2 cv2)) P 60 _ := Blk.far ((hkp P lP).trans hPa) _ _ hne
              have hBb : Below W5.heap.size W5 (z2.setCell ⟨gE, vb, none⟩ (.slice Av2 nv2 cv2)) := bel_set (hbel W5 (by exact bel_trans hBa (bel_drew (Below.refl _ _))) (by omega)) (by exact hgE) _
              have hOb := hO2.ext (M := fun v => (N.endsK (k + 1) (v : Int)).map fun p => (p, (1 : Int))) (fun v hv => by
                show (N.endsK (k + 1) (v : Int)).map (fun p => (p, (1 : Int))) = if v = vb then L1 vb ++ [(pa, 1)] else L1 v
                rw [hO9.out v, hL1.out])
              clear hO2 hOa hDa hBa hPa hga hkp hsz9 hbel hge2 hk2 hr2 n6 e0 e1 csv1 x0 pa0 pa1 pa2 lE
              replace hOb := Lib.hid hOb
              replace hBb := Lib.hid hBb
              replace hPb := Lib.hid hPb
              go_wp2
              go_roundw
              case rel => exact ⟨k + 1, _, by go_num, by omega, hBb.out, hPb.out, hOb.out⟩
              case measure => simp [intOf]; omega
      · obtain rfl : k = es.length := by omega
        have hshl2 := hshl.out
        have hV9 := TopoV.below hV5 hBr
        have hR9 := hR5.below hBr
        have hB9 := bel_trans hB5 hBr
        have hz7 : ∀ (i : Nat) (v : Value), (#[.slice none 0 0, .slice none 0 0, .slice none 0 0, .slice none 0 0, .slice none 0 0, .slice none 0 0, .slice none 0 0] : Array Value)[i]? = some v → v = .slice none 0 0 := fun i v h => by
          have hi : i < 7 := by have := (Array.getElem?_eq_some_iff.1 h).1; simpa using this
          match i, hi with
          | 0, _ => exact (Option.some.inj h).symm
          | 1, _ => exact (Option.some.inj h).symm
          | 2, _ => exact (Option.some.inj h).symm
          | 3, _ => exact (Option.some.inj h).symm
          | 4, _ => exact (Option.some.inj h).symm
          | 5, _ => exact (Option.some.inj h).symm
          | 6, _ => exact (Option.some.inj h).symm
        have hzs : ∀ (i : Nat) (v : Value), (#[.slice none 0 0, .slice none 0 0, .slice none 0 0, .slice none 0 0, .slice none 0 0, .slice none 0 0, .slice none 0 0] : Array Value)[i]? = some v → ∃ a n c, v = .slice a n c := fun i v h => ⟨_, _, _, hz7 i v h⟩
        have hfp : ∀ x ∈ fans, 0 < x.length := fun x hx => by
          obtain ⟨v, hv, rfl⟩ := List.getElem_of_mem hx
          have h1 := hTS0.out.nf
          have h2 := hTS0.out.nr
          simp only at h1 h2
          obtain ⟨L, _, hl, e⟩ := hTS0.out.fan v hv (show v < rs.length by omega)
          have := fan_pos hTS0.out.walk (v := (v : Int)) (by omega) (by omega) hl
          simp only at e
          rw [e, List.length_map]
          exact this
        have hCK : (#[.slice B1 es.length d1, .slice B2 fans.length d2, .slice B3 rs.length d3, .slice A1 vs.length k1, .slice (some ⟨gq, 0, none⟩) fs.length fs.length, .slice (some ⟨gs, 0, none⟩) es.length es.length, .slice (some ⟨gE, 0, none⟩) vs.length vs.length] : Array Value) = netC N ⟨B1, B2, B3, A1, some ⟨gq, 0, none⟩, some ⟨gs, 0, none⟩, some ⟨gE, 0, none⟩, d1, d2, d3, k1, fs.length, es.length, vs.length⟩ := by
          rw [hN.out]
          show _ = (#[.slice B1 es.length d1, .slice B2 fans.length d2, .slice B3 rs.length d3, .slice A1 vs.length k1, .slice (some ⟨gq, 0, none⟩) fs.length fs.length, .slice (some ⟨gs, 0, none⟩) sh.length es.length, .slice (some ⟨gE, 0, none⟩) vs.length vs.length] : Array Value)
          rw [hshl2]
        have hPr2 := hPr
        rw [hCK] at hPr2
        have hG9 : wr.grownBy (wr.setRow (W.heap.size + 1) (netC N ⟨B1, B2, B3, A1, some ⟨gq, 0, none⟩, some ⟨gs, 0, none⟩, some ⟨gE, 0, none⟩, d1, d2, d3, k1, fs.length, es.length, vs.length⟩)) (some (W.heap.size + 1)) := setRow_grown _ _ _
        have hQq := (hGq.below hBr)
        have hQ9 : QL (wr.setRow (W.heap.size + 1) (netC N ⟨B1, B2, B3, A1, some ⟨gq, 0, none⟩, some ⟨gs, 0, none⟩, some ⟨gE, 0, none⟩, d1, d2, d3, k1, fs.length, es.length, vs.length⟩)) (some ⟨gq, 0, none⟩) fs := QL_of (hQq.farRow _ (fun e => hQq.ne_ hR9 (by decide) e.symm))
        have hSs := (hG5.below hBr)
        have hS9 : IL (wr.setRow (W.heap.size + 1) (netC N ⟨B1, B2, B3, A1, some ⟨gq, 0, none⟩, some ⟨gs, 0, none⟩, some ⟨gE, 0, none⟩, d1, d2, d3, k1, fs.length, es.length, vs.length⟩)) (some ⟨gs, 0, none⟩) sh := IL_of (hSs.farRow _ (fun e => hSs.ne_ hR9 (by decide) e.symm))
        have hE9 : EN (wr.setRow (W.heap.size + 1) (netC N ⟨B1, B2, B3, A1, some ⟨gq, 0, none⟩, some ⟨gs, 0, none⟩, some ⟨gE, 0, none⟩, d1, d2, d3, k1, fs.length, es.length, vs.length⟩)) (some ⟨gE, 0, none⟩) N.vs.length fun v => N.ends v := fun hn => by
          have hbE := hOr.blk.farRow (netC N ⟨B1, B2, B3, A1, some ⟨gq, 0, none⟩, some ⟨gs, 0, none⟩, some ⟨gE, 0, none⟩, d1, d2, d3, k1, fs.length, es.length, vs.length⟩) (b := W.heap.size + 1) (by have := hgE; omega)
          refine ⟨gE, 0, rfl, hbE.lt, fun v hv => ?_⟩
          have hv2 : v < vs.length := by rw [hN.out] at hv; exact hv
          have hall : N.endsK es.length (v : Int) = N.ends (v : Int) := by
            have h := NetD.endsK_all N (by rw [hN.out]; exact hshl2) (v : Int)
            rw [show N.t.es.length = es.length by rw [hN.out]] at h
            exact h
          have ho : (wr.setRow (W.heap.size + 1) (netC N ⟨B1, B2, B3, A1, some ⟨gq, 0, none⟩, some ⟨gs, 0, none⟩, some ⟨gE, 0, none⟩, d1, d2, d3, k1, fs.length, es.length, vs.length⟩)).ownsRow _ _ _ _ _ _ := (hOr.own v hv2).kept hG9 (by
            cases e : (sv v).ownBlock with
            | none => exact .inl rfl
            | some g =>
              right
              have h1 := (own_block (hOr.own v hv2) g e).1
              have h2 := h57.size
              intro e2
              cases e2
              omega)
          obtain ⟨A, cc, hf⟩ := own_form ho
          rw [hall] at ho
          rw [hf] at ho
          rw [hall] at hf
          rw [List.length_map] at hf
          refine ⟨A, cc, ?_, ?_⟩
          · rw [Nat.zero_add, hbE.cell, svC_at sv hv2, hf]
          · have ho2 : (wr.setRow (W.heap.size + 1) (netC N ⟨B1, B2, B3, A1, some ⟨gq, 0, none⟩, some ⟨gs, 0, none⟩, some ⟨gE, 0, none⟩, d1, d2, d3, k1, fs.length, es.length, vs.length⟩)).ownsRow w7.heap.size 82 4 (.slice A ((N.ends (v : Int)).map fun p => (p, (1 : Int))).length cc) ((N.ends (v : Int)).map fun p => (p, (1 : Int))).length (w4s ((N.ends (v : Int)).map fun p => (p, (1 : Int)))) := by
              simp only [hall, List.length_map] at ho ⊢
              exact ho
            exact WL_own ho2
        have hNV : NetV (wr.setRow (W.heap.size + 1) (netC N ⟨B1, B2, B3, A1, some ⟨gq, 0, none⟩, some ⟨gs, 0, none⟩, some ⟨gE, 0, none⟩, d1, d2, d3, k1, fs.length, es.length, vs.length⟩)) N ⟨B1, B2, B3, A1, some ⟨gq, 0, none⟩, some ⟨gs, 0, none⟩, some ⟨gE, 0, none⟩, d1, d2, d3, k1, fs.length, es.length, vs.length⟩ := by
          have h1 := EL.kept_slices hV9.es hG9 hR9 hzs
          have h2 := FL.kept_slices hV9.fans hG9 hR9 hz7 hfp
          have h3 := BL.kept_slices hV9.rs hG9 hR9 hzs
          have h4 := VL.kept_slices (hV.below hB9) hG9 hR9 hzs
          generalize wr.setRow (W.heap.size + 1) (netC N ⟨B1, B2, B3, A1, some ⟨gq, 0, none⟩, some ⟨gs, 0, none⟩, some ⟨gE, 0, none⟩, d1, d2, d3, k1, fs.length, es.length, vs.length⟩) = WF at *
          refine ⟨?_, ?_, ?_, ?_, ?_, ?_, hE9⟩ <;> (first | (rw [hN.out]; exact h1) | (rw [hN.out]; exact h2) | (rw [hN.out]; exact h3) | (rw [hN.out]; exact h4) | (rw [hN.out]; exact hQ9) | (rw [hN.out]; exact hS9))
        clear hOr hV9 hQ9 hS9 hE9 hV5 hGq hG5 hE7 hPr hQq hSs hCK
        replace hNV := Lib.hid hNV
        go_wp2_with (first | ((refine load_net rfl _ rfl P rfl N _ hPr2 ?_); simp only [Act.put, List.setIfInBounds_toArray, List.set_cons_succ, List.set_cons_zero]) | ((refine wpList_store_row rfl 60 _ _ rfl (W.heap.size + 1) (netC N _) rfl rfl 60 #[.slice none 0 0, .slice none 0 0, .slice none 0 0, .slice none 0 0, .slice none 0 0, .slice none 0 0, .slice none 0 0] hR9 (by kernel_rfl) rfl (by simp [netC, Value.oneCell']) ?_); simp only [Act.put, List.setIfInBounds_toArray, List.set_cons_succ, List.set_cons_zero]) | fail)
        have hRe := hR9.setRow (netC N ⟨B1, B2, B3, A1, some ⟨gq, 0, none⟩, some ⟨gs, 0, none⟩, some ⟨gE, 0, none⟩, d1, d2, d3, k1, fs.length, es.length, vs.length⟩)
        have hld := run_loadVar_row (P := Try.prog) (wr.setRow (W.heap.size + 1) (netC N ⟨B1, B2, B3, A1, some ⟨gq, 0, none⟩, some ⟨gs, 0, none⟩, some ⟨gE, 0, none⟩, d1, d2, d3, k1, fs.length, es.length, vs.length⟩)) (W.heap.size + 1) 60 60 (netC N ⟨B1, B2, B3, A1, some ⟨gq, 0, none⟩, some ⟨gs, 0, none⟩, some ⟨gE, 0, none⟩, d1, d2, d3, k1, fs.length, es.length, vs.length⟩) (0, 0) _ hRe Try.underlying60 rfl (by kernel_rfl)
        refine bodyPost_ret (v := .tuple #[.agg (netC N ⟨B1, B2, B3, A1, some ⟨gq, 0, none⟩, some ⟨gs, 0, none⟩, some ⟨gE, 0, none⟩, d1, d2, d3, k1, fs.length, es.length, vs.length⟩), .int .i64 0]) (by rw [results_cell_tmp (by rfl)]; simp [asAddr, hld, Result.andThen]) rfl ⟨N, _, rfl, bel_setRow hB9 (by omega) _, hNV.out, by rw [hN.out], by rw [hN.out], ?_, ?_⟩
        · rw [hN.out]; exact hTS0.out
        · rw [hN.out]; exact hsh.out
end Go.Proofs.Ytpdnaceggpdleab
namespace Go.Proofs.Ytpdnaceggpdleab
open Go.RowKit
set_option linter.unusedVariables false
set_option linter.unusedSimpArgs false
set_option linter.unnecessarySimpa false
theorem ways_face : ∀ (fs : List (List Int)) (k : Nat) (w : Way), w ∈ waysL k fs → ∃ (j : Nat) (h : j < fs.length), w.f = ((k + j : Nat) : Int) ∧ w ∈ waysF ((k + j : Nat) : Int) fs[j]
  | [], k, w, h => by simp [waysL] at h
  | x :: fs, k, w, h => by
    rcases List.mem_append.1 (show w ∈ waysF (k : Int) x ++ waysL (k + 1) fs from h) with h | h
    · exact ⟨0, by simp, by simpa using waysF_fc h, by simpa using h⟩
    · obtain ⟨j, hj, h1, h2⟩ := ways_face fs (k + 1) w h
      refine ⟨j + 1, by simpa using hj, by rw [h1]; congr 1; omega, ?_⟩
      rw [show ((k + (j + 1) : Nat) : Int) = ((k + 1 + j : Nat) : Int) by congr 1; omega]
      exact h2
theorem way_in {n : Int} {fs : List (List Int)} (ok : WalkOk n fs) {w : Way} (hw : w ∈ waysL 0 fs) : (0 ≤ w.f ∧ w.f < fs.length) ∧ w.a ∈ fs.getD w.f.toNat [] ∧ w.b ∈ fs.getD w.f.toNat [] := by
  obtain ⟨j, hj, h1, h2⟩ := ways_face fs 0 w hw
  rw [Nat.zero_add] at h1 h2
  have hl := ok.long _ (List.getElem_mem hj)
  have := waysF_in (by omega) h2
  rw [h1, Int.toNat_natCast, List.getD_eq_getElem?_getD, List.getElem?_eq_getElem hj]
  exact ⟨⟨by omega, by omega⟩, this.1, this.2.1⟩
theorem face_in {n : Int} {fs : List (List Int)} (ok : WalkOk n fs) {a b : Int} (h : 0 ≤ faceOf (waysL 0 fs) a b) : a ∈ fs.getD (faceOf (waysL 0 fs) a b).toNat [] ∧ b ∈ fs.getD (faceOf (waysL 0 fs) a b).toNat [] := by
  cases e : look (waysL 0 fs) a b with
  | none => rw [(faceOf_neg ok.long a b).2 e] at h; omega
  | some w =>
    obtain ⟨h1, h2, h3⟩ := look_some e
    have hf : faceOf (waysL 0 fs) a b = w.f := by unfold faceOf; rw [e]; rfl
    have := (way_in ok h1).2
    rw [hf, ← h2, ← h3]
    exact this
theorem netOk_of {c : Cg} {N : NetD} (hv : N.vs = c.vs) (hf : N.fs = c.fs) (hT : TopoS (c.vs.length : Int) c.fs N.t) (hs : sharpP N.t.es c.ks = some N.sh) (h4 : ∀ x ∈ c.fs, x.length = 4) (few : c.vs.length + c.fs.length + tot c.fs ≤ 1000000) : NetOk N := by
  have hel : N.t.es.length ≤ tot c.fs := by have h1 := edges_le hT.walk hT.edges; rw [waysL_len] at h1; exact h1
  have h1 := hT.nf
  have h2 := hT.nr
  have hns := sharpP_len hs
  refine ⟨by rw [hv]; omega, by rw [hv]; omega, hns, ?_, ?_, ?_, ?_, hT.edges.sorted, ?_, ?_, by rw [hv]; omega, by rw [hf]; omega, by omega, ?_⟩
  · rw [hf, hv]
    exact fun x hx => ⟨h4 x hx, fun y hy => hT.walk.corner_rng hx hy⟩
  · rw [hf]; exact hT.walk.nodup
  · rw [hf, hv]
    intro v hv2 f hf2
    have hvf : v < N.t.fans.length := by omega
    rw [List.getD_eq_getElem?_getD, List.getElem?_eq_getElem hvf, Option.getD_some] at hf2
    obtain ⟨L, hF, _, e⟩ := hT.fan v hvf (by omega)
    rw [e] at hf2
    obtain ⟨w, hw, rfl⟩ := List.mem_map.1 hf2
    have hal := (hF.1).1 w hw
    have := way_in hT.walk hal.1
    exact ⟨this.1, by rw [← hal.2]; exact this.2.1⟩
  · rw [hv]
    intro e he
    have := edge_rng hT he
    exact ⟨this.1, this.2.1⟩
  · intro q hq h0
    obtain ⟨i, hi, rfl⟩ := List.getElem_of_mem hq
    have hi1 : i < N.t.es.length := by rw [List.length_zip] at hi; omega
    have hi2 : i < N.sh.length := by rw [List.length_zip] at hi; omega
    rw [List.getElem_zip] at h0 ⊢
    simp only at h0 ⊢
    have hr := soft_rng hT hs i hi1 hi2 h0
    have he := edge_is (n := (c.vs.length : Int)) hT.edges (List.getElem_mem hi1)
    rw [hf]
    refine ⟨hr, ?_, ?_⟩
    · have hff : N.t.es[i].f = faceOf (waysL 0 c.fs) N.t.es[i].a N.t.es[i].b := congrArg (fun e => e.f) he
      have := face_in hT.walk (a := N.t.es[i].a) (b := N.t.es[i].b) (by rw [← hff]; exact hr.1.1)
      rw [← hff] at this
      exact this
    · have hff : N.t.es[i].g = faceOf (waysL 0 c.fs) N.t.es[i].b N.t.es[i].a := congrArg (fun e => e.g) he
      have := face_in hT.walk (a := N.t.es[i].b) (b := N.t.es[i].a) (by rw [← hff]; exact hr.2.1)
      rw [← hff] at this
      exact ⟨this.2, this.1⟩
  · rw [hf]
    intro x hx k hk
    have := corn_eix hT x hx k (by rw [h4 x hx]; exact hk)
    rw [h4 x hx] at this
    exact this
  · intro x hx
    have := (fan_rng hT hx).2
    omega
end Go.Proofs.Ytpdnaceggpdleab
