/- Package mesh: a dicer's cells; loads of its rows; where a spot is. Package mesh: where to a spot is lifted. Layer 13, in numbers: which edges are parts of sides; what the law on edges asks. Meshes, the pure side: what the laws of the layer say. Package mesh: the key of the vertex at a spot. Package mesh: the vertex at a spot, lifted. -/
import Derived.Test.YtpaehkjnefgaiaaC1
import Derived.Test.YtpaehkjnefgaiaaC4
import Derived.Test.YtpaehkjnefgaiaaC7
import Derived.Test.YtpaehkjnefgaiaaC9
import Derived.Test.YtpaehkjnefgaiaaC11
import Derived.Test.YtpaehkjnefgaiaaC12
namespace Go.Proofs.Ytpaehkjnefgaiaa
open Go.RowKit
set_option linter.unusedVariables false
set_option linter.unusedSimpArgs false
set_option linter.unnecessarySimpa false
set_option maxRecDepth 100000
/-- What a dicer in a block keeps: the patch, the cage, the number, the rates, the greatest of them, the texture's place, the height. -/
structure DcB (W : World) (g : Nat) (P : Pch) (cage id : Int) (q : Nat → Int) (M : Int) (tv : Value) (h : Int) : Prop where
  lt : g < W.heap.size
  pch : PchB W g 0 P
  cage : W.cell? ⟨g, 65, none⟩ = some (.int .i64 cage)
  id : W.cell? ⟨g, 66, none⟩ = some (.int .i64 id)
  q : ∀ k, k < 4 → W.cell? ⟨g, 67 + k, none⟩ = some (.int .i64 (q k))
  most : W.cell? ⟨g, 71, none⟩ = some (.int .i64 M)
  tex : W.cell? ⟨g, 72, none⟩ = some tv
  ht : W.cell? ⟨g, 73, none⟩ = some (.int .i64 h)
theorem DcB.below {W W' : World} {g : Nat} {P : Pch} {cage id : Int} {q : Nat → Int} {M : Int} {tv : Value} {h : Int} (d : DcB W g P cage id q M tv h) (hb : Below W.heap.size W W') : DcB W' g P cage id q M tv h :=
  ⟨Nat.lt_of_lt_of_le d.lt hb.size, d.pch.below hb, (hb.cell (p := ⟨g, _, none⟩) d.lt).trans d.cage, (hb.cell (p := ⟨g, _, none⟩) d.lt).trans d.id, fun k hk => (hb.cell (p := ⟨g, _, none⟩) d.lt).trans (d.q k hk), (hb.cell (p := ⟨g, _, none⟩) d.lt).trans d.most, (hb.cell (p := ⟨g, _, none⟩) d.lt).trans d.tex, (hb.cell (p := ⟨g, _, none⟩) d.lt).trans d.ht⟩
theorem loadR {ops : Array Oper} {rest : List Oper} {op : Oper} {a : Act} {w : World} {Q : Exit → Act → World → Prop} (hgd : op.guard = none) (ty : TypeId) (d : TypeDesc) (hu : Try.prog.underlying ty = some d) (hd : d.isRow = true) (x : Operand) (ho : op.op = .load ty x) (b off : Nat) (hx : a.eval x = .pointer (some ⟨b, off, none⟩)) (cs : Array Value) (hi : (Try.prog.info? ty).map (·.size) = some cs.toList.length) (h : w.rangeAt b off cs.toList)
    (k : wpList Try.prog ops Q rest (a.put op.dst (.agg cs)) w) : wpList Try.prog ops Q (op :: rest) a w := by
  refine wpList_load_mid hgd ty x ho b off hx cs.toList d h hu hd hi ?_
  rw [Array.toArray_toList]
  exact k
theorem quiet_loadR {ops : Array Oper} {C : World → Prop} {Q : Act → Prop} {o : Oper} {rest : List Oper} {a : Act} (hg : Region.wanted o (yielded ops a.tmps) = true) (ty : TypeId) (d : TypeDesc) (hu : Try.prog.underlying ty = some d) (hd : d.isRow = true) (x : Operand) (ho : o.op = .load ty x) (b off : Nat) (hx : a.eval x = .pointer (some ⟨b, off, none⟩)) (cs : Array Value) (hi : (Try.prog.info? ty).map (·.size) = some cs.toList.length)
    (h : ∀ u, C u → u.rangeAt b off cs.toList) (K : wpQuiet Try.prog ops C Q rest (a.put o.dst (.agg cs))) : wpQuiet Try.prog ops C Q (o :: rest) a :=
  quiet_by2 hg _ (fun u hu2 => by
    have := run_loadAt_mid (P := Try.prog) u b off ty cs.toList _ (h u hu2) hu hd hi
    unfold execOp
    simp only [ho, hx, Sem.run_bind, this, Result.andThen_ok, Sem.run_pure, Array.toArray_toList]) K
theorem loadR_run (a : Act) (o : Oper) (ty : TypeId) (d : TypeDesc) (hu : Try.prog.underlying ty = some d) (hd : d.isRow = true) (x : Operand) (ho : o.op = .load ty x) (b off : Nat) (hx : a.eval x = .pointer (some ⟨b, off, none⟩)) (cs : Array Value) (hi : (Try.prog.info? ty).map (·.size) = some cs.toList.length) (u : World) (h : u.rangeAt b off cs.toList) : (execOp a.eval o).run Try.prog u = .ok (.value (.agg cs)) u := by
  have := run_loadAt_mid (P := Try.prog) u b off ty cs.toList _ h hu hd hi
  unfold execOp
  simp only [ho, hx, Sem.run_bind, this, Result.andThen_ok, Sem.run_pure, Array.toArray_toList]
theorem gcall {P : Program} {f : FuncId} {args : Array Value} {v : Value} (h : Gives P f args v) (u : World) : Calls P f args u fun e w' => e = .returned v ∧ Below u.heap.size u w' := (h.at_ u).mono fun e w' ⟨h1, x, h2⟩ => ⟨h1, h2 ▸ x.kept u⟩
theorem size4 (p : Nat → P3) : (Try.prog.info? 26).map (·.size) = some (ptsC 4 p).toList.length := by
  rw [Array.length_toList, ptsC_size]
  kernel_rfl
theorem idx0_run (a : Act) (o : Oper) (x : Operand) (ho : o.op = .index 26 x (.const (.int .i64 0))) (p : Nat → P3) (hx : a.eval x = .agg (ptsC 4 p)) (u : World) : (execOp a.eval o).run Try.prog u = .ok (.value (.agg #[.int .i64 (p 0).x, .int .i64 (p 0).y, .int .i64 (p 0).z])) u := by
  unfold execOp
  rw [ho]
  simp only [hx]
  rw [ptsC4]
  kernel_rfl
theorem quiet_idx0 {ops : Array Oper} {C : World → Prop} {Q : Act → Prop} {o : Oper} {rest : List Oper} {a : Act} (hg : Region.wanted o (yielded ops a.tmps) = true) (x : Operand) (ho : o.op = .index 26 x (.const (.int .i64 0))) (p : Nat → P3) (hx : a.eval x = .agg (ptsC 4 p)) (K : wpQuiet Try.prog ops C Q rest (a.put o.dst (.agg #[.int .i64 (p 0).x, .int .i64 (p 0).y, .int .i64 (p 0).z]))) : wpQuiet Try.prog ops C Q (o :: rest) a :=
  quiet_by2 hg _ (fun u _ => idx0_run a o x ho p hx u) K
theorem DcB.pts {W : World} {g : Nat} {P : Pch} {cage id : Int} {q : Nat → Int} {M : Int} {tv : Value} {h : Int} (d : DcB W g P cage id q M tv h) : W.rangeAt g 0 (ptsC 16 P.pt).toList := d.pch.pts
theorem DcB.nms {W : World} {g : Nat} {P : Pch} {cage id : Int} {q : Nat → Int} {M : Int} {tv : Value} {h : Int} (d : DcB W g P cage id q M tv h) : W.rangeAt g 52 (ptsC 4 P.nm).toList := by
  have := d.pch.nms
  rwa [Nat.zero_add] at this
theorem DcB.grow {W : World} {g : Nat} {P : Pch} {cage id : Int} {q : Nat → Int} {M : Int} {tv : Value} {h : Int} (d : DcB W g P cage id q M tv h) (x : More) : DcB (Go.Proofs.Ytpaehkjnefgaiaa.grow W x) g P cage id q M tv h := d.below (x.kept W)
theorem infoVm {x y z : Value} : (Try.prog.info? 23).map (·.size) = some (#[x, y, z] : Array Value).size := by kernel_rfl
theorem putV {ops : Array Oper} {rest : List Oper} {o : Oper} {a : Act} {w : World} {Q : Exit → Act → World → Prop} (hgd : o.guard = none) (x y : Operand) (ho : o.op = .store 23 x y) (g : Nat) (r : P3) (hx : a.eval x = .pointer (some ⟨g, 0, none⟩)) (hy : a.eval y = .agg #[.int .i64 r.x, .int .i64 r.y, .int .i64 r.z]) (old : Array Value) (hs : old.size = 3) (h : Blk w g 23 old)
    (K : wpList Try.prog ops Q rest (a.put o.dst undef) (w.setRow g #[.int .i64 r.x, .int .i64 r.y, .int .i64 r.z])) : wpList Try.prog ops Q (o :: rest) a w :=
  wpList_store_row hgd 23 x y ho g _ hx hy 23 old h infoVm hs (by simp [Value.oneCell']) K
theorem getV {ops : Array Oper} {rest : List Oper} {o : Oper} {a : Act} {w : World} {Q : Exit → Act → World → Prop} (hgd : o.guard = none) (x : Operand) (ho : o.op = .load 23 x) (g : Nat) (hx : a.eval x = .pointer (some ⟨g, 0, none⟩)) (r : P3) (h : Blk w g 23 #[.int .i64 r.x, .int .i64 r.y, .int .i64 r.z])
    (K : wpList Try.prog ops Q rest (a.put o.dst (.agg #[.int .i64 r.x, .int .i64 r.y, .int .i64 r.z])) w) : wpList Try.prog ops Q (o :: rest) a w :=
  wpList_load_row hgd 23 x ho g hx 23 _ (0, 0) _ h Try.underlying23 rfl infoVm K
set_option maxHeartbeats 2000000 in
theorem point_cor (W : World) (g : Nat) (P : Pch) (cage id : Int) (q : Nat → Int) (M : Int) (tv : Value) (h : Int) (hD : DcB W g P cage id q M tv h) (k : Nat) (hk : k < 4) :
    Calls Try.prog 69 #[.pointer (some ⟨g, 0, none⟩), .agg #[.int .i64 1, .int .i64 (k : Int), .int .i64 0]] W fun e w' => e = .returned (.agg #[.int .i64 (rowF P.pt (k : Int) 0).x, .int .i64 (rowF P.pt (k : Int) 0).y, .int .i64 (rowF P.pt (k : Int) 0).z]) ∧ Below W.heap.size W w' := by
  have kR := vRow_any P.pt (k : Int)
  generalize hrow : rowF P.pt (k : Int) = rw0 at *
  replace hrow := Lib.hid hrow
  obtain ⟨W0, hW0⟩ : ∃ W0, W0 = (((W.alloc (.cells #[.int .i64 1, .int .i64 (k:Int), .int .i64 0] 79)).alloc (.cells #[.int .i64 0, .int .i64 0, .int .i64 0] 23)).alloc (.cells #[.int .i64 0, .int .i64 0, .int .i64 0] 23)) := ⟨_, rfl⟩
  have hb0 : Below W.heap.size W W0 := by rw [hW0]; exact bel_alloc (bel_alloc (bel_alloc (Below.refl _ _) _) _) _
  have hS : Blk W0 (W.heap.size) 79 #[.int .i64 1, .int .i64 (k:Int), .int .i64 0] := by rw [hW0]; exact (((Blk.new _ _ _ _ rfl).alloc _).alloc _)
  have hR : Blk W0 (W.heap.size + 1) 23 #[.int .i64 0, .int .i64 0, .int .i64 0] := by rw [hW0]; exact ((Blk.new _ _ _ _ (by simp)).alloc _)
  have hL : Blk W0 (W.heap.size + 1 + 1) 23 #[.int .i64 0, .int .i64 0, .int .i64 0] := by rw [hW0]; exact (Blk.new _ _ _ _ (by simp))
  have hDW := hD
  replace hD := hD.below hb0
  go_enter Try.func69, Try.ntmps69
  go_upto_region 5 with (fail)
  simp only [← hW0]
  clear hW0
  obtain ⟨sb, hsb⟩ : ∃ b, b = W.heap.size := ⟨_, rfl⟩
  rw [← hsb] at hS hR hL
  simp only [← hsb]
  have hsW : W.heap.size ≤ sb := by omega
  replace hsb := Lib.hid hsb
  have hSl := hS.lt
  have hRl := hR.lt
  have hLl := hL.lt
  have hSc0 := hS.cell 0
  have hSc1 := hS.cell 1
  have hSc2 := hS.cell 2
  have gl := hD.lt
  refine wp_region_tail 9 ?_ (by kernel_rfl) (by kernel_rfl) (by kernel_rfl) (fun x => ?_) (fun x => ?_)
  rotate_left
  · simp only [List.take_succ_cons, List.take_zero]
    repeat (first | (refine quiet_loadR rfl 24 _ Try.underlying24 rfl _ rfl g 0 rfl (ptsC 16 P.pt) (size16 P.pt) (fun u hu => by obtain ⟨y, rfl⟩ := hu; exact ((hD.below (x.kept _)).below (y.kept _)).pts) ?_; simp only [Act.put, List.setIfInBounds_toArray, List.set_cons_succ, List.set_cons_zero]) | (refine quiet_idx0 rfl _ rfl rw0 rfl ?_; simp only [Act.put, List.setIfInBounds_toArray, List.set_cons_succ, List.set_cons_zero]) | go_big_quiet_step (((first | with_reducible exact kR.quiet _ | with_reducible exact kR.quiet2 _ _))))
    refine wpQuiet_nil ?_
    exact rfl
  simp only [List.drop_succ_cons, List.drop_zero]
  try simp only [Act.put, List.setIfInBounds_toArray, List.set_cons_succ, List.set_cons_zero]
  have hx := bel_grow hb0 x
  have hL2 := hL.grow x
  have hR2 := hR.grow x
  replace hD := hD.grow x
  clear hb0 hL hR hLl hRl
  generalize grow W0 x = W1 at *
  have hL3 : Blk (W1.setRow (sb + 1 + 1) #[.int .i64 (rw0 0).x, .int .i64 (rw0 0).y, .int .i64 (rw0 0).z]) (sb + 1 + 1) 23 #[.int .i64 (rw0 0).x, .int .i64 (rw0 0).y, .int .i64 (rw0 0).z] := hL2.setRow _
  have hR3 : Blk (W1.setRow (sb + 1 + 1) #[.int .i64 (rw0 0).x, .int .i64 (rw0 0).y, .int .i64 (rw0 0).z]) (sb + 1) 23 #[.int .i64 0, .int .i64 0, .int .i64 0] := hR2.farRow _ (by omega)
  have hx3 : Below W.heap.size W (W1.setRow (sb + 1 + 1) #[.int .i64 (rw0 0).x, .int .i64 (rw0 0).y, .int .i64 (rw0 0).z]) := bel_setRow hx (by omega) _
  clear hD hS hSc0 hSc1 hSc2
  go_wp2_with (first | (refine putV rfl _ _ rfl (sb + 1 + 1) (rw0 0) rfl rfl _ rfl hL2 ?_; simp only [Act.put, List.setIfInBounds_toArray, List.set_cons_succ, List.set_cons_zero]) | (refine getV rfl _ rfl (sb + 1 + 1) rfl (rw0 0) hL3 ?_; simp only [Act.put, List.setIfInBounds_toArray, List.set_cons_succ, List.set_cons_zero]) | (refine putV rfl _ _ rfl (sb + 1) (rw0 0) rfl rfl _ rfl hR3 ?_; simp only [Act.put, List.setIfInBounds_toArray, List.set_cons_succ, List.set_cons_zero]) | fail)
  exact bodyPost_ret (results_cell_row rfl _ _ (sb + 1) 23 #[.int .i64 (rw0 0).x, .int .i64 (rw0 0).y, .int .i64 (rw0 0).z] (0, 0) _ rfl (hR3.setRow _) Try.underlying23 rfl infoVm) rfl ⟨rfl, bel_setRow hx3 (by omega) _⟩
set_option maxHeartbeats 2000000 in
theorem point_edg (W : World) (g : Nat) (P : Pch) (cage id : Int) (q : Nat → Int) (M : Int) (tv : Value) (h : Int) (hD : DcB W g P cage id q M tv h) (k i : Nat) (hk4 : k < 4) :
    Calls Try.prog 69 #[.pointer (some ⟨g, 0, none⟩), .agg #[.int .i64 2, .int .i64 (k : Int), .int .i64 (i : Int)]] W fun e w' => e = .returned (.agg #[.int .i64 (cubP (rowF P.pt (k : Int)) (i : Int) (q k)).x, .int .i64 (cubP (rowF P.pt (k : Int)) (i : Int) (q k)).y, .int .i64 (cubP (rowF P.pt (k : Int)) (i : Int) (q k)).z]) ∧ Below W.heap.size W w' := by
  have kR := vRow_any P.pt (k : Int)
  have kC := cub_any (rowF P.pt (k : Int)) (i : Int) (q k)
  generalize rowF P.pt (k : Int) = rw0 at *
  generalize cubP rw0 (i : Int) (q k) = r at *
  generalize cubK rw0 (i : Int) (q k) = b at *
  obtain ⟨W0, hW0⟩ : ∃ W0, W0 = (((W.alloc (.cells #[.int .i64 2, .int .i64 (k:Int), .int .i64 (i:Int)] 79)).alloc (.cells #[.int .i64 0, .int .i64 0, .int .i64 0] 23)).alloc (.cells #[.int .i64 0, .int .i64 0, .int .i64 0] 23)) := ⟨_, rfl⟩
  have hb0 : Below W.heap.size W W0 := by rw [hW0]; exact bel_alloc (bel_alloc (bel_alloc (Below.refl _ _) _) _) _
  have hS : Blk W0 (W.heap.size) 79 #[.int .i64 2, .int .i64 (k:Int), .int .i64 (i:Int)] := by rw [hW0]; exact (((Blk.new _ _ _ _ rfl).alloc _).alloc _)
  have hR : Blk W0 (W.heap.size + 1) 23 #[.int .i64 0, .int .i64 0, .int .i64 0] := by rw [hW0]; exact ((Blk.new _ _ _ _ (by simp)).alloc _)
  have hL : Blk W0 (W.heap.size + 1 + 1) 23 #[.int .i64 0, .int .i64 0, .int .i64 0] := by rw [hW0]; exact (Blk.new _ _ _ _ (by simp))
  have hDW := hD
  replace hD := hD.below hb0
  go_enter Try.func69, Try.ntmps69
  go_upto_region 7 with (fail)
  simp only [← hW0]
  clear hW0
  obtain ⟨sb, hsb⟩ : ∃ b, b = W.heap.size := ⟨_, rfl⟩
  rw [← hsb] at hS hR hL
  simp only [← hsb]
  have hsW : W.heap.size ≤ sb := by omega
  replace hsb := Lib.hid hsb
  have hSl := hS.lt
  have hRl := hR.lt
  have hLl := hL.lt
  have hSc0 := hS.cell 0
  have hSc1 := hS.cell 1
  have hSc2 := hS.cell 2
  have gl := hD.lt
  have q0 : (0 : Int) ≤ (k : Int) := by omega
  have q1 : (k : Int) < 4 := by omega
  refine wp_region_monoK2 22 (RKW [.pointer (some ⟨g, 0, none⟩), .pointer (some ⟨g, 0, none⟩), .pointer (some ⟨g, 0, none⟩), .pointer (some ⟨g, 0, none⟩), .agg (ptsC 16 P.pt), .pointer (some ⟨sb, 1, none⟩), .int .i64 (k : Int), .agg (ptsC 4 rw0), .pointer (some ⟨sb, 2, none⟩), .int .i64 (i : Int), .pointer (some ⟨g, 0, none⟩), .pointer (some ⟨sb, 1, none⟩), .int .i64 (k : Int), .pointer (some ⟨g, 0, none⟩), .pointer (some ⟨g, 67, none⟩), .pointer (some ⟨g, 67 + k, none⟩), .int .i64 (q k), .tuple #[.agg #[.int .i64 r.x, .int .i64 r.y, .int .i64 r.z], .bool b], .tuple #[.agg #[.int .i64 r.x, .int .i64 r.y, .int .i64 r.z], .bool b], .agg #[.int .i64 r.x, .int .i64 r.y, .int .i64 r.z], .bool b, .int .i64 0]) (JK (fun u => Below W.heap.size W u ∧ Blk u sb 79 #[.int .i64 2, .int .i64 (k : Int), .int .i64 (i : Int)] ∧ Blk u (sb + 1) 23 #[.int .i64 0, .int .i64 0, .int .i64 0]) 21 (fun u => Blk u (sb + 1 + 1) 23 #[.int .i64 0, .int .i64 0, .int .i64 0]) (fun u => Blk u (sb + 1 + 1) 23 #[.int .i64 r.x, .int .i64 r.y, .int .i64 r.z])) (by kernel_rfl) _ rfl (by kernel_rfl) (by kernel_rfl) (by kernel_rfl) (by kernel_rfl) (by kernel_rfl) (jk_start (by decide) (⟨bel_dr hb0 _, hS, hR⟩) (hL)) ?_ ?_
  · simp only [List.take_succ_cons, List.take_zero]
    refine ⟨?_, ?_, ?_, ?_, ?_, ?_, ?_, ?_, ?_, ?_, ?_, ?_, ?_, ?_, ?_, ?_, ?_, ?_, ?_, ?_, ?_, ?_, ?_⟩
    · refine jk_val rfl (by decide) (fun a u hF hk hp => ?_)
      have es0 := (hk 0 (keep_of (by kernel_rfl))).trans (show _ = some (.pointer (some ⟨g, 0, none⟩)) from rfl)
      exact ⟨_, by simp [execOp, go_sem, es0], rfl⟩
    · refine jk_val rfl (by decide) (fun a u hF hk hp => ?_)
      obtain ⟨x0, ex0, rx0⟩ := hp ⟨0, .data⟩ (by simp) rfl _ _ rfl rfl
      obtain rfl : x0 = _ := rx0
      exact ⟨_, by simp [execOp, go_sem, ex0], rfl⟩
    · refine jk_val rfl (by decide) (fun a u hF hk hp => ?_)
      obtain ⟨x1, ex1, rx1⟩ := hp ⟨1, .data⟩ (by simp) rfl _ _ rfl rfl
      obtain rfl : x1 = _ := rx1
      exact ⟨_, by simp [execOp, go_sem, ex1], rfl⟩
    · refine jk_val rfl (by decide) (fun a u hF hk hp => ?_)
      obtain ⟨x2, ex2, rx2⟩ := hp ⟨2, .data⟩ (by simp) rfl _ _ rfl rfl
      obtain rfl : x2 = _ := rx2
      exact ⟨_, by simp [execOp, go_sem, ex2], rfl⟩
    · refine jk_val rfl (by decide) (fun a u hF hk hp => ?_)
      obtain ⟨x3, ex3, rx3⟩ := hp ⟨3, .data⟩ (by simp) rfl _ _ rfl rfl
      obtain rfl : x3 = _ := rx3
      exact ⟨.agg (ptsC 16 P.pt), loadR_run _ _ 24 _ Try.underlying24 rfl _ rfl g 0 (eval_tmp ex3) (ptsC 16 P.pt) (size16 P.pt) u ((hDW.below hF.1).pts), rfl⟩
    · refine jk_val rfl (by decide) (fun a u hF hk hp => ?_)
      have es3 := (hk 3 (keep_of (by kernel_rfl))).trans (show _ = some (.pointer (some ⟨sb, 0, none⟩)) from rfl)
      exact ⟨_, by simp [execOp, go_sem, es3], rfl⟩
    · refine jk_val rfl (by decide) (fun a u hF hk hp => ?_)
      obtain ⟨x5, ex5, rx5⟩ := hp ⟨5, .data⟩ (by simp) rfl _ _ rfl rfl
      obtain rfl : x5 = _ := rx5
      have fc0 := hF.2.1.cell 1
      exact ⟨_, by simp [execOp, go_sem, ex5, fc0], rfl⟩
    · refine jk_call rfl (by decide) (grows_and (grows_bel _) (grows_and (grows_blk _ _ _) (grows_blk _ _ _))) (grows_blk _ _ _) (grows_blk _ _ _) (fun a u hF hk hp => ?_)
      obtain ⟨x4, ex4, rx4⟩ := hp ⟨4, .data⟩ (by simp) rfl _ _ rfl rfl
      obtain rfl : x4 = _ := rx4
      obtain ⟨x6, ex6, rx6⟩ := hp ⟨6, .data⟩ (by simp) rfl _ _ rfl rfl
      obtain rfl : x6 = _ := rx6
      exact ⟨42, #[.agg (ptsC 16 P.pt), .int .i64 (k : Int)], _, by simp [execOp, go_sem, ex4, ex6], gcall kR u, rfl⟩
    · refine jk_val rfl (by decide) (fun a u hF hk hp => ?_)
      have es3 := (hk 3 (keep_of (by kernel_rfl))).trans (show _ = some (.pointer (some ⟨sb, 0, none⟩)) from rfl)
      exact ⟨_, by simp [execOp, go_sem, es3], rfl⟩
    · refine jk_val rfl (by decide) (fun a u hF hk hp => ?_)
      obtain ⟨x8, ex8, rx8⟩ := hp ⟨8, .data⟩ (by simp) rfl _ _ rfl rfl
      obtain rfl : x8 = _ := rx8
      have fc0 := hF.2.1.cell 2
      exact ⟨_, by simp [execOp, go_sem, ex8, fc0], rfl⟩
    · refine jk_val rfl (by decide) (fun a u hF hk hp => ?_)
      have es0 := (hk 0 (keep_of (by kernel_rfl))).trans (show _ = some (.pointer (some ⟨g, 0, none⟩)) from rfl)
      exact ⟨_, by simp [execOp, go_sem, es0], rfl⟩
    · refine jk_val rfl (by decide) (fun a u hF hk hp => ?_)
      have es3 := (hk 3 (keep_of (by kernel_rfl))).trans (show _ = some (.pointer (some ⟨sb, 0, none⟩)) from rfl)
      exact ⟨_, by simp [execOp, go_sem, es3], rfl⟩
    · refine jk_val rfl (by decide) (fun a u hF hk hp => ?_)
      obtain ⟨x11, ex11, rx11⟩ := hp ⟨11, .data⟩ (by simp) rfl _ _ rfl rfl
      obtain rfl : x11 = _ := rx11
      have fc0 := hF.2.1.cell 1
      exact ⟨_, by simp [execOp, go_sem, ex11, fc0], rfl⟩
    · refine jk_val rfl (by decide) (fun a u hF hk hp => ?_)
      obtain ⟨x10, ex10, rx10⟩ := hp ⟨10, .data⟩ (by simp) rfl _ _ rfl rfl
      obtain rfl : x10 = _ := rx10
      exact ⟨_, by simp [execOp, go_sem, ex10], rfl⟩
    · refine jk_val rfl (by decide) (fun a u hF hk hp => ?_)
      obtain ⟨x13, ex13, rx13⟩ := hp ⟨13, .data⟩ (by simp) rfl _ _ rfl rfl
      obtain rfl : x13 = _ := rx13
      exact ⟨_, by simp [execOp, go_sem, ex13], rfl⟩
    · refine jk_val rfl (by decide) (fun a u hF hk hp => ?_)
      obtain ⟨x14, ex14, rx14⟩ := hp ⟨14, .data⟩ (by simp) rfl _ _ rfl rfl
      obtain rfl : x14 = _ := rx14
      obtain ⟨x12, ex12, rx12⟩ := hp ⟨12, .data⟩ (by simp) rfl _ _ rfl rfl
      obtain rfl : x12 = _ := rx12
      have fc0 := q0
      have fc1 := q1
      exact ⟨_, by simp [execOp, go_sem, ex14, ex12, fc0, fc1], rfl⟩
    · refine jk_val rfl (by decide) (fun a u hF hk hp => ?_)
      obtain ⟨x15, ex15, rx15⟩ := hp ⟨15, .data⟩ (by simp) rfl _ _ rfl rfl
      obtain rfl : x15 = _ := rx15
      have fc0 := (hDW.below hF.1).q k hk4
      exact ⟨_, by simp [execOp, go_sem, ex15, fc0], rfl⟩
    · refine jk_call rfl (by decide) (grows_and (grows_bel _) (grows_and (grows_blk _ _ _) (grows_blk _ _ _))) (grows_blk _ _ _) (grows_blk _ _ _) (fun a u hF hk hp => ?_)
      obtain ⟨x7, ex7, rx7⟩ := hp ⟨7, .data⟩ (by simp) rfl _ _ rfl rfl
      obtain rfl : x7 = _ := rx7
      obtain ⟨x9, ex9, rx9⟩ := hp ⟨9, .data⟩ (by simp) rfl _ _ rfl rfl
      obtain rfl : x9 = _ := rx9
      obtain ⟨x16, ex16, rx16⟩ := hp ⟨16, .data⟩ (by simp) rfl _ _ rfl rfl
      obtain rfl : x16 = _ := rx16
      exact ⟨83, #[.agg (ptsC 4 rw0), .int .i64 (i : Int), .int .i64 (q k)], _, by simp [execOp, go_sem, ex7, ex9, ex16], gcall kC u, rfl⟩
    · refine jk_val rfl (by decide) (fun a u hF hk hp => ?_)
      obtain ⟨x17, ex17, rx17⟩ := hp ⟨17, .data⟩ (by simp) rfl _ _ rfl rfl
      obtain rfl : x17 = _ := rx17
      exact ⟨_, by simp [execOp, go_sem, ex17], rfl⟩
    · refine jk_val rfl (by decide) (fun a u hF hk hp => ?_)
      obtain ⟨x18, ex18, rx18⟩ := hp ⟨18, .data⟩ (by simp) rfl _ _ rfl rfl
      obtain rfl : x18 = _ := rx18
      exact ⟨_, by simp [execOp, go_sem, ex18], rfl⟩
    · refine jk_val rfl (by decide) (fun a u hF hk hp => ?_)
      obtain ⟨x18, ex18, rx18⟩ := hp ⟨18, .data⟩ (by simp) rfl _ _ rfl rfl
      obtain rfl : x18 = _ := rx18
      exact ⟨_, by simp [execOp, go_sem, ex18], rfl⟩
    · refine jk_store rfl rfl (fun a u hF hA hk hp => ?_)
      have es5 := (hk 5 (keep_of (by kernel_rfl))).trans (show _ = some (.pointer (some ⟨sb + 1 + 1, 0, none⟩)) from rfl)
      obtain ⟨x19, ex19, rx19⟩ := hp ⟨19, .data⟩ (by simp) rfl _ _ rfl rfl
      obtain rfl : x19 = _ := rx19
      exact wp_store_row 23 _ _ rfl (sb + 1 + 1) _ (eval_tmp es5) (eval_tmp ex19) 23 _ hA infoVm rfl (by simp [Value.oneCell']) ⟨_, rfl, ⟨bel_setRow hF.1 (by omega) _, hF.2.1.farRow _ (by omega), hF.2.2.farRow _ (by omega)⟩, hA.setRow _⟩
    · trivial
  · intro a W1 listed hJ hall hsz hdf hk hgot
    obtain ⟨hF, hB⟩ := jk_end hJ (by decide : 21 < 22) hall
    clear hJ hall
    obtain ⟨f, hf, rfl⟩ := frame_eq hsz hdf hk [43, 44, 45, 46, 47, 48, 49, 50, 51, 52, 53, 54, 55, 56, 57, 58, 59, 60, 42, 61, 62] (by rfl)
    clear hsz hdf hk hgot hf 
    simp only [List.drop_succ_cons, List.drop_zero, setAll, List.setIfInBounds_toArray, List.set_cons_succ, List.set_cons_zero]
    generalize f 43 = uu43; generalize f 44 = uu44; generalize f 45 = uu45; generalize f 46 = uu46; generalize f 47 = uu47; generalize f 48 = uu48; generalize f 49 = uu49; generalize f 50 = uu50; generalize f 51 = uu51; generalize f 52 = uu52; generalize f 53 = uu53; generalize f 54 = uu54; generalize f 55 = uu55; generalize f 56 = uu56; generalize f 57 = uu57; generalize f 58 = uu58; generalize f 59 = uu59; generalize f 60 = uu60; generalize f 42 = uu42; generalize f 61 = uu61; generalize f 62 = uu62
    obtain ⟨hx, _, hR3⟩ := hF
    replace hB : Blk W1 (sb + 1 + 1) 23 #[.int .i64 r.x, .int .i64 r.y, .int .i64 r.z] := hB
    clear hD hS hSc0 hSc1 hSc2 hSl hRl hLl hL hR hb0 f
    go_wp2_with (first | (refine getV rfl _ rfl (sb + 1 + 1) rfl r hB ?_; simp only [Act.put, List.setIfInBounds_toArray, List.set_cons_succ, List.set_cons_zero]) | (refine putV rfl _ _ rfl (sb + 1) r rfl rfl _ rfl hR3 ?_; simp only [Act.put, List.setIfInBounds_toArray, List.set_cons_succ, List.set_cons_zero]) | fail)
    exact bodyPost_ret (results_cell_row rfl _ _ (sb + 1) 23 #[.int .i64 r.x, .int .i64 r.y, .int .i64 r.z] (0, 0) _ rfl (hR3.setRow _) Try.underlying23 rfl infoVm) rfl ⟨rfl, bel_setRow hx (by omega) _⟩
set_option maxHeartbeats 2000000 in
theorem point_inn (W : World) (g : Nat) (P : Pch) (cage id : Int) (q : Nat → Int) (M : Int) (tv : Value) (h : Int) (hD : DcB W g P cage id q M tv h) (i j : Nat) :
    Calls Try.prog 69 #[.pointer (some ⟨g, 0, none⟩), .agg #[.int .i64 3, .int .i64 (i : Int), .int .i64 (j : Int)]] W fun e w' => e = .returned (.agg #[.int .i64 (ptP P.pt (i : Int) M (j : Int) M).x, .int .i64 (ptP P.pt (i : Int) M (j : Int) M).y, .int .i64 (ptP P.pt (i : Int) M (j : Int) M).z]) ∧ Below W.heap.size W w' := by
  have kC := pt_any P.pt (i : Int) M (j : Int) M
  generalize ptP P.pt (i : Int) M (j : Int) M = r at *
  generalize ptK P.pt (i : Int) M (j : Int) M = b at *
  obtain ⟨W0, hW0⟩ : ∃ W0, W0 = (((W.alloc (.cells #[.int .i64 3, .int .i64 (i:Int), .int .i64 (j:Int)] 79)).alloc (.cells #[.int .i64 0, .int .i64 0, .int .i64 0] 23)).alloc (.cells #[.int .i64 0, .int .i64 0, .int .i64 0] 23)) := ⟨_, rfl⟩
  have hb0 : Below W.heap.size W W0 := by rw [hW0]; exact bel_alloc (bel_alloc (bel_alloc (Below.refl _ _) _) _) _
  have hS : Blk W0 (W.heap.size) 79 #[.int .i64 3, .int .i64 (i:Int), .int .i64 (j:Int)] := by rw [hW0]; exact (((Blk.new _ _ _ _ rfl).alloc _).alloc _)
  have hR : Blk W0 (W.heap.size + 1) 23 #[.int .i64 0, .int .i64 0, .int .i64 0] := by rw [hW0]; exact ((Blk.new _ _ _ _ (by simp)).alloc _)
  have hL : Blk W0 (W.heap.size + 1 + 1) 23 #[.int .i64 0, .int .i64 0, .int .i64 0] := by rw [hW0]; exact (Blk.new _ _ _ _ (by simp))
  have hDW := hD
  replace hD := hD.below hb0
  go_enter Try.func69, Try.ntmps69
  go_upto_region 3 with (fail)
  simp only [← hW0]
  clear hW0
  obtain ⟨sb, hsb⟩ : ∃ b, b = W.heap.size := ⟨_, rfl⟩
  rw [← hsb] at hS hR hL
  simp only [← hsb]
  have hsW : W.heap.size ≤ sb := by omega
  replace hsb := Lib.hid hsb
  have hSl := hS.lt
  have hRl := hR.lt
  have hLl := hL.lt
  have hSc0 := hS.cell 0
  have hSc1 := hS.cell 1
  have hSc2 := hS.cell 2
  refine wp_region_monoK2 22 (RKW [.pointer (some ⟨g, 0, none⟩), .pointer (some ⟨g, 0, none⟩), .pointer (some ⟨g, 0, none⟩), .pointer (some ⟨g, 0, none⟩), .agg (ptsC 16 P.pt), .pointer (some ⟨sb, 1, none⟩), .int .i64 (i : Int), .pointer (some ⟨g, 0, none⟩), .pointer (some ⟨g, 0, none⟩), .pointer (some ⟨g, 71, none⟩), .int .i64 M, .pointer (some ⟨sb, 2, none⟩), .int .i64 (j : Int), .pointer (some ⟨g, 0, none⟩), .pointer (some ⟨g, 0, none⟩), .pointer (some ⟨g, 71, none⟩), .int .i64 M, .tuple #[.agg #[.int .i64 r.x, .int .i64 r.y, .int .i64 r.z], .bool b], .tuple #[.agg #[.int .i64 r.x, .int .i64 r.y, .int .i64 r.z], .bool b], .agg #[.int .i64 r.x, .int .i64 r.y, .int .i64 r.z], .bool b, .int .i64 0]) (JK (fun u => Below W.heap.size W u ∧ Blk u sb 79 #[.int .i64 3, .int .i64 (i : Int), .int .i64 (j : Int)] ∧ Blk u (sb + 1) 23 #[.int .i64 0, .int .i64 0, .int .i64 0]) 21 (fun u => Blk u (sb + 1 + 1) 23 #[.int .i64 0, .int .i64 0, .int .i64 0]) (fun u => Blk u (sb + 1 + 1) 23 #[.int .i64 r.x, .int .i64 r.y, .int .i64 r.z])) (by kernel_rfl) _ rfl (by kernel_rfl) (by kernel_rfl) (by kernel_rfl) (by kernel_rfl) (by kernel_rfl) (jk_start (by decide) (⟨bel_dr hb0 _, hS, hR⟩) (hL)) ?_ ?_
  · simp only [List.take_succ_cons, List.take_zero]
    refine ⟨?_, ?_, ?_, ?_, ?_, ?_, ?_, ?_, ?_, ?_, ?_, ?_, ?_, ?_, ?_, ?_, ?_, ?_, ?_, ?_, ?_, ?_, ?_⟩
    · refine jk_val rfl (by decide) (fun a u hF hk hp => ?_)
      have es0 := (hk 0 (keep_of (by kernel_rfl))).trans (show _ = some (.pointer (some ⟨g, 0, none⟩)) from rfl)
      exact ⟨_, by simp [execOp, go_sem, es0], rfl⟩
    · refine jk_val rfl (by decide) (fun a u hF hk hp => ?_)
      obtain ⟨x0, ex0, rx0⟩ := hp ⟨0, .data⟩ (by simp) rfl _ _ rfl rfl
      obtain rfl : x0 = _ := rx0
      exact ⟨_, by simp [execOp, go_sem, ex0], rfl⟩
    · refine jk_val rfl (by decide) (fun a u hF hk hp => ?_)
      obtain ⟨x1, ex1, rx1⟩ := hp ⟨1, .data⟩ (by simp) rfl _ _ rfl rfl
      obtain rfl : x1 = _ := rx1
      exact ⟨_, by simp [execOp, go_sem, ex1], rfl⟩
    · refine jk_val rfl (by decide) (fun a u hF hk hp => ?_)
      obtain ⟨x2, ex2, rx2⟩ := hp ⟨2, .data⟩ (by simp) rfl _ _ rfl rfl
      obtain rfl : x2 = _ := rx2
      exact ⟨_, by simp [execOp, go_sem, ex2], rfl⟩
    · refine jk_val rfl (by decide) (fun a u hF hk hp => ?_)
      obtain ⟨x3, ex3, rx3⟩ := hp ⟨3, .data⟩ (by simp) rfl _ _ rfl rfl
      obtain rfl : x3 = _ := rx3
      exact ⟨.agg (ptsC 16 P.pt), loadR_run _ _ 24 _ Try.underlying24 rfl _ rfl g 0 (eval_tmp ex3) (ptsC 16 P.pt) (size16 P.pt) u ((hDW.below hF.1).pts), rfl⟩
    · refine jk_val rfl (by decide) (fun a u hF hk hp => ?_)
      have es3 := (hk 3 (keep_of (by kernel_rfl))).trans (show _ = some (.pointer (some ⟨sb, 0, none⟩)) from rfl)
      exact ⟨_, by simp [execOp, go_sem, es3], rfl⟩
    · refine jk_val rfl (by decide) (fun a u hF hk hp => ?_)
      obtain ⟨x5, ex5, rx5⟩ := hp ⟨5, .data⟩ (by simp) rfl _ _ rfl rfl
      obtain rfl : x5 = _ := rx5
      have fc0 := hF.2.1.cell 1
      exact ⟨_, by simp [execOp, go_sem, ex5, fc0], rfl⟩
    · refine jk_val rfl (by decide) (fun a u hF hk hp => ?_)
      have es0 := (hk 0 (keep_of (by kernel_rfl))).trans (show _ = some (.pointer (some ⟨g, 0, none⟩)) from rfl)
      exact ⟨_, by simp [execOp, go_sem, es0], rfl⟩
    · refine jk_val rfl (by decide) (fun a u hF hk hp => ?_)
      obtain ⟨x7, ex7, rx7⟩ := hp ⟨7, .data⟩ (by simp) rfl _ _ rfl rfl
      obtain rfl : x7 = _ := rx7
      exact ⟨_, by simp [execOp, go_sem, ex7], rfl⟩
    · refine jk_val rfl (by decide) (fun a u hF hk hp => ?_)
      obtain ⟨x8, ex8, rx8⟩ := hp ⟨8, .data⟩ (by simp) rfl _ _ rfl rfl
      obtain rfl : x8 = _ := rx8
      exact ⟨_, by simp [execOp, go_sem, ex8], rfl⟩
    · refine jk_val rfl (by decide) (fun a u hF hk hp => ?_)
      obtain ⟨x9, ex9, rx9⟩ := hp ⟨9, .data⟩ (by simp) rfl _ _ rfl rfl
      obtain rfl : x9 = _ := rx9
      have fc0 := (hDW.below hF.1).most
      exact ⟨_, by simp [execOp, go_sem, ex9, fc0], rfl⟩
    · refine jk_val rfl (by decide) (fun a u hF hk hp => ?_)
      have es3 := (hk 3 (keep_of (by kernel_rfl))).trans (show _ = some (.pointer (some ⟨sb, 0, none⟩)) from rfl)
      exact ⟨_, by simp [execOp, go_sem, es3], rfl⟩
    · refine jk_val rfl (by decide) (fun a u hF hk hp => ?_)
      obtain ⟨x11, ex11, rx11⟩ := hp ⟨11, .data⟩ (by simp) rfl _ _ rfl rfl
      obtain rfl : x11 = _ := rx11
      have fc0 := hF.2.1.cell 2
      exact ⟨_, by simp [execOp, go_sem, ex11, fc0], rfl⟩
    · refine jk_val rfl (by decide) (fun a u hF hk hp => ?_)
      have es0 := (hk 0 (keep_of (by kernel_rfl))).trans (show _ = some (.pointer (some ⟨g, 0, none⟩)) from rfl)
      exact ⟨_, by simp [execOp, go_sem, es0], rfl⟩
    · refine jk_val rfl (by decide) (fun a u hF hk hp => ?_)
      obtain ⟨x13, ex13, rx13⟩ := hp ⟨13, .data⟩ (by simp) rfl _ _ rfl rfl
      obtain rfl : x13 = _ := rx13
      exact ⟨_, by simp [execOp, go_sem, ex13], rfl⟩
    · refine jk_val rfl (by decide) (fun a u hF hk hp => ?_)
      obtain ⟨x14, ex14, rx14⟩ := hp ⟨14, .data⟩ (by simp) rfl _ _ rfl rfl
      obtain rfl : x14 = _ := rx14
      exact ⟨_, by simp [execOp, go_sem, ex14], rfl⟩
    · refine jk_val rfl (by decide) (fun a u hF hk hp => ?_)
      obtain ⟨x15, ex15, rx15⟩ := hp ⟨15, .data⟩ (by simp) rfl _ _ rfl rfl
      obtain rfl : x15 = _ := rx15
      have fc0 := (hDW.below hF.1).most
      exact ⟨_, by simp [execOp, go_sem, ex15, fc0], rfl⟩
    · refine jk_call rfl (by decide) (grows_and (grows_bel _) (grows_and (grows_blk _ _ _) (grows_blk _ _ _))) (grows_blk _ _ _) (grows_blk _ _ _) (fun a u hF hk hp => ?_)
      obtain ⟨x4, ex4, rx4⟩ := hp ⟨4, .data⟩ (by simp) rfl _ _ rfl rfl
      obtain rfl : x4 = _ := rx4
      obtain ⟨x6, ex6, rx6⟩ := hp ⟨6, .data⟩ (by simp) rfl _ _ rfl rfl
      obtain rfl : x6 = _ := rx6
      obtain ⟨x10, ex10, rx10⟩ := hp ⟨10, .data⟩ (by simp) rfl _ _ rfl rfl
      obtain rfl : x10 = _ := rx10
      obtain ⟨x12, ex12, rx12⟩ := hp ⟨12, .data⟩ (by simp) rfl _ _ rfl rfl
      obtain rfl : x12 = _ := rx12
      obtain ⟨x16, ex16, rx16⟩ := hp ⟨16, .data⟩ (by simp) rfl _ _ rfl rfl
      obtain rfl : x16 = _ := rx16
      exact ⟨84, #[.agg (ptsC 16 P.pt), .int .i64 (i : Int), .int .i64 M, .int .i64 (j : Int), .int .i64 M], _, by simp [execOp, go_sem, ex4, ex6, ex10, ex12, ex16], gcall kC u, rfl⟩
    · refine jk_val rfl (by decide) (fun a u hF hk hp => ?_)
      obtain ⟨x17, ex17, rx17⟩ := hp ⟨17, .data⟩ (by simp) rfl _ _ rfl rfl
      obtain rfl : x17 = _ := rx17
      exact ⟨_, by simp [execOp, go_sem, ex17], rfl⟩
    · refine jk_val rfl (by decide) (fun a u hF hk hp => ?_)
      obtain ⟨x18, ex18, rx18⟩ := hp ⟨18, .data⟩ (by simp) rfl _ _ rfl rfl
      obtain rfl : x18 = _ := rx18
      exact ⟨_, by simp [execOp, go_sem, ex18], rfl⟩
    · refine jk_val rfl (by decide) (fun a u hF hk hp => ?_)
      obtain ⟨x18, ex18, rx18⟩ := hp ⟨18, .data⟩ (by simp) rfl _ _ rfl rfl
      obtain rfl : x18 = _ := rx18
      exact ⟨_, by simp [execOp, go_sem, ex18], rfl⟩
    · refine jk_store rfl rfl (fun a u hF hA hk hp => ?_)
      have es5 := (hk 5 (keep_of (by kernel_rfl))).trans (show _ = some (.pointer (some ⟨sb + 1 + 1, 0, none⟩)) from rfl)
      obtain ⟨x19, ex19, rx19⟩ := hp ⟨19, .data⟩ (by simp) rfl _ _ rfl rfl
      obtain rfl : x19 = _ := rx19
      exact wp_store_row 23 _ _ rfl (sb + 1 + 1) _ (eval_tmp es5) (eval_tmp ex19) 23 _ hA infoVm rfl (by simp [Value.oneCell']) ⟨_, rfl, ⟨bel_setRow hF.1 (by omega) _, hF.2.1.farRow _ (by omega), hF.2.2.farRow _ (by omega)⟩, hA.setRow _⟩
    · trivial
  · intro a W1 listed hJ hall hsz hdf hk hgot
    obtain ⟨hF, hB⟩ := jk_end hJ (by decide : 21 < 22) hall
    clear hJ hall
    obtain ⟨f, hf, rfl⟩ := frame_eq hsz hdf hk [9, 10, 11, 12, 13, 14, 15, 16, 17, 18, 19, 20, 21, 22, 23, 24, 25, 26, 8, 27, 28] (by rfl)
    clear hsz hdf hk hgot hf 
    simp only [List.drop_succ_cons, List.drop_zero, setAll, List.setIfInBounds_toArray, List.set_cons_succ, List.set_cons_zero]
    generalize f 9 = uu9; generalize f 10 = uu10; generalize f 11 = uu11; generalize f 12 = uu12; generalize f 13 = uu13; generalize f 14 = uu14; generalize f 15 = uu15; generalize f 16 = uu16; generalize f 17 = uu17; generalize f 18 = uu18; generalize f 19 = uu19; generalize f 20 = uu20; generalize f 21 = uu21; generalize f 22 = uu22; generalize f 23 = uu23; generalize f 24 = uu24; generalize f 25 = uu25; generalize f 26 = uu26; generalize f 8 = uu8; generalize f 27 = uu27; generalize f 28 = uu28
    obtain ⟨hx, _, hR3⟩ := hF
    replace hB : Blk W1 (sb + 1 + 1) 23 #[.int .i64 r.x, .int .i64 r.y, .int .i64 r.z] := hB
    clear hD hS hSc0 hSc1 hSc2 hSl hRl hLl hL hR hb0 f
    go_wp2_with (first | (refine getV rfl _ rfl (sb + 1 + 1) rfl r hB ?_; simp only [Act.put, List.setIfInBounds_toArray, List.set_cons_succ, List.set_cons_zero]) | (refine putV rfl _ _ rfl (sb + 1) r rfl rfl _ rfl hR3 ?_; simp only [Act.put, List.setIfInBounds_toArray, List.set_cons_succ, List.set_cons_zero]) | fail)
    exact bodyPost_ret (results_cell_row rfl _ _ (sb + 1) 23 #[.int .i64 r.x, .int .i64 r.y, .int .i64 r.z] (0, 0) _ rfl (hR3.setRow _) Try.underlying23 rfl infoVm) rfl ⟨rfl, bel_setRow hx (by omega) _⟩
/-- Where a spot is. -/
theorem point_any (W : World) (g : Nat) (P : Pch) (cage id : Int) (q : Nat → Int) (tv : Value) (h : Int) (hD : DcB W g P cage id q (mxI q 4) tv h) {s : Spt} (hs : spIn q s) :
    Calls Try.prog 69 #[.pointer (some ⟨g, 0, none⟩), .agg #[.int .i64 s.1, .int .i64 s.2.1, .int .i64 s.2.2]] W fun e w' => e = .returned (.agg #[.int .i64 (msP P.pt q s).x, .int .i64 (msP P.pt q s).y, .int .i64 (msP P.pt q s).z]) ∧ Below W.heap.size W w' := by
  rcases hs with ⟨k, hk, rfl⟩ | ⟨k, i, hk, h1, h2, rfl⟩ | ⟨a, b, h1, h2, h3, h4, rfl⟩
  · rw [msP_cor]; exact point_cor W g P cage id q _ tv h hD k hk
  · rw [msP_edg]; exact point_edg W g P cage id q _ tv h hD k i hk
  · rw [msP_inn]; exact point_inn W g P cage id q _ tv h hD a b
end Go.Proofs.Ytpaehkjnefgaiaa
namespace Go.Proofs.Ytpaehkjnefgaiaa
open Go.RowKit
set_option linter.unusedVariables false
set_option linter.unusedSimpArgs false
set_option linter.unnecessarySimpa false
set_option maxRecDepth 100000
theorem DcB.nm {W : World} {g : Nat} {P : Pch} {cage id : Int} {q : Nat → Int} {M : Int} {tv : Value} {h : Int} (d : DcB W g P cage id q M tv h) {k : Nat} (hk : k < 4) : W.cell? ⟨g, 52 + k * 3, none⟩ = some (.int .i64 (P.nm k).x) ∧ W.cell? ⟨g, 52 + k * 3 + 1, none⟩ = some (.int .i64 (P.nm k).y) ∧ W.cell? ⟨g, 52 + k * 3 + 2, none⟩ = some (.int .i64 (P.nm k).z) := by
  have := d.pch.nm hk
  rwa [Nat.zero_add] at this
set_option maxHeartbeats 2000000 in
theorem dir_cor (W : World) (g : Nat) (P : Pch) (cage id : Int) (q : Nat → Int) (M : Int) (tv : Value) (h : Int) (hD : DcB W g P cage id q M tv h) (k : Nat) (hk4 : k < 4) :
    Calls Try.prog 72 #[.pointer (some ⟨g, 0, none⟩), .agg #[.int .i64 1, .int .i64 (k : Int), .int .i64 0]] W fun e w' => e = .returned (.agg #[.int .i64 (P.nm k).x, .int .i64 (P.nm k).y, .int .i64 (P.nm k).z]) ∧ Below W.heap.size W w' := by
  obtain ⟨W0, hW0⟩ : ∃ W0, W0 = (((W.alloc (.cells #[.int .i64 1, .int .i64 (k:Int), .int .i64 0] 79)).alloc (.cells #[.int .i64 0, .int .i64 0, .int .i64 0] 23)).alloc (.cells #[.int .i64 0, .int .i64 0, .int .i64 0] 23)) := ⟨_, rfl⟩
  have hb0 : Below W.heap.size W W0 := by rw [hW0]; exact bel_alloc (bel_alloc (bel_alloc (Below.refl _ _) _) _) _
  have hS : Blk W0 (W.heap.size) 79 #[.int .i64 1, .int .i64 (k:Int), .int .i64 0] := by rw [hW0]; exact (((Blk.new _ _ _ _ rfl).alloc _).alloc _)
  have hR : Blk W0 (W.heap.size + 1) 23 #[.int .i64 0, .int .i64 0, .int .i64 0] := by rw [hW0]; exact ((Blk.new _ _ _ _ (by simp)).alloc _)
  have hL : Blk W0 (W.heap.size + 1 + 1) 23 #[.int .i64 0, .int .i64 0, .int .i64 0] := by rw [hW0]; exact (Blk.new _ _ _ _ (by simp))
  have hDW := hD
  replace hD := hD.below hb0
  go_enter Try.func72, Try.ntmps72
  go_upto_region 5 with (fail)
  simp only [← hW0]
  clear hW0
  obtain ⟨sb, hsb⟩ : ∃ b, b = W.heap.size := ⟨_, rfl⟩
  rw [← hsb] at hS hR hL
  simp only [← hsb]
  have hsW : W.heap.size ≤ sb := by omega
  replace hsb := Lib.hid hsb
  have hSl := hS.lt
  have hRl := hR.lt
  have hLl := hL.lt
  have hSc0 := hS.cell 0
  have hSc1 := hS.cell 1
  have hSc2 := hS.cell 2
  have q0 : (0 : Int) ≤ (k : Int) := by omega
  have q1 : (k : Int) < 4 := by omega
  refine wp_region_monoK2 9 (RKW [.pointer (some ⟨g, 0, none⟩), .pointer (some ⟨sb, 1, none⟩), .int .i64 (k : Int), .pointer (some ⟨g, 0, none⟩), .pointer (some ⟨g, 0, none⟩), .pointer (some ⟨g, 52, none⟩), .pointer (some ⟨g, 52 + k * 3, none⟩), .agg #[.int .i64 (P.nm k).x, .int .i64 (P.nm k).y, .int .i64 (P.nm k).z], .int .i64 0]) (JK (fun u => Below W.heap.size W u ∧ Blk u sb 79 #[.int .i64 1, .int .i64 (k : Int), .int .i64 0] ∧ Blk u (sb + 1) 23 #[.int .i64 0, .int .i64 0, .int .i64 0]) 8 (fun u => Blk u (sb + 1 + 1) 23 #[.int .i64 0, .int .i64 0, .int .i64 0]) (fun u => Blk u (sb + 1 + 1) 23 #[.int .i64 (P.nm k).x, .int .i64 (P.nm k).y, .int .i64 (P.nm k).z])) (by kernel_rfl) _ rfl (by kernel_rfl) (by kernel_rfl) (by kernel_rfl) (by kernel_rfl) (by kernel_rfl) (jk_start (by decide) (⟨bel_dr hb0 _, hS, hR⟩) (hL)) ?_ ?_
  · simp only [List.take_succ_cons, List.take_zero]
    refine ⟨?_, ?_, ?_, ?_, ?_, ?_, ?_, ?_, ?_, ?_⟩
    · refine jk_val rfl (by decide) (fun a u hF hk hp => ?_)
      have es0 := (hk 0 (keep_of (by kernel_rfl))).trans (show _ = some (.pointer (some ⟨g, 0, none⟩)) from rfl)
      exact ⟨_, by simp [execOp, go_sem, es0], rfl⟩
    · refine jk_val rfl (by decide) (fun a u hF hk hp => ?_)
      have es3 := (hk 3 (keep_of (by kernel_rfl))).trans (show _ = some (.pointer (some ⟨sb, 0, none⟩)) from rfl)
      exact ⟨_, by simp [execOp, go_sem, es3], rfl⟩
    · refine jk_val rfl (by decide) (fun a u hF hk hp => ?_)
      obtain ⟨x1, ex1, rx1⟩ := hp ⟨1, .data⟩ (by simp) rfl _ _ rfl rfl
      obtain rfl : x1 = _ := rx1
      have fc0 := hF.2.1.cell 1
      exact ⟨_, by simp [execOp, go_sem, ex1, fc0], rfl⟩
    · refine jk_val rfl (by decide) (fun a u hF hk hp => ?_)
      obtain ⟨x0, ex0, rx0⟩ := hp ⟨0, .data⟩ (by simp) rfl _ _ rfl rfl
      obtain rfl : x0 = _ := rx0
      exact ⟨_, by simp [execOp, go_sem, ex0], rfl⟩
    · refine jk_val rfl (by decide) (fun a u hF hk hp => ?_)
      obtain ⟨x3, ex3, rx3⟩ := hp ⟨3, .data⟩ (by simp) rfl _ _ rfl rfl
      obtain rfl : x3 = _ := rx3
      exact ⟨_, by simp [execOp, go_sem, ex3], rfl⟩
    · refine jk_val rfl (by decide) (fun a u hF hk hp => ?_)
      obtain ⟨x4, ex4, rx4⟩ := hp ⟨4, .data⟩ (by simp) rfl _ _ rfl rfl
      obtain rfl : x4 = _ := rx4
      exact ⟨_, by simp [execOp, go_sem, ex4], rfl⟩
    · refine jk_val rfl (by decide) (fun a u hF hk hp => ?_)
      obtain ⟨x5, ex5, rx5⟩ := hp ⟨5, .data⟩ (by simp) rfl _ _ rfl rfl
      obtain rfl : x5 = _ := rx5
      obtain ⟨x2, ex2, rx2⟩ := hp ⟨2, .data⟩ (by simp) rfl _ _ rfl rfl
      obtain rfl : x2 = _ := rx2
      have fc0 := q0
      have fc1 := q1
      exact ⟨_, by simp [execOp, go_sem, ex5, ex2, fc0, fc1], rfl⟩
    · refine jk_val rfl (by decide) (fun a u hF hk hp => ?_)
      obtain ⟨x6, ex6, rx6⟩ := hp ⟨6, .data⟩ (by simp) rfl _ _ rfl rfl
      obtain rfl : x6 = _ := rx6
      exact ⟨.agg (#[.int .i64 (P.nm k).x, .int .i64 (P.nm k).y, .int .i64 (P.nm k).z]), loadR_run _ _ 23 _ Try.underlying23 rfl _ rfl g (52 + k * 3) (eval_tmp ex6) (#[.int .i64 (P.nm k).x, .int .i64 (P.nm k).y, .int .i64 (P.nm k).z]) (infoVm) u (rng3W ((hDW.below hF.1).nm hk4).1 ((hDW.below hF.1).nm hk4).2.1 ((hDW.below hF.1).nm hk4).2.2), rfl⟩
    · refine jk_store rfl rfl (fun a u hF hA hk hp => ?_)
      have es5 := (hk 5 (keep_of (by kernel_rfl))).trans (show _ = some (.pointer (some ⟨sb + 1 + 1, 0, none⟩)) from rfl)
      obtain ⟨x7, ex7, rx7⟩ := hp ⟨7, .data⟩ (by simp) rfl _ _ rfl rfl
      obtain rfl : x7 = _ := rx7
      exact wp_store_row 23 _ _ rfl (sb + 1 + 1) _ (eval_tmp es5) (eval_tmp ex7) 23 _ hA infoVm rfl (by simp [Value.oneCell']) ⟨_, rfl, ⟨bel_setRow hF.1 (by omega) _, hF.2.1.farRow _ (by omega), hF.2.2.farRow _ (by omega)⟩, hA.setRow _⟩
    · trivial
  · intro a W1 listed hJ hall hsz hdf hk hgot
    obtain ⟨hF, hB⟩ := jk_end hJ (by decide : 8 < 9) hall
    clear hJ hall
    obtain ⟨f, hf, rfl⟩ := frame_eq hsz hdf hk [31, 32, 33, 34, 35, 36, 37, 38] (by rfl)
    clear hsz hdf hk hgot hf 
    simp only [List.drop_succ_cons, List.drop_zero, setAll, List.setIfInBounds_toArray, List.set_cons_succ, List.set_cons_zero]
    generalize f 31 = uu31; generalize f 32 = uu32; generalize f 33 = uu33; generalize f 34 = uu34; generalize f 35 = uu35; generalize f 36 = uu36; generalize f 37 = uu37; generalize f 38 = uu38
    obtain ⟨hx, _, hR3⟩ := hF
    replace hB : Blk W1 (sb + 1 + 1) 23 #[.int .i64 (P.nm k).x, .int .i64 (P.nm k).y, .int .i64 (P.nm k).z] := hB
    clear hD hS hSc0 hSc1 hSc2 hSl hRl hLl hL hR hb0 f
    go_wp2_with (first | (refine getV rfl _ rfl (sb + 1 + 1) rfl (P.nm k) hB ?_; simp only [Act.put, List.setIfInBounds_toArray, List.set_cons_succ, List.set_cons_zero]) | (refine putV rfl _ _ rfl (sb + 1) (P.nm k) rfl rfl _ rfl hR3 ?_; simp only [Act.put, List.setIfInBounds_toArray, List.set_cons_succ, List.set_cons_zero]) | fail)
    exact bodyPost_ret (results_cell_row rfl _ _ (sb + 1) 23 #[.int .i64 (P.nm k).x, .int .i64 (P.nm k).y, .int .i64 (P.nm k).z] (0, 0) _ rfl (hR3.setRow _) Try.underlying23 rfl infoVm) rfl ⟨rfl, bel_setRow hx (by omega) _⟩
set_option maxHeartbeats 2000000 in
theorem dir_edg (W : World) (g : Nat) (P : Pch) (cage id : Int) (q : Nat → Int) (M : Int) (tv : Value) (h : Int) (hD : DcB W g P cage id q M tv h) (k i : Nat) (hk4 : k < 4) (hi : (i : Int) < q k) (hqk : q k ≤ 16) :
    Calls Try.prog 72 #[.pointer (some ⟨g, 0, none⟩), .agg #[.int .i64 2, .int .i64 (k : Int), .int .i64 (i : Int)]] W fun e w' => e = .returned (.agg #[.int .i64 (blP (P.nm k) (P.nm ((k + 1) % 4)) (i : Int) (q k)).x, .int .i64 (blP (P.nm k) (P.nm ((k + 1) % 4)) (i : Int) (q k)).y, .int .i64 (blP (P.nm k) (P.nm ((k + 1) % 4)) (i : Int) (q k)).z]) ∧ Below W.heap.size W w' := by
  have kC := blend_any (P.nm k) (P.nm ((k + 1) % 4)) (i : Int) (q k) (by omega) (by omega)
  have m1 : ((k : Int) + 1).tmod 4 = (((k + 1) % 4 : Nat) : Int) := by rw [Int.tmod_eq_emod_of_nonneg (by omega)]; omega
  have hm4 : (k + 1) % 4 < 4 := Nat.mod_lt _ (by omega)
  generalize (k + 1) % 4 = m at *
  generalize blP (P.nm k) (P.nm m) (i : Int) (q k) = r at *
  generalize blK (P.nm k) (P.nm m) (i : Int) (q k) = b at *
  have w1 : IntKind.i64.wrap ((k : Int) + 1) = (k : Int) + 1 := by simp [IntKind.wrap, IntKind.bits, IntKind.signed]; omega
  have w2 : IntKind.i64.wrap (m : Int) = (m : Int) := by simp [IntKind.wrap, IntKind.bits, IntKind.signed]; omega
  obtain ⟨W0, hW0⟩ : ∃ W0, W0 = (((W.alloc (.cells #[.int .i64 2, .int .i64 (k:Int), .int .i64 (i:Int)] 79)).alloc (.cells #[.int .i64 0, .int .i64 0, .int .i64 0] 23)).alloc (.cells #[.int .i64 0, .int .i64 0, .int .i64 0] 23)) := ⟨_, rfl⟩
  have hb0 : Below W.heap.size W W0 := by rw [hW0]; exact bel_alloc (bel_alloc (bel_alloc (Below.refl _ _) _) _) _
  have hS : Blk W0 (W.heap.size) 79 #[.int .i64 2, .int .i64 (k:Int), .int .i64 (i:Int)] := by rw [hW0]; exact (((Blk.new _ _ _ _ rfl).alloc _).alloc _)
  have hR : Blk W0 (W.heap.size + 1) 23 #[.int .i64 0, .int .i64 0, .int .i64 0] := by rw [hW0]; exact ((Blk.new _ _ _ _ (by simp)).alloc _)
  have hL : Blk W0 (W.heap.size + 1 + 1) 23 #[.int .i64 0, .int .i64 0, .int .i64 0] := by rw [hW0]; exact (Blk.new _ _ _ _ (by simp))
  have hDW := hD
  replace hD := hD.below hb0
  go_enter Try.func72, Try.ntmps72
  go_upto_region 7 with (fail)
  simp only [← hW0]
  clear hW0
  obtain ⟨sb, hsb⟩ : ∃ b, b = W.heap.size := ⟨_, rfl⟩
  rw [← hsb] at hS hR hL
  simp only [← hsb]
  have hsW : W.heap.size ≤ sb := by omega
  replace hsb := Lib.hid hsb
  have hSl := hS.lt
  have hRl := hR.lt
  have hLl := hL.lt
  have hSc0 := hS.cell 0
  have hSc1 := hS.cell 1
  have hSc2 := hS.cell 2
  have q0 : (0 : Int) ≤ (k : Int) := by omega
  have q1 : (k : Int) < 4 := by omega
  have q2 : (0 : Int) ≤ (m : Int) := by omega
  have q3 : (m : Int) < 4 := by omega
  refine wp_region_monoK2 32 (RKW [.pointer (some ⟨g, 0, none⟩), .pointer (some ⟨sb, 1, none⟩), .int .i64 (k : Int), .pointer (some ⟨g, 0, none⟩), .pointer (some ⟨g, 0, none⟩), .pointer (some ⟨g, 52, none⟩), .pointer (some ⟨g, 52 + k * 3, none⟩), .agg #[.int .i64 (P.nm k).x, .int .i64 (P.nm k).y, .int .i64 (P.nm k).z], .pointer (some ⟨g, 0, none⟩), .pointer (some ⟨sb, 1, none⟩), .int .i64 (k : Int), .int .i64 ((k : Int) + 1), .int .i64 (m : Int), .pointer (some ⟨g, 0, none⟩), .pointer (some ⟨g, 0, none⟩), .pointer (some ⟨g, 52, none⟩), .pointer (some ⟨g, 52 + m * 3, none⟩), .agg #[.int .i64 (P.nm m).x, .int .i64 (P.nm m).y, .int .i64 (P.nm m).z], .pointer (some ⟨sb, 2, none⟩), .int .i64 (i : Int), .pointer (some ⟨g, 0, none⟩), .pointer (some ⟨sb, 1, none⟩), .int .i64 (k : Int), .pointer (some ⟨g, 0, none⟩), .pointer (some ⟨g, 67, none⟩), .pointer (some ⟨g, 67 + k, none⟩), .int .i64 (q k), .tuple #[.agg #[.int .i64 r.x, .int .i64 r.y, .int .i64 r.z], .bool b], .tuple #[.agg #[.int .i64 r.x, .int .i64 r.y, .int .i64 r.z], .bool b], .agg #[.int .i64 r.x, .int .i64 r.y, .int .i64 r.z], .bool b, .int .i64 0]) (JK (fun u => Below W.heap.size W u ∧ Blk u sb 79 #[.int .i64 2, .int .i64 (k : Int), .int .i64 (i : Int)] ∧ Blk u (sb + 1) 23 #[.int .i64 0, .int .i64 0, .int .i64 0]) 31 (fun u => Blk u (sb + 1 + 1) 23 #[.int .i64 0, .int .i64 0, .int .i64 0]) (fun u => Blk u (sb + 1 + 1) 23 #[.int .i64 r.x, .int .i64 r.y, .int .i64 r.z])) (by kernel_rfl) _ rfl (by kernel_rfl) (by kernel_rfl) (by kernel_rfl) (by kernel_rfl) (by kernel_rfl) (jk_start (by decide) (⟨bel_dr hb0 _, hS, hR⟩) (hL)) ?_ ?_
  · simp only [List.take_succ_cons, List.take_zero]
    refine ⟨?_, ?_, ?_, ?_, ?_, ?_, ?_, ?_, ?_, ?_, ?_, ?_, ?_, ?_, ?_, ?_, ?_, ?_, ?_, ?_, ?_, ?_, ?_, ?_, ?_, ?_, ?_, ?_, ?_, ?_, ?_, ?_, ?_⟩
    · refine jk_val rfl (by decide) (fun a u hF hk hp => ?_)
      have es0 := (hk 0 (keep_of (by kernel_rfl))).trans (show _ = some (.pointer (some ⟨g, 0, none⟩)) from rfl)
      exact ⟨_, by simp [execOp, go_sem, es0], rfl⟩
    · refine jk_val rfl (by decide) (fun a u hF hk hp => ?_)
      have es3 := (hk 3 (keep_of (by kernel_rfl))).trans (show _ = some (.pointer (some ⟨sb, 0, none⟩)) from rfl)
      exact ⟨_, by simp [execOp, go_sem, es3], rfl⟩
    · refine jk_val rfl (by decide) (fun a u hF hk hp => ?_)
      obtain ⟨x1, ex1, rx1⟩ := hp ⟨1, .data⟩ (by simp) rfl _ _ rfl rfl
      obtain rfl : x1 = _ := rx1
      have fc0 := hF.2.1.cell 1
      exact ⟨_, by simp [execOp, go_sem, ex1, fc0], rfl⟩
    · refine jk_val rfl (by decide) (fun a u hF hk hp => ?_)
      obtain ⟨x0, ex0, rx0⟩ := hp ⟨0, .data⟩ (by simp) rfl _ _ rfl rfl
      obtain rfl : x0 = _ := rx0
      exact ⟨_, by simp [execOp, go_sem, ex0], rfl⟩
    · refine jk_val rfl (by decide) (fun a u hF hk hp => ?_)
      obtain ⟨x3, ex3, rx3⟩ := hp ⟨3, .data⟩ (by simp) rfl _ _ rfl rfl
      obtain rfl : x3 = _ := rx3
      exact ⟨_, by simp [execOp, go_sem, ex3], rfl⟩
    · refine jk_val rfl (by decide) (fun a u hF hk hp => ?_)
      obtain ⟨x4, ex4, rx4⟩ := hp ⟨4, .data⟩ (by simp) rfl _ _ rfl rfl
      obtain rfl : x4 = _ := rx4
      exact ⟨_, by simp [execOp, go_sem, ex4], rfl⟩
    · refine jk_val rfl (by decide) (fun a u hF hk hp => ?_)
      obtain ⟨x5, ex5, rx5⟩ := hp ⟨5, .data⟩ (by simp) rfl _ _ rfl rfl
      obtain rfl : x5 = _ := rx5
      obtain ⟨x2, ex2, rx2⟩ := hp ⟨2, .data⟩ (by simp) rfl _ _ rfl rfl
      obtain rfl : x2 = _ := rx2
      have fc0 := q0
      have fc1 := q1
      exact ⟨_, by simp [execOp, go_sem, ex5, ex2, fc0, fc1], rfl⟩
    · refine jk_val rfl (by decide) (fun a u hF hk hp => ?_)
      obtain ⟨x6, ex6, rx6⟩ := hp ⟨6, .data⟩ (by simp) rfl _ _ rfl rfl
      obtain rfl : x6 = _ := rx6
      exact ⟨.agg (#[.int .i64 (P.nm k).x, .int .i64 (P.nm k).y, .int .i64 (P.nm k).z]), loadR_run _ _ 23 _ Try.underlying23 rfl _ rfl g (52 + k * 3) (eval_tmp ex6) (#[.int .i64 (P.nm k).x, .int .i64 (P.nm k).y, .int .i64 (P.nm k).z]) (infoVm) u (rng3W ((hDW.below hF.1).nm hk4).1 ((hDW.below hF.1).nm hk4).2.1 ((hDW.below hF.1).nm hk4).2.2), rfl⟩
    · refine jk_val rfl (by decide) (fun a u hF hk hp => ?_)
      have es0 := (hk 0 (keep_of (by kernel_rfl))).trans (show _ = some (.pointer (some ⟨g, 0, none⟩)) from rfl)
      exact ⟨_, by simp [execOp, go_sem, es0], rfl⟩
    · refine jk_val rfl (by decide) (fun a u hF hk hp => ?_)
      have es3 := (hk 3 (keep_of (by kernel_rfl))).trans (show _ = some (.pointer (some ⟨sb, 0, none⟩)) from rfl)
      exact ⟨_, by simp [execOp, go_sem, es3], rfl⟩
    · refine jk_val rfl (by decide) (fun a u hF hk hp => ?_)
      obtain ⟨x9, ex9, rx9⟩ := hp ⟨9, .data⟩ (by simp) rfl _ _ rfl rfl
      obtain rfl : x9 = _ := rx9
      have fc0 := hF.2.1.cell 1
      exact ⟨_, by simp [execOp, go_sem, ex9, fc0], rfl⟩
    · refine jk_val rfl (by decide) (fun a u hF hk hp => ?_)
      obtain ⟨x10, ex10, rx10⟩ := hp ⟨10, .data⟩ (by simp) rfl _ _ rfl rfl
      obtain rfl : x10 = _ := rx10
      have fc0 := w1
      exact ⟨_, by simp [execOp, go_sem, ex10, fc0], rfl⟩
    · refine jk_val rfl (by decide) (fun a u hF hk hp => ?_)
      obtain ⟨x11, ex11, rx11⟩ := hp ⟨11, .data⟩ (by simp) rfl _ _ rfl rfl
      obtain rfl : x11 = _ := rx11
      have fc0 := m1
      have fc1 := w2
      exact ⟨_, by simp [execOp, go_sem, ex11, fc0, fc1], rfl⟩
    · refine jk_val rfl (by decide) (fun a u hF hk hp => ?_)
      obtain ⟨x8, ex8, rx8⟩ := hp ⟨8, .data⟩ (by simp) rfl _ _ rfl rfl
      obtain rfl : x8 = _ := rx8
      exact ⟨_, by simp [execOp, go_sem, ex8], rfl⟩
    · refine jk_val rfl (by decide) (fun a u hF hk hp => ?_)
      obtain ⟨x13, ex13, rx13⟩ := hp ⟨13, .data⟩ (by simp) rfl _ _ rfl rfl
      obtain rfl : x13 = _ := rx13
      exact ⟨_, by simp [execOp, go_sem, ex13], rfl⟩
    · refine jk_val rfl (by decide) (fun a u hF hk hp => ?_)
      obtain ⟨x14, ex14, rx14⟩ := hp ⟨14, .data⟩ (by simp) rfl _ _ rfl rfl
      obtain rfl : x14 = _ := rx14
      exact ⟨_, by simp [execOp, go_sem, ex14], rfl⟩
    · refine jk_val rfl (by decide) (fun a u hF hk hp => ?_)
      obtain ⟨x15, ex15, rx15⟩ := hp ⟨15, .data⟩ (by simp) rfl _ _ rfl rfl
      obtain rfl : x15 = _ := rx15
      obtain ⟨x12, ex12, rx12⟩ := hp ⟨12, .data⟩ (by simp) rfl _ _ rfl rfl
      obtain rfl : x12 = _ := rx12
      have fc0 := q2
      have fc1 := q3
      exact ⟨_, by simp [execOp, go_sem, ex15, ex12, fc0, fc1], rfl⟩
    · refine jk_val rfl (by decide) (fun a u hF hk hp => ?_)
      obtain ⟨x16, ex16, rx16⟩ := hp ⟨16, .data⟩ (by simp) rfl _ _ rfl rfl
      obtain rfl : x16 = _ := rx16
      exact ⟨.agg (#[.int .i64 (P.nm m).x, .int .i64 (P.nm m).y, .int .i64 (P.nm m).z]), loadR_run _ _ 23 _ Try.underlying23 rfl _ rfl g (52 + m * 3) (eval_tmp ex16) (#[.int .i64 (P.nm m).x, .int .i64 (P.nm m).y, .int .i64 (P.nm m).z]) (infoVm) u (rng3W ((hDW.below hF.1).nm hm4).1 ((hDW.below hF.1).nm hm4).2.1 ((hDW.below hF.1).nm hm4).2.2), rfl⟩
    · refine jk_val rfl (by decide) (fun a u hF hk hp => ?_)
      have es3 := (hk 3 (keep_of (by kernel_rfl))).trans (show _ = some (.pointer (some ⟨sb, 0, none⟩)) from rfl)
      exact ⟨_, by simp [execOp, go_sem, es3], rfl⟩
    · refine jk_val rfl (by decide) (fun a u hF hk hp => ?_)
      obtain ⟨x18, ex18, rx18⟩ := hp ⟨18, .data⟩ (by simp) rfl _ _ rfl rfl
      obtain rfl : x18 = _ := rx18
      have fc0 := hF.2.1.cell 2
      exact ⟨_, by simp [execOp, go_sem, ex18, fc0], rfl⟩
    · refine jk_val rfl (by decide) (fun a u hF hk hp => ?_)
      have es0 := (hk 0 (keep_of (by kernel_rfl))).trans (show _ = some (.pointer (some ⟨g, 0, none⟩)) from rfl)
      exact ⟨_, by simp [execOp, go_sem, es0], rfl⟩
    · refine jk_val rfl (by decide) (fun a u hF hk hp => ?_)
      have es3 := (hk 3 (keep_of (by kernel_rfl))).trans (show _ = some (.pointer (some ⟨sb, 0, none⟩)) from rfl)
      exact ⟨_, by simp [execOp, go_sem, es3], rfl⟩
    · refine jk_val rfl (by decide) (fun a u hF hk hp => ?_)
      obtain ⟨x21, ex21, rx21⟩ := hp ⟨21, .data⟩ (by simp) rfl _ _ rfl rfl
      obtain rfl : x21 = _ := rx21
      have fc0 := hF.2.1.cell 1
      exact ⟨_, by simp [execOp, go_sem, ex21, fc0], rfl⟩
    · refine jk_val rfl (by decide) (fun a u hF hk hp => ?_)
      obtain ⟨x20, ex20, rx20⟩ := hp ⟨20, .data⟩ (by simp) rfl _ _ rfl rfl
      obtain rfl : x20 = _ := rx20
      exact ⟨_, by simp [execOp, go_sem, ex20], rfl⟩
    · refine jk_val rfl (by decide) (fun a u hF hk hp => ?_)
      obtain ⟨x23, ex23, rx23⟩ := hp ⟨23, .data⟩ (by simp) rfl _ _ rfl rfl
      obtain rfl : x23 = _ := rx23
      exact ⟨_, by simp [execOp, go_sem, ex23], rfl⟩
    · refine jk_val rfl (by decide) (fun a u hF hk hp => ?_)
      obtain ⟨x24, ex24, rx24⟩ := hp ⟨24, .data⟩ (by simp) rfl _ _ rfl rfl
      obtain rfl : x24 = _ := rx24
      obtain ⟨x22, ex22, rx22⟩ := hp ⟨22, .data⟩ (by simp) rfl _ _ rfl rfl
      obtain rfl : x22 = _ := rx22
      have fc0 := q0
      have fc1 := q1
      exact ⟨_, by simp [execOp, go_sem, ex24, ex22, fc0, fc1], rfl⟩
    · refine jk_val rfl (by decide) (fun a u hF hk hp => ?_)
      obtain ⟨x25, ex25, rx25⟩ := hp ⟨25, .data⟩ (by simp) rfl _ _ rfl rfl
      obtain rfl : x25 = _ := rx25
      have fc0 := (hDW.below hF.1).q k hk4
      exact ⟨_, by simp [execOp, go_sem, ex25, fc0], rfl⟩
    · refine jk_call rfl (by decide) (grows_and (grows_bel _) (grows_and (grows_blk _ _ _) (grows_blk _ _ _))) (grows_blk _ _ _) (grows_blk _ _ _) (fun a u hF hk hp => ?_)
      obtain ⟨x7, ex7, rx7⟩ := hp ⟨7, .data⟩ (by simp) rfl _ _ rfl rfl
      obtain rfl : x7 = _ := rx7
      obtain ⟨x17, ex17, rx17⟩ := hp ⟨17, .data⟩ (by simp) rfl _ _ rfl rfl
      obtain rfl : x17 = _ := rx17
      obtain ⟨x19, ex19, rx19⟩ := hp ⟨19, .data⟩ (by simp) rfl _ _ rfl rfl
      obtain rfl : x19 = _ := rx19
      obtain ⟨x26, ex26, rx26⟩ := hp ⟨26, .data⟩ (by simp) rfl _ _ rfl rfl
      obtain rfl : x26 = _ := rx26
      exact ⟨91, #[.agg #[.int .i64 (P.nm k).x, .int .i64 (P.nm k).y, .int .i64 (P.nm k).z], .agg #[.int .i64 (P.nm m).x, .int .i64 (P.nm m).y, .int .i64 (P.nm m).z], .int .i64 (i : Int), .int .i64 (q k)], _, by simp [execOp, go_sem, ex7, ex17, ex19, ex26], gcall kC u, rfl⟩
    · refine jk_val rfl (by decide) (fun a u hF hk hp => ?_)
      obtain ⟨x27, ex27, rx27⟩ := hp ⟨27, .data⟩ (by simp) rfl _ _ rfl rfl
      obtain rfl : x27 = _ := rx27
      exact ⟨_, by simp [execOp, go_sem, ex27], rfl⟩
    · refine jk_val rfl (by decide) (fun a u hF hk hp => ?_)
      obtain ⟨x28, ex28, rx28⟩ := hp ⟨28, .data⟩ (by simp) rfl _ _ rfl rfl
      obtain rfl : x28 = _ := rx28
      exact ⟨_, by simp [execOp, go_sem, ex28], rfl⟩
    · refine jk_val rfl (by decide) (fun a u hF hk hp => ?_)
      obtain ⟨x28, ex28, rx28⟩ := hp ⟨28, .data⟩ (by simp) rfl _ _ rfl rfl
      obtain rfl : x28 = _ := rx28
      exact ⟨_, by simp [execOp, go_sem, ex28], rfl⟩
    · refine jk_store rfl rfl (fun a u hF hA hk hp => ?_)
      have es5 := (hk 5 (keep_of (by kernel_rfl))).trans (show _ = some (.pointer (some ⟨sb + 1 + 1, 0, none⟩)) from rfl)
      obtain ⟨x29, ex29, rx29⟩ := hp ⟨29, .data⟩ (by simp) rfl _ _ rfl rfl
      obtain rfl : x29 = _ := rx29
      exact wp_store_row 23 _ _ rfl (sb + 1 + 1) _ (eval_tmp es5) (eval_tmp ex29) 23 _ hA infoVm rfl (by simp [Value.oneCell']) ⟨_, rfl, ⟨bel_setRow hF.1 (by omega) _, hF.2.1.farRow _ (by omega), hF.2.2.farRow _ (by omega)⟩, hA.setRow _⟩
    · trivial
  · intro a W1 listed hJ hall hsz hdf hk hgot
    obtain ⟨hF, hB⟩ := jk_end hJ (by decide : 31 < 32) hall
    clear hJ hall
    obtain ⟨f, hf, rfl⟩ := frame_eq hsz hdf hk [42, 43, 44, 45, 46, 47, 48, 49, 50, 51, 52, 53, 54, 55, 56, 57, 58, 59, 60, 61, 62, 63, 64, 65, 66, 67, 68, 69, 41, 70, 71] (by rfl)
    clear hsz hdf hk hgot hf 
    simp only [List.drop_succ_cons, List.drop_zero, setAll, List.setIfInBounds_toArray, List.set_cons_succ, List.set_cons_zero]
    generalize f 42 = uu42; generalize f 43 = uu43; generalize f 44 = uu44; generalize f 45 = uu45; generalize f 46 = uu46; generalize f 47 = uu47; generalize f 48 = uu48; generalize f 49 = uu49; generalize f 50 = uu50; generalize f 51 = uu51; generalize f 52 = uu52; generalize f 53 = uu53; generalize f 54 = uu54; generalize f 55 = uu55; generalize f 56 = uu56; generalize f 57 = uu57; generalize f 58 = uu58; generalize f 59 = uu59; generalize f 60 = uu60; generalize f 61 = uu61; generalize f 62 = uu62; generalize f 63 = uu63; generalize f 64 = uu64; generalize f 65 = uu65; generalize f 66 = uu66; generalize f 67 = uu67; generalize f 68 = uu68; generalize f 69 = uu69; generalize f 41 = uu41; generalize f 70 = uu70; generalize f 71 = uu71
    clear m1 w1 w2
    obtain ⟨hx, _, hR3⟩ := hF
    replace hB : Blk W1 (sb + 1 + 1) 23 #[.int .i64 r.x, .int .i64 r.y, .int .i64 r.z] := hB
    clear hD hS hSc0 hSc1 hSc2 hSl hRl hLl hL hR hb0 f
    go_wp2_with (first | (refine getV rfl _ rfl (sb + 1 + 1) rfl r hB ?_; simp only [Act.put, List.setIfInBounds_toArray, List.set_cons_succ, List.set_cons_zero]) | (refine putV rfl _ _ rfl (sb + 1) r rfl rfl _ rfl hR3 ?_; simp only [Act.put, List.setIfInBounds_toArray, List.set_cons_succ, List.set_cons_zero]) | fail)
    exact bodyPost_ret (results_cell_row rfl _ _ (sb + 1) 23 #[.int .i64 r.x, .int .i64 r.y, .int .i64 r.z] (0, 0) _ rfl (hR3.setRow _) Try.underlying23 rfl infoVm) rfl ⟨rfl, bel_setRow hx (by omega) _⟩
set_option maxHeartbeats 2000000 in
theorem dir_inn (W : World) (g : Nat) (P : Pch) (cage id : Int) (q : Nat → Int) (M : Int) (tv : Value) (h : Int) (hD : DcB W g P cage id q M tv h) (i j : Nat) (hM : M ≤ 16) (hi : (i : Int) < M) (hj : (j : Int) < M) :
    Calls Try.prog 72 #[.pointer (some ⟨g, 0, none⟩), .agg #[.int .i64 3, .int .i64 (i : Int), .int .i64 (j : Int)]] W fun e w' => e = .returned (.agg #[.int .i64 (mxP P.nm (i : Int) M (j : Int) M).x, .int .i64 (mxP P.nm (i : Int) M (j : Int) M).y, .int .i64 (mxP P.nm (i : Int) M (j : Int) M).z]) ∧ Below W.heap.size W w' := by
  have kC := mix_any P.nm (i : Int) M (j : Int) M (by omega) (by omega) (by omega) (by omega)
  generalize mxP P.nm (i : Int) M (j : Int) M = r at *
  generalize mxK P.nm (i : Int) M (j : Int) M = b at *
  obtain ⟨W0, hW0⟩ : ∃ W0, W0 = (((W.alloc (.cells #[.int .i64 3, .int .i64 (i:Int), .int .i64 (j:Int)] 79)).alloc (.cells #[.int .i64 0, .int .i64 0, .int .i64 0] 23)).alloc (.cells #[.int .i64 0, .int .i64 0, .int .i64 0] 23)) := ⟨_, rfl⟩
  have hb0 : Below W.heap.size W W0 := by rw [hW0]; exact bel_alloc (bel_alloc (bel_alloc (Below.refl _ _) _) _) _
  have hS : Blk W0 (W.heap.size) 79 #[.int .i64 3, .int .i64 (i:Int), .int .i64 (j:Int)] := by rw [hW0]; exact (((Blk.new _ _ _ _ rfl).alloc _).alloc _)
  have hR : Blk W0 (W.heap.size + 1) 23 #[.int .i64 0, .int .i64 0, .int .i64 0] := by rw [hW0]; exact ((Blk.new _ _ _ _ (by simp)).alloc _)
  have hL : Blk W0 (W.heap.size + 1 + 1) 23 #[.int .i64 0, .int .i64 0, .int .i64 0] := by rw [hW0]; exact (Blk.new _ _ _ _ (by simp))
  have hDW := hD
  replace hD := hD.below hb0
  go_enter Try.func72, Try.ntmps72
  go_upto_region 3 with (fail)
  simp only [← hW0]
  clear hW0
  obtain ⟨sb, hsb⟩ : ∃ b, b = W.heap.size := ⟨_, rfl⟩
  rw [← hsb] at hS hR hL
  simp only [← hsb]
  have hsW : W.heap.size ≤ sb := by omega
  replace hsb := Lib.hid hsb
  have hSl := hS.lt
  have hRl := hR.lt
  have hLl := hL.lt
  have hSc0 := hS.cell 0
  have hSc1 := hS.cell 1
  have hSc2 := hS.cell 2
  refine wp_region_monoK2 22 (RKW [.pointer (some ⟨g, 0, none⟩), .pointer (some ⟨g, 0, none⟩), .pointer (some ⟨g, 0, none⟩), .pointer (some ⟨g, 52, none⟩), .agg (ptsC 4 P.nm), .pointer (some ⟨sb, 1, none⟩), .int .i64 (i : Int), .pointer (some ⟨g, 0, none⟩), .pointer (some ⟨g, 0, none⟩), .pointer (some ⟨g, 71, none⟩), .int .i64 M, .pointer (some ⟨sb, 2, none⟩), .int .i64 (j : Int), .pointer (some ⟨g, 0, none⟩), .pointer (some ⟨g, 0, none⟩), .pointer (some ⟨g, 71, none⟩), .int .i64 M, .tuple #[.agg #[.int .i64 r.x, .int .i64 r.y, .int .i64 r.z], .bool b], .tuple #[.agg #[.int .i64 r.x, .int .i64 r.y, .int .i64 r.z], .bool b], .agg #[.int .i64 r.x, .int .i64 r.y, .int .i64 r.z], .bool b, .int .i64 0]) (JK (fun u => Below W.heap.size W u ∧ Blk u sb 79 #[.int .i64 3, .int .i64 (i : Int), .int .i64 (j : Int)] ∧ Blk u (sb + 1) 23 #[.int .i64 0, .int .i64 0, .int .i64 0]) 21 (fun u => Blk u (sb + 1 + 1) 23 #[.int .i64 0, .int .i64 0, .int .i64 0]) (fun u => Blk u (sb + 1 + 1) 23 #[.int .i64 r.x, .int .i64 r.y, .int .i64 r.z])) (by kernel_rfl) _ rfl (by kernel_rfl) (by kernel_rfl) (by kernel_rfl) (by kernel_rfl) (by kernel_rfl) (jk_start (by decide) (⟨bel_dr hb0 _, hS, hR⟩) (hL)) ?_ ?_
  · simp only [List.take_succ_cons, List.take_zero]
    refine ⟨?_, ?_, ?_, ?_, ?_, ?_, ?_, ?_, ?_, ?_, ?_, ?_, ?_, ?_, ?_, ?_, ?_, ?_, ?_, ?_, ?_, ?_, ?_⟩
    · refine jk_val rfl (by decide) (fun a u hF hk hp => ?_)
      have es0 := (hk 0 (keep_of (by kernel_rfl))).trans (show _ = some (.pointer (some ⟨g, 0, none⟩)) from rfl)
      exact ⟨_, by simp [execOp, go_sem, es0], rfl⟩
    · refine jk_val rfl (by decide) (fun a u hF hk hp => ?_)
      obtain ⟨x0, ex0, rx0⟩ := hp ⟨0, .data⟩ (by simp) rfl _ _ rfl rfl
      obtain rfl : x0 = _ := rx0
      exact ⟨_, by simp [execOp, go_sem, ex0], rfl⟩
    · refine jk_val rfl (by decide) (fun a u hF hk hp => ?_)
      obtain ⟨x1, ex1, rx1⟩ := hp ⟨1, .data⟩ (by simp) rfl _ _ rfl rfl
      obtain rfl : x1 = _ := rx1
      exact ⟨_, by simp [execOp, go_sem, ex1], rfl⟩
    · refine jk_val rfl (by decide) (fun a u hF hk hp => ?_)
      obtain ⟨x2, ex2, rx2⟩ := hp ⟨2, .data⟩ (by simp) rfl _ _ rfl rfl
      obtain rfl : x2 = _ := rx2
      exact ⟨_, by simp [execOp, go_sem, ex2], rfl⟩
    · refine jk_val rfl (by decide) (fun a u hF hk hp => ?_)
      obtain ⟨x3, ex3, rx3⟩ := hp ⟨3, .data⟩ (by simp) rfl _ _ rfl rfl
      obtain rfl : x3 = _ := rx3
      exact ⟨.agg (ptsC 4 P.nm), loadR_run _ _ 26 _ Try.underlying26 rfl _ rfl g 52 (eval_tmp ex3) (ptsC 4 P.nm) (size4 P.nm) u ((hDW.below hF.1).nms), rfl⟩
    · refine jk_val rfl (by decide) (fun a u hF hk hp => ?_)
      have es3 := (hk 3 (keep_of (by kernel_rfl))).trans (show _ = some (.pointer (some ⟨sb, 0, none⟩)) from rfl)
      exact ⟨_, by simp [execOp, go_sem, es3], rfl⟩
    · refine jk_val rfl (by decide) (fun a u hF hk hp => ?_)
      obtain ⟨x5, ex5, rx5⟩ := hp ⟨5, .data⟩ (by simp) rfl _ _ rfl rfl
      obtain rfl : x5 = _ := rx5
      have fc0 := hF.2.1.cell 1
      exact ⟨_, by simp [execOp, go_sem, ex5, fc0], rfl⟩
    · refine jk_val rfl (by decide) (fun a u hF hk hp => ?_)
      have es0 := (hk 0 (keep_of (by kernel_rfl))).trans (show _ = some (.pointer (some ⟨g, 0, none⟩)) from rfl)
      exact ⟨_, by simp [execOp, go_sem, es0], rfl⟩
    · refine jk_val rfl (by decide) (fun a u hF hk hp => ?_)
      obtain ⟨x7, ex7, rx7⟩ := hp ⟨7, .data⟩ (by simp) rfl _ _ rfl rfl
      obtain rfl : x7 = _ := rx7
      exact ⟨_, by simp [execOp, go_sem, ex7], rfl⟩
    · refine jk_val rfl (by decide) (fun a u hF hk hp => ?_)
      obtain ⟨x8, ex8, rx8⟩ := hp ⟨8, .data⟩ (by simp) rfl _ _ rfl rfl
      obtain rfl : x8 = _ := rx8
      exact ⟨_, by simp [execOp, go_sem, ex8], rfl⟩
    · refine jk_val rfl (by decide) (fun a u hF hk hp => ?_)
      obtain ⟨x9, ex9, rx9⟩ := hp ⟨9, .data⟩ (by simp) rfl _ _ rfl rfl
      obtain rfl : x9 = _ := rx9
      have fc0 := (hDW.below hF.1).most
      exact ⟨_, by simp [execOp, go_sem, ex9, fc0], rfl⟩
    · refine jk_val rfl (by decide) (fun a u hF hk hp => ?_)
      have es3 := (hk 3 (keep_of (by kernel_rfl))).trans (show _ = some (.pointer (some ⟨sb, 0, none⟩)) from rfl)
      exact ⟨_, by simp [execOp, go_sem, es3], rfl⟩
    · refine jk_val rfl (by decide) (fun a u hF hk hp => ?_)
      obtain ⟨x11, ex11, rx11⟩ := hp ⟨11, .data⟩ (by simp) rfl _ _ rfl rfl
      obtain rfl : x11 = _ := rx11
      have fc0 := hF.2.1.cell 2
      exact ⟨_, by simp [execOp, go_sem, ex11, fc0], rfl⟩
    · refine jk_val rfl (by decide) (fun a u hF hk hp => ?_)
      have es0 := (hk 0 (keep_of (by kernel_rfl))).trans (show _ = some (.pointer (some ⟨g, 0, none⟩)) from rfl)
      exact ⟨_, by simp [execOp, go_sem, es0], rfl⟩
    · refine jk_val rfl (by decide) (fun a u hF hk hp => ?_)
      obtain ⟨x13, ex13, rx13⟩ := hp ⟨13, .data⟩ (by simp) rfl _ _ rfl rfl
      obtain rfl : x13 = _ := rx13
      exact ⟨_, by simp [execOp, go_sem, ex13], rfl⟩
    · refine jk_val rfl (by decide) (fun a u hF hk hp => ?_)
      obtain ⟨x14, ex14, rx14⟩ := hp ⟨14, .data⟩ (by simp) rfl _ _ rfl rfl
      obtain rfl : x14 = _ := rx14
      exact ⟨_, by simp [execOp, go_sem, ex14], rfl⟩
    · refine jk_val rfl (by decide) (fun a u hF hk hp => ?_)
      obtain ⟨x15, ex15, rx15⟩ := hp ⟨15, .data⟩ (by simp) rfl _ _ rfl rfl
      obtain rfl : x15 = _ := rx15
      have fc0 := (hDW.below hF.1).most
      exact ⟨_, by simp [execOp, go_sem, ex15, fc0], rfl⟩
    · refine jk_call rfl (by decide) (grows_and (grows_bel _) (grows_and (grows_blk _ _ _) (grows_blk _ _ _))) (grows_blk _ _ _) (grows_blk _ _ _) (fun a u hF hk hp => ?_)
      obtain ⟨x4, ex4, rx4⟩ := hp ⟨4, .data⟩ (by simp) rfl _ _ rfl rfl
      obtain rfl : x4 = _ := rx4
      obtain ⟨x6, ex6, rx6⟩ := hp ⟨6, .data⟩ (by simp) rfl _ _ rfl rfl
      obtain rfl : x6 = _ := rx6
      obtain ⟨x10, ex10, rx10⟩ := hp ⟨10, .data⟩ (by simp) rfl _ _ rfl rfl
      obtain rfl : x10 = _ := rx10
      obtain ⟨x12, ex12, rx12⟩ := hp ⟨12, .data⟩ (by simp) rfl _ _ rfl rfl
      obtain rfl : x12 = _ := rx12
      obtain ⟨x16, ex16, rx16⟩ := hp ⟨16, .data⟩ (by simp) rfl _ _ rfl rfl
      obtain rfl : x16 = _ := rx16
      exact ⟨92, #[.agg (ptsC 4 P.nm), .int .i64 (i : Int), .int .i64 M, .int .i64 (j : Int), .int .i64 M], _, by simp [execOp, go_sem, ex4, ex6, ex10, ex12, ex16], gcall kC u, rfl⟩
    · refine jk_val rfl (by decide) (fun a u hF hk hp => ?_)
      obtain ⟨x17, ex17, rx17⟩ := hp ⟨17, .data⟩ (by simp) rfl _ _ rfl rfl
      obtain rfl : x17 = _ := rx17
      exact ⟨_, by simp [execOp, go_sem, ex17], rfl⟩
    · refine jk_val rfl (by decide) (fun a u hF hk hp => ?_)
      obtain ⟨x18, ex18, rx18⟩ := hp ⟨18, .data⟩ (by simp) rfl _ _ rfl rfl
      obtain rfl : x18 = _ := rx18
      exact ⟨_, by simp [execOp, go_sem, ex18], rfl⟩
    · refine jk_val rfl (by decide) (fun a u hF hk hp => ?_)
      obtain ⟨x18, ex18, rx18⟩ := hp ⟨18, .data⟩ (by simp) rfl _ _ rfl rfl
      obtain rfl : x18 = _ := rx18
      exact ⟨_, by simp [execOp, go_sem, ex18], rfl⟩
    · refine jk_store rfl rfl (fun a u hF hA hk hp => ?_)
      have es5 := (hk 5 (keep_of (by kernel_rfl))).trans (show _ = some (.pointer (some ⟨sb + 1 + 1, 0, none⟩)) from rfl)
      obtain ⟨x19, ex19, rx19⟩ := hp ⟨19, .data⟩ (by simp) rfl _ _ rfl rfl
      obtain rfl : x19 = _ := rx19
      exact wp_store_row 23 _ _ rfl (sb + 1 + 1) _ (eval_tmp es5) (eval_tmp ex19) 23 _ hA infoVm rfl (by simp [Value.oneCell']) ⟨_, rfl, ⟨bel_setRow hF.1 (by omega) _, hF.2.1.farRow _ (by omega), hF.2.2.farRow _ (by omega)⟩, hA.setRow _⟩
    · trivial
  · intro a W1 listed hJ hall hsz hdf hk hgot
    obtain ⟨hF, hB⟩ := jk_end hJ (by decide : 21 < 22) hall
    clear hJ hall
    obtain ⟨f, hf, rfl⟩ := frame_eq hsz hdf hk [9, 10, 11, 12, 13, 14, 15, 16, 17, 18, 19, 20, 21, 22, 23, 24, 25, 26, 8, 27, 28] (by rfl)
    clear hsz hdf hk hgot hf 
    simp only [List.drop_succ_cons, List.drop_zero, setAll, List.setIfInBounds_toArray, List.set_cons_succ, List.set_cons_zero]
    generalize f 9 = uu9; generalize f 10 = uu10; generalize f 11 = uu11; generalize f 12 = uu12; generalize f 13 = uu13; generalize f 14 = uu14; generalize f 15 = uu15; generalize f 16 = uu16; generalize f 17 = uu17; generalize f 18 = uu18; generalize f 19 = uu19; generalize f 20 = uu20; generalize f 21 = uu21; generalize f 22 = uu22; generalize f 23 = uu23; generalize f 24 = uu24; generalize f 25 = uu25; generalize f 26 = uu26; generalize f 8 = uu8; generalize f 27 = uu27; generalize f 28 = uu28
    obtain ⟨hx, _, hR3⟩ := hF
    replace hB : Blk W1 (sb + 1 + 1) 23 #[.int .i64 r.x, .int .i64 r.y, .int .i64 r.z] := hB
    clear hD hS hSc0 hSc1 hSc2 hSl hRl hLl hL hR hb0 f
    go_wp2_with (first | (refine getV rfl _ rfl (sb + 1 + 1) rfl r hB ?_; simp only [Act.put, List.setIfInBounds_toArray, List.set_cons_succ, List.set_cons_zero]) | (refine putV rfl _ _ rfl (sb + 1) r rfl rfl _ rfl hR3 ?_; simp only [Act.put, List.setIfInBounds_toArray, List.set_cons_succ, List.set_cons_zero]) | fail)
    exact bodyPost_ret (results_cell_row rfl _ _ (sb + 1) 23 #[.int .i64 r.x, .int .i64 r.y, .int .i64 r.z] (0, 0) _ rfl (hR3.setRow _) Try.underlying23 rfl infoVm) rfl ⟨rfl, bel_setRow hx (by omega) _⟩
/-- Where to a spot is lifted. -/
theorem dir_any (W : World) (g : Nat) (P : Pch) (cage id : Int) (q : Nat → Int) (tv : Value) (h : Int) (hD : DcB W g P cage id q (mxI q 4) tv h) (hq : okQ q) {s : Spt} (hs : spIn q s) :
    Calls Try.prog 72 #[.pointer (some ⟨g, 0, none⟩), .agg #[.int .i64 s.1, .int .i64 s.2.1, .int .i64 s.2.2]] W fun e w' => e = .returned (.agg #[.int .i64 (msD P.nm q s).x, .int .i64 (msD P.nm q s).y, .int .i64 (msD P.nm q s).z]) ∧ Below W.heap.size W w' := by
  have hm : mxI q 4 ≤ 16 := by
    have := most_bd (okQ_r hq)
    rw [mxI_rQ hq]
    omega
  rcases hs with ⟨k, hk, rfl⟩ | ⟨k, i, hk, h1, h2, rfl⟩ | ⟨a, b, h1, h2, h3, h4, rfl⟩
  · rw [msD_cor]; exact dir_cor W g P cage id q _ tv h hD k hk
  · rw [msD_edg]; exact dir_edg W g P cage id q _ tv h hD k i hk h2 (hq k hk).2
  · rw [msD_inn]; exact dir_inn W g P cage id q _ tv h hD a b hm h2 h4
end Go.Proofs.Ytpaehkjnefgaiaa
namespace Go.Proofs.Ytpaehkjnefgaiaa
set_option linter.unusedVariables false
set_option linter.unusedSimpArgs false
set_option linter.unnecessarySimpa false
/-- Is an edge a part of a side, from its first corner on? -/
def partB (r : Nat → Nat) (e : Edg) : Bool := (List.range 4).any fun k => (List.range (r k)).any fun i => decide (e = (outS k (r k) i, outS k (r k) (i + 1)))
theorem partB_iff {r : Nat → Nat} {e : Edg} : partB r e = true ↔ ∃ k, k < 4 ∧ InO k (r k) 0 e := by
  unfold partB InO
  simp only [List.any_eq_true, List.mem_range, decide_eq_true_eq]
  constructor
  · rintro ⟨k, h1, i, h2, h3⟩; exact ⟨k, h1, i, by omega, h2, h3⟩
  · rintro ⟨k, h1, i, _, h2, h3⟩; exact ⟨k, h1, i, h2, h3⟩
theorem partB_no {r : Nat → Nat} {e : Edg} (h : (∃ a b, e.1 = innS a b) ∨ ∃ a b, e.2 = innS a b) : partB r e = false := by
  cases hp : partB r e with
  | false => rfl
  | true =>
    obtain ⟨k, _, i, _, _, rfl⟩ := partB_iff.1 hp
    rcases h with ⟨a, b, h⟩ | ⟨a, b, h⟩
    · exact absurd h out_ne_inn
    · exact absurd (show outS k (r k) (i + 1) = innS a b from h) out_ne_inn
theorem partB_bes1 {r : Nat → Nat} {k t R : Nat} {x : Spt} : partB r (besS k t R, x) = false := partB_no (.inl (bes_inn k t R))
theorem partB_bes2 {r : Nat → Nat} {k t R : Nat} {x : Spt} : partB r (x, besS k t R) = false := partB_no (.inr (bes_inn k t R))
theorem partB_out {r : Nat → Nat} {k i : Nat} (hk : k < 4) (hi : i < r k) : partB r (outS k (r k) i, outS k (r k) (i + 1)) = true := partB_iff.2 ⟨k, hk, i, by omega, hi, rfl⟩
theorem upTo_count {α : Type} {f : Nat → List α} {p : α → Bool} {c : Nat → Nat} : ∀ n, (∀ i, i < n → (f i).countP p = c i) → (upTo f n).countP p = ((List.range n).map c).sum
  | 0, _ => by simp [upTo]
  | n + 1, h => by
    show (upTo f n ++ f n).countP p = _
    rw [List.countP_append, upTo_count n (fun i hi => h i (by omega)), h n (by omega), List.range_succ, List.map_append, List.sum_append]
    simp
theorem sqs_count (r : Nat → Nat) (R : Nat) : ((sqRows R (R - 2)).flatMap edsS).countP (partB r) = 0 := by
  rw [List.countP_eq_zero]
  intro e he
  have h := InQ_inn (mem_sqRows.1 he)
  rw [partB_no (.inl h.1)]; simp
theorem stp_count (r : Nat → Nat) (k R : Nat) (hk : k < 4) : ∀ n i t, i ≤ r k → t ≤ R - 1 → leftS (r k) R i t = n → ((stpS k (r k) R n i t).flatMap edsS).countP (partB r) = r k - i
  | 0, i, t, hi, ht, hn => by
    unfold leftS at hn
    simp [stpS]; omega
  | n + 1, i, t, hi, ht, hn => by
    unfold stpS
    by_cases hg : goA (r k) R i t
    · rw [if_pos hg, eds_A]
      obtain ⟨h1, h2⟩ := left_A hg hn
      rw [List.countP_cons, List.countP_cons, List.countP_cons, stp_count r k R hk n (i + 1) t h2 ht h1, partB_out hk (by omega), partB_bes2, partB_bes1]
      simp; omega
    · rw [if_neg hg, eds_B]
      obtain ⟨h1, h2⟩ := left_B (not_goA hg hi ht hn) hn
      rw [List.countP_cons, List.countP_cons, List.countP_cons, stp_count r k R hk n i (t + 1) hi h2 h1]
      simp [partB_bes1, partB_bes2]
theorem edR_count {r : Nat → Nat} {R : Nat} (hR : 2 ≤ R) : (edR r R).countP (partB r) = r 0 + r 1 + r 2 + r 3 := by
  rw [edR_two hR, List.countP_append, sqs_count, upTo_count (c := fun k => r k) 4 (fun k hk => by
    have := stp_count r k R hk _ 0 1 (by omega) (by omega) rfl
    rw [Nat.sub_zero] at this
    exact this)]
  simp [List.range_succ]
  omega
/-- Each spot is an edge's first. -/
theorem used_all {r : Nat → Nat} {R : Nat} (hR : 2 ≤ R) (hr : ∀ k, k < 4 → 1 ≤ r k) {s : Spt} (hs : s ∈ spotsR r R) : ∃ u, (s, u) ∈ edR r R := by
  rcases mem_spots.1 hs with ⟨k, h1, rfl⟩ | ⟨k, i, h1, h2, h3, rfl⟩ | ⟨a, b, h1, h2, h3, h4, rfl⟩
  · exact ⟨_, (mem_edR hR).2 (.inr ⟨k, h1, strip_O (j := 0) hR (by have := hr k h1; omega)⟩)⟩
  · have h := strip_O (k := k) (r := r k) (R := R) (j := i) hR h3
    rw [out_mid h2 h3] at h
    exact ⟨_, (mem_edR hR).2 (.inr ⟨k, h1, h⟩)⟩
  · by_cases e : R = 2
    · have h := strip_first (k := 0) (r := r 0) (R := R) (hr 0 (by omega)) hR
      refine ⟨outS 0 (r 0) 0, (mem_edR hR).2 (.inr ⟨0, by omega, ?_⟩)⟩
      · have : innS a b = besS 0 1 R := by
          obtain rfl : a = 1 := by omega
          obtain rfl : b = 1 := by omega
          rfl
        rw [this]; exact h
    · by_cases ha : a + 1 < R
      · by_cases hb : b + 1 < R
        · exact ⟨_, (mem_edR hR).2 (.inl ⟨a, b, h1, ha, h3, hb, .inl rfl⟩)⟩
        · refine ⟨innS a (b - 1), (mem_edR hR).2 (.inl ⟨a, b - 1, h1, ha, by omega, by omega, ?_⟩)⟩
          rw [show innS a b = innS a (b - 1 + 1) by rw [show b - 1 + 1 = b by omega]]
          exact .inr (.inr (.inr (.inr (.inr rfl))))
      · by_cases hb : b + 1 < R
        · refine ⟨innS a (b + 1), (mem_edR hR).2 (.inl ⟨a - 1, b, by omega, by omega, h3, hb, ?_⟩)⟩
          rw [show innS a b = innS (a - 1 + 1) b by rw [show a - 1 + 1 = a by omega], show innS a (b + 1) = innS (a - 1 + 1) (b + 1) by rw [show a - 1 + 1 = a by omega]]
          exact .inr (.inl rfl)
        · refine ⟨innS (a - 1) (b - 1), (mem_edR hR).2 (.inl ⟨a - 1, b - 1, by omega, by omega, by omega, by omega, ?_⟩)⟩
          rw [show innS a b = innS (a - 1 + 1) (b - 1 + 1) by rw [show b - 1 + 1 = b by omega, show a - 1 + 1 = a by omega]]
          exact .inr (.inr (.inl rfl))
/-- An edge by the numbers of its spots. -/
abbrev NEd := Nat × Nat
def edsN (t : NTri) : List NEd := [(t.1, t.2.1), (t.2.1, t.2.2), (t.2.2, t.1)]
def numE (P : List Spt) (e : Edg) : NEd := (nof P e.1, nof P e.2)
theorem edsN_num (P : List Spt) (t : Tri) : edsN (num3 P t) = (edsS t).map (numE P) := rfl
theorem eds_num (P : List Spt) (l : List Tri) : (numT P l).flatMap edsN = (l.flatMap edsS).map (numE P) := by
  induction l with
  | nil => rfl
  | cons t l ih =>
    show edsN (num3 P t) ++ (numT P l).flatMap edsN = (edsS t ++ l.flatMap edsS).map (numE P)
    rw [List.map_append, ih, edsN_num]
/-- What the law on edges asks of spots and triangles. -/
structure TightP (r : Nat → Nat) (S : List Spt) (T : List NTri) : Prop where
  lt : ∀ e ∈ T.flatMap edsN, e.1 < S.length ∧ e.2 < S.length ∧ e.1 ≠ e.2
  nodup : (T.flatMap edsN).Nodup
  back : ∀ e ∈ T.flatMap edsN, ∀ a b, S[e.1]? = some a → S[e.2]? = some b → (partB r (a, b) = true ∧ (e.2, e.1) ∉ T.flatMap edsN) ∨ (partB r (a, b) = false ∧ (e.2, e.1) ∈ T.flatMap edsN)
  cnt : ((T.flatMap edsN).countP fun e => partB r (S.getD e.1 (0, 0, 0), S.getD e.2 (0, 0, 0))) = r 0 + r 1 + r 2 + r 3
  used : ∀ j, j < S.length → ∃ e ∈ T.flatMap edsN, e.1 = j
theorem nodup_map_inj {α β : Type} {f : α → β} : ∀ {l : List α}, l.Nodup → (∀ x ∈ l, ∀ y ∈ l, f x = f y → x = y) → (l.map f).Nodup
  | [], _, _ => List.nodup_nil
  | a :: l, h, hi => by
    rw [List.nodup_cons] at h
    rw [List.map_cons, List.nodup_cons]
    refine ⟨fun hm => ?_, nodup_map_inj h.2 (fun x hx y hy => hi x (List.mem_cons_of_mem _ hx) y (List.mem_cons_of_mem _ hy))⟩
    obtain ⟨b, hb, e⟩ := List.mem_map.1 hm
    have := hi b (List.mem_cons_of_mem _ hb) a List.mem_cons_self e
    subst this
    exact h.1 hb
theorem tris_in3 {r : Nat → Nat} {R : Nat} (hR : 2 ≤ R) (hr : ∀ k, k < 4 → 1 ≤ r k) : ∀ t ∈ trisR r R, in3 (spotsR r R) t := fun t ht => by
  unfold trisR at ht
  rw [if_neg (by omega)] at ht
  rcases List.mem_append.1 ht with h | h
  · unfold sqRows sqRow sqA sqS at h
    obtain ⟨b, hb, h⟩ := mem_upTo.1 h
    obtain ⟨a, ha, h⟩ := mem_upTo.1 h
    simp only [List.mem_cons, List.not_mem_nil, or_false] at h
    rcases h with rfl | rfl
    · exact ⟨inn_in (by omega) (by omega) (by omega) (by omega), inn_in (by omega) (by omega) (by omega) (by omega), inn_in (by omega) (by omega) (by omega) (by omega)⟩
    · exact ⟨inn_in (by omega) (by omega) (by omega) (by omega), inn_in (by omega) (by omega) (by omega) (by omega), inn_in (by omega) (by omega) (by omega) (by omega)⟩
  · unfold stripsS at h
    obtain ⟨k, hk, h⟩ := mem_upTo.1 h
    exact strip_in3 hk (hr k hk) hR t h
theorem edR_in {r : Nat → Nat} {R : Nat} (hR : 2 ≤ R) (hr : ∀ k, k < 4 → 1 ≤ r k) : ∀ e ∈ edR r R, e.1 ∈ spotsR r R ∧ e.2 ∈ spotsR r R := fun e he => by
  unfold edR at he
  obtain ⟨t, ht, h⟩ := List.mem_flatMap.1 he
  obtain ⟨h1, h2, h3⟩ := tris_in3 hR hr t ht
  unfold edsS at h
  simp only [List.mem_cons, List.not_mem_nil, or_false] at h
  rcases h with rfl | rfl | rfl
  · exact ⟨h1, h2⟩
  · exact ⟨h2, h3⟩
  · exact ⟨h3, h1⟩
theorem edR_ne {r : Nat → Nat} {R : Nat} (hR : 2 ≤ R) (hr : ∀ k, k < 4 → 1 ≤ r k) : ∀ e ∈ edR r R, e.1 ≠ e.2 := fun e he h => by
  rcases (mem_edR hR).1 he with h1 | ⟨k, hk, h1⟩
  · obtain ⟨a, b, _, _, _, _, h2⟩ := h1
    unfold InQ1 innS at h2
    rcases h2 with rfl | rfl | rfl | rfl | rfl | rfl <;> simp only [Prod.mk.injEq] at h <;> omega
  · rcases mem_strip_in (hr k hk) hk hR h1 with ⟨j, _, hj, rfl⟩ | ⟨u, _, hu, rfl⟩ | ⟨j, u, _, _, _, _, _, rfl⟩ | ⟨j, u, _, _, _, _, _, rfl⟩
    · have := out_inj (hr k hk) hk (show j ≤ r k by omega) (show j + 1 ≤ r k by omega) h; omega
    · have := bes_inj (show u + 1 ≤ R by omega) (show u ≤ R by omega) h; omega
    · exact bes_ne_out h
    · exact out_ne_bes h
theorem getD_nof {l : List Spt} {s d : Spt} (h : s ∈ l) : l.getD (nof l s) d = s := by
  rw [List.getD, nof_get h]; rfl
theorem tight_two {r : Nat → Nat} {R : Nat} (hR : 2 ≤ R) (hr : ∀ k, k < 4 → 1 ≤ r k) : TightP r (spotsR r R) (numT (spotsR r R) (trisR r R)) := by
  have hin := edR_in hR hr
  have he : (numT (spotsR r R) (trisR r R)).flatMap edsN = (edR r R).map (numE (spotsR r R)) := eds_num _ _
  have hinj : ∀ x ∈ edR r R, ∀ y : Edg, y.1 ∈ spotsR r R → y.2 ∈ spotsR r R → numE (spotsR r R) x = numE (spotsR r R) y → x = y := fun x hx y h1 h2 h => by
    obtain ⟨x1, x2⟩ := hin x hx
    unfold numE at h
    simp only [Prod.mk.injEq] at h
    exact Prod.ext (nof_inj x1 h1 h.1) (nof_inj x2 h2 h.2)
  refine ⟨?_, ?_, ?_, ?_, ?_⟩
  · rw [he]
    intro e h
    obtain ⟨x, hx, rfl⟩ := List.mem_map.1 h
    obtain ⟨x1, x2⟩ := hin x hx
    exact ⟨nof_lt x1, nof_lt x2, fun h => edR_ne hR hr x hx (nof_inj x1 x2 h)⟩
  · rw [he]
    exact nodup_map_inj (edR_nodup hR hr) (fun x hx y hy => hinj x hx y (hin y hy).1 (hin y hy).2)
  · rw [he]
    intro e h a b ha hb
    obtain ⟨x, hx, rfl⟩ := List.mem_map.1 h
    obtain ⟨x1, x2⟩ := hin x hx
    unfold numE at ha hb
    simp only at ha hb
    rw [nof_get x1] at ha
    rw [nof_get x2] at hb
    obtain rfl := Option.some.inj ha
    obtain rfl := Option.some.inj hb
    by_cases hp : partB r (x.1, x.2) = true
    · refine .inl ⟨hp, fun hm => ?_⟩
      obtain ⟨k, hk, hO⟩ := partB_iff.1 hp
      obtain ⟨y, hy, e⟩ := List.mem_map.1 hm
      have := hinj y hy (bck x) x2 x1 e
      subst this
      exact O_once hR hr hk hO hy
    · refine .inr ⟨by simpa using hp, ?_⟩
      rcases edR_back hR hr hx with ⟨k, hk, hO⟩ | h
      · exact absurd (partB_iff.2 ⟨k, hk, hO⟩) hp
      · exact List.mem_map.2 ⟨bck x, h, rfl⟩
  · rw [he, List.countP_map, ← edR_count hR]
    refine List.countP_congr fun x hx => ?_
    obtain ⟨x1, x2⟩ := hin x hx
    unfold numE
    simp only [Function.comp]
    rw [getD_nof x1, getD_nof x2]
  · intro j hj
    have hm := List.getElem_mem hj
    obtain ⟨u, hu⟩ := used_all hR hr hm
    rw [he]
    refine ⟨_, List.mem_map.2 ⟨_, hu, rfl⟩, ?_⟩
    exact nof_at (spots_nodup r R) (List.getElem?_eq_getElem hj)
theorem partB_ext {r s : Nat → Nat} (h : ∀ k, k < 4 → r k = s k) : partB r = partB s := by
  funext e
  unfold partB
  simp only [show List.range 4 = [0, 1, 2, 3] from rfl, List.any_cons, List.any_nil, h 0 (by omega), h 1 (by omega), h 2 (by omega), h 3 (by omega)]
theorem tight_one : TightP (fun _ => 1) (spotsW fun _ => 1) (trisW fun _ => 1) := by
  have e1 : spotsW (fun _ => 1) = [(1, 0, 0), (1, 1, 0), (1, 2, 0), (1, 3, 0)] := by decide +kernel
  have e2 : trisW (fun _ => 1) = [(0, 1, 2), (0, 2, 3)] := by decide +kernel
  rw [e1, e2]
  refine ⟨by decide +kernel, by decide +kernel, ?_, by decide +kernel, ?_⟩
  · intro e he a b ha hb
    have he2 : e ∈ [((0 : Nat), (1 : Nat)), (1, 2), (2, 0), (0, 2), (2, 3), (3, 0)] := he
    simp only [List.mem_cons, List.not_mem_nil, or_false] at he2
    rcases he2 with rfl | rfl | rfl | rfl | rfl | rfl <;> simp at ha hb <;> subst ha <;> subst hb <;> decide +kernel
  · intro j hj
    have hj4 : j < 4 := hj
    rcases four1 hj4 with rfl | rfl | rfl | rfl
    · exact ⟨(0, 1), by decide +kernel, rfl⟩
    · exact ⟨(1, 2), by decide +kernel, rfl⟩
    · exact ⟨(2, 0), by decide +kernel, rfl⟩
    · exact ⟨(3, 0), by decide +kernel, rfl⟩
theorem tight_any {r : Nat → Nat} (hr : ∀ k, k < 4 → 1 ≤ r k ∧ r k ≤ 16) : TightP r (spotsW r) (trisW r) := by
  obtain ⟨h1, h2⟩ := most_bd hr
  by_cases e : mxR r 4 = 1
  · have hr1 : ∀ k, k < 4 → r k = (fun _ => 1 : Nat → Nat) k := fun k hk => by
      have h3 := (hr k hk).1
      have h4 : r k ≤ mxR r 4 := by
        show r k ≤ max (max (max (max 0 (r 0)) (r 1)) (r 2)) (r 3)
        rcases four1 hk with rfl | rfl | rfl | rfl <;> omega
      show r k = 1
      omega
    have ht := tight_one
    rw [← spotsW_ext hr1, ← trisW_ext hr1] at ht
    exact ⟨ht.lt, ht.nodup, by rw [partB_ext hr1]; exact ht.back, by rw [partB_ext hr1, hr1 0 (by omega), hr1 1 (by omega), hr1 2 (by omega), hr1 3 (by omega)]; exact ht.cnt, ht.used⟩
  · exact tight_two (by omega) (fun k hk => (hr k hk).1)
end Go.Proofs.Ytpaehkjnefgaiaa
namespace Go.Proofs.Ytpaehkjnefgaiaa
open Go.RowKit
set_option linter.unusedVariables false
set_option linter.unusedSimpArgs false
set_option linter.unnecessarySimpa false
/-! moved -/
/-! a finer unit -/
/-! keys -/
def dist4 (co : Nat → Int) : Prop := ∀ i, i < 4 → ∀ k, k < i → co i ≠ co k
theorem dist4.inj {co : Nat → Int} (h : dist4 co) {i k : Nat} (hi : i < 4) (hk : k < 4) (e : co i = co k) : i = k := by
  rcases Nat.lt_trichotomy i k with g | g | g
  · exact absurd e.symm (h k hk i g)
  · exact g
  · exact absurd e (h i hi k g)
theorem msK_cor (co : Nat → Int) (cage id : Int) (q : Nat → Int) (k : Nat) : msK co cage id q (corS k) = (1, cage, co k, 0, 0) := by
  unfold msK corS
  rw [if_pos rfl]
  simp only [Int.toNat_natCast]
theorem msK_edg (co : Nat → Int) (cage id : Int) (q : Nat → Int) (k i : Nat) : msK co cage id q (edgS k i) = if co ((k + 1) % 4) < co k then (2, cage, co ((k + 1) % 4), co k, q k - (i : Int)) else (2, cage, co k, co ((k + 1) % 4), (i : Int)) := by
  unfold msK edgS
  rw [if_neg (by show ¬ (2 : Int) = 1; decide), if_pos rfl]
  simp only [Int.toNat_natCast]
theorem msK_inn (co : Nat → Int) (cage id : Int) (q : Nat → Int) (a b : Nat) : msK co cage id q (innS a b) = (3, id, (a : Int), (b : Int), 0) := by
  unfold msK innS
  rw [if_neg (by show ¬ (3 : Int) = 1; decide), if_neg (by show ¬ (3 : Int) = 2; decide)]
theorem msK_kind (co : Nat → Int) (cage id : Int) (q : Nat → Int) (k i : Nat) : (msK co cage id q (edgS k i)).1 = 2 := by
  rw [msK_edg]
  split <;> rfl
theorem pair_side {co : Nat → Int} (h : dist4 co) {k j : Nat} (hk : k < 4) (hj : j < 4) (e : (co k = co j ∧ co ((k + 1) % 4) = co ((j + 1) % 4)) ∨ (co k = co ((j + 1) % 4) ∧ co ((k + 1) % 4) = co j)) : k = j := by
  rcases e with ⟨a, _⟩ | ⟨a, b⟩
  · exact h.inj hk hj a
  · have a := h.inj hk (Nat.mod_lt _ (by omega)) a
    have b := h.inj (Nat.mod_lt _ (by omega)) hj b
    omega
theorem msK_inj {co : Nat → Int} (h : dist4 co) (cage id : Int) {q : Nat → Int} {s t : Spt} (hs : spIn q s) (ht : spIn q t) (e : msK co cage id q s = msK co cage id q t) : s = t := by
  rcases hs with ⟨k, hk, rfl⟩ | ⟨k, i, hk, h1, h2, rfl⟩ | ⟨a, b, h1, h2, h3, h4, rfl⟩ <;> rcases ht with ⟨k', hk', rfl⟩ | ⟨k', i', hk', h1', h2', rfl⟩ | ⟨a', b', h1', h2', h3', h4', rfl⟩
  · rw [msK_cor, msK_cor] at e
    rw [h.inj hk hk' (by simpa using e)]
  · have := congrArg (·.1) e
    simp only [msK_kind, msK_cor] at this
    omega
  · rw [msK_cor, msK_inn] at e
    have := congrArg (·.1) e
    simp only at this
    omega
  · have := congrArg (·.1) e
    simp only [msK_kind, msK_cor] at this
    omega
  · rw [msK_edg, msK_edg] at e
    have hkk : k = k' := by
      refine pair_side h hk hk' ?_
      split at e <;> split at e <;> (simp only [Prod.mk.injEq] at e; omega)
    subst hkk
    have : (i : Int) = (i' : Int) := by
      split at e <;> (simp only [Prod.mk.injEq] at e; omega)
    rw [show i = i' by omega]
  · have := congrArg (·.1) e
    simp only [msK_kind, msK_inn] at this
    omega
  · rw [msK_cor, msK_inn] at e
    have := congrArg (·.1) e
    simp only at this
    omega
  · have := congrArg (·.1) e
    simp only [msK_kind, msK_inn] at this
    omega
  · rw [msK_inn, msK_inn] at e
    simp only [Prod.mk.injEq] at e
    rw [show a = a' by omega, show b = b' by omega]
theorem spots_nodupW (r : Nat → Nat) : (spotsW r).Nodup := spots_nodup r _
theorem keys_nodup {co : Nat → Int} (h : dist4 co) (cage id : Int) {q : Nat → Int} (hq : okQ q) : ((spotsW (rQ q)).map (msK co cage id q)).Nodup :=
  nodup_map_inj (spots_nodupW _) fun x hx y hy e => msK_inj h cage id (spIn_of hq hx) (spIn_of hq hy) e
/-! lifted -/
/-! triangles -/
theorem tri_ne {r : Nat → Nat} (hr : ∀ k, k < 4 → 1 ≤ r k ∧ r k ≤ 16) {t : NTri} (ht : t ∈ trisW r) : t.1 ≠ t.2.1 ∧ t.2.1 ≠ t.2.2 ∧ t.2.2 ≠ t.1 ∧ t.1 < (spotsW r).length ∧ t.2.1 < (spotsW r).length ∧ t.2.2 < (spotsW r).length := by
  have T := tight_any hr
  have hm : ∀ e ∈ edsN t, e ∈ (trisW r).flatMap edsN := fun e he => List.mem_flatMap.2 ⟨t, ht, he⟩
  obtain ⟨a1, a2, a3⟩ := T.lt _ (hm (t.1, t.2.1) (by simp [edsN]))
  obtain ⟨b1, b2, b3⟩ := T.lt _ (hm (t.2.1, t.2.2) (by simp [edsN]))
  obtain ⟨c1, c2, c3⟩ := T.lt _ (hm (t.2.2, t.1) (by simp [edsN]))
  exact ⟨a3, b3, c3, a1, b1, c1⟩
end Go.Proofs.Ytpaehkjnefgaiaa
namespace Go.Proofs.Ytpaehkjnefgaiaa
open Go.RowKit
set_option linter.unusedVariables false
set_option linter.unusedSimpArgs false
set_option linter.unnecessarySimpa false
set_option maxRecDepth 100000
theorem infoKy {a b c d e : Value} : (Try.prog.info? 59).map (·.size) = some (#[a, b, c, d, e] : Array Value).size := by kernel_rfl
theorem built_K3 (a b c : Int) : Try.prog.built 59 [(0, .int .i64 a), (1, .int .i64 b), (2, .int .i64 c)] = some #[.int .i64 a, .int .i64 b, .int .i64 c, .int .i64 0, .int .i64 0] := by kernel_rfl
theorem built_K4 (a b c d : Int) : Try.prog.built 59 [(0, .int .i64 a), (1, .int .i64 b), (2, .int .i64 c), (3, .int .i64 d)] = some #[.int .i64 a, .int .i64 b, .int .i64 c, .int .i64 d, .int .i64 0] := by kernel_rfl
theorem built_K5 (a b c d e : Int) : Try.prog.built 59 [(0, .int .i64 a), (1, .int .i64 b), (2, .int .i64 c), (3, .int .i64 d), (4, .int .i64 e)] = some #[.int .i64 a, .int .i64 b, .int .i64 c, .int .i64 d, .int .i64 e] := by kernel_rfl
theorem build_of (a : Act) (o : Oper) {t : TypeId} {parts : Array (Nat × Operand)} (ho : o.op = .build t parts) (u : World) (cs : Array Value) (hb : Try.prog.built t (parts.map fun (i, x) => (i, a.eval x)).toList = some cs) : (execOp a.eval o).run Try.prog u = .ok (.value (.agg cs)) u := by
  unfold execOp
  simp only [ho, Sem.run_bind, run_build u t _ cs hb, Result.andThen_ok, Sem.run_pure]
theorem DcB.co {W : World} {g : Nat} {P : Pch} {cage id : Int} {q : Nat → Int} {M : Int} {tv : Value} {h : Int} (d : DcB W g P cage id q M tv h) {k : Nat} (hk : k < 4) : W.cell? ⟨g, 48 + k, none⟩ = some (.int .i64 (P.co k)) := by
  have := d.pch.co hk
  rwa [Nat.zero_add] at this
/-- A key's cells as an array. -/
@[reducible] def kyA (k : Ky) : Array Value := #[.int .i64 k.1, .int .i64 k.2.1, .int .i64 k.2.2.1, .int .i64 k.2.2.2.1, .int .i64 k.2.2.2.2]
set_option maxHeartbeats 2000000 in
theorem key_cor (W : World) (g : Nat) (P : Pch) (cage id : Int) (q : Nat → Int) (M : Int) (tv : Value) (h : Int) (hD : DcB W g P cage id q M tv h) (k : Nat) (hk4 : k < 4) :
    Calls Try.prog 45 #[.pointer (some ⟨g, 0, none⟩), .agg #[.int .i64 1, .int .i64 (k : Int), .int .i64 0]] W fun e w' => e = .returned (.agg #[.int .i64 1, .int .i64 cage, .int .i64 (P.co k), .int .i64 0, .int .i64 0]) ∧ Below W.heap.size W w' := by
  obtain ⟨W0, hW0⟩ : ∃ W0, W0 = ((W.alloc (.cells #[.int .i64 1, .int .i64 (k:Int), .int .i64 0] 79)).alloc (.cells #[.int .i64 0, .int .i64 0, .int .i64 0, .int .i64 0, .int .i64 0] 59)) := ⟨_, rfl⟩
  have hb0 : Below W.heap.size W W0 := by rw [hW0]; exact bel_alloc (bel_alloc (Below.refl _ _) _) _
  have hS : Blk W0 (W.heap.size) 79 #[.int .i64 1, .int .i64 (k:Int), .int .i64 0] := by rw [hW0]; exact ((Blk.new _ _ _ _ rfl).alloc _)
  have hR : Blk W0 (W.heap.size + 1) 59 #[.int .i64 0, .int .i64 0, .int .i64 0, .int .i64 0, .int .i64 0] := by rw [hW0]; exact (Blk.new _ _ _ _ (by simp))
  have hDW := hD
  replace hD := hD.below hb0
  go_enter Try.func45, Try.ntmps45
  go_upto_region 3 with (fail)
  simp only [← hW0]
  clear hW0
  obtain ⟨sb, hsb⟩ : ∃ b, b = W.heap.size := ⟨_, rfl⟩
  rw [← hsb] at hS hR
  simp only [← hsb]
  have hsW : W.heap.size ≤ sb := by omega
  replace hsb := Lib.hid hsb
  have hSl := hS.lt
  have hRl := hR.lt
  have hSc0 := hS.cell 0
  have hSc1 := hS.cell 1
  have hSc2 := hS.cell 2
  have q0 : (0 : Int) ≤ (k : Int) := by omega
  have q1 : (k : Int) < 4 := by omega
  refine wp_region_monoK2 16 (RKW [.pointer (some ⟨sb, 0, none⟩), .int .i64 1, .pointer (some ⟨g, 0, none⟩), .pointer (some ⟨g, 0, none⟩), .pointer (some ⟨g, 65, none⟩), .int .i64 cage, .pointer (some ⟨g, 0, none⟩), .pointer (some ⟨sb, 1, none⟩), .int .i64 (k : Int), .pointer (some ⟨g, 0, none⟩), .pointer (some ⟨g, 0, none⟩), .pointer (some ⟨g, 48, none⟩), .pointer (some ⟨g, 48 + k, none⟩), .int .i64 (P.co k), .agg #[.int .i64 1, .int .i64 cage, .int .i64 (P.co k), .int .i64 0, .int .i64 0], .int .i64 0]) (JK (fun u => Below W.heap.size W u ∧ Blk u sb 79 #[.int .i64 1, .int .i64 (k : Int), .int .i64 0]) 15 (fun u => Blk u (sb + 1) 59 #[.int .i64 0, .int .i64 0, .int .i64 0, .int .i64 0, .int .i64 0]) (fun u => Blk u (sb + 1) 59 #[.int .i64 1, .int .i64 cage, .int .i64 (P.co k), .int .i64 0, .int .i64 0])) (by kernel_rfl) _ rfl (by kernel_rfl) (by kernel_rfl) (by kernel_rfl) (by kernel_rfl) (by kernel_rfl) (jk_start (by decide) (⟨bel_dr hb0 _, hS⟩) (hR)) ?_ ?_
  · simp only [List.take_succ_cons, List.take_zero]
    refine ⟨?_, ?_, ?_, ?_, ?_, ?_, ?_, ?_, ?_, ?_, ?_, ?_, ?_, ?_, ?_, ?_, ?_⟩
    · refine jk_val rfl (by decide) (fun a u hF hk hp => ?_)
      have es3 := (hk 3 (keep_of (by kernel_rfl))).trans (show _ = some (.pointer (some ⟨sb, 0, none⟩)) from rfl)
      exact ⟨_, by simp [execOp, go_sem, es3], rfl⟩
    · refine jk_val rfl (by decide) (fun a u hF hk hp => ?_)
      obtain ⟨x0, ex0, rx0⟩ := hp ⟨0, .data⟩ (by simp) rfl _ _ rfl rfl
      obtain rfl : x0 = _ := rx0
      have fc0 := hF.2.cell 0
      exact ⟨_, by simp [execOp, go_sem, ex0, fc0], rfl⟩
    · refine jk_val rfl (by decide) (fun a u hF hk hp => ?_)
      have es0 := (hk 0 (keep_of (by kernel_rfl))).trans (show _ = some (.pointer (some ⟨g, 0, none⟩)) from rfl)
      exact ⟨_, by simp [execOp, go_sem, es0], rfl⟩
    · refine jk_val rfl (by decide) (fun a u hF hk hp => ?_)
      obtain ⟨x2, ex2, rx2⟩ := hp ⟨2, .data⟩ (by simp) rfl _ _ rfl rfl
      obtain rfl : x2 = _ := rx2
      exact ⟨_, by simp [execOp, go_sem, ex2], rfl⟩
    · refine jk_val rfl (by decide) (fun a u hF hk hp => ?_)
      obtain ⟨x3, ex3, rx3⟩ := hp ⟨3, .data⟩ (by simp) rfl _ _ rfl rfl
      obtain rfl : x3 = _ := rx3
      exact ⟨_, by simp [execOp, go_sem, ex3], rfl⟩
    · refine jk_val rfl (by decide) (fun a u hF hk hp => ?_)
      obtain ⟨x4, ex4, rx4⟩ := hp ⟨4, .data⟩ (by simp) rfl _ _ rfl rfl
      obtain rfl : x4 = _ := rx4
      have fc0 := (hDW.below hF.1).cage
      exact ⟨_, by simp [execOp, go_sem, ex4, fc0], rfl⟩
    · refine jk_val rfl (by decide) (fun a u hF hk hp => ?_)
      have es0 := (hk 0 (keep_of (by kernel_rfl))).trans (show _ = some (.pointer (some ⟨g, 0, none⟩)) from rfl)
      exact ⟨_, by simp [execOp, go_sem, es0], rfl⟩
    · refine jk_val rfl (by decide) (fun a u hF hk hp => ?_)
      have es3 := (hk 3 (keep_of (by kernel_rfl))).trans (show _ = some (.pointer (some ⟨sb, 0, none⟩)) from rfl)
      exact ⟨_, by simp [execOp, go_sem, es3], rfl⟩
    · refine jk_val rfl (by decide) (fun a u hF hk hp => ?_)
      obtain ⟨x7, ex7, rx7⟩ := hp ⟨7, .data⟩ (by simp) rfl _ _ rfl rfl
      obtain rfl : x7 = _ := rx7
      have fc0 := hF.2.cell 1
      exact ⟨_, by simp [execOp, go_sem, ex7, fc0], rfl⟩
    · refine jk_val rfl (by decide) (fun a u hF hk hp => ?_)
      obtain ⟨x6, ex6, rx6⟩ := hp ⟨6, .data⟩ (by simp) rfl _ _ rfl rfl
      obtain rfl : x6 = _ := rx6
      exact ⟨_, by simp [execOp, go_sem, ex6], rfl⟩
    · refine jk_val rfl (by decide) (fun a u hF hk hp => ?_)
      obtain ⟨x9, ex9, rx9⟩ := hp ⟨9, .data⟩ (by simp) rfl _ _ rfl rfl
      obtain rfl : x9 = _ := rx9
      exact ⟨_, by simp [execOp, go_sem, ex9], rfl⟩
    · refine jk_val rfl (by decide) (fun a u hF hk hp => ?_)
      obtain ⟨x10, ex10, rx10⟩ := hp ⟨10, .data⟩ (by simp) rfl _ _ rfl rfl
      obtain rfl : x10 = _ := rx10
      exact ⟨_, by simp [execOp, go_sem, ex10], rfl⟩
    · refine jk_val rfl (by decide) (fun a u hF hk hp => ?_)
      obtain ⟨x11, ex11, rx11⟩ := hp ⟨11, .data⟩ (by simp) rfl _ _ rfl rfl
      obtain rfl : x11 = _ := rx11
      obtain ⟨x8, ex8, rx8⟩ := hp ⟨8, .data⟩ (by simp) rfl _ _ rfl rfl
      obtain rfl : x8 = _ := rx8
      have fc0 := q0
      have fc1 := q1
      exact ⟨_, by simp [execOp, go_sem, ex11, ex8, fc0, fc1], rfl⟩
    · refine jk_val rfl (by decide) (fun a u hF hk hp => ?_)
      obtain ⟨x12, ex12, rx12⟩ := hp ⟨12, .data⟩ (by simp) rfl _ _ rfl rfl
      obtain rfl : x12 = _ := rx12
      have fc0 := (hDW.below hF.1).co hk4
      exact ⟨_, by simp [execOp, go_sem, ex12, fc0], rfl⟩
    · refine jk_val rfl (by decide) (fun a u hF hk hp => ?_)
      obtain ⟨x1, ex1, rx1⟩ := hp ⟨1, .data⟩ (by simp) rfl _ _ rfl rfl
      obtain rfl : x1 = _ := rx1
      obtain ⟨x5, ex5, rx5⟩ := hp ⟨5, .data⟩ (by simp) rfl _ _ rfl rfl
      obtain rfl : x5 = _ := rx5
      obtain ⟨x13, ex13, rx13⟩ := hp ⟨13, .data⟩ (by simp) rfl _ _ rfl rfl
      obtain rfl : x13 = _ := rx13
      exact ⟨_, build_of _ _ rfl u _ (by simp only [List.map_toArray, List.map_cons, List.map_nil, eval_tmp ex1, eval_tmp ex5, eval_tmp ex13]; exact built_K3 _ _ _), rfl⟩
    · refine jk_store rfl rfl (fun a u hF hA hk hp => ?_)
      have es4 := (hk 4 (keep_of (by kernel_rfl))).trans (show _ = some (.pointer (some ⟨sb + 1, 0, none⟩)) from rfl)
      obtain ⟨x14, ex14, rx14⟩ := hp ⟨14, .data⟩ (by simp) rfl _ _ rfl rfl
      obtain rfl : x14 = _ := rx14
      exact wp_store_row 59 _ _ rfl (sb + 1) _ (eval_tmp es4) (eval_tmp ex14) 59 _ hA infoKy rfl (by simp [Value.oneCell']) ⟨_, rfl, ⟨bel_setRow hF.1 (by omega) _, hF.2.farRow _ (by omega)⟩, hA.setRow _⟩
    · trivial
  · intro a W1 listed hJ hall hsz hdf hk hgot
    obtain ⟨hF, hB⟩ := jk_end hJ (by decide : 15 < 16) hall
    clear hJ hall
    obtain ⟨f, hf, rfl⟩ := frame_eq hsz hdf hk [12, 13, 14, 15, 16, 17, 18, 19, 20, 21, 22, 23, 24, 25, 26] (by rfl)
    clear hsz hdf hk hgot hf 
    simp only [List.drop_succ_cons, List.drop_zero, setAll, List.setIfInBounds_toArray, List.set_cons_succ, List.set_cons_zero]
    generalize f 12 = uu12; generalize f 13 = uu13; generalize f 14 = uu14; generalize f 15 = uu15; generalize f 16 = uu16; generalize f 17 = uu17; generalize f 18 = uu18; generalize f 19 = uu19; generalize f 20 = uu20; generalize f 21 = uu21; generalize f 22 = uu22; generalize f 23 = uu23; generalize f 24 = uu24; generalize f 25 = uu25; generalize f 26 = uu26
    go_wp2
    exact bodyPost_ret (results_cell_row rfl _ _ (sb + 1) 59 _ (0, 0) _ rfl hB Try.underlying59 rfl infoKy) rfl ⟨rfl, hF.1⟩
set_option maxHeartbeats 2000000 in
theorem key_inn (W : World) (g : Nat) (P : Pch) (cage id : Int) (q : Nat → Int) (M : Int) (tv : Value) (h : Int) (hD : DcB W g P cage id q M tv h) (i j : Nat) :
    Calls Try.prog 45 #[.pointer (some ⟨g, 0, none⟩), .agg #[.int .i64 3, .int .i64 (i : Int), .int .i64 (j : Int)]] W fun e w' => e = .returned (.agg #[.int .i64 3, .int .i64 id, .int .i64 (i : Int), .int .i64 (j : Int), .int .i64 0]) ∧ Below W.heap.size W w' := by
  obtain ⟨W0, hW0⟩ : ∃ W0, W0 = ((W.alloc (.cells #[.int .i64 3, .int .i64 (i:Int), .int .i64 (j:Int)] 79)).alloc (.cells #[.int .i64 0, .int .i64 0, .int .i64 0, .int .i64 0, .int .i64 0] 59)) := ⟨_, rfl⟩
  have hb0 : Below W.heap.size W W0 := by rw [hW0]; exact bel_alloc (bel_alloc (Below.refl _ _) _) _
  have hS : Blk W0 (W.heap.size) 79 #[.int .i64 3, .int .i64 (i:Int), .int .i64 (j:Int)] := by rw [hW0]; exact ((Blk.new _ _ _ _ rfl).alloc _)
  have hR : Blk W0 (W.heap.size + 1) 59 #[.int .i64 0, .int .i64 0, .int .i64 0, .int .i64 0, .int .i64 0] := by rw [hW0]; exact (Blk.new _ _ _ _ (by simp))
  have hDW := hD
  replace hD := hD.below hb0
  go_enter Try.func45, Try.ntmps45
  go_upto_region 9 with (fail)
  simp only [← hW0]
  clear hW0
  obtain ⟨sb, hsb⟩ : ∃ b, b = W.heap.size := ⟨_, rfl⟩
  rw [← hsb] at hS hR
  simp only [← hsb]
  have hsW : W.heap.size ≤ sb := by omega
  replace hsb := Lib.hid hsb
  have hSl := hS.lt
  have hRl := hR.lt
  have hSc0 := hS.cell 0
  have hSc1 := hS.cell 1
  have hSc2 := hS.cell 2
  refine wp_region_monoK2 12 (RKW [.pointer (some ⟨sb, 0, none⟩), .int .i64 3, .pointer (some ⟨g, 0, none⟩), .pointer (some ⟨g, 0, none⟩), .pointer (some ⟨g, 66, none⟩), .int .i64 id, .pointer (some ⟨sb, 1, none⟩), .int .i64 (i : Int), .pointer (some ⟨sb, 2, none⟩), .int .i64 (j : Int), .agg #[.int .i64 3, .int .i64 id, .int .i64 (i : Int), .int .i64 (j : Int), .int .i64 0], .int .i64 0]) (JK (fun u => Below W.heap.size W u ∧ Blk u sb 79 #[.int .i64 3, .int .i64 (i : Int), .int .i64 (j : Int)]) 11 (fun u => Blk u (sb + 1) 59 #[.int .i64 0, .int .i64 0, .int .i64 0, .int .i64 0, .int .i64 0]) (fun u => Blk u (sb + 1) 59 #[.int .i64 3, .int .i64 id, .int .i64 (i : Int), .int .i64 (j : Int), .int .i64 0])) (by kernel_rfl) _ rfl (by kernel_rfl) (by kernel_rfl) (by kernel_rfl) (by kernel_rfl) (by kernel_rfl) (jk_start (by decide) (⟨bel_dr hb0 _, hS⟩) (hR)) ?_ ?_
  · simp only [List.take_succ_cons, List.take_zero]
    refine ⟨?_, ?_, ?_, ?_, ?_, ?_, ?_, ?_, ?_, ?_, ?_, ?_, ?_⟩
    · refine jk_val rfl (by decide) (fun a u hF hk hp => ?_)
      have es3 := (hk 3 (keep_of (by kernel_rfl))).trans (show _ = some (.pointer (some ⟨sb, 0, none⟩)) from rfl)
      exact ⟨_, by simp [execOp, go_sem, es3], rfl⟩
    · refine jk_val rfl (by decide) (fun a u hF hk hp => ?_)
      obtain ⟨x0, ex0, rx0⟩ := hp ⟨0, .data⟩ (by simp) rfl _ _ rfl rfl
      obtain rfl : x0 = _ := rx0
      have fc0 := hF.2.cell 0
      exact ⟨_, by simp [execOp, go_sem, ex0, fc0], rfl⟩
    · refine jk_val rfl (by decide) (fun a u hF hk hp => ?_)
      have es0 := (hk 0 (keep_of (by kernel_rfl))).trans (show _ = some (.pointer (some ⟨g, 0, none⟩)) from rfl)
      exact ⟨_, by simp [execOp, go_sem, es0], rfl⟩
    · refine jk_val rfl (by decide) (fun a u hF hk hp => ?_)
      obtain ⟨x2, ex2, rx2⟩ := hp ⟨2, .data⟩ (by simp) rfl _ _ rfl rfl
      obtain rfl : x2 = _ := rx2
      exact ⟨_, by simp [execOp, go_sem, ex2], rfl⟩
    · refine jk_val rfl (by decide) (fun a u hF hk hp => ?_)
      obtain ⟨x3, ex3, rx3⟩ := hp ⟨3, .data⟩ (by simp) rfl _ _ rfl rfl
      obtain rfl : x3 = _ := rx3
      exact ⟨_, by simp [execOp, go_sem, ex3], rfl⟩
    · refine jk_val rfl (by decide) (fun a u hF hk hp => ?_)
      obtain ⟨x4, ex4, rx4⟩ := hp ⟨4, .data⟩ (by simp) rfl _ _ rfl rfl
      obtain rfl : x4 = _ := rx4
      have fc0 := (hDW.below hF.1).id
      exact ⟨_, by simp [execOp, go_sem, ex4, fc0], rfl⟩
    · refine jk_val rfl (by decide) (fun a u hF hk hp => ?_)
      have es3 := (hk 3 (keep_of (by kernel_rfl))).trans (show _ = some (.pointer (some ⟨sb, 0, none⟩)) from rfl)
      exact ⟨_, by simp [execOp, go_sem, es3], rfl⟩
    · refine jk_val rfl (by decide) (fun a u hF hk hp => ?_)
      obtain ⟨x6, ex6, rx6⟩ := hp ⟨6, .data⟩ (by simp) rfl _ _ rfl rfl
      obtain rfl : x6 = _ := rx6
      have fc0 := hF.2.cell 1
      exact ⟨_, by simp [execOp, go_sem, ex6, fc0], rfl⟩
    · refine jk_val rfl (by decide) (fun a u hF hk hp => ?_)
      have es3 := (hk 3 (keep_of (by kernel_rfl))).trans (show _ = some (.pointer (some ⟨sb, 0, none⟩)) from rfl)
      exact ⟨_, by simp [execOp, go_sem, es3], rfl⟩
    · refine jk_val rfl (by decide) (fun a u hF hk hp => ?_)
      obtain ⟨x8, ex8, rx8⟩ := hp ⟨8, .data⟩ (by simp) rfl _ _ rfl rfl
      obtain rfl : x8 = _ := rx8
      have fc0 := hF.2.cell 2
      exact ⟨_, by simp [execOp, go_sem, ex8, fc0], rfl⟩
    · refine jk_val rfl (by decide) (fun a u hF hk hp => ?_)
      obtain ⟨x1, ex1, rx1⟩ := hp ⟨1, .data⟩ (by simp) rfl _ _ rfl rfl
      obtain rfl : x1 = _ := rx1
      obtain ⟨x5, ex5, rx5⟩ := hp ⟨5, .data⟩ (by simp) rfl _ _ rfl rfl
      obtain rfl : x5 = _ := rx5
      obtain ⟨x7, ex7, rx7⟩ := hp ⟨7, .data⟩ (by simp) rfl _ _ rfl rfl
      obtain rfl : x7 = _ := rx7
      obtain ⟨x9, ex9, rx9⟩ := hp ⟨9, .data⟩ (by simp) rfl _ _ rfl rfl
      obtain rfl : x9 = _ := rx9
      exact ⟨_, build_of _ _ rfl u _ (by simp only [List.map_toArray, List.map_cons, List.map_nil, eval_tmp ex1, eval_tmp ex5, eval_tmp ex7, eval_tmp ex9]; exact built_K4 _ _ _ _), rfl⟩
    · refine jk_store rfl rfl (fun a u hF hA hk hp => ?_)
      have es4 := (hk 4 (keep_of (by kernel_rfl))).trans (show _ = some (.pointer (some ⟨sb + 1, 0, none⟩)) from rfl)
      obtain ⟨x10, ex10, rx10⟩ := hp ⟨10, .data⟩ (by simp) rfl _ _ rfl rfl
      obtain rfl : x10 = _ := rx10
      exact wp_store_row 59 _ _ rfl (sb + 1) _ (eval_tmp es4) (eval_tmp ex10) 59 _ hA infoKy rfl (by simp [Value.oneCell']) ⟨_, rfl, ⟨bel_setRow hF.1 (by omega) _, hF.2.farRow _ (by omega)⟩, hA.setRow _⟩
    · trivial
  · intro a W1 listed hJ hall hsz hdf hk hgot
    obtain ⟨hF, hB⟩ := jk_end hJ (by decide : 11 < 12) hall
    clear hJ hall
    obtain ⟨f, hf, rfl⟩ := frame_eq hsz hdf hk [73, 74, 75, 76, 77, 78, 79, 80, 81, 82, 83] (by rfl)
    clear hsz hdf hk hgot hf 
    simp only [List.drop_succ_cons, List.drop_zero, setAll, List.setIfInBounds_toArray, List.set_cons_succ, List.set_cons_zero]
    generalize f 73 = uu73; generalize f 74 = uu74; generalize f 75 = uu75; generalize f 76 = uu76; generalize f 77 = uu77; generalize f 78 = uu78; generalize f 79 = uu79; generalize f 80 = uu80; generalize f 81 = uu81; generalize f 82 = uu82; generalize f 83 = uu83
    go_wp2
    exact bodyPost_ret (results_cell_row rfl _ _ (sb + 1) 59 _ (0, 0) _ rfl hB Try.underlying59 rfl infoKy) rfl ⟨rfl, hF.1⟩
set_option maxHeartbeats 4000000 in
theorem key_edg (W : World) (g : Nat) (P : Pch) (cage id : Int) (q : Nat → Int) (M : Int) (tv : Value) (h : Int) (hD : DcB W g P cage id q M tv h) (k i : Nat) (hk4 : k < 4) (hi : (i : Int) < q k) (hqk : q k ≤ 16) :
    Calls Try.prog 45 #[.pointer (some ⟨g, 0, none⟩), .agg #[.int .i64 2, .int .i64 (k : Int), .int .i64 (i : Int)]] W fun e w' => e = .returned (if P.co ((k + 1) % 4) < P.co k then .agg #[.int .i64 2, .int .i64 cage, .int .i64 (P.co ((k + 1) % 4)), .int .i64 (P.co k), .int .i64 (q k - (i : Int))] else .agg #[.int .i64 2, .int .i64 cage, .int .i64 (P.co k), .int .i64 (P.co ((k + 1) % 4)), .int .i64 (i : Int)]) ∧ Below W.heap.size W w' := by
  have m1 : ((k : Int) + 1).tmod 4 = (((k + 1) % 4 : Nat) : Int) := by rw [Int.tmod_eq_emod_of_nonneg (by omega)]; omega
  have hm4 : (k + 1) % 4 < 4 := Nat.mod_lt _ (by omega)
  generalize (k + 1) % 4 = m at *
  by_cases hlt : P.co m < P.co k
  · rw [if_pos hlt]
    obtain ⟨W0, hW0⟩ : ∃ W0, W0 = ((W.alloc (.cells #[.int .i64 2, .int .i64 (k:Int), .int .i64 (i:Int)] 79)).alloc (.cells #[.int .i64 0, .int .i64 0, .int .i64 0, .int .i64 0, .int .i64 0] 59)) := ⟨_, rfl⟩
    have hb0 : Below W.heap.size W W0 := by rw [hW0]; exact bel_alloc (bel_alloc (Below.refl _ _) _) _
    have hS : Blk W0 (W.heap.size) 79 #[.int .i64 2, .int .i64 (k:Int), .int .i64 (i:Int)] := by rw [hW0]; exact ((Blk.new _ _ _ _ rfl).alloc _)
    have hR : Blk W0 (W.heap.size + 1) 59 #[.int .i64 0, .int .i64 0, .int .i64 0, .int .i64 0, .int .i64 0] := by rw [hW0]; exact (Blk.new _ _ _ _ (by simp))
    have hDW := hD
    replace hD := hD.below hb0
    go_enter Try.func45, Try.ntmps45
    go_upto_region 5 with (fail)
    simp only [← hW0]
    clear hW0
    obtain ⟨sb, hsb⟩ : ∃ b, b = W.heap.size := ⟨_, rfl⟩
    rw [← hsb] at hS hR
    simp only [← hsb]
    have hsW : W.heap.size ≤ sb := by omega
    replace hsb := Lib.hid hsb
    have hSl := hS.lt
    have hRl := hR.lt
    have hSc0 := hS.cell 0
    have hSc1 := hS.cell 1
    have hSc2 := hS.cell 2
    have q0 : (0 : Int) ≤ (k : Int) := by omega
    have q1 : (k : Int) < 4 := by omega
    have q2 : (0 : Int) ≤ (m : Int) := by omega
    have q3 : (m : Int) < 4 := by omega
    have gl := hD.lt
    have ck := hD.co hk4
    have cm := hD.co hm4
    have cq := hD.q k hk4
    refine wp_region_grow (by kernel_rfl) (by kernel_rfl) ?_
    repeat (go_big_quiet_step (((fail))))
    refine wpQuiet_nil ?_
    rintro _ ⟨xg, rfl⟩
    replace hb0 := bel_grow hb0 xg
    replace hS := hS.grow xg
    replace hR := hR.grow xg
    replace hD := hD.grow xg
    clear ck cm cq gl hSl hRl hSc0 hSc1 hSc2
    generalize grow W0 xg = W1 at *
    have hlt2 : P.co k > P.co m := hlt
    go_upto_region 7 with (fail)
    have gl := hD.lt
    have cq := hD.q k hk4
    have hSl := hS.lt
    have hSc0 := hS.cell 0
    have hSc1 := hS.cell 1
    have hSc2 := hS.cell 2
    clear hlt hlt2
    refine wp_region_grow (by kernel_rfl) (by kernel_rfl) ?_
    repeat (go_big_quiet_step (((fail))))
    refine wpQuiet_nil ?_
    rintro _ ⟨xg, rfl⟩
    replace hb0 := bel_grow hb0 xg
    replace hS := hS.grow xg
    replace hR := hR.grow xg
    clear cq gl hSl hSc0 hSc1 hSc2
    generalize grow W1 xg = W2 at *
    go_upto_region 8 with (fail)
    refine wp_region_monoK2 11 (RKW [.pointer (some ⟨sb, 0, none⟩), .int .i64 2, .pointer (some ⟨g, 0, none⟩), .pointer (some ⟨g, 0, none⟩), .pointer (some ⟨g, 65, none⟩), .int .i64 cage, .int .i64 (P.co m), .int .i64 (P.co k), .int .i64 (q k - (i : Int)), .agg #[.int .i64 2, .int .i64 cage, .int .i64 (P.co m), .int .i64 (P.co k), .int .i64 (q k - (i : Int))], .int .i64 0]) (JK (fun u => Below W.heap.size W u ∧ Blk u sb 79 #[.int .i64 2, .int .i64 (k : Int), .int .i64 (i : Int)]) 10 (fun u => Blk u (sb + 1) 59 #[.int .i64 0, .int .i64 0, .int .i64 0, .int .i64 0, .int .i64 0]) (fun u => Blk u (sb + 1) 59 #[.int .i64 2, .int .i64 cage, .int .i64 (P.co m), .int .i64 (P.co k), .int .i64 (q k - (i : Int))])) (by kernel_rfl) _ rfl (by kernel_rfl) (by kernel_rfl) (by kernel_rfl) (by kernel_rfl) (by kernel_rfl) (jk_start (by decide) (⟨bel_dr hb0 _, hS⟩) (hR)) ?_ ?_
    · simp only [List.take_succ_cons, List.take_zero]
      refine ⟨?_, ?_, ?_, ?_, ?_, ?_, ?_, ?_, ?_, ?_, ?_, ?_⟩
      · refine jk_val rfl (by decide) (fun a u hF hk hp => ?_)
        have es3 := (hk 3 (keep_of (by kernel_rfl))).trans (show _ = some (.pointer (some ⟨sb, 0, none⟩)) from rfl)
        exact ⟨_, by simp [execOp, go_sem, es3], rfl⟩
      · refine jk_val rfl (by decide) (fun a u hF hk hp => ?_)
        obtain ⟨x0, ex0, rx0⟩ := hp ⟨0, .data⟩ (by simp) rfl _ _ rfl rfl
        obtain rfl : x0 = _ := rx0
        have fc0 := hF.2.cell 0
        exact ⟨_, by simp [execOp, go_sem, ex0, fc0], rfl⟩
      · refine jk_val rfl (by decide) (fun a u hF hk hp => ?_)
        have es0 := (hk 0 (keep_of (by kernel_rfl))).trans (show _ = some (.pointer (some ⟨g, 0, none⟩)) from rfl)
        exact ⟨_, by simp [execOp, go_sem, es0], rfl⟩
      · refine jk_val rfl (by decide) (fun a u hF hk hp => ?_)
        obtain ⟨x2, ex2, rx2⟩ := hp ⟨2, .data⟩ (by simp) rfl _ _ rfl rfl
        obtain rfl : x2 = _ := rx2
        exact ⟨_, by simp [execOp, go_sem, ex2], rfl⟩
      · refine jk_val rfl (by decide) (fun a u hF hk hp => ?_)
        obtain ⟨x3, ex3, rx3⟩ := hp ⟨3, .data⟩ (by simp) rfl _ _ rfl rfl
        obtain rfl : x3 = _ := rx3
        exact ⟨_, by simp [execOp, go_sem, ex3], rfl⟩
      · refine jk_val rfl (by decide) (fun a u hF hk hp => ?_)
        obtain ⟨x4, ex4, rx4⟩ := hp ⟨4, .data⟩ (by simp) rfl _ _ rfl rfl
        obtain rfl : x4 = _ := rx4
        have fc0 := (hDW.below hF.1).cage
        exact ⟨_, by simp [execOp, go_sem, ex4, fc0], rfl⟩
      · refine jk_val rfl (by decide) (fun a u hF hk hp => ?_)
        have es5 := (hk 5 (keep_of (by kernel_rfl))).trans (show _ = some (.int .i64 (P.co m)) from rfl)
        exact ⟨_, by simp [execOp, go_sem, es5], rfl⟩
      · refine jk_val rfl (by decide) (fun a u hF hk hp => ?_)
        have es6 := (hk 6 (keep_of (by kernel_rfl))).trans (show _ = some (.int .i64 (P.co k)) from rfl)
        exact ⟨_, by simp [execOp, go_sem, es6], rfl⟩
      · refine jk_val rfl (by decide) (fun a u hF hk hp => ?_)
        have es7 := (hk 7 (keep_of (by kernel_rfl))).trans (show _ = some (.int .i64 (q k - (i : Int))) from rfl)
        exact ⟨_, by simp [execOp, go_sem, es7], rfl⟩
      · refine jk_val rfl (by decide) (fun a u hF hk hp => ?_)
        obtain ⟨x1, ex1, rx1⟩ := hp ⟨1, .data⟩ (by simp) rfl _ _ rfl rfl
        obtain rfl : x1 = _ := rx1
        obtain ⟨x5, ex5, rx5⟩ := hp ⟨5, .data⟩ (by simp) rfl _ _ rfl rfl
        obtain rfl : x5 = _ := rx5
        obtain ⟨x6, ex6, rx6⟩ := hp ⟨6, .data⟩ (by simp) rfl _ _ rfl rfl
        obtain rfl : x6 = _ := rx6
        obtain ⟨x7, ex7, rx7⟩ := hp ⟨7, .data⟩ (by simp) rfl _ _ rfl rfl
        obtain rfl : x7 = _ := rx7
        obtain ⟨x8, ex8, rx8⟩ := hp ⟨8, .data⟩ (by simp) rfl _ _ rfl rfl
        obtain rfl : x8 = _ := rx8
        exact ⟨_, build_of _ _ rfl u _ (by simp only [List.map_toArray, List.map_cons, List.map_nil, eval_tmp ex1, eval_tmp ex5, eval_tmp ex6, eval_tmp ex7, eval_tmp ex8]; exact built_K5 _ _ _ _ _), rfl⟩
      · refine jk_store rfl rfl (fun a u hF hA hk hp => ?_)
        have es4 := (hk 4 (keep_of (by kernel_rfl))).trans (show _ = some (.pointer (some ⟨sb + 1, 0, none⟩)) from rfl)
        obtain ⟨x9, ex9, rx9⟩ := hp ⟨9, .data⟩ (by simp) rfl _ _ rfl rfl
        obtain rfl : x9 = _ := rx9
        exact wp_store_row 59 _ _ rfl (sb + 1) _ (eval_tmp es4) (eval_tmp ex9) 59 _ hA infoKy rfl (by simp [Value.oneCell']) ⟨_, rfl, ⟨bel_setRow hF.1 (by omega) _, hF.2.farRow _ (by omega)⟩, hA.setRow _⟩
      · trivial
    · intro a W1 listed hJ hall hsz hdf hk hgot
      obtain ⟨hF, hB⟩ := jk_end hJ (by decide : 10 < 11) hall
      clear hJ hall
      obtain ⟨f, hf, rfl⟩ := frame_eq hsz hdf hk [63, 64, 65, 66, 67, 68, 69, 70, 71, 72] (by rfl)
      clear hsz hdf hk hgot hf 
      simp only [List.drop_succ_cons, List.drop_zero, setAll, List.setIfInBounds_toArray, List.set_cons_succ, List.set_cons_zero]
      generalize f 63 = uu63; generalize f 64 = uu64; generalize f 65 = uu65; generalize f 66 = uu66; generalize f 67 = uu67; generalize f 68 = uu68; generalize f 69 = uu69; generalize f 70 = uu70; generalize f 71 = uu71; generalize f 72 = uu72
      go_wp2
      exact bodyPost_ret (results_cell_row rfl _ _ (sb + 1) 59 _ (0, 0) _ rfl hB Try.underlying59 rfl infoKy) rfl ⟨rfl, hF.1⟩
  · rw [if_neg hlt]
    obtain ⟨W0, hW0⟩ : ∃ W0, W0 = ((W.alloc (.cells #[.int .i64 2, .int .i64 (k:Int), .int .i64 (i:Int)] 79)).alloc (.cells #[.int .i64 0, .int .i64 0, .int .i64 0, .int .i64 0, .int .i64 0] 59)) := ⟨_, rfl⟩
    have hb0 : Below W.heap.size W W0 := by rw [hW0]; exact bel_alloc (bel_alloc (Below.refl _ _) _) _
    have hS : Blk W0 (W.heap.size) 79 #[.int .i64 2, .int .i64 (k:Int), .int .i64 (i:Int)] := by rw [hW0]; exact ((Blk.new _ _ _ _ rfl).alloc _)
    have hR : Blk W0 (W.heap.size + 1) 59 #[.int .i64 0, .int .i64 0, .int .i64 0, .int .i64 0, .int .i64 0] := by rw [hW0]; exact (Blk.new _ _ _ _ (by simp))
    have hDW := hD
    replace hD := hD.below hb0
    go_enter Try.func45, Try.ntmps45
    go_upto_region 5 with (fail)
    simp only [← hW0]
    clear hW0
    obtain ⟨sb, hsb⟩ : ∃ b, b = W.heap.size := ⟨_, rfl⟩
    rw [← hsb] at hS hR
    simp only [← hsb]
    have hsW : W.heap.size ≤ sb := by omega
    replace hsb := Lib.hid hsb
    have hSl := hS.lt
    have hRl := hR.lt
    have hSc0 := hS.cell 0
    have hSc1 := hS.cell 1
    have hSc2 := hS.cell 2
    have q0 : (0 : Int) ≤ (k : Int) := by omega
    have q1 : (k : Int) < 4 := by omega
    have q2 : (0 : Int) ≤ (m : Int) := by omega
    have q3 : (m : Int) < 4 := by omega
    have gl := hD.lt
    have ck := hD.co hk4
    have cm := hD.co hm4
    have cq := hD.q k hk4
    refine wp_region_grow (by kernel_rfl) (by kernel_rfl) ?_
    repeat (go_big_quiet_step (((fail))))
    refine wpQuiet_nil ?_
    rintro _ ⟨xg, rfl⟩
    replace hb0 := bel_grow hb0 xg
    replace hS := hS.grow xg
    replace hR := hR.grow xg
    replace hD := hD.grow xg
    clear ck cm cq gl hSl hRl hSc0 hSc1 hSc2
    generalize grow W0 xg = W1 at *
    have hlt2 : ¬ P.co k > P.co m := hlt
    go_upto_region 8 with (fail)
    clear hlt hlt2
    refine wp_region_monoK2 11 (RKW [.pointer (some ⟨sb, 0, none⟩), .int .i64 2, .pointer (some ⟨g, 0, none⟩), .pointer (some ⟨g, 0, none⟩), .pointer (some ⟨g, 65, none⟩), .int .i64 cage, .int .i64 (P.co k), .int .i64 (P.co m), .int .i64 (i : Int), .agg #[.int .i64 2, .int .i64 cage, .int .i64 (P.co k), .int .i64 (P.co m), .int .i64 (i : Int)], .int .i64 0]) (JK (fun u => Below W.heap.size W u ∧ Blk u sb 79 #[.int .i64 2, .int .i64 (k : Int), .int .i64 (i : Int)]) 10 (fun u => Blk u (sb + 1) 59 #[.int .i64 0, .int .i64 0, .int .i64 0, .int .i64 0, .int .i64 0]) (fun u => Blk u (sb + 1) 59 #[.int .i64 2, .int .i64 cage, .int .i64 (P.co k), .int .i64 (P.co m), .int .i64 (i : Int)])) (by kernel_rfl) _ rfl (by kernel_rfl) (by kernel_rfl) (by kernel_rfl) (by kernel_rfl) (by kernel_rfl) (jk_start (by decide) (⟨bel_dr hb0 _, hS⟩) (hR)) ?_ ?_
    · simp only [List.take_succ_cons, List.take_zero]
      refine ⟨?_, ?_, ?_, ?_, ?_, ?_, ?_, ?_, ?_, ?_, ?_, ?_⟩
      · refine jk_val rfl (by decide) (fun a u hF hk hp => ?_)
        have es3 := (hk 3 (keep_of (by kernel_rfl))).trans (show _ = some (.pointer (some ⟨sb, 0, none⟩)) from rfl)
        exact ⟨_, by simp [execOp, go_sem, es3], rfl⟩
      · refine jk_val rfl (by decide) (fun a u hF hk hp => ?_)
        obtain ⟨x0, ex0, rx0⟩ := hp ⟨0, .data⟩ (by simp) rfl _ _ rfl rfl
        obtain rfl : x0 = _ := rx0
        have fc0 := hF.2.cell 0
        exact ⟨_, by simp [execOp, go_sem, ex0, fc0], rfl⟩
      · refine jk_val rfl (by decide) (fun a u hF hk hp => ?_)
        have es0 := (hk 0 (keep_of (by kernel_rfl))).trans (show _ = some (.pointer (some ⟨g, 0, none⟩)) from rfl)
        exact ⟨_, by simp [execOp, go_sem, es0], rfl⟩
      · refine jk_val rfl (by decide) (fun a u hF hk hp => ?_)
        obtain ⟨x2, ex2, rx2⟩ := hp ⟨2, .data⟩ (by simp) rfl _ _ rfl rfl
        obtain rfl : x2 = _ := rx2
        exact ⟨_, by simp [execOp, go_sem, ex2], rfl⟩
      · refine jk_val rfl (by decide) (fun a u hF hk hp => ?_)
        obtain ⟨x3, ex3, rx3⟩ := hp ⟨3, .data⟩ (by simp) rfl _ _ rfl rfl
        obtain rfl : x3 = _ := rx3
        exact ⟨_, by simp [execOp, go_sem, ex3], rfl⟩
      · refine jk_val rfl (by decide) (fun a u hF hk hp => ?_)
        obtain ⟨x4, ex4, rx4⟩ := hp ⟨4, .data⟩ (by simp) rfl _ _ rfl rfl
        obtain rfl : x4 = _ := rx4
        have fc0 := (hDW.below hF.1).cage
        exact ⟨_, by simp [execOp, go_sem, ex4, fc0], rfl⟩
      · refine jk_val rfl (by decide) (fun a u hF hk hp => ?_)
        have es5 := (hk 5 (keep_of (by kernel_rfl))).trans (show _ = some (.int .i64 (P.co k)) from rfl)
        exact ⟨_, by simp [execOp, go_sem, es5], rfl⟩
      · refine jk_val rfl (by decide) (fun a u hF hk hp => ?_)
        have es6 := (hk 6 (keep_of (by kernel_rfl))).trans (show _ = some (.int .i64 (P.co m)) from rfl)
        exact ⟨_, by simp [execOp, go_sem, es6], rfl⟩
      · refine jk_val rfl (by decide) (fun a u hF hk hp => ?_)
        have es7 := (hk 7 (keep_of (by kernel_rfl))).trans (show _ = some (.int .i64 (i : Int)) from rfl)
        exact ⟨_, by simp [execOp, go_sem, es7], rfl⟩
      · refine jk_val rfl (by decide) (fun a u hF hk hp => ?_)
        obtain ⟨x1, ex1, rx1⟩ := hp ⟨1, .data⟩ (by simp) rfl _ _ rfl rfl
        obtain rfl : x1 = _ := rx1
        obtain ⟨x5, ex5, rx5⟩ := hp ⟨5, .data⟩ (by simp) rfl _ _ rfl rfl
        obtain rfl : x5 = _ := rx5
        obtain ⟨x6, ex6, rx6⟩ := hp ⟨6, .data⟩ (by simp) rfl _ _ rfl rfl
        obtain rfl : x6 = _ := rx6
        obtain ⟨x7, ex7, rx7⟩ := hp ⟨7, .data⟩ (by simp) rfl _ _ rfl rfl
        obtain rfl : x7 = _ := rx7
        obtain ⟨x8, ex8, rx8⟩ := hp ⟨8, .data⟩ (by simp) rfl _ _ rfl rfl
        obtain rfl : x8 = _ := rx8
        exact ⟨_, build_of _ _ rfl u _ (by simp only [List.map_toArray, List.map_cons, List.map_nil, eval_tmp ex1, eval_tmp ex5, eval_tmp ex6, eval_tmp ex7, eval_tmp ex8]; exact built_K5 _ _ _ _ _), rfl⟩
      · refine jk_store rfl rfl (fun a u hF hA hk hp => ?_)
        have es4 := (hk 4 (keep_of (by kernel_rfl))).trans (show _ = some (.pointer (some ⟨sb + 1, 0, none⟩)) from rfl)
        obtain ⟨x9, ex9, rx9⟩ := hp ⟨9, .data⟩ (by simp) rfl _ _ rfl rfl
        obtain rfl : x9 = _ := rx9
        exact wp_store_row 59 _ _ rfl (sb + 1) _ (eval_tmp es4) (eval_tmp ex9) 59 _ hA infoKy rfl (by simp [Value.oneCell']) ⟨_, rfl, ⟨bel_setRow hF.1 (by omega) _, hF.2.farRow _ (by omega)⟩, hA.setRow _⟩
      · trivial
    · intro a W1 listed hJ hall hsz hdf hk hgot
      obtain ⟨hF, hB⟩ := jk_end hJ (by decide : 10 < 11) hall
      clear hJ hall
      obtain ⟨f, hf, rfl⟩ := frame_eq hsz hdf hk [63, 64, 65, 66, 67, 68, 69, 70, 71, 72] (by rfl)
      clear hsz hdf hk hgot hf 
      simp only [List.drop_succ_cons, List.drop_zero, setAll, List.setIfInBounds_toArray, List.set_cons_succ, List.set_cons_zero]
      generalize f 63 = uu63; generalize f 64 = uu64; generalize f 65 = uu65; generalize f 66 = uu66; generalize f 67 = uu67; generalize f 68 = uu68; generalize f 69 = uu69; generalize f 70 = uu70; generalize f 71 = uu71; generalize f 72 = uu72
      go_wp2
      exact bodyPost_ret (results_cell_row rfl _ _ (sb + 1) 59 _ (0, 0) _ rfl hB Try.underlying59 rfl infoKy) rfl ⟨rfl, hF.1⟩
/-- A spot's key. -/
theorem key_any (W : World) (g : Nat) (P : Pch) (cage id : Int) (q : Nat → Int) (tv : Value) (h : Int) (hD : DcB W g P cage id q (mxI q 4) tv h) (hq : okQ q) {s : Spt} (hs : spIn q s) :
    Calls Try.prog 45 #[.pointer (some ⟨g, 0, none⟩), .agg #[.int .i64 s.1, .int .i64 s.2.1, .int .i64 s.2.2]] W fun e w' => e = .returned (.agg (kyA (msK P.co cage id q s))) ∧ Below W.heap.size W w' := by
  rcases hs with ⟨k, hk, rfl⟩ | ⟨k, i, hk, h1, h2, rfl⟩ | ⟨a, b, h1, h2, h3, h4, rfl⟩
  · rw [msK_cor]; exact key_cor W g P cage id q _ tv h hD k hk
  · have := key_edg W g P cage id q _ tv h hD k i hk h2 (hq k hk).2
    rw [msK_edg]
    split at this <;> rename_i hc
    · rw [if_pos hc]; exact this
    · rw [if_neg hc]; exact this
  · rw [msK_inn]; exact key_inn W g P cage id q _ tv h hD a b
end Go.Proofs.Ytpaehkjnefgaiaa
namespace Go.Proofs.Ytpaehkjnefgaiaa
open Go.RowKit
set_option linter.unusedVariables false
set_option linter.unusedSimpArgs false
set_option linter.unnecessarySimpa false
set_option maxRecDepth 100000
theorem infoTx {a b c d : Value} : (Try.prog.info? 65).map (·.size) = some (#[a, b, c, d] : Array Value).size := by kernel_rfl
theorem infoSpM {a b c : Value} : (Try.prog.info? 79).map (·.size) = some (#[a, b, c] : Array Value).size := by kernel_rfl
theorem rng_blkM {W : World} {b : Nat} {t : TypeId} {cs : Array Value} (h : Blk W b t cs) : W.rangeAt b 0 cs.toList := by
  intro j v hv
  rw [h.cell, Nat.zero_add]
  simpa using hv
theorem rng_tex {W : World} {b o : Nat} {t : TexD} {B : Option Addr} {m : Nat} (h : ∀ j, j < 4 → W.cell? ⟨b, o + j, none⟩ = (texW t B m)[j]?) : W.rangeAt b o (texC t.nm t.W t.H B t.rows.length m).toList := by
  intro j v hv
  have hj : j < 4 := (List.getElem?_eq_some_iff.1 hv).1
  rw [h j hj]
  exact hv
theorem getS {ops : Array Oper} {rest : List Oper} {o : Oper} {a : Act} {w : World} {Q : Exit → Act → World → Prop} (hgd : o.guard = none) (x : Operand) (ho : o.op = .load 79 x) (g : Nat) (hx : a.eval x = .pointer (some ⟨g, 0, none⟩)) (s : Spt) (h : Blk w g 79 #[.int .i64 s.1, .int .i64 s.2.1, .int .i64 s.2.2])
    (K : wpList Try.prog ops Q rest (a.put o.dst (.agg #[.int .i64 s.1, .int .i64 s.2.1, .int .i64 s.2.2])) w) : wpList Try.prog ops Q (o :: rest) a w :=
  wpList_load_row hgd 79 x ho g hx 79 _ (0, 0) _ h Try.underlying79 rfl infoSpM K
theorem ret2V {fn : Func} {p u : Tmp} (h : fn.results = #[.cell p 23, .tmp u]) (tmps : Array Value) (w : World) (g : Nat) (r : P3) (b : Value) (hp : tmps.getD p undef = .pointer (some ⟨g, 0, none⟩)) (hb : tmps.getD u undef = b) (hB : Blk w g 23 #[.int .i64 r.x, .int .i64 r.y, .int .i64 r.z]) :
    (results fn tmps).run Try.prog w = .ok (.tuple #[.agg #[.int .i64 r.x, .int .i64 r.y, .int .i64 r.z], b]) w := by
  have hl := run_loadVar_row (P := Try.prog) w g 23 23 #[.int .i64 r.x, .int .i64 r.y, .int .i64 r.z] (0, 0) _ hB Try.underlying23 rfl infoVm
  rw [results_cell_tmp h, hp, hb]
  simp [asAddr, hl, Result.andThen]
/-- A texture in memory. -/
structure TexAt (W : World) (b o : Nat) (t : TexD) (B : Option Addr) (m : Nat) : Prop where
  lt : b < W.heap.size
  c : ∀ j, j < 4 → W.cell? ⟨b, o + j, none⟩ = (texW t B m)[j]?
  rows : IL W B t.rows
  len : t.rows.length ≤ 1099511627776
theorem TexAt.below {W W' : World} {b o : Nat} {t : TexD} {B : Option Addr} {m : Nat} (h : TexAt W b o t B m) (hb : Below W.heap.size W W') : TexAt W' b o t B m :=
  ⟨Nat.lt_of_lt_of_le h.lt hb.size, fun j hj => (hb.cell (p := ⟨b, _, none⟩) h.lt).trans (h.c j hj), h.rows.below hb, h.len⟩
set_option maxHeartbeats 4000000 in
theorem vert_none (W : World) (g : Nat) (P : Pch) (cage id : Int) (q : Nat → Int) (h : Int) (tv : Value) (htv : tv = .pointer none) (hD : DcB W g P cage id q (mxI q 4) tv h) {s : Spt} (hs : spIn q s) :
    Calls Try.prog 44 #[.pointer (some ⟨g, 0, none⟩), .agg #[.int .i64 s.1, .int .i64 s.2.1, .int .i64 s.2.2]] W fun e w' => e = .returned (.tuple #[.agg #[.int .i64 (msP P.pt q s).x, .int .i64 (msP P.pt q s).y, .int .i64 (msP P.pt q s).z], .bool true]) ∧ Below W.heap.size W w' := by
  subst htv
  obtain ⟨tv, htv⟩ : ∃ v : Value, v = .pointer none := ⟨_, rfl⟩
  rw [← htv] at hD
  replace htv := Lib.hid htv
  have kP := fun (u : World) (hu : Below W.heap.size W u) => point_any u g P cage id q tv h (hD.below hu) hs
  generalize msP P.pt q s = p at *
  obtain ⟨W0, hW0⟩ : ∃ W0, W0 = ((W.alloc (.cells #[.int .i64 s.1, .int .i64 s.2.1, .int .i64 s.2.2] 79)).alloc (.cells #[.int .i64 0, .int .i64 0, .int .i64 0] 23)) := ⟨_, rfl⟩
  have hb0 : Below W.heap.size W W0 := by rw [hW0]; exact bel_alloc (bel_alloc (Below.refl _ _) _) _
  have hS : Blk W0 (W.heap.size) 79 #[.int .i64 s.1, .int .i64 s.2.1, .int .i64 s.2.2] := by rw [hW0]; exact ((Blk.new _ _ _ _ rfl).alloc _)
  have hR : Blk W0 (W.heap.size + 1) 23 #[.int .i64 0, .int .i64 0, .int .i64 0] := by rw [hW0]; exact (Blk.new _ _ _ _ (by simp))
  have hDW := hD
  replace hD := hD.below hb0
  go_enter Try.func44, Try.ntmps44
  go_upto_region 1 with (fail)
  simp only [← hW0]
  clear hW0
  obtain ⟨sb, hsb⟩ : ∃ b, b = W.heap.size := ⟨_, rfl⟩
  rw [← hsb] at hS hR
  simp only [← hsb]
  have hsW : W.heap.size ≤ sb := by omega
  replace hsb := Lib.hid hsb
  have hSl := hS.lt
  have hRl := hR.lt
  have hSc0 := hS.cell 0
  have hSc1 := hS.cell 1
  have hSc2 := hS.cell 2
  replace kP := kP W0 hb0
  go_upto_region 2 with (first | (refine getS rfl _ rfl sb rfl s hS ?_; simp only [Act.put, List.setIfInBounds_toArray, List.set_cons_succ, List.set_cons_zero]) | (go_at_call 69; (with_reducible refine kP.mono ?_); rintro e w1 ⟨rfl, hb1⟩) | fail)
  have hx := bel_alloc (bel_trans hb0 hb1) (.cells #[.int .i64 p.x, .int .i64 p.y, .int .i64 p.z] 23)
  have hS1 := (hS.below hb1).alloc (.cells #[.int .i64 p.x, .int .i64 p.y, .int .i64 p.z] 23)
  have hR1 := (hR.below hb1).alloc (.cells #[.int .i64 p.x, .int .i64 p.y, .int .i64 p.z] 23)
  have hT1 : Blk (w1.alloc (.cells #[.int .i64 p.x, .int .i64 p.y, .int .i64 p.z] 23)) w1.heap.size 23 #[.int .i64 p.x, .int .i64 p.y, .int .i64 p.z] := Blk.new _ _ _ _ rfl
  have hlt1 : sb + 1 < w1.heap.size := (hR.below hb1).lt
  clear hD hS hR hSl hRl hSc0 hSc1 hSc2 kP hb0 hb1
  generalize w1.alloc (.cells #[.int .i64 p.x, .int .i64 p.y, .int .i64 p.z] 23) = W1 at *
  generalize w1.heap.size = tb at *
  have hD1 := hDW.below hx
  have gl := hD1.lt
  have ct := hD1.tex
  rw [htv.out] at ct
  clear hs
  go_wp2_with (first | (refine getV rfl _ rfl tb rfl p hT1 ?_; simp only [Act.put, List.setIfInBounds_toArray, List.set_cons_succ, List.set_cons_zero]) | (refine putV rfl _ _ rfl (sb + 1) p rfl rfl _ rfl hR1 ?_; simp only [Act.put, List.setIfInBounds_toArray, List.set_cons_succ, List.set_cons_zero]) | fail)
  exact bodyPost_ret (ret2V rfl _ _ (sb + 1) p _ rfl rfl (hR1.setRow _)) rfl ⟨rfl, bel_setRow hx (by omega) _⟩
set_option maxHeartbeats 4000000 in
theorem vert_some (W : World) (g : Nat) (P : Pch) (cage id : Int) (q : Nat → Int) (h : Int) (bT oT : Nat) (t : TexD) (B : Option Addr) (m : Nat) (hT : TexAt W bT oT t B m) (tv : Value) (htv : tv = .pointer (some ⟨bT, oT, none⟩)) (hD : DcB W g P cage id q (mxI q 4) tv h) (hq : okQ q) {s : Spt} (hs : spIn q s) (hh : -9223372036854775808 ≤ h ∧ h ≤ 9223372036854775807)
    (bk : Bool) (hbk : texK t.W t.H t.rows (msP P.pt q s) = bk) (hlk : bk = true → lfK (msP P.pt q s) (msD P.nm q s) (texV t.W t.H t.rows (msP P.pt q s)) h = true) (hlit : bk = true → 0 ≤ texV t.W t.H t.rows (msP P.pt q s) ∧ texV t.W t.H t.rows (msP P.pt q s) ≤ 255) :
    Calls Try.prog 44 #[.pointer (some ⟨g, 0, none⟩), .agg #[.int .i64 s.1, .int .i64 s.2.1, .int .i64 s.2.2]] W fun e w' => e = .returned (if bk = true then .tuple #[.agg #[.int .i64 (liP t h P q s).x, .int .i64 (liP t h P q s).y, .int .i64 (liP t h P q s).z], .bool true] else .tuple #[.agg #[.int .i64 ((N3 : P3)).x, .int .i64 ((N3 : P3)).y, .int .i64 ((N3 : P3)).z], .bool false]) ∧ Below W.heap.size W w' := by
  have kX0 := fun (u : World) (hu : Below W.heap.size W u) => texel_any u t.nm t.W t.H B m t.rows (hT.rows.below hu) hT.len (msP P.pt q s)
  rw [hbk] at kX0
  have kN := fun (u : World) (hu : Below W.heap.size W u) => dir_any u g P cage id q tv h (hD.below hu) hq hs
  have kL := fun (hb : bk = true) => lift_any (msP P.pt q s) (msD P.nm q s) (texV t.W t.H t.rows (msP P.pt q s)) h (by have := hlit hb; omega) hh
  unfold liP
  clear hbk hlit
  have kP := fun (u : World) (hu : Below W.heap.size W u) => point_any u g P cage id q tv h (hD.below hu) hs
  generalize texV t.W t.H t.rows (msP P.pt q s) = tx at *
  generalize msP P.pt q s = p at *
  generalize msD P.nm q s = n at *
  generalize lfK p n tx h = kb at *
  generalize lfP p n tx h = r at *
  have hq2 := hq
  clear hq
  obtain ⟨hbT0, hcT0, hrT, hln⟩ := hT
  obtain ⟨W0, hW0⟩ : ∃ W0, W0 = ((W.alloc (.cells #[.int .i64 s.1, .int .i64 s.2.1, .int .i64 s.2.2] 79)).alloc (.cells #[.int .i64 0, .int .i64 0, .int .i64 0] 23)) := ⟨_, rfl⟩
  have hb0 : Below W.heap.size W W0 := by rw [hW0]; exact bel_alloc (bel_alloc (Below.refl _ _) _) _
  have hS : Blk W0 (W.heap.size) 79 #[.int .i64 s.1, .int .i64 s.2.1, .int .i64 s.2.2] := by rw [hW0]; exact ((Blk.new _ _ _ _ rfl).alloc _)
  have hR : Blk W0 (W.heap.size + 1) 23 #[.int .i64 0, .int .i64 0, .int .i64 0] := by rw [hW0]; exact (Blk.new _ _ _ _ (by simp))
  have hDW := hD
  replace hD := hD.below hb0
  go_enter Try.func44, Try.ntmps44
  go_upto_region 1 with (fail)
  simp only [← hW0]
  clear hW0
  obtain ⟨sb, hsb⟩ : ∃ b, b = W.heap.size := ⟨_, rfl⟩
  rw [← hsb] at hS hR
  simp only [← hsb]
  have hsW : W.heap.size ≤ sb := by omega
  replace hsb := Lib.hid hsb
  have hSl := hS.lt
  have hRl := hR.lt
  have hSc0 := hS.cell 0
  have hSc1 := hS.cell 1
  have hSc2 := hS.cell 2
  replace kP := kP W0 hb0
  go_upto_region 2 with (first | (refine getS rfl _ rfl sb rfl s hS ?_; simp only [Act.put, List.setIfInBounds_toArray, List.set_cons_succ, List.set_cons_zero]) | (go_at_call 69; (with_reducible refine kP.mono ?_); rintro e w1 ⟨rfl, hb1⟩) | fail)
  have hx := bel_alloc (bel_trans hb0 hb1) (.cells #[.int .i64 p.x, .int .i64 p.y, .int .i64 p.z] 23)
  have hS1 := (hS.below hb1).alloc (.cells #[.int .i64 p.x, .int .i64 p.y, .int .i64 p.z] 23)
  have hR1 := (hR.below hb1).alloc (.cells #[.int .i64 p.x, .int .i64 p.y, .int .i64 p.z] 23)
  have hT1 : Blk (w1.alloc (.cells #[.int .i64 p.x, .int .i64 p.y, .int .i64 p.z] 23)) w1.heap.size 23 #[.int .i64 p.x, .int .i64 p.y, .int .i64 p.z] := Blk.new _ _ _ _ rfl
  have hlt1 : sb + 1 < w1.heap.size := (hR.below hb1).lt
  clear hD hS hR hSl hRl hSc0 hSc1 hSc2 kP hb0 hb1
  generalize w1.alloc (.cells #[.int .i64 p.x, .int .i64 p.y, .int .i64 p.z] 23) = W1 at *
  generalize w1.heap.size = tb at *
  have hD1 := hDW.below hx
  rw [htv] at hD1
  have gl := hD1.lt
  have ct := hD1.tex
  have hbT := Nat.lt_of_lt_of_le hbT0 hx.size
  have hcT := fun j (hj : j < 4) => (hx.cell (p := ⟨bT, oT + j, none⟩) hbT0).trans (hcT0 j hj)
  have kX := fun (u : World) (hu : Below W1.heap.size W1 u) => kX0 u (bel_trans hx hu)
  clear hs hrT hln
  go_upto_region 4 with (fail)
  refine wp_region_monoT2 13 (RL [PE (.pointer (some ⟨g, 0, none⟩)), PE (.pointer (some ⟨g, 0, none⟩)), PE (.pointer (some ⟨g, 72, none⟩)), PE (.pointer (some ⟨bT, oT, none⟩)), PE (.pointer (some ⟨bT, oT, none⟩)), PE (.agg (texC t.nm t.W t.H B t.rows.length m)), PE (.agg #[.int .i64 p.x, .int .i64 p.y, .int .i64 p.z]), PE (.tuple #[.int .i64 tx, .bool bk]), PE (.tuple #[.int .i64 tx, .bool bk]), PE (.int .i64 tx), PE (.bool bk), PE (.int .i64 tx), PE (.bool bk)]) (by kernel_rfl) _ rfl (by kernel_rfl) (by kernel_rfl) (by kernel_rfl) (by kernel_rfl) (by kernel_rfl) (RL.stays ?_) ?_ ?_
  · intro p hp
    simp only [List.mem_cons, List.not_mem_nil, or_false] at hp
    rcases hp with rfl | rfl | rfl | rfl | rfl | rfl | rfl | rfl | rfl | rfl | rfl | rfl | rfl <;> first | exact PE.stays _ | exact PV.stays _ _ _ | fail
  · simp only [List.take_succ_cons, List.take_zero]
    refine ⟨?_, ?_, ?_, ?_, ?_, ?_, ?_, ?_, ?_, ?_, ?_, ?_, ?_, ?_⟩
    · refine mono_val rfl (fun a w hB hk hp => ?_)
      have es0 := (hk 0 (keep_of (by kernel_rfl))).trans (show _ = some (.pointer (some ⟨g, 0, none⟩)) from rfl)
      exact ⟨.pointer (some ⟨g, 0, none⟩), w, by simp [execOp, go_sem, es0], Below.refl _ _, fun _ _ => rfl⟩
    · refine mono_val rfl (fun a w hB hk hp => ?_)
      obtain ⟨x0, ex0, rx0⟩ := hp ⟨0, .data⟩ (by simp) rfl _ _ rfl rfl
      obtain rfl : x0 = _ := rx0
      exact ⟨.pointer (some ⟨g, 0, none⟩), w, by simp [execOp, go_sem, ex0], Below.refl _ _, fun _ _ => rfl⟩
    · refine mono_val rfl (fun a w hB hk hp => ?_)
      obtain ⟨x1, ex1, rx1⟩ := hp ⟨1, .data⟩ (by simp) rfl _ _ rfl rfl
      obtain rfl : x1 = _ := rx1
      exact ⟨.pointer (some ⟨g, 72, none⟩), w, by simp [execOp, go_sem, ex1], Below.refl _ _, fun _ _ => rfl⟩
    · refine mono_val rfl (fun a w hB hk hp => ?_)
      obtain ⟨x2, ex2, rx2⟩ := hp ⟨2, .data⟩ (by simp) rfl _ _ rfl rfl
      obtain rfl : x2 = _ := rx2
      have fc0 := (hD1.below hB).tex
      exact ⟨.pointer (some ⟨bT, oT, none⟩), w, by simp [execOp, go_sem, ex2, fc0], Below.refl _ _, fun _ _ => rfl⟩
    · refine mono_val rfl (fun a w hB hk hp => ?_)
      obtain ⟨x3, ex3, rx3⟩ := hp ⟨3, .data⟩ (by simp) rfl _ _ rfl rfl
      obtain rfl : x3 = _ := rx3
      exact ⟨.pointer (some ⟨bT, oT, none⟩), w, by simp [execOp, go_sem, ex3], Below.refl _ _, fun _ _ => rfl⟩
    · refine mono_val rfl (fun a w hB hk hp => ?_)
      obtain ⟨x4, ex4, rx4⟩ := hp ⟨4, .data⟩ (by simp) rfl _ _ rfl rfl
      obtain rfl : x4 = _ := rx4
      exact ⟨.agg (texC t.nm t.W t.H B t.rows.length m), w, loadR_run _ _ 65 _ Try.underlying65 rfl _ rfl bT oT (eval_tmp ex4) (texC t.nm t.W t.H B t.rows.length m) infoTx w (rng_tex fun j hj => (hB.cell (p := ⟨bT, _, none⟩) hbT).trans (hcT j hj)), Below.refl _ _, fun _ _ => rfl⟩
    · refine mono_val rfl (fun a w hB hk hp => ?_)
      have es6 := (hk 6 (keep_of (by kernel_rfl))).trans (show _ = some (.pointer (some ⟨tb, 0, none⟩)) from rfl)
      exact ⟨.agg #[.int .i64 p.x, .int .i64 p.y, .int .i64 p.z], w, loadR_run _ _ 23 _ Try.underlying23 rfl _ rfl tb 0 (eval_tmp es6) #[.int .i64 p.x, .int .i64 p.y, .int .i64 p.z] infoVm w (rng_blkM (hT1.below hB)), Below.refl _ _, fun _ _ => rfl⟩
    · refine mono_call rfl (fun a w hB hk hp => ?_)
      obtain ⟨x5, ex5, rx5⟩ := hp ⟨5, .data⟩ (by simp) rfl _ _ rfl rfl
      obtain rfl : x5 = _ := rx5
      obtain ⟨x6, ex6, rx6⟩ := hp ⟨6, .data⟩ (by simp) rfl _ _ rfl rfl
      obtain rfl : x6 = _ := rx6
      exact ⟨70, #[.agg (texC t.nm t.W t.H B t.rows.length m), .agg #[.int .i64 p.x, .int .i64 p.y, .int .i64 p.z]], by simp [execOp, go_sem, ex5, ex6], (kX w hB).mono fun e w' ⟨h1, x, h2⟩ => ⟨_, h1, h2 ▸ x.kept w, fun _ _ => rfl⟩⟩
    · refine mono_val rfl (fun a w hB hk hp => ?_)
      obtain ⟨x7, ex7, rx7⟩ := hp ⟨7, .data⟩ (by simp) rfl _ _ rfl rfl
      obtain rfl : x7 = _ := rx7
      exact ⟨.tuple #[.int .i64 tx, .bool bk], w, by simp [execOp, go_sem, ex7], Below.refl _ _, fun _ _ => rfl⟩
    · refine mono_val rfl (fun a w hB hk hp => ?_)
      obtain ⟨x8, ex8, rx8⟩ := hp ⟨8, .data⟩ (by simp) rfl _ _ rfl rfl
      obtain rfl : x8 = _ := rx8
      exact ⟨.int .i64 tx, w, by simp [execOp, go_sem, ex8], Below.refl _ _, fun _ _ => rfl⟩
    · refine mono_val rfl (fun a w hB hk hp => ?_)
      obtain ⟨x8, ex8, rx8⟩ := hp ⟨8, .data⟩ (by simp) rfl _ _ rfl rfl
      obtain rfl : x8 = _ := rx8
      exact ⟨.bool bk, w, by simp [execOp, go_sem, ex8], Below.refl _ _, fun _ _ => rfl⟩
    · refine mono_val rfl (fun a w hB hk hp => ?_)
      obtain ⟨x9, ex9, rx9⟩ := hp ⟨9, .data⟩ (by simp) rfl _ _ rfl rfl
      obtain rfl : x9 = _ := rx9
      exact ⟨.int .i64 tx, w, by simp [execOp, go_sem, ex9], Below.refl _ _, fun _ _ => rfl⟩
    · refine mono_val rfl (fun a w hB hk hp => ?_)
      obtain ⟨x10, ex10, rx10⟩ := hp ⟨10, .data⟩ (by simp) rfl _ _ rfl rfl
      obtain rfl : x10 = _ := rx10
      exact ⟨.bool bk, w, by simp [execOp, go_sem, ex10], Below.refl _ _, fun _ _ => rfl⟩
    · trivial
  · intro a W2 hB hsz hdf hk hgot
    obtain ⟨v11, ev11, rv11⟩ := hgot 11 _ 7 rfl rfl
    obtain rfl : v11 = _ := rv11
    obtain ⟨v12, ev12, rv12⟩ := hgot 12 _ 8 rfl rfl
    obtain rfl : v12 = _ := rv12
    obtain ⟨f, hf, rfl⟩ := frame_eq hsz hdf hk [19, 20, 21, 22, 23, 24, 25, 26, 18, 27, 28, 7, 8] (by rfl)
    have f7 := hf 7 _ ev11
    have f8 := hf 8 _ ev12
    clear hsz hdf hk hgot hf ev11 ev12
    simp only [List.drop_succ_cons, List.drop_zero, setAll, List.setIfInBounds_toArray, List.set_cons_succ, List.set_cons_zero, f7, f8]
    clear f7 f8
    generalize f 19 = uu19; generalize f 20 = uu20; generalize f 21 = uu21; generalize f 22 = uu22; generalize f 23 = uu23; generalize f 24 = uu24; generalize f 25 = uu25; generalize f 26 = uu26; generalize f 18 = uu18; generalize f 27 = uu27; generalize f 28 = uu28
    have hx2 := bel_trans hx hB
    have hS2 := hS1.below hB
    have hR2 := hR1.below hB
    have hT2 := hT1.below hB
    clear hx hS1 hR1 hT1 gl ct hbT hcT kX kX0 hD1 hB
    cases bk
    · go_wp2_with (first | (refine putV rfl _ _ rfl (sb + 1) N3 rfl rfl _ rfl hR2 ?_; simp only [Act.put, List.setIfInBounds_toArray, List.set_cons_succ, List.set_cons_zero]) | fail)
      exact bodyPost_ret (ret2V rfl _ _ (sb + 1) N3 _ rfl rfl (hR2.setRow _)) rfl ⟨rfl, bel_setRow hx2 (by omega) _⟩
    · replace hlk := hlk rfl
      replace kL := kL rfl
      subst hlk
      go_upto_region 7 with (fail)
      obtain ⟨kb, hkb⟩ : ∃ k, k = true := ⟨_, rfl⟩
      rw [← hkb] at kL
      refine wp_region_monoK2 14 (RKW [.agg #[.int .i64 p.x, .int .i64 p.y, .int .i64 p.z], .pointer (some ⟨g, 0, none⟩), .agg #[.int .i64 s.1, .int .i64 s.2.1, .int .i64 s.2.2], .agg #[.int .i64 n.x, .int .i64 n.y, .int .i64 n.z], .int .i64 tx, .pointer (some ⟨g, 0, none⟩), .pointer (some ⟨g, 0, none⟩), .pointer (some ⟨g, 73, none⟩), .int .i64 h, .tuple #[.agg #[.int .i64 r.x, .int .i64 r.y, .int .i64 r.z], .bool kb], .agg #[.int .i64 r.x, .int .i64 r.y, .int .i64 r.z], .bool kb, .int .i64 0, .bool kb]) (JK (fun u => Below W.heap.size W u ∧ Blk u sb 79 #[.int .i64 s.1, .int .i64 s.2.1, .int .i64 s.2.2] ∧ Blk u tb 23 #[.int .i64 p.x, .int .i64 p.y, .int .i64 p.z]) 12 (fun u => Blk u (sb + 1) 23 #[.int .i64 0, .int .i64 0, .int .i64 0]) (fun u => Blk u (sb + 1) 23 #[.int .i64 r.x, .int .i64 r.y, .int .i64 r.z])) (by kernel_rfl) _ rfl (by kernel_rfl) (by kernel_rfl) (by kernel_rfl) (by kernel_rfl) (by kernel_rfl) (jk_start (by decide) (⟨bel_dr hx2 _, hS2, hT2⟩) (hR2)) ?_ ?_
      · simp only [List.take_succ_cons, List.take_zero]
        refine ⟨?_, ?_, ?_, ?_, ?_, ?_, ?_, ?_, ?_, ?_, ?_, ?_, ?_, ?_, ?_⟩
        · refine jk_val rfl (by decide) (fun a u hF hk hp => ?_)
          have es6 := (hk 6 (keep_of (by kernel_rfl))).trans (show _ = some (.pointer (some ⟨tb, 0, none⟩)) from rfl)
          exact ⟨.agg (#[.int .i64 p.x, .int .i64 p.y, .int .i64 p.z]), loadR_run _ _ 23 _ Try.underlying23 rfl _ rfl tb 0 (eval_tmp es6) (#[.int .i64 p.x, .int .i64 p.y, .int .i64 p.z]) (infoVm) u (rng_blkM hF.2.2), rfl⟩
        · refine jk_val rfl (by decide) (fun a u hF hk hp => ?_)
          have es0 := (hk 0 (keep_of (by kernel_rfl))).trans (show _ = some (.pointer (some ⟨g, 0, none⟩)) from rfl)
          exact ⟨_, by simp [execOp, go_sem, es0], rfl⟩
        · refine jk_val rfl (by decide) (fun a u hF hk hp => ?_)
          have es3 := (hk 3 (keep_of (by kernel_rfl))).trans (show _ = some (.pointer (some ⟨sb, 0, none⟩)) from rfl)
          exact ⟨.agg (#[.int .i64 s.1, .int .i64 s.2.1, .int .i64 s.2.2]), loadR_run _ _ 79 _ Try.underlying79 rfl _ rfl sb 0 (eval_tmp es3) (#[.int .i64 s.1, .int .i64 s.2.1, .int .i64 s.2.2]) (infoSpM) u (rng_blkM hF.2.1), rfl⟩
        · refine jk_call rfl (by decide) (grows_and (grows_bel _) (grows_and (grows_blk _ _ _) (grows_blk _ _ _))) (grows_blk _ _ _) (grows_blk _ _ _) (fun a u hF hk hp => ?_)
          obtain ⟨x1, ex1, rx1⟩ := hp ⟨1, .data⟩ (by simp) rfl _ _ rfl rfl
          obtain rfl : x1 = _ := rx1
          obtain ⟨x2, ex2, rx2⟩ := hp ⟨2, .data⟩ (by simp) rfl _ _ rfl rfl
          obtain rfl : x2 = _ := rx2
          exact ⟨72, #[.pointer (some ⟨g, 0, none⟩), .agg #[.int .i64 s.1, .int .i64 s.2.1, .int .i64 s.2.2]], _, by simp [execOp, go_sem, ex1, ex2], kN u hF.1, rfl⟩
        · refine jk_val rfl (by decide) (fun a u hF hk hp => ?_)
          have es7 := (hk 7 (keep_of (by kernel_rfl))).trans (show _ = some (.int .i64 tx) from rfl)
          exact ⟨_, by simp [execOp, go_sem, es7], rfl⟩
        · refine jk_val rfl (by decide) (fun a u hF hk hp => ?_)
          have es0 := (hk 0 (keep_of (by kernel_rfl))).trans (show _ = some (.pointer (some ⟨g, 0, none⟩)) from rfl)
          exact ⟨_, by simp [execOp, go_sem, es0], rfl⟩
        · refine jk_val rfl (by decide) (fun a u hF hk hp => ?_)
          obtain ⟨x5, ex5, rx5⟩ := hp ⟨5, .data⟩ (by simp) rfl _ _ rfl rfl
          obtain rfl : x5 = _ := rx5
          exact ⟨_, by simp [execOp, go_sem, ex5], rfl⟩
        · refine jk_val rfl (by decide) (fun a u hF hk hp => ?_)
          obtain ⟨x6, ex6, rx6⟩ := hp ⟨6, .data⟩ (by simp) rfl _ _ rfl rfl
          obtain rfl : x6 = _ := rx6
          exact ⟨_, by simp [execOp, go_sem, ex6], rfl⟩
        · refine jk_val rfl (by decide) (fun a u hF hk hp => ?_)
          obtain ⟨x7, ex7, rx7⟩ := hp ⟨7, .data⟩ (by simp) rfl _ _ rfl rfl
          obtain rfl : x7 = _ := rx7
          have fc0 := (hDW.below hF.1).ht
          exact ⟨_, by simp [execOp, go_sem, ex7, fc0], rfl⟩
        · refine jk_call rfl (by decide) (grows_and (grows_bel _) (grows_and (grows_blk _ _ _) (grows_blk _ _ _))) (grows_blk _ _ _) (grows_blk _ _ _) (fun a u hF hk hp => ?_)
          obtain ⟨x0, ex0, rx0⟩ := hp ⟨0, .data⟩ (by simp) rfl _ _ rfl rfl
          obtain rfl : x0 = _ := rx0
          obtain ⟨x3, ex3, rx3⟩ := hp ⟨3, .data⟩ (by simp) rfl _ _ rfl rfl
          obtain rfl : x3 = _ := rx3
          obtain ⟨x4, ex4, rx4⟩ := hp ⟨4, .data⟩ (by simp) rfl _ _ rfl rfl
          obtain rfl : x4 = _ := rx4
          obtain ⟨x8, ex8, rx8⟩ := hp ⟨8, .data⟩ (by simp) rfl _ _ rfl rfl
          obtain rfl : x8 = _ := rx8
          exact ⟨71, #[.agg #[.int .i64 p.x, .int .i64 p.y, .int .i64 p.z], .agg #[.int .i64 n.x, .int .i64 n.y, .int .i64 n.z], .int .i64 tx, .int .i64 h], _, by simp [execOp, go_sem, ex0, ex3, ex4, ex8], gcall kL u, rfl⟩
        · refine jk_val rfl (by decide) (fun a u hF hk hp => ?_)
          obtain ⟨x9, ex9, rx9⟩ := hp ⟨9, .data⟩ (by simp) rfl _ _ rfl rfl
          obtain rfl : x9 = _ := rx9
          exact ⟨_, by simp [execOp, go_sem, ex9], rfl⟩
        · refine jk_val rfl (by decide) (fun a u hF hk hp => ?_)
          obtain ⟨x9, ex9, rx9⟩ := hp ⟨9, .data⟩ (by simp) rfl _ _ rfl rfl
          obtain rfl : x9 = _ := rx9
          exact ⟨_, by simp [execOp, go_sem, ex9], rfl⟩
        · refine jk_store rfl rfl (fun a u hF hA hk hp => ?_)
          have es4 := (hk 4 (keep_of (by kernel_rfl))).trans (show _ = some (.pointer (some ⟨sb + 1, 0, none⟩)) from rfl)
          obtain ⟨x10, ex10, rx10⟩ := hp ⟨10, .data⟩ (by simp) rfl _ _ rfl rfl
          obtain rfl : x10 = _ := rx10
          exact wp_store_row 23 _ _ rfl (sb + 1) _ (eval_tmp es4) (eval_tmp ex10) 23 _ hA infoVm rfl (by simp [Value.oneCell']) ⟨_, rfl, ⟨bel_setRow hF.1 (by omega) _, hF.2.1.farRow _ (by omega), hF.2.2.farRow _ (by omega)⟩, hA.setRow _⟩
        · refine jk_val rfl (by decide) (fun a u hF hk hp => ?_)
          obtain ⟨x11, ex11, rx11⟩ := hp ⟨11, .data⟩ (by simp) rfl _ _ rfl rfl
          obtain rfl : x11 = _ := rx11
          exact ⟨_, by simp [execOp, go_sem, ex11], rfl⟩
        · trivial
      · intro a W3 listed hJ hall hsz hdf hk hgot
        obtain ⟨hF, hB⟩ := jk_end hJ (by decide : 12 < 14) hall
        clear hJ hall
        obtain ⟨vv13, ev13, rv13⟩ := hgot 13 _ 5 rfl rfl
        obtain rfl : vv13 = _ := rv13
        obtain ⟨f, hf, rfl⟩ := frame_eq hsz hdf hk [32, 33, 34, 35, 36, 37, 38, 39, 40, 41, 42, 43, 5] (by rfl)
        have f5 := hf 5 _ ev13
        clear hsz hdf hk hgot hf ev13
        simp only [List.drop_succ_cons, List.drop_zero, setAll, List.setIfInBounds_toArray, List.set_cons_succ, List.set_cons_zero, f5]
        clear f5
        generalize f 32 = uu32; generalize f 33 = uu33; generalize f 34 = uu34; generalize f 35 = uu35; generalize f 36 = uu36; generalize f 37 = uu37; generalize f 38 = uu38; generalize f 39 = uu39; generalize f 40 = uu40; generalize f 41 = uu41; generalize f 42 = uu42; generalize f 43 = uu43
        go_wp2
        exact bodyPost_ret (ret2V rfl _ _ (sb + 1) r _ rfl rfl hB) rfl ⟨by first | rfl | (rw [hkb]; rfl), hF.1⟩
end Go.Proofs.Ytpaehkjnefgaiaa
