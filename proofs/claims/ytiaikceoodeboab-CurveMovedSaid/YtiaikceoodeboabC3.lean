/- Package curve: a curve's point, a patch's point. The document's curves: a curve's point, a patch's point. A patch's sides: Row, the program's and the document's. A patch's sides: the document's Row. A point that the document fixes: layer 11's alive answers true. What a curve's and a patch's points keep: within the box of what tells them, told backwards, along a side, moved, rising. -/
import Derived.Test.YtiaikceoodeboabC2
namespace Go.Proofs.Ytiaikceoodeboab
open Go.RowKit
set_option linter.unusedVariables false
set_option linter.unusedSimpArgs false
set_option linter.unnecessarySimpa false
set_option maxRecDepth 100000
def N3 : P3 := ⟨0, 0, 0⟩
def cubK (p : Nat → P3) (i n : Int) : Bool := thB i n && okB p 4
def cubP (p : Nat → P3) (i n : Int) : P3 := if cubK p i n = true then rnP (sumP (wt i n) p 4) (n * n * n) else N3
def ptK (p : Nat → P3) (i n j m : Int) : Bool := thB i n && thB j m && okB p 16
def ptP (p : Nat → P3) (i n j m : Int) : P3 := if ptK p i n j m = true then rnP (sumP (wt2 i n j m) p 16) (n * n * n * (m * m * m)) else N3
theorem thB_iff {i n : Int} : thB i n = true ↔ 1 ≤ n ∧ n ≤ 16 ∧ 0 ≤ i ∧ i ≤ n := decide_eq_true_iff
theorem cube2_bd {n m : Int} (h0 : 1 ≤ n) (h1 : n ≤ 16) (g0 : 1 ≤ m) (g1 : m ≤ 16) : 1 ≤ n * n * n * (m * m * m) ∧ n * n * n * (m * m * m) ≤ 16777216 := by
  obtain ⟨a, b⟩ := cube_bd h0 h1
  obtain ⟨c, d⟩ := cube_bd g0 g1
  generalize n * n * n = x at *
  generalize m * m * m = y at *
  have e := Int.mul_le_mul b d (by omega) (by omega)
  have f := Int.mul_le_mul a c (by omega) (by omega)
  omega
theorem cub_tn (p : Nat → P3) (i n : Int) (h : thB i n = false) : Gives Try.prog 11 #[.agg (ptsC 4 p), .int .i64 i, .int .i64 n] (.tuple #[.agg #[.int .i64 (cubP p i n).x, .int .i64 (cubP p i n).y, .int .i64 (cubP p i n).z], .bool (cubK p i n)]) := by
  have hk : cubK p i n = false := by unfold cubK; simp [h]
  rw [show cubP p i n = N3 by unfold cubP; rw [hk]; rfl, hk]
  have p1 := parted_any i n
  rw [h] at p1
  refine Gives.mk fun W => ?_
  go_enter Try.func11, Try.ntmps11
  go_wp2_with (first | (go_at_call 21; first | ((with_reducible refine (p1.at_ _).mono ?_); rintro e w' ⟨rfl, xg, rfl⟩)) | fail)
  refine bodyPost_ret (v := .tuple #[.agg #[.int .i64 N3.x, .int .i64 N3.y, .int .i64 N3.z], .bool false]) (by simp [results, Try.results11, go_sem, N3]) rfl ⟨rfl, (by repeat (first | exact Below.refl _ _ | refine bel_then ?_ _ | refine bel_grow ?_ _ | refine bel_alloc ?_ _ | refine bel_drew ?_ | refine bel_set ?_ (by simp) _ | refine bel_setRow ?_ (by first | omega | (simp; done) | (refine Nat.le_trans ?_ (top_le _ _); simp; done) | (refine Nat.le_succ_of_le (Nat.le_trans ?_ (top_le _ _)); simp; done) | (refine Nat.le_trans ?_ (top_le _ _); simp only [World.size_alloc]; refine Nat.le_succ_of_le (Nat.le_trans ?_ (top_le _ _)); simp; done)) _))⟩
set_option maxHeartbeats 1000000 in
theorem cub_bn (p : Nat → P3) (i n : Int) (h : thB i n = true) (hp : okB p 4 = false) : Gives Try.prog 11 #[.agg (ptsC 4 p), .int .i64 i, .int .i64 n] (.tuple #[.agg #[.int .i64 (cubP p i n).x, .int .i64 (cubP p i n).y, .int .i64 (cubP p i n).z], .bool (cubK p i n)]) := by
  have hk : cubK p i n = false := by unfold cubK; simp [hp]
  rw [show cubP p i n = N3 by unfold cubP; rw [hk]; rfl, hk]
  refine Gives.mk fun W => ?_
  have hB0 : Blk ((W.alloc (.cells (ptsC 4 p) 26)).alloc (.cells #[.int .i64 0, .int .i64 0, .int .i64 0] 23)) W.heap.size 26 (ptsC 4 p) := (Blk.new _ _ _ _ rfl).alloc _
  have hR0 : Blk ((W.alloc (.cells (ptsC 4 p) 26)).alloc (.cells #[.int .i64 0, .int .i64 0, .int .i64 0] 23)) (W.heap.size + 1) 23 #[.int .i64 0, .int .i64 0, .int .i64 0] := Blk.new _ _ _ _ (by simp)
  have hb0 : Below W.heap.size W ((W.alloc (.cells (ptsC 4 p) 26)).alloc (.cells #[.int .i64 0, .int .i64 0, .int .i64 0] 23)) := bel_alloc (bel_alloc (Below.refl _ _) _) _
  have p1 := parted_any i n
  rw [h] at p1
  go_enter Try.func11, Try.ntmps11
  go_upto_region 1 with (fail)
  generalize (W.alloc (.cells (ptsC 4 p) 26)).alloc (.cells #[.int .i64 0, .int .i64 0, .int .i64 0] 23) = W0 at *
  have hbx := hB0.lt
  have cB : ∀ x : More, Calls Try.prog 22 #[.slice (some ⟨W.heap.size, 0, none⟩) 4 4] (grow W0 x) fun e W' => e = .returned (.bool false) ∧ Below (grow W0 x).heap.size (grow W0 x) W' := fun x => by
    have := bounded_any (grow W0 x) W.heap.size 4 4 26 p (hB0.grow x) (by omega)
    rwa [hp] at this
  go_upto_region 2 with (first | (go_at_call 21; first | ((with_reducible refine (p1.at_ _).mono ?_); rintro e w' ⟨rfl, xg, rfl⟩)) | (go_at_call 22; (with_reducible refine (cB _).mono ?_); rintro e W1 ⟨rfl, hb1⟩) | fail)
  have hR1 : Blk W1 (W.heap.size + 1) 23 #[.int .i64 0, .int .i64 0, .int .i64 0] := (hR0.grow _ : Blk (grow W0 _) _ _ _).below hb1
  have hB1 : Below W.heap.size W W1 := bel_trans (bel_grow hb0 _) hb1
  clear hb1 cB
  have r0 := hR1.cell 0
  have r1 := hR1.cell 1
  have r2 := hR1.cell 2
  have rl := hR1.lt
  have f0 := hR1.frozen 0
  have f1 := hR1.frozen 1
  have f2 := hR1.frozen 2
  have hR3 := ((hR1.set 0 (.int .i64 0)).set 1 (.int .i64 0)).set 2 (.int .i64 0)
  have hB6 : Below W.heap.size W (((W1.setCell ⟨W.heap.size + 1, 0, none⟩ (.int .i64 0)).setCell ⟨W.heap.size + 1, 1, none⟩ (.int .i64 0)).setCell ⟨W.heap.size + 1, 2, none⟩ (.int .i64 0)) := bel_set (bel_set (bel_set hB1 (p := ⟨W.heap.size + 1, 0, none⟩) (by simp) _) (p := ⟨W.heap.size + 1, 1, none⟩) (by simp) _) (p := ⟨W.heap.size + 1, 2, none⟩) (by simp) _
  go_wp2
  generalize ((W1.setCell ⟨W.heap.size + 1, 0, none⟩ (.int .i64 0)).setCell ⟨W.heap.size + 1, 1, none⟩ (.int .i64 0)).setCell ⟨W.heap.size + 1, 2, none⟩ (.int .i64 0) = WE at *
  have w0 := hR3.cell 0
  have w1 := hR3.cell 1
  have w2 := hR3.cell 2
  refine bodyPost_ret (v := .tuple #[.agg #[.int .i64 N3.x, .int .i64 N3.y, .int .i64 N3.z], .bool false]) (by simp [results, Try.results11, go_sem, N3, w0, w1, w2]) rfl ⟨rfl, hB6⟩
set_option maxHeartbeats 2000000 in
theorem cub_ys (p : Nat → P3) (i n : Int) (h : thB i n = true) (hp : okB p 4 = true) : Gives Try.prog 11 #[.agg (ptsC 4 p), .int .i64 i, .int .i64 n] (.tuple #[.agg #[.int .i64 (cubP p i n).x, .int .i64 (cubP p i n).y, .int .i64 (cubP p i n).z], .bool (cubK p i n)]) := by
  have hk : cubK p i n = true := by unfold cubK; simp [h, hp]
  rw [show cubP p i n = rnP (sumP (wt i n) p 4) (n * n * n) by unfold cubP; rw [hk]; rfl, hk]
  refine Gives.mk fun W => ?_
  have hB0 : Blk ((W.alloc (.cells (ptsC 4 p) 26)).alloc (.cells #[.int .i64 0, .int .i64 0, .int .i64 0] 23)) W.heap.size 26 (ptsC 4 p) := (Blk.new _ _ _ _ rfl).alloc _
  have hR0 : Blk ((W.alloc (.cells (ptsC 4 p) 26)).alloc (.cells #[.int .i64 0, .int .i64 0, .int .i64 0] 23)) (W.heap.size + 1) 23 #[.int .i64 0, .int .i64 0, .int .i64 0] := Blk.new _ _ _ _ (by simp)
  have hb0 : Below W.heap.size W ((W.alloc (.cells (ptsC 4 p) 26)).alloc (.cells #[.int .i64 0, .int .i64 0, .int .i64 0] 23)) := bel_alloc (bel_alloc (Below.refl _ _) _) _
  have p1 := parted_any i n
  rw [h] at p1
  go_enter Try.func11, Try.ntmps11
  go_upto_region 1 with (fail)
  generalize (W.alloc (.cells (ptsC 4 p) 26)).alloc (.cells #[.int .i64 0, .int .i64 0, .int .i64 0] 23) = W0 at *
  have hbx := hB0.lt
  have kw := weights_G (thB_iff.1 h)
  have kc := cube_G (n := n) (by have := thB_iff.1 h; omega) (by have := thB_iff.1 h; omega)
  have cB : ∀ x : More, Calls Try.prog 22 #[.slice (some ⟨W.heap.size, 0, none⟩) 4 4] (grow W0 x) fun e W' => e = .returned (.bool true) ∧ Below (grow W0 x).heap.size (grow W0 x) W' := fun x => by
    have := bounded_any (grow W0 x) W.heap.size 4 4 26 p (hB0.grow x) (by omega)
    rwa [hp] at this
  go_upto_region 3 with (first | (go_at_call 21; first | ((with_reducible refine (p1.at_ _).mono ?_); rintro e w' ⟨rfl, xg, rfl⟩)) | (go_at_call 22; (with_reducible refine (cB _).mono ?_); rintro e W1 ⟨rfl, hb1⟩) | fail)
  have hP1 : Blk W1 W.heap.size 26 (ptsC 4 p) := (hB0.grow _ : Blk (grow W0 _) _ _ _).below hb1
  have hR1 : Blk W1 (W.heap.size + 1) 23 #[.int .i64 0, .int .i64 0, .int .i64 0] := (hR0.grow _ : Blk (grow W0 _) _ _ _).below hb1
  have hB1 : Below W.heap.size W W1 := bel_trans (bel_grow hb0 _) hb1
  have hW1 : W.heap.size + 1 < W1.heap.size := hR1.lt
  clear hb1 cB hb0 hB0 hR0 hbx
  unfold wtV at kw
  go_upto_region 4 with (first | (go_at_call 23; first | ((with_reducible refine (kw.at_ _).mono ?_); rintro e w' ⟨rfl, xg, rfl⟩)) | fail)
  have hP2 : Blk ((grow W1 xg).alloc (.cells #[.int .i64 (wt i n 0), .int .i64 (wt i n 1), .int .i64 (wt i n 2), .int .i64 (wt i n 3)] 43)) W.heap.size 26 (ptsC 4 p) := (hP1.grow xg).alloc _
  have hR2 : Blk ((grow W1 xg).alloc (.cells #[.int .i64 (wt i n 0), .int .i64 (wt i n 1), .int .i64 (wt i n 2), .int .i64 (wt i n 3)] 43)) (W.heap.size + 1) 23 #[.int .i64 0, .int .i64 0, .int .i64 0] := (hR1.grow xg).alloc _
  have hU2 : WtB ((grow W1 xg).alloc (.cells #[.int .i64 (wt i n 0), .int .i64 (wt i n 1), .int .i64 (wt i n 2), .int .i64 (wt i n 3)] 43)) (grow W1 xg).heap.size (wt i n) := WtB.of (Blk.new _ _ _ _ rfl)
  have hB2 : Below W.heap.size W ((grow W1 xg).alloc (.cells #[.int .i64 (wt i n 0), .int .i64 (wt i n 1), .int .i64 (wt i n 2), .int .i64 (wt i n 3)] 43)) := bel_alloc (bel_grow hB1 xg) _
  generalize ((grow W1 xg).alloc (.cells #[.int .i64 (wt i n 0), .int .i64 (wt i n 1), .int .i64 (wt i n 2), .int .i64 (wt i n 3)] 43)) = W2 at *
  generalize (grow W1 xg).heap.size = bw at *
  have hbp := hP2.lt
  have hbu := hU2.1
  have kM : ∀ x : More, Calls Try.prog 24 #[.int .i64 (n * n * n), .slice (some ⟨W.heap.size, 0, none⟩) 4 4, .func (.func 26) #[] #[.pointer (some ⟨bw, 0, none⟩)]] (grow W2 x) fun e w' => e = .returned (.agg #[.int .i64 (rnP (sumP (wt i n) p 4) (n * n * n)).x, .int .i64 (rnP (sumP (wt i n) p 4) (n * n * n)).y, .int .i64 (rnP (sumP (wt i n) p 4) (n * n * n)).z]) ∧ Below (grow W2 x).heap.size (grow W2 x) w' := fun x =>
    mean1_any (grow W2 x) bw (wt i n) (hU2.below (x.kept W2)) W.heap.size 4 26 p (hP2.grow x) (n * n * n) (fun k _ => wt_pos (by have := thB_iff.1 h; omega) (by have := thB_iff.1 h; omega) k) (by rw [wt_tot]; have := cube_bd (n := n) (by have := thB_iff.1 h; omega) (by have := thB_iff.1 h; omega); omega) hp (by have := cube_bd (n := n) (by have := thB_iff.1 h; omega) (by have := thB_iff.1 h; omega); omega) (by have := cube_bd (n := n) (by have := thB_iff.1 h; omega) (by have := thB_iff.1 h; omega); omega)
  generalize hrn : rnP (sumP (wt i n) p 4) (n * n * n) = rn at *
  replace hrn := Lib.hid hrn
  refine wp_region_tail 5 ?_ (by kernel_rfl) (by kernel_rfl) (by kernel_rfl) (fun x => ?_) (fun x => ?_)
  rotate_left
  · simp only [List.take_succ_cons, List.take_zero]
    repeat (go_big_quiet_step (((first | with_reducible exact kc.quiet _ | with_reducible exact kc.quiet2 _ _ | with_reducible exact cq1 _ (kM _) | with_reducible exact cq2 _ _ (kM _)))))
    refine wpQuiet_nil ?_
    exact rfl
  simp only [List.drop_succ_cons, List.drop_zero]
  try simp only [Act.put, List.setIfInBounds_toArray, List.set_cons_succ, List.set_cons_zero]
  have hR3 := hR2.grow x
  have hB3 := bel_grow hB2 x
  clear hR2 hB2 hP2 hU2 kM
  generalize grow W2 x = W3 at *
  have r0 := hR3.cell 0
  have r1 := hR3.cell 1
  have r2 := hR3.cell 2
  have rl := hR3.lt
  have f0 := hR3.frozen 0
  have f1 := hR3.frozen 1
  have f2 := hR3.frozen 2
  have hR4 := ((hR3.set 0 (.int .i64 rn.x)).set 1 (.int .i64 rn.y)).set 2 (.int .i64 rn.z)
  have hB6 : Below W.heap.size W (((W3.setCell ⟨W.heap.size + 1, 0, none⟩ (.int .i64 rn.x)).setCell ⟨W.heap.size + 1, 1, none⟩ (.int .i64 rn.y)).setCell ⟨W.heap.size + 1, 2, none⟩ (.int .i64 rn.z)) := bel_set (bel_set (bel_set hB3 (p := ⟨W.heap.size + 1, 0, none⟩) (by simp) _) (p := ⟨W.heap.size + 1, 1, none⟩) (by simp) _) (p := ⟨W.heap.size + 1, 2, none⟩) (by simp) _
  go_wp2
  generalize ((W3.setCell ⟨W.heap.size + 1, 0, none⟩ (.int .i64 rn.x)).setCell ⟨W.heap.size + 1, 1, none⟩ (.int .i64 rn.y)).setCell ⟨W.heap.size + 1, 2, none⟩ (.int .i64 rn.z) = WE at *
  have w0 := hR4.cell 0
  have w1 := hR4.cell 1
  have w2 := hR4.cell 2
  refine bodyPost_ret (v := .tuple #[.agg #[.int .i64 rn.x, .int .i64 rn.y, .int .i64 rn.z], .bool true]) (by simp [results, Try.results11, go_sem, w0, w1, w2]) rfl ⟨by rw [hrn.out], hB6⟩
theorem pt_tn (p : Nat → P3) (i n j m : Int) (h : thB i n = false) : Gives Try.prog 13 #[.agg (ptsC 16 p), .int .i64 i, .int .i64 n, .int .i64 j, .int .i64 m] (.tuple #[.agg #[.int .i64 (ptP p i n j m).x, .int .i64 (ptP p i n j m).y, .int .i64 (ptP p i n j m).z], .bool (ptK p i n j m)]) := by
  have hk : ptK p i n j m = false := by unfold ptK; simp [h]
  rw [show ptP p i n j m = N3 by unfold ptP; rw [hk]; rfl, hk]
  have p1 := parted_any i n
  have p2 := parted_any j m
  rw [h] at p1
  refine Gives.mk fun W => ?_
  go_enter Try.func13, Try.ntmps13
  go_wp2_with (first | (go_at_call 21; first | ((with_reducible refine (p1.at_ _).mono ?_); rintro e w' ⟨rfl, xg, rfl⟩) | ((with_reducible refine (p2.at_ _).mono ?_); rintro e w' ⟨rfl, xg, rfl⟩)) | fail)
  refine bodyPost_ret (v := .tuple #[.agg #[.int .i64 N3.x, .int .i64 N3.y, .int .i64 N3.z], .bool false]) (by simp [results, Try.results13, go_sem, N3]) rfl ⟨rfl, (by repeat (first | exact Below.refl _ _ | refine bel_then ?_ _ | refine bel_grow ?_ _ | refine bel_alloc ?_ _ | refine bel_drew ?_ | refine bel_set ?_ (by simp) _ | refine bel_setRow ?_ (by first | omega | (simp; done) | (refine Nat.le_trans ?_ (top_le _ _); simp; done) | (refine Nat.le_succ_of_le (Nat.le_trans ?_ (top_le _ _)); simp; done) | (refine Nat.le_trans ?_ (top_le _ _); simp only [World.size_alloc]; refine Nat.le_succ_of_le (Nat.le_trans ?_ (top_le _ _)); simp; done)) _))⟩
theorem pt_tm (p : Nat → P3) (i n j m : Int) (h : thB i n = true ∧ thB j m = false) : Gives Try.prog 13 #[.agg (ptsC 16 p), .int .i64 i, .int .i64 n, .int .i64 j, .int .i64 m] (.tuple #[.agg #[.int .i64 (ptP p i n j m).x, .int .i64 (ptP p i n j m).y, .int .i64 (ptP p i n j m).z], .bool (ptK p i n j m)]) := by
  have hk : ptK p i n j m = false := by unfold ptK; simp [h]
  rw [show ptP p i n j m = N3 by unfold ptP; rw [hk]; rfl, hk]
  have p1 := parted_any i n
  have p2 := parted_any j m
  rw [h.1] at p1
  rw [h.2] at p2
  refine Gives.mk fun W => ?_
  go_enter Try.func13, Try.ntmps13
  go_wp2_with (first | (go_at_call 21; first | ((with_reducible refine (p1.at_ _).mono ?_); rintro e w' ⟨rfl, xg, rfl⟩) | ((with_reducible refine (p2.at_ _).mono ?_); rintro e w' ⟨rfl, xg, rfl⟩)) | fail)
  refine bodyPost_ret (v := .tuple #[.agg #[.int .i64 N3.x, .int .i64 N3.y, .int .i64 N3.z], .bool false]) (by simp [results, Try.results13, go_sem, N3]) rfl ⟨rfl, (by repeat (first | exact Below.refl _ _ | refine bel_then ?_ _ | refine bel_grow ?_ _ | refine bel_alloc ?_ _ | refine bel_drew ?_ | refine bel_set ?_ (by simp) _ | refine bel_setRow ?_ (by first | omega | (simp; done) | (refine Nat.le_trans ?_ (top_le _ _); simp; done) | (refine Nat.le_succ_of_le (Nat.le_trans ?_ (top_le _ _)); simp; done) | (refine Nat.le_trans ?_ (top_le _ _); simp only [World.size_alloc]; refine Nat.le_succ_of_le (Nat.le_trans ?_ (top_le _ _)); simp; done)) _))⟩
set_option maxHeartbeats 1000000 in
theorem pt_bn (p : Nat → P3) (i n j m : Int) (h : thB i n = true ∧ thB j m = true) (hp : okB p 16 = false) : Gives Try.prog 13 #[.agg (ptsC 16 p), .int .i64 i, .int .i64 n, .int .i64 j, .int .i64 m] (.tuple #[.agg #[.int .i64 (ptP p i n j m).x, .int .i64 (ptP p i n j m).y, .int .i64 (ptP p i n j m).z], .bool (ptK p i n j m)]) := by
  have hk : ptK p i n j m = false := by unfold ptK; simp [hp]
  rw [show ptP p i n j m = N3 by unfold ptP; rw [hk]; rfl, hk]
  refine Gives.mk fun W => ?_
  have hB0 : Blk ((W.alloc (.cells (ptsC 16 p) 24)).alloc (.cells #[.int .i64 0, .int .i64 0, .int .i64 0] 23)) W.heap.size 24 (ptsC 16 p) := (Blk.new _ _ _ _ rfl).alloc _
  have hR0 : Blk ((W.alloc (.cells (ptsC 16 p) 24)).alloc (.cells #[.int .i64 0, .int .i64 0, .int .i64 0] 23)) (W.heap.size + 1) 23 #[.int .i64 0, .int .i64 0, .int .i64 0] := Blk.new _ _ _ _ (by simp)
  have hb0 : Below W.heap.size W ((W.alloc (.cells (ptsC 16 p) 24)).alloc (.cells #[.int .i64 0, .int .i64 0, .int .i64 0] 23)) := bel_alloc (bel_alloc (Below.refl _ _) _) _
  have p1 := parted_any i n
  have p2 := parted_any j m
  rw [h.1] at p1
  rw [h.2] at p2
  go_enter Try.func13, Try.ntmps13
  go_upto_region 1 with (fail)
  generalize (W.alloc (.cells (ptsC 16 p) 24)).alloc (.cells #[.int .i64 0, .int .i64 0, .int .i64 0] 23) = W0 at *
  have hbx := hB0.lt
  have cB : ∀ x : More, Calls Try.prog 22 #[.slice (some ⟨W.heap.size, 0, none⟩) 16 16] (grow W0 x) fun e W' => e = .returned (.bool false) ∧ Below (grow W0 x).heap.size (grow W0 x) W' := fun x => by
    have := bounded_any (grow W0 x) W.heap.size 16 16 24 p (hB0.grow x) (by omega)
    rwa [hp] at this
  go_upto_region 2 with (first | (go_at_call 21; first | ((with_reducible refine (p1.at_ _).mono ?_); rintro e w' ⟨rfl, xg, rfl⟩) | ((with_reducible refine (p2.at_ _).mono ?_); rintro e w' ⟨rfl, xg, rfl⟩)) | (go_at_call 22; (with_reducible refine (cB _).mono ?_); rintro e W1 ⟨rfl, hb1⟩) | fail)
  have hR1 : Blk W1 (W.heap.size + 1) 23 #[.int .i64 0, .int .i64 0, .int .i64 0] := (hR0.grow _ : Blk (grow W0 _) _ _ _).below hb1
  have hB1 : Below W.heap.size W W1 := bel_trans (bel_grow hb0 _) hb1
  clear hb1 cB
  have r0 := hR1.cell 0
  have r1 := hR1.cell 1
  have r2 := hR1.cell 2
  have rl := hR1.lt
  have f0 := hR1.frozen 0
  have f1 := hR1.frozen 1
  have f2 := hR1.frozen 2
  have hR3 := ((hR1.set 0 (.int .i64 0)).set 1 (.int .i64 0)).set 2 (.int .i64 0)
  have hB6 : Below W.heap.size W (((W1.setCell ⟨W.heap.size + 1, 0, none⟩ (.int .i64 0)).setCell ⟨W.heap.size + 1, 1, none⟩ (.int .i64 0)).setCell ⟨W.heap.size + 1, 2, none⟩ (.int .i64 0)) := bel_set (bel_set (bel_set hB1 (p := ⟨W.heap.size + 1, 0, none⟩) (by simp) _) (p := ⟨W.heap.size + 1, 1, none⟩) (by simp) _) (p := ⟨W.heap.size + 1, 2, none⟩) (by simp) _
  go_wp2
  generalize ((W1.setCell ⟨W.heap.size + 1, 0, none⟩ (.int .i64 0)).setCell ⟨W.heap.size + 1, 1, none⟩ (.int .i64 0)).setCell ⟨W.heap.size + 1, 2, none⟩ (.int .i64 0) = WE at *
  have w0 := hR3.cell 0
  have w1 := hR3.cell 1
  have w2 := hR3.cell 2
  refine bodyPost_ret (v := .tuple #[.agg #[.int .i64 N3.x, .int .i64 N3.y, .int .i64 N3.z], .bool false]) (by simp [results, Try.results13, go_sem, N3, w0, w1, w2]) rfl ⟨rfl, hB6⟩
set_option maxHeartbeats 2000000 in
theorem pt_ys (p : Nat → P3) (i n j m : Int) (h : thB i n = true ∧ thB j m = true) (hp : okB p 16 = true) : Gives Try.prog 13 #[.agg (ptsC 16 p), .int .i64 i, .int .i64 n, .int .i64 j, .int .i64 m] (.tuple #[.agg #[.int .i64 (ptP p i n j m).x, .int .i64 (ptP p i n j m).y, .int .i64 (ptP p i n j m).z], .bool (ptK p i n j m)]) := by
  have hk : ptK p i n j m = true := by unfold ptK; simp [h, hp]
  rw [show ptP p i n j m = rnP (sumP (wt2 i n j m) p 16) (n * n * n * (m * m * m)) by unfold ptP; rw [hk]; rfl, hk]
  refine Gives.mk fun W => ?_
  have hB0 : Blk ((W.alloc (.cells (ptsC 16 p) 24)).alloc (.cells #[.int .i64 0, .int .i64 0, .int .i64 0] 23)) W.heap.size 24 (ptsC 16 p) := (Blk.new _ _ _ _ rfl).alloc _
  have hR0 : Blk ((W.alloc (.cells (ptsC 16 p) 24)).alloc (.cells #[.int .i64 0, .int .i64 0, .int .i64 0] 23)) (W.heap.size + 1) 23 #[.int .i64 0, .int .i64 0, .int .i64 0] := Blk.new _ _ _ _ (by simp)
  have hb0 : Below W.heap.size W ((W.alloc (.cells (ptsC 16 p) 24)).alloc (.cells #[.int .i64 0, .int .i64 0, .int .i64 0] 23)) := bel_alloc (bel_alloc (Below.refl _ _) _) _
  have p1 := parted_any i n
  have p2 := parted_any j m
  rw [h.1] at p1
  rw [h.2] at p2
  go_enter Try.func13, Try.ntmps13
  go_upto_region 1 with (fail)
  generalize (W.alloc (.cells (ptsC 16 p) 24)).alloc (.cells #[.int .i64 0, .int .i64 0, .int .i64 0] 23) = W0 at *
  have hbx := hB0.lt
  have kw := weights_G (thB_iff.1 h.1)
  have kw2 := weights_G (thB_iff.1 h.2)
  have kc := cube_G (n := n) (by have := thB_iff.1 h.1; omega) (by have := thB_iff.1 h.1; omega)
  have kc2 := cube_G (n := m) (by have := thB_iff.1 h.2; omega) (by have := thB_iff.1 h.2; omega)
  have ed : wrap64 (n * n * n * (m * m * m)) = n * n * n * (m * m * m) := wrap_id (by have := cube2_bd (n := n) (m := m) (by have := thB_iff.1 h.1; omega) (by have := thB_iff.1 h.1; omega) (by have := thB_iff.1 h.2; omega) (by have := thB_iff.1 h.2; omega); omega) (by have := cube2_bd (n := n) (m := m) (by have := thB_iff.1 h.1; omega) (by have := thB_iff.1 h.1; omega) (by have := thB_iff.1 h.2; omega) (by have := thB_iff.1 h.2; omega); omega)
  have cB : ∀ x : More, Calls Try.prog 22 #[.slice (some ⟨W.heap.size, 0, none⟩) 16 16] (grow W0 x) fun e W' => e = .returned (.bool true) ∧ Below (grow W0 x).heap.size (grow W0 x) W' := fun x => by
    have := bounded_any (grow W0 x) W.heap.size 16 16 24 p (hB0.grow x) (by omega)
    rwa [hp] at this
  go_upto_region 3 with (first | (go_at_call 21; first | ((with_reducible refine (p1.at_ _).mono ?_); rintro e w' ⟨rfl, xg, rfl⟩) | ((with_reducible refine (p2.at_ _).mono ?_); rintro e w' ⟨rfl, xg, rfl⟩)) | (go_at_call 22; (with_reducible refine (cB _).mono ?_); rintro e W1 ⟨rfl, hb1⟩) | fail)
  have hP1 : Blk W1 W.heap.size 24 (ptsC 16 p) := (hB0.grow _ : Blk (grow W0 _) _ _ _).below hb1
  have hR1 : Blk W1 (W.heap.size + 1) 23 #[.int .i64 0, .int .i64 0, .int .i64 0] := (hR0.grow _ : Blk (grow W0 _) _ _ _).below hb1
  have hB1 : Below W.heap.size W W1 := bel_trans (bel_grow hb0 _) hb1
  have hW1 : W.heap.size + 1 < W1.heap.size := hR1.lt
  clear hb1 cB hb0 hB0 hR0 hbx
  unfold wtV at kw kw2
  go_upto_region 4 with (first | (go_at_call 23; first | ((with_reducible refine (kw.at_ _).mono ?_); rintro e w' ⟨rfl, xg, rfl⟩) | ((with_reducible refine (kw2.at_ _).mono ?_); rintro e w' ⟨rfl, xh, rfl⟩)) | fail)
  have hP2 : Blk (((grow W1 (xg.then xh)).alloc (.cells #[.int .i64 (wt i n 0), .int .i64 (wt i n 1), .int .i64 (wt i n 2), .int .i64 (wt i n 3)] 43)).alloc (.cells #[.int .i64 (wt j m 0), .int .i64 (wt j m 1), .int .i64 (wt j m 2), .int .i64 (wt j m 3)] 43)) W.heap.size 24 (ptsC 16 p) := ((hP1.grow _).alloc _).alloc _
  have hR2 : Blk (((grow W1 (xg.then xh)).alloc (.cells #[.int .i64 (wt i n 0), .int .i64 (wt i n 1), .int .i64 (wt i n 2), .int .i64 (wt i n 3)] 43)).alloc (.cells #[.int .i64 (wt j m 0), .int .i64 (wt j m 1), .int .i64 (wt j m 2), .int .i64 (wt j m 3)] 43)) (W.heap.size + 1) 23 #[.int .i64 0, .int .i64 0, .int .i64 0] := ((hR1.grow _).alloc _).alloc _
  have hU2 : WtB (((grow W1 (xg.then xh)).alloc (.cells #[.int .i64 (wt i n 0), .int .i64 (wt i n 1), .int .i64 (wt i n 2), .int .i64 (wt i n 3)] 43)).alloc (.cells #[.int .i64 (wt j m 0), .int .i64 (wt j m 1), .int .i64 (wt j m 2), .int .i64 (wt j m 3)] 43)) (grow W1 (xg.then xh)).heap.size (wt i n) := WtB.of ((Blk.new _ _ _ _ rfl).alloc _)
  have hV2 : WtB (((grow W1 (xg.then xh)).alloc (.cells #[.int .i64 (wt i n 0), .int .i64 (wt i n 1), .int .i64 (wt i n 2), .int .i64 (wt i n 3)] 43)).alloc (.cells #[.int .i64 (wt j m 0), .int .i64 (wt j m 1), .int .i64 (wt j m 2), .int .i64 (wt j m 3)] 43)) ((grow W1 (xg.then xh)).heap.size + 1) (wt j m) := WtB.of (Blk.new _ _ _ _ (by simp))
  have hB2 : Below W.heap.size W (((grow W1 (xg.then xh)).alloc (.cells #[.int .i64 (wt i n 0), .int .i64 (wt i n 1), .int .i64 (wt i n 2), .int .i64 (wt i n 3)] 43)).alloc (.cells #[.int .i64 (wt j m 0), .int .i64 (wt j m 1), .int .i64 (wt j m 2), .int .i64 (wt j m 3)] 43)) := bel_alloc (bel_alloc (bel_grow hB1 _) _) _
  generalize (((grow W1 (xg.then xh)).alloc (.cells #[.int .i64 (wt i n 0), .int .i64 (wt i n 1), .int .i64 (wt i n 2), .int .i64 (wt i n 3)] 43)).alloc (.cells #[.int .i64 (wt j m 0), .int .i64 (wt j m 1), .int .i64 (wt j m 2), .int .i64 (wt j m 3)] 43)) = W2 at *
  generalize (grow W1 (xg.then xh)).heap.size = bw at *
  have hbp := hP2.lt
  have hbu := hU2.1
  have hbv := hV2.1
  have kM : ∀ x : More, Calls Try.prog 24 #[.int .i64 (n * n * n * (m * m * m)), .slice (some ⟨W.heap.size, 0, none⟩) 16 16, .func (.func 32) #[] #[.pointer (some ⟨bw, 0, none⟩), .pointer (some ⟨bw + 1, 0, none⟩)]] (grow W2 x) fun e w' => e = .returned (.agg #[.int .i64 (rnP (sumP (wt2 i n j m) p 16) (n * n * n * (m * m * m))).x, .int .i64 (rnP (sumP (wt2 i n j m) p 16) (n * n * n * (m * m * m))).y, .int .i64 (rnP (sumP (wt2 i n j m) p 16) (n * n * n * (m * m * m))).z]) ∧ Below (grow W2 x).heap.size (grow W2 x) w' := fun x =>
    mean2_any (grow W2 x) bw (bw + 1) (wt i n) (wt j m) (wt2 i n j m) rfl (hU2.below (x.kept W2)) (hV2.below (x.kept W2)) W.heap.size 16 24 p (hP2.grow x) (n * n * n * (m * m * m)) (fun k _ => wt2_pos (by have := thB_iff.1 h.1; omega) (by have := thB_iff.1 h.1; omega) (by have := thB_iff.1 h.2; omega) (by have := thB_iff.1 h.2; omega) k) (by rw [wt2_tot]; exact (cube2_bd (by have := thB_iff.1 h.1; omega) (by have := thB_iff.1 h.1; omega) (by have := thB_iff.1 h.2; omega) (by have := thB_iff.1 h.2; omega)).2) hp (cube2_bd (by have := thB_iff.1 h.1; omega) (by have := thB_iff.1 h.1; omega) (by have := thB_iff.1 h.2; omega) (by have := thB_iff.1 h.2; omega)).1 (cube2_bd (by have := thB_iff.1 h.1; omega) (by have := thB_iff.1 h.1; omega) (by have := thB_iff.1 h.2; omega) (by have := thB_iff.1 h.2; omega)).2
  generalize hrn : rnP (sumP (wt2 i n j m) p 16) (n * n * n * (m * m * m)) = rn at *
  replace hrn := Lib.hid hrn
  generalize n * n * n = cn at kc ed kM
  generalize m * m * m = cm at kc2 ed kM
  refine wp_region_tail 8 ?_ (by kernel_rfl) (by kernel_rfl) (by kernel_rfl) (fun x => ?_) (fun x => ?_)
  rotate_left
  · simp only [List.take_succ_cons, List.take_zero]
    repeat (go_big_quiet_step (((first | with_reducible exact kc.quiet _ | with_reducible exact kc.quiet2 _ _ | with_reducible exact kc2.quiet _ | with_reducible exact kc2.quiet2 _ _ | with_reducible exact cq1 _ (kM _) | with_reducible exact cq2 _ _ (kM _)))))
    refine wpQuiet_nil ?_
    exact rfl
  simp only [List.drop_succ_cons, List.drop_zero]
  try simp only [Act.put, List.setIfInBounds_toArray, List.set_cons_succ, List.set_cons_zero]
  have hR3 := hR2.grow x
  have hB3 := bel_grow hB2 x
  clear hR2 hB2 hP2 hU2 hV2 kM
  generalize grow W2 x = W3 at *
  have r0 := hR3.cell 0
  have r1 := hR3.cell 1
  have r2 := hR3.cell 2
  have rl := hR3.lt
  have f0 := hR3.frozen 0
  have f1 := hR3.frozen 1
  have f2 := hR3.frozen 2
  have hR4 := ((hR3.set 0 (.int .i64 rn.x)).set 1 (.int .i64 rn.y)).set 2 (.int .i64 rn.z)
  have hB6 : Below W.heap.size W (((W3.setCell ⟨W.heap.size + 1, 0, none⟩ (.int .i64 rn.x)).setCell ⟨W.heap.size + 1, 1, none⟩ (.int .i64 rn.y)).setCell ⟨W.heap.size + 1, 2, none⟩ (.int .i64 rn.z)) := bel_set (bel_set (bel_set hB3 (p := ⟨W.heap.size + 1, 0, none⟩) (by simp) _) (p := ⟨W.heap.size + 1, 1, none⟩) (by simp) _) (p := ⟨W.heap.size + 1, 2, none⟩) (by simp) _
  go_wp2
  generalize ((W3.setCell ⟨W.heap.size + 1, 0, none⟩ (.int .i64 rn.x)).setCell ⟨W.heap.size + 1, 1, none⟩ (.int .i64 rn.y)).setCell ⟨W.heap.size + 1, 2, none⟩ (.int .i64 rn.z) = WE at *
  have w0 := hR4.cell 0
  have w1 := hR4.cell 1
  have w2 := hR4.cell 2
  refine bodyPost_ret (v := .tuple #[.agg #[.int .i64 rn.x, .int .i64 rn.y, .int .i64 rn.z], .bool true]) (by simp [results, Try.results13, go_sem, w0, w1, w2]) rfl ⟨by rw [hrn.out], hB6⟩
theorem cub_any (p : Nat → P3) (i n : Int) : Gives Try.prog 11 #[.agg (ptsC 4 p), .int .i64 i, .int .i64 n] (.tuple #[.agg #[.int .i64 (cubP p i n).x, .int .i64 (cubP p i n).y, .int .i64 (cubP p i n).z], .bool (cubK p i n)]) := by
  cases h : thB i n
  · exact cub_tn p i n h
  · cases hp : okB p 4
    · exact cub_bn p i n h hp
    · exact cub_ys p i n h hp
theorem pt_any (p : Nat → P3) (i n j m : Int) : Gives Try.prog 13 #[.agg (ptsC 16 p), .int .i64 i, .int .i64 n, .int .i64 j, .int .i64 m] (.tuple #[.agg #[.int .i64 (ptP p i n j m).x, .int .i64 (ptP p i n j m).y, .int .i64 (ptP p i n j m).z], .bool (ptK p i n j m)]) := by
  cases h : thB i n
  · exact pt_tn p i n j m h
  · cases g : thB j m
    · exact pt_tm p i n j m ⟨h, g⟩
    · cases hp : okB p 16
      · exact pt_bn p i n j m ⟨h, g⟩ hp
      · exact pt_ys p i n j m ⟨h, g⟩ hp
end Go.Proofs.Ytiaikceoodeboab
namespace Go.Proofs.Ytiaikceoodeboab
open Go.RowKit
set_option linter.unusedVariables false
set_option linter.unusedSimpArgs false
set_option linter.unnecessarySimpa false
set_option maxRecDepth 100000
theorem rOf_G (s : P3) (d : Int) (hx : (-1099511627776 ≤ s.x ∧ s.x ≤ 1099511627776) ∧ (-1099511627776 ≤ s.y ∧ s.y ≤ 1099511627776) ∧ -1099511627776 ≤ s.z ∧ s.z ≤ 1099511627776) (hd : 1 ≤ d ∧ d ≤ 16777216) : Gives Try.prog 31 #[.agg #[.int .i64 s.x, .int .i64 s.y, .int .i64 s.z], .int .i64 d] (.agg #[.int .i64 (rnP s d).x, .int .i64 (rnP s d).y, .int .i64 (rnP s d).z]) := by
  have k1 := rRound_any s.x d (by omega) (by omega) (by omega) (by omega)
  have k2 := rRound_any s.y d (by omega) (by omega) (by omega) (by omega)
  have k3 := rRound_any s.z d (by omega) (by omega) (by omega) (by omega)
  refine Gives.mk fun w => ?_
  go_enter Try.func31, Try.ntmps31
  go_upto_region 1 with (fail)
  refine wp_region_tail 13 ?_ (by kernel_rfl) (by kernel_rfl) (by kernel_rfl) (fun x => ?_) (fun x => ?_)
  rotate_left
  · simp only [List.take_succ_cons, List.take_zero]
    repeat (go_big_quiet_step (((first | with_reducible exact k1.quiet _ | with_reducible exact k1.quiet2 _ _ | with_reducible exact k2.quiet _ | with_reducible exact k2.quiet2 _ _ | with_reducible exact k3.quiet _ | with_reducible exact k3.quiet2 _ _))))
    refine wpQuiet_nil ?_
    exact rfl
  simp only [List.drop_succ_cons, List.drop_zero]
  try simp only [Act.put, List.setIfInBounds_toArray, List.set_cons_succ, List.set_cons_zero]
  go_wp2
  refine bodyPost_ret (v := .agg #[.int .i64 (rnP s d).x, .int .i64 (rnP s d).y, .int .i64 (rnP s d).z]) (by simp [results, Try.results31, go_sem, rnP]) rfl ⟨rfl, (by repeat (first | exact Below.refl _ _ | refine bel_then ?_ _ | refine bel_grow ?_ _ | refine bel_alloc ?_ _ | refine bel_drew ?_ | refine bel_set ?_ (by simp) _ | refine bel_setRow ?_ (by first | omega | (simp; done) | (refine Nat.le_trans ?_ (top_le _ _); simp; done) | (refine Nat.le_succ_of_le (Nat.le_trans ?_ (top_le _ _)); simp; done) | (refine Nat.le_trans ?_ (top_le _ _); simp only [World.size_alloc]; refine Nat.le_succ_of_le (Nat.le_trans ?_ (top_le _ _)); simp; done)) _))⟩
theorem rcub_tn (p : Nat → P3) (i n : Int) (h : thB i n = false) : Gives Try.prog 12 #[.agg (ptsC 4 p), .int .i64 i, .int .i64 n] (.tuple #[.agg #[.int .i64 (cubP p i n).x, .int .i64 (cubP p i n).y, .int .i64 (cubP p i n).z], .bool (cubK p i n)]) := by
  have hk : cubK p i n = false := by unfold cubK; simp [h]
  rw [show cubP p i n = N3 by unfold cubP; rw [hk]; rfl, hk]
  have p1 := there_any i n
  rw [h] at p1
  refine Gives.mk fun W => ?_
  go_enter Try.func12, Try.ntmps12
  go_wp2_with (first | (go_at_call 27; first | ((with_reducible refine (p1.at_ _).mono ?_); rintro e w' ⟨rfl, xa, rfl⟩)) | fail)
  refine bodyPost_ret (v := .tuple #[.agg #[.int .i64 N3.x, .int .i64 N3.y, .int .i64 N3.z], .bool false]) (by simp [results, Try.results12, go_sem, N3]) rfl ⟨rfl, (by repeat (first | exact Below.refl _ _ | refine bel_then ?_ _ | refine bel_grow ?_ _ | refine bel_alloc ?_ _ | refine bel_drew ?_ | refine bel_set ?_ (by simp) _ | refine bel_setRow ?_ (by first | omega | (simp; done) | (refine Nat.le_trans ?_ (top_le _ _); simp; done) | (refine Nat.le_succ_of_le (Nat.le_trans ?_ (top_le _ _)); simp; done) | (refine Nat.le_trans ?_ (top_le _ _); simp only [World.size_alloc]; refine Nat.le_succ_of_le (Nat.le_trans ?_ (top_le _ _)); simp; done)) _))⟩
set_option maxHeartbeats 4000000 in
theorem rcub_ys (p : Nat → P3) (i n : Int) (h : thB i n = true) : Gives Try.prog 12 #[.agg (ptsC 4 p), .int .i64 i, .int .i64 n] (.tuple #[.agg #[.int .i64 (cubP p i n).x, .int .i64 (cubP p i n).y, .int .i64 (cubP p i n).z], .bool (cubK p i n)]) := by
  have hno : okB p 4 = false → cubP p i n = N3 ∧ cubK p i n = false := fun hp => by
    have hk : cubK p i n = false := by unfold cubK; simp [hp]
    exact ⟨by unfold cubP; rw [hk]; rfl, hk⟩
  have hys : okB p 4 = true → cubP p i n = rnP (sumP (wt i n) p 4) (n * n * n) ∧ cubK p i n = true := fun hp => by
    have hk : cubK p i n = true := by unfold cubK; simp [h, hp]
    exact ⟨by unfold cubP; rw [hk]; rfl, hk⟩
  generalize cubP p i n = PP at *
  generalize cubK p i n = KK at *
  replace hno := Lib.hid hno
  have p1 := there_any i n
  rw [h] at p1
  obtain ⟨n0, n1, i0, i1⟩ := thB_iff.1 h
  have kw := rWeights_G (thB_iff.1 h)
  unfold wtV at kw
  obtain ⟨a1, ha1⟩ : ∃ a, a = n * n := ⟨_, rfl⟩
  have hcb := cube_bd n0 n1
  have hq1 : 0 ≤ a1 ∧ a1 ≤ 256 := by rw [ha1]; exact ⟨Int.mul_nonneg (by omega) (by omega), Int.mul_le_mul n1 n1 (by omega) (by omega)⟩
  obtain ⟨dd, hdd⟩ : ∃ a, a = n * n * n := ⟨_, rfl⟩
  have w1 : wrap64 (n * n) = a1 := by rw [← ha1]; exact wrap_id (by omega) (by omega)
  have w2 : wrap64 (a1 * n) = dd := by rw [ha1, ← hdd]; rw [← hdd] at hcb; exact wrap_id (by omega) (by omega)
  rw [← hdd] at hcb hys
  replace hdd := Lib.hid hdd
  replace ha1 := Lib.hid ha1
  replace hys := Lib.hid hys
  have hu : ∀ k, k < 4 → 0 ≤ (wt i n) k := fun k _ => wt_pos i0 i1 k
  have ht : totW (wt i n) 4 ≤ 16777216 := by rw [wt_tot, ← hdd.out]; omega
  refine Gives.mk fun W => ?_
  have hP0 : Blk ((W.alloc (.cells (ptsC 4 p) 26)).alloc (.cells #[.int .i64 0, .int .i64 0, .int .i64 0] 23)) W.heap.size 26 (ptsC 4 p) := (Blk.new _ _ _ _ rfl).alloc _
  have hR0 : Blk ((W.alloc (.cells (ptsC 4 p) 26)).alloc (.cells #[.int .i64 0, .int .i64 0, .int .i64 0] 23)) (W.heap.size + 1) 23 #[.int .i64 0, .int .i64 0, .int .i64 0] := Blk.new _ _ _ _ (by simp)
  have hb0 : Below W.heap.size W ((W.alloc (.cells (ptsC 4 p) 26)).alloc (.cells #[.int .i64 0, .int .i64 0, .int .i64 0] 23)) := bel_alloc (bel_alloc (Below.refl _ _) _) _
  go_enter Try.func12, Try.ntmps12
  go_upto_region 1 with (fail)
  generalize ((W.alloc (.cells (ptsC 4 p) 26)).alloc (.cells #[.int .i64 0, .int .i64 0, .int .i64 0] 23)) = W1 at *
  go_upto_region 3 with (first | (go_at_call 27; first | ((with_reducible refine (p1.at_ _).mono ?_); rintro e w' ⟨rfl, xa, rfl⟩)) | fail)
  have hP2 := hP0.grow xa
  have hR2 := hR0.grow xa
  have hB2 := bel_grow hb0 xa
  clear hP0 hR0 hb0
  generalize grow W1 xa = W2 at *
  go_upto_region 5 with (first | (go_at_call 28; first | ((with_reducible refine (kw.at_ _).mono ?_); rintro e w' ⟨rfl, xg, rfl⟩)) | fail)
  have hbw : W.heap.size + 1 < (grow W2 xg).heap.size := Nat.lt_of_lt_of_le hR2.lt (xg.kept W2).size
  have hP3 : Blk (((grow W2 xg).alloc (.cells #[.int .i64 (wt i n 0), .int .i64 (wt i n 1), .int .i64 (wt i n 2), .int .i64 (wt i n 3)] 43)).alloc (.cells #[.int .i64 0, .int .i64 0, .int .i64 0] 23)) W.heap.size 26 (ptsC 4 p) := ((hP2.grow xg).alloc _).alloc _
  have hR3 : Blk (((grow W2 xg).alloc (.cells #[.int .i64 (wt i n 0), .int .i64 (wt i n 1), .int .i64 (wt i n 2), .int .i64 (wt i n 3)] 43)).alloc (.cells #[.int .i64 0, .int .i64 0, .int .i64 0] 23)) (W.heap.size + 1) 23 #[.int .i64 0, .int .i64 0, .int .i64 0] := ((hR2.grow xg).alloc _).alloc _
  have hU3 : Blk (((grow W2 xg).alloc (.cells #[.int .i64 (wt i n 0), .int .i64 (wt i n 1), .int .i64 (wt i n 2), .int .i64 (wt i n 3)] 43)).alloc (.cells #[.int .i64 0, .int .i64 0, .int .i64 0] 23)) (grow W2 xg).heap.size 43 #[.int .i64 (wt i n 0), .int .i64 (wt i n 1), .int .i64 (wt i n 2), .int .i64 (wt i n 3)] := (Blk.new _ _ _ _ rfl).alloc _
  have hS3 : Blk (((grow W2 xg).alloc (.cells #[.int .i64 (wt i n 0), .int .i64 (wt i n 1), .int .i64 (wt i n 2), .int .i64 (wt i n 3)] 43)).alloc (.cells #[.int .i64 0, .int .i64 0, .int .i64 0] 23)) ((grow W2 xg).heap.size + 1) 23 #[.int .i64 0, .int .i64 0, .int .i64 0] := Blk.new _ _ _ _ (by simp)
  have hB3 : Below W.heap.size W (((grow W2 xg).alloc (.cells #[.int .i64 (wt i n 0), .int .i64 (wt i n 1), .int .i64 (wt i n 2), .int .i64 (wt i n 3)] 43)).alloc (.cells #[.int .i64 0, .int .i64 0, .int .i64 0] 23)) := bel_alloc (bel_alloc (bel_grow hB2 xg) _) _
  generalize (((grow W2 xg).alloc (.cells #[.int .i64 (wt i n 0), .int .i64 (wt i n 1), .int .i64 (wt i n 2), .int .i64 (wt i n 3)] 43)).alloc (.cells #[.int .i64 0, .int .i64 0, .int .i64 0] 23)) = W3 at *
  generalize (grow W2 xg).heap.size = bw at *
  have hne : (bw + 1) ≠ W.heap.size ∧ (bw + 1) ≠ W.heap.size + 1 ∧ (bw + 1) ≠ bw ∧ W.heap.size ≤ (bw + 1) := by omega
  clear hP2 hR2 hB2
  go_wp2
  go_loopw [10] (fun iv wr => ∃ k : Nat, iv = .int .i64 (k : Int) ∧ k ≤ 4 ∧ okB p k = true ∧ Below W.heap.size W wr ∧ Blk wr W.heap.size 26 (ptsC 4 p) ∧ Blk wr (W.heap.size + 1) 23 #[.int .i64 0, .int .i64 0, .int .i64 0] ∧ Blk wr (bw + 1) 23 #[.int .i64 (sumP (wt i n) p k).x, .int .i64 (sumP (wt i n) p k).y, .int .i64 (sumP (wt i n) p k).z] ∧ Blk wr bw 43 #[.int .i64 (wt i n 0), .int .i64 (wt i n 1), .int .i64 (wt i n 2), .int .i64 (wt i n 3)]) (fun iv _ => 4 - (intOf iv).toNat)
  case atStart => exact ⟨0, rfl, by omega, rfl, hB3, hP3, hR3, hS3, hU3⟩
  case round =>
    obtain ⟨k, rfl, hk, hal, hBr, hPr, hRr, hSr, hUr⟩ := hrel
    clear hB3 hP3 hR3 hS3 hU3
    rename World => wr
    by_cases hlt : k < 4
    · obtain ⟨c1, c2, c3⟩ := ptsB hPr hlt
      have hbl := hPr.lt
      have cW := uWithin_G (p k)
      have q0 : (0 : Int) ≤ (k : Int) := by omega
      have q1 : (k : Int) < 4 := by omega
      cases hw : wi (p k)
      · have hno2 := hno.out (okB_no (p := p) hlt hw)
        rw [hw] at cW
        generalize p k = q at *
        replace hw := trivial
        replace hno2 := Lib.hid hno2
        go_upto_region 9 with (first | (go_at_call 29; (with_reducible refine (cW.at_ _).mono ?_); rintro e w' ⟨rfl, xw, rfl⟩) | fail)
        have hR5 := hRr.grow xw
        have hB5 := bel_grow hBr xw
        clear hPr hSr hUr hRr hBr c1 c2 c3 cW
        generalize grow wr xw = W5 at *
        have r0 := hR5.cell 0
        have r1 := hR5.cell 1
        have r2 := hR5.cell 2
        have rl := hR5.lt
        have f0 := hR5.frozen 0
        have f1 := hR5.frozen 1
        have f2 := hR5.frozen 2
        have hR6 := (((hR5).set 0 (.int .i64 (0))).set 1 (.int .i64 (0))).set 2 (.int .i64 (0))
        have hB6 : Below W.heap.size W ((((W5).setCell ⟨W.heap.size + 1, 0, none⟩ (.int .i64 (0))).setCell ⟨W.heap.size + 1, 1, none⟩ (.int .i64 (0))).setCell ⟨W.heap.size + 1, 2, none⟩ (.int .i64 (0))) := bel_set (bel_set (bel_set hB5 (p := ⟨W.heap.size + 1, 0, none⟩) (by simp) (.int .i64 (0))) (p := ⟨W.heap.size + 1, 1, none⟩) (by simp) (.int .i64 (0))) (p := ⟨W.heap.size + 1, 2, none⟩) (by simp) (.int .i64 (0))
        go_wp2
        generalize (((W5).setCell ⟨W.heap.size + 1, 0, none⟩ (.int .i64 (0))).setCell ⟨W.heap.size + 1, 1, none⟩ (.int .i64 (0))).setCell ⟨W.heap.size + 1, 2, none⟩ (.int .i64 (0)) = WE at *
        have w0 := hR6.cell 0
        have w1 := hR6.cell 1
        have w2 := hR6.cell 2
        refine bodyPost_ret (v := .tuple #[.agg #[.int .i64 N3.x, .int .i64 N3.y, .int .i64 N3.z], .bool false]) (by simp [results, Try.results12, go_sem, N3, w0, w1, w2]) rfl ⟨by rw [hno2.out.1, hno2.out.2], hB6⟩
      · have hal2 : okB p (k + 1) = true := by rw [okB, hal, hw]; rfl
        rw [hw] at cW
        obtain ⟨⟨e1, e2, e3⟩, e4, e5, e6⟩ := step_bd (u := (wt i n)) (fun j hj => hu j (by omega)) hal2 (Int.le_trans (totW_le hu (k + 1) (by omega)).2 ht) (show k < k + 1 by omega)
        have hsucc := sumP_succ (wt i n) p k
        replace hal := trivial
        replace hal2 := Lib.hid hal2
        have hwk := (WtB.of hUr).2 k hlt
        obtain ⟨uk, huk⟩ : ∃ a, a = wt i n k := ⟨_, rfl⟩
        rw [← huk] at hwk e1 e2 e3 e4 e5 e6 hsucc
        replace huk := Lib.hid huk
        generalize hsk : sumP (wt i n) p (k + 1) = sk at *
        replace hsk := Lib.hid hsk
        generalize p k = q at *
        generalize sumP (wt i n) p k = sv at *
        replace hw := trivial
        go_upto_region 10 with (first | (go_at_call 29; (with_reducible refine (cW.at_ _).mono ?_); rintro e w' ⟨rfl, xw, rfl⟩) | fail)
        have hP5 := hPr.grow xw
        have hR5 := hRr.grow xw
        have hS5 := hSr.grow xw
        have hU5 := hUr.grow xw
        
        have hB5 := bel_grow hBr xw
        have d1 : (grow wr xw).cell? ⟨W.heap.size, k * 3, none⟩ = _ := ((xw.kept wr).cell (p := ⟨W.heap.size, k * 3, none⟩) hbl).trans c1
        have d2 : (grow wr xw).cell? ⟨W.heap.size, k * 3 + 1, none⟩ = _ := ((xw.kept wr).cell (p := ⟨W.heap.size, k * 3 + 1, none⟩) hbl).trans c2
        have d3 : (grow wr xw).cell? ⟨W.heap.size, k * 3 + 2, none⟩ = _ := ((xw.kept wr).cell (p := ⟨W.heap.size, k * 3 + 2, none⟩) hbl).trans c3
        have dw : (grow wr xw).cell? ⟨bw, k, none⟩ = _ := ((xw.kept wr).cell (p := ⟨bw, k, none⟩) hUr.lt).trans hwk
        clear hwk
        clear c1 c2 c3 hPr hRr hSr hUr hBr cW
        have hbl := hP5.lt
        generalize grow wr xw = W5 at *
        have ul := hU5.lt
        
        have z0 := hS5.cell 0
        have z1 := hS5.cell 1
        have z2 := hS5.cell 2
        have zl := hS5.lt
        have k1 := rScale_any q.x q.y q.z uk
        rw [e1, e2, e3] at k1
        have k2 := rAdd_any sv.x sv.y sv.z (q.x * uk) (q.y * uk) (q.z * uk)
        rw [e4, e5, e6] at k2
        clear e1 e2 e3 e4 e5 e6
        refine wp_region_tail 9 ?_ (by kernel_rfl) (by kernel_rfl) (by kernel_rfl) (fun x => ?_) (fun x => ?_)
        rotate_left
        · simp only [List.take_succ_cons, List.take_zero]
          repeat (go_big_quiet_step (((first | with_reducible exact k1.quiet _ | with_reducible exact k1.quiet2 _ _ | with_reducible exact k2.quiet _ | with_reducible exact k2.quiet2 _ _))))
          refine wpQuiet_nil ?_
          exact rfl
        simp only [List.drop_succ_cons, List.drop_zero]
        try simp only [Act.put, List.setIfInBounds_toArray, List.set_cons_succ, List.set_cons_zero]
        have hP6 := hP5.grow x
        have hR6 := hR5.grow x
        have hS6 := hS5.grow x
        have hU6 := hU5.grow x
        
        have hB6 := bel_grow hB5 x
        clear hP5 hR5 hS5 hU5 hB5 d1 d2 d3 dw z0 z1 z2 zl ul k1 k2 hbl
        generalize grow W5 x = W6 at *
        have r0 := hS6.cell 0
        have r1 := hS6.cell 1
        have r2 := hS6.cell 2
        have rl := hS6.lt
        have f0 := hS6.frozen 0
        have f1 := hS6.frozen 1
        have f2 := hS6.frozen 2
        have hP7 := (((hP6).far (b := (bw + 1)) 0 (.int .i64 (sv.x + q.x * uk)) hne.1).far (b := (bw + 1)) 1 (.int .i64 (sv.y + q.y * uk)) hne.1).far (b := (bw + 1)) 2 (.int .i64 (sv.z + q.z * uk)) hne.1
        have hR7 := (((hR6).far (b := (bw + 1)) 0 (.int .i64 (sv.x + q.x * uk)) hne.2.1).far (b := (bw + 1)) 1 (.int .i64 (sv.y + q.y * uk)) hne.2.1).far (b := (bw + 1)) 2 (.int .i64 (sv.z + q.z * uk)) hne.2.1
        have hU7 := (((hU6).far (b := (bw + 1)) 0 (.int .i64 (sv.x + q.x * uk)) hne.2.2.1).far (b := (bw + 1)) 1 (.int .i64 (sv.y + q.y * uk)) hne.2.2.1).far (b := (bw + 1)) 2 (.int .i64 (sv.z + q.z * uk)) hne.2.2.1
        
        have hS7 := (((hS6).set 0 (.int .i64 (sv.x + q.x * uk))).set 1 (.int .i64 (sv.y + q.y * uk))).set 2 (.int .i64 (sv.z + q.z * uk))
        have hB7 : Below W.heap.size W ((((W6).setCell ⟨(bw + 1), 0, none⟩ (.int .i64 (sv.x + q.x * uk))).setCell ⟨(bw + 1), 1, none⟩ (.int .i64 (sv.y + q.y * uk))).setCell ⟨(bw + 1), 2, none⟩ (.int .i64 (sv.z + q.z * uk))) := bel_set (bel_set (bel_set hB6 (p := ⟨(bw + 1), 0, none⟩) (by show _ ≤ (bw + 1); omega) (.int .i64 (sv.x + q.x * uk))) (p := ⟨(bw + 1), 1, none⟩) (by show _ ≤ (bw + 1); omega) (.int .i64 (sv.y + q.y * uk))) (p := ⟨(bw + 1), 2, none⟩) (by show _ ≤ (bw + 1); omega) (.int .i64 (sv.z + q.z * uk))
        replace hsucc := Lib.hid hsucc
        go_wp2
        go_roundw
        case rel =>
          refine ⟨k + 1, by go_num, by omega, hal2.out, hB7, hP7, hR7, ?_, hU7⟩
          rw [hsk.out, hsucc.out]
          exact hS7
        case measure => simp [intOf]; omega
    · obtain rfl : k = 4 := by omega
      have hys2 := hys.out hal
      have sb := sumP_bd hu hal ht (k := 4) (Nat.le_refl _)
      have kO := rOf_G (sumP (wt i n) p 4) dd sb (by omega)
      generalize rnP (sumP (wt i n) p 4) dd = rn at *
      generalize sumP (wt i n) p 4 = sv at *
      replace hys2 := Lib.hid hys2
      replace hal := trivial
      have z0 := hSr.cell 0
      have z1 := hSr.cell 1
      have z2 := hSr.cell 2
      have zl := hSr.lt
      clear sb
      go_wp2_with (first | (go_at_call 31; (with_reducible refine (kO.at_ _).mono ?_); rintro e Wo ⟨rfl, xo, hWo⟩; have hRo : Blk Wo (W.heap.size + 1) 23 #[.int .i64 0, .int .i64 0, .int .i64 0] := hWo ▸ hRr.grow xo; have hBo : Below W.heap.size W Wo := hWo ▸ bel_grow hBr xo; clear hWo; have rl := hRo.lt; have f0 := hRo.frozen 0; have f1 := hRo.frozen 1; have f2 := hRo.frozen 2; have r0 := hRo.cell 0; have r1 := hRo.cell 1; have r2 := hRo.cell 2) | fail)
      rename World => Wo
      have hR6 := (((hRo).set 0 (.int .i64 (rn.x))).set 1 (.int .i64 (rn.y))).set 2 (.int .i64 (rn.z))
      have hB6 : Below W.heap.size W ((((Wo).setCell ⟨W.heap.size + 1, 0, none⟩ (.int .i64 (rn.x))).setCell ⟨W.heap.size + 1, 1, none⟩ (.int .i64 (rn.y))).setCell ⟨W.heap.size + 1, 2, none⟩ (.int .i64 (rn.z))) := bel_set (bel_set (bel_set hBo (p := ⟨W.heap.size + 1, 0, none⟩) (by simp) (.int .i64 (rn.x))) (p := ⟨W.heap.size + 1, 1, none⟩) (by simp) (.int .i64 (rn.y))) (p := ⟨W.heap.size + 1, 2, none⟩) (by simp) (.int .i64 (rn.z))
      generalize (((Wo).setCell ⟨W.heap.size + 1, 0, none⟩ (.int .i64 (rn.x))).setCell ⟨W.heap.size + 1, 1, none⟩ (.int .i64 (rn.y))).setCell ⟨W.heap.size + 1, 2, none⟩ (.int .i64 (rn.z)) = WE at *
      have w0 := hR6.cell 0
      have w1 := hR6.cell 1
      have w2 := hR6.cell 2
      refine bodyPost_ret (v := .tuple #[.agg #[.int .i64 rn.x, .int .i64 rn.y, .int .i64 rn.z], .bool true]) (by simp [results, Try.results12, go_sem, w0, w1, w2]) rfl ⟨by rw [hys2.out.1, hys2.out.2], hB6⟩
theorem rpt_tn (p : Nat → P3) (i n j m : Int) (h : thB i n = false) : Gives Try.prog 14 #[.agg (ptsC 16 p), .int .i64 i, .int .i64 n, .int .i64 j, .int .i64 m] (.tuple #[.agg #[.int .i64 (ptP p i n j m).x, .int .i64 (ptP p i n j m).y, .int .i64 (ptP p i n j m).z], .bool (ptK p i n j m)]) := by
  have hk : ptK p i n j m = false := by unfold ptK; simp [h]
  rw [show ptP p i n j m = N3 by unfold ptP; rw [hk]; rfl, hk]
  have p1 := there_any i n
  have p2 := there_any j m
  rw [h] at p1
  refine Gives.mk fun W => ?_
  go_enter Try.func14, Try.ntmps14
  go_wp2_with (first | (go_at_call 27; first | ((with_reducible refine (p1.at_ _).mono ?_); rintro e w' ⟨rfl, xa, rfl⟩) | ((with_reducible refine (p2.at_ _).mono ?_); rintro e w' ⟨rfl, xb, rfl⟩)) | fail)
  refine bodyPost_ret (v := .tuple #[.agg #[.int .i64 N3.x, .int .i64 N3.y, .int .i64 N3.z], .bool false]) (by simp [results, Try.results14, go_sem, N3]) rfl ⟨rfl, (by repeat (first | exact Below.refl _ _ | refine bel_then ?_ _ | refine bel_grow ?_ _ | refine bel_alloc ?_ _ | refine bel_drew ?_ | refine bel_set ?_ (by simp) _ | refine bel_setRow ?_ (by first | omega | (simp; done) | (refine Nat.le_trans ?_ (top_le _ _); simp; done) | (refine Nat.le_succ_of_le (Nat.le_trans ?_ (top_le _ _)); simp; done) | (refine Nat.le_trans ?_ (top_le _ _); simp only [World.size_alloc]; refine Nat.le_succ_of_le (Nat.le_trans ?_ (top_le _ _)); simp; done)) _))⟩
theorem rpt_tm (p : Nat → P3) (i n j m : Int) (h : thB i n = true ∧ thB j m = false) : Gives Try.prog 14 #[.agg (ptsC 16 p), .int .i64 i, .int .i64 n, .int .i64 j, .int .i64 m] (.tuple #[.agg #[.int .i64 (ptP p i n j m).x, .int .i64 (ptP p i n j m).y, .int .i64 (ptP p i n j m).z], .bool (ptK p i n j m)]) := by
  have hk : ptK p i n j m = false := by unfold ptK; simp [h]
  rw [show ptP p i n j m = N3 by unfold ptP; rw [hk]; rfl, hk]
  have p1 := there_any i n
  have p2 := there_any j m
  rw [h.1] at p1
  rw [h.2] at p2
  refine Gives.mk fun W => ?_
  go_enter Try.func14, Try.ntmps14
  go_wp2_with (first | (go_at_call 27; first | ((with_reducible refine (p1.at_ _).mono ?_); rintro e w' ⟨rfl, xa, rfl⟩) | ((with_reducible refine (p2.at_ _).mono ?_); rintro e w' ⟨rfl, xb, rfl⟩)) | fail)
  refine bodyPost_ret (v := .tuple #[.agg #[.int .i64 N3.x, .int .i64 N3.y, .int .i64 N3.z], .bool false]) (by simp [results, Try.results14, go_sem, N3]) rfl ⟨rfl, (by repeat (first | exact Below.refl _ _ | refine bel_then ?_ _ | refine bel_grow ?_ _ | refine bel_alloc ?_ _ | refine bel_drew ?_ | refine bel_set ?_ (by simp) _ | refine bel_setRow ?_ (by first | omega | (simp; done) | (refine Nat.le_trans ?_ (top_le _ _); simp; done) | (refine Nat.le_succ_of_le (Nat.le_trans ?_ (top_le _ _)); simp; done) | (refine Nat.le_trans ?_ (top_le _ _); simp only [World.size_alloc]; refine Nat.le_succ_of_le (Nat.le_trans ?_ (top_le _ _)); simp; done)) _))⟩
set_option maxHeartbeats 4000000 in
theorem rpt_ys (p : Nat → P3) (i n j m : Int) (h : thB i n = true ∧ thB j m = true) : Gives Try.prog 14 #[.agg (ptsC 16 p), .int .i64 i, .int .i64 n, .int .i64 j, .int .i64 m] (.tuple #[.agg #[.int .i64 (ptP p i n j m).x, .int .i64 (ptP p i n j m).y, .int .i64 (ptP p i n j m).z], .bool (ptK p i n j m)]) := by
  have hno : okB p 16 = false → ptP p i n j m = N3 ∧ ptK p i n j m = false := fun hp => by
    have hk : ptK p i n j m = false := by unfold ptK; simp [hp]
    exact ⟨by unfold ptP; rw [hk]; rfl, hk⟩
  have hys : okB p 16 = true → ptP p i n j m = rnP (sumP (wt2 i n j m) p 16) (n * n * n * (m * m * m)) ∧ ptK p i n j m = true := fun hp => by
    have hk : ptK p i n j m = true := by unfold ptK; simp [h, hp]
    exact ⟨by unfold ptP; rw [hk]; rfl, hk⟩
  generalize ptP p i n j m = PP at *
  generalize ptK p i n j m = KK at *
  replace hno := Lib.hid hno
  have p1 := there_any i n
  have p2 := there_any j m
  rw [h.1] at p1
  rw [h.2] at p2
  obtain ⟨n0, n1, i0, i1⟩ := thB_iff.1 h.1
  obtain ⟨m0, m1, j0, j1⟩ := thB_iff.1 h.2
  have kw := rWeights_G (thB_iff.1 h.1)
  have kw2 := rWeights_G (thB_iff.1 h.2)
  unfold wtV at kw kw2
  obtain ⟨a1, ha1⟩ : ∃ a, a = n * n := ⟨_, rfl⟩
  have hcn := cube_bd n0 n1
  have hcm := cube_bd m0 m1
  have hcb := cube2_bd n0 n1 m0 m1
  have hq1 : 0 ≤ a1 ∧ a1 ≤ 256 := by rw [ha1]; exact ⟨Int.mul_nonneg (by omega) (by omega), Int.mul_le_mul n1 n1 (by omega) (by omega)⟩
  obtain ⟨a2, ha2⟩ : ∃ a, a = n * n * n := ⟨_, rfl⟩
  rw [← ha2] at hcn
  have m2 : ∀ {x y B C : Int}, 0 ≤ x → x ≤ B → 0 ≤ y → y ≤ C → 0 ≤ B → 0 ≤ x * y ∧ x * y ≤ B * C := fun hx hB hy hC hb => ⟨Int.mul_nonneg hx hy, Int.mul_le_mul hB hC hy hb⟩
  obtain ⟨a3, ha3⟩ : ∃ a, a = a2 * m := ⟨_, rfl⟩
  have hq3 := m2 (show 0 ≤ a2 by omega) hcn.2 (show 0 ≤ m by omega) m1 (by omega)
  rw [← ha3] at hq3
  obtain ⟨a4, ha4⟩ : ∃ a, a = a3 * m := ⟨_, rfl⟩
  have hq4 := m2 hq3.1 hq3.2 (show 0 ≤ m by omega) m1 (by omega)
  rw [← ha4] at hq4
  obtain ⟨dd, hdd⟩ : ∃ a, a = n * n * n * (m * m * m) := ⟨_, rfl⟩
  have w1 : wrap64 (n * n) = a1 := by rw [← ha1]; exact wrap_id (by omega) (by omega)
  have w2 : wrap64 (a1 * n) = a2 := by rw [ha1, ← ha2]; exact wrap_id (by omega) (by omega)
  have w3 : wrap64 (a2 * m) = a3 := by rw [← ha3]; exact wrap_id (by omega) (by omega)
  have w4 : wrap64 (a3 * m) = a4 := by rw [← ha4]; exact wrap_id (by omega) (by omega)
  have w5 : wrap64 (a4 * m) = dd := by
    have e : a4 * m = dd := by rw [ha4, ha3, ha2, hdd]; simp only [Int.mul_assoc]
    rw [e]; rw [← hdd] at hcb; exact wrap_id (by omega) (by omega)
  rw [← hdd] at hcb hys
  replace hdd := Lib.hid hdd
  replace ha1 := Lib.hid ha1
  replace ha2 := Lib.hid ha2
  replace ha3 := Lib.hid ha3
  replace ha4 := Lib.hid ha4
  clear m2 hq3 hq4 hcn hcm hq1
  replace hys := Lib.hid hys
  have hu : ∀ k, k < 16 → 0 ≤ (wt2 i n j m) k := fun k _ => wt2_pos i0 i1 j0 j1 k
  have ht : totW (wt2 i n j m) 16 ≤ 16777216 := by rw [wt2_tot, ← hdd.out]; omega
  refine Gives.mk fun W => ?_
  have hP0 : Blk ((W.alloc (.cells (ptsC 16 p) 24)).alloc (.cells #[.int .i64 0, .int .i64 0, .int .i64 0] 23)) W.heap.size 24 (ptsC 16 p) := (Blk.new _ _ _ _ rfl).alloc _
  have hR0 : Blk ((W.alloc (.cells (ptsC 16 p) 24)).alloc (.cells #[.int .i64 0, .int .i64 0, .int .i64 0] 23)) (W.heap.size + 1) 23 #[.int .i64 0, .int .i64 0, .int .i64 0] := Blk.new _ _ _ _ (by simp)
  have hb0 : Below W.heap.size W ((W.alloc (.cells (ptsC 16 p) 24)).alloc (.cells #[.int .i64 0, .int .i64 0, .int .i64 0] 23)) := bel_alloc (bel_alloc (Below.refl _ _) _) _
  go_enter Try.func14, Try.ntmps14
  go_upto_region 1 with (fail)
  generalize ((W.alloc (.cells (ptsC 16 p) 24)).alloc (.cells #[.int .i64 0, .int .i64 0, .int .i64 0] 23)) = W1 at *
  go_upto_region 3 with (first | (go_at_call 27; first | ((with_reducible refine (p1.at_ _).mono ?_); rintro e w' ⟨rfl, xa, rfl⟩) | ((with_reducible refine (p2.at_ _).mono ?_); rintro e w' ⟨rfl, xb, rfl⟩)) | fail)
  have hP2 := hP0.grow (xa.then xb)
  have hR2 := hR0.grow (xa.then xb)
  have hB2 := bel_grow hb0 (xa.then xb)
  clear hP0 hR0 hb0
  generalize grow W1 (xa.then xb) = W2 at *
  go_upto_region 6 with (first | (go_at_call 28; first | ((with_reducible refine (kw.at_ _).mono ?_); rintro e w' ⟨rfl, xg, rfl⟩) | ((with_reducible refine (kw2.at_ _).mono ?_); rintro e w' ⟨rfl, xh, rfl⟩)) | fail)
  have hbw : W.heap.size + 1 < (grow W2 xg).heap.size := Nat.lt_of_lt_of_le hR2.lt (xg.kept W2).size
  have hbv : (grow W2 xg).heap.size < (grow ((grow W2 xg).alloc (.cells #[.int .i64 (wt i n 0), .int .i64 (wt i n 1), .int .i64 (wt i n 2), .int .i64 (wt i n 3)] 43)) xh).heap.size := Nat.lt_of_lt_of_le (show _ < ((grow W2 xg).alloc (.cells #[.int .i64 (wt i n 0), .int .i64 (wt i n 1), .int .i64 (wt i n 2), .int .i64 (wt i n 3)] 43)).heap.size by simp) (xh.kept _).size
  have hP3 : Blk (((grow ((grow W2 xg).alloc (.cells #[.int .i64 (wt i n 0), .int .i64 (wt i n 1), .int .i64 (wt i n 2), .int .i64 (wt i n 3)] 43)) xh).alloc (.cells #[.int .i64 (wt j m 0), .int .i64 (wt j m 1), .int .i64 (wt j m 2), .int .i64 (wt j m 3)] 43)).alloc (.cells #[.int .i64 0, .int .i64 0, .int .i64 0] 23)) W.heap.size 24 (ptsC 16 p) := ((((hP2.grow xg).alloc _).grow xh).alloc _).alloc _
  have hR3 : Blk (((grow ((grow W2 xg).alloc (.cells #[.int .i64 (wt i n 0), .int .i64 (wt i n 1), .int .i64 (wt i n 2), .int .i64 (wt i n 3)] 43)) xh).alloc (.cells #[.int .i64 (wt j m 0), .int .i64 (wt j m 1), .int .i64 (wt j m 2), .int .i64 (wt j m 3)] 43)).alloc (.cells #[.int .i64 0, .int .i64 0, .int .i64 0] 23)) (W.heap.size + 1) 23 #[.int .i64 0, .int .i64 0, .int .i64 0] := ((((hR2.grow xg).alloc _).grow xh).alloc _).alloc _
  have hU3 : Blk (((grow ((grow W2 xg).alloc (.cells #[.int .i64 (wt i n 0), .int .i64 (wt i n 1), .int .i64 (wt i n 2), .int .i64 (wt i n 3)] 43)) xh).alloc (.cells #[.int .i64 (wt j m 0), .int .i64 (wt j m 1), .int .i64 (wt j m 2), .int .i64 (wt j m 3)] 43)).alloc (.cells #[.int .i64 0, .int .i64 0, .int .i64 0] 23)) (grow W2 xg).heap.size 43 #[.int .i64 (wt i n 0), .int .i64 (wt i n 1), .int .i64 (wt i n 2), .int .i64 (wt i n 3)] := (((Blk.new _ _ _ _ rfl).grow xh).alloc _).alloc _
  have hV3 : Blk (((grow ((grow W2 xg).alloc (.cells #[.int .i64 (wt i n 0), .int .i64 (wt i n 1), .int .i64 (wt i n 2), .int .i64 (wt i n 3)] 43)) xh).alloc (.cells #[.int .i64 (wt j m 0), .int .i64 (wt j m 1), .int .i64 (wt j m 2), .int .i64 (wt j m 3)] 43)).alloc (.cells #[.int .i64 0, .int .i64 0, .int .i64 0] 23)) (grow ((grow W2 xg).alloc (.cells #[.int .i64 (wt i n 0), .int .i64 (wt i n 1), .int .i64 (wt i n 2), .int .i64 (wt i n 3)] 43)) xh).heap.size 43 #[.int .i64 (wt j m 0), .int .i64 (wt j m 1), .int .i64 (wt j m 2), .int .i64 (wt j m 3)] := (Blk.new _ _ _ _ rfl).alloc _
  have hS3 : Blk (((grow ((grow W2 xg).alloc (.cells #[.int .i64 (wt i n 0), .int .i64 (wt i n 1), .int .i64 (wt i n 2), .int .i64 (wt i n 3)] 43)) xh).alloc (.cells #[.int .i64 (wt j m 0), .int .i64 (wt j m 1), .int .i64 (wt j m 2), .int .i64 (wt j m 3)] 43)).alloc (.cells #[.int .i64 0, .int .i64 0, .int .i64 0] 23)) ((grow ((grow W2 xg).alloc (.cells #[.int .i64 (wt i n 0), .int .i64 (wt i n 1), .int .i64 (wt i n 2), .int .i64 (wt i n 3)] 43)) xh).heap.size + 1) 23 #[.int .i64 0, .int .i64 0, .int .i64 0] := Blk.new _ _ _ _ (by simp)
  have hB3 : Below W.heap.size W (((grow ((grow W2 xg).alloc (.cells #[.int .i64 (wt i n 0), .int .i64 (wt i n 1), .int .i64 (wt i n 2), .int .i64 (wt i n 3)] 43)) xh).alloc (.cells #[.int .i64 (wt j m 0), .int .i64 (wt j m 1), .int .i64 (wt j m 2), .int .i64 (wt j m 3)] 43)).alloc (.cells #[.int .i64 0, .int .i64 0, .int .i64 0] 23)) := bel_alloc (bel_alloc (bel_grow (bel_alloc (bel_grow hB2 xg) _) xh) _) _
  generalize (((grow ((grow W2 xg).alloc (.cells #[.int .i64 (wt i n 0), .int .i64 (wt i n 1), .int .i64 (wt i n 2), .int .i64 (wt i n 3)] 43)) xh).alloc (.cells #[.int .i64 (wt j m 0), .int .i64 (wt j m 1), .int .i64 (wt j m 2), .int .i64 (wt j m 3)] 43)).alloc (.cells #[.int .i64 0, .int .i64 0, .int .i64 0] 23)) = W3 at *
  generalize (grow ((grow W2 xg).alloc (.cells #[.int .i64 (wt i n 0), .int .i64 (wt i n 1), .int .i64 (wt i n 2), .int .i64 (wt i n 3)] 43)) xh).heap.size = bv at *
  generalize (grow W2 xg).heap.size = bw at *
  have hne : (bv + 1) ≠ W.heap.size ∧ (bv + 1) ≠ W.heap.size + 1 ∧ (bv + 1) ≠ bw ∧ (bv + 1) ≠ bv ∧ W.heap.size ≤ (bv + 1) := by omega
  clear hP2 hR2 hB2
  go_wp2
  go_loopw [15] (fun iv wr => ∃ k : Nat, iv = .int .i64 (k : Int) ∧ k ≤ 16 ∧ okB p k = true ∧ Below W.heap.size W wr ∧ Blk wr W.heap.size 24 (ptsC 16 p) ∧ Blk wr (W.heap.size + 1) 23 #[.int .i64 0, .int .i64 0, .int .i64 0] ∧ Blk wr (bv + 1) 23 #[.int .i64 (sumP (wt2 i n j m) p k).x, .int .i64 (sumP (wt2 i n j m) p k).y, .int .i64 (sumP (wt2 i n j m) p k).z] ∧ Blk wr bw 43 #[.int .i64 (wt i n 0), .int .i64 (wt i n 1), .int .i64 (wt i n 2), .int .i64 (wt i n 3)] ∧ Blk wr bv 43 #[.int .i64 (wt j m 0), .int .i64 (wt j m 1), .int .i64 (wt j m 2), .int .i64 (wt j m 3)]) (fun iv _ => 16 - (intOf iv).toNat)
  case atStart => exact ⟨0, rfl, by omega, rfl, hB3, hP3, hR3, hS3, hU3, hV3⟩
  case round =>
    obtain ⟨k, rfl, hk, hal, hBr, hPr, hRr, hSr, hUr, hVr⟩ := hrel
    clear hB3 hP3 hR3 hS3 hU3 hV3
    rename World => wr
    by_cases hlt : k < 16
    · obtain ⟨c1, c2, c3⟩ := ptsB hPr hlt
      have hbl := hPr.lt
      have cW := uWithin_G (p k)
      have q0 : (0 : Int) ≤ (k : Int) := by omega
      have q1 : (k : Int) < 16 := by omega
      cases hw : wi (p k)
      · have hno2 := hno.out (okB_no (p := p) hlt hw)
        rw [hw] at cW
        generalize p k = q at *
        replace hw := trivial
        replace hno2 := Lib.hid hno2
        go_upto_region 10 with (first | (go_at_call 29; (with_reducible refine (cW.at_ _).mono ?_); rintro e w' ⟨rfl, xw, rfl⟩) | fail)
        have hR5 := hRr.grow xw
        have hB5 := bel_grow hBr xw
        clear hPr hSr hUr hVr hRr hBr c1 c2 c3 cW
        generalize grow wr xw = W5 at *
        have r0 := hR5.cell 0
        have r1 := hR5.cell 1
        have r2 := hR5.cell 2
        have rl := hR5.lt
        have f0 := hR5.frozen 0
        have f1 := hR5.frozen 1
        have f2 := hR5.frozen 2
        have hR6 := (((hR5).set 0 (.int .i64 (0))).set 1 (.int .i64 (0))).set 2 (.int .i64 (0))
        have hB6 : Below W.heap.size W ((((W5).setCell ⟨W.heap.size + 1, 0, none⟩ (.int .i64 (0))).setCell ⟨W.heap.size + 1, 1, none⟩ (.int .i64 (0))).setCell ⟨W.heap.size + 1, 2, none⟩ (.int .i64 (0))) := bel_set (bel_set (bel_set hB5 (p := ⟨W.heap.size + 1, 0, none⟩) (by simp) (.int .i64 (0))) (p := ⟨W.heap.size + 1, 1, none⟩) (by simp) (.int .i64 (0))) (p := ⟨W.heap.size + 1, 2, none⟩) (by simp) (.int .i64 (0))
        go_wp2
        generalize (((W5).setCell ⟨W.heap.size + 1, 0, none⟩ (.int .i64 (0))).setCell ⟨W.heap.size + 1, 1, none⟩ (.int .i64 (0))).setCell ⟨W.heap.size + 1, 2, none⟩ (.int .i64 (0)) = WE at *
        have w0 := hR6.cell 0
        have w1 := hR6.cell 1
        have w2 := hR6.cell 2
        refine bodyPost_ret (v := .tuple #[.agg #[.int .i64 N3.x, .int .i64 N3.y, .int .i64 N3.z], .bool false]) (by simp [results, Try.results14, go_sem, N3, w0, w1, w2]) rfl ⟨by rw [hno2.out.1, hno2.out.2], hB6⟩
      · have hal2 : okB p (k + 1) = true := by rw [okB, hal, hw]; rfl
        rw [hw] at cW
        obtain ⟨⟨e1, e2, e3⟩, e4, e5, e6⟩ := step_bd (u := (wt2 i n j m)) (fun j hj => hu j (by omega)) hal2 (Int.le_trans (totW_le hu (k + 1) (by omega)).2 ht) (show k < k + 1 by omega)
        have hsucc := sumP_succ (wt2 i n j m) p k
        replace hal := trivial
        replace hal2 := Lib.hid hal2
        have hwk1 := (WtB.of hUr).2 (k % 4) (by omega)
        have hwk2 := (WtB.of hVr).2 (k / 4) (by omega)
        obtain ⟨uk, huk⟩ : ∃ a, a = wt2 i n j m k := ⟨_, rfl⟩
        have hub := one_le hu k hlt
        have hu0 := hu k hlt
        rw [← huk] at e1 e2 e3 e4 e5 e6 hsucc hub hu0
        have hwp : wrap64 (wt i n (k % 4) * wt j m (k / 4)) = uk := by rw [huk]; exact wrap_id (by have := hu k hlt; unfold wt2 at this; omega) (by have : wt2 i n j m k ≤ 16777216 := Int.le_trans (one_le hu k hlt) ht; unfold wt2 at this; omega)
        clear hub hu0
        generalize wt i n (k % 4) = ua at *
        generalize wt j m (k / 4) = ub at *
        replace huk := Lib.hid huk
        have mm1 : (k : Int).tmod 4 = ((k % 4 : Nat) : Int) := by rw [Int.tmod_eq_emod_of_nonneg (by omega)]; omega
        have mm2 : (k : Int).tdiv 4 = ((k / 4 : Nat) : Int) := by rw [Int.tdiv_eq_ediv_of_nonneg (by omega)]; omega
        have hm4 : k % 4 < 4 := by omega
        have hd4 : k / 4 < 4 := by omega
        generalize k % 4 = km at *
        generalize k / 4 = kd at *
        have q2 : (0 : Int) ≤ (km : Int) := by omega
        have q3 : (km : Int) < 4 := by omega
        have q4 : (0 : Int) ≤ (kd : Int) := by omega
        have q5 : (kd : Int) < 4 := by omega
        generalize hsk : sumP (wt2 i n j m) p (k + 1) = sk at *
        replace hsk := Lib.hid hsk
        generalize p k = q at *
        generalize sumP (wt2 i n j m) p k = sv at *
        replace hw := trivial
        go_upto_region 11 with (first | (go_at_call 29; (with_reducible refine (cW.at_ _).mono ?_); rintro e w' ⟨rfl, xw, rfl⟩) | fail)
        have hP5 := hPr.grow xw
        have hR5 := hRr.grow xw
        have hS5 := hSr.grow xw
        have hU5 := hUr.grow xw
        have hV5 := hVr.grow xw
        have hB5 := bel_grow hBr xw
        have d1 : (grow wr xw).cell? ⟨W.heap.size, k * 3, none⟩ = _ := ((xw.kept wr).cell (p := ⟨W.heap.size, k * 3, none⟩) hbl).trans c1
        have d2 : (grow wr xw).cell? ⟨W.heap.size, k * 3 + 1, none⟩ = _ := ((xw.kept wr).cell (p := ⟨W.heap.size, k * 3 + 1, none⟩) hbl).trans c2
        have d3 : (grow wr xw).cell? ⟨W.heap.size, k * 3 + 2, none⟩ = _ := ((xw.kept wr).cell (p := ⟨W.heap.size, k * 3 + 2, none⟩) hbl).trans c3
        have dw : (grow wr xw).cell? ⟨bw, km, none⟩ = _ := ((xw.kept wr).cell (p := ⟨bw, km, none⟩) hUr.lt).trans hwk1
        have dv : (grow wr xw).cell? ⟨bv, kd, none⟩ = _ := ((xw.kept wr).cell (p := ⟨bv, kd, none⟩) hVr.lt).trans hwk2
        clear hwk1 hwk2
        clear c1 c2 c3 hPr hRr hSr hUr hVr hBr cW
        have hbl := hP5.lt
        generalize grow wr xw = W5 at *
        have ul := hU5.lt
        have vl := hV5.lt
        have z0 := hS5.cell 0
        have z1 := hS5.cell 1
        have z2 := hS5.cell 2
        have zl := hS5.lt
        have k1 := rScale_any q.x q.y q.z uk
        rw [e1, e2, e3] at k1
        have k2 := rAdd_any sv.x sv.y sv.z (q.x * uk) (q.y * uk) (q.z * uk)
        rw [e4, e5, e6] at k2
        clear e1 e2 e3 e4 e5 e6
        refine wp_region_tail 15 ?_ (by kernel_rfl) (by kernel_rfl) (by kernel_rfl) (fun x => ?_) (fun x => ?_)
        rotate_left
        · simp only [List.take_succ_cons, List.take_zero]
          repeat (go_big_quiet_step (((first | with_reducible exact k1.quiet _ | with_reducible exact k1.quiet2 _ _ | with_reducible exact k2.quiet _ | with_reducible exact k2.quiet2 _ _))))
          refine wpQuiet_nil ?_
          exact rfl
        simp only [List.drop_succ_cons, List.drop_zero]
        try simp only [Act.put, List.setIfInBounds_toArray, List.set_cons_succ, List.set_cons_zero]
        have hP6 := hP5.grow x
        have hR6 := hR5.grow x
        have hS6 := hS5.grow x
        have hU6 := hU5.grow x
        have hV6 := hV5.grow x
        have hB6 := bel_grow hB5 x
        clear hP5 hR5 hS5 hU5 hV5 hB5 d1 d2 d3 dw dv z0 z1 z2 zl ul vl k1 k2 hbl
        generalize grow W5 x = W6 at *
        have r0 := hS6.cell 0
        have r1 := hS6.cell 1
        have r2 := hS6.cell 2
        have rl := hS6.lt
        have f0 := hS6.frozen 0
        have f1 := hS6.frozen 1
        have f2 := hS6.frozen 2
        have hP7 := (((hP6).far (b := (bv + 1)) 0 (.int .i64 (sv.x + q.x * uk)) hne.1).far (b := (bv + 1)) 1 (.int .i64 (sv.y + q.y * uk)) hne.1).far (b := (bv + 1)) 2 (.int .i64 (sv.z + q.z * uk)) hne.1
        have hR7 := (((hR6).far (b := (bv + 1)) 0 (.int .i64 (sv.x + q.x * uk)) hne.2.1).far (b := (bv + 1)) 1 (.int .i64 (sv.y + q.y * uk)) hne.2.1).far (b := (bv + 1)) 2 (.int .i64 (sv.z + q.z * uk)) hne.2.1
        have hU7 := (((hU6).far (b := (bv + 1)) 0 (.int .i64 (sv.x + q.x * uk)) hne.2.2.1).far (b := (bv + 1)) 1 (.int .i64 (sv.y + q.y * uk)) hne.2.2.1).far (b := (bv + 1)) 2 (.int .i64 (sv.z + q.z * uk)) hne.2.2.1
        have hV7 := (((hV6).far (b := (bv + 1)) 0 (.int .i64 (sv.x + q.x * uk)) hne.2.2.2.1).far (b := (bv + 1)) 1 (.int .i64 (sv.y + q.y * uk)) hne.2.2.2.1).far (b := (bv + 1)) 2 (.int .i64 (sv.z + q.z * uk)) hne.2.2.2.1
        have hS7 := (((hS6).set 0 (.int .i64 (sv.x + q.x * uk))).set 1 (.int .i64 (sv.y + q.y * uk))).set 2 (.int .i64 (sv.z + q.z * uk))
        have hB7 : Below W.heap.size W ((((W6).setCell ⟨(bv + 1), 0, none⟩ (.int .i64 (sv.x + q.x * uk))).setCell ⟨(bv + 1), 1, none⟩ (.int .i64 (sv.y + q.y * uk))).setCell ⟨(bv + 1), 2, none⟩ (.int .i64 (sv.z + q.z * uk))) := bel_set (bel_set (bel_set hB6 (p := ⟨(bv + 1), 0, none⟩) (by show _ ≤ (bv + 1); omega) (.int .i64 (sv.x + q.x * uk))) (p := ⟨(bv + 1), 1, none⟩) (by show _ ≤ (bv + 1); omega) (.int .i64 (sv.y + q.y * uk))) (p := ⟨(bv + 1), 2, none⟩) (by show _ ≤ (bv + 1); omega) (.int .i64 (sv.z + q.z * uk))
        replace hsucc := Lib.hid hsucc
        go_wp2
        go_roundw
        case rel =>
          refine ⟨k + 1, by go_num, by omega, hal2.out, hB7, hP7, hR7, ?_, hU7, hV7⟩
          rw [hsk.out, hsucc.out]
          exact hS7
        case measure => simp [intOf]; omega
    · obtain rfl : k = 16 := by omega
      have hys2 := hys.out hal
      have sb := sumP_bd hu hal ht (k := 16) (Nat.le_refl _)
      have kO := rOf_G (sumP (wt2 i n j m) p 16) dd sb (by omega)
      generalize rnP (sumP (wt2 i n j m) p 16) dd = rn at *
      generalize sumP (wt2 i n j m) p 16 = sv at *
      replace hys2 := Lib.hid hys2
      replace hal := trivial
      have z0 := hSr.cell 0
      have z1 := hSr.cell 1
      have z2 := hSr.cell 2
      have zl := hSr.lt
      clear sb
      go_wp2_with (first | (go_at_call 31; (with_reducible refine (kO.at_ _).mono ?_); rintro e Wo ⟨rfl, xo, hWo⟩; have hRo : Blk Wo (W.heap.size + 1) 23 #[.int .i64 0, .int .i64 0, .int .i64 0] := hWo ▸ hRr.grow xo; have hBo : Below W.heap.size W Wo := hWo ▸ bel_grow hBr xo; clear hWo; have rl := hRo.lt; have f0 := hRo.frozen 0; have f1 := hRo.frozen 1; have f2 := hRo.frozen 2; have r0 := hRo.cell 0; have r1 := hRo.cell 1; have r2 := hRo.cell 2) | fail)
      rename World => Wo
      have hR6 := (((hRo).set 0 (.int .i64 (rn.x))).set 1 (.int .i64 (rn.y))).set 2 (.int .i64 (rn.z))
      have hB6 : Below W.heap.size W ((((Wo).setCell ⟨W.heap.size + 1, 0, none⟩ (.int .i64 (rn.x))).setCell ⟨W.heap.size + 1, 1, none⟩ (.int .i64 (rn.y))).setCell ⟨W.heap.size + 1, 2, none⟩ (.int .i64 (rn.z))) := bel_set (bel_set (bel_set hBo (p := ⟨W.heap.size + 1, 0, none⟩) (by simp) (.int .i64 (rn.x))) (p := ⟨W.heap.size + 1, 1, none⟩) (by simp) (.int .i64 (rn.y))) (p := ⟨W.heap.size + 1, 2, none⟩) (by simp) (.int .i64 (rn.z))
      generalize (((Wo).setCell ⟨W.heap.size + 1, 0, none⟩ (.int .i64 (rn.x))).setCell ⟨W.heap.size + 1, 1, none⟩ (.int .i64 (rn.y))).setCell ⟨W.heap.size + 1, 2, none⟩ (.int .i64 (rn.z)) = WE at *
      have w0 := hR6.cell 0
      have w1 := hR6.cell 1
      have w2 := hR6.cell 2
      refine bodyPost_ret (v := .tuple #[.agg #[.int .i64 rn.x, .int .i64 rn.y, .int .i64 rn.z], .bool true]) (by simp [results, Try.results14, go_sem, w0, w1, w2]) rfl ⟨by rw [hys2.out.1, hys2.out.2], hB6⟩
theorem rcub_any (p : Nat → P3) (i n : Int) : Gives Try.prog 12 #[.agg (ptsC 4 p), .int .i64 i, .int .i64 n] (.tuple #[.agg #[.int .i64 (cubP p i n).x, .int .i64 (cubP p i n).y, .int .i64 (cubP p i n).z], .bool (cubK p i n)]) := by
  cases h : thB i n
  · exact rcub_tn p i n h
  · exact rcub_ys p i n h
theorem rpt_any (p : Nat → P3) (i n j m : Int) : Gives Try.prog 14 #[.agg (ptsC 16 p), .int .i64 i, .int .i64 n, .int .i64 j, .int .i64 m] (.tuple #[.agg #[.int .i64 (ptP p i n j m).x, .int .i64 (ptP p i n j m).y, .int .i64 (ptP p i n j m).z], .bool (ptK p i n j m)]) := by
  cases h : thB i n
  · exact rpt_tn p i n j m h
  · cases g : thB j m
    · exact rpt_tm p i n j m ⟨h, g⟩
    · exact rpt_ys p i n j m ⟨h, g⟩
end Go.Proofs.Ytiaikceoodeboab
namespace Go.Proofs.Ytiaikceoodeboab
open Go.RowKit
set_option linter.unusedVariables false
set_option linter.unusedSimpArgs false
set_option linter.unnecessarySimpa false
set_option maxRecDepth 100000
def rowF (p : Nat → P3) (s : Int) (k : Nat) : P3 := if s = 0 then p k else if s = 1 then p (4 * k + 3) else if s = 2 then p (15 - k) else if s = 3 then p (12 - 4 * k) else N3
theorem ptsC4 (q : Nat → P3) : ptsC 4 q = #[.int .i64 (q 0).x, .int .i64 (q 0).y, .int .i64 (q 0).z, .int .i64 (q 1).x, .int .i64 (q 1).y, .int .i64 (q 1).z, .int .i64 (q 2).x, .int .i64 (q 2).y, .int .i64 (q 2).z, .int .i64 (q 3).x, .int .i64 (q 3).y, .int .i64 (q 3).z] := rfl
theorem ptsC_set (f : Nat → P3) {n v : Nat} (hv : v < n) (p : P3) : ((((ptsC n f).setIfInBounds (v * 3) (.int .i64 p.x)).setIfInBounds (v * 3 + 1) (.int .i64 p.y)).setIfInBounds (v * 3 + 2) (.int .i64 p.z)) = ptsC n (fun u => if u = v then p else f u) := by
  unfold ptsC
  have e0 := rowCs_set (k := 3) (qC f) hv (show 0 < 3 by omega) (.int .i64 p.x)
  rw [Nat.add_zero] at e0
  rw [e0, rowCs_set _ hv (show 1 < 3 by omega), rowCs_set _ hv (show 2 < 3 by omega)]
  refine rowCs_ext fun a b ha hb => ?_
  unfold setC qC
  by_cases e : a = v
  · subst e
    rcases (by omega : b = 0 ∨ b = 1 ∨ b = 2) with rfl | rfl | rfl <;> simp
  · simp [e]
theorem ptsC_ext {n : Nat} {f g : Nat → P3} (h : ∀ v, v < n → f v = g v) : ptsC n f = ptsC n g := by
  unfold ptsC
  exact rowCs_ext fun a b ha hb => by unfold qC; rw [h a ha]
def rowU (p : Nat → P3) (s : Int) (k : Nat) (j : Nat) : P3 := if j < k then rowF p s j else N3
theorem rowU_next (p : Nat → P3) (s : Int) {k : Nat} (hk : k < 4) : ((((ptsC 4 (rowU p s k)).setIfInBounds (k * 3) (.int .i64 (rowF p s k).x)).setIfInBounds (k * 3 + 1) (.int .i64 (rowF p s k).y)).setIfInBounds (k * 3 + 2) (.int .i64 (rowF p s k).z)) = ptsC 4 (rowU p s (k + 1)) := by
  rw [ptsC_set _ hk]
  refine ptsC_ext fun v hv => ?_
  unfold rowU
  by_cases e : v = k
  · subst e; rw [if_pos rfl, if_pos (by omega)]
  · rw [if_neg e]
    by_cases e2 : v < k
    · rw [if_pos e2, if_pos (by omega)]
    · rw [if_neg e2, if_neg (by omega)]
theorem rowU_end (p : Nat → P3) (s : Int) : ptsC 4 (rowU p s 4) = ptsC 4 (rowF p s) := ptsC_ext fun v hv => by unfold rowU; rw [if_pos hv]
theorem rowU_none (p : Nat → P3) {s : Int} (h0 : s ≠ 0) (h1 : s ≠ 1) (h2 : s ≠ 2) (h3 : s ≠ 3) (k : Nat) : ptsC 4 (rowU p s k) = ptsC 4 (rowU p s (k + 1)) := ptsC_ext fun v hv => by
  have e : rowF p s v = N3 := by unfold rowF; rw [if_neg h0, if_neg h1, if_neg h2, if_neg h3]
  unfold rowU; rw [e]; simp
theorem rowU_zero (p : Nat → P3) (s : Int) : ptsC 4 (rowU p s 0) = #[.int .i64 0, .int .i64 0, .int .i64 0, .int .i64 0, .int .i64 0, .int .i64 0, .int .i64 0, .int .i64 0, .int .i64 0, .int .i64 0, .int .i64 0, .int .i64 0] := rfl
def rowI (iv : Value) (k : Nat) : Prop := (k = 0 ∧ iv = .int .i64 0) ∨ (k = 1 ∧ iv = .int .i64 1) ∨ (k = 2 ∧ iv = .int .i64 2) ∨ (k = 3 ∧ iv = .int .i64 3) ∨ (k = 4 ∧ iv = .int .i64 4)
set_option maxHeartbeats 4000000 in
theorem vRow0 (p : Nat → P3)  : Gives Try.prog 15 #[.agg (ptsC 16 p), .int .i64 (0)] (.agg (ptsC 4 (rowF p 0))) := by
  refine Gives.mk fun W => ?_
  have hP : Blk ((W.alloc (.cells (ptsC 16 p) 24)).alloc (.cells #[.int .i64 0, .int .i64 0, .int .i64 0, .int .i64 0, .int .i64 0, .int .i64 0, .int .i64 0, .int .i64 0, .int .i64 0, .int .i64 0, .int .i64 0, .int .i64 0] 26)) W.heap.size 24 (ptsC 16 p) := (Blk.new _ _ _ _ rfl).alloc _
  have hR : Blk ((W.alloc (.cells (ptsC 16 p) 24)).alloc (.cells #[.int .i64 0, .int .i64 0, .int .i64 0, .int .i64 0, .int .i64 0, .int .i64 0, .int .i64 0, .int .i64 0, .int .i64 0, .int .i64 0, .int .i64 0, .int .i64 0] 26)) (W.heap.size + 1) 26 #[.int .i64 0, .int .i64 0, .int .i64 0, .int .i64 0, .int .i64 0, .int .i64 0, .int .i64 0, .int .i64 0, .int .i64 0, .int .i64 0, .int .i64 0, .int .i64 0] := Blk.new _ _ _ _ (by simp)
  have hB : Below W.heap.size W ((W.alloc (.cells (ptsC 16 p) 24)).alloc (.cells #[.int .i64 0, .int .i64 0, .int .i64 0, .int .i64 0, .int .i64 0, .int .i64 0, .int .i64 0, .int .i64 0, .int .i64 0, .int .i64 0, .int .i64 0, .int .i64 0] 26)) := bel_alloc (bel_alloc (Below.refl _ _) _) _
  go_enter Try.func15, Try.ntmps15
  go_upto_region 1 with (fail)
  generalize ((W.alloc (.cells (ptsC 16 p) 24)).alloc (.cells #[.int .i64 0, .int .i64 0, .int .i64 0, .int .i64 0, .int .i64 0, .int .i64 0, .int .i64 0, .int .i64 0, .int .i64 0, .int .i64 0, .int .i64 0, .int .i64 0] 26)) = W1 at *
  replace hP := Lib.hid hP
  replace hR := Lib.hid hR
  replace hB := Lib.hid hB
  go_upto_region 3 with (fail)
  replace hP := hP.out
  replace hR := hR.out
  replace hB := hB.out
  have c0x : W1.cell? ⟨W.heap.size, 0, none⟩ = some (.int .i64 (p 0).x) := (ptsB hP (k := 0) (by omega)).1
  have c0y : W1.cell? ⟨W.heap.size, 1, none⟩ = some (.int .i64 (p 0).y) := (ptsB hP (k := 0) (by omega)).2.1
  have c0z : W1.cell? ⟨W.heap.size, 2, none⟩ = some (.int .i64 (p 0).z) := (ptsB hP (k := 0) (by omega)).2.2
  have c1x : W1.cell? ⟨W.heap.size, 3, none⟩ = some (.int .i64 (p 1).x) := (ptsB hP (k := 1) (by omega)).1
  have c1y : W1.cell? ⟨W.heap.size, 4, none⟩ = some (.int .i64 (p 1).y) := (ptsB hP (k := 1) (by omega)).2.1
  have c1z : W1.cell? ⟨W.heap.size, 5, none⟩ = some (.int .i64 (p 1).z) := (ptsB hP (k := 1) (by omega)).2.2
  have c2x : W1.cell? ⟨W.heap.size, 6, none⟩ = some (.int .i64 (p 2).x) := (ptsB hP (k := 2) (by omega)).1
  have c2y : W1.cell? ⟨W.heap.size, 7, none⟩ = some (.int .i64 (p 2).y) := (ptsB hP (k := 2) (by omega)).2.1
  have c2z : W1.cell? ⟨W.heap.size, 8, none⟩ = some (.int .i64 (p 2).z) := (ptsB hP (k := 2) (by omega)).2.2
  have c3x : W1.cell? ⟨W.heap.size, 9, none⟩ = some (.int .i64 (p 3).x) := (ptsB hP (k := 3) (by omega)).1
  have c3y : W1.cell? ⟨W.heap.size, 10, none⟩ = some (.int .i64 (p 3).y) := (ptsB hP (k := 3) (by omega)).2.1
  have c3z : W1.cell? ⟨W.heap.size, 11, none⟩ = some (.int .i64 (p 3).z) := (ptsB hP (k := 3) (by omega)).2.2
  have pl := hP.lt
  have r0 := hR.cell 0
  have f0 := hR.frozen 0
  have r1 := hR.cell 1
  have f1 := hR.frozen 1
  have r2 := hR.cell 2
  have f2 := hR.frozen 2
  have r3 := hR.cell 3
  have f3 := hR.frozen 3
  have r4 := hR.cell 4
  have f4 := hR.frozen 4
  have r5 := hR.cell 5
  have f5 := hR.frozen 5
  have r6 := hR.cell 6
  have f6 := hR.frozen 6
  have r7 := hR.cell 7
  have f7 := hR.frozen 7
  have r8 := hR.cell 8
  have f8 := hR.frozen 8
  have r9 := hR.cell 9
  have f9 := hR.frozen 9
  have r10 := hR.cell 10
  have f10 := hR.frozen 10
  have r11 := hR.cell 11
  have f11 := hR.frozen 11
  have rl := hR.lt
  have hR2 := ((((((((((((hR.set 0 (.int .i64 ((p 0).x))).set 1 (.int .i64 ((p 0).y))).set 2 (.int .i64 ((p 0).z))).set 3 (.int .i64 ((p 1).x))).set 4 (.int .i64 ((p 1).y))).set 5 (.int .i64 ((p 1).z))).set 6 (.int .i64 ((p 2).x))).set 7 (.int .i64 ((p 2).y))).set 8 (.int .i64 ((p 2).z))).set 9 (.int .i64 ((p 3).x))).set 10 (.int .i64 ((p 3).y))).set 11 (.int .i64 ((p 3).z)))
  have hB2 : Below W.heap.size W ((((((((((((W1.setCell ⟨W.heap.size + 1, 0, none⟩ (.int .i64 ((p 0).x))).setCell ⟨W.heap.size + 1, 1, none⟩ (.int .i64 ((p 0).y))).setCell ⟨W.heap.size + 1, 2, none⟩ (.int .i64 ((p 0).z))).setCell ⟨W.heap.size + 1, 3, none⟩ (.int .i64 ((p 1).x))).setCell ⟨W.heap.size + 1, 4, none⟩ (.int .i64 ((p 1).y))).setCell ⟨W.heap.size + 1, 5, none⟩ (.int .i64 ((p 1).z))).setCell ⟨W.heap.size + 1, 6, none⟩ (.int .i64 ((p 2).x))).setCell ⟨W.heap.size + 1, 7, none⟩ (.int .i64 ((p 2).y))).setCell ⟨W.heap.size + 1, 8, none⟩ (.int .i64 ((p 2).z))).setCell ⟨W.heap.size + 1, 9, none⟩ (.int .i64 ((p 3).x))).setCell ⟨W.heap.size + 1, 10, none⟩ (.int .i64 ((p 3).y))).setCell ⟨W.heap.size + 1, 11, none⟩ (.int .i64 ((p 3).z))) := (bel_set (bel_set (bel_set (bel_set (bel_set (bel_set (bel_set (bel_set (bel_set (bel_set (bel_set (bel_set hB (p := ⟨W.heap.size + 1, 0, none⟩) (by simp) (.int .i64 ((p 0).x))) (p := ⟨W.heap.size + 1, 1, none⟩) (by simp) (.int .i64 ((p 0).y))) (p := ⟨W.heap.size + 1, 2, none⟩) (by simp) (.int .i64 ((p 0).z))) (p := ⟨W.heap.size + 1, 3, none⟩) (by simp) (.int .i64 ((p 1).x))) (p := ⟨W.heap.size + 1, 4, none⟩) (by simp) (.int .i64 ((p 1).y))) (p := ⟨W.heap.size + 1, 5, none⟩) (by simp) (.int .i64 ((p 1).z))) (p := ⟨W.heap.size + 1, 6, none⟩) (by simp) (.int .i64 ((p 2).x))) (p := ⟨W.heap.size + 1, 7, none⟩) (by simp) (.int .i64 ((p 2).y))) (p := ⟨W.heap.size + 1, 8, none⟩) (by simp) (.int .i64 ((p 2).z))) (p := ⟨W.heap.size + 1, 9, none⟩) (by simp) (.int .i64 ((p 3).x))) (p := ⟨W.heap.size + 1, 10, none⟩) (by simp) (.int .i64 ((p 3).y))) (p := ⟨W.heap.size + 1, 11, none⟩) (by simp) (.int .i64 ((p 3).z)))
  clear hP hR hB
  replace hR2 := Lib.hid hR2
  replace hB2 := Lib.hid hB2
  go_wp2
  replace hR2 := hR2.out
  replace hB2 := hB2.out
  generalize ((((((((((((W1.setCell ⟨W.heap.size + 1, 0, none⟩ (.int .i64 ((p 0).x))).setCell ⟨W.heap.size + 1, 1, none⟩ (.int .i64 ((p 0).y))).setCell ⟨W.heap.size + 1, 2, none⟩ (.int .i64 ((p 0).z))).setCell ⟨W.heap.size + 1, 3, none⟩ (.int .i64 ((p 1).x))).setCell ⟨W.heap.size + 1, 4, none⟩ (.int .i64 ((p 1).y))).setCell ⟨W.heap.size + 1, 5, none⟩ (.int .i64 ((p 1).z))).setCell ⟨W.heap.size + 1, 6, none⟩ (.int .i64 ((p 2).x))).setCell ⟨W.heap.size + 1, 7, none⟩ (.int .i64 ((p 2).y))).setCell ⟨W.heap.size + 1, 8, none⟩ (.int .i64 ((p 2).z))).setCell ⟨W.heap.size + 1, 9, none⟩ (.int .i64 ((p 3).x))).setCell ⟨W.heap.size + 1, 10, none⟩ (.int .i64 ((p 3).y))).setCell ⟨W.heap.size + 1, 11, none⟩ (.int .i64 ((p 3).z))) = WE at *
  have w0 := hR2.cell
  refine bodyPost_ret (v := .agg #[.int .i64 ((p 0).x), .int .i64 ((p 0).y), .int .i64 ((p 0).z), .int .i64 ((p 1).x), .int .i64 ((p 1).y), .int .i64 ((p 1).z), .int .i64 ((p 2).x), .int .i64 ((p 2).y), .int .i64 ((p 2).z), .int .i64 ((p 3).x), .int .i64 ((p 3).y), .int .i64 ((p 3).z)]) (by simp [results, Try.results15, go_sem, w0]) rfl ⟨rfl, hB2⟩
set_option maxHeartbeats 4000000 in
theorem vRow1 (p : Nat → P3)  : Gives Try.prog 15 #[.agg (ptsC 16 p), .int .i64 (1)] (.agg (ptsC 4 (rowF p 1))) := by
  refine Gives.mk fun W => ?_
  have hP : Blk ((W.alloc (.cells (ptsC 16 p) 24)).alloc (.cells #[.int .i64 0, .int .i64 0, .int .i64 0, .int .i64 0, .int .i64 0, .int .i64 0, .int .i64 0, .int .i64 0, .int .i64 0, .int .i64 0, .int .i64 0, .int .i64 0] 26)) W.heap.size 24 (ptsC 16 p) := (Blk.new _ _ _ _ rfl).alloc _
  have hR : Blk ((W.alloc (.cells (ptsC 16 p) 24)).alloc (.cells #[.int .i64 0, .int .i64 0, .int .i64 0, .int .i64 0, .int .i64 0, .int .i64 0, .int .i64 0, .int .i64 0, .int .i64 0, .int .i64 0, .int .i64 0, .int .i64 0] 26)) (W.heap.size + 1) 26 #[.int .i64 0, .int .i64 0, .int .i64 0, .int .i64 0, .int .i64 0, .int .i64 0, .int .i64 0, .int .i64 0, .int .i64 0, .int .i64 0, .int .i64 0, .int .i64 0] := Blk.new _ _ _ _ (by simp)
  have hB : Below W.heap.size W ((W.alloc (.cells (ptsC 16 p) 24)).alloc (.cells #[.int .i64 0, .int .i64 0, .int .i64 0, .int .i64 0, .int .i64 0, .int .i64 0, .int .i64 0, .int .i64 0, .int .i64 0, .int .i64 0, .int .i64 0, .int .i64 0] 26)) := bel_alloc (bel_alloc (Below.refl _ _) _) _
  go_enter Try.func15, Try.ntmps15
  go_upto_region 1 with (fail)
  generalize ((W.alloc (.cells (ptsC 16 p) 24)).alloc (.cells #[.int .i64 0, .int .i64 0, .int .i64 0, .int .i64 0, .int .i64 0, .int .i64 0, .int .i64 0, .int .i64 0, .int .i64 0, .int .i64 0, .int .i64 0, .int .i64 0] 26)) = W1 at *
  replace hP := Lib.hid hP
  replace hR := Lib.hid hR
  replace hB := Lib.hid hB
  go_upto_region 5 with (fail)
  replace hP := hP.out
  replace hR := hR.out
  replace hB := hB.out
  have c0x : W1.cell? ⟨W.heap.size, 9, none⟩ = some (.int .i64 (p 3).x) := (ptsB hP (k := 3) (by omega)).1
  have c0y : W1.cell? ⟨W.heap.size, 10, none⟩ = some (.int .i64 (p 3).y) := (ptsB hP (k := 3) (by omega)).2.1
  have c0z : W1.cell? ⟨W.heap.size, 11, none⟩ = some (.int .i64 (p 3).z) := (ptsB hP (k := 3) (by omega)).2.2
  have c1x : W1.cell? ⟨W.heap.size, 21, none⟩ = some (.int .i64 (p 7).x) := (ptsB hP (k := 7) (by omega)).1
  have c1y : W1.cell? ⟨W.heap.size, 22, none⟩ = some (.int .i64 (p 7).y) := (ptsB hP (k := 7) (by omega)).2.1
  have c1z : W1.cell? ⟨W.heap.size, 23, none⟩ = some (.int .i64 (p 7).z) := (ptsB hP (k := 7) (by omega)).2.2
  have c2x : W1.cell? ⟨W.heap.size, 33, none⟩ = some (.int .i64 (p 11).x) := (ptsB hP (k := 11) (by omega)).1
  have c2y : W1.cell? ⟨W.heap.size, 34, none⟩ = some (.int .i64 (p 11).y) := (ptsB hP (k := 11) (by omega)).2.1
  have c2z : W1.cell? ⟨W.heap.size, 35, none⟩ = some (.int .i64 (p 11).z) := (ptsB hP (k := 11) (by omega)).2.2
  have c3x : W1.cell? ⟨W.heap.size, 45, none⟩ = some (.int .i64 (p 15).x) := (ptsB hP (k := 15) (by omega)).1
  have c3y : W1.cell? ⟨W.heap.size, 46, none⟩ = some (.int .i64 (p 15).y) := (ptsB hP (k := 15) (by omega)).2.1
  have c3z : W1.cell? ⟨W.heap.size, 47, none⟩ = some (.int .i64 (p 15).z) := (ptsB hP (k := 15) (by omega)).2.2
  have pl := hP.lt
  have r0 := hR.cell 0
  have f0 := hR.frozen 0
  have r1 := hR.cell 1
  have f1 := hR.frozen 1
  have r2 := hR.cell 2
  have f2 := hR.frozen 2
  have r3 := hR.cell 3
  have f3 := hR.frozen 3
  have r4 := hR.cell 4
  have f4 := hR.frozen 4
  have r5 := hR.cell 5
  have f5 := hR.frozen 5
  have r6 := hR.cell 6
  have f6 := hR.frozen 6
  have r7 := hR.cell 7
  have f7 := hR.frozen 7
  have r8 := hR.cell 8
  have f8 := hR.frozen 8
  have r9 := hR.cell 9
  have f9 := hR.frozen 9
  have r10 := hR.cell 10
  have f10 := hR.frozen 10
  have r11 := hR.cell 11
  have f11 := hR.frozen 11
  have rl := hR.lt
  have hR2 := ((((((((((((hR.set 0 (.int .i64 ((p 3).x))).set 1 (.int .i64 ((p 3).y))).set 2 (.int .i64 ((p 3).z))).set 3 (.int .i64 ((p 7).x))).set 4 (.int .i64 ((p 7).y))).set 5 (.int .i64 ((p 7).z))).set 6 (.int .i64 ((p 11).x))).set 7 (.int .i64 ((p 11).y))).set 8 (.int .i64 ((p 11).z))).set 9 (.int .i64 ((p 15).x))).set 10 (.int .i64 ((p 15).y))).set 11 (.int .i64 ((p 15).z)))
  have hB2 : Below W.heap.size W ((((((((((((W1.setCell ⟨W.heap.size + 1, 0, none⟩ (.int .i64 ((p 3).x))).setCell ⟨W.heap.size + 1, 1, none⟩ (.int .i64 ((p 3).y))).setCell ⟨W.heap.size + 1, 2, none⟩ (.int .i64 ((p 3).z))).setCell ⟨W.heap.size + 1, 3, none⟩ (.int .i64 ((p 7).x))).setCell ⟨W.heap.size + 1, 4, none⟩ (.int .i64 ((p 7).y))).setCell ⟨W.heap.size + 1, 5, none⟩ (.int .i64 ((p 7).z))).setCell ⟨W.heap.size + 1, 6, none⟩ (.int .i64 ((p 11).x))).setCell ⟨W.heap.size + 1, 7, none⟩ (.int .i64 ((p 11).y))).setCell ⟨W.heap.size + 1, 8, none⟩ (.int .i64 ((p 11).z))).setCell ⟨W.heap.size + 1, 9, none⟩ (.int .i64 ((p 15).x))).setCell ⟨W.heap.size + 1, 10, none⟩ (.int .i64 ((p 15).y))).setCell ⟨W.heap.size + 1, 11, none⟩ (.int .i64 ((p 15).z))) := (bel_set (bel_set (bel_set (bel_set (bel_set (bel_set (bel_set (bel_set (bel_set (bel_set (bel_set (bel_set hB (p := ⟨W.heap.size + 1, 0, none⟩) (by simp) (.int .i64 ((p 3).x))) (p := ⟨W.heap.size + 1, 1, none⟩) (by simp) (.int .i64 ((p 3).y))) (p := ⟨W.heap.size + 1, 2, none⟩) (by simp) (.int .i64 ((p 3).z))) (p := ⟨W.heap.size + 1, 3, none⟩) (by simp) (.int .i64 ((p 7).x))) (p := ⟨W.heap.size + 1, 4, none⟩) (by simp) (.int .i64 ((p 7).y))) (p := ⟨W.heap.size + 1, 5, none⟩) (by simp) (.int .i64 ((p 7).z))) (p := ⟨W.heap.size + 1, 6, none⟩) (by simp) (.int .i64 ((p 11).x))) (p := ⟨W.heap.size + 1, 7, none⟩) (by simp) (.int .i64 ((p 11).y))) (p := ⟨W.heap.size + 1, 8, none⟩) (by simp) (.int .i64 ((p 11).z))) (p := ⟨W.heap.size + 1, 9, none⟩) (by simp) (.int .i64 ((p 15).x))) (p := ⟨W.heap.size + 1, 10, none⟩) (by simp) (.int .i64 ((p 15).y))) (p := ⟨W.heap.size + 1, 11, none⟩) (by simp) (.int .i64 ((p 15).z)))
  clear hP hR hB
  replace hR2 := Lib.hid hR2
  replace hB2 := Lib.hid hB2
  go_wp2
  replace hR2 := hR2.out
  replace hB2 := hB2.out
  generalize ((((((((((((W1.setCell ⟨W.heap.size + 1, 0, none⟩ (.int .i64 ((p 3).x))).setCell ⟨W.heap.size + 1, 1, none⟩ (.int .i64 ((p 3).y))).setCell ⟨W.heap.size + 1, 2, none⟩ (.int .i64 ((p 3).z))).setCell ⟨W.heap.size + 1, 3, none⟩ (.int .i64 ((p 7).x))).setCell ⟨W.heap.size + 1, 4, none⟩ (.int .i64 ((p 7).y))).setCell ⟨W.heap.size + 1, 5, none⟩ (.int .i64 ((p 7).z))).setCell ⟨W.heap.size + 1, 6, none⟩ (.int .i64 ((p 11).x))).setCell ⟨W.heap.size + 1, 7, none⟩ (.int .i64 ((p 11).y))).setCell ⟨W.heap.size + 1, 8, none⟩ (.int .i64 ((p 11).z))).setCell ⟨W.heap.size + 1, 9, none⟩ (.int .i64 ((p 15).x))).setCell ⟨W.heap.size + 1, 10, none⟩ (.int .i64 ((p 15).y))).setCell ⟨W.heap.size + 1, 11, none⟩ (.int .i64 ((p 15).z))) = WE at *
  have w0 := hR2.cell
  refine bodyPost_ret (v := .agg #[.int .i64 ((p 3).x), .int .i64 ((p 3).y), .int .i64 ((p 3).z), .int .i64 ((p 7).x), .int .i64 ((p 7).y), .int .i64 ((p 7).z), .int .i64 ((p 11).x), .int .i64 ((p 11).y), .int .i64 ((p 11).z), .int .i64 ((p 15).x), .int .i64 ((p 15).y), .int .i64 ((p 15).z)]) (by simp [results, Try.results15, go_sem, w0]) rfl ⟨rfl, hB2⟩
set_option maxHeartbeats 4000000 in
theorem vRow2 (p : Nat → P3)  : Gives Try.prog 15 #[.agg (ptsC 16 p), .int .i64 (2)] (.agg (ptsC 4 (rowF p 2))) := by
  refine Gives.mk fun W => ?_
  have hP : Blk ((W.alloc (.cells (ptsC 16 p) 24)).alloc (.cells #[.int .i64 0, .int .i64 0, .int .i64 0, .int .i64 0, .int .i64 0, .int .i64 0, .int .i64 0, .int .i64 0, .int .i64 0, .int .i64 0, .int .i64 0, .int .i64 0] 26)) W.heap.size 24 (ptsC 16 p) := (Blk.new _ _ _ _ rfl).alloc _
  have hR : Blk ((W.alloc (.cells (ptsC 16 p) 24)).alloc (.cells #[.int .i64 0, .int .i64 0, .int .i64 0, .int .i64 0, .int .i64 0, .int .i64 0, .int .i64 0, .int .i64 0, .int .i64 0, .int .i64 0, .int .i64 0, .int .i64 0] 26)) (W.heap.size + 1) 26 #[.int .i64 0, .int .i64 0, .int .i64 0, .int .i64 0, .int .i64 0, .int .i64 0, .int .i64 0, .int .i64 0, .int .i64 0, .int .i64 0, .int .i64 0, .int .i64 0] := Blk.new _ _ _ _ (by simp)
  have hB : Below W.heap.size W ((W.alloc (.cells (ptsC 16 p) 24)).alloc (.cells #[.int .i64 0, .int .i64 0, .int .i64 0, .int .i64 0, .int .i64 0, .int .i64 0, .int .i64 0, .int .i64 0, .int .i64 0, .int .i64 0, .int .i64 0, .int .i64 0] 26)) := bel_alloc (bel_alloc (Below.refl _ _) _) _
  go_enter Try.func15, Try.ntmps15
  go_upto_region 1 with (fail)
  generalize ((W.alloc (.cells (ptsC 16 p) 24)).alloc (.cells #[.int .i64 0, .int .i64 0, .int .i64 0, .int .i64 0, .int .i64 0, .int .i64 0, .int .i64 0, .int .i64 0, .int .i64 0, .int .i64 0, .int .i64 0, .int .i64 0] 26)) = W1 at *
  replace hP := Lib.hid hP
  replace hR := Lib.hid hR
  replace hB := Lib.hid hB
  go_upto_region 7 with (fail)
  replace hP := hP.out
  replace hR := hR.out
  replace hB := hB.out
  have c0x : W1.cell? ⟨W.heap.size, 45, none⟩ = some (.int .i64 (p 15).x) := (ptsB hP (k := 15) (by omega)).1
  have c0y : W1.cell? ⟨W.heap.size, 46, none⟩ = some (.int .i64 (p 15).y) := (ptsB hP (k := 15) (by omega)).2.1
  have c0z : W1.cell? ⟨W.heap.size, 47, none⟩ = some (.int .i64 (p 15).z) := (ptsB hP (k := 15) (by omega)).2.2
  have c1x : W1.cell? ⟨W.heap.size, 42, none⟩ = some (.int .i64 (p 14).x) := (ptsB hP (k := 14) (by omega)).1
  have c1y : W1.cell? ⟨W.heap.size, 43, none⟩ = some (.int .i64 (p 14).y) := (ptsB hP (k := 14) (by omega)).2.1
  have c1z : W1.cell? ⟨W.heap.size, 44, none⟩ = some (.int .i64 (p 14).z) := (ptsB hP (k := 14) (by omega)).2.2
  have c2x : W1.cell? ⟨W.heap.size, 39, none⟩ = some (.int .i64 (p 13).x) := (ptsB hP (k := 13) (by omega)).1
  have c2y : W1.cell? ⟨W.heap.size, 40, none⟩ = some (.int .i64 (p 13).y) := (ptsB hP (k := 13) (by omega)).2.1
  have c2z : W1.cell? ⟨W.heap.size, 41, none⟩ = some (.int .i64 (p 13).z) := (ptsB hP (k := 13) (by omega)).2.2
  have c3x : W1.cell? ⟨W.heap.size, 36, none⟩ = some (.int .i64 (p 12).x) := (ptsB hP (k := 12) (by omega)).1
  have c3y : W1.cell? ⟨W.heap.size, 37, none⟩ = some (.int .i64 (p 12).y) := (ptsB hP (k := 12) (by omega)).2.1
  have c3z : W1.cell? ⟨W.heap.size, 38, none⟩ = some (.int .i64 (p 12).z) := (ptsB hP (k := 12) (by omega)).2.2
  have pl := hP.lt
  have r0 := hR.cell 0
  have f0 := hR.frozen 0
  have r1 := hR.cell 1
  have f1 := hR.frozen 1
  have r2 := hR.cell 2
  have f2 := hR.frozen 2
  have r3 := hR.cell 3
  have f3 := hR.frozen 3
  have r4 := hR.cell 4
  have f4 := hR.frozen 4
  have r5 := hR.cell 5
  have f5 := hR.frozen 5
  have r6 := hR.cell 6
  have f6 := hR.frozen 6
  have r7 := hR.cell 7
  have f7 := hR.frozen 7
  have r8 := hR.cell 8
  have f8 := hR.frozen 8
  have r9 := hR.cell 9
  have f9 := hR.frozen 9
  have r10 := hR.cell 10
  have f10 := hR.frozen 10
  have r11 := hR.cell 11
  have f11 := hR.frozen 11
  have rl := hR.lt
  have hR2 := ((((((((((((hR.set 0 (.int .i64 ((p 15).x))).set 1 (.int .i64 ((p 15).y))).set 2 (.int .i64 ((p 15).z))).set 3 (.int .i64 ((p 14).x))).set 4 (.int .i64 ((p 14).y))).set 5 (.int .i64 ((p 14).z))).set 6 (.int .i64 ((p 13).x))).set 7 (.int .i64 ((p 13).y))).set 8 (.int .i64 ((p 13).z))).set 9 (.int .i64 ((p 12).x))).set 10 (.int .i64 ((p 12).y))).set 11 (.int .i64 ((p 12).z)))
  have hB2 : Below W.heap.size W ((((((((((((W1.setCell ⟨W.heap.size + 1, 0, none⟩ (.int .i64 ((p 15).x))).setCell ⟨W.heap.size + 1, 1, none⟩ (.int .i64 ((p 15).y))).setCell ⟨W.heap.size + 1, 2, none⟩ (.int .i64 ((p 15).z))).setCell ⟨W.heap.size + 1, 3, none⟩ (.int .i64 ((p 14).x))).setCell ⟨W.heap.size + 1, 4, none⟩ (.int .i64 ((p 14).y))).setCell ⟨W.heap.size + 1, 5, none⟩ (.int .i64 ((p 14).z))).setCell ⟨W.heap.size + 1, 6, none⟩ (.int .i64 ((p 13).x))).setCell ⟨W.heap.size + 1, 7, none⟩ (.int .i64 ((p 13).y))).setCell ⟨W.heap.size + 1, 8, none⟩ (.int .i64 ((p 13).z))).setCell ⟨W.heap.size + 1, 9, none⟩ (.int .i64 ((p 12).x))).setCell ⟨W.heap.size + 1, 10, none⟩ (.int .i64 ((p 12).y))).setCell ⟨W.heap.size + 1, 11, none⟩ (.int .i64 ((p 12).z))) := (bel_set (bel_set (bel_set (bel_set (bel_set (bel_set (bel_set (bel_set (bel_set (bel_set (bel_set (bel_set hB (p := ⟨W.heap.size + 1, 0, none⟩) (by simp) (.int .i64 ((p 15).x))) (p := ⟨W.heap.size + 1, 1, none⟩) (by simp) (.int .i64 ((p 15).y))) (p := ⟨W.heap.size + 1, 2, none⟩) (by simp) (.int .i64 ((p 15).z))) (p := ⟨W.heap.size + 1, 3, none⟩) (by simp) (.int .i64 ((p 14).x))) (p := ⟨W.heap.size + 1, 4, none⟩) (by simp) (.int .i64 ((p 14).y))) (p := ⟨W.heap.size + 1, 5, none⟩) (by simp) (.int .i64 ((p 14).z))) (p := ⟨W.heap.size + 1, 6, none⟩) (by simp) (.int .i64 ((p 13).x))) (p := ⟨W.heap.size + 1, 7, none⟩) (by simp) (.int .i64 ((p 13).y))) (p := ⟨W.heap.size + 1, 8, none⟩) (by simp) (.int .i64 ((p 13).z))) (p := ⟨W.heap.size + 1, 9, none⟩) (by simp) (.int .i64 ((p 12).x))) (p := ⟨W.heap.size + 1, 10, none⟩) (by simp) (.int .i64 ((p 12).y))) (p := ⟨W.heap.size + 1, 11, none⟩) (by simp) (.int .i64 ((p 12).z)))
  clear hP hR hB
  replace hR2 := Lib.hid hR2
  replace hB2 := Lib.hid hB2
  go_wp2
  replace hR2 := hR2.out
  replace hB2 := hB2.out
  generalize ((((((((((((W1.setCell ⟨W.heap.size + 1, 0, none⟩ (.int .i64 ((p 15).x))).setCell ⟨W.heap.size + 1, 1, none⟩ (.int .i64 ((p 15).y))).setCell ⟨W.heap.size + 1, 2, none⟩ (.int .i64 ((p 15).z))).setCell ⟨W.heap.size + 1, 3, none⟩ (.int .i64 ((p 14).x))).setCell ⟨W.heap.size + 1, 4, none⟩ (.int .i64 ((p 14).y))).setCell ⟨W.heap.size + 1, 5, none⟩ (.int .i64 ((p 14).z))).setCell ⟨W.heap.size + 1, 6, none⟩ (.int .i64 ((p 13).x))).setCell ⟨W.heap.size + 1, 7, none⟩ (.int .i64 ((p 13).y))).setCell ⟨W.heap.size + 1, 8, none⟩ (.int .i64 ((p 13).z))).setCell ⟨W.heap.size + 1, 9, none⟩ (.int .i64 ((p 12).x))).setCell ⟨W.heap.size + 1, 10, none⟩ (.int .i64 ((p 12).y))).setCell ⟨W.heap.size + 1, 11, none⟩ (.int .i64 ((p 12).z))) = WE at *
  have w0 := hR2.cell
  refine bodyPost_ret (v := .agg #[.int .i64 ((p 15).x), .int .i64 ((p 15).y), .int .i64 ((p 15).z), .int .i64 ((p 14).x), .int .i64 ((p 14).y), .int .i64 ((p 14).z), .int .i64 ((p 13).x), .int .i64 ((p 13).y), .int .i64 ((p 13).z), .int .i64 ((p 12).x), .int .i64 ((p 12).y), .int .i64 ((p 12).z)]) (by simp [results, Try.results15, go_sem, w0]) rfl ⟨rfl, hB2⟩
set_option maxHeartbeats 4000000 in
theorem vRow3 (p : Nat → P3)  : Gives Try.prog 15 #[.agg (ptsC 16 p), .int .i64 (3)] (.agg (ptsC 4 (rowF p 3))) := by
  refine Gives.mk fun W => ?_
  have hP : Blk ((W.alloc (.cells (ptsC 16 p) 24)).alloc (.cells #[.int .i64 0, .int .i64 0, .int .i64 0, .int .i64 0, .int .i64 0, .int .i64 0, .int .i64 0, .int .i64 0, .int .i64 0, .int .i64 0, .int .i64 0, .int .i64 0] 26)) W.heap.size 24 (ptsC 16 p) := (Blk.new _ _ _ _ rfl).alloc _
  have hR : Blk ((W.alloc (.cells (ptsC 16 p) 24)).alloc (.cells #[.int .i64 0, .int .i64 0, .int .i64 0, .int .i64 0, .int .i64 0, .int .i64 0, .int .i64 0, .int .i64 0, .int .i64 0, .int .i64 0, .int .i64 0, .int .i64 0] 26)) (W.heap.size + 1) 26 #[.int .i64 0, .int .i64 0, .int .i64 0, .int .i64 0, .int .i64 0, .int .i64 0, .int .i64 0, .int .i64 0, .int .i64 0, .int .i64 0, .int .i64 0, .int .i64 0] := Blk.new _ _ _ _ (by simp)
  have hB : Below W.heap.size W ((W.alloc (.cells (ptsC 16 p) 24)).alloc (.cells #[.int .i64 0, .int .i64 0, .int .i64 0, .int .i64 0, .int .i64 0, .int .i64 0, .int .i64 0, .int .i64 0, .int .i64 0, .int .i64 0, .int .i64 0, .int .i64 0] 26)) := bel_alloc (bel_alloc (Below.refl _ _) _) _
  go_enter Try.func15, Try.ntmps15
  go_upto_region 1 with (fail)
  generalize ((W.alloc (.cells (ptsC 16 p) 24)).alloc (.cells #[.int .i64 0, .int .i64 0, .int .i64 0, .int .i64 0, .int .i64 0, .int .i64 0, .int .i64 0, .int .i64 0, .int .i64 0, .int .i64 0, .int .i64 0, .int .i64 0] 26)) = W1 at *
  replace hP := Lib.hid hP
  replace hR := Lib.hid hR
  replace hB := Lib.hid hB
  go_upto_region 9 with (fail)
  replace hP := hP.out
  replace hR := hR.out
  replace hB := hB.out
  have c0x : W1.cell? ⟨W.heap.size, 36, none⟩ = some (.int .i64 (p 12).x) := (ptsB hP (k := 12) (by omega)).1
  have c0y : W1.cell? ⟨W.heap.size, 37, none⟩ = some (.int .i64 (p 12).y) := (ptsB hP (k := 12) (by omega)).2.1
  have c0z : W1.cell? ⟨W.heap.size, 38, none⟩ = some (.int .i64 (p 12).z) := (ptsB hP (k := 12) (by omega)).2.2
  have c1x : W1.cell? ⟨W.heap.size, 24, none⟩ = some (.int .i64 (p 8).x) := (ptsB hP (k := 8) (by omega)).1
  have c1y : W1.cell? ⟨W.heap.size, 25, none⟩ = some (.int .i64 (p 8).y) := (ptsB hP (k := 8) (by omega)).2.1
  have c1z : W1.cell? ⟨W.heap.size, 26, none⟩ = some (.int .i64 (p 8).z) := (ptsB hP (k := 8) (by omega)).2.2
  have c2x : W1.cell? ⟨W.heap.size, 12, none⟩ = some (.int .i64 (p 4).x) := (ptsB hP (k := 4) (by omega)).1
  have c2y : W1.cell? ⟨W.heap.size, 13, none⟩ = some (.int .i64 (p 4).y) := (ptsB hP (k := 4) (by omega)).2.1
  have c2z : W1.cell? ⟨W.heap.size, 14, none⟩ = some (.int .i64 (p 4).z) := (ptsB hP (k := 4) (by omega)).2.2
  have c3x : W1.cell? ⟨W.heap.size, 0, none⟩ = some (.int .i64 (p 0).x) := (ptsB hP (k := 0) (by omega)).1
  have c3y : W1.cell? ⟨W.heap.size, 1, none⟩ = some (.int .i64 (p 0).y) := (ptsB hP (k := 0) (by omega)).2.1
  have c3z : W1.cell? ⟨W.heap.size, 2, none⟩ = some (.int .i64 (p 0).z) := (ptsB hP (k := 0) (by omega)).2.2
  have pl := hP.lt
  have r0 := hR.cell 0
  have f0 := hR.frozen 0
  have r1 := hR.cell 1
  have f1 := hR.frozen 1
  have r2 := hR.cell 2
  have f2 := hR.frozen 2
  have r3 := hR.cell 3
  have f3 := hR.frozen 3
  have r4 := hR.cell 4
  have f4 := hR.frozen 4
  have r5 := hR.cell 5
  have f5 := hR.frozen 5
  have r6 := hR.cell 6
  have f6 := hR.frozen 6
  have r7 := hR.cell 7
  have f7 := hR.frozen 7
  have r8 := hR.cell 8
  have f8 := hR.frozen 8
  have r9 := hR.cell 9
  have f9 := hR.frozen 9
  have r10 := hR.cell 10
  have f10 := hR.frozen 10
  have r11 := hR.cell 11
  have f11 := hR.frozen 11
  have rl := hR.lt
  have hR2 := ((((((((((((hR.set 0 (.int .i64 ((p 12).x))).set 1 (.int .i64 ((p 12).y))).set 2 (.int .i64 ((p 12).z))).set 3 (.int .i64 ((p 8).x))).set 4 (.int .i64 ((p 8).y))).set 5 (.int .i64 ((p 8).z))).set 6 (.int .i64 ((p 4).x))).set 7 (.int .i64 ((p 4).y))).set 8 (.int .i64 ((p 4).z))).set 9 (.int .i64 ((p 0).x))).set 10 (.int .i64 ((p 0).y))).set 11 (.int .i64 ((p 0).z)))
  have hB2 : Below W.heap.size W ((((((((((((W1.setCell ⟨W.heap.size + 1, 0, none⟩ (.int .i64 ((p 12).x))).setCell ⟨W.heap.size + 1, 1, none⟩ (.int .i64 ((p 12).y))).setCell ⟨W.heap.size + 1, 2, none⟩ (.int .i64 ((p 12).z))).setCell ⟨W.heap.size + 1, 3, none⟩ (.int .i64 ((p 8).x))).setCell ⟨W.heap.size + 1, 4, none⟩ (.int .i64 ((p 8).y))).setCell ⟨W.heap.size + 1, 5, none⟩ (.int .i64 ((p 8).z))).setCell ⟨W.heap.size + 1, 6, none⟩ (.int .i64 ((p 4).x))).setCell ⟨W.heap.size + 1, 7, none⟩ (.int .i64 ((p 4).y))).setCell ⟨W.heap.size + 1, 8, none⟩ (.int .i64 ((p 4).z))).setCell ⟨W.heap.size + 1, 9, none⟩ (.int .i64 ((p 0).x))).setCell ⟨W.heap.size + 1, 10, none⟩ (.int .i64 ((p 0).y))).setCell ⟨W.heap.size + 1, 11, none⟩ (.int .i64 ((p 0).z))) := (bel_set (bel_set (bel_set (bel_set (bel_set (bel_set (bel_set (bel_set (bel_set (bel_set (bel_set (bel_set hB (p := ⟨W.heap.size + 1, 0, none⟩) (by simp) (.int .i64 ((p 12).x))) (p := ⟨W.heap.size + 1, 1, none⟩) (by simp) (.int .i64 ((p 12).y))) (p := ⟨W.heap.size + 1, 2, none⟩) (by simp) (.int .i64 ((p 12).z))) (p := ⟨W.heap.size + 1, 3, none⟩) (by simp) (.int .i64 ((p 8).x))) (p := ⟨W.heap.size + 1, 4, none⟩) (by simp) (.int .i64 ((p 8).y))) (p := ⟨W.heap.size + 1, 5, none⟩) (by simp) (.int .i64 ((p 8).z))) (p := ⟨W.heap.size + 1, 6, none⟩) (by simp) (.int .i64 ((p 4).x))) (p := ⟨W.heap.size + 1, 7, none⟩) (by simp) (.int .i64 ((p 4).y))) (p := ⟨W.heap.size + 1, 8, none⟩) (by simp) (.int .i64 ((p 4).z))) (p := ⟨W.heap.size + 1, 9, none⟩) (by simp) (.int .i64 ((p 0).x))) (p := ⟨W.heap.size + 1, 10, none⟩) (by simp) (.int .i64 ((p 0).y))) (p := ⟨W.heap.size + 1, 11, none⟩) (by simp) (.int .i64 ((p 0).z)))
  clear hP hR hB
  replace hR2 := Lib.hid hR2
  replace hB2 := Lib.hid hB2
  go_wp2
  replace hR2 := hR2.out
  replace hB2 := hB2.out
  generalize ((((((((((((W1.setCell ⟨W.heap.size + 1, 0, none⟩ (.int .i64 ((p 12).x))).setCell ⟨W.heap.size + 1, 1, none⟩ (.int .i64 ((p 12).y))).setCell ⟨W.heap.size + 1, 2, none⟩ (.int .i64 ((p 12).z))).setCell ⟨W.heap.size + 1, 3, none⟩ (.int .i64 ((p 8).x))).setCell ⟨W.heap.size + 1, 4, none⟩ (.int .i64 ((p 8).y))).setCell ⟨W.heap.size + 1, 5, none⟩ (.int .i64 ((p 8).z))).setCell ⟨W.heap.size + 1, 6, none⟩ (.int .i64 ((p 4).x))).setCell ⟨W.heap.size + 1, 7, none⟩ (.int .i64 ((p 4).y))).setCell ⟨W.heap.size + 1, 8, none⟩ (.int .i64 ((p 4).z))).setCell ⟨W.heap.size + 1, 9, none⟩ (.int .i64 ((p 0).x))).setCell ⟨W.heap.size + 1, 10, none⟩ (.int .i64 ((p 0).y))).setCell ⟨W.heap.size + 1, 11, none⟩ (.int .i64 ((p 0).z))) = WE at *
  have w0 := hR2.cell
  refine bodyPost_ret (v := .agg #[.int .i64 ((p 12).x), .int .i64 ((p 12).y), .int .i64 ((p 12).z), .int .i64 ((p 8).x), .int .i64 ((p 8).y), .int .i64 ((p 8).z), .int .i64 ((p 4).x), .int .i64 ((p 4).y), .int .i64 ((p 4).z), .int .i64 ((p 0).x), .int .i64 ((p 0).y), .int .i64 ((p 0).z)]) (by simp [results, Try.results15, go_sem, w0]) rfl ⟨rfl, hB2⟩
set_option maxHeartbeats 4000000 in
theorem vRowN (p : Nat → P3) (s : Int) (h0 : s ≠ 0) (h1 : s ≠ 1) (h2 : s ≠ 2) (h3 : s ≠ 3) : Gives Try.prog 15 #[.agg (ptsC 16 p), .int .i64 s] (.agg (ptsC 4 (rowF p s))) := by
  have e : rowF p s = fun _ => N3 := by funext k; unfold rowF; rw [if_neg h0, if_neg h1, if_neg h2, if_neg h3]
  rw [e, ptsC4]
  simp only [N3]
  refine Gives.mk fun W => ?_
  have hP : Blk ((W.alloc (.cells (ptsC 16 p) 24)).alloc (.cells #[.int .i64 0, .int .i64 0, .int .i64 0, .int .i64 0, .int .i64 0, .int .i64 0, .int .i64 0, .int .i64 0, .int .i64 0, .int .i64 0, .int .i64 0, .int .i64 0] 26)) W.heap.size 24 (ptsC 16 p) := (Blk.new _ _ _ _ rfl).alloc _
  have hR : Blk ((W.alloc (.cells (ptsC 16 p) 24)).alloc (.cells #[.int .i64 0, .int .i64 0, .int .i64 0, .int .i64 0, .int .i64 0, .int .i64 0, .int .i64 0, .int .i64 0, .int .i64 0, .int .i64 0, .int .i64 0, .int .i64 0] 26)) (W.heap.size + 1) 26 #[.int .i64 0, .int .i64 0, .int .i64 0, .int .i64 0, .int .i64 0, .int .i64 0, .int .i64 0, .int .i64 0, .int .i64 0, .int .i64 0, .int .i64 0, .int .i64 0] := Blk.new _ _ _ _ (by simp)
  have hB : Below W.heap.size W ((W.alloc (.cells (ptsC 16 p) 24)).alloc (.cells #[.int .i64 0, .int .i64 0, .int .i64 0, .int .i64 0, .int .i64 0, .int .i64 0, .int .i64 0, .int .i64 0, .int .i64 0, .int .i64 0, .int .i64 0, .int .i64 0] 26)) := bel_alloc (bel_alloc (Below.refl _ _) _) _
  go_enter Try.func15, Try.ntmps15
  go_upto_region 1 with (fail)
  generalize ((W.alloc (.cells (ptsC 16 p) 24)).alloc (.cells #[.int .i64 0, .int .i64 0, .int .i64 0, .int .i64 0, .int .i64 0, .int .i64 0, .int .i64 0, .int .i64 0, .int .i64 0, .int .i64 0, .int .i64 0, .int .i64 0] 26)) = W1 at *
  replace hP := Lib.hid hP
  replace hR := Lib.hid hR
  replace hB := Lib.hid hB
  go_upto_region 10 with (fail)
  replace hP := hP.out
  replace hR := hR.out
  replace hB := hB.out
  have pl := hP.lt
  have r0 := hR.cell 0
  have f0 := hR.frozen 0
  have r1 := hR.cell 1
  have f1 := hR.frozen 1
  have r2 := hR.cell 2
  have f2 := hR.frozen 2
  have r3 := hR.cell 3
  have f3 := hR.frozen 3
  have r4 := hR.cell 4
  have f4 := hR.frozen 4
  have r5 := hR.cell 5
  have f5 := hR.frozen 5
  have r6 := hR.cell 6
  have f6 := hR.frozen 6
  have r7 := hR.cell 7
  have f7 := hR.frozen 7
  have r8 := hR.cell 8
  have f8 := hR.frozen 8
  have r9 := hR.cell 9
  have f9 := hR.frozen 9
  have r10 := hR.cell 10
  have f10 := hR.frozen 10
  have r11 := hR.cell 11
  have f11 := hR.frozen 11
  have rl := hR.lt
  have hR2 := ((((((((((((hR.set 0 (.int .i64 (0))).set 1 (.int .i64 (0))).set 2 (.int .i64 (0))).set 3 (.int .i64 (0))).set 4 (.int .i64 (0))).set 5 (.int .i64 (0))).set 6 (.int .i64 (0))).set 7 (.int .i64 (0))).set 8 (.int .i64 (0))).set 9 (.int .i64 (0))).set 10 (.int .i64 (0))).set 11 (.int .i64 (0)))
  have hB2 : Below W.heap.size W ((((((((((((W1.setCell ⟨W.heap.size + 1, 0, none⟩ (.int .i64 (0))).setCell ⟨W.heap.size + 1, 1, none⟩ (.int .i64 (0))).setCell ⟨W.heap.size + 1, 2, none⟩ (.int .i64 (0))).setCell ⟨W.heap.size + 1, 3, none⟩ (.int .i64 (0))).setCell ⟨W.heap.size + 1, 4, none⟩ (.int .i64 (0))).setCell ⟨W.heap.size + 1, 5, none⟩ (.int .i64 (0))).setCell ⟨W.heap.size + 1, 6, none⟩ (.int .i64 (0))).setCell ⟨W.heap.size + 1, 7, none⟩ (.int .i64 (0))).setCell ⟨W.heap.size + 1, 8, none⟩ (.int .i64 (0))).setCell ⟨W.heap.size + 1, 9, none⟩ (.int .i64 (0))).setCell ⟨W.heap.size + 1, 10, none⟩ (.int .i64 (0))).setCell ⟨W.heap.size + 1, 11, none⟩ (.int .i64 (0))) := (bel_set (bel_set (bel_set (bel_set (bel_set (bel_set (bel_set (bel_set (bel_set (bel_set (bel_set (bel_set hB (p := ⟨W.heap.size + 1, 0, none⟩) (by simp) (.int .i64 (0))) (p := ⟨W.heap.size + 1, 1, none⟩) (by simp) (.int .i64 (0))) (p := ⟨W.heap.size + 1, 2, none⟩) (by simp) (.int .i64 (0))) (p := ⟨W.heap.size + 1, 3, none⟩) (by simp) (.int .i64 (0))) (p := ⟨W.heap.size + 1, 4, none⟩) (by simp) (.int .i64 (0))) (p := ⟨W.heap.size + 1, 5, none⟩) (by simp) (.int .i64 (0))) (p := ⟨W.heap.size + 1, 6, none⟩) (by simp) (.int .i64 (0))) (p := ⟨W.heap.size + 1, 7, none⟩) (by simp) (.int .i64 (0))) (p := ⟨W.heap.size + 1, 8, none⟩) (by simp) (.int .i64 (0))) (p := ⟨W.heap.size + 1, 9, none⟩) (by simp) (.int .i64 (0))) (p := ⟨W.heap.size + 1, 10, none⟩) (by simp) (.int .i64 (0))) (p := ⟨W.heap.size + 1, 11, none⟩) (by simp) (.int .i64 (0)))
  clear hP hR hB
  replace hR2 := Lib.hid hR2
  replace hB2 := Lib.hid hB2
  go_wp2
  replace hR2 := hR2.out
  replace hB2 := hB2.out
  generalize ((((((((((((W1.setCell ⟨W.heap.size + 1, 0, none⟩ (.int .i64 (0))).setCell ⟨W.heap.size + 1, 1, none⟩ (.int .i64 (0))).setCell ⟨W.heap.size + 1, 2, none⟩ (.int .i64 (0))).setCell ⟨W.heap.size + 1, 3, none⟩ (.int .i64 (0))).setCell ⟨W.heap.size + 1, 4, none⟩ (.int .i64 (0))).setCell ⟨W.heap.size + 1, 5, none⟩ (.int .i64 (0))).setCell ⟨W.heap.size + 1, 6, none⟩ (.int .i64 (0))).setCell ⟨W.heap.size + 1, 7, none⟩ (.int .i64 (0))).setCell ⟨W.heap.size + 1, 8, none⟩ (.int .i64 (0))).setCell ⟨W.heap.size + 1, 9, none⟩ (.int .i64 (0))).setCell ⟨W.heap.size + 1, 10, none⟩ (.int .i64 (0))).setCell ⟨W.heap.size + 1, 11, none⟩ (.int .i64 (0))) = WE at *
  have w0 := hR2.cell
  refine bodyPost_ret (v := .agg #[.int .i64 (0), .int .i64 (0), .int .i64 (0), .int .i64 (0), .int .i64 (0), .int .i64 (0), .int .i64 (0), .int .i64 (0), .int .i64 (0), .int .i64 (0), .int .i64 (0), .int .i64 (0)]) (by simp [results, Try.results15, go_sem, w0]) rfl ⟨rfl, hB2⟩
theorem vRow_any (p : Nat → P3) (s : Int) : Gives Try.prog 15 #[.agg (ptsC 16 p), .int .i64 s] (.agg (ptsC 4 (rowF p s))) := by
  by_cases h0 : s = 0
  · subst h0; exact vRow0 p
  by_cases h1 : s = 1
  · subst h1; exact vRow1 p
  by_cases h2 : s = 2
  · subst h2; exact vRow2 p
  by_cases h3 : s = 3
  · subst h3; exact vRow3 p
  exact vRowN p s h0 h1 h2 h3
end Go.Proofs.Ytiaikceoodeboab
namespace Go.Proofs.Ytiaikceoodeboab
open Go.RowKit
set_option linter.unusedVariables false
set_option linter.unusedSimpArgs false
set_option linter.unnecessarySimpa false
set_option maxRecDepth 100000
set_option maxHeartbeats 8000000 in
theorem rRow0 (p : Nat → P3)  : Gives Try.prog 16 #[.agg (ptsC 16 p), .int .i64 (0)] (.agg (ptsC 4 (rowF p 0))) := by
  have wr0 : wrap64 0 = 0 := wrap_id (by omega) (by omega)
  have wr3 : wrap64 3 = 3 := wrap_id (by omega) (by omega)
  have wr4 : wrap64 4 = 4 := wrap_id (by omega) (by omega)
  have wr7 : wrap64 7 = 7 := wrap_id (by omega) (by omega)
  have wr8 : wrap64 8 = 8 := wrap_id (by omega) (by omega)
  have wr11 : wrap64 11 = 11 := wrap_id (by omega) (by omega)
  have wr12 : wrap64 12 = 12 := wrap_id (by omega) (by omega)
  have wr13 : wrap64 13 = 13 := wrap_id (by omega) (by omega)
  have wr14 : wrap64 14 = 14 := wrap_id (by omega) (by omega)
  have wr15 : wrap64 15 = 15 := wrap_id (by omega) (by omega)
  have wr1 : wrap64 1 = 1 := wrap_id (by omega) (by omega)
  have wr2 : wrap64 2 = 2 := wrap_id (by omega) (by omega)
  rw [ptsC4]
  refine Gives.mk fun W => ?_
  have hP : Blk (((W.alloc (.cells (ptsC 16 p) 24)).alloc (.cells #[.int .i64 0, .int .i64 0, .int .i64 0, .int .i64 0, .int .i64 0, .int .i64 0, .int .i64 0, .int .i64 0, .int .i64 0, .int .i64 0, .int .i64 0, .int .i64 0] 26)).alloc (.cells #[.int .i64 0, .int .i64 0, .int .i64 0, .int .i64 0, .int .i64 0, .int .i64 0, .int .i64 0, .int .i64 0, .int .i64 0, .int .i64 0, .int .i64 0, .int .i64 0] 26)) W.heap.size 24 (ptsC 16 p) := ((Blk.new _ _ _ _ rfl).alloc _).alloc _
  have hR : Blk (((W.alloc (.cells (ptsC 16 p) 24)).alloc (.cells #[.int .i64 0, .int .i64 0, .int .i64 0, .int .i64 0, .int .i64 0, .int .i64 0, .int .i64 0, .int .i64 0, .int .i64 0, .int .i64 0, .int .i64 0, .int .i64 0] 26)).alloc (.cells #[.int .i64 0, .int .i64 0, .int .i64 0, .int .i64 0, .int .i64 0, .int .i64 0, .int .i64 0, .int .i64 0, .int .i64 0, .int .i64 0, .int .i64 0, .int .i64 0] 26)) (W.heap.size + 1) 26 #[.int .i64 0, .int .i64 0, .int .i64 0, .int .i64 0, .int .i64 0, .int .i64 0, .int .i64 0, .int .i64 0, .int .i64 0, .int .i64 0, .int .i64 0, .int .i64 0] := (Blk.new _ _ _ _ (by simp)).alloc _
  have hO : Blk (((W.alloc (.cells (ptsC 16 p) 24)).alloc (.cells #[.int .i64 0, .int .i64 0, .int .i64 0, .int .i64 0, .int .i64 0, .int .i64 0, .int .i64 0, .int .i64 0, .int .i64 0, .int .i64 0, .int .i64 0, .int .i64 0] 26)).alloc (.cells #[.int .i64 0, .int .i64 0, .int .i64 0, .int .i64 0, .int .i64 0, .int .i64 0, .int .i64 0, .int .i64 0, .int .i64 0, .int .i64 0, .int .i64 0, .int .i64 0] 26)) (W.heap.size + 2) 26 (ptsC 4 (rowU p 0 0)) := Blk.new _ _ _ _ (by simp)
  have hB : Below W.heap.size W (((W.alloc (.cells (ptsC 16 p) 24)).alloc (.cells #[.int .i64 0, .int .i64 0, .int .i64 0, .int .i64 0, .int .i64 0, .int .i64 0, .int .i64 0, .int .i64 0, .int .i64 0, .int .i64 0, .int .i64 0, .int .i64 0] 26)).alloc (.cells #[.int .i64 0, .int .i64 0, .int .i64 0, .int .i64 0, .int .i64 0, .int .i64 0, .int .i64 0, .int .i64 0, .int .i64 0, .int .i64 0, .int .i64 0, .int .i64 0] 26)) := bel_alloc (bel_alloc (bel_alloc (Below.refl _ _) _) _) _
  go_enter Try.func16, Try.ntmps16
  go_upto_region 2 with (fail)
  generalize (((W.alloc (.cells (ptsC 16 p) 24)).alloc (.cells #[.int .i64 0, .int .i64 0, .int .i64 0, .int .i64 0, .int .i64 0, .int .i64 0, .int .i64 0, .int .i64 0, .int .i64 0, .int .i64 0, .int .i64 0, .int .i64 0] 26)).alloc (.cells #[.int .i64 0, .int .i64 0, .int .i64 0, .int .i64 0, .int .i64 0, .int .i64 0, .int .i64 0, .int .i64 0, .int .i64 0, .int .i64 0, .int .i64 0, .int .i64 0] 26)) = W1 at *
  go_wp2
  go_loopw [6] (fun iv wr => ∃ k : Nat, rowI iv k ∧ Below W.heap.size W wr ∧ Blk wr W.heap.size 24 (ptsC 16 p) ∧ Blk wr (W.heap.size + 1) 26 #[.int .i64 0, .int .i64 0, .int .i64 0, .int .i64 0, .int .i64 0, .int .i64 0, .int .i64 0, .int .i64 0, .int .i64 0, .int .i64 0, .int .i64 0, .int .i64 0] ∧ Blk wr (W.heap.size + 2) 26 (ptsC 4 (rowU p 0 k))) (fun iv _ => 4 - (intOf iv).toNat)
  case atStart => exact ⟨0, .inl ⟨rfl, rfl⟩, hB, hP, hR, hO⟩
  case round =>
    obtain ⟨k, hi, hBr, hPr, hRr, hOr⟩ := hrel
    clear hB hP hR hO
    have pl := hPr.lt
    have ol := hOr.lt
    rcases hi with ⟨rfl, rfl⟩ | ⟨rfl, rfl⟩ | ⟨rfl, rfl⟩ | ⟨rfl, rfl⟩ | ⟨rfl, rfl⟩
    · obtain ⟨c1, c2, c3⟩ := ptsB hPr (k := 0) (by omega)
      have hOs := ((hOr.set 0 (.int .i64 (p 0).x)).set 1 (.int .i64 (p 0).y)).set 2 (.int .i64 (p 0).z)
      have hPs := ((hPr.far (b := W.heap.size + 2) 0 (.int .i64 (p 0).x) (by omega)).far (b := W.heap.size + 2) 1 (.int .i64 (p 0).y) (by omega)).far (b := W.heap.size + 2) 2 (.int .i64 (p 0).z) (by omega)
      have hRs := ((hRr.far (b := W.heap.size + 2) 0 (.int .i64 (p 0).x) (by omega)).far (b := W.heap.size + 2) 1 (.int .i64 (p 0).y) (by omega)).far (b := W.heap.size + 2) 2 (.int .i64 (p 0).z) (by omega)
      have hBs := (bel_set (bel_set (bel_set hBr (p := ⟨W.heap.size + 2, 0, none⟩) (by simp) (.int .i64 ((p 0).x))) (p := ⟨W.heap.size + 2, 1, none⟩) (by simp) (.int .i64 ((p 0).y))) (p := ⟨W.heap.size + 2, 2, none⟩) (by simp) (.int .i64 ((p 0).z)))
      have x1 : wr.cell? ⟨W.heap.size, 0, none⟩ = some (.int .i64 (p 0).x) := c1
      have x2 : wr.cell? ⟨W.heap.size, 1, none⟩ = some (.int .i64 (p 0).y) := c2
      have x3 : wr.cell? ⟨W.heap.size, 2, none⟩ = some (.int .i64 (p 0).z) := c3
      have hn : ptsC 4 (rowU p 0 1) = _ := (rowU_next p 0 (k := 0) (by omega)).symm
      replace hn := Lib.hid hn
      rw [ptsC4] at hOr
      have o0 := hOr.cell 0
      have o1 := hOr.cell 1
      have o2 := hOr.cell 2
      have g0 := hOr.frozen 0
      have g1 := hOr.frozen 1
      have g2 := hOr.frozen 2
      clear c1 c2 c3 hBr hPr hRr hOr
      replace hOs := Lib.hid hOs
      replace hPs := Lib.hid hPs
      replace hRs := Lib.hid hRs
      replace hBs := Lib.hid hBs
      go_wp2
      go_roundw
      case rel =>
        refine ⟨1, .inr (.inl ⟨rfl, rfl⟩), hBs.out, hPs.out, hRs.out, ?_⟩
        rw [hn.out]
        exact hOs.out
      case measure => simp [intOf]
    · obtain ⟨c1, c2, c3⟩ := ptsB hPr (k := 1) (by omega)
      have hOs := ((hOr.set 3 (.int .i64 (p 1).x)).set 4 (.int .i64 (p 1).y)).set 5 (.int .i64 (p 1).z)
      have hPs := ((hPr.far (b := W.heap.size + 2) 3 (.int .i64 (p 1).x) (by omega)).far (b := W.heap.size + 2) 4 (.int .i64 (p 1).y) (by omega)).far (b := W.heap.size + 2) 5 (.int .i64 (p 1).z) (by omega)
      have hRs := ((hRr.far (b := W.heap.size + 2) 3 (.int .i64 (p 1).x) (by omega)).far (b := W.heap.size + 2) 4 (.int .i64 (p 1).y) (by omega)).far (b := W.heap.size + 2) 5 (.int .i64 (p 1).z) (by omega)
      have hBs := (bel_set (bel_set (bel_set hBr (p := ⟨W.heap.size + 2, 3, none⟩) (by simp) (.int .i64 ((p 1).x))) (p := ⟨W.heap.size + 2, 4, none⟩) (by simp) (.int .i64 ((p 1).y))) (p := ⟨W.heap.size + 2, 5, none⟩) (by simp) (.int .i64 ((p 1).z)))
      have x1 : wr.cell? ⟨W.heap.size, 3, none⟩ = some (.int .i64 (p 1).x) := c1
      have x2 : wr.cell? ⟨W.heap.size, 4, none⟩ = some (.int .i64 (p 1).y) := c2
      have x3 : wr.cell? ⟨W.heap.size, 5, none⟩ = some (.int .i64 (p 1).z) := c3
      have hn : ptsC 4 (rowU p 0 2) = _ := (rowU_next p 0 (k := 1) (by omega)).symm
      replace hn := Lib.hid hn
      rw [ptsC4] at hOr
      have o0 := hOr.cell 3
      have o1 := hOr.cell 4
      have o2 := hOr.cell 5
      have g0 := hOr.frozen 3
      have g1 := hOr.frozen 4
      have g2 := hOr.frozen 5
      clear c1 c2 c3 hBr hPr hRr hOr
      replace hOs := Lib.hid hOs
      replace hPs := Lib.hid hPs
      replace hRs := Lib.hid hRs
      replace hBs := Lib.hid hBs
      go_wp2
      go_roundw
      case rel =>
        refine ⟨2, .inr (.inr (.inl ⟨rfl, rfl⟩)), hBs.out, hPs.out, hRs.out, ?_⟩
        rw [hn.out]
        exact hOs.out
      case measure => simp [intOf]
    · obtain ⟨c1, c2, c3⟩ := ptsB hPr (k := 2) (by omega)
      have hOs := ((hOr.set 6 (.int .i64 (p 2).x)).set 7 (.int .i64 (p 2).y)).set 8 (.int .i64 (p 2).z)
      have hPs := ((hPr.far (b := W.heap.size + 2) 6 (.int .i64 (p 2).x) (by omega)).far (b := W.heap.size + 2) 7 (.int .i64 (p 2).y) (by omega)).far (b := W.heap.size + 2) 8 (.int .i64 (p 2).z) (by omega)
      have hRs := ((hRr.far (b := W.heap.size + 2) 6 (.int .i64 (p 2).x) (by omega)).far (b := W.heap.size + 2) 7 (.int .i64 (p 2).y) (by omega)).far (b := W.heap.size + 2) 8 (.int .i64 (p 2).z) (by omega)
      have hBs := (bel_set (bel_set (bel_set hBr (p := ⟨W.heap.size + 2, 6, none⟩) (by simp) (.int .i64 ((p 2).x))) (p := ⟨W.heap.size + 2, 7, none⟩) (by simp) (.int .i64 ((p 2).y))) (p := ⟨W.heap.size + 2, 8, none⟩) (by simp) (.int .i64 ((p 2).z)))
      have x1 : wr.cell? ⟨W.heap.size, 6, none⟩ = some (.int .i64 (p 2).x) := c1
      have x2 : wr.cell? ⟨W.heap.size, 7, none⟩ = some (.int .i64 (p 2).y) := c2
      have x3 : wr.cell? ⟨W.heap.size, 8, none⟩ = some (.int .i64 (p 2).z) := c3
      have hn : ptsC 4 (rowU p 0 3) = _ := (rowU_next p 0 (k := 2) (by omega)).symm
      replace hn := Lib.hid hn
      rw [ptsC4] at hOr
      have o0 := hOr.cell 6
      have o1 := hOr.cell 7
      have o2 := hOr.cell 8
      have g0 := hOr.frozen 6
      have g1 := hOr.frozen 7
      have g2 := hOr.frozen 8
      clear c1 c2 c3 hBr hPr hRr hOr
      replace hOs := Lib.hid hOs
      replace hPs := Lib.hid hPs
      replace hRs := Lib.hid hRs
      replace hBs := Lib.hid hBs
      go_wp2
      go_roundw
      case rel =>
        refine ⟨3, .inr (.inr (.inr (.inl ⟨rfl, rfl⟩))), hBs.out, hPs.out, hRs.out, ?_⟩
        rw [hn.out]
        exact hOs.out
      case measure => simp [intOf]
    · obtain ⟨c1, c2, c3⟩ := ptsB hPr (k := 3) (by omega)
      have hOs := ((hOr.set 9 (.int .i64 (p 3).x)).set 10 (.int .i64 (p 3).y)).set 11 (.int .i64 (p 3).z)
      have hPs := ((hPr.far (b := W.heap.size + 2) 9 (.int .i64 (p 3).x) (by omega)).far (b := W.heap.size + 2) 10 (.int .i64 (p 3).y) (by omega)).far (b := W.heap.size + 2) 11 (.int .i64 (p 3).z) (by omega)
      have hRs := ((hRr.far (b := W.heap.size + 2) 9 (.int .i64 (p 3).x) (by omega)).far (b := W.heap.size + 2) 10 (.int .i64 (p 3).y) (by omega)).far (b := W.heap.size + 2) 11 (.int .i64 (p 3).z) (by omega)
      have hBs := (bel_set (bel_set (bel_set hBr (p := ⟨W.heap.size + 2, 9, none⟩) (by simp) (.int .i64 ((p 3).x))) (p := ⟨W.heap.size + 2, 10, none⟩) (by simp) (.int .i64 ((p 3).y))) (p := ⟨W.heap.size + 2, 11, none⟩) (by simp) (.int .i64 ((p 3).z)))
      have x1 : wr.cell? ⟨W.heap.size, 9, none⟩ = some (.int .i64 (p 3).x) := c1
      have x2 : wr.cell? ⟨W.heap.size, 10, none⟩ = some (.int .i64 (p 3).y) := c2
      have x3 : wr.cell? ⟨W.heap.size, 11, none⟩ = some (.int .i64 (p 3).z) := c3
      have hn : ptsC 4 (rowU p 0 4) = _ := (rowU_next p 0 (k := 3) (by omega)).symm
      replace hn := Lib.hid hn
      rw [ptsC4] at hOr
      have o0 := hOr.cell 9
      have o1 := hOr.cell 10
      have o2 := hOr.cell 11
      have g0 := hOr.frozen 9
      have g1 := hOr.frozen 10
      have g2 := hOr.frozen 11
      clear c1 c2 c3 hBr hPr hRr hOr
      replace hOs := Lib.hid hOs
      replace hPs := Lib.hid hPs
      replace hRs := Lib.hid hRs
      replace hBs := Lib.hid hBs
      go_wp2
      go_roundw
      case rel =>
        refine ⟨4, .inr (.inr (.inr (.inr ⟨rfl, rfl⟩))), hBs.out, hPs.out, hRs.out, ?_⟩
        rw [hn.out]
        exact hOs.out
      case measure => simp [intOf]
    · rw [rowU_end, ptsC4] at hOr
      replace hPr := Lib.hid hPr
      replace hRr := Lib.hid hRr
      replace hBr := Lib.hid hBr
      replace hOr := Lib.hid hOr
      go_upto_region 14 with (fail)
      replace hRr := hRr.out
      replace hBr := hBr.out
      replace hOr := hOr.out
      have r0 := hRr.cell 0
      have f0 := hRr.frozen 0
      have o0 := hOr.cell 0
      have r1 := hRr.cell 1
      have f1 := hRr.frozen 1
      have o1 := hOr.cell 1
      have r2 := hRr.cell 2
      have f2 := hRr.frozen 2
      have o2 := hOr.cell 2
      have r3 := hRr.cell 3
      have f3 := hRr.frozen 3
      have o3 := hOr.cell 3
      have r4 := hRr.cell 4
      have f4 := hRr.frozen 4
      have o4 := hOr.cell 4
      have r5 := hRr.cell 5
      have f5 := hRr.frozen 5
      have o5 := hOr.cell 5
      have r6 := hRr.cell 6
      have f6 := hRr.frozen 6
      have o6 := hOr.cell 6
      have r7 := hRr.cell 7
      have f7 := hRr.frozen 7
      have o7 := hOr.cell 7
      have r8 := hRr.cell 8
      have f8 := hRr.frozen 8
      have o8 := hOr.cell 8
      have r9 := hRr.cell 9
      have f9 := hRr.frozen 9
      have o9 := hOr.cell 9
      have r10 := hRr.cell 10
      have f10 := hRr.frozen 10
      have o10 := hOr.cell 10
      have r11 := hRr.cell 11
      have f11 := hRr.frozen 11
      have o11 := hOr.cell 11
      have rl := hRr.lt
      have hR2 := ((((((((((((hRr.set 0 (.int .i64 ((rowF p 0 0).x))).set 1 (.int .i64 ((rowF p 0 0).y))).set 2 (.int .i64 ((rowF p 0 0).z))).set 3 (.int .i64 ((rowF p 0 1).x))).set 4 (.int .i64 ((rowF p 0 1).y))).set 5 (.int .i64 ((rowF p 0 1).z))).set 6 (.int .i64 ((rowF p 0 2).x))).set 7 (.int .i64 ((rowF p 0 2).y))).set 8 (.int .i64 ((rowF p 0 2).z))).set 9 (.int .i64 ((rowF p 0 3).x))).set 10 (.int .i64 ((rowF p 0 3).y))).set 11 (.int .i64 ((rowF p 0 3).z)))
      have hB2 : Below W.heap.size W ((((((((((((wr.setCell ⟨W.heap.size + 1, 0, none⟩ (.int .i64 ((rowF p 0 0).x))).setCell ⟨W.heap.size + 1, 1, none⟩ (.int .i64 ((rowF p 0 0).y))).setCell ⟨W.heap.size + 1, 2, none⟩ (.int .i64 ((rowF p 0 0).z))).setCell ⟨W.heap.size + 1, 3, none⟩ (.int .i64 ((rowF p 0 1).x))).setCell ⟨W.heap.size + 1, 4, none⟩ (.int .i64 ((rowF p 0 1).y))).setCell ⟨W.heap.size + 1, 5, none⟩ (.int .i64 ((rowF p 0 1).z))).setCell ⟨W.heap.size + 1, 6, none⟩ (.int .i64 ((rowF p 0 2).x))).setCell ⟨W.heap.size + 1, 7, none⟩ (.int .i64 ((rowF p 0 2).y))).setCell ⟨W.heap.size + 1, 8, none⟩ (.int .i64 ((rowF p 0 2).z))).setCell ⟨W.heap.size + 1, 9, none⟩ (.int .i64 ((rowF p 0 3).x))).setCell ⟨W.heap.size + 1, 10, none⟩ (.int .i64 ((rowF p 0 3).y))).setCell ⟨W.heap.size + 1, 11, none⟩ (.int .i64 ((rowF p 0 3).z))) := (bel_set (bel_set (bel_set (bel_set (bel_set (bel_set (bel_set (bel_set (bel_set (bel_set (bel_set (bel_set hBr (p := ⟨W.heap.size + 1, 0, none⟩) (by simp) (.int .i64 ((rowF p 0 0).x))) (p := ⟨W.heap.size + 1, 1, none⟩) (by simp) (.int .i64 ((rowF p 0 0).y))) (p := ⟨W.heap.size + 1, 2, none⟩) (by simp) (.int .i64 ((rowF p 0 0).z))) (p := ⟨W.heap.size + 1, 3, none⟩) (by simp) (.int .i64 ((rowF p 0 1).x))) (p := ⟨W.heap.size + 1, 4, none⟩) (by simp) (.int .i64 ((rowF p 0 1).y))) (p := ⟨W.heap.size + 1, 5, none⟩) (by simp) (.int .i64 ((rowF p 0 1).z))) (p := ⟨W.heap.size + 1, 6, none⟩) (by simp) (.int .i64 ((rowF p 0 2).x))) (p := ⟨W.heap.size + 1, 7, none⟩) (by simp) (.int .i64 ((rowF p 0 2).y))) (p := ⟨W.heap.size + 1, 8, none⟩) (by simp) (.int .i64 ((rowF p 0 2).z))) (p := ⟨W.heap.size + 1, 9, none⟩) (by simp) (.int .i64 ((rowF p 0 3).x))) (p := ⟨W.heap.size + 1, 10, none⟩) (by simp) (.int .i64 ((rowF p 0 3).y))) (p := ⟨W.heap.size + 1, 11, none⟩) (by simp) (.int .i64 ((rowF p 0 3).z)))
      clear hPr hRr hBr hOr
      replace hR2 := Lib.hid hR2
      replace hB2 := Lib.hid hB2
      go_wp2
      replace hR2 := hR2.out
      replace hB2 := hB2.out
      generalize ((((((((((((wr.setCell ⟨W.heap.size + 1, 0, none⟩ (.int .i64 ((rowF p 0 0).x))).setCell ⟨W.heap.size + 1, 1, none⟩ (.int .i64 ((rowF p 0 0).y))).setCell ⟨W.heap.size + 1, 2, none⟩ (.int .i64 ((rowF p 0 0).z))).setCell ⟨W.heap.size + 1, 3, none⟩ (.int .i64 ((rowF p 0 1).x))).setCell ⟨W.heap.size + 1, 4, none⟩ (.int .i64 ((rowF p 0 1).y))).setCell ⟨W.heap.size + 1, 5, none⟩ (.int .i64 ((rowF p 0 1).z))).setCell ⟨W.heap.size + 1, 6, none⟩ (.int .i64 ((rowF p 0 2).x))).setCell ⟨W.heap.size + 1, 7, none⟩ (.int .i64 ((rowF p 0 2).y))).setCell ⟨W.heap.size + 1, 8, none⟩ (.int .i64 ((rowF p 0 2).z))).setCell ⟨W.heap.size + 1, 9, none⟩ (.int .i64 ((rowF p 0 3).x))).setCell ⟨W.heap.size + 1, 10, none⟩ (.int .i64 ((rowF p 0 3).y))).setCell ⟨W.heap.size + 1, 11, none⟩ (.int .i64 ((rowF p 0 3).z))) = WE at *
      have w0 := hR2.cell
      refine bodyPost_ret (v := .agg #[.int .i64 ((rowF p 0 0).x), .int .i64 ((rowF p 0 0).y), .int .i64 ((rowF p 0 0).z), .int .i64 ((rowF p 0 1).x), .int .i64 ((rowF p 0 1).y), .int .i64 ((rowF p 0 1).z), .int .i64 ((rowF p 0 2).x), .int .i64 ((rowF p 0 2).y), .int .i64 ((rowF p 0 2).z), .int .i64 ((rowF p 0 3).x), .int .i64 ((rowF p 0 3).y), .int .i64 ((rowF p 0 3).z)]) (by simp [results, Try.results16, go_sem, w0]) rfl ⟨rfl, hB2⟩
set_option maxHeartbeats 8000000 in
theorem rRow1 (p : Nat → P3)  : Gives Try.prog 16 #[.agg (ptsC 16 p), .int .i64 (1)] (.agg (ptsC 4 (rowF p 1))) := by
  have wr0 : wrap64 0 = 0 := wrap_id (by omega) (by omega)
  have wr3 : wrap64 3 = 3 := wrap_id (by omega) (by omega)
  have wr4 : wrap64 4 = 4 := wrap_id (by omega) (by omega)
  have wr7 : wrap64 7 = 7 := wrap_id (by omega) (by omega)
  have wr8 : wrap64 8 = 8 := wrap_id (by omega) (by omega)
  have wr11 : wrap64 11 = 11 := wrap_id (by omega) (by omega)
  have wr12 : wrap64 12 = 12 := wrap_id (by omega) (by omega)
  have wr13 : wrap64 13 = 13 := wrap_id (by omega) (by omega)
  have wr14 : wrap64 14 = 14 := wrap_id (by omega) (by omega)
  have wr15 : wrap64 15 = 15 := wrap_id (by omega) (by omega)
  have wr1 : wrap64 1 = 1 := wrap_id (by omega) (by omega)
  have wr2 : wrap64 2 = 2 := wrap_id (by omega) (by omega)
  rw [ptsC4]
  refine Gives.mk fun W => ?_
  have hP : Blk (((W.alloc (.cells (ptsC 16 p) 24)).alloc (.cells #[.int .i64 0, .int .i64 0, .int .i64 0, .int .i64 0, .int .i64 0, .int .i64 0, .int .i64 0, .int .i64 0, .int .i64 0, .int .i64 0, .int .i64 0, .int .i64 0] 26)).alloc (.cells #[.int .i64 0, .int .i64 0, .int .i64 0, .int .i64 0, .int .i64 0, .int .i64 0, .int .i64 0, .int .i64 0, .int .i64 0, .int .i64 0, .int .i64 0, .int .i64 0] 26)) W.heap.size 24 (ptsC 16 p) := ((Blk.new _ _ _ _ rfl).alloc _).alloc _
  have hR : Blk (((W.alloc (.cells (ptsC 16 p) 24)).alloc (.cells #[.int .i64 0, .int .i64 0, .int .i64 0, .int .i64 0, .int .i64 0, .int .i64 0, .int .i64 0, .int .i64 0, .int .i64 0, .int .i64 0, .int .i64 0, .int .i64 0] 26)).alloc (.cells #[.int .i64 0, .int .i64 0, .int .i64 0, .int .i64 0, .int .i64 0, .int .i64 0, .int .i64 0, .int .i64 0, .int .i64 0, .int .i64 0, .int .i64 0, .int .i64 0] 26)) (W.heap.size + 1) 26 #[.int .i64 0, .int .i64 0, .int .i64 0, .int .i64 0, .int .i64 0, .int .i64 0, .int .i64 0, .int .i64 0, .int .i64 0, .int .i64 0, .int .i64 0, .int .i64 0] := (Blk.new _ _ _ _ (by simp)).alloc _
  have hO : Blk (((W.alloc (.cells (ptsC 16 p) 24)).alloc (.cells #[.int .i64 0, .int .i64 0, .int .i64 0, .int .i64 0, .int .i64 0, .int .i64 0, .int .i64 0, .int .i64 0, .int .i64 0, .int .i64 0, .int .i64 0, .int .i64 0] 26)).alloc (.cells #[.int .i64 0, .int .i64 0, .int .i64 0, .int .i64 0, .int .i64 0, .int .i64 0, .int .i64 0, .int .i64 0, .int .i64 0, .int .i64 0, .int .i64 0, .int .i64 0] 26)) (W.heap.size + 2) 26 (ptsC 4 (rowU p 1 0)) := Blk.new _ _ _ _ (by simp)
  have hB : Below W.heap.size W (((W.alloc (.cells (ptsC 16 p) 24)).alloc (.cells #[.int .i64 0, .int .i64 0, .int .i64 0, .int .i64 0, .int .i64 0, .int .i64 0, .int .i64 0, .int .i64 0, .int .i64 0, .int .i64 0, .int .i64 0, .int .i64 0] 26)).alloc (.cells #[.int .i64 0, .int .i64 0, .int .i64 0, .int .i64 0, .int .i64 0, .int .i64 0, .int .i64 0, .int .i64 0, .int .i64 0, .int .i64 0, .int .i64 0, .int .i64 0] 26)) := bel_alloc (bel_alloc (bel_alloc (Below.refl _ _) _) _) _
  go_enter Try.func16, Try.ntmps16
  go_upto_region 2 with (fail)
  generalize (((W.alloc (.cells (ptsC 16 p) 24)).alloc (.cells #[.int .i64 0, .int .i64 0, .int .i64 0, .int .i64 0, .int .i64 0, .int .i64 0, .int .i64 0, .int .i64 0, .int .i64 0, .int .i64 0, .int .i64 0, .int .i64 0] 26)).alloc (.cells #[.int .i64 0, .int .i64 0, .int .i64 0, .int .i64 0, .int .i64 0, .int .i64 0, .int .i64 0, .int .i64 0, .int .i64 0, .int .i64 0, .int .i64 0, .int .i64 0] 26)) = W1 at *
  go_wp2
  go_loopw [6] (fun iv wr => ∃ k : Nat, rowI iv k ∧ Below W.heap.size W wr ∧ Blk wr W.heap.size 24 (ptsC 16 p) ∧ Blk wr (W.heap.size + 1) 26 #[.int .i64 0, .int .i64 0, .int .i64 0, .int .i64 0, .int .i64 0, .int .i64 0, .int .i64 0, .int .i64 0, .int .i64 0, .int .i64 0, .int .i64 0, .int .i64 0] ∧ Blk wr (W.heap.size + 2) 26 (ptsC 4 (rowU p 1 k))) (fun iv _ => 4 - (intOf iv).toNat)
  case atStart => exact ⟨0, .inl ⟨rfl, rfl⟩, hB, hP, hR, hO⟩
  case round =>
    obtain ⟨k, hi, hBr, hPr, hRr, hOr⟩ := hrel
    clear hB hP hR hO
    have pl := hPr.lt
    have ol := hOr.lt
    rcases hi with ⟨rfl, rfl⟩ | ⟨rfl, rfl⟩ | ⟨rfl, rfl⟩ | ⟨rfl, rfl⟩ | ⟨rfl, rfl⟩
    · obtain ⟨c1, c2, c3⟩ := ptsB hPr (k := 3) (by omega)
      have hOs := ((hOr.set 0 (.int .i64 (p 3).x)).set 1 (.int .i64 (p 3).y)).set 2 (.int .i64 (p 3).z)
      have hPs := ((hPr.far (b := W.heap.size + 2) 0 (.int .i64 (p 3).x) (by omega)).far (b := W.heap.size + 2) 1 (.int .i64 (p 3).y) (by omega)).far (b := W.heap.size + 2) 2 (.int .i64 (p 3).z) (by omega)
      have hRs := ((hRr.far (b := W.heap.size + 2) 0 (.int .i64 (p 3).x) (by omega)).far (b := W.heap.size + 2) 1 (.int .i64 (p 3).y) (by omega)).far (b := W.heap.size + 2) 2 (.int .i64 (p 3).z) (by omega)
      have hBs := (bel_set (bel_set (bel_set hBr (p := ⟨W.heap.size + 2, 0, none⟩) (by simp) (.int .i64 ((p 3).x))) (p := ⟨W.heap.size + 2, 1, none⟩) (by simp) (.int .i64 ((p 3).y))) (p := ⟨W.heap.size + 2, 2, none⟩) (by simp) (.int .i64 ((p 3).z)))
      have x1 : wr.cell? ⟨W.heap.size, 9, none⟩ = some (.int .i64 (p 3).x) := c1
      have x2 : wr.cell? ⟨W.heap.size, 10, none⟩ = some (.int .i64 (p 3).y) := c2
      have x3 : wr.cell? ⟨W.heap.size, 11, none⟩ = some (.int .i64 (p 3).z) := c3
      have hn : ptsC 4 (rowU p 1 1) = _ := (rowU_next p 1 (k := 0) (by omega)).symm
      replace hn := Lib.hid hn
      rw [ptsC4] at hOr
      have o0 := hOr.cell 0
      have o1 := hOr.cell 1
      have o2 := hOr.cell 2
      have g0 := hOr.frozen 0
      have g1 := hOr.frozen 1
      have g2 := hOr.frozen 2
      clear c1 c2 c3 hBr hPr hRr hOr
      replace hOs := Lib.hid hOs
      replace hPs := Lib.hid hPs
      replace hRs := Lib.hid hRs
      replace hBs := Lib.hid hBs
      go_wp2
      go_roundw
      case rel =>
        refine ⟨1, .inr (.inl ⟨rfl, rfl⟩), hBs.out, hPs.out, hRs.out, ?_⟩
        rw [hn.out]
        exact hOs.out
      case measure => simp [intOf]
    · obtain ⟨c1, c2, c3⟩ := ptsB hPr (k := 7) (by omega)
      have hOs := ((hOr.set 3 (.int .i64 (p 7).x)).set 4 (.int .i64 (p 7).y)).set 5 (.int .i64 (p 7).z)
      have hPs := ((hPr.far (b := W.heap.size + 2) 3 (.int .i64 (p 7).x) (by omega)).far (b := W.heap.size + 2) 4 (.int .i64 (p 7).y) (by omega)).far (b := W.heap.size + 2) 5 (.int .i64 (p 7).z) (by omega)
      have hRs := ((hRr.far (b := W.heap.size + 2) 3 (.int .i64 (p 7).x) (by omega)).far (b := W.heap.size + 2) 4 (.int .i64 (p 7).y) (by omega)).far (b := W.heap.size + 2) 5 (.int .i64 (p 7).z) (by omega)
      have hBs := (bel_set (bel_set (bel_set hBr (p := ⟨W.heap.size + 2, 3, none⟩) (by simp) (.int .i64 ((p 7).x))) (p := ⟨W.heap.size + 2, 4, none⟩) (by simp) (.int .i64 ((p 7).y))) (p := ⟨W.heap.size + 2, 5, none⟩) (by simp) (.int .i64 ((p 7).z)))
      have x1 : wr.cell? ⟨W.heap.size, 21, none⟩ = some (.int .i64 (p 7).x) := c1
      have x2 : wr.cell? ⟨W.heap.size, 22, none⟩ = some (.int .i64 (p 7).y) := c2
      have x3 : wr.cell? ⟨W.heap.size, 23, none⟩ = some (.int .i64 (p 7).z) := c3
      have hn : ptsC 4 (rowU p 1 2) = _ := (rowU_next p 1 (k := 1) (by omega)).symm
      replace hn := Lib.hid hn
      rw [ptsC4] at hOr
      have o0 := hOr.cell 3
      have o1 := hOr.cell 4
      have o2 := hOr.cell 5
      have g0 := hOr.frozen 3
      have g1 := hOr.frozen 4
      have g2 := hOr.frozen 5
      clear c1 c2 c3 hBr hPr hRr hOr
      replace hOs := Lib.hid hOs
      replace hPs := Lib.hid hPs
      replace hRs := Lib.hid hRs
      replace hBs := Lib.hid hBs
      go_wp2
      go_roundw
      case rel =>
        refine ⟨2, .inr (.inr (.inl ⟨rfl, rfl⟩)), hBs.out, hPs.out, hRs.out, ?_⟩
        rw [hn.out]
        exact hOs.out
      case measure => simp [intOf]
    · obtain ⟨c1, c2, c3⟩ := ptsB hPr (k := 11) (by omega)
      have hOs := ((hOr.set 6 (.int .i64 (p 11).x)).set 7 (.int .i64 (p 11).y)).set 8 (.int .i64 (p 11).z)
      have hPs := ((hPr.far (b := W.heap.size + 2) 6 (.int .i64 (p 11).x) (by omega)).far (b := W.heap.size + 2) 7 (.int .i64 (p 11).y) (by omega)).far (b := W.heap.size + 2) 8 (.int .i64 (p 11).z) (by omega)
      have hRs := ((hRr.far (b := W.heap.size + 2) 6 (.int .i64 (p 11).x) (by omega)).far (b := W.heap.size + 2) 7 (.int .i64 (p 11).y) (by omega)).far (b := W.heap.size + 2) 8 (.int .i64 (p 11).z) (by omega)
      have hBs := (bel_set (bel_set (bel_set hBr (p := ⟨W.heap.size + 2, 6, none⟩) (by simp) (.int .i64 ((p 11).x))) (p := ⟨W.heap.size + 2, 7, none⟩) (by simp) (.int .i64 ((p 11).y))) (p := ⟨W.heap.size + 2, 8, none⟩) (by simp) (.int .i64 ((p 11).z)))
      have x1 : wr.cell? ⟨W.heap.size, 33, none⟩ = some (.int .i64 (p 11).x) := c1
      have x2 : wr.cell? ⟨W.heap.size, 34, none⟩ = some (.int .i64 (p 11).y) := c2
      have x3 : wr.cell? ⟨W.heap.size, 35, none⟩ = some (.int .i64 (p 11).z) := c3
      have hn : ptsC 4 (rowU p 1 3) = _ := (rowU_next p 1 (k := 2) (by omega)).symm
      replace hn := Lib.hid hn
      rw [ptsC4] at hOr
      have o0 := hOr.cell 6
      have o1 := hOr.cell 7
      have o2 := hOr.cell 8
      have g0 := hOr.frozen 6
      have g1 := hOr.frozen 7
      have g2 := hOr.frozen 8
      clear c1 c2 c3 hBr hPr hRr hOr
      replace hOs := Lib.hid hOs
      replace hPs := Lib.hid hPs
      replace hRs := Lib.hid hRs
      replace hBs := Lib.hid hBs
      go_wp2
      go_roundw
      case rel =>
        refine ⟨3, .inr (.inr (.inr (.inl ⟨rfl, rfl⟩))), hBs.out, hPs.out, hRs.out, ?_⟩
        rw [hn.out]
        exact hOs.out
      case measure => simp [intOf]
    · obtain ⟨c1, c2, c3⟩ := ptsB hPr (k := 15) (by omega)
      have hOs := ((hOr.set 9 (.int .i64 (p 15).x)).set 10 (.int .i64 (p 15).y)).set 11 (.int .i64 (p 15).z)
      have hPs := ((hPr.far (b := W.heap.size + 2) 9 (.int .i64 (p 15).x) (by omega)).far (b := W.heap.size + 2) 10 (.int .i64 (p 15).y) (by omega)).far (b := W.heap.size + 2) 11 (.int .i64 (p 15).z) (by omega)
      have hRs := ((hRr.far (b := W.heap.size + 2) 9 (.int .i64 (p 15).x) (by omega)).far (b := W.heap.size + 2) 10 (.int .i64 (p 15).y) (by omega)).far (b := W.heap.size + 2) 11 (.int .i64 (p 15).z) (by omega)
      have hBs := (bel_set (bel_set (bel_set hBr (p := ⟨W.heap.size + 2, 9, none⟩) (by simp) (.int .i64 ((p 15).x))) (p := ⟨W.heap.size + 2, 10, none⟩) (by simp) (.int .i64 ((p 15).y))) (p := ⟨W.heap.size + 2, 11, none⟩) (by simp) (.int .i64 ((p 15).z)))
      have x1 : wr.cell? ⟨W.heap.size, 45, none⟩ = some (.int .i64 (p 15).x) := c1
      have x2 : wr.cell? ⟨W.heap.size, 46, none⟩ = some (.int .i64 (p 15).y) := c2
      have x3 : wr.cell? ⟨W.heap.size, 47, none⟩ = some (.int .i64 (p 15).z) := c3
      have hn : ptsC 4 (rowU p 1 4) = _ := (rowU_next p 1 (k := 3) (by omega)).symm
      replace hn := Lib.hid hn
      rw [ptsC4] at hOr
      have o0 := hOr.cell 9
      have o1 := hOr.cell 10
      have o2 := hOr.cell 11
      have g0 := hOr.frozen 9
      have g1 := hOr.frozen 10
      have g2 := hOr.frozen 11
      clear c1 c2 c3 hBr hPr hRr hOr
      replace hOs := Lib.hid hOs
      replace hPs := Lib.hid hPs
      replace hRs := Lib.hid hRs
      replace hBs := Lib.hid hBs
      go_wp2
      go_roundw
      case rel =>
        refine ⟨4, .inr (.inr (.inr (.inr ⟨rfl, rfl⟩))), hBs.out, hPs.out, hRs.out, ?_⟩
        rw [hn.out]
        exact hOs.out
      case measure => simp [intOf]
    · rw [rowU_end, ptsC4] at hOr
      replace hPr := Lib.hid hPr
      replace hRr := Lib.hid hRr
      replace hBr := Lib.hid hBr
      replace hOr := Lib.hid hOr
      go_upto_region 14 with (fail)
      replace hRr := hRr.out
      replace hBr := hBr.out
      replace hOr := hOr.out
      have r0 := hRr.cell 0
      have f0 := hRr.frozen 0
      have o0 := hOr.cell 0
      have r1 := hRr.cell 1
      have f1 := hRr.frozen 1
      have o1 := hOr.cell 1
      have r2 := hRr.cell 2
      have f2 := hRr.frozen 2
      have o2 := hOr.cell 2
      have r3 := hRr.cell 3
      have f3 := hRr.frozen 3
      have o3 := hOr.cell 3
      have r4 := hRr.cell 4
      have f4 := hRr.frozen 4
      have o4 := hOr.cell 4
      have r5 := hRr.cell 5
      have f5 := hRr.frozen 5
      have o5 := hOr.cell 5
      have r6 := hRr.cell 6
      have f6 := hRr.frozen 6
      have o6 := hOr.cell 6
      have r7 := hRr.cell 7
      have f7 := hRr.frozen 7
      have o7 := hOr.cell 7
      have r8 := hRr.cell 8
      have f8 := hRr.frozen 8
      have o8 := hOr.cell 8
      have r9 := hRr.cell 9
      have f9 := hRr.frozen 9
      have o9 := hOr.cell 9
      have r10 := hRr.cell 10
      have f10 := hRr.frozen 10
      have o10 := hOr.cell 10
      have r11 := hRr.cell 11
      have f11 := hRr.frozen 11
      have o11 := hOr.cell 11
      have rl := hRr.lt
      have hR2 := ((((((((((((hRr.set 0 (.int .i64 ((rowF p 1 0).x))).set 1 (.int .i64 ((rowF p 1 0).y))).set 2 (.int .i64 ((rowF p 1 0).z))).set 3 (.int .i64 ((rowF p 1 1).x))).set 4 (.int .i64 ((rowF p 1 1).y))).set 5 (.int .i64 ((rowF p 1 1).z))).set 6 (.int .i64 ((rowF p 1 2).x))).set 7 (.int .i64 ((rowF p 1 2).y))).set 8 (.int .i64 ((rowF p 1 2).z))).set 9 (.int .i64 ((rowF p 1 3).x))).set 10 (.int .i64 ((rowF p 1 3).y))).set 11 (.int .i64 ((rowF p 1 3).z)))
      have hB2 : Below W.heap.size W ((((((((((((wr.setCell ⟨W.heap.size + 1, 0, none⟩ (.int .i64 ((rowF p 1 0).x))).setCell ⟨W.heap.size + 1, 1, none⟩ (.int .i64 ((rowF p 1 0).y))).setCell ⟨W.heap.size + 1, 2, none⟩ (.int .i64 ((rowF p 1 0).z))).setCell ⟨W.heap.size + 1, 3, none⟩ (.int .i64 ((rowF p 1 1).x))).setCell ⟨W.heap.size + 1, 4, none⟩ (.int .i64 ((rowF p 1 1).y))).setCell ⟨W.heap.size + 1, 5, none⟩ (.int .i64 ((rowF p 1 1).z))).setCell ⟨W.heap.size + 1, 6, none⟩ (.int .i64 ((rowF p 1 2).x))).setCell ⟨W.heap.size + 1, 7, none⟩ (.int .i64 ((rowF p 1 2).y))).setCell ⟨W.heap.size + 1, 8, none⟩ (.int .i64 ((rowF p 1 2).z))).setCell ⟨W.heap.size + 1, 9, none⟩ (.int .i64 ((rowF p 1 3).x))).setCell ⟨W.heap.size + 1, 10, none⟩ (.int .i64 ((rowF p 1 3).y))).setCell ⟨W.heap.size + 1, 11, none⟩ (.int .i64 ((rowF p 1 3).z))) := (bel_set (bel_set (bel_set (bel_set (bel_set (bel_set (bel_set (bel_set (bel_set (bel_set (bel_set (bel_set hBr (p := ⟨W.heap.size + 1, 0, none⟩) (by simp) (.int .i64 ((rowF p 1 0).x))) (p := ⟨W.heap.size + 1, 1, none⟩) (by simp) (.int .i64 ((rowF p 1 0).y))) (p := ⟨W.heap.size + 1, 2, none⟩) (by simp) (.int .i64 ((rowF p 1 0).z))) (p := ⟨W.heap.size + 1, 3, none⟩) (by simp) (.int .i64 ((rowF p 1 1).x))) (p := ⟨W.heap.size + 1, 4, none⟩) (by simp) (.int .i64 ((rowF p 1 1).y))) (p := ⟨W.heap.size + 1, 5, none⟩) (by simp) (.int .i64 ((rowF p 1 1).z))) (p := ⟨W.heap.size + 1, 6, none⟩) (by simp) (.int .i64 ((rowF p 1 2).x))) (p := ⟨W.heap.size + 1, 7, none⟩) (by simp) (.int .i64 ((rowF p 1 2).y))) (p := ⟨W.heap.size + 1, 8, none⟩) (by simp) (.int .i64 ((rowF p 1 2).z))) (p := ⟨W.heap.size + 1, 9, none⟩) (by simp) (.int .i64 ((rowF p 1 3).x))) (p := ⟨W.heap.size + 1, 10, none⟩) (by simp) (.int .i64 ((rowF p 1 3).y))) (p := ⟨W.heap.size + 1, 11, none⟩) (by simp) (.int .i64 ((rowF p 1 3).z)))
      clear hPr hRr hBr hOr
      replace hR2 := Lib.hid hR2
      replace hB2 := Lib.hid hB2
      go_wp2
      replace hR2 := hR2.out
      replace hB2 := hB2.out
      generalize ((((((((((((wr.setCell ⟨W.heap.size + 1, 0, none⟩ (.int .i64 ((rowF p 1 0).x))).setCell ⟨W.heap.size + 1, 1, none⟩ (.int .i64 ((rowF p 1 0).y))).setCell ⟨W.heap.size + 1, 2, none⟩ (.int .i64 ((rowF p 1 0).z))).setCell ⟨W.heap.size + 1, 3, none⟩ (.int .i64 ((rowF p 1 1).x))).setCell ⟨W.heap.size + 1, 4, none⟩ (.int .i64 ((rowF p 1 1).y))).setCell ⟨W.heap.size + 1, 5, none⟩ (.int .i64 ((rowF p 1 1).z))).setCell ⟨W.heap.size + 1, 6, none⟩ (.int .i64 ((rowF p 1 2).x))).setCell ⟨W.heap.size + 1, 7, none⟩ (.int .i64 ((rowF p 1 2).y))).setCell ⟨W.heap.size + 1, 8, none⟩ (.int .i64 ((rowF p 1 2).z))).setCell ⟨W.heap.size + 1, 9, none⟩ (.int .i64 ((rowF p 1 3).x))).setCell ⟨W.heap.size + 1, 10, none⟩ (.int .i64 ((rowF p 1 3).y))).setCell ⟨W.heap.size + 1, 11, none⟩ (.int .i64 ((rowF p 1 3).z))) = WE at *
      have w0 := hR2.cell
      refine bodyPost_ret (v := .agg #[.int .i64 ((rowF p 1 0).x), .int .i64 ((rowF p 1 0).y), .int .i64 ((rowF p 1 0).z), .int .i64 ((rowF p 1 1).x), .int .i64 ((rowF p 1 1).y), .int .i64 ((rowF p 1 1).z), .int .i64 ((rowF p 1 2).x), .int .i64 ((rowF p 1 2).y), .int .i64 ((rowF p 1 2).z), .int .i64 ((rowF p 1 3).x), .int .i64 ((rowF p 1 3).y), .int .i64 ((rowF p 1 3).z)]) (by simp [results, Try.results16, go_sem, w0]) rfl ⟨rfl, hB2⟩
set_option maxHeartbeats 8000000 in
theorem rRow2 (p : Nat → P3)  : Gives Try.prog 16 #[.agg (ptsC 16 p), .int .i64 (2)] (.agg (ptsC 4 (rowF p 2))) := by
  have wr0 : wrap64 0 = 0 := wrap_id (by omega) (by omega)
  have wr3 : wrap64 3 = 3 := wrap_id (by omega) (by omega)
  have wr4 : wrap64 4 = 4 := wrap_id (by omega) (by omega)
  have wr7 : wrap64 7 = 7 := wrap_id (by omega) (by omega)
  have wr8 : wrap64 8 = 8 := wrap_id (by omega) (by omega)
  have wr11 : wrap64 11 = 11 := wrap_id (by omega) (by omega)
  have wr12 : wrap64 12 = 12 := wrap_id (by omega) (by omega)
  have wr13 : wrap64 13 = 13 := wrap_id (by omega) (by omega)
  have wr14 : wrap64 14 = 14 := wrap_id (by omega) (by omega)
  have wr15 : wrap64 15 = 15 := wrap_id (by omega) (by omega)
  have wr1 : wrap64 1 = 1 := wrap_id (by omega) (by omega)
  have wr2 : wrap64 2 = 2 := wrap_id (by omega) (by omega)
  rw [ptsC4]
  refine Gives.mk fun W => ?_
  have hP : Blk (((W.alloc (.cells (ptsC 16 p) 24)).alloc (.cells #[.int .i64 0, .int .i64 0, .int .i64 0, .int .i64 0, .int .i64 0, .int .i64 0, .int .i64 0, .int .i64 0, .int .i64 0, .int .i64 0, .int .i64 0, .int .i64 0] 26)).alloc (.cells #[.int .i64 0, .int .i64 0, .int .i64 0, .int .i64 0, .int .i64 0, .int .i64 0, .int .i64 0, .int .i64 0, .int .i64 0, .int .i64 0, .int .i64 0, .int .i64 0] 26)) W.heap.size 24 (ptsC 16 p) := ((Blk.new _ _ _ _ rfl).alloc _).alloc _
  have hR : Blk (((W.alloc (.cells (ptsC 16 p) 24)).alloc (.cells #[.int .i64 0, .int .i64 0, .int .i64 0, .int .i64 0, .int .i64 0, .int .i64 0, .int .i64 0, .int .i64 0, .int .i64 0, .int .i64 0, .int .i64 0, .int .i64 0] 26)).alloc (.cells #[.int .i64 0, .int .i64 0, .int .i64 0, .int .i64 0, .int .i64 0, .int .i64 0, .int .i64 0, .int .i64 0, .int .i64 0, .int .i64 0, .int .i64 0, .int .i64 0] 26)) (W.heap.size + 1) 26 #[.int .i64 0, .int .i64 0, .int .i64 0, .int .i64 0, .int .i64 0, .int .i64 0, .int .i64 0, .int .i64 0, .int .i64 0, .int .i64 0, .int .i64 0, .int .i64 0] := (Blk.new _ _ _ _ (by simp)).alloc _
  have hO : Blk (((W.alloc (.cells (ptsC 16 p) 24)).alloc (.cells #[.int .i64 0, .int .i64 0, .int .i64 0, .int .i64 0, .int .i64 0, .int .i64 0, .int .i64 0, .int .i64 0, .int .i64 0, .int .i64 0, .int .i64 0, .int .i64 0] 26)).alloc (.cells #[.int .i64 0, .int .i64 0, .int .i64 0, .int .i64 0, .int .i64 0, .int .i64 0, .int .i64 0, .int .i64 0, .int .i64 0, .int .i64 0, .int .i64 0, .int .i64 0] 26)) (W.heap.size + 2) 26 (ptsC 4 (rowU p 2 0)) := Blk.new _ _ _ _ (by simp)
  have hB : Below W.heap.size W (((W.alloc (.cells (ptsC 16 p) 24)).alloc (.cells #[.int .i64 0, .int .i64 0, .int .i64 0, .int .i64 0, .int .i64 0, .int .i64 0, .int .i64 0, .int .i64 0, .int .i64 0, .int .i64 0, .int .i64 0, .int .i64 0] 26)).alloc (.cells #[.int .i64 0, .int .i64 0, .int .i64 0, .int .i64 0, .int .i64 0, .int .i64 0, .int .i64 0, .int .i64 0, .int .i64 0, .int .i64 0, .int .i64 0, .int .i64 0] 26)) := bel_alloc (bel_alloc (bel_alloc (Below.refl _ _) _) _) _
  go_enter Try.func16, Try.ntmps16
  go_upto_region 2 with (fail)
  generalize (((W.alloc (.cells (ptsC 16 p) 24)).alloc (.cells #[.int .i64 0, .int .i64 0, .int .i64 0, .int .i64 0, .int .i64 0, .int .i64 0, .int .i64 0, .int .i64 0, .int .i64 0, .int .i64 0, .int .i64 0, .int .i64 0] 26)).alloc (.cells #[.int .i64 0, .int .i64 0, .int .i64 0, .int .i64 0, .int .i64 0, .int .i64 0, .int .i64 0, .int .i64 0, .int .i64 0, .int .i64 0, .int .i64 0, .int .i64 0] 26)) = W1 at *
  go_wp2
  go_loopw [6] (fun iv wr => ∃ k : Nat, rowI iv k ∧ Below W.heap.size W wr ∧ Blk wr W.heap.size 24 (ptsC 16 p) ∧ Blk wr (W.heap.size + 1) 26 #[.int .i64 0, .int .i64 0, .int .i64 0, .int .i64 0, .int .i64 0, .int .i64 0, .int .i64 0, .int .i64 0, .int .i64 0, .int .i64 0, .int .i64 0, .int .i64 0] ∧ Blk wr (W.heap.size + 2) 26 (ptsC 4 (rowU p 2 k))) (fun iv _ => 4 - (intOf iv).toNat)
  case atStart => exact ⟨0, .inl ⟨rfl, rfl⟩, hB, hP, hR, hO⟩
  case round =>
    obtain ⟨k, hi, hBr, hPr, hRr, hOr⟩ := hrel
    clear hB hP hR hO
    have pl := hPr.lt
    have ol := hOr.lt
    rcases hi with ⟨rfl, rfl⟩ | ⟨rfl, rfl⟩ | ⟨rfl, rfl⟩ | ⟨rfl, rfl⟩ | ⟨rfl, rfl⟩
    · obtain ⟨c1, c2, c3⟩ := ptsB hPr (k := 15) (by omega)
      have hOs := ((hOr.set 0 (.int .i64 (p 15).x)).set 1 (.int .i64 (p 15).y)).set 2 (.int .i64 (p 15).z)
      have hPs := ((hPr.far (b := W.heap.size + 2) 0 (.int .i64 (p 15).x) (by omega)).far (b := W.heap.size + 2) 1 (.int .i64 (p 15).y) (by omega)).far (b := W.heap.size + 2) 2 (.int .i64 (p 15).z) (by omega)
      have hRs := ((hRr.far (b := W.heap.size + 2) 0 (.int .i64 (p 15).x) (by omega)).far (b := W.heap.size + 2) 1 (.int .i64 (p 15).y) (by omega)).far (b := W.heap.size + 2) 2 (.int .i64 (p 15).z) (by omega)
      have hBs := (bel_set (bel_set (bel_set hBr (p := ⟨W.heap.size + 2, 0, none⟩) (by simp) (.int .i64 ((p 15).x))) (p := ⟨W.heap.size + 2, 1, none⟩) (by simp) (.int .i64 ((p 15).y))) (p := ⟨W.heap.size + 2, 2, none⟩) (by simp) (.int .i64 ((p 15).z)))
      have x1 : wr.cell? ⟨W.heap.size, 45, none⟩ = some (.int .i64 (p 15).x) := c1
      have x2 : wr.cell? ⟨W.heap.size, 46, none⟩ = some (.int .i64 (p 15).y) := c2
      have x3 : wr.cell? ⟨W.heap.size, 47, none⟩ = some (.int .i64 (p 15).z) := c3
      have hn : ptsC 4 (rowU p 2 1) = _ := (rowU_next p 2 (k := 0) (by omega)).symm
      replace hn := Lib.hid hn
      rw [ptsC4] at hOr
      have o0 := hOr.cell 0
      have o1 := hOr.cell 1
      have o2 := hOr.cell 2
      have g0 := hOr.frozen 0
      have g1 := hOr.frozen 1
      have g2 := hOr.frozen 2
      clear c1 c2 c3 hBr hPr hRr hOr
      replace hOs := Lib.hid hOs
      replace hPs := Lib.hid hPs
      replace hRs := Lib.hid hRs
      replace hBs := Lib.hid hBs
      go_wp2
      go_roundw
      case rel =>
        refine ⟨1, .inr (.inl ⟨rfl, rfl⟩), hBs.out, hPs.out, hRs.out, ?_⟩
        rw [hn.out]
        exact hOs.out
      case measure => simp [intOf]
    · obtain ⟨c1, c2, c3⟩ := ptsB hPr (k := 14) (by omega)
      have hOs := ((hOr.set 3 (.int .i64 (p 14).x)).set 4 (.int .i64 (p 14).y)).set 5 (.int .i64 (p 14).z)
      have hPs := ((hPr.far (b := W.heap.size + 2) 3 (.int .i64 (p 14).x) (by omega)).far (b := W.heap.size + 2) 4 (.int .i64 (p 14).y) (by omega)).far (b := W.heap.size + 2) 5 (.int .i64 (p 14).z) (by omega)
      have hRs := ((hRr.far (b := W.heap.size + 2) 3 (.int .i64 (p 14).x) (by omega)).far (b := W.heap.size + 2) 4 (.int .i64 (p 14).y) (by omega)).far (b := W.heap.size + 2) 5 (.int .i64 (p 14).z) (by omega)
      have hBs := (bel_set (bel_set (bel_set hBr (p := ⟨W.heap.size + 2, 3, none⟩) (by simp) (.int .i64 ((p 14).x))) (p := ⟨W.heap.size + 2, 4, none⟩) (by simp) (.int .i64 ((p 14).y))) (p := ⟨W.heap.size + 2, 5, none⟩) (by simp) (.int .i64 ((p 14).z)))
      have x1 : wr.cell? ⟨W.heap.size, 42, none⟩ = some (.int .i64 (p 14).x) := c1
      have x2 : wr.cell? ⟨W.heap.size, 43, none⟩ = some (.int .i64 (p 14).y) := c2
      have x3 : wr.cell? ⟨W.heap.size, 44, none⟩ = some (.int .i64 (p 14).z) := c3
      have hn : ptsC 4 (rowU p 2 2) = _ := (rowU_next p 2 (k := 1) (by omega)).symm
      replace hn := Lib.hid hn
      rw [ptsC4] at hOr
      have o0 := hOr.cell 3
      have o1 := hOr.cell 4
      have o2 := hOr.cell 5
      have g0 := hOr.frozen 3
      have g1 := hOr.frozen 4
      have g2 := hOr.frozen 5
      clear c1 c2 c3 hBr hPr hRr hOr
      replace hOs := Lib.hid hOs
      replace hPs := Lib.hid hPs
      replace hRs := Lib.hid hRs
      replace hBs := Lib.hid hBs
      go_wp2
      go_roundw
      case rel =>
        refine ⟨2, .inr (.inr (.inl ⟨rfl, rfl⟩)), hBs.out, hPs.out, hRs.out, ?_⟩
        rw [hn.out]
        exact hOs.out
      case measure => simp [intOf]
    · obtain ⟨c1, c2, c3⟩ := ptsB hPr (k := 13) (by omega)
      have hOs := ((hOr.set 6 (.int .i64 (p 13).x)).set 7 (.int .i64 (p 13).y)).set 8 (.int .i64 (p 13).z)
      have hPs := ((hPr.far (b := W.heap.size + 2) 6 (.int .i64 (p 13).x) (by omega)).far (b := W.heap.size + 2) 7 (.int .i64 (p 13).y) (by omega)).far (b := W.heap.size + 2) 8 (.int .i64 (p 13).z) (by omega)
      have hRs := ((hRr.far (b := W.heap.size + 2) 6 (.int .i64 (p 13).x) (by omega)).far (b := W.heap.size + 2) 7 (.int .i64 (p 13).y) (by omega)).far (b := W.heap.size + 2) 8 (.int .i64 (p 13).z) (by omega)
      have hBs := (bel_set (bel_set (bel_set hBr (p := ⟨W.heap.size + 2, 6, none⟩) (by simp) (.int .i64 ((p 13).x))) (p := ⟨W.heap.size + 2, 7, none⟩) (by simp) (.int .i64 ((p 13).y))) (p := ⟨W.heap.size + 2, 8, none⟩) (by simp) (.int .i64 ((p 13).z)))
      have x1 : wr.cell? ⟨W.heap.size, 39, none⟩ = some (.int .i64 (p 13).x) := c1
      have x2 : wr.cell? ⟨W.heap.size, 40, none⟩ = some (.int .i64 (p 13).y) := c2
      have x3 : wr.cell? ⟨W.heap.size, 41, none⟩ = some (.int .i64 (p 13).z) := c3
      have hn : ptsC 4 (rowU p 2 3) = _ := (rowU_next p 2 (k := 2) (by omega)).symm
      replace hn := Lib.hid hn
      rw [ptsC4] at hOr
      have o0 := hOr.cell 6
      have o1 := hOr.cell 7
      have o2 := hOr.cell 8
      have g0 := hOr.frozen 6
      have g1 := hOr.frozen 7
      have g2 := hOr.frozen 8
      clear c1 c2 c3 hBr hPr hRr hOr
      replace hOs := Lib.hid hOs
      replace hPs := Lib.hid hPs
      replace hRs := Lib.hid hRs
      replace hBs := Lib.hid hBs
      go_wp2
      go_roundw
      case rel =>
        refine ⟨3, .inr (.inr (.inr (.inl ⟨rfl, rfl⟩))), hBs.out, hPs.out, hRs.out, ?_⟩
        rw [hn.out]
        exact hOs.out
      case measure => simp [intOf]
    · obtain ⟨c1, c2, c3⟩ := ptsB hPr (k := 12) (by omega)
      have hOs := ((hOr.set 9 (.int .i64 (p 12).x)).set 10 (.int .i64 (p 12).y)).set 11 (.int .i64 (p 12).z)
      have hPs := ((hPr.far (b := W.heap.size + 2) 9 (.int .i64 (p 12).x) (by omega)).far (b := W.heap.size + 2) 10 (.int .i64 (p 12).y) (by omega)).far (b := W.heap.size + 2) 11 (.int .i64 (p 12).z) (by omega)
      have hRs := ((hRr.far (b := W.heap.size + 2) 9 (.int .i64 (p 12).x) (by omega)).far (b := W.heap.size + 2) 10 (.int .i64 (p 12).y) (by omega)).far (b := W.heap.size + 2) 11 (.int .i64 (p 12).z) (by omega)
      have hBs := (bel_set (bel_set (bel_set hBr (p := ⟨W.heap.size + 2, 9, none⟩) (by simp) (.int .i64 ((p 12).x))) (p := ⟨W.heap.size + 2, 10, none⟩) (by simp) (.int .i64 ((p 12).y))) (p := ⟨W.heap.size + 2, 11, none⟩) (by simp) (.int .i64 ((p 12).z)))
      have x1 : wr.cell? ⟨W.heap.size, 36, none⟩ = some (.int .i64 (p 12).x) := c1
      have x2 : wr.cell? ⟨W.heap.size, 37, none⟩ = some (.int .i64 (p 12).y) := c2
      have x3 : wr.cell? ⟨W.heap.size, 38, none⟩ = some (.int .i64 (p 12).z) := c3
      have hn : ptsC 4 (rowU p 2 4) = _ := (rowU_next p 2 (k := 3) (by omega)).symm
      replace hn := Lib.hid hn
      rw [ptsC4] at hOr
      have o0 := hOr.cell 9
      have o1 := hOr.cell 10
      have o2 := hOr.cell 11
      have g0 := hOr.frozen 9
      have g1 := hOr.frozen 10
      have g2 := hOr.frozen 11
      clear c1 c2 c3 hBr hPr hRr hOr
      replace hOs := Lib.hid hOs
      replace hPs := Lib.hid hPs
      replace hRs := Lib.hid hRs
      replace hBs := Lib.hid hBs
      go_wp2
      go_roundw
      case rel =>
        refine ⟨4, .inr (.inr (.inr (.inr ⟨rfl, rfl⟩))), hBs.out, hPs.out, hRs.out, ?_⟩
        rw [hn.out]
        exact hOs.out
      case measure => simp [intOf]
    · rw [rowU_end, ptsC4] at hOr
      replace hPr := Lib.hid hPr
      replace hRr := Lib.hid hRr
      replace hBr := Lib.hid hBr
      replace hOr := Lib.hid hOr
      go_upto_region 14 with (fail)
      replace hRr := hRr.out
      replace hBr := hBr.out
      replace hOr := hOr.out
      have r0 := hRr.cell 0
      have f0 := hRr.frozen 0
      have o0 := hOr.cell 0
      have r1 := hRr.cell 1
      have f1 := hRr.frozen 1
      have o1 := hOr.cell 1
      have r2 := hRr.cell 2
      have f2 := hRr.frozen 2
      have o2 := hOr.cell 2
      have r3 := hRr.cell 3
      have f3 := hRr.frozen 3
      have o3 := hOr.cell 3
      have r4 := hRr.cell 4
      have f4 := hRr.frozen 4
      have o4 := hOr.cell 4
      have r5 := hRr.cell 5
      have f5 := hRr.frozen 5
      have o5 := hOr.cell 5
      have r6 := hRr.cell 6
      have f6 := hRr.frozen 6
      have o6 := hOr.cell 6
      have r7 := hRr.cell 7
      have f7 := hRr.frozen 7
      have o7 := hOr.cell 7
      have r8 := hRr.cell 8
      have f8 := hRr.frozen 8
      have o8 := hOr.cell 8
      have r9 := hRr.cell 9
      have f9 := hRr.frozen 9
      have o9 := hOr.cell 9
      have r10 := hRr.cell 10
      have f10 := hRr.frozen 10
      have o10 := hOr.cell 10
      have r11 := hRr.cell 11
      have f11 := hRr.frozen 11
      have o11 := hOr.cell 11
      have rl := hRr.lt
      have hR2 := ((((((((((((hRr.set 0 (.int .i64 ((rowF p 2 0).x))).set 1 (.int .i64 ((rowF p 2 0).y))).set 2 (.int .i64 ((rowF p 2 0).z))).set 3 (.int .i64 ((rowF p 2 1).x))).set 4 (.int .i64 ((rowF p 2 1).y))).set 5 (.int .i64 ((rowF p 2 1).z))).set 6 (.int .i64 ((rowF p 2 2).x))).set 7 (.int .i64 ((rowF p 2 2).y))).set 8 (.int .i64 ((rowF p 2 2).z))).set 9 (.int .i64 ((rowF p 2 3).x))).set 10 (.int .i64 ((rowF p 2 3).y))).set 11 (.int .i64 ((rowF p 2 3).z)))
      have hB2 : Below W.heap.size W ((((((((((((wr.setCell ⟨W.heap.size + 1, 0, none⟩ (.int .i64 ((rowF p 2 0).x))).setCell ⟨W.heap.size + 1, 1, none⟩ (.int .i64 ((rowF p 2 0).y))).setCell ⟨W.heap.size + 1, 2, none⟩ (.int .i64 ((rowF p 2 0).z))).setCell ⟨W.heap.size + 1, 3, none⟩ (.int .i64 ((rowF p 2 1).x))).setCell ⟨W.heap.size + 1, 4, none⟩ (.int .i64 ((rowF p 2 1).y))).setCell ⟨W.heap.size + 1, 5, none⟩ (.int .i64 ((rowF p 2 1).z))).setCell ⟨W.heap.size + 1, 6, none⟩ (.int .i64 ((rowF p 2 2).x))).setCell ⟨W.heap.size + 1, 7, none⟩ (.int .i64 ((rowF p 2 2).y))).setCell ⟨W.heap.size + 1, 8, none⟩ (.int .i64 ((rowF p 2 2).z))).setCell ⟨W.heap.size + 1, 9, none⟩ (.int .i64 ((rowF p 2 3).x))).setCell ⟨W.heap.size + 1, 10, none⟩ (.int .i64 ((rowF p 2 3).y))).setCell ⟨W.heap.size + 1, 11, none⟩ (.int .i64 ((rowF p 2 3).z))) := (bel_set (bel_set (bel_set (bel_set (bel_set (bel_set (bel_set (bel_set (bel_set (bel_set (bel_set (bel_set hBr (p := ⟨W.heap.size + 1, 0, none⟩) (by simp) (.int .i64 ((rowF p 2 0).x))) (p := ⟨W.heap.size + 1, 1, none⟩) (by simp) (.int .i64 ((rowF p 2 0).y))) (p := ⟨W.heap.size + 1, 2, none⟩) (by simp) (.int .i64 ((rowF p 2 0).z))) (p := ⟨W.heap.size + 1, 3, none⟩) (by simp) (.int .i64 ((rowF p 2 1).x))) (p := ⟨W.heap.size + 1, 4, none⟩) (by simp) (.int .i64 ((rowF p 2 1).y))) (p := ⟨W.heap.size + 1, 5, none⟩) (by simp) (.int .i64 ((rowF p 2 1).z))) (p := ⟨W.heap.size + 1, 6, none⟩) (by simp) (.int .i64 ((rowF p 2 2).x))) (p := ⟨W.heap.size + 1, 7, none⟩) (by simp) (.int .i64 ((rowF p 2 2).y))) (p := ⟨W.heap.size + 1, 8, none⟩) (by simp) (.int .i64 ((rowF p 2 2).z))) (p := ⟨W.heap.size + 1, 9, none⟩) (by simp) (.int .i64 ((rowF p 2 3).x))) (p := ⟨W.heap.size + 1, 10, none⟩) (by simp) (.int .i64 ((rowF p 2 3).y))) (p := ⟨W.heap.size + 1, 11, none⟩) (by simp) (.int .i64 ((rowF p 2 3).z)))
      clear hPr hRr hBr hOr
      replace hR2 := Lib.hid hR2
      replace hB2 := Lib.hid hB2
      go_wp2
      replace hR2 := hR2.out
      replace hB2 := hB2.out
      generalize ((((((((((((wr.setCell ⟨W.heap.size + 1, 0, none⟩ (.int .i64 ((rowF p 2 0).x))).setCell ⟨W.heap.size + 1, 1, none⟩ (.int .i64 ((rowF p 2 0).y))).setCell ⟨W.heap.size + 1, 2, none⟩ (.int .i64 ((rowF p 2 0).z))).setCell ⟨W.heap.size + 1, 3, none⟩ (.int .i64 ((rowF p 2 1).x))).setCell ⟨W.heap.size + 1, 4, none⟩ (.int .i64 ((rowF p 2 1).y))).setCell ⟨W.heap.size + 1, 5, none⟩ (.int .i64 ((rowF p 2 1).z))).setCell ⟨W.heap.size + 1, 6, none⟩ (.int .i64 ((rowF p 2 2).x))).setCell ⟨W.heap.size + 1, 7, none⟩ (.int .i64 ((rowF p 2 2).y))).setCell ⟨W.heap.size + 1, 8, none⟩ (.int .i64 ((rowF p 2 2).z))).setCell ⟨W.heap.size + 1, 9, none⟩ (.int .i64 ((rowF p 2 3).x))).setCell ⟨W.heap.size + 1, 10, none⟩ (.int .i64 ((rowF p 2 3).y))).setCell ⟨W.heap.size + 1, 11, none⟩ (.int .i64 ((rowF p 2 3).z))) = WE at *
      have w0 := hR2.cell
      refine bodyPost_ret (v := .agg #[.int .i64 ((rowF p 2 0).x), .int .i64 ((rowF p 2 0).y), .int .i64 ((rowF p 2 0).z), .int .i64 ((rowF p 2 1).x), .int .i64 ((rowF p 2 1).y), .int .i64 ((rowF p 2 1).z), .int .i64 ((rowF p 2 2).x), .int .i64 ((rowF p 2 2).y), .int .i64 ((rowF p 2 2).z), .int .i64 ((rowF p 2 3).x), .int .i64 ((rowF p 2 3).y), .int .i64 ((rowF p 2 3).z)]) (by simp [results, Try.results16, go_sem, w0]) rfl ⟨rfl, hB2⟩
set_option maxHeartbeats 8000000 in
theorem rRow3 (p : Nat → P3)  : Gives Try.prog 16 #[.agg (ptsC 16 p), .int .i64 (3)] (.agg (ptsC 4 (rowF p 3))) := by
  have wr0 : wrap64 0 = 0 := wrap_id (by omega) (by omega)
  have wr3 : wrap64 3 = 3 := wrap_id (by omega) (by omega)
  have wr4 : wrap64 4 = 4 := wrap_id (by omega) (by omega)
  have wr7 : wrap64 7 = 7 := wrap_id (by omega) (by omega)
  have wr8 : wrap64 8 = 8 := wrap_id (by omega) (by omega)
  have wr11 : wrap64 11 = 11 := wrap_id (by omega) (by omega)
  have wr12 : wrap64 12 = 12 := wrap_id (by omega) (by omega)
  have wr13 : wrap64 13 = 13 := wrap_id (by omega) (by omega)
  have wr14 : wrap64 14 = 14 := wrap_id (by omega) (by omega)
  have wr15 : wrap64 15 = 15 := wrap_id (by omega) (by omega)
  have wr1 : wrap64 1 = 1 := wrap_id (by omega) (by omega)
  have wr2 : wrap64 2 = 2 := wrap_id (by omega) (by omega)
  rw [ptsC4]
  refine Gives.mk fun W => ?_
  have hP : Blk (((W.alloc (.cells (ptsC 16 p) 24)).alloc (.cells #[.int .i64 0, .int .i64 0, .int .i64 0, .int .i64 0, .int .i64 0, .int .i64 0, .int .i64 0, .int .i64 0, .int .i64 0, .int .i64 0, .int .i64 0, .int .i64 0] 26)).alloc (.cells #[.int .i64 0, .int .i64 0, .int .i64 0, .int .i64 0, .int .i64 0, .int .i64 0, .int .i64 0, .int .i64 0, .int .i64 0, .int .i64 0, .int .i64 0, .int .i64 0] 26)) W.heap.size 24 (ptsC 16 p) := ((Blk.new _ _ _ _ rfl).alloc _).alloc _
  have hR : Blk (((W.alloc (.cells (ptsC 16 p) 24)).alloc (.cells #[.int .i64 0, .int .i64 0, .int .i64 0, .int .i64 0, .int .i64 0, .int .i64 0, .int .i64 0, .int .i64 0, .int .i64 0, .int .i64 0, .int .i64 0, .int .i64 0] 26)).alloc (.cells #[.int .i64 0, .int .i64 0, .int .i64 0, .int .i64 0, .int .i64 0, .int .i64 0, .int .i64 0, .int .i64 0, .int .i64 0, .int .i64 0, .int .i64 0, .int .i64 0] 26)) (W.heap.size + 1) 26 #[.int .i64 0, .int .i64 0, .int .i64 0, .int .i64 0, .int .i64 0, .int .i64 0, .int .i64 0, .int .i64 0, .int .i64 0, .int .i64 0, .int .i64 0, .int .i64 0] := (Blk.new _ _ _ _ (by simp)).alloc _
  have hO : Blk (((W.alloc (.cells (ptsC 16 p) 24)).alloc (.cells #[.int .i64 0, .int .i64 0, .int .i64 0, .int .i64 0, .int .i64 0, .int .i64 0, .int .i64 0, .int .i64 0, .int .i64 0, .int .i64 0, .int .i64 0, .int .i64 0] 26)).alloc (.cells #[.int .i64 0, .int .i64 0, .int .i64 0, .int .i64 0, .int .i64 0, .int .i64 0, .int .i64 0, .int .i64 0, .int .i64 0, .int .i64 0, .int .i64 0, .int .i64 0] 26)) (W.heap.size + 2) 26 (ptsC 4 (rowU p 3 0)) := Blk.new _ _ _ _ (by simp)
  have hB : Below W.heap.size W (((W.alloc (.cells (ptsC 16 p) 24)).alloc (.cells #[.int .i64 0, .int .i64 0, .int .i64 0, .int .i64 0, .int .i64 0, .int .i64 0, .int .i64 0, .int .i64 0, .int .i64 0, .int .i64 0, .int .i64 0, .int .i64 0] 26)).alloc (.cells #[.int .i64 0, .int .i64 0, .int .i64 0, .int .i64 0, .int .i64 0, .int .i64 0, .int .i64 0, .int .i64 0, .int .i64 0, .int .i64 0, .int .i64 0, .int .i64 0] 26)) := bel_alloc (bel_alloc (bel_alloc (Below.refl _ _) _) _) _
  go_enter Try.func16, Try.ntmps16
  go_upto_region 2 with (fail)
  generalize (((W.alloc (.cells (ptsC 16 p) 24)).alloc (.cells #[.int .i64 0, .int .i64 0, .int .i64 0, .int .i64 0, .int .i64 0, .int .i64 0, .int .i64 0, .int .i64 0, .int .i64 0, .int .i64 0, .int .i64 0, .int .i64 0] 26)).alloc (.cells #[.int .i64 0, .int .i64 0, .int .i64 0, .int .i64 0, .int .i64 0, .int .i64 0, .int .i64 0, .int .i64 0, .int .i64 0, .int .i64 0, .int .i64 0, .int .i64 0] 26)) = W1 at *
  go_wp2
  go_loopw [6] (fun iv wr => ∃ k : Nat, rowI iv k ∧ Below W.heap.size W wr ∧ Blk wr W.heap.size 24 (ptsC 16 p) ∧ Blk wr (W.heap.size + 1) 26 #[.int .i64 0, .int .i64 0, .int .i64 0, .int .i64 0, .int .i64 0, .int .i64 0, .int .i64 0, .int .i64 0, .int .i64 0, .int .i64 0, .int .i64 0, .int .i64 0] ∧ Blk wr (W.heap.size + 2) 26 (ptsC 4 (rowU p 3 k))) (fun iv _ => 4 - (intOf iv).toNat)
  case atStart => exact ⟨0, .inl ⟨rfl, rfl⟩, hB, hP, hR, hO⟩
  case round =>
    obtain ⟨k, hi, hBr, hPr, hRr, hOr⟩ := hrel
    clear hB hP hR hO
    have pl := hPr.lt
    have ol := hOr.lt
    rcases hi with ⟨rfl, rfl⟩ | ⟨rfl, rfl⟩ | ⟨rfl, rfl⟩ | ⟨rfl, rfl⟩ | ⟨rfl, rfl⟩
    · obtain ⟨c1, c2, c3⟩ := ptsB hPr (k := 12) (by omega)
      have hOs := ((hOr.set 0 (.int .i64 (p 12).x)).set 1 (.int .i64 (p 12).y)).set 2 (.int .i64 (p 12).z)
      have hPs := ((hPr.far (b := W.heap.size + 2) 0 (.int .i64 (p 12).x) (by omega)).far (b := W.heap.size + 2) 1 (.int .i64 (p 12).y) (by omega)).far (b := W.heap.size + 2) 2 (.int .i64 (p 12).z) (by omega)
      have hRs := ((hRr.far (b := W.heap.size + 2) 0 (.int .i64 (p 12).x) (by omega)).far (b := W.heap.size + 2) 1 (.int .i64 (p 12).y) (by omega)).far (b := W.heap.size + 2) 2 (.int .i64 (p 12).z) (by omega)
      have hBs := (bel_set (bel_set (bel_set hBr (p := ⟨W.heap.size + 2, 0, none⟩) (by simp) (.int .i64 ((p 12).x))) (p := ⟨W.heap.size + 2, 1, none⟩) (by simp) (.int .i64 ((p 12).y))) (p := ⟨W.heap.size + 2, 2, none⟩) (by simp) (.int .i64 ((p 12).z)))
      have x1 : wr.cell? ⟨W.heap.size, 36, none⟩ = some (.int .i64 (p 12).x) := c1
      have x2 : wr.cell? ⟨W.heap.size, 37, none⟩ = some (.int .i64 (p 12).y) := c2
      have x3 : wr.cell? ⟨W.heap.size, 38, none⟩ = some (.int .i64 (p 12).z) := c3
      have hn : ptsC 4 (rowU p 3 1) = _ := (rowU_next p 3 (k := 0) (by omega)).symm
      replace hn := Lib.hid hn
      rw [ptsC4] at hOr
      have o0 := hOr.cell 0
      have o1 := hOr.cell 1
      have o2 := hOr.cell 2
      have g0 := hOr.frozen 0
      have g1 := hOr.frozen 1
      have g2 := hOr.frozen 2
      clear c1 c2 c3 hBr hPr hRr hOr
      replace hOs := Lib.hid hOs
      replace hPs := Lib.hid hPs
      replace hRs := Lib.hid hRs
      replace hBs := Lib.hid hBs
      go_wp2
      go_roundw
      case rel =>
        refine ⟨1, .inr (.inl ⟨rfl, rfl⟩), hBs.out, hPs.out, hRs.out, ?_⟩
        rw [hn.out]
        exact hOs.out
      case measure => simp [intOf]
    · obtain ⟨c1, c2, c3⟩ := ptsB hPr (k := 8) (by omega)
      have hOs := ((hOr.set 3 (.int .i64 (p 8).x)).set 4 (.int .i64 (p 8).y)).set 5 (.int .i64 (p 8).z)
      have hPs := ((hPr.far (b := W.heap.size + 2) 3 (.int .i64 (p 8).x) (by omega)).far (b := W.heap.size + 2) 4 (.int .i64 (p 8).y) (by omega)).far (b := W.heap.size + 2) 5 (.int .i64 (p 8).z) (by omega)
      have hRs := ((hRr.far (b := W.heap.size + 2) 3 (.int .i64 (p 8).x) (by omega)).far (b := W.heap.size + 2) 4 (.int .i64 (p 8).y) (by omega)).far (b := W.heap.size + 2) 5 (.int .i64 (p 8).z) (by omega)
      have hBs := (bel_set (bel_set (bel_set hBr (p := ⟨W.heap.size + 2, 3, none⟩) (by simp) (.int .i64 ((p 8).x))) (p := ⟨W.heap.size + 2, 4, none⟩) (by simp) (.int .i64 ((p 8).y))) (p := ⟨W.heap.size + 2, 5, none⟩) (by simp) (.int .i64 ((p 8).z)))
      have x1 : wr.cell? ⟨W.heap.size, 24, none⟩ = some (.int .i64 (p 8).x) := c1
      have x2 : wr.cell? ⟨W.heap.size, 25, none⟩ = some (.int .i64 (p 8).y) := c2
      have x3 : wr.cell? ⟨W.heap.size, 26, none⟩ = some (.int .i64 (p 8).z) := c3
      have hn : ptsC 4 (rowU p 3 2) = _ := (rowU_next p 3 (k := 1) (by omega)).symm
      replace hn := Lib.hid hn
      rw [ptsC4] at hOr
      have o0 := hOr.cell 3
      have o1 := hOr.cell 4
      have o2 := hOr.cell 5
      have g0 := hOr.frozen 3
      have g1 := hOr.frozen 4
      have g2 := hOr.frozen 5
      clear c1 c2 c3 hBr hPr hRr hOr
      replace hOs := Lib.hid hOs
      replace hPs := Lib.hid hPs
      replace hRs := Lib.hid hRs
      replace hBs := Lib.hid hBs
      go_wp2
      go_roundw
      case rel =>
        refine ⟨2, .inr (.inr (.inl ⟨rfl, rfl⟩)), hBs.out, hPs.out, hRs.out, ?_⟩
        rw [hn.out]
        exact hOs.out
      case measure => simp [intOf]
    · obtain ⟨c1, c2, c3⟩ := ptsB hPr (k := 4) (by omega)
      have hOs := ((hOr.set 6 (.int .i64 (p 4).x)).set 7 (.int .i64 (p 4).y)).set 8 (.int .i64 (p 4).z)
      have hPs := ((hPr.far (b := W.heap.size + 2) 6 (.int .i64 (p 4).x) (by omega)).far (b := W.heap.size + 2) 7 (.int .i64 (p 4).y) (by omega)).far (b := W.heap.size + 2) 8 (.int .i64 (p 4).z) (by omega)
      have hRs := ((hRr.far (b := W.heap.size + 2) 6 (.int .i64 (p 4).x) (by omega)).far (b := W.heap.size + 2) 7 (.int .i64 (p 4).y) (by omega)).far (b := W.heap.size + 2) 8 (.int .i64 (p 4).z) (by omega)
      have hBs := (bel_set (bel_set (bel_set hBr (p := ⟨W.heap.size + 2, 6, none⟩) (by simp) (.int .i64 ((p 4).x))) (p := ⟨W.heap.size + 2, 7, none⟩) (by simp) (.int .i64 ((p 4).y))) (p := ⟨W.heap.size + 2, 8, none⟩) (by simp) (.int .i64 ((p 4).z)))
      have x1 : wr.cell? ⟨W.heap.size, 12, none⟩ = some (.int .i64 (p 4).x) := c1
      have x2 : wr.cell? ⟨W.heap.size, 13, none⟩ = some (.int .i64 (p 4).y) := c2
      have x3 : wr.cell? ⟨W.heap.size, 14, none⟩ = some (.int .i64 (p 4).z) := c3
      have hn : ptsC 4 (rowU p 3 3) = _ := (rowU_next p 3 (k := 2) (by omega)).symm
      replace hn := Lib.hid hn
      rw [ptsC4] at hOr
      have o0 := hOr.cell 6
      have o1 := hOr.cell 7
      have o2 := hOr.cell 8
      have g0 := hOr.frozen 6
      have g1 := hOr.frozen 7
      have g2 := hOr.frozen 8
      clear c1 c2 c3 hBr hPr hRr hOr
      replace hOs := Lib.hid hOs
      replace hPs := Lib.hid hPs
      replace hRs := Lib.hid hRs
      replace hBs := Lib.hid hBs
      go_wp2
      go_roundw
      case rel =>
        refine ⟨3, .inr (.inr (.inr (.inl ⟨rfl, rfl⟩))), hBs.out, hPs.out, hRs.out, ?_⟩
        rw [hn.out]
        exact hOs.out
      case measure => simp [intOf]
    · obtain ⟨c1, c2, c3⟩ := ptsB hPr (k := 0) (by omega)
      have hOs := ((hOr.set 9 (.int .i64 (p 0).x)).set 10 (.int .i64 (p 0).y)).set 11 (.int .i64 (p 0).z)
      have hPs := ((hPr.far (b := W.heap.size + 2) 9 (.int .i64 (p 0).x) (by omega)).far (b := W.heap.size + 2) 10 (.int .i64 (p 0).y) (by omega)).far (b := W.heap.size + 2) 11 (.int .i64 (p 0).z) (by omega)
      have hRs := ((hRr.far (b := W.heap.size + 2) 9 (.int .i64 (p 0).x) (by omega)).far (b := W.heap.size + 2) 10 (.int .i64 (p 0).y) (by omega)).far (b := W.heap.size + 2) 11 (.int .i64 (p 0).z) (by omega)
      have hBs := (bel_set (bel_set (bel_set hBr (p := ⟨W.heap.size + 2, 9, none⟩) (by simp) (.int .i64 ((p 0).x))) (p := ⟨W.heap.size + 2, 10, none⟩) (by simp) (.int .i64 ((p 0).y))) (p := ⟨W.heap.size + 2, 11, none⟩) (by simp) (.int .i64 ((p 0).z)))
      have x1 : wr.cell? ⟨W.heap.size, 0, none⟩ = some (.int .i64 (p 0).x) := c1
      have x2 : wr.cell? ⟨W.heap.size, 1, none⟩ = some (.int .i64 (p 0).y) := c2
      have x3 : wr.cell? ⟨W.heap.size, 2, none⟩ = some (.int .i64 (p 0).z) := c3
      have hn : ptsC 4 (rowU p 3 4) = _ := (rowU_next p 3 (k := 3) (by omega)).symm
      replace hn := Lib.hid hn
      rw [ptsC4] at hOr
      have o0 := hOr.cell 9
      have o1 := hOr.cell 10
      have o2 := hOr.cell 11
      have g0 := hOr.frozen 9
      have g1 := hOr.frozen 10
      have g2 := hOr.frozen 11
      clear c1 c2 c3 hBr hPr hRr hOr
      replace hOs := Lib.hid hOs
      replace hPs := Lib.hid hPs
      replace hRs := Lib.hid hRs
      replace hBs := Lib.hid hBs
      go_wp2
      go_roundw
      case rel =>
        refine ⟨4, .inr (.inr (.inr (.inr ⟨rfl, rfl⟩))), hBs.out, hPs.out, hRs.out, ?_⟩
        rw [hn.out]
        exact hOs.out
      case measure => simp [intOf]
    · rw [rowU_end, ptsC4] at hOr
      replace hPr := Lib.hid hPr
      replace hRr := Lib.hid hRr
      replace hBr := Lib.hid hBr
      replace hOr := Lib.hid hOr
      go_upto_region 14 with (fail)
      replace hRr := hRr.out
      replace hBr := hBr.out
      replace hOr := hOr.out
      have r0 := hRr.cell 0
      have f0 := hRr.frozen 0
      have o0 := hOr.cell 0
      have r1 := hRr.cell 1
      have f1 := hRr.frozen 1
      have o1 := hOr.cell 1
      have r2 := hRr.cell 2
      have f2 := hRr.frozen 2
      have o2 := hOr.cell 2
      have r3 := hRr.cell 3
      have f3 := hRr.frozen 3
      have o3 := hOr.cell 3
      have r4 := hRr.cell 4
      have f4 := hRr.frozen 4
      have o4 := hOr.cell 4
      have r5 := hRr.cell 5
      have f5 := hRr.frozen 5
      have o5 := hOr.cell 5
      have r6 := hRr.cell 6
      have f6 := hRr.frozen 6
      have o6 := hOr.cell 6
      have r7 := hRr.cell 7
      have f7 := hRr.frozen 7
      have o7 := hOr.cell 7
      have r8 := hRr.cell 8
      have f8 := hRr.frozen 8
      have o8 := hOr.cell 8
      have r9 := hRr.cell 9
      have f9 := hRr.frozen 9
      have o9 := hOr.cell 9
      have r10 := hRr.cell 10
      have f10 := hRr.frozen 10
      have o10 := hOr.cell 10
      have r11 := hRr.cell 11
      have f11 := hRr.frozen 11
      have o11 := hOr.cell 11
      have rl := hRr.lt
      have hR2 := ((((((((((((hRr.set 0 (.int .i64 ((rowF p 3 0).x))).set 1 (.int .i64 ((rowF p 3 0).y))).set 2 (.int .i64 ((rowF p 3 0).z))).set 3 (.int .i64 ((rowF p 3 1).x))).set 4 (.int .i64 ((rowF p 3 1).y))).set 5 (.int .i64 ((rowF p 3 1).z))).set 6 (.int .i64 ((rowF p 3 2).x))).set 7 (.int .i64 ((rowF p 3 2).y))).set 8 (.int .i64 ((rowF p 3 2).z))).set 9 (.int .i64 ((rowF p 3 3).x))).set 10 (.int .i64 ((rowF p 3 3).y))).set 11 (.int .i64 ((rowF p 3 3).z)))
      have hB2 : Below W.heap.size W ((((((((((((wr.setCell ⟨W.heap.size + 1, 0, none⟩ (.int .i64 ((rowF p 3 0).x))).setCell ⟨W.heap.size + 1, 1, none⟩ (.int .i64 ((rowF p 3 0).y))).setCell ⟨W.heap.size + 1, 2, none⟩ (.int .i64 ((rowF p 3 0).z))).setCell ⟨W.heap.size + 1, 3, none⟩ (.int .i64 ((rowF p 3 1).x))).setCell ⟨W.heap.size + 1, 4, none⟩ (.int .i64 ((rowF p 3 1).y))).setCell ⟨W.heap.size + 1, 5, none⟩ (.int .i64 ((rowF p 3 1).z))).setCell ⟨W.heap.size + 1, 6, none⟩ (.int .i64 ((rowF p 3 2).x))).setCell ⟨W.heap.size + 1, 7, none⟩ (.int .i64 ((rowF p 3 2).y))).setCell ⟨W.heap.size + 1, 8, none⟩ (.int .i64 ((rowF p 3 2).z))).setCell ⟨W.heap.size + 1, 9, none⟩ (.int .i64 ((rowF p 3 3).x))).setCell ⟨W.heap.size + 1, 10, none⟩ (.int .i64 ((rowF p 3 3).y))).setCell ⟨W.heap.size + 1, 11, none⟩ (.int .i64 ((rowF p 3 3).z))) := (bel_set (bel_set (bel_set (bel_set (bel_set (bel_set (bel_set (bel_set (bel_set (bel_set (bel_set (bel_set hBr (p := ⟨W.heap.size + 1, 0, none⟩) (by simp) (.int .i64 ((rowF p 3 0).x))) (p := ⟨W.heap.size + 1, 1, none⟩) (by simp) (.int .i64 ((rowF p 3 0).y))) (p := ⟨W.heap.size + 1, 2, none⟩) (by simp) (.int .i64 ((rowF p 3 0).z))) (p := ⟨W.heap.size + 1, 3, none⟩) (by simp) (.int .i64 ((rowF p 3 1).x))) (p := ⟨W.heap.size + 1, 4, none⟩) (by simp) (.int .i64 ((rowF p 3 1).y))) (p := ⟨W.heap.size + 1, 5, none⟩) (by simp) (.int .i64 ((rowF p 3 1).z))) (p := ⟨W.heap.size + 1, 6, none⟩) (by simp) (.int .i64 ((rowF p 3 2).x))) (p := ⟨W.heap.size + 1, 7, none⟩) (by simp) (.int .i64 ((rowF p 3 2).y))) (p := ⟨W.heap.size + 1, 8, none⟩) (by simp) (.int .i64 ((rowF p 3 2).z))) (p := ⟨W.heap.size + 1, 9, none⟩) (by simp) (.int .i64 ((rowF p 3 3).x))) (p := ⟨W.heap.size + 1, 10, none⟩) (by simp) (.int .i64 ((rowF p 3 3).y))) (p := ⟨W.heap.size + 1, 11, none⟩) (by simp) (.int .i64 ((rowF p 3 3).z)))
      clear hPr hRr hBr hOr
      replace hR2 := Lib.hid hR2
      replace hB2 := Lib.hid hB2
      go_wp2
      replace hR2 := hR2.out
      replace hB2 := hB2.out
      generalize ((((((((((((wr.setCell ⟨W.heap.size + 1, 0, none⟩ (.int .i64 ((rowF p 3 0).x))).setCell ⟨W.heap.size + 1, 1, none⟩ (.int .i64 ((rowF p 3 0).y))).setCell ⟨W.heap.size + 1, 2, none⟩ (.int .i64 ((rowF p 3 0).z))).setCell ⟨W.heap.size + 1, 3, none⟩ (.int .i64 ((rowF p 3 1).x))).setCell ⟨W.heap.size + 1, 4, none⟩ (.int .i64 ((rowF p 3 1).y))).setCell ⟨W.heap.size + 1, 5, none⟩ (.int .i64 ((rowF p 3 1).z))).setCell ⟨W.heap.size + 1, 6, none⟩ (.int .i64 ((rowF p 3 2).x))).setCell ⟨W.heap.size + 1, 7, none⟩ (.int .i64 ((rowF p 3 2).y))).setCell ⟨W.heap.size + 1, 8, none⟩ (.int .i64 ((rowF p 3 2).z))).setCell ⟨W.heap.size + 1, 9, none⟩ (.int .i64 ((rowF p 3 3).x))).setCell ⟨W.heap.size + 1, 10, none⟩ (.int .i64 ((rowF p 3 3).y))).setCell ⟨W.heap.size + 1, 11, none⟩ (.int .i64 ((rowF p 3 3).z))) = WE at *
      have w0 := hR2.cell
      refine bodyPost_ret (v := .agg #[.int .i64 ((rowF p 3 0).x), .int .i64 ((rowF p 3 0).y), .int .i64 ((rowF p 3 0).z), .int .i64 ((rowF p 3 1).x), .int .i64 ((rowF p 3 1).y), .int .i64 ((rowF p 3 1).z), .int .i64 ((rowF p 3 2).x), .int .i64 ((rowF p 3 2).y), .int .i64 ((rowF p 3 2).z), .int .i64 ((rowF p 3 3).x), .int .i64 ((rowF p 3 3).y), .int .i64 ((rowF p 3 3).z)]) (by simp [results, Try.results16, go_sem, w0]) rfl ⟨rfl, hB2⟩
set_option maxHeartbeats 8000000 in
theorem rRowN (p : Nat → P3) (s : Int) (h0 : s ≠ 0) (h1 : s ≠ 1) (h2 : s ≠ 2) (h3 : s ≠ 3) : Gives Try.prog 16 #[.agg (ptsC 16 p), .int .i64 s] (.agg (ptsC 4 (rowF p s))) := by
  have wr0 : wrap64 0 = 0 := wrap_id (by omega) (by omega)
  have wr3 : wrap64 3 = 3 := wrap_id (by omega) (by omega)
  have wr4 : wrap64 4 = 4 := wrap_id (by omega) (by omega)
  have wr7 : wrap64 7 = 7 := wrap_id (by omega) (by omega)
  have wr8 : wrap64 8 = 8 := wrap_id (by omega) (by omega)
  have wr11 : wrap64 11 = 11 := wrap_id (by omega) (by omega)
  have wr12 : wrap64 12 = 12 := wrap_id (by omega) (by omega)
  have wr13 : wrap64 13 = 13 := wrap_id (by omega) (by omega)
  have wr14 : wrap64 14 = 14 := wrap_id (by omega) (by omega)
  have wr15 : wrap64 15 = 15 := wrap_id (by omega) (by omega)
  have wr1 : wrap64 1 = 1 := wrap_id (by omega) (by omega)
  have wr2 : wrap64 2 = 2 := wrap_id (by omega) (by omega)
  rw [ptsC4]
  refine Gives.mk fun W => ?_
  have hP : Blk (((W.alloc (.cells (ptsC 16 p) 24)).alloc (.cells #[.int .i64 0, .int .i64 0, .int .i64 0, .int .i64 0, .int .i64 0, .int .i64 0, .int .i64 0, .int .i64 0, .int .i64 0, .int .i64 0, .int .i64 0, .int .i64 0] 26)).alloc (.cells #[.int .i64 0, .int .i64 0, .int .i64 0, .int .i64 0, .int .i64 0, .int .i64 0, .int .i64 0, .int .i64 0, .int .i64 0, .int .i64 0, .int .i64 0, .int .i64 0] 26)) W.heap.size 24 (ptsC 16 p) := ((Blk.new _ _ _ _ rfl).alloc _).alloc _
  have hR : Blk (((W.alloc (.cells (ptsC 16 p) 24)).alloc (.cells #[.int .i64 0, .int .i64 0, .int .i64 0, .int .i64 0, .int .i64 0, .int .i64 0, .int .i64 0, .int .i64 0, .int .i64 0, .int .i64 0, .int .i64 0, .int .i64 0] 26)).alloc (.cells #[.int .i64 0, .int .i64 0, .int .i64 0, .int .i64 0, .int .i64 0, .int .i64 0, .int .i64 0, .int .i64 0, .int .i64 0, .int .i64 0, .int .i64 0, .int .i64 0] 26)) (W.heap.size + 1) 26 #[.int .i64 0, .int .i64 0, .int .i64 0, .int .i64 0, .int .i64 0, .int .i64 0, .int .i64 0, .int .i64 0, .int .i64 0, .int .i64 0, .int .i64 0, .int .i64 0] := (Blk.new _ _ _ _ (by simp)).alloc _
  have hO : Blk (((W.alloc (.cells (ptsC 16 p) 24)).alloc (.cells #[.int .i64 0, .int .i64 0, .int .i64 0, .int .i64 0, .int .i64 0, .int .i64 0, .int .i64 0, .int .i64 0, .int .i64 0, .int .i64 0, .int .i64 0, .int .i64 0] 26)).alloc (.cells #[.int .i64 0, .int .i64 0, .int .i64 0, .int .i64 0, .int .i64 0, .int .i64 0, .int .i64 0, .int .i64 0, .int .i64 0, .int .i64 0, .int .i64 0, .int .i64 0] 26)) (W.heap.size + 2) 26 (ptsC 4 (rowU p s 0)) := Blk.new _ _ _ _ (by simp)
  have hB : Below W.heap.size W (((W.alloc (.cells (ptsC 16 p) 24)).alloc (.cells #[.int .i64 0, .int .i64 0, .int .i64 0, .int .i64 0, .int .i64 0, .int .i64 0, .int .i64 0, .int .i64 0, .int .i64 0, .int .i64 0, .int .i64 0, .int .i64 0] 26)).alloc (.cells #[.int .i64 0, .int .i64 0, .int .i64 0, .int .i64 0, .int .i64 0, .int .i64 0, .int .i64 0, .int .i64 0, .int .i64 0, .int .i64 0, .int .i64 0, .int .i64 0] 26)) := bel_alloc (bel_alloc (bel_alloc (Below.refl _ _) _) _) _
  go_enter Try.func16, Try.ntmps16
  go_upto_region 2 with (fail)
  generalize (((W.alloc (.cells (ptsC 16 p) 24)).alloc (.cells #[.int .i64 0, .int .i64 0, .int .i64 0, .int .i64 0, .int .i64 0, .int .i64 0, .int .i64 0, .int .i64 0, .int .i64 0, .int .i64 0, .int .i64 0, .int .i64 0] 26)).alloc (.cells #[.int .i64 0, .int .i64 0, .int .i64 0, .int .i64 0, .int .i64 0, .int .i64 0, .int .i64 0, .int .i64 0, .int .i64 0, .int .i64 0, .int .i64 0, .int .i64 0] 26)) = W1 at *
  go_wp2
  go_loopw [6] (fun iv wr => ∃ k : Nat, rowI iv k ∧ Below W.heap.size W wr ∧ Blk wr W.heap.size 24 (ptsC 16 p) ∧ Blk wr (W.heap.size + 1) 26 #[.int .i64 0, .int .i64 0, .int .i64 0, .int .i64 0, .int .i64 0, .int .i64 0, .int .i64 0, .int .i64 0, .int .i64 0, .int .i64 0, .int .i64 0, .int .i64 0] ∧ Blk wr (W.heap.size + 2) 26 (ptsC 4 (rowU p s k))) (fun iv _ => 4 - (intOf iv).toNat)
  case atStart => exact ⟨0, .inl ⟨rfl, rfl⟩, hB, hP, hR, hO⟩
  case round =>
    obtain ⟨k, hi, hBr, hPr, hRr, hOr⟩ := hrel
    clear hB hP hR hO
    have pl := hPr.lt
    have ol := hOr.lt
    rcases hi with ⟨rfl, rfl⟩ | ⟨rfl, rfl⟩ | ⟨rfl, rfl⟩ | ⟨rfl, rfl⟩ | ⟨rfl, rfl⟩
    · rw [rowU_none p h0 h1 h2 h3] at hOr
      go_wp2
      go_roundw
      case rel => exact ⟨1, .inr (.inl ⟨rfl, rfl⟩), hBr, hPr, hRr, hOr⟩
      case measure => simp [intOf]
    · rw [rowU_none p h0 h1 h2 h3] at hOr
      go_wp2
      go_roundw
      case rel => exact ⟨2, .inr (.inr (.inl ⟨rfl, rfl⟩)), hBr, hPr, hRr, hOr⟩
      case measure => simp [intOf]
    · rw [rowU_none p h0 h1 h2 h3] at hOr
      go_wp2
      go_roundw
      case rel => exact ⟨3, .inr (.inr (.inr (.inl ⟨rfl, rfl⟩))), hBr, hPr, hRr, hOr⟩
      case measure => simp [intOf]
    · rw [rowU_none p h0 h1 h2 h3] at hOr
      go_wp2
      go_roundw
      case rel => exact ⟨4, .inr (.inr (.inr (.inr ⟨rfl, rfl⟩))), hBr, hPr, hRr, hOr⟩
      case measure => simp [intOf]
    · rw [rowU_end, ptsC4] at hOr
      replace hPr := Lib.hid hPr
      replace hRr := Lib.hid hRr
      replace hBr := Lib.hid hBr
      replace hOr := Lib.hid hOr
      go_upto_region 14 with (fail)
      replace hRr := hRr.out
      replace hBr := hBr.out
      replace hOr := hOr.out
      have r0 := hRr.cell 0
      have f0 := hRr.frozen 0
      have o0 := hOr.cell 0
      have r1 := hRr.cell 1
      have f1 := hRr.frozen 1
      have o1 := hOr.cell 1
      have r2 := hRr.cell 2
      have f2 := hRr.frozen 2
      have o2 := hOr.cell 2
      have r3 := hRr.cell 3
      have f3 := hRr.frozen 3
      have o3 := hOr.cell 3
      have r4 := hRr.cell 4
      have f4 := hRr.frozen 4
      have o4 := hOr.cell 4
      have r5 := hRr.cell 5
      have f5 := hRr.frozen 5
      have o5 := hOr.cell 5
      have r6 := hRr.cell 6
      have f6 := hRr.frozen 6
      have o6 := hOr.cell 6
      have r7 := hRr.cell 7
      have f7 := hRr.frozen 7
      have o7 := hOr.cell 7
      have r8 := hRr.cell 8
      have f8 := hRr.frozen 8
      have o8 := hOr.cell 8
      have r9 := hRr.cell 9
      have f9 := hRr.frozen 9
      have o9 := hOr.cell 9
      have r10 := hRr.cell 10
      have f10 := hRr.frozen 10
      have o10 := hOr.cell 10
      have r11 := hRr.cell 11
      have f11 := hRr.frozen 11
      have o11 := hOr.cell 11
      have rl := hRr.lt
      have hR2 := ((((((((((((hRr.set 0 (.int .i64 ((rowF p s 0).x))).set 1 (.int .i64 ((rowF p s 0).y))).set 2 (.int .i64 ((rowF p s 0).z))).set 3 (.int .i64 ((rowF p s 1).x))).set 4 (.int .i64 ((rowF p s 1).y))).set 5 (.int .i64 ((rowF p s 1).z))).set 6 (.int .i64 ((rowF p s 2).x))).set 7 (.int .i64 ((rowF p s 2).y))).set 8 (.int .i64 ((rowF p s 2).z))).set 9 (.int .i64 ((rowF p s 3).x))).set 10 (.int .i64 ((rowF p s 3).y))).set 11 (.int .i64 ((rowF p s 3).z)))
      have hB2 : Below W.heap.size W ((((((((((((wr.setCell ⟨W.heap.size + 1, 0, none⟩ (.int .i64 ((rowF p s 0).x))).setCell ⟨W.heap.size + 1, 1, none⟩ (.int .i64 ((rowF p s 0).y))).setCell ⟨W.heap.size + 1, 2, none⟩ (.int .i64 ((rowF p s 0).z))).setCell ⟨W.heap.size + 1, 3, none⟩ (.int .i64 ((rowF p s 1).x))).setCell ⟨W.heap.size + 1, 4, none⟩ (.int .i64 ((rowF p s 1).y))).setCell ⟨W.heap.size + 1, 5, none⟩ (.int .i64 ((rowF p s 1).z))).setCell ⟨W.heap.size + 1, 6, none⟩ (.int .i64 ((rowF p s 2).x))).setCell ⟨W.heap.size + 1, 7, none⟩ (.int .i64 ((rowF p s 2).y))).setCell ⟨W.heap.size + 1, 8, none⟩ (.int .i64 ((rowF p s 2).z))).setCell ⟨W.heap.size + 1, 9, none⟩ (.int .i64 ((rowF p s 3).x))).setCell ⟨W.heap.size + 1, 10, none⟩ (.int .i64 ((rowF p s 3).y))).setCell ⟨W.heap.size + 1, 11, none⟩ (.int .i64 ((rowF p s 3).z))) := (bel_set (bel_set (bel_set (bel_set (bel_set (bel_set (bel_set (bel_set (bel_set (bel_set (bel_set (bel_set hBr (p := ⟨W.heap.size + 1, 0, none⟩) (by simp) (.int .i64 ((rowF p s 0).x))) (p := ⟨W.heap.size + 1, 1, none⟩) (by simp) (.int .i64 ((rowF p s 0).y))) (p := ⟨W.heap.size + 1, 2, none⟩) (by simp) (.int .i64 ((rowF p s 0).z))) (p := ⟨W.heap.size + 1, 3, none⟩) (by simp) (.int .i64 ((rowF p s 1).x))) (p := ⟨W.heap.size + 1, 4, none⟩) (by simp) (.int .i64 ((rowF p s 1).y))) (p := ⟨W.heap.size + 1, 5, none⟩) (by simp) (.int .i64 ((rowF p s 1).z))) (p := ⟨W.heap.size + 1, 6, none⟩) (by simp) (.int .i64 ((rowF p s 2).x))) (p := ⟨W.heap.size + 1, 7, none⟩) (by simp) (.int .i64 ((rowF p s 2).y))) (p := ⟨W.heap.size + 1, 8, none⟩) (by simp) (.int .i64 ((rowF p s 2).z))) (p := ⟨W.heap.size + 1, 9, none⟩) (by simp) (.int .i64 ((rowF p s 3).x))) (p := ⟨W.heap.size + 1, 10, none⟩) (by simp) (.int .i64 ((rowF p s 3).y))) (p := ⟨W.heap.size + 1, 11, none⟩) (by simp) (.int .i64 ((rowF p s 3).z)))
      clear hPr hRr hBr hOr
      replace hR2 := Lib.hid hR2
      replace hB2 := Lib.hid hB2
      go_wp2
      replace hR2 := hR2.out
      replace hB2 := hB2.out
      generalize ((((((((((((wr.setCell ⟨W.heap.size + 1, 0, none⟩ (.int .i64 ((rowF p s 0).x))).setCell ⟨W.heap.size + 1, 1, none⟩ (.int .i64 ((rowF p s 0).y))).setCell ⟨W.heap.size + 1, 2, none⟩ (.int .i64 ((rowF p s 0).z))).setCell ⟨W.heap.size + 1, 3, none⟩ (.int .i64 ((rowF p s 1).x))).setCell ⟨W.heap.size + 1, 4, none⟩ (.int .i64 ((rowF p s 1).y))).setCell ⟨W.heap.size + 1, 5, none⟩ (.int .i64 ((rowF p s 1).z))).setCell ⟨W.heap.size + 1, 6, none⟩ (.int .i64 ((rowF p s 2).x))).setCell ⟨W.heap.size + 1, 7, none⟩ (.int .i64 ((rowF p s 2).y))).setCell ⟨W.heap.size + 1, 8, none⟩ (.int .i64 ((rowF p s 2).z))).setCell ⟨W.heap.size + 1, 9, none⟩ (.int .i64 ((rowF p s 3).x))).setCell ⟨W.heap.size + 1, 10, none⟩ (.int .i64 ((rowF p s 3).y))).setCell ⟨W.heap.size + 1, 11, none⟩ (.int .i64 ((rowF p s 3).z))) = WE at *
      have w0 := hR2.cell
      refine bodyPost_ret (v := .agg #[.int .i64 ((rowF p s 0).x), .int .i64 ((rowF p s 0).y), .int .i64 ((rowF p s 0).z), .int .i64 ((rowF p s 1).x), .int .i64 ((rowF p s 1).y), .int .i64 ((rowF p s 1).z), .int .i64 ((rowF p s 2).x), .int .i64 ((rowF p s 2).y), .int .i64 ((rowF p s 2).z), .int .i64 ((rowF p s 3).x), .int .i64 ((rowF p s 3).y), .int .i64 ((rowF p s 3).z)]) (by simp [results, Try.results16, go_sem, w0]) rfl ⟨rfl, hB2⟩
theorem rRow_any (p : Nat → P3) (s : Int) : Gives Try.prog 16 #[.agg (ptsC 16 p), .int .i64 s] (.agg (ptsC 4 (rowF p s))) := by
  by_cases h0 : s = 0
  · subst h0; exact rRow0 p
  by_cases h1 : s = 1
  · subst h1; exact rRow1 p
  by_cases h2 : s = 2
  · subst h2; exact rRow2 p
  by_cases h3 : s = 3
  · subst h3; exact rRow3 p
  exact rRowN p s h0 h1 h2 h3
end Go.Proofs.Ytiaikceoodeboab
namespace Go.Proofs.Ytiaikceoodeboab
open Go.RowKit
set_option linter.unusedVariables false
set_option linter.unusedSimpArgs false
set_option linter.unnecessarySimpa false
set_option maxRecDepth 100000
theorem alive11_any : Gives Try.prog 10 #[] (.bool true) := by
  have k1 := cub_any (fun k => ⟨3 * (k : Int), 0, 0⟩) 1 3
  have k2 := cub_any (fun _ => N3) 1 0
  rw [show cubP (fun k => ⟨3 * (k : Int), 0, 0⟩) 1 3 = ⟨3, 0, 0⟩ by kernel_rfl, show cubK (fun k => ⟨3 * (k : Int), 0, 0⟩) 1 3 = true by kernel_rfl, ptsC4] at k1
  rw [show cubP (fun _ => N3) 1 0 = N3 by kernel_rfl, show cubK (fun _ => N3) 1 0 = false by kernel_rfl, ptsC4] at k2
  have k1' : Gives Try.prog 11 #[.agg #[.int .i64 0, .int .i64 0, .int .i64 0, .int .i64 3, .int .i64 0, .int .i64 0, .int .i64 6, .int .i64 0, .int .i64 0, .int .i64 9, .int .i64 0, .int .i64 0], .int .i64 1, .int .i64 3] (.tuple #[.agg #[.int .i64 3, .int .i64 0, .int .i64 0], .bool true]) := k1
  have k2' : Gives Try.prog 11 #[.agg #[.int .i64 0, .int .i64 0, .int .i64 0, .int .i64 0, .int .i64 0, .int .i64 0, .int .i64 0, .int .i64 0, .int .i64 0, .int .i64 0, .int .i64 0, .int .i64 0], .int .i64 1, .int .i64 0] (.tuple #[.agg #[.int .i64 0, .int .i64 0, .int .i64 0], .bool false]) := k2
  clear k1 k2
  refine Gives.mk fun w => ?_
  go_enter Try.func10, Try.ntmps10
  go_wp2_with (first | (go_at_call 11; first | ((with_reducible refine (k1'.at_ _).mono ?_); rintro e w' ⟨rfl, xg, rfl⟩) | ((with_reducible refine (k2'.at_ _).mono ?_); rintro e w' ⟨rfl, xg, rfl⟩)) | fail)
  go_ret
  exact ⟨rfl, (by repeat (first | exact Below.refl _ _ | refine bel_then ?_ _ | refine bel_grow ?_ _ | refine bel_alloc ?_ _ | refine bel_drew ?_ | refine bel_set ?_ (by simp) _ | refine bel_setRow ?_ (by first | omega | (simp; done) | (refine Nat.le_trans ?_ (top_le _ _); simp; done) | (refine Nat.le_succ_of_le (Nat.le_trans ?_ (top_le _ _)); simp; done) | (refine Nat.le_trans ?_ (top_le _ _); simp only [World.size_alloc]; refine Nat.le_succ_of_le (Nat.le_trans ?_ (top_le _ _)); simp; done)) _))⟩
end Go.Proofs.Ytiaikceoodeboab
namespace Go.Proofs.Ytiaikceoodeboab
open Go.RowKit
set_option linter.unusedVariables false
set_option linter.unusedSimpArgs false
set_option linter.unnecessarySimpa false
theorem sm_of {u x : Nat → Int} {m : Nat} {d : Int} (hu : ∀ k, k < m → 0 ≤ u k) (hx : ∀ k, k < m → -65536 ≤ x k ∧ x k ≤ 65536) (ht : totW u m = d) (hd : 1 ≤ d ∧ d ≤ 16777216) : smB (sumW u x m) d :=
  ⟨part_bd hu hx (by rw [ht]; exact hd.2) (Nat.le_refl m), hd⟩
theorem mean_in {u x : Nat → Int} {m : Nat} {d lo hi : Int} (hu : ∀ k, k < m → 0 ≤ u k) (hx : ∀ k, k < m → -65536 ≤ x k ∧ x k ≤ 65536) (ht : totW u m = d) (hd : 1 ≤ d ∧ d ≤ 16777216) (hl : ∀ k, k < m → lo ≤ x k ∧ x k ≤ hi) : lo ≤ rnd (sumW u x m) d ∧ rnd (sumW u x m) d ≤ hi := by
  obtain ⟨a, b⟩ := sumW_bd m hu hl
  rw [ht] at a b
  exact rnd_mean (sm_of hu hx ht hd) a b
/-- What is told when a curve is there. -/
structure CurH (p : Nat → P3) (i n : Int) : Prop where
  n0 : 1 ≤ n
  n1 : n ≤ 16
  i0 : 0 ≤ i
  i1 : i ≤ n
  hp : okB p 4 = true
theorem cubK_iff {p : Nat → P3} {i n : Int} : cubK p i n = true ↔ CurH p i n := by
  unfold cubK
  rw [Bool.and_eq_true, thB_iff]
  exact ⟨fun h => ⟨h.1.1, h.1.2.1, h.1.2.2.1, h.1.2.2.2, h.2⟩, fun h => ⟨⟨h.n0, h.n1, h.i0, h.i1⟩, h.hp⟩⟩
structure PatH (p : Nat → P3) (i n j m : Int) : Prop where
  n0 : 1 ≤ n
  n1 : n ≤ 16
  i0 : 0 ≤ i
  i1 : i ≤ n
  m0 : 1 ≤ m
  m1 : m ≤ 16
  j0 : 0 ≤ j
  j1 : j ≤ m
  hp : okB p 16 = true
theorem ptK_iff {p : Nat → P3} {i n j m : Int} : ptK p i n j m = true ↔ PatH p i n j m := by
  unfold ptK
  rw [Bool.and_eq_true, Bool.and_eq_true, thB_iff, thB_iff]
  exact ⟨fun h => ⟨h.1.1.1, h.1.1.2.1, h.1.1.2.2.1, h.1.1.2.2.2, h.1.2.1, h.1.2.2.1, h.1.2.2.2.1, h.1.2.2.2.2, h.2⟩, fun h => ⟨⟨⟨h.n0, h.n1, h.i0, h.i1⟩, h.m0, h.m1, h.j0, h.j1⟩, h.hp⟩⟩
theorem cubP_yes {p : Nat → P3} {i n : Int} (h : CurH p i n) : cubP p i n = rnP (sumP (wt i n) p 4) (n * n * n) := by unfold cubP; rw [if_pos (cubK_iff.2 h)]
theorem ptP_yes {p : Nat → P3} {i n j m : Int} (h : PatH p i n j m) : ptP p i n j m = rnP (sumP (wt2 i n j m) p 16) (n * n * n * (m * m * m)) := by unfold ptP; rw [if_pos (ptK_iff.2 h)]
theorem cubP_no {p : Nat → P3} {i n : Int} (h : cubK p i n = false) : cubP p i n = N3 := by unfold cubP; rw [h]; rfl
theorem ptP_no {p : Nat → P3} {i n j m : Int} (h : ptK p i n j m = false) : ptP p i n j m = N3 := by unfold ptP; rw [h]; rfl
/-- A coordinate that sums and rounding go through. -/
structure Part (g : P3 → Int) : Prop where
  sum : ∀ u p m, g (sumP u p m) = sumW u (fun k => g (p k)) m
  rn : ∀ s d, g (rnP s d) = rnd (g s) d
  bd : ∀ q, wi q = true → -65536 ≤ g q ∧ g q ≤ 65536
theorem part_x : Part P3.x := ⟨fun _ _ _ => rfl, fun _ _ => rfl, fun _ h => (wi_bd h).1⟩
theorem part_y : Part P3.y := ⟨fun _ _ _ => rfl, fun _ _ => rfl, fun _ h => (wi_bd h).2.1⟩
theorem part_z : Part P3.z := ⟨fun _ _ _ => rfl, fun _ _ => rfl, fun _ h => (wi_bd h).2.2⟩
theorem P3_ext {a b : P3} (h : ∀ g, Part g → g a = g b) : a = b := by
  have x := h _ part_x
  have y := h _ part_y
  have z := h _ part_z
  cases a; cases b; simp_all
theorem cub_at {g : P3 → Int} (hg : Part g) {p : Nat → P3} {i n : Int} (h : CurH p i n) : g (cubP p i n) = rnd (sumW (wt i n) (fun k => g (p k)) 4) (n * n * n) := by rw [cubP_yes h, hg.rn, hg.sum]
theorem pt_at {g : P3 → Int} (hg : Part g) {p : Nat → P3} {i n j m : Int} (h : PatH p i n j m) : g (ptP p i n j m) = rnd (sumW (wt2 i n j m) (fun k => g (p k)) 16) (n * n * n * (m * m * m)) := by rw [ptP_yes h, hg.rn, hg.sum]
theorem CurH.bd {g : P3 → Int} (hg : Part g) {p : Nat → P3} {i n : Int} (h : CurH p i n) : ∀ k, k < 4 → -65536 ≤ g (p k) ∧ g (p k) ≤ 65536 := fun k hk => hg.bd _ (okB_all.1 h.hp k hk)
theorem PatH.bd {g : P3 → Int} (hg : Part g) {p : Nat → P3} {i n j m : Int} (h : PatH p i n j m) : ∀ k, k < 16 → -65536 ≤ g (p k) ∧ g (p k) ≤ 65536 := fun k hk => hg.bd _ (okB_all.1 h.hp k hk)
theorem CurH.sm {g : P3 → Int} (hg : Part g) {p : Nat → P3} {i n : Int} (h : CurH p i n) : smB (sumW (wt i n) (fun k => g (p k)) 4) (n * n * n) :=
  sm_of (fun k _ => wt_pos h.i0 h.i1 k) (h.bd hg) (wt_tot i n) ⟨(cube_bd h.n0 h.n1).1, by have := (cube_bd h.n0 h.n1).2; omega⟩
theorem PatH.sm {g : P3 → Int} (hg : Part g) {p : Nat → P3} {i n j m : Int} (h : PatH p i n j m) : smB (sumW (wt2 i n j m) (fun k => g (p k)) 16) (n * n * n * (m * m * m)) :=
  sm_of (fun k _ => wt2_pos h.i0 h.i1 h.j0 h.j1 k) (h.bd hg) (wt2_tot i n j m) (cube2_bd h.n0 h.n1 h.m0 h.m1)
theorem pt_in {g : P3 → Int} (hg : Part g) {p : Nat → P3} {i n j m lo hi : Int} (h : PatH p i n j m) (hl : ∀ k, k < 16 → lo ≤ g (p k) ∧ g (p k) ≤ hi) : lo ≤ g (ptP p i n j m) ∧ g (ptP p i n j m) ≤ hi := by
  rw [pt_at hg h]
  exact mean_in (fun k _ => wt2_pos h.i0 h.i1 h.j0 h.j1 k) (h.bd hg) (wt2_tot i n j m) (cube2_bd h.n0 h.n1 h.m0 h.m1) hl
/-! told backwards -/
def revF (p : Nat → P3) (k : Nat) : P3 := p (3 - k)
theorem okB_rev (p : Nat → P3) : okB (revF p) 4 = okB p 4 := by
  simp only [okB, revF, Nat.sub_self, Nat.reduceSub, Nat.sub_zero, Bool.true_and]
  cases wi (p 0) <;> cases wi (p 1) <;> cases wi (p 2) <;> cases wi (p 3) <;> rfl
theorem sum_rev (x : Nat → Int) (i n : Int) : sumW (wt (n - i) n) (fun k => x (3 - k)) 4 = sumW (wt i n) x 4 := by
  simp only [sumW, wt, Nat.sub_zero, Nat.reduceSub]
  grind
theorem CurH.rev {p : Nat → P3} {i n : Int} (h : CurH p i n) : CurH (revF p) (n - i) n := ⟨h.n0, h.n1, by have := h.i1; omega, by have := h.i0; omega, (okB_rev p).trans h.hp⟩
theorem cub_rev {p : Nat → P3} {i n : Int} (h : CurH p i n) : cubP (revF p) (n - i) n = cubP p i n := P3_ext fun g hg => by
  rw [cub_at hg h, cub_at hg h.rev]
  exact congrArg (fun s => rnd s (n * n * n)) (sum_rev (fun k => g (p k)) i n)
theorem cub_first {p : Nat → P3} {n : Int} (h : CurH p 0 n) : cubP p 0 n = p 0 := P3_ext fun g hg => by
  have s := h.sm hg
  rw [cub_at hg h]
  have e : sumW (wt 0 n) (fun k => g (p k)) 4 = g (p 0) * (n * n * n) := by simp only [sumW, wt]; grind
  rw [e] at s ⊢
  exact rnd_whole s
theorem cub_last {p : Nat → P3} {n : Int} (h : CurH p n n) : cubP p n n = p 3 := P3_ext fun g hg => by
  have s := h.sm hg
  rw [cub_at hg h]
  have e : sumW (wt n n) (fun k => g (p k)) 4 = g (p 3) * (n * n * n) := by simp only [sumW, wt]; grind
  rw [e] at s ⊢
  exact rnd_whole s
/-! along the sides -/
theorem row_ok {p : Nat → P3} (h : okB p 16 = true) (s : Int) (hs : s = 0 ∨ s = 1 ∨ s = 2 ∨ s = 3) : okB (rowF p s) 4 = true := okB_all.2 fun k hk => by
  rcases hs with rfl | rfl | rfl | rfl
  · exact okB_all.1 h k (by omega)
  · exact okB_all.1 h (4 * k + 3) (by omega)
  · exact okB_all.1 h (15 - k) (by omega)
  · exact okB_all.1 h (12 - 4 * k) (by omega)
theorem side_of {g : P3 → Int} (hg : Part g) {p q : Nat → P3} {i n i2 n2 j2 m2 c : Int} (h : PatH p i2 n2 j2 m2) (hc : CurH q i n) (h1 : 1 ≤ c) (hd : n2 * n2 * n2 * (m2 * m2 * m2) = n * n * n * c) (hs : sumW (wt2 i2 n2 j2 m2) (fun k => g (p k)) 16 = sumW (wt i n) (fun k => g (q k)) 4 * c) : g (cubP q i n) = g (ptP p i2 n2 j2 m2) := by
  have s := h.sm hg
  rw [cub_at hg hc, pt_at hg h]
  rw [hd, hs] at s ⊢
  exact (rnd_mul h1 (hc.sm hg) s).symm
theorem side0 {p : Nat → P3} {i n m : Int} (h : PatH p i n 0 m) : CurH (rowF p 0) i n ∧ cubP (rowF p 0) i n = ptP p i n 0 m := by
  have hc : CurH (rowF p 0) i n := ⟨h.n0, h.n1, h.i0, h.i1, row_ok h.hp 0 (by omega)⟩
  refine ⟨hc, P3_ext fun g hg => side_of hg h hc (cube_bd h.m0 h.m1).1 rfl ?_⟩
  show _ = sumW (wt i n) (fun k => g (p k)) 4 * (m * m * m)
  simp only [sumW, wt2, Nat.reduceMod, Nat.reduceDiv]
  rw [show wt 0 m 0 = m * m * m by simp [wt], show wt 0 m 1 = 0 by simp [wt], show wt 0 m 2 = 0 by simp [wt], show wt 0 m 3 = 0 by simp [wt]]
  generalize wt i n 0 = a0; generalize wt i n 1 = a1; generalize wt i n 2 = a2; generalize wt i n 3 = a3
  simp only [Int.mul_zero, Int.add_zero]
  grind
theorem side1 {p : Nat → P3} {i n m : Int} (h : PatH p m m i n) : CurH (rowF p 1) i n ∧ cubP (rowF p 1) i n = ptP p m m i n := by
  have hc : CurH (rowF p 1) i n := ⟨h.m0, h.m1, h.j0, h.j1, row_ok h.hp 1 (by omega)⟩
  refine ⟨hc, P3_ext fun g hg => side_of hg h hc (cube_bd h.n0 h.n1).1 (Int.mul_comm _ _) ?_⟩
  show _ = sumW (wt i n) (fun k => g (p (4 * k + 3))) 4 * (m * m * m)
  simp only [sumW, wt2, Nat.reduceMod, Nat.reduceDiv, Nat.reduceMul, Nat.reduceAdd]
  rw [show wt m m 0 = 0 by simp [wt], show wt m m 1 = 0 by simp [wt], show wt m m 2 = 0 by simp [wt], show wt m m 3 = m * m * m by simp [wt]]
  generalize wt i n 0 = a0; generalize wt i n 1 = a1; generalize wt i n 2 = a2; generalize wt i n 3 = a3
  simp only [Int.mul_zero, Int.zero_mul, Int.add_zero, Int.zero_add]
  grind
theorem wt_rev (i n : Int) : wt (n - i) n 0 = wt i n 3 ∧ wt (n - i) n 1 = wt i n 2 ∧ wt (n - i) n 2 = wt i n 1 ∧ wt (n - i) n 3 = wt i n 0 := by
  simp only [wt]
  refine ⟨?_, ?_, ?_, ?_⟩ <;> grind
theorem side2 {p : Nat → P3} {i n m : Int} (h : PatH p (n - i) n m m) : CurH (rowF p 2) i n ∧ cubP (rowF p 2) i n = ptP p (n - i) n m m := by
  have hc : CurH (rowF p 2) i n := ⟨h.n0, h.n1, by have := h.i1; omega, by have := h.i0; omega, row_ok h.hp 2 (by omega)⟩
  refine ⟨hc, P3_ext fun g hg => side_of hg h hc (cube_bd h.m0 h.m1).1 rfl ?_⟩
  show _ = sumW (wt i n) (fun k => g (p (15 - k))) 4 * (m * m * m)
  obtain ⟨e0, e1, e2, e3⟩ := wt_rev i n
  simp only [sumW, wt2, Nat.reduceMod, Nat.reduceDiv, Nat.reduceSub]
  rw [e0, e1, e2, e3, show wt m m 0 = 0 by simp [wt], show wt m m 1 = 0 by simp [wt], show wt m m 2 = 0 by simp [wt], show wt m m 3 = m * m * m by simp [wt]]
  generalize wt i n 0 = a0; generalize wt i n 1 = a1; generalize wt i n 2 = a2; generalize wt i n 3 = a3
  simp only [Int.mul_zero, Int.zero_mul, Int.add_zero, Int.zero_add]
  grind
theorem side3 {p : Nat → P3} {i n m : Int} (h : PatH p 0 m (n - i) n) : CurH (rowF p 3) i n ∧ cubP (rowF p 3) i n = ptP p 0 m (n - i) n := by
  have hc : CurH (rowF p 3) i n := ⟨h.m0, h.m1, by have := h.j1; omega, by have := h.j0; omega, row_ok h.hp 3 (by omega)⟩
  refine ⟨hc, P3_ext fun g hg => side_of hg h hc (cube_bd h.n0 h.n1).1 (Int.mul_comm _ _) ?_⟩
  show _ = sumW (wt i n) (fun k => g (p (12 - 4 * k))) 4 * (m * m * m)
  obtain ⟨e0, e1, e2, e3⟩ := wt_rev i n
  simp only [sumW, wt2, Nat.reduceMod, Nat.reduceDiv, Nat.reduceMul, Nat.reduceSub]
  rw [e0, e1, e2, e3, show wt 0 m 0 = m * m * m by simp [wt], show wt 0 m 1 = 0 by simp [wt], show wt 0 m 2 = 0 by simp [wt], show wt 0 m 3 = 0 by simp [wt]]
  generalize wt i n 0 = a0; generalize wt i n 1 = a1; generalize wt i n 2 = a2; generalize wt i n 3 = a3
  simp only [Int.mul_zero, Int.zero_mul, Int.add_zero, Int.zero_add]
  grind
theorem corner0 {p : Nat → P3} {n : Int} (h : PatH p 0 n 0 n) : ptP p 0 n 0 n = p 0 := by
  obtain ⟨hc, e⟩ := side0 h
  rw [← e, cub_first hc]; rfl
theorem corner15 {p : Nat → P3} {n : Int} (h : PatH p n n n n) : ptP p n n n n = p 15 := by
  obtain ⟨hc, e⟩ := side1 h
  rw [← e, cub_last hc]; rfl
/-! moved; rising -/
def mvF (p : Nat → P3) (v : P3) (k : Nat) : P3 := ⟨(p k).x + v.x, (p k).y + v.y, (p k).z + v.z⟩
theorem cub_moved {p : Nat → P3} {v : P3} {i n : Int} (h : CurH p i n) (hm : CurH (mvF p v) i n) : cubP (mvF p v) i n = ⟨(cubP p i n).x + v.x, (cubP p i n).y + v.y, (cubP p i n).z + v.z⟩ := by
  have go : ∀ (g : P3 → Int) (c : Int), Part g → (∀ k, g (mvF p v k) = g (p k) + c) → g (cubP (mvF p v) i n) = g (cubP p i n) + c := fun g c hg hc => by
    have s := hm.sm hg
    rw [cub_at hg h, cub_at hg hm]
    have e : sumW (wt i n) (fun k => g (mvF p v k)) 4 = sumW (wt i n) (fun k => g (p k)) 4 + c * (n * n * n) := by
      rw [sumW_congr (v := wt i n) (y := fun k => g (p k) + c) 4 (fun k _ => ⟨rfl, hc k⟩), sumW_shift, wt_tot]
    rw [e] at s ⊢
    exact rnd_add (h.sm hg) s
  have x := go P3.x v.x part_x fun _ => rfl
  have y := go P3.y v.y part_y fun _ => rfl
  have z := go P3.z v.z part_z fun _ => rfl
  revert x y z
  generalize cubP (mvF p v) i n = a
  intro x y z
  cases a; simp_all
theorem cub_one {v : P3} {i n : Int} (h : CurH (fun _ => v) i n) : cubP (fun _ => v) i n = v := P3_ext fun g hg => by
  have s := h.sm hg
  rw [cub_at hg h]
  have e : sumW (wt i n) (fun _ => g v) 4 = g v * (n * n * n) := by rw [← wt_tot i n]; simp only [sumW, totW]; grind
  rw [e] at s ⊢
  exact rnd_whole s
theorem cub_flat {g : P3 → Int} (hg : Part g) {p : Nat → P3} {i n c : Int} (h : CurH p i n) (hc : ∀ k, k < 4 → g (p k) = c) : g (cubP p i n) = c := by
  have s := h.sm hg
  rw [cub_at hg h]
  have e : sumW (wt i n) (fun k => g (p k)) 4 = c * (n * n * n) := by
    rw [sumW_congr (v := wt i n) (y := fun _ => c) 4 (fun k hk => ⟨rfl, hc k hk⟩), ← wt_tot i n]; simp only [sumW, totW]; grind
  rw [e] at s ⊢
  exact rnd_whole s
theorem cub_rises {g : P3 → Int} (hg : Part g) {p : Nat → P3} {i n : Int} (h : CurH p i n) (h2 : CurH p (i + 1) n) (a : g (p 0) ≤ g (p 1)) (b : g (p 1) ≤ g (p 2)) (c : g (p 2) ≤ g (p 3)) : g (cubP p i n) ≤ g (cubP p (i + 1) n) := by
  rw [cub_at hg h, cub_at hg h2]
  exact rnd_mono (h.sm hg) (h2.sm hg) (rises (x := fun k => g (p k)) h.i0 (by have := h2.i1; omega) h.n1 a b c)
end Go.Proofs.Ytiaikceoodeboab
