/- Package curve: a curve's point, a patch's point. What textures tell: cells, blends of directions, lifted points. No program is reached but by the contracts' own numbers. The document's curves: a curve's point, a patch's point. A patch's sides: Row, the program's and the document's. How long a curve is, and how many parts it has: pure. Package rate: steps, Length. -/
import Derived.Test.YtpaehkjnefgaiaaC1
import Derived.Test.YtpaehkjnefgaiaaC2
namespace Go.Proofs.Ytpaehkjnefgaiaa
open Go.RowKit
set_option linter.unusedVariables false
set_option linter.unusedSimpArgs false
set_option linter.unnecessarySimpa false
set_option maxRecDepth 100000
def N3 : P3 := ⟨0, 0, 0⟩
def cubK (p : Nat → P3) (i n : Int) : Bool := thB i n && okB p 4
def cubP (p : Nat → P3) (i n : Int) : P3 := if cubK p i n = true then rnP (sumP (wt i n) p 4) (n * n * n) else N3
def ptK (p : Nat → P3) (i n j m : Int) : Bool := thB i n && thB j m && okB p 16
def ptP (p : Nat → P3) (i n j m : Int) : P3 := if ptK p i n j m = true then rnP (sumP (wt2 i n j m) p 16) (n * n * n * (m * m * m)) else N3
theorem thB_iff {i n : Int} : thB i n = true ↔ 1 ≤ n ∧ n ≤ 16 ∧ 0 ≤ i ∧ i ≤ n := decide_eq_true_iff
theorem cube2_bd {n m : Int} (h0 : 1 ≤ n) (h1 : n ≤ 16) (g0 : 1 ≤ m) (g1 : m ≤ 16) : 1 ≤ n * n * n * (m * m * m) ∧ n * n * n * (m * m * m) ≤ 16777216 := by
  obtain ⟨a, b⟩ := cube_bd h0 h1
  obtain ⟨c, d⟩ := cube_bd g0 g1
  generalize n * n * n = x at *
  generalize m * m * m = y at *
  have e := Int.mul_le_mul b d (by omega) (by omega)
  have f := Int.mul_le_mul a c (by omega) (by omega)
  omega
theorem cub_tn (p : Nat → P3) (i n : Int) (h : thB i n = false) : Gives Try.prog 83 #[.agg (ptsC 4 p), .int .i64 i, .int .i64 n] (.tuple #[.agg #[.int .i64 (cubP p i n).x, .int .i64 (cubP p i n).y, .int .i64 (cubP p i n).z], .bool (cubK p i n)]) := by
  have hk : cubK p i n = false := by unfold cubK; simp [h]
  rw [show cubP p i n = N3 by unfold cubP; rw [hk]; rfl, hk]
  have p1 := parted_any i n
  rw [h] at p1
  refine Gives.mk fun W => ?_
  go_enter Try.func83, Try.ntmps83
  go_wp2_with (first | (go_at_call 96; first | ((with_reducible refine (p1.at_ _).mono ?_); rintro e w' ⟨rfl, xg, rfl⟩)) | fail)
  refine bodyPost_ret (v := .tuple #[.agg #[.int .i64 N3.x, .int .i64 N3.y, .int .i64 N3.z], .bool false]) (by simp [results, Try.results83, go_sem, N3]) rfl ⟨rfl, (by repeat (first | exact Below.refl _ _ | refine bel_then ?_ _ | refine bel_grow ?_ _ | refine bel_alloc ?_ _ | refine bel_drew ?_ | refine bel_set ?_ (by simp) _ | refine bel_setRow ?_ (by first | omega | (simp; done) | (refine Nat.le_trans ?_ (top_le _ _); simp; done) | (refine Nat.le_succ_of_le (Nat.le_trans ?_ (top_le _ _)); simp; done) | (refine Nat.le_trans ?_ (top_le _ _); simp only [World.size_alloc]; refine Nat.le_succ_of_le (Nat.le_trans ?_ (top_le _ _)); simp; done)) _))⟩
set_option maxHeartbeats 1000000 in
theorem cub_bn (p : Nat → P3) (i n : Int) (h : thB i n = true) (hp : okB p 4 = false) : Gives Try.prog 83 #[.agg (ptsC 4 p), .int .i64 i, .int .i64 n] (.tuple #[.agg #[.int .i64 (cubP p i n).x, .int .i64 (cubP p i n).y, .int .i64 (cubP p i n).z], .bool (cubK p i n)]) := by
  have hk : cubK p i n = false := by unfold cubK; simp [hp]
  rw [show cubP p i n = N3 by unfold cubP; rw [hk]; rfl, hk]
  refine Gives.mk fun W => ?_
  have hB0 : Blk ((W.alloc (.cells (ptsC 4 p) 26)).alloc (.cells #[.int .i64 0, .int .i64 0, .int .i64 0] 23)) W.heap.size 26 (ptsC 4 p) := (Blk.new _ _ _ _ rfl).alloc _
  have hR0 : Blk ((W.alloc (.cells (ptsC 4 p) 26)).alloc (.cells #[.int .i64 0, .int .i64 0, .int .i64 0] 23)) (W.heap.size + 1) 23 #[.int .i64 0, .int .i64 0, .int .i64 0] := Blk.new _ _ _ _ (by simp)
  have hb0 : Below W.heap.size W ((W.alloc (.cells (ptsC 4 p) 26)).alloc (.cells #[.int .i64 0, .int .i64 0, .int .i64 0] 23)) := bel_alloc (bel_alloc (Below.refl _ _) _) _
  have p1 := parted_any i n
  rw [h] at p1
  go_enter Try.func83, Try.ntmps83
  go_upto_region 1 with (fail)
  generalize (W.alloc (.cells (ptsC 4 p) 26)).alloc (.cells #[.int .i64 0, .int .i64 0, .int .i64 0] 23) = W0 at *
  have hbx := hB0.lt
  have cB : ∀ x : More, Calls Try.prog 97 #[.slice (some ⟨W.heap.size, 0, none⟩) 4 4] (grow W0 x) fun e W' => e = .returned (.bool false) ∧ Below (grow W0 x).heap.size (grow W0 x) W' := fun x => by
    have := bounded_any (grow W0 x) W.heap.size 4 4 26 p (hB0.grow x) (by omega)
    rwa [hp] at this
  go_upto_region 2 with (first | (go_at_call 96; first | ((with_reducible refine (p1.at_ _).mono ?_); rintro e w' ⟨rfl, xg, rfl⟩)) | (go_at_call 97; (with_reducible refine (cB _).mono ?_); rintro e W1 ⟨rfl, hb1⟩) | fail)
  have hR1 : Blk W1 (W.heap.size + 1) 23 #[.int .i64 0, .int .i64 0, .int .i64 0] := (hR0.grow _ : Blk (grow W0 _) _ _ _).below hb1
  have hB1 : Below W.heap.size W W1 := bel_trans (bel_grow hb0 _) hb1
  clear hb1 cB
  have r0 := hR1.cell 0
  have r1 := hR1.cell 1
  have r2 := hR1.cell 2
  have rl := hR1.lt
  have f0 := hR1.frozen 0
  have f1 := hR1.frozen 1
  have f2 := hR1.frozen 2
  have hR3 := ((hR1.set 0 (.int .i64 0)).set 1 (.int .i64 0)).set 2 (.int .i64 0)
  have hB6 : Below W.heap.size W (((W1.setCell ⟨W.heap.size + 1, 0, none⟩ (.int .i64 0)).setCell ⟨W.heap.size + 1, 1, none⟩ (.int .i64 0)).setCell ⟨W.heap.size + 1, 2, none⟩ (.int .i64 0)) := bel_set (bel_set (bel_set hB1 (p := ⟨W.heap.size + 1, 0, none⟩) (by simp) _) (p := ⟨W.heap.size + 1, 1, none⟩) (by simp) _) (p := ⟨W.heap.size + 1, 2, none⟩) (by simp) _
  go_wp2
  generalize ((W1.setCell ⟨W.heap.size + 1, 0, none⟩ (.int .i64 0)).setCell ⟨W.heap.size + 1, 1, none⟩ (.int .i64 0)).setCell ⟨W.heap.size + 1, 2, none⟩ (.int .i64 0) = WE at *
  have w0 := hR3.cell 0
  have w1 := hR3.cell 1
  have w2 := hR3.cell 2
  refine bodyPost_ret (v := .tuple #[.agg #[.int .i64 N3.x, .int .i64 N3.y, .int .i64 N3.z], .bool false]) (by simp [results, Try.results83, go_sem, N3, w0, w1, w2]) rfl ⟨rfl, hB6⟩
set_option maxHeartbeats 2000000 in
theorem cub_ys (p : Nat → P3) (i n : Int) (h : thB i n = true) (hp : okB p 4 = true) : Gives Try.prog 83 #[.agg (ptsC 4 p), .int .i64 i, .int .i64 n] (.tuple #[.agg #[.int .i64 (cubP p i n).x, .int .i64 (cubP p i n).y, .int .i64 (cubP p i n).z], .bool (cubK p i n)]) := by
  have hk : cubK p i n = true := by unfold cubK; simp [h, hp]
  rw [show cubP p i n = rnP (sumP (wt i n) p 4) (n * n * n) by unfold cubP; rw [hk]; rfl, hk]
  refine Gives.mk fun W => ?_
  have hB0 : Blk ((W.alloc (.cells (ptsC 4 p) 26)).alloc (.cells #[.int .i64 0, .int .i64 0, .int .i64 0] 23)) W.heap.size 26 (ptsC 4 p) := (Blk.new _ _ _ _ rfl).alloc _
  have hR0 : Blk ((W.alloc (.cells (ptsC 4 p) 26)).alloc (.cells #[.int .i64 0, .int .i64 0, .int .i64 0] 23)) (W.heap.size + 1) 23 #[.int .i64 0, .int .i64 0, .int .i64 0] := Blk.new _ _ _ _ (by simp)
  have hb0 : Below W.heap.size W ((W.alloc (.cells (ptsC 4 p) 26)).alloc (.cells #[.int .i64 0, .int .i64 0, .int .i64 0] 23)) := bel_alloc (bel_alloc (Below.refl _ _) _) _
  have p1 := parted_any i n
  rw [h] at p1
  go_enter Try.func83, Try.ntmps83
  go_upto_region 1 with (fail)
  generalize (W.alloc (.cells (ptsC 4 p) 26)).alloc (.cells #[.int .i64 0, .int .i64 0, .int .i64 0] 23) = W0 at *
  have hbx := hB0.lt
  have kw := weights_G (thB_iff.1 h)
  have kc := cube_G (n := n) (by have := thB_iff.1 h; omega) (by have := thB_iff.1 h; omega)
  have cB : ∀ x : More, Calls Try.prog 97 #[.slice (some ⟨W.heap.size, 0, none⟩) 4 4] (grow W0 x) fun e W' => e = .returned (.bool true) ∧ Below (grow W0 x).heap.size (grow W0 x) W' := fun x => by
    have := bounded_any (grow W0 x) W.heap.size 4 4 26 p (hB0.grow x) (by omega)
    rwa [hp] at this
  go_upto_region 3 with (first | (go_at_call 96; first | ((with_reducible refine (p1.at_ _).mono ?_); rintro e w' ⟨rfl, xg, rfl⟩)) | (go_at_call 97; (with_reducible refine (cB _).mono ?_); rintro e W1 ⟨rfl, hb1⟩) | fail)
  have hP1 : Blk W1 W.heap.size 26 (ptsC 4 p) := (hB0.grow _ : Blk (grow W0 _) _ _ _).below hb1
  have hR1 : Blk W1 (W.heap.size + 1) 23 #[.int .i64 0, .int .i64 0, .int .i64 0] := (hR0.grow _ : Blk (grow W0 _) _ _ _).below hb1
  have hB1 : Below W.heap.size W W1 := bel_trans (bel_grow hb0 _) hb1
  have hW1 : W.heap.size + 1 < W1.heap.size := hR1.lt
  clear hb1 cB hb0 hB0 hR0 hbx
  unfold wtV at kw
  go_upto_region 4 with (first | (go_at_call 98; first | ((with_reducible refine (kw.at_ _).mono ?_); rintro e w' ⟨rfl, xg, rfl⟩)) | fail)
  have hP2 : Blk ((grow W1 xg).alloc (.cells #[.int .i64 (wt i n 0), .int .i64 (wt i n 1), .int .i64 (wt i n 2), .int .i64 (wt i n 3)] 25)) W.heap.size 26 (ptsC 4 p) := (hP1.grow xg).alloc _
  have hR2 : Blk ((grow W1 xg).alloc (.cells #[.int .i64 (wt i n 0), .int .i64 (wt i n 1), .int .i64 (wt i n 2), .int .i64 (wt i n 3)] 25)) (W.heap.size + 1) 23 #[.int .i64 0, .int .i64 0, .int .i64 0] := (hR1.grow xg).alloc _
  have hU2 : WtB ((grow W1 xg).alloc (.cells #[.int .i64 (wt i n 0), .int .i64 (wt i n 1), .int .i64 (wt i n 2), .int .i64 (wt i n 3)] 25)) (grow W1 xg).heap.size (wt i n) := WtB.of (Blk.new _ _ _ _ rfl)
  have hB2 : Below W.heap.size W ((grow W1 xg).alloc (.cells #[.int .i64 (wt i n 0), .int .i64 (wt i n 1), .int .i64 (wt i n 2), .int .i64 (wt i n 3)] 25)) := bel_alloc (bel_grow hB1 xg) _
  generalize ((grow W1 xg).alloc (.cells #[.int .i64 (wt i n 0), .int .i64 (wt i n 1), .int .i64 (wt i n 2), .int .i64 (wt i n 3)] 25)) = W2 at *
  generalize (grow W1 xg).heap.size = bw at *
  have hbp := hP2.lt
  have hbu := hU2.1
  have kM : ∀ x : More, Calls Try.prog 99 #[.int .i64 (n * n * n), .slice (some ⟨W.heap.size, 0, none⟩) 4 4, .func (.func 101) #[] #[.pointer (some ⟨bw, 0, none⟩)]] (grow W2 x) fun e w' => e = .returned (.agg #[.int .i64 (rnP (sumP (wt i n) p 4) (n * n * n)).x, .int .i64 (rnP (sumP (wt i n) p 4) (n * n * n)).y, .int .i64 (rnP (sumP (wt i n) p 4) (n * n * n)).z]) ∧ Below (grow W2 x).heap.size (grow W2 x) w' := fun x =>
    mean1_any (grow W2 x) bw (wt i n) (hU2.below (x.kept W2)) W.heap.size 4 26 p (hP2.grow x) (n * n * n) (fun k _ => wt_pos (by have := thB_iff.1 h; omega) (by have := thB_iff.1 h; omega) k) (by rw [wt_tot]; have := cube_bd (n := n) (by have := thB_iff.1 h; omega) (by have := thB_iff.1 h; omega); omega) hp (by have := cube_bd (n := n) (by have := thB_iff.1 h; omega) (by have := thB_iff.1 h; omega); omega) (by have := cube_bd (n := n) (by have := thB_iff.1 h; omega) (by have := thB_iff.1 h; omega); omega)
  generalize hrn : rnP (sumP (wt i n) p 4) (n * n * n) = rn at *
  replace hrn := Lib.hid hrn
  refine wp_region_tail 5 ?_ (by kernel_rfl) (by kernel_rfl) (by kernel_rfl) (fun x => ?_) (fun x => ?_)
  rotate_left
  · simp only [List.take_succ_cons, List.take_zero]
    repeat (go_big_quiet_step (((first | with_reducible exact kc.quiet _ | with_reducible exact kc.quiet2 _ _ | with_reducible exact cq1 _ (kM _) | with_reducible exact cq2 _ _ (kM _)))))
    refine wpQuiet_nil ?_
    exact rfl
  simp only [List.drop_succ_cons, List.drop_zero]
  try simp only [Act.put, List.setIfInBounds_toArray, List.set_cons_succ, List.set_cons_zero]
  have hR3 := hR2.grow x
  have hB3 := bel_grow hB2 x
  clear hR2 hB2 hP2 hU2 kM
  generalize grow W2 x = W3 at *
  have r0 := hR3.cell 0
  have r1 := hR3.cell 1
  have r2 := hR3.cell 2
  have rl := hR3.lt
  have f0 := hR3.frozen 0
  have f1 := hR3.frozen 1
  have f2 := hR3.frozen 2
  have hR4 := ((hR3.set 0 (.int .i64 rn.x)).set 1 (.int .i64 rn.y)).set 2 (.int .i64 rn.z)
  have hB6 : Below W.heap.size W (((W3.setCell ⟨W.heap.size + 1, 0, none⟩ (.int .i64 rn.x)).setCell ⟨W.heap.size + 1, 1, none⟩ (.int .i64 rn.y)).setCell ⟨W.heap.size + 1, 2, none⟩ (.int .i64 rn.z)) := bel_set (bel_set (bel_set hB3 (p := ⟨W.heap.size + 1, 0, none⟩) (by simp) _) (p := ⟨W.heap.size + 1, 1, none⟩) (by simp) _) (p := ⟨W.heap.size + 1, 2, none⟩) (by simp) _
  go_wp2
  generalize ((W3.setCell ⟨W.heap.size + 1, 0, none⟩ (.int .i64 rn.x)).setCell ⟨W.heap.size + 1, 1, none⟩ (.int .i64 rn.y)).setCell ⟨W.heap.size + 1, 2, none⟩ (.int .i64 rn.z) = WE at *
  have w0 := hR4.cell 0
  have w1 := hR4.cell 1
  have w2 := hR4.cell 2
  refine bodyPost_ret (v := .tuple #[.agg #[.int .i64 rn.x, .int .i64 rn.y, .int .i64 rn.z], .bool true]) (by simp [results, Try.results83, go_sem, w0, w1, w2]) rfl ⟨by rw [hrn.out], hB6⟩
theorem pt_tn (p : Nat → P3) (i n j m : Int) (h : thB i n = false) : Gives Try.prog 84 #[.agg (ptsC 16 p), .int .i64 i, .int .i64 n, .int .i64 j, .int .i64 m] (.tuple #[.agg #[.int .i64 (ptP p i n j m).x, .int .i64 (ptP p i n j m).y, .int .i64 (ptP p i n j m).z], .bool (ptK p i n j m)]) := by
  have hk : ptK p i n j m = false := by unfold ptK; simp [h]
  rw [show ptP p i n j m = N3 by unfold ptP; rw [hk]; rfl, hk]
  have p1 := parted_any i n
  have p2 := parted_any j m
  rw [h] at p1
  refine Gives.mk fun W => ?_
  go_enter Try.func84, Try.ntmps84
  go_wp2_with (first | (go_at_call 96; first | ((with_reducible refine (p1.at_ _).mono ?_); rintro e w' ⟨rfl, xg, rfl⟩) | ((with_reducible refine (p2.at_ _).mono ?_); rintro e w' ⟨rfl, xg, rfl⟩)) | fail)
  refine bodyPost_ret (v := .tuple #[.agg #[.int .i64 N3.x, .int .i64 N3.y, .int .i64 N3.z], .bool false]) (by simp [results, Try.results84, go_sem, N3]) rfl ⟨rfl, (by repeat (first | exact Below.refl _ _ | refine bel_then ?_ _ | refine bel_grow ?_ _ | refine bel_alloc ?_ _ | refine bel_drew ?_ | refine bel_set ?_ (by simp) _ | refine bel_setRow ?_ (by first | omega | (simp; done) | (refine Nat.le_trans ?_ (top_le _ _); simp; done) | (refine Nat.le_succ_of_le (Nat.le_trans ?_ (top_le _ _)); simp; done) | (refine Nat.le_trans ?_ (top_le _ _); simp only [World.size_alloc]; refine Nat.le_succ_of_le (Nat.le_trans ?_ (top_le _ _)); simp; done)) _))⟩
theorem pt_tm (p : Nat → P3) (i n j m : Int) (h : thB i n = true ∧ thB j m = false) : Gives Try.prog 84 #[.agg (ptsC 16 p), .int .i64 i, .int .i64 n, .int .i64 j, .int .i64 m] (.tuple #[.agg #[.int .i64 (ptP p i n j m).x, .int .i64 (ptP p i n j m).y, .int .i64 (ptP p i n j m).z], .bool (ptK p i n j m)]) := by
  have hk : ptK p i n j m = false := by unfold ptK; simp [h]
  rw [show ptP p i n j m = N3 by unfold ptP; rw [hk]; rfl, hk]
  have p1 := parted_any i n
  have p2 := parted_any j m
  rw [h.1] at p1
  rw [h.2] at p2
  refine Gives.mk fun W => ?_
  go_enter Try.func84, Try.ntmps84
  go_wp2_with (first | (go_at_call 96; first | ((with_reducible refine (p1.at_ _).mono ?_); rintro e w' ⟨rfl, xg, rfl⟩) | ((with_reducible refine (p2.at_ _).mono ?_); rintro e w' ⟨rfl, xg, rfl⟩)) | fail)
  refine bodyPost_ret (v := .tuple #[.agg #[.int .i64 N3.x, .int .i64 N3.y, .int .i64 N3.z], .bool false]) (by simp [results, Try.results84, go_sem, N3]) rfl ⟨rfl, (by repeat (first | exact Below.refl _ _ | refine bel_then ?_ _ | refine bel_grow ?_ _ | refine bel_alloc ?_ _ | refine bel_drew ?_ | refine bel_set ?_ (by simp) _ | refine bel_setRow ?_ (by first | omega | (simp; done) | (refine Nat.le_trans ?_ (top_le _ _); simp; done) | (refine Nat.le_succ_of_le (Nat.le_trans ?_ (top_le _ _)); simp; done) | (refine Nat.le_trans ?_ (top_le _ _); simp only [World.size_alloc]; refine Nat.le_succ_of_le (Nat.le_trans ?_ (top_le _ _)); simp; done)) _))⟩
set_option maxHeartbeats 1000000 in
theorem pt_bn (p : Nat → P3) (i n j m : Int) (h : thB i n = true ∧ thB j m = true) (hp : okB p 16 = false) : Gives Try.prog 84 #[.agg (ptsC 16 p), .int .i64 i, .int .i64 n, .int .i64 j, .int .i64 m] (.tuple #[.agg #[.int .i64 (ptP p i n j m).x, .int .i64 (ptP p i n j m).y, .int .i64 (ptP p i n j m).z], .bool (ptK p i n j m)]) := by
  have hk : ptK p i n j m = false := by unfold ptK; simp [hp]
  rw [show ptP p i n j m = N3 by unfold ptP; rw [hk]; rfl, hk]
  refine Gives.mk fun W => ?_
  have hB0 : Blk ((W.alloc (.cells (ptsC 16 p) 24)).alloc (.cells #[.int .i64 0, .int .i64 0, .int .i64 0] 23)) W.heap.size 24 (ptsC 16 p) := (Blk.new _ _ _ _ rfl).alloc _
  have hR0 : Blk ((W.alloc (.cells (ptsC 16 p) 24)).alloc (.cells #[.int .i64 0, .int .i64 0, .int .i64 0] 23)) (W.heap.size + 1) 23 #[.int .i64 0, .int .i64 0, .int .i64 0] := Blk.new _ _ _ _ (by simp)
  have hb0 : Below W.heap.size W ((W.alloc (.cells (ptsC 16 p) 24)).alloc (.cells #[.int .i64 0, .int .i64 0, .int .i64 0] 23)) := bel_alloc (bel_alloc (Below.refl _ _) _) _
  have p1 := parted_any i n
  have p2 := parted_any j m
  rw [h.1] at p1
  rw [h.2] at p2
  go_enter Try.func84, Try.ntmps84
  go_upto_region 1 with (fail)
  generalize (W.alloc (.cells (ptsC 16 p) 24)).alloc (.cells #[.int .i64 0, .int .i64 0, .int .i64 0] 23) = W0 at *
  have hbx := hB0.lt
  have cB : ∀ x : More, Calls Try.prog 97 #[.slice (some ⟨W.heap.size, 0, none⟩) 16 16] (grow W0 x) fun e W' => e = .returned (.bool false) ∧ Below (grow W0 x).heap.size (grow W0 x) W' := fun x => by
    have := bounded_any (grow W0 x) W.heap.size 16 16 24 p (hB0.grow x) (by omega)
    rwa [hp] at this
  go_upto_region 2 with (first | (go_at_call 96; first | ((with_reducible refine (p1.at_ _).mono ?_); rintro e w' ⟨rfl, xg, rfl⟩) | ((with_reducible refine (p2.at_ _).mono ?_); rintro e w' ⟨rfl, xg, rfl⟩)) | (go_at_call 97; (with_reducible refine (cB _).mono ?_); rintro e W1 ⟨rfl, hb1⟩) | fail)
  have hR1 : Blk W1 (W.heap.size + 1) 23 #[.int .i64 0, .int .i64 0, .int .i64 0] := (hR0.grow _ : Blk (grow W0 _) _ _ _).below hb1
  have hB1 : Below W.heap.size W W1 := bel_trans (bel_grow hb0 _) hb1
  clear hb1 cB
  have r0 := hR1.cell 0
  have r1 := hR1.cell 1
  have r2 := hR1.cell 2
  have rl := hR1.lt
  have f0 := hR1.frozen 0
  have f1 := hR1.frozen 1
  have f2 := hR1.frozen 2
  have hR3 := ((hR1.set 0 (.int .i64 0)).set 1 (.int .i64 0)).set 2 (.int .i64 0)
  have hB6 : Below W.heap.size W (((W1.setCell ⟨W.heap.size + 1, 0, none⟩ (.int .i64 0)).setCell ⟨W.heap.size + 1, 1, none⟩ (.int .i64 0)).setCell ⟨W.heap.size + 1, 2, none⟩ (.int .i64 0)) := bel_set (bel_set (bel_set hB1 (p := ⟨W.heap.size + 1, 0, none⟩) (by simp) _) (p := ⟨W.heap.size + 1, 1, none⟩) (by simp) _) (p := ⟨W.heap.size + 1, 2, none⟩) (by simp) _
  go_wp2
  generalize ((W1.setCell ⟨W.heap.size + 1, 0, none⟩ (.int .i64 0)).setCell ⟨W.heap.size + 1, 1, none⟩ (.int .i64 0)).setCell ⟨W.heap.size + 1, 2, none⟩ (.int .i64 0) = WE at *
  have w0 := hR3.cell 0
  have w1 := hR3.cell 1
  have w2 := hR3.cell 2
  refine bodyPost_ret (v := .tuple #[.agg #[.int .i64 N3.x, .int .i64 N3.y, .int .i64 N3.z], .bool false]) (by simp [results, Try.results84, go_sem, N3, w0, w1, w2]) rfl ⟨rfl, hB6⟩
set_option maxHeartbeats 2000000 in
theorem pt_ys (p : Nat → P3) (i n j m : Int) (h : thB i n = true ∧ thB j m = true) (hp : okB p 16 = true) : Gives Try.prog 84 #[.agg (ptsC 16 p), .int .i64 i, .int .i64 n, .int .i64 j, .int .i64 m] (.tuple #[.agg #[.int .i64 (ptP p i n j m).x, .int .i64 (ptP p i n j m).y, .int .i64 (ptP p i n j m).z], .bool (ptK p i n j m)]) := by
  have hk : ptK p i n j m = true := by unfold ptK; simp [h, hp]
  rw [show ptP p i n j m = rnP (sumP (wt2 i n j m) p 16) (n * n * n * (m * m * m)) by unfold ptP; rw [hk]; rfl, hk]
  refine Gives.mk fun W => ?_
  have hB0 : Blk ((W.alloc (.cells (ptsC 16 p) 24)).alloc (.cells #[.int .i64 0, .int .i64 0, .int .i64 0] 23)) W.heap.size 24 (ptsC 16 p) := (Blk.new _ _ _ _ rfl).alloc _
  have hR0 : Blk ((W.alloc (.cells (ptsC 16 p) 24)).alloc (.cells #[.int .i64 0, .int .i64 0, .int .i64 0] 23)) (W.heap.size + 1) 23 #[.int .i64 0, .int .i64 0, .int .i64 0] := Blk.new _ _ _ _ (by simp)
  have hb0 : Below W.heap.size W ((W.alloc (.cells (ptsC 16 p) 24)).alloc (.cells #[.int .i64 0, .int .i64 0, .int .i64 0] 23)) := bel_alloc (bel_alloc (Below.refl _ _) _) _
  have p1 := parted_any i n
  have p2 := parted_any j m
  rw [h.1] at p1
  rw [h.2] at p2
  go_enter Try.func84, Try.ntmps84
  go_upto_region 1 with (fail)
  generalize (W.alloc (.cells (ptsC 16 p) 24)).alloc (.cells #[.int .i64 0, .int .i64 0, .int .i64 0] 23) = W0 at *
  have hbx := hB0.lt
  have kw := weights_G (thB_iff.1 h.1)
  have kw2 := weights_G (thB_iff.1 h.2)
  have kc := cube_G (n := n) (by have := thB_iff.1 h.1; omega) (by have := thB_iff.1 h.1; omega)
  have kc2 := cube_G (n := m) (by have := thB_iff.1 h.2; omega) (by have := thB_iff.1 h.2; omega)
  have ed : wrap64 (n * n * n * (m * m * m)) = n * n * n * (m * m * m) := wrap_id (by have := cube2_bd (n := n) (m := m) (by have := thB_iff.1 h.1; omega) (by have := thB_iff.1 h.1; omega) (by have := thB_iff.1 h.2; omega) (by have := thB_iff.1 h.2; omega); omega) (by have := cube2_bd (n := n) (m := m) (by have := thB_iff.1 h.1; omega) (by have := thB_iff.1 h.1; omega) (by have := thB_iff.1 h.2; omega) (by have := thB_iff.1 h.2; omega); omega)
  have cB : ∀ x : More, Calls Try.prog 97 #[.slice (some ⟨W.heap.size, 0, none⟩) 16 16] (grow W0 x) fun e W' => e = .returned (.bool true) ∧ Below (grow W0 x).heap.size (grow W0 x) W' := fun x => by
    have := bounded_any (grow W0 x) W.heap.size 16 16 24 p (hB0.grow x) (by omega)
    rwa [hp] at this
  go_upto_region 3 with (first | (go_at_call 96; first | ((with_reducible refine (p1.at_ _).mono ?_); rintro e w' ⟨rfl, xg, rfl⟩) | ((with_reducible refine (p2.at_ _).mono ?_); rintro e w' ⟨rfl, xg, rfl⟩)) | (go_at_call 97; (with_reducible refine (cB _).mono ?_); rintro e W1 ⟨rfl, hb1⟩) | fail)
  have hP1 : Blk W1 W.heap.size 24 (ptsC 16 p) := (hB0.grow _ : Blk (grow W0 _) _ _ _).below hb1
  have hR1 : Blk W1 (W.heap.size + 1) 23 #[.int .i64 0, .int .i64 0, .int .i64 0] := (hR0.grow _ : Blk (grow W0 _) _ _ _).below hb1
  have hB1 : Below W.heap.size W W1 := bel_trans (bel_grow hb0 _) hb1
  have hW1 : W.heap.size + 1 < W1.heap.size := hR1.lt
  clear hb1 cB hb0 hB0 hR0 hbx
  unfold wtV at kw kw2
  go_upto_region 4 with (first | (go_at_call 98; first | ((with_reducible refine (kw.at_ _).mono ?_); rintro e w' ⟨rfl, xg, rfl⟩) | ((with_reducible refine (kw2.at_ _).mono ?_); rintro e w' ⟨rfl, xh, rfl⟩)) | fail)
  have hP2 : Blk (((grow W1 (xg.then xh)).alloc (.cells #[.int .i64 (wt i n 0), .int .i64 (wt i n 1), .int .i64 (wt i n 2), .int .i64 (wt i n 3)] 25)).alloc (.cells #[.int .i64 (wt j m 0), .int .i64 (wt j m 1), .int .i64 (wt j m 2), .int .i64 (wt j m 3)] 25)) W.heap.size 24 (ptsC 16 p) := ((hP1.grow _).alloc _).alloc _
  have hR2 : Blk (((grow W1 (xg.then xh)).alloc (.cells #[.int .i64 (wt i n 0), .int .i64 (wt i n 1), .int .i64 (wt i n 2), .int .i64 (wt i n 3)] 25)).alloc (.cells #[.int .i64 (wt j m 0), .int .i64 (wt j m 1), .int .i64 (wt j m 2), .int .i64 (wt j m 3)] 25)) (W.heap.size + 1) 23 #[.int .i64 0, .int .i64 0, .int .i64 0] := ((hR1.grow _).alloc _).alloc _
  have hU2 : WtB (((grow W1 (xg.then xh)).alloc (.cells #[.int .i64 (wt i n 0), .int .i64 (wt i n 1), .int .i64 (wt i n 2), .int .i64 (wt i n 3)] 25)).alloc (.cells #[.int .i64 (wt j m 0), .int .i64 (wt j m 1), .int .i64 (wt j m 2), .int .i64 (wt j m 3)] 25)) (grow W1 (xg.then xh)).heap.size (wt i n) := WtB.of ((Blk.new _ _ _ _ rfl).alloc _)
  have hV2 : WtB (((grow W1 (xg.then xh)).alloc (.cells #[.int .i64 (wt i n 0), .int .i64 (wt i n 1), .int .i64 (wt i n 2), .int .i64 (wt i n 3)] 25)).alloc (.cells #[.int .i64 (wt j m 0), .int .i64 (wt j m 1), .int .i64 (wt j m 2), .int .i64 (wt j m 3)] 25)) ((grow W1 (xg.then xh)).heap.size + 1) (wt j m) := WtB.of (Blk.new _ _ _ _ (by simp))
  have hB2 : Below W.heap.size W (((grow W1 (xg.then xh)).alloc (.cells #[.int .i64 (wt i n 0), .int .i64 (wt i n 1), .int .i64 (wt i n 2), .int .i64 (wt i n 3)] 25)).alloc (.cells #[.int .i64 (wt j m 0), .int .i64 (wt j m 1), .int .i64 (wt j m 2), .int .i64 (wt j m 3)] 25)) := bel_alloc (bel_alloc (bel_grow hB1 _) _) _
  generalize (((grow W1 (xg.then xh)).alloc (.cells #[.int .i64 (wt i n 0), .int .i64 (wt i n 1), .int .i64 (wt i n 2), .int .i64 (wt i n 3)] 25)).alloc (.cells #[.int .i64 (wt j m 0), .int .i64 (wt j m 1), .int .i64 (wt j m 2), .int .i64 (wt j m 3)] 25)) = W2 at *
  generalize (grow W1 (xg.then xh)).heap.size = bw at *
  have hbp := hP2.lt
  have hbu := hU2.1
  have hbv := hV2.1
  have kM : ∀ x : More, Calls Try.prog 99 #[.int .i64 (n * n * n * (m * m * m)), .slice (some ⟨W.heap.size, 0, none⟩) 16 16, .func (.func 102) #[] #[.pointer (some ⟨bw, 0, none⟩), .pointer (some ⟨bw + 1, 0, none⟩)]] (grow W2 x) fun e w' => e = .returned (.agg #[.int .i64 (rnP (sumP (wt2 i n j m) p 16) (n * n * n * (m * m * m))).x, .int .i64 (rnP (sumP (wt2 i n j m) p 16) (n * n * n * (m * m * m))).y, .int .i64 (rnP (sumP (wt2 i n j m) p 16) (n * n * n * (m * m * m))).z]) ∧ Below (grow W2 x).heap.size (grow W2 x) w' := fun x =>
    mean2_any (grow W2 x) bw (bw + 1) (wt i n) (wt j m) (wt2 i n j m) rfl (hU2.below (x.kept W2)) (hV2.below (x.kept W2)) W.heap.size 16 24 p (hP2.grow x) (n * n * n * (m * m * m)) (fun k _ => wt2_pos (by have := thB_iff.1 h.1; omega) (by have := thB_iff.1 h.1; omega) (by have := thB_iff.1 h.2; omega) (by have := thB_iff.1 h.2; omega) k) (by rw [wt2_tot]; exact (cube2_bd (by have := thB_iff.1 h.1; omega) (by have := thB_iff.1 h.1; omega) (by have := thB_iff.1 h.2; omega) (by have := thB_iff.1 h.2; omega)).2) hp (cube2_bd (by have := thB_iff.1 h.1; omega) (by have := thB_iff.1 h.1; omega) (by have := thB_iff.1 h.2; omega) (by have := thB_iff.1 h.2; omega)).1 (cube2_bd (by have := thB_iff.1 h.1; omega) (by have := thB_iff.1 h.1; omega) (by have := thB_iff.1 h.2; omega) (by have := thB_iff.1 h.2; omega)).2
  generalize hrn : rnP (sumP (wt2 i n j m) p 16) (n * n * n * (m * m * m)) = rn at *
  replace hrn := Lib.hid hrn
  generalize n * n * n = cn at kc ed kM
  generalize m * m * m = cm at kc2 ed kM
  refine wp_region_tail 8 ?_ (by kernel_rfl) (by kernel_rfl) (by kernel_rfl) (fun x => ?_) (fun x => ?_)
  rotate_left
  · simp only [List.take_succ_cons, List.take_zero]
    repeat (go_big_quiet_step (((first | with_reducible exact kc.quiet _ | with_reducible exact kc.quiet2 _ _ | with_reducible exact kc2.quiet _ | with_reducible exact kc2.quiet2 _ _ | with_reducible exact cq1 _ (kM _) | with_reducible exact cq2 _ _ (kM _)))))
    refine wpQuiet_nil ?_
    exact rfl
  simp only [List.drop_succ_cons, List.drop_zero]
  try simp only [Act.put, List.setIfInBounds_toArray, List.set_cons_succ, List.set_cons_zero]
  have hR3 := hR2.grow x
  have hB3 := bel_grow hB2 x
  clear hR2 hB2 hP2 hU2 hV2 kM
  generalize grow W2 x = W3 at *
  have r0 := hR3.cell 0
  have r1 := hR3.cell 1
  have r2 := hR3.cell 2
  have rl := hR3.lt
  have f0 := hR3.frozen 0
  have f1 := hR3.frozen 1
  have f2 := hR3.frozen 2
  have hR4 := ((hR3.set 0 (.int .i64 rn.x)).set 1 (.int .i64 rn.y)).set 2 (.int .i64 rn.z)
  have hB6 : Below W.heap.size W (((W3.setCell ⟨W.heap.size + 1, 0, none⟩ (.int .i64 rn.x)).setCell ⟨W.heap.size + 1, 1, none⟩ (.int .i64 rn.y)).setCell ⟨W.heap.size + 1, 2, none⟩ (.int .i64 rn.z)) := bel_set (bel_set (bel_set hB3 (p := ⟨W.heap.size + 1, 0, none⟩) (by simp) _) (p := ⟨W.heap.size + 1, 1, none⟩) (by simp) _) (p := ⟨W.heap.size + 1, 2, none⟩) (by simp) _
  go_wp2
  generalize ((W3.setCell ⟨W.heap.size + 1, 0, none⟩ (.int .i64 rn.x)).setCell ⟨W.heap.size + 1, 1, none⟩ (.int .i64 rn.y)).setCell ⟨W.heap.size + 1, 2, none⟩ (.int .i64 rn.z) = WE at *
  have w0 := hR4.cell 0
  have w1 := hR4.cell 1
  have w2 := hR4.cell 2
  refine bodyPost_ret (v := .tuple #[.agg #[.int .i64 rn.x, .int .i64 rn.y, .int .i64 rn.z], .bool true]) (by simp [results, Try.results84, go_sem, w0, w1, w2]) rfl ⟨by rw [hrn.out], hB6⟩
theorem cub_any (p : Nat → P3) (i n : Int) : Gives Try.prog 83 #[.agg (ptsC 4 p), .int .i64 i, .int .i64 n] (.tuple #[.agg #[.int .i64 (cubP p i n).x, .int .i64 (cubP p i n).y, .int .i64 (cubP p i n).z], .bool (cubK p i n)]) := by
  cases h : thB i n
  · exact cub_tn p i n h
  · cases hp : okB p 4
    · exact cub_bn p i n h hp
    · exact cub_ys p i n h hp
theorem pt_any (p : Nat → P3) (i n j m : Int) : Gives Try.prog 84 #[.agg (ptsC 16 p), .int .i64 i, .int .i64 n, .int .i64 j, .int .i64 m] (.tuple #[.agg #[.int .i64 (ptP p i n j m).x, .int .i64 (ptP p i n j m).y, .int .i64 (ptP p i n j m).z], .bool (ptK p i n j m)]) := by
  cases h : thB i n
  · exact pt_tn p i n j m h
  · cases g : thB j m
    · exact pt_tm p i n j m ⟨h, g⟩
    · cases hp : okB p 16
      · exact pt_bn p i n j m ⟨h, g⟩ hp
      · exact pt_ys p i n j m ⟨h, g⟩ hp
end Go.Proofs.Ytpaehkjnefgaiaa
namespace Go.Proofs.Ytpaehkjnefgaiaa
open Go.RowKit
set_option linter.unusedVariables false
set_option linter.unusedSimpArgs false
set_option linter.unnecessarySimpa false
def adE (a b : P3) : P3 := ⟨a.x + b.x, a.y + b.y, a.z + b.z⟩
def scE (a : P3) (k : Int) : P3 := ⟨a.x * k, a.y * k, a.z * k⟩
/-- In which of c cells of sixteen units a place lies. -/
def cellN (x c : Int) : Int := (x / 16) % c
theorem cellN_bd {x c : Int} (h : 1 ≤ c) : 0 ≤ cellN x c ∧ cellN x c < c := ⟨Int.emod_nonneg _ (by omega), Int.emod_lt_of_pos _ (by omega)⟩
theorem cell16 (x c : Int) (h1 : 1 ≤ c) (h2 : c ≤ 16) (r q u : Int) (e : x = q * (c * 16) + r) (r1 : 0 ≤ r) (r2 : r < c * 16) (hu : u = r / 16) : u = cellN x c := by
  subst hu
  unfold cellN
  have e1 : x / 16 = q * c + r / 16 := by
    rw [e, show q * (c * 16) + r = r + (q * c) * 16 by grind, Int.add_mul_ediv_right _ _ (by omega)]; omega
  rw [e1, show q * c + r / 16 = r / 16 + q * c by omega, Int.add_mul_emod_self_right, Int.emod_eq_of_lt (by omega) (by omega)]
/-- A texture's shape is right. -/
def rightF (W H : Int) (rows : List Int) : Bool := decide (1 ≤ W ∧ W ≤ 16 ∧ 1 ≤ H ∧ H ≤ 16 ∧ (rows.length : Int) = W * H) && rows.all fun x => decide (0 ≤ x ∧ x ≤ 255)
theorem rightF_size {W H : Int} {rows : List Int} (h : ¬ (1 ≤ W ∧ W ≤ 16 ∧ 1 ≤ H ∧ H ≤ 16 ∧ (rows.length : Int) = W * H)) : rightF W H rows = false := by
  unfold rightF; rw [decide_eq_false h]; rfl
theorem rightF_cell {W H : Int} {rows : List Int} {k : Nat} (hk : k < rows.length) (h : ¬ (0 ≤ rows[k] ∧ rows[k] ≤ 255)) : rightF W H rows = false := by
  unfold rightF
  rw [show (rows.all fun x => decide (0 ≤ x ∧ x ≤ 255)) = false by rw [List.all_eq_false]; exact ⟨_, List.getElem_mem hk, by simpa using h⟩, Bool.and_false]
theorem rightF_all {W H : Int} {rows : List Int} (h : 1 ≤ W ∧ W ≤ 16 ∧ 1 ≤ H ∧ H ≤ 16 ∧ (rows.length : Int) = W * H) (ha : ∀ k (hk : k < rows.length), 0 ≤ rows[k] ∧ rows[k] ≤ 255) : rightF W H rows = true := by
  unfold rightF
  rw [decide_eq_true h, Bool.true_and, List.all_eq_true]
  intro x hx
  obtain ⟨k, hk, rfl⟩ := List.getElem_of_mem hx
  exact decide_eq_true (ha k hk)
theorem rightF_yes {W H : Int} {rows : List Int} (h : rightF W H rows = true) : (1 ≤ W ∧ W ≤ 16) ∧ (1 ≤ H ∧ H ≤ 16) ∧ (rows.length : Int) = W * H ∧ ∀ x ∈ rows, 0 ≤ x ∧ x ≤ 255 := by
  unfold rightF at h
  rw [Bool.and_eq_true, List.all_eq_true] at h
  obtain ⟨h1, h2⟩ := h
  obtain ⟨a, b, c, d, e⟩ := of_decide_eq_true h1
  exact ⟨⟨a, b⟩, ⟨c, d⟩, e, fun x hx => of_decide_eq_true (h2 x hx)⟩
theorem WH_bd {W H : Int} (h : (1 ≤ W ∧ W ≤ 16) ∧ (1 ≤ H ∧ H ≤ 16)) : 1 ≤ W * H ∧ W * H ≤ 256 := by
  obtain ⟨⟨a, b⟩, c, d⟩ := h
  have h1 := Int.mul_le_mul b d (by omega) (by omega)
  have h2 := Int.mul_pos (show 0 < W by omega) (show 0 < H by omega)
  omega
/-- A cell's number within its bounds. -/
theorem at_bd {W H r c : Int} (hr : 0 ≤ r ∧ r < H) (hc : 0 ≤ c ∧ c < W) : 0 ≤ r * W + c ∧ r * W + c < W * H := by
  have h1 := Int.mul_nonneg hr.1 (show 0 ≤ W by omega)
  have h2 := Int.mul_le_mul_of_nonneg_right (show r ≤ H - 1 by omega) (show 0 ≤ W by omega)
  rw [Int.sub_mul, Int.mul_comm H W] at h2
  omega
def texN (W H : Int) (p : P3) : Int := cellN (p.y + p.z) H * W + cellN p.x W
def texK (W H : Int) (rows : List Int) (p : P3) : Bool := rightF W H rows && wi p
def texV (W H : Int) (rows : List Int) (p : P3) : Int := if texK W H rows p = true then rows.getD (texN W H p).toNat 0 else 0
theorem texV_no {W H : Int} {rows : List Int} {p : P3} (h : texK W H rows p = false) : texV W H rows p = 0 := by unfold texV; rw [h]; rfl
theorem texV_yes {W H : Int} {rows : List Int} {p : P3} (h : texK W H rows p = true) : ∃ (hb : 0 ≤ texN W H p) (hk : (texN W H p).toNat < rows.length), texV W H rows p = rows[(texN W H p).toNat] := by
  have h0 := h
  unfold texK at h0
  rw [Bool.and_eq_true] at h0
  obtain ⟨hw, hh, hl, ha⟩ := rightF_yes h0.1
  have b := at_bd (cellN_bd (x := p.y + p.z) hh.1) (cellN_bd (x := p.x) hw.1)
  have b' : 0 ≤ texN W H p ∧ texN W H p < W * H := b
  have hk : (texN W H p).toNat < rows.length := by omega
  refine ⟨b'.1, hk, ?_⟩
  unfold texV
  rw [if_pos h, List.getD_eq_getElem?_getD, List.getElem?_eq_getElem hk]
  rfl
def wB (q : P3) (m : Int) : Bool := wiB q.x q.y q.z m
theorem wB_iff {q : P3} {m : Int} : wB q m = true ↔ 0 ≤ m ∧ (-m ≤ q.x ∧ q.x ≤ m) ∧ (-m ≤ q.y ∧ q.y ≤ m) ∧ -m ≤ q.z ∧ q.z ≤ m := wiB_iff _ _ _ _
def plK (i n : Int) : Bool := decide (1 ≤ n ∧ n ≤ 16 ∧ 0 ≤ i ∧ i ≤ n)
def blK (a b : P3) (i n : Int) : Bool := plK i n && wB a 1023 && wB b 1023
def blS (a b : P3) (i n : Int) : P3 := adE (scE a (n - i)) (scE b i)
def blP (a b : P3) (i n : Int) : P3 := if blK a b i n = true then rnP (blS a b i n) n else N3
theorem blP_no {a b : P3} {i n : Int} (h : blK a b i n = false) : blP a b i n = N3 := by unfold blP; rw [h]; rfl
theorem blP_yes {a b : P3} {i n : Int} (h : blK a b i n = true) : blP a b i n = rnP (blS a b i n) n := by unfold blP; rw [if_pos h]
theorem blK_yes {a b : P3} {i n : Int} (h : blK a b i n = true) : (1 ≤ n ∧ n ≤ 16 ∧ 0 ≤ i ∧ i ≤ n) ∧ wB a 1023 = true ∧ wB b 1023 = true := by
  unfold blK at h
  rw [Bool.and_eq_true, Bool.and_eq_true] at h
  exact ⟨of_decide_eq_true h.1.1, h.1.2, h.2⟩
/-- Between two, by parts that come to n. -/
theorem bl1 {x y lo hi i n : Int} (hn : 1 ≤ n) (hi0 : 0 ≤ i) (hin : i ≤ n) (hx : lo ≤ x ∧ x ≤ hi) (hy : lo ≤ y ∧ y ≤ hi) : lo * n ≤ x * (n - i) + y * i ∧ x * (n - i) + y * i ≤ hi * n := by
  have a1 := Int.mul_le_mul_of_nonneg_right hx.1 (show 0 ≤ n - i by omega)
  have a2 := Int.mul_le_mul_of_nonneg_right hx.2 (show 0 ≤ n - i by omega)
  have a3 := Int.mul_le_mul_of_nonneg_right hy.1 hi0
  have a4 := Int.mul_le_mul_of_nonneg_right hy.2 hi0
  have e1 : lo * (n - i) + lo * i = lo * n := by rw [← Int.mul_add]; congr 1; omega
  have e2 : hi * (n - i) + hi * i = hi * n := by rw [← Int.mul_add]; congr 1; omega
  omega
theorem rnd_mid {s lo hi n : Int} (hn : 1 ≤ n) (hn2 : n ≤ 2305843009213693952) (h1 : lo * n ≤ s) (h2 : s ≤ hi * n) (hs : -2305843009213693952 ≤ s ∧ s ≤ 2305843009213693952) : lo ≤ rnd s n ∧ rnd s n ≤ hi := by
  rw [rnd_in (by omega)]
  constructor
  · rw [Int.le_ediv_iff_mul_le (by omega)]
    have : lo * (2 * n) = 2 * (lo * n) := by rw [Int.mul_left_comm]
    omega
  · have : (2 * s + n) / (2 * n) < hi + 1 := by
      rw [Int.ediv_lt_iff_lt_mul (by omega)]
      have : (hi + 1) * (2 * n) = 2 * (hi * n) + 2 * n := by rw [Int.add_mul, Int.mul_left_comm]; omega
      omega
    omega
theorem bl1_bd {x y i n : Int} (h : 1 ≤ n ∧ n ≤ 16 ∧ 0 ≤ i ∧ i ≤ n) (hx : -1023 ≤ x ∧ x ≤ 1023) (hy : -1023 ≤ y ∧ y ≤ 1023) : -16368 ≤ x * (n - i) + y * i ∧ x * (n - i) + y * i ≤ 16368 := by
  have := bl1 h.1 h.2.2.1 h.2.2.2 hx hy
  omega
theorem mul_1023 {x k : Int} (hx : -1023 ≤ x ∧ x ≤ 1023) (hk : 0 ≤ k ∧ k ≤ 16) : -16368 ≤ x * k ∧ x * k ≤ 16368 := by
  have a1 := Int.mul_le_mul_of_nonneg_right hx.1 hk.1
  have a2 := Int.mul_le_mul_of_nonneg_right hx.2 hk.1
  omega
theorem blP_within {a b : P3} {i n : Int} (h : blK a b i n = true) : wB (blP a b i n) 1023 = true := by
  rw [blP_yes h]
  obtain ⟨h1, h2, h3⟩ := blK_yes h
  rw [wB_iff] at *
  obtain ⟨_, a1, a2, a3⟩ := h2
  obtain ⟨_, b1, b2, b3⟩ := h3
  have c1 := bl1 h1.1 h1.2.2.1 h1.2.2.2 a1 b1
  have c2 := bl1 h1.1 h1.2.2.1 h1.2.2.2 a2 b2
  have c3 := bl1 h1.1 h1.2.2.1 h1.2.2.2 a3 b3
  have g1 := rnd_mid (n := n) (s := a.x * (n - i) + b.x * i) (by omega) (by omega) c1.1 c1.2 (by omega)
  have g2 := rnd_mid (n := n) (s := a.y * (n - i) + b.y * i) (by omega) (by omega) c2.1 c2.2 (by omega)
  have g3 := rnd_mid (n := n) (s := a.z * (n - i) + b.z * i) (by omega) (by omega) c3.1 c3.2 (by omega)
  exact ⟨by omega, g1, g2, g3⟩
/-- Among four. -/
def mxK (n : Nat → P3) (i k j m : Int) : Bool := blK (n 0) (n 1) i k && blK (n 3) (n 2) i k && blK (blP (n 0) (n 1) i k) (blP (n 3) (n 2) i k) j m
def mxP (n : Nat → P3) (i k j m : Int) : P3 := if mxK n i k j m = true then blP (blP (n 0) (n 1) i k) (blP (n 3) (n 2) i k) j m else N3
/-- Lifted. -/
def lfK (p n : P3) (t h : Int) : Bool := wB p 65024 && wB n 1023 && decide (0 ≤ t ∧ t ≤ 255) && decide (0 ≤ h ∧ h ≤ 255)
def lfH (t h : Int) : Int := rnd (t * h) 255
def lfD (n : P3) (t h : Int) : P3 := rnP (scE n (lfH t h)) 1024
def lfP (p n : P3) (t h : Int) : P3 := if lfK p n t h = true then adE p (lfD n t h) else N3
theorem lfP_no {p n : P3} {t h : Int} (e : lfK p n t h = false) : lfP p n t h = N3 := by unfold lfP; rw [e]; rfl
theorem lfP_yes {p n : P3} {t h : Int} (e : lfK p n t h = true) : lfP p n t h = adE p (lfD n t h) := by unfold lfP; rw [if_pos e]
theorem lfK_yes {p n : P3} {t h : Int} (e : lfK p n t h = true) : wB p 65024 = true ∧ wB n 1023 = true ∧ (0 ≤ t ∧ t ≤ 255) ∧ 0 ≤ h ∧ h ≤ 255 := by
  unfold lfK at e
  simp only [Bool.and_eq_true] at e
  exact ⟨e.1.1.1, e.1.1.2, of_decide_eq_true e.1.2, of_decide_eq_true e.2⟩
theorem th_bd {t h : Int} (ht : 0 ≤ t ∧ t ≤ 255) (hh : 0 ≤ h ∧ h ≤ 255) : 0 ≤ t * h ∧ t * h ≤ h * 255 := by
  have a := Int.mul_nonneg ht.1 hh.1
  have b := Int.mul_le_mul_of_nonneg_right ht.2 hh.1
  rw [Int.mul_comm 255 h] at b
  exact ⟨a, b⟩
theorem lfH_bd {t h : Int} (ht : 0 ≤ t ∧ t ≤ 255) (hh : 0 ≤ h ∧ h ≤ 255) : 0 ≤ lfH t h ∧ lfH t h ≤ h := by
  have b := th_bd ht hh
  exact rnd_mid (by omega) (by omega) (by omega) b.2 (by omega)
theorem lf1_bd {x t h : Int} (hx : -1023 ≤ x ∧ x ≤ 1023) (ht : 0 ≤ t ∧ t ≤ 255) (hh : 0 ≤ h ∧ h ≤ 255) : -260865 ≤ x * lfH t h ∧ x * lfH t h ≤ 260865 ∧ -h * 1024 ≤ x * lfH t h ∧ x * lfH t h ≤ h * 1024 := by
  have b := lfH_bd ht hh
  have a1 := Int.mul_le_mul_of_nonneg_right hx.1 b.1
  have a2 := Int.mul_le_mul_of_nonneg_right hx.2 b.1
  omega
theorem lfD_bd {n : P3} {t h : Int} (hn : wB n 1023 = true) (ht : 0 ≤ t ∧ t ≤ 255) (hh : 0 ≤ h ∧ h ≤ 255) : (-h ≤ (lfD n t h).x ∧ (lfD n t h).x ≤ h) ∧ (-h ≤ (lfD n t h).y ∧ (lfD n t h).y ≤ h) ∧ -h ≤ (lfD n t h).z ∧ (lfD n t h).z ≤ h := by
  rw [wB_iff] at hn
  obtain ⟨_, n1, n2, n3⟩ := hn
  have a1 := lf1_bd n1 ht hh
  have a2 := lf1_bd n2 ht hh
  have a3 := lf1_bd n3 ht hh
  have g1 := rnd_mid (n := 1024) (s := n.x * lfH t h) (by omega) (by omega) a1.2.2.1 a1.2.2.2 (by omega)
  have g2 := rnd_mid (n := 1024) (s := n.y * lfH t h) (by omega) (by omega) a2.2.2.1 a2.2.2.2 (by omega)
  have g3 := rnd_mid (n := 1024) (s := n.z * lfH t h) (by omega) (by omega) a3.2.2.1 a3.2.2.2 (by omega)
  exact ⟨g1, g2, g3⟩
end Go.Proofs.Ytpaehkjnefgaiaa
namespace Go.Proofs.Ytpaehkjnefgaiaa
open Go.RowKit
set_option linter.unusedVariables false
set_option linter.unusedSimpArgs false
set_option linter.unnecessarySimpa false
set_option maxRecDepth 100000
end Go.Proofs.Ytpaehkjnefgaiaa
namespace Go.Proofs.Ytpaehkjnefgaiaa
open Go.RowKit
set_option linter.unusedVariables false
set_option linter.unusedSimpArgs false
set_option linter.unnecessarySimpa false
set_option maxRecDepth 100000
def rowF (p : Nat → P3) (s : Int) (k : Nat) : P3 := if s = 0 then p k else if s = 1 then p (4 * k + 3) else if s = 2 then p (15 - k) else if s = 3 then p (12 - 4 * k) else N3
theorem ptsC4 (q : Nat → P3) : ptsC 4 q = #[.int .i64 (q 0).x, .int .i64 (q 0).y, .int .i64 (q 0).z, .int .i64 (q 1).x, .int .i64 (q 1).y, .int .i64 (q 1).z, .int .i64 (q 2).x, .int .i64 (q 2).y, .int .i64 (q 2).z, .int .i64 (q 3).x, .int .i64 (q 3).y, .int .i64 (q 3).z] := rfl
set_option maxHeartbeats 4000000 in
theorem vRow0 (p : Nat → P3)  : Gives Try.prog 42 #[.agg (ptsC 16 p), .int .i64 (0)] (.agg (ptsC 4 (rowF p 0))) := by
  refine Gives.mk fun W => ?_
  have hP : Blk ((W.alloc (.cells (ptsC 16 p) 24)).alloc (.cells #[.int .i64 0, .int .i64 0, .int .i64 0, .int .i64 0, .int .i64 0, .int .i64 0, .int .i64 0, .int .i64 0, .int .i64 0, .int .i64 0, .int .i64 0, .int .i64 0] 26)) W.heap.size 24 (ptsC 16 p) := (Blk.new _ _ _ _ rfl).alloc _
  have hR : Blk ((W.alloc (.cells (ptsC 16 p) 24)).alloc (.cells #[.int .i64 0, .int .i64 0, .int .i64 0, .int .i64 0, .int .i64 0, .int .i64 0, .int .i64 0, .int .i64 0, .int .i64 0, .int .i64 0, .int .i64 0, .int .i64 0] 26)) (W.heap.size + 1) 26 #[.int .i64 0, .int .i64 0, .int .i64 0, .int .i64 0, .int .i64 0, .int .i64 0, .int .i64 0, .int .i64 0, .int .i64 0, .int .i64 0, .int .i64 0, .int .i64 0] := Blk.new _ _ _ _ (by simp)
  have hB : Below W.heap.size W ((W.alloc (.cells (ptsC 16 p) 24)).alloc (.cells #[.int .i64 0, .int .i64 0, .int .i64 0, .int .i64 0, .int .i64 0, .int .i64 0, .int .i64 0, .int .i64 0, .int .i64 0, .int .i64 0, .int .i64 0, .int .i64 0] 26)) := bel_alloc (bel_alloc (Below.refl _ _) _) _
  go_enter Try.func42, Try.ntmps42
  go_upto_region 1 with (fail)
  generalize ((W.alloc (.cells (ptsC 16 p) 24)).alloc (.cells #[.int .i64 0, .int .i64 0, .int .i64 0, .int .i64 0, .int .i64 0, .int .i64 0, .int .i64 0, .int .i64 0, .int .i64 0, .int .i64 0, .int .i64 0, .int .i64 0] 26)) = W1 at *
  replace hP := Lib.hid hP
  replace hR := Lib.hid hR
  replace hB := Lib.hid hB
  go_upto_region 3 with (fail)
  replace hP := hP.out
  replace hR := hR.out
  replace hB := hB.out
  have c0x : W1.cell? ⟨W.heap.size, 0, none⟩ = some (.int .i64 (p 0).x) := (ptsB hP (k := 0) (by omega)).1
  have c0y : W1.cell? ⟨W.heap.size, 1, none⟩ = some (.int .i64 (p 0).y) := (ptsB hP (k := 0) (by omega)).2.1
  have c0z : W1.cell? ⟨W.heap.size, 2, none⟩ = some (.int .i64 (p 0).z) := (ptsB hP (k := 0) (by omega)).2.2
  have c1x : W1.cell? ⟨W.heap.size, 3, none⟩ = some (.int .i64 (p 1).x) := (ptsB hP (k := 1) (by omega)).1
  have c1y : W1.cell? ⟨W.heap.size, 4, none⟩ = some (.int .i64 (p 1).y) := (ptsB hP (k := 1) (by omega)).2.1
  have c1z : W1.cell? ⟨W.heap.size, 5, none⟩ = some (.int .i64 (p 1).z) := (ptsB hP (k := 1) (by omega)).2.2
  have c2x : W1.cell? ⟨W.heap.size, 6, none⟩ = some (.int .i64 (p 2).x) := (ptsB hP (k := 2) (by omega)).1
  have c2y : W1.cell? ⟨W.heap.size, 7, none⟩ = some (.int .i64 (p 2).y) := (ptsB hP (k := 2) (by omega)).2.1
  have c2z : W1.cell? ⟨W.heap.size, 8, none⟩ = some (.int .i64 (p 2).z) := (ptsB hP (k := 2) (by omega)).2.2
  have c3x : W1.cell? ⟨W.heap.size, 9, none⟩ = some (.int .i64 (p 3).x) := (ptsB hP (k := 3) (by omega)).1
  have c3y : W1.cell? ⟨W.heap.size, 10, none⟩ = some (.int .i64 (p 3).y) := (ptsB hP (k := 3) (by omega)).2.1
  have c3z : W1.cell? ⟨W.heap.size, 11, none⟩ = some (.int .i64 (p 3).z) := (ptsB hP (k := 3) (by omega)).2.2
  have pl := hP.lt
  have r0 := hR.cell 0
  have f0 := hR.frozen 0
  have r1 := hR.cell 1
  have f1 := hR.frozen 1
  have r2 := hR.cell 2
  have f2 := hR.frozen 2
  have r3 := hR.cell 3
  have f3 := hR.frozen 3
  have r4 := hR.cell 4
  have f4 := hR.frozen 4
  have r5 := hR.cell 5
  have f5 := hR.frozen 5
  have r6 := hR.cell 6
  have f6 := hR.frozen 6
  have r7 := hR.cell 7
  have f7 := hR.frozen 7
  have r8 := hR.cell 8
  have f8 := hR.frozen 8
  have r9 := hR.cell 9
  have f9 := hR.frozen 9
  have r10 := hR.cell 10
  have f10 := hR.frozen 10
  have r11 := hR.cell 11
  have f11 := hR.frozen 11
  have rl := hR.lt
  have hR2 := ((((((((((((hR.set 0 (.int .i64 ((p 0).x))).set 1 (.int .i64 ((p 0).y))).set 2 (.int .i64 ((p 0).z))).set 3 (.int .i64 ((p 1).x))).set 4 (.int .i64 ((p 1).y))).set 5 (.int .i64 ((p 1).z))).set 6 (.int .i64 ((p 2).x))).set 7 (.int .i64 ((p 2).y))).set 8 (.int .i64 ((p 2).z))).set 9 (.int .i64 ((p 3).x))).set 10 (.int .i64 ((p 3).y))).set 11 (.int .i64 ((p 3).z)))
  have hB2 : Below W.heap.size W ((((((((((((W1.setCell ⟨W.heap.size + 1, 0, none⟩ (.int .i64 ((p 0).x))).setCell ⟨W.heap.size + 1, 1, none⟩ (.int .i64 ((p 0).y))).setCell ⟨W.heap.size + 1, 2, none⟩ (.int .i64 ((p 0).z))).setCell ⟨W.heap.size + 1, 3, none⟩ (.int .i64 ((p 1).x))).setCell ⟨W.heap.size + 1, 4, none⟩ (.int .i64 ((p 1).y))).setCell ⟨W.heap.size + 1, 5, none⟩ (.int .i64 ((p 1).z))).setCell ⟨W.heap.size + 1, 6, none⟩ (.int .i64 ((p 2).x))).setCell ⟨W.heap.size + 1, 7, none⟩ (.int .i64 ((p 2).y))).setCell ⟨W.heap.size + 1, 8, none⟩ (.int .i64 ((p 2).z))).setCell ⟨W.heap.size + 1, 9, none⟩ (.int .i64 ((p 3).x))).setCell ⟨W.heap.size + 1, 10, none⟩ (.int .i64 ((p 3).y))).setCell ⟨W.heap.size + 1, 11, none⟩ (.int .i64 ((p 3).z))) := (bel_set (bel_set (bel_set (bel_set (bel_set (bel_set (bel_set (bel_set (bel_set (bel_set (bel_set (bel_set hB (p := ⟨W.heap.size + 1, 0, none⟩) (by simp) (.int .i64 ((p 0).x))) (p := ⟨W.heap.size + 1, 1, none⟩) (by simp) (.int .i64 ((p 0).y))) (p := ⟨W.heap.size + 1, 2, none⟩) (by simp) (.int .i64 ((p 0).z))) (p := ⟨W.heap.size + 1, 3, none⟩) (by simp) (.int .i64 ((p 1).x))) (p := ⟨W.heap.size + 1, 4, none⟩) (by simp) (.int .i64 ((p 1).y))) (p := ⟨W.heap.size + 1, 5, none⟩) (by simp) (.int .i64 ((p 1).z))) (p := ⟨W.heap.size + 1, 6, none⟩) (by simp) (.int .i64 ((p 2).x))) (p := ⟨W.heap.size + 1, 7, none⟩) (by simp) (.int .i64 ((p 2).y))) (p := ⟨W.heap.size + 1, 8, none⟩) (by simp) (.int .i64 ((p 2).z))) (p := ⟨W.heap.size + 1, 9, none⟩) (by simp) (.int .i64 ((p 3).x))) (p := ⟨W.heap.size + 1, 10, none⟩) (by simp) (.int .i64 ((p 3).y))) (p := ⟨W.heap.size + 1, 11, none⟩) (by simp) (.int .i64 ((p 3).z)))
  clear hP hR hB
  replace hR2 := Lib.hid hR2
  replace hB2 := Lib.hid hB2
  go_wp2
  replace hR2 := hR2.out
  replace hB2 := hB2.out
  generalize ((((((((((((W1.setCell ⟨W.heap.size + 1, 0, none⟩ (.int .i64 ((p 0).x))).setCell ⟨W.heap.size + 1, 1, none⟩ (.int .i64 ((p 0).y))).setCell ⟨W.heap.size + 1, 2, none⟩ (.int .i64 ((p 0).z))).setCell ⟨W.heap.size + 1, 3, none⟩ (.int .i64 ((p 1).x))).setCell ⟨W.heap.size + 1, 4, none⟩ (.int .i64 ((p 1).y))).setCell ⟨W.heap.size + 1, 5, none⟩ (.int .i64 ((p 1).z))).setCell ⟨W.heap.size + 1, 6, none⟩ (.int .i64 ((p 2).x))).setCell ⟨W.heap.size + 1, 7, none⟩ (.int .i64 ((p 2).y))).setCell ⟨W.heap.size + 1, 8, none⟩ (.int .i64 ((p 2).z))).setCell ⟨W.heap.size + 1, 9, none⟩ (.int .i64 ((p 3).x))).setCell ⟨W.heap.size + 1, 10, none⟩ (.int .i64 ((p 3).y))).setCell ⟨W.heap.size + 1, 11, none⟩ (.int .i64 ((p 3).z))) = WE at *
  have w0 := hR2.cell
  refine bodyPost_ret (v := .agg #[.int .i64 ((p 0).x), .int .i64 ((p 0).y), .int .i64 ((p 0).z), .int .i64 ((p 1).x), .int .i64 ((p 1).y), .int .i64 ((p 1).z), .int .i64 ((p 2).x), .int .i64 ((p 2).y), .int .i64 ((p 2).z), .int .i64 ((p 3).x), .int .i64 ((p 3).y), .int .i64 ((p 3).z)]) (by simp [results, Try.results42, go_sem, w0]) rfl ⟨rfl, hB2⟩
set_option maxHeartbeats 4000000 in
theorem vRow1 (p : Nat → P3)  : Gives Try.prog 42 #[.agg (ptsC 16 p), .int .i64 (1)] (.agg (ptsC 4 (rowF p 1))) := by
  refine Gives.mk fun W => ?_
  have hP : Blk ((W.alloc (.cells (ptsC 16 p) 24)).alloc (.cells #[.int .i64 0, .int .i64 0, .int .i64 0, .int .i64 0, .int .i64 0, .int .i64 0, .int .i64 0, .int .i64 0, .int .i64 0, .int .i64 0, .int .i64 0, .int .i64 0] 26)) W.heap.size 24 (ptsC 16 p) := (Blk.new _ _ _ _ rfl).alloc _
  have hR : Blk ((W.alloc (.cells (ptsC 16 p) 24)).alloc (.cells #[.int .i64 0, .int .i64 0, .int .i64 0, .int .i64 0, .int .i64 0, .int .i64 0, .int .i64 0, .int .i64 0, .int .i64 0, .int .i64 0, .int .i64 0, .int .i64 0] 26)) (W.heap.size + 1) 26 #[.int .i64 0, .int .i64 0, .int .i64 0, .int .i64 0, .int .i64 0, .int .i64 0, .int .i64 0, .int .i64 0, .int .i64 0, .int .i64 0, .int .i64 0, .int .i64 0] := Blk.new _ _ _ _ (by simp)
  have hB : Below W.heap.size W ((W.alloc (.cells (ptsC 16 p) 24)).alloc (.cells #[.int .i64 0, .int .i64 0, .int .i64 0, .int .i64 0, .int .i64 0, .int .i64 0, .int .i64 0, .int .i64 0, .int .i64 0, .int .i64 0, .int .i64 0, .int .i64 0] 26)) := bel_alloc (bel_alloc (Below.refl _ _) _) _
  go_enter Try.func42, Try.ntmps42
  go_upto_region 1 with (fail)
  generalize ((W.alloc (.cells (ptsC 16 p) 24)).alloc (.cells #[.int .i64 0, .int .i64 0, .int .i64 0, .int .i64 0, .int .i64 0, .int .i64 0, .int .i64 0, .int .i64 0, .int .i64 0, .int .i64 0, .int .i64 0, .int .i64 0] 26)) = W1 at *
  replace hP := Lib.hid hP
  replace hR := Lib.hid hR
  replace hB := Lib.hid hB
  go_upto_region 5 with (fail)
  replace hP := hP.out
  replace hR := hR.out
  replace hB := hB.out
  have c0x : W1.cell? ⟨W.heap.size, 9, none⟩ = some (.int .i64 (p 3).x) := (ptsB hP (k := 3) (by omega)).1
  have c0y : W1.cell? ⟨W.heap.size, 10, none⟩ = some (.int .i64 (p 3).y) := (ptsB hP (k := 3) (by omega)).2.1
  have c0z : W1.cell? ⟨W.heap.size, 11, none⟩ = some (.int .i64 (p 3).z) := (ptsB hP (k := 3) (by omega)).2.2
  have c1x : W1.cell? ⟨W.heap.size, 21, none⟩ = some (.int .i64 (p 7).x) := (ptsB hP (k := 7) (by omega)).1
  have c1y : W1.cell? ⟨W.heap.size, 22, none⟩ = some (.int .i64 (p 7).y) := (ptsB hP (k := 7) (by omega)).2.1
  have c1z : W1.cell? ⟨W.heap.size, 23, none⟩ = some (.int .i64 (p 7).z) := (ptsB hP (k := 7) (by omega)).2.2
  have c2x : W1.cell? ⟨W.heap.size, 33, none⟩ = some (.int .i64 (p 11).x) := (ptsB hP (k := 11) (by omega)).1
  have c2y : W1.cell? ⟨W.heap.size, 34, none⟩ = some (.int .i64 (p 11).y) := (ptsB hP (k := 11) (by omega)).2.1
  have c2z : W1.cell? ⟨W.heap.size, 35, none⟩ = some (.int .i64 (p 11).z) := (ptsB hP (k := 11) (by omega)).2.2
  have c3x : W1.cell? ⟨W.heap.size, 45, none⟩ = some (.int .i64 (p 15).x) := (ptsB hP (k := 15) (by omega)).1
  have c3y : W1.cell? ⟨W.heap.size, 46, none⟩ = some (.int .i64 (p 15).y) := (ptsB hP (k := 15) (by omega)).2.1
  have c3z : W1.cell? ⟨W.heap.size, 47, none⟩ = some (.int .i64 (p 15).z) := (ptsB hP (k := 15) (by omega)).2.2
  have pl := hP.lt
  have r0 := hR.cell 0
  have f0 := hR.frozen 0
  have r1 := hR.cell 1
  have f1 := hR.frozen 1
  have r2 := hR.cell 2
  have f2 := hR.frozen 2
  have r3 := hR.cell 3
  have f3 := hR.frozen 3
  have r4 := hR.cell 4
  have f4 := hR.frozen 4
  have r5 := hR.cell 5
  have f5 := hR.frozen 5
  have r6 := hR.cell 6
  have f6 := hR.frozen 6
  have r7 := hR.cell 7
  have f7 := hR.frozen 7
  have r8 := hR.cell 8
  have f8 := hR.frozen 8
  have r9 := hR.cell 9
  have f9 := hR.frozen 9
  have r10 := hR.cell 10
  have f10 := hR.frozen 10
  have r11 := hR.cell 11
  have f11 := hR.frozen 11
  have rl := hR.lt
  have hR2 := ((((((((((((hR.set 0 (.int .i64 ((p 3).x))).set 1 (.int .i64 ((p 3).y))).set 2 (.int .i64 ((p 3).z))).set 3 (.int .i64 ((p 7).x))).set 4 (.int .i64 ((p 7).y))).set 5 (.int .i64 ((p 7).z))).set 6 (.int .i64 ((p 11).x))).set 7 (.int .i64 ((p 11).y))).set 8 (.int .i64 ((p 11).z))).set 9 (.int .i64 ((p 15).x))).set 10 (.int .i64 ((p 15).y))).set 11 (.int .i64 ((p 15).z)))
  have hB2 : Below W.heap.size W ((((((((((((W1.setCell ⟨W.heap.size + 1, 0, none⟩ (.int .i64 ((p 3).x))).setCell ⟨W.heap.size + 1, 1, none⟩ (.int .i64 ((p 3).y))).setCell ⟨W.heap.size + 1, 2, none⟩ (.int .i64 ((p 3).z))).setCell ⟨W.heap.size + 1, 3, none⟩ (.int .i64 ((p 7).x))).setCell ⟨W.heap.size + 1, 4, none⟩ (.int .i64 ((p 7).y))).setCell ⟨W.heap.size + 1, 5, none⟩ (.int .i64 ((p 7).z))).setCell ⟨W.heap.size + 1, 6, none⟩ (.int .i64 ((p 11).x))).setCell ⟨W.heap.size + 1, 7, none⟩ (.int .i64 ((p 11).y))).setCell ⟨W.heap.size + 1, 8, none⟩ (.int .i64 ((p 11).z))).setCell ⟨W.heap.size + 1, 9, none⟩ (.int .i64 ((p 15).x))).setCell ⟨W.heap.size + 1, 10, none⟩ (.int .i64 ((p 15).y))).setCell ⟨W.heap.size + 1, 11, none⟩ (.int .i64 ((p 15).z))) := (bel_set (bel_set (bel_set (bel_set (bel_set (bel_set (bel_set (bel_set (bel_set (bel_set (bel_set (bel_set hB (p := ⟨W.heap.size + 1, 0, none⟩) (by simp) (.int .i64 ((p 3).x))) (p := ⟨W.heap.size + 1, 1, none⟩) (by simp) (.int .i64 ((p 3).y))) (p := ⟨W.heap.size + 1, 2, none⟩) (by simp) (.int .i64 ((p 3).z))) (p := ⟨W.heap.size + 1, 3, none⟩) (by simp) (.int .i64 ((p 7).x))) (p := ⟨W.heap.size + 1, 4, none⟩) (by simp) (.int .i64 ((p 7).y))) (p := ⟨W.heap.size + 1, 5, none⟩) (by simp) (.int .i64 ((p 7).z))) (p := ⟨W.heap.size + 1, 6, none⟩) (by simp) (.int .i64 ((p 11).x))) (p := ⟨W.heap.size + 1, 7, none⟩) (by simp) (.int .i64 ((p 11).y))) (p := ⟨W.heap.size + 1, 8, none⟩) (by simp) (.int .i64 ((p 11).z))) (p := ⟨W.heap.size + 1, 9, none⟩) (by simp) (.int .i64 ((p 15).x))) (p := ⟨W.heap.size + 1, 10, none⟩) (by simp) (.int .i64 ((p 15).y))) (p := ⟨W.heap.size + 1, 11, none⟩) (by simp) (.int .i64 ((p 15).z)))
  clear hP hR hB
  replace hR2 := Lib.hid hR2
  replace hB2 := Lib.hid hB2
  go_wp2
  replace hR2 := hR2.out
  replace hB2 := hB2.out
  generalize ((((((((((((W1.setCell ⟨W.heap.size + 1, 0, none⟩ (.int .i64 ((p 3).x))).setCell ⟨W.heap.size + 1, 1, none⟩ (.int .i64 ((p 3).y))).setCell ⟨W.heap.size + 1, 2, none⟩ (.int .i64 ((p 3).z))).setCell ⟨W.heap.size + 1, 3, none⟩ (.int .i64 ((p 7).x))).setCell ⟨W.heap.size + 1, 4, none⟩ (.int .i64 ((p 7).y))).setCell ⟨W.heap.size + 1, 5, none⟩ (.int .i64 ((p 7).z))).setCell ⟨W.heap.size + 1, 6, none⟩ (.int .i64 ((p 11).x))).setCell ⟨W.heap.size + 1, 7, none⟩ (.int .i64 ((p 11).y))).setCell ⟨W.heap.size + 1, 8, none⟩ (.int .i64 ((p 11).z))).setCell ⟨W.heap.size + 1, 9, none⟩ (.int .i64 ((p 15).x))).setCell ⟨W.heap.size + 1, 10, none⟩ (.int .i64 ((p 15).y))).setCell ⟨W.heap.size + 1, 11, none⟩ (.int .i64 ((p 15).z))) = WE at *
  have w0 := hR2.cell
  refine bodyPost_ret (v := .agg #[.int .i64 ((p 3).x), .int .i64 ((p 3).y), .int .i64 ((p 3).z), .int .i64 ((p 7).x), .int .i64 ((p 7).y), .int .i64 ((p 7).z), .int .i64 ((p 11).x), .int .i64 ((p 11).y), .int .i64 ((p 11).z), .int .i64 ((p 15).x), .int .i64 ((p 15).y), .int .i64 ((p 15).z)]) (by simp [results, Try.results42, go_sem, w0]) rfl ⟨rfl, hB2⟩
set_option maxHeartbeats 4000000 in
theorem vRow2 (p : Nat → P3)  : Gives Try.prog 42 #[.agg (ptsC 16 p), .int .i64 (2)] (.agg (ptsC 4 (rowF p 2))) := by
  refine Gives.mk fun W => ?_
  have hP : Blk ((W.alloc (.cells (ptsC 16 p) 24)).alloc (.cells #[.int .i64 0, .int .i64 0, .int .i64 0, .int .i64 0, .int .i64 0, .int .i64 0, .int .i64 0, .int .i64 0, .int .i64 0, .int .i64 0, .int .i64 0, .int .i64 0] 26)) W.heap.size 24 (ptsC 16 p) := (Blk.new _ _ _ _ rfl).alloc _
  have hR : Blk ((W.alloc (.cells (ptsC 16 p) 24)).alloc (.cells #[.int .i64 0, .int .i64 0, .int .i64 0, .int .i64 0, .int .i64 0, .int .i64 0, .int .i64 0, .int .i64 0, .int .i64 0, .int .i64 0, .int .i64 0, .int .i64 0] 26)) (W.heap.size + 1) 26 #[.int .i64 0, .int .i64 0, .int .i64 0, .int .i64 0, .int .i64 0, .int .i64 0, .int .i64 0, .int .i64 0, .int .i64 0, .int .i64 0, .int .i64 0, .int .i64 0] := Blk.new _ _ _ _ (by simp)
  have hB : Below W.heap.size W ((W.alloc (.cells (ptsC 16 p) 24)).alloc (.cells #[.int .i64 0, .int .i64 0, .int .i64 0, .int .i64 0, .int .i64 0, .int .i64 0, .int .i64 0, .int .i64 0, .int .i64 0, .int .i64 0, .int .i64 0, .int .i64 0] 26)) := bel_alloc (bel_alloc (Below.refl _ _) _) _
  go_enter Try.func42, Try.ntmps42
  go_upto_region 1 with (fail)
  generalize ((W.alloc (.cells (ptsC 16 p) 24)).alloc (.cells #[.int .i64 0, .int .i64 0, .int .i64 0, .int .i64 0, .int .i64 0, .int .i64 0, .int .i64 0, .int .i64 0, .int .i64 0, .int .i64 0, .int .i64 0, .int .i64 0] 26)) = W1 at *
  replace hP := Lib.hid hP
  replace hR := Lib.hid hR
  replace hB := Lib.hid hB
  go_upto_region 7 with (fail)
  replace hP := hP.out
  replace hR := hR.out
  replace hB := hB.out
  have c0x : W1.cell? ⟨W.heap.size, 45, none⟩ = some (.int .i64 (p 15).x) := (ptsB hP (k := 15) (by omega)).1
  have c0y : W1.cell? ⟨W.heap.size, 46, none⟩ = some (.int .i64 (p 15).y) := (ptsB hP (k := 15) (by omega)).2.1
  have c0z : W1.cell? ⟨W.heap.size, 47, none⟩ = some (.int .i64 (p 15).z) := (ptsB hP (k := 15) (by omega)).2.2
  have c1x : W1.cell? ⟨W.heap.size, 42, none⟩ = some (.int .i64 (p 14).x) := (ptsB hP (k := 14) (by omega)).1
  have c1y : W1.cell? ⟨W.heap.size, 43, none⟩ = some (.int .i64 (p 14).y) := (ptsB hP (k := 14) (by omega)).2.1
  have c1z : W1.cell? ⟨W.heap.size, 44, none⟩ = some (.int .i64 (p 14).z) := (ptsB hP (k := 14) (by omega)).2.2
  have c2x : W1.cell? ⟨W.heap.size, 39, none⟩ = some (.int .i64 (p 13).x) := (ptsB hP (k := 13) (by omega)).1
  have c2y : W1.cell? ⟨W.heap.size, 40, none⟩ = some (.int .i64 (p 13).y) := (ptsB hP (k := 13) (by omega)).2.1
  have c2z : W1.cell? ⟨W.heap.size, 41, none⟩ = some (.int .i64 (p 13).z) := (ptsB hP (k := 13) (by omega)).2.2
  have c3x : W1.cell? ⟨W.heap.size, 36, none⟩ = some (.int .i64 (p 12).x) := (ptsB hP (k := 12) (by omega)).1
  have c3y : W1.cell? ⟨W.heap.size, 37, none⟩ = some (.int .i64 (p 12).y) := (ptsB hP (k := 12) (by omega)).2.1
  have c3z : W1.cell? ⟨W.heap.size, 38, none⟩ = some (.int .i64 (p 12).z) := (ptsB hP (k := 12) (by omega)).2.2
  have pl := hP.lt
  have r0 := hR.cell 0
  have f0 := hR.frozen 0
  have r1 := hR.cell 1
  have f1 := hR.frozen 1
  have r2 := hR.cell 2
  have f2 := hR.frozen 2
  have r3 := hR.cell 3
  have f3 := hR.frozen 3
  have r4 := hR.cell 4
  have f4 := hR.frozen 4
  have r5 := hR.cell 5
  have f5 := hR.frozen 5
  have r6 := hR.cell 6
  have f6 := hR.frozen 6
  have r7 := hR.cell 7
  have f7 := hR.frozen 7
  have r8 := hR.cell 8
  have f8 := hR.frozen 8
  have r9 := hR.cell 9
  have f9 := hR.frozen 9
  have r10 := hR.cell 10
  have f10 := hR.frozen 10
  have r11 := hR.cell 11
  have f11 := hR.frozen 11
  have rl := hR.lt
  have hR2 := ((((((((((((hR.set 0 (.int .i64 ((p 15).x))).set 1 (.int .i64 ((p 15).y))).set 2 (.int .i64 ((p 15).z))).set 3 (.int .i64 ((p 14).x))).set 4 (.int .i64 ((p 14).y))).set 5 (.int .i64 ((p 14).z))).set 6 (.int .i64 ((p 13).x))).set 7 (.int .i64 ((p 13).y))).set 8 (.int .i64 ((p 13).z))).set 9 (.int .i64 ((p 12).x))).set 10 (.int .i64 ((p 12).y))).set 11 (.int .i64 ((p 12).z)))
  have hB2 : Below W.heap.size W ((((((((((((W1.setCell ⟨W.heap.size + 1, 0, none⟩ (.int .i64 ((p 15).x))).setCell ⟨W.heap.size + 1, 1, none⟩ (.int .i64 ((p 15).y))).setCell ⟨W.heap.size + 1, 2, none⟩ (.int .i64 ((p 15).z))).setCell ⟨W.heap.size + 1, 3, none⟩ (.int .i64 ((p 14).x))).setCell ⟨W.heap.size + 1, 4, none⟩ (.int .i64 ((p 14).y))).setCell ⟨W.heap.size + 1, 5, none⟩ (.int .i64 ((p 14).z))).setCell ⟨W.heap.size + 1, 6, none⟩ (.int .i64 ((p 13).x))).setCell ⟨W.heap.size + 1, 7, none⟩ (.int .i64 ((p 13).y))).setCell ⟨W.heap.size + 1, 8, none⟩ (.int .i64 ((p 13).z))).setCell ⟨W.heap.size + 1, 9, none⟩ (.int .i64 ((p 12).x))).setCell ⟨W.heap.size + 1, 10, none⟩ (.int .i64 ((p 12).y))).setCell ⟨W.heap.size + 1, 11, none⟩ (.int .i64 ((p 12).z))) := (bel_set (bel_set (bel_set (bel_set (bel_set (bel_set (bel_set (bel_set (bel_set (bel_set (bel_set (bel_set hB (p := ⟨W.heap.size + 1, 0, none⟩) (by simp) (.int .i64 ((p 15).x))) (p := ⟨W.heap.size + 1, 1, none⟩) (by simp) (.int .i64 ((p 15).y))) (p := ⟨W.heap.size + 1, 2, none⟩) (by simp) (.int .i64 ((p 15).z))) (p := ⟨W.heap.size + 1, 3, none⟩) (by simp) (.int .i64 ((p 14).x))) (p := ⟨W.heap.size + 1, 4, none⟩) (by simp) (.int .i64 ((p 14).y))) (p := ⟨W.heap.size + 1, 5, none⟩) (by simp) (.int .i64 ((p 14).z))) (p := ⟨W.heap.size + 1, 6, none⟩) (by simp) (.int .i64 ((p 13).x))) (p := ⟨W.heap.size + 1, 7, none⟩) (by simp) (.int .i64 ((p 13).y))) (p := ⟨W.heap.size + 1, 8, none⟩) (by simp) (.int .i64 ((p 13).z))) (p := ⟨W.heap.size + 1, 9, none⟩) (by simp) (.int .i64 ((p 12).x))) (p := ⟨W.heap.size + 1, 10, none⟩) (by simp) (.int .i64 ((p 12).y))) (p := ⟨W.heap.size + 1, 11, none⟩) (by simp) (.int .i64 ((p 12).z)))
  clear hP hR hB
  replace hR2 := Lib.hid hR2
  replace hB2 := Lib.hid hB2
  go_wp2
  replace hR2 := hR2.out
  replace hB2 := hB2.out
  generalize ((((((((((((W1.setCell ⟨W.heap.size + 1, 0, none⟩ (.int .i64 ((p 15).x))).setCell ⟨W.heap.size + 1, 1, none⟩ (.int .i64 ((p 15).y))).setCell ⟨W.heap.size + 1, 2, none⟩ (.int .i64 ((p 15).z))).setCell ⟨W.heap.size + 1, 3, none⟩ (.int .i64 ((p 14).x))).setCell ⟨W.heap.size + 1, 4, none⟩ (.int .i64 ((p 14).y))).setCell ⟨W.heap.size + 1, 5, none⟩ (.int .i64 ((p 14).z))).setCell ⟨W.heap.size + 1, 6, none⟩ (.int .i64 ((p 13).x))).setCell ⟨W.heap.size + 1, 7, none⟩ (.int .i64 ((p 13).y))).setCell ⟨W.heap.size + 1, 8, none⟩ (.int .i64 ((p 13).z))).setCell ⟨W.heap.size + 1, 9, none⟩ (.int .i64 ((p 12).x))).setCell ⟨W.heap.size + 1, 10, none⟩ (.int .i64 ((p 12).y))).setCell ⟨W.heap.size + 1, 11, none⟩ (.int .i64 ((p 12).z))) = WE at *
  have w0 := hR2.cell
  refine bodyPost_ret (v := .agg #[.int .i64 ((p 15).x), .int .i64 ((p 15).y), .int .i64 ((p 15).z), .int .i64 ((p 14).x), .int .i64 ((p 14).y), .int .i64 ((p 14).z), .int .i64 ((p 13).x), .int .i64 ((p 13).y), .int .i64 ((p 13).z), .int .i64 ((p 12).x), .int .i64 ((p 12).y), .int .i64 ((p 12).z)]) (by simp [results, Try.results42, go_sem, w0]) rfl ⟨rfl, hB2⟩
set_option maxHeartbeats 4000000 in
theorem vRow3 (p : Nat → P3)  : Gives Try.prog 42 #[.agg (ptsC 16 p), .int .i64 (3)] (.agg (ptsC 4 (rowF p 3))) := by
  refine Gives.mk fun W => ?_
  have hP : Blk ((W.alloc (.cells (ptsC 16 p) 24)).alloc (.cells #[.int .i64 0, .int .i64 0, .int .i64 0, .int .i64 0, .int .i64 0, .int .i64 0, .int .i64 0, .int .i64 0, .int .i64 0, .int .i64 0, .int .i64 0, .int .i64 0] 26)) W.heap.size 24 (ptsC 16 p) := (Blk.new _ _ _ _ rfl).alloc _
  have hR : Blk ((W.alloc (.cells (ptsC 16 p) 24)).alloc (.cells #[.int .i64 0, .int .i64 0, .int .i64 0, .int .i64 0, .int .i64 0, .int .i64 0, .int .i64 0, .int .i64 0, .int .i64 0, .int .i64 0, .int .i64 0, .int .i64 0] 26)) (W.heap.size + 1) 26 #[.int .i64 0, .int .i64 0, .int .i64 0, .int .i64 0, .int .i64 0, .int .i64 0, .int .i64 0, .int .i64 0, .int .i64 0, .int .i64 0, .int .i64 0, .int .i64 0] := Blk.new _ _ _ _ (by simp)
  have hB : Below W.heap.size W ((W.alloc (.cells (ptsC 16 p) 24)).alloc (.cells #[.int .i64 0, .int .i64 0, .int .i64 0, .int .i64 0, .int .i64 0, .int .i64 0, .int .i64 0, .int .i64 0, .int .i64 0, .int .i64 0, .int .i64 0, .int .i64 0] 26)) := bel_alloc (bel_alloc (Below.refl _ _) _) _
  go_enter Try.func42, Try.ntmps42
  go_upto_region 1 with (fail)
  generalize ((W.alloc (.cells (ptsC 16 p) 24)).alloc (.cells #[.int .i64 0, .int .i64 0, .int .i64 0, .int .i64 0, .int .i64 0, .int .i64 0, .int .i64 0, .int .i64 0, .int .i64 0, .int .i64 0, .int .i64 0, .int .i64 0] 26)) = W1 at *
  replace hP := Lib.hid hP
  replace hR := Lib.hid hR
  replace hB := Lib.hid hB
  go_upto_region 9 with (fail)
  replace hP := hP.out
  replace hR := hR.out
  replace hB := hB.out
  have c0x : W1.cell? ⟨W.heap.size, 36, none⟩ = some (.int .i64 (p 12).x) := (ptsB hP (k := 12) (by omega)).1
  have c0y : W1.cell? ⟨W.heap.size, 37, none⟩ = some (.int .i64 (p 12).y) := (ptsB hP (k := 12) (by omega)).2.1
  have c0z : W1.cell? ⟨W.heap.size, 38, none⟩ = some (.int .i64 (p 12).z) := (ptsB hP (k := 12) (by omega)).2.2
  have c1x : W1.cell? ⟨W.heap.size, 24, none⟩ = some (.int .i64 (p 8).x) := (ptsB hP (k := 8) (by omega)).1
  have c1y : W1.cell? ⟨W.heap.size, 25, none⟩ = some (.int .i64 (p 8).y) := (ptsB hP (k := 8) (by omega)).2.1
  have c1z : W1.cell? ⟨W.heap.size, 26, none⟩ = some (.int .i64 (p 8).z) := (ptsB hP (k := 8) (by omega)).2.2
  have c2x : W1.cell? ⟨W.heap.size, 12, none⟩ = some (.int .i64 (p 4).x) := (ptsB hP (k := 4) (by omega)).1
  have c2y : W1.cell? ⟨W.heap.size, 13, none⟩ = some (.int .i64 (p 4).y) := (ptsB hP (k := 4) (by omega)).2.1
  have c2z : W1.cell? ⟨W.heap.size, 14, none⟩ = some (.int .i64 (p 4).z) := (ptsB hP (k := 4) (by omega)).2.2
  have c3x : W1.cell? ⟨W.heap.size, 0, none⟩ = some (.int .i64 (p 0).x) := (ptsB hP (k := 0) (by omega)).1
  have c3y : W1.cell? ⟨W.heap.size, 1, none⟩ = some (.int .i64 (p 0).y) := (ptsB hP (k := 0) (by omega)).2.1
  have c3z : W1.cell? ⟨W.heap.size, 2, none⟩ = some (.int .i64 (p 0).z) := (ptsB hP (k := 0) (by omega)).2.2
  have pl := hP.lt
  have r0 := hR.cell 0
  have f0 := hR.frozen 0
  have r1 := hR.cell 1
  have f1 := hR.frozen 1
  have r2 := hR.cell 2
  have f2 := hR.frozen 2
  have r3 := hR.cell 3
  have f3 := hR.frozen 3
  have r4 := hR.cell 4
  have f4 := hR.frozen 4
  have r5 := hR.cell 5
  have f5 := hR.frozen 5
  have r6 := hR.cell 6
  have f6 := hR.frozen 6
  have r7 := hR.cell 7
  have f7 := hR.frozen 7
  have r8 := hR.cell 8
  have f8 := hR.frozen 8
  have r9 := hR.cell 9
  have f9 := hR.frozen 9
  have r10 := hR.cell 10
  have f10 := hR.frozen 10
  have r11 := hR.cell 11
  have f11 := hR.frozen 11
  have rl := hR.lt
  have hR2 := ((((((((((((hR.set 0 (.int .i64 ((p 12).x))).set 1 (.int .i64 ((p 12).y))).set 2 (.int .i64 ((p 12).z))).set 3 (.int .i64 ((p 8).x))).set 4 (.int .i64 ((p 8).y))).set 5 (.int .i64 ((p 8).z))).set 6 (.int .i64 ((p 4).x))).set 7 (.int .i64 ((p 4).y))).set 8 (.int .i64 ((p 4).z))).set 9 (.int .i64 ((p 0).x))).set 10 (.int .i64 ((p 0).y))).set 11 (.int .i64 ((p 0).z)))
  have hB2 : Below W.heap.size W ((((((((((((W1.setCell ⟨W.heap.size + 1, 0, none⟩ (.int .i64 ((p 12).x))).setCell ⟨W.heap.size + 1, 1, none⟩ (.int .i64 ((p 12).y))).setCell ⟨W.heap.size + 1, 2, none⟩ (.int .i64 ((p 12).z))).setCell ⟨W.heap.size + 1, 3, none⟩ (.int .i64 ((p 8).x))).setCell ⟨W.heap.size + 1, 4, none⟩ (.int .i64 ((p 8).y))).setCell ⟨W.heap.size + 1, 5, none⟩ (.int .i64 ((p 8).z))).setCell ⟨W.heap.size + 1, 6, none⟩ (.int .i64 ((p 4).x))).setCell ⟨W.heap.size + 1, 7, none⟩ (.int .i64 ((p 4).y))).setCell ⟨W.heap.size + 1, 8, none⟩ (.int .i64 ((p 4).z))).setCell ⟨W.heap.size + 1, 9, none⟩ (.int .i64 ((p 0).x))).setCell ⟨W.heap.size + 1, 10, none⟩ (.int .i64 ((p 0).y))).setCell ⟨W.heap.size + 1, 11, none⟩ (.int .i64 ((p 0).z))) := (bel_set (bel_set (bel_set (bel_set (bel_set (bel_set (bel_set (bel_set (bel_set (bel_set (bel_set (bel_set hB (p := ⟨W.heap.size + 1, 0, none⟩) (by simp) (.int .i64 ((p 12).x))) (p := ⟨W.heap.size + 1, 1, none⟩) (by simp) (.int .i64 ((p 12).y))) (p := ⟨W.heap.size + 1, 2, none⟩) (by simp) (.int .i64 ((p 12).z))) (p := ⟨W.heap.size + 1, 3, none⟩) (by simp) (.int .i64 ((p 8).x))) (p := ⟨W.heap.size + 1, 4, none⟩) (by simp) (.int .i64 ((p 8).y))) (p := ⟨W.heap.size + 1, 5, none⟩) (by simp) (.int .i64 ((p 8).z))) (p := ⟨W.heap.size + 1, 6, none⟩) (by simp) (.int .i64 ((p 4).x))) (p := ⟨W.heap.size + 1, 7, none⟩) (by simp) (.int .i64 ((p 4).y))) (p := ⟨W.heap.size + 1, 8, none⟩) (by simp) (.int .i64 ((p 4).z))) (p := ⟨W.heap.size + 1, 9, none⟩) (by simp) (.int .i64 ((p 0).x))) (p := ⟨W.heap.size + 1, 10, none⟩) (by simp) (.int .i64 ((p 0).y))) (p := ⟨W.heap.size + 1, 11, none⟩) (by simp) (.int .i64 ((p 0).z)))
  clear hP hR hB
  replace hR2 := Lib.hid hR2
  replace hB2 := Lib.hid hB2
  go_wp2
  replace hR2 := hR2.out
  replace hB2 := hB2.out
  generalize ((((((((((((W1.setCell ⟨W.heap.size + 1, 0, none⟩ (.int .i64 ((p 12).x))).setCell ⟨W.heap.size + 1, 1, none⟩ (.int .i64 ((p 12).y))).setCell ⟨W.heap.size + 1, 2, none⟩ (.int .i64 ((p 12).z))).setCell ⟨W.heap.size + 1, 3, none⟩ (.int .i64 ((p 8).x))).setCell ⟨W.heap.size + 1, 4, none⟩ (.int .i64 ((p 8).y))).setCell ⟨W.heap.size + 1, 5, none⟩ (.int .i64 ((p 8).z))).setCell ⟨W.heap.size + 1, 6, none⟩ (.int .i64 ((p 4).x))).setCell ⟨W.heap.size + 1, 7, none⟩ (.int .i64 ((p 4).y))).setCell ⟨W.heap.size + 1, 8, none⟩ (.int .i64 ((p 4).z))).setCell ⟨W.heap.size + 1, 9, none⟩ (.int .i64 ((p 0).x))).setCell ⟨W.heap.size + 1, 10, none⟩ (.int .i64 ((p 0).y))).setCell ⟨W.heap.size + 1, 11, none⟩ (.int .i64 ((p 0).z))) = WE at *
  have w0 := hR2.cell
  refine bodyPost_ret (v := .agg #[.int .i64 ((p 12).x), .int .i64 ((p 12).y), .int .i64 ((p 12).z), .int .i64 ((p 8).x), .int .i64 ((p 8).y), .int .i64 ((p 8).z), .int .i64 ((p 4).x), .int .i64 ((p 4).y), .int .i64 ((p 4).z), .int .i64 ((p 0).x), .int .i64 ((p 0).y), .int .i64 ((p 0).z)]) (by simp [results, Try.results42, go_sem, w0]) rfl ⟨rfl, hB2⟩
set_option maxHeartbeats 4000000 in
theorem vRowN (p : Nat → P3) (s : Int) (h0 : s ≠ 0) (h1 : s ≠ 1) (h2 : s ≠ 2) (h3 : s ≠ 3) : Gives Try.prog 42 #[.agg (ptsC 16 p), .int .i64 s] (.agg (ptsC 4 (rowF p s))) := by
  have e : rowF p s = fun _ => N3 := by funext k; unfold rowF; rw [if_neg h0, if_neg h1, if_neg h2, if_neg h3]
  rw [e, ptsC4]
  simp only [N3]
  refine Gives.mk fun W => ?_
  have hP : Blk ((W.alloc (.cells (ptsC 16 p) 24)).alloc (.cells #[.int .i64 0, .int .i64 0, .int .i64 0, .int .i64 0, .int .i64 0, .int .i64 0, .int .i64 0, .int .i64 0, .int .i64 0, .int .i64 0, .int .i64 0, .int .i64 0] 26)) W.heap.size 24 (ptsC 16 p) := (Blk.new _ _ _ _ rfl).alloc _
  have hR : Blk ((W.alloc (.cells (ptsC 16 p) 24)).alloc (.cells #[.int .i64 0, .int .i64 0, .int .i64 0, .int .i64 0, .int .i64 0, .int .i64 0, .int .i64 0, .int .i64 0, .int .i64 0, .int .i64 0, .int .i64 0, .int .i64 0] 26)) (W.heap.size + 1) 26 #[.int .i64 0, .int .i64 0, .int .i64 0, .int .i64 0, .int .i64 0, .int .i64 0, .int .i64 0, .int .i64 0, .int .i64 0, .int .i64 0, .int .i64 0, .int .i64 0] := Blk.new _ _ _ _ (by simp)
  have hB : Below W.heap.size W ((W.alloc (.cells (ptsC 16 p) 24)).alloc (.cells #[.int .i64 0, .int .i64 0, .int .i64 0, .int .i64 0, .int .i64 0, .int .i64 0, .int .i64 0, .int .i64 0, .int .i64 0, .int .i64 0, .int .i64 0, .int .i64 0] 26)) := bel_alloc (bel_alloc (Below.refl _ _) _) _
  go_enter Try.func42, Try.ntmps42
  go_upto_region 1 with (fail)
  generalize ((W.alloc (.cells (ptsC 16 p) 24)).alloc (.cells #[.int .i64 0, .int .i64 0, .int .i64 0, .int .i64 0, .int .i64 0, .int .i64 0, .int .i64 0, .int .i64 0, .int .i64 0, .int .i64 0, .int .i64 0, .int .i64 0] 26)) = W1 at *
  replace hP := Lib.hid hP
  replace hR := Lib.hid hR
  replace hB := Lib.hid hB
  go_upto_region 10 with (fail)
  replace hP := hP.out
  replace hR := hR.out
  replace hB := hB.out
  have pl := hP.lt
  have r0 := hR.cell 0
  have f0 := hR.frozen 0
  have r1 := hR.cell 1
  have f1 := hR.frozen 1
  have r2 := hR.cell 2
  have f2 := hR.frozen 2
  have r3 := hR.cell 3
  have f3 := hR.frozen 3
  have r4 := hR.cell 4
  have f4 := hR.frozen 4
  have r5 := hR.cell 5
  have f5 := hR.frozen 5
  have r6 := hR.cell 6
  have f6 := hR.frozen 6
  have r7 := hR.cell 7
  have f7 := hR.frozen 7
  have r8 := hR.cell 8
  have f8 := hR.frozen 8
  have r9 := hR.cell 9
  have f9 := hR.frozen 9
  have r10 := hR.cell 10
  have f10 := hR.frozen 10
  have r11 := hR.cell 11
  have f11 := hR.frozen 11
  have rl := hR.lt
  have hR2 := ((((((((((((hR.set 0 (.int .i64 (0))).set 1 (.int .i64 (0))).set 2 (.int .i64 (0))).set 3 (.int .i64 (0))).set 4 (.int .i64 (0))).set 5 (.int .i64 (0))).set 6 (.int .i64 (0))).set 7 (.int .i64 (0))).set 8 (.int .i64 (0))).set 9 (.int .i64 (0))).set 10 (.int .i64 (0))).set 11 (.int .i64 (0)))
  have hB2 : Below W.heap.size W ((((((((((((W1.setCell ⟨W.heap.size + 1, 0, none⟩ (.int .i64 (0))).setCell ⟨W.heap.size + 1, 1, none⟩ (.int .i64 (0))).setCell ⟨W.heap.size + 1, 2, none⟩ (.int .i64 (0))).setCell ⟨W.heap.size + 1, 3, none⟩ (.int .i64 (0))).setCell ⟨W.heap.size + 1, 4, none⟩ (.int .i64 (0))).setCell ⟨W.heap.size + 1, 5, none⟩ (.int .i64 (0))).setCell ⟨W.heap.size + 1, 6, none⟩ (.int .i64 (0))).setCell ⟨W.heap.size + 1, 7, none⟩ (.int .i64 (0))).setCell ⟨W.heap.size + 1, 8, none⟩ (.int .i64 (0))).setCell ⟨W.heap.size + 1, 9, none⟩ (.int .i64 (0))).setCell ⟨W.heap.size + 1, 10, none⟩ (.int .i64 (0))).setCell ⟨W.heap.size + 1, 11, none⟩ (.int .i64 (0))) := (bel_set (bel_set (bel_set (bel_set (bel_set (bel_set (bel_set (bel_set (bel_set (bel_set (bel_set (bel_set hB (p := ⟨W.heap.size + 1, 0, none⟩) (by simp) (.int .i64 (0))) (p := ⟨W.heap.size + 1, 1, none⟩) (by simp) (.int .i64 (0))) (p := ⟨W.heap.size + 1, 2, none⟩) (by simp) (.int .i64 (0))) (p := ⟨W.heap.size + 1, 3, none⟩) (by simp) (.int .i64 (0))) (p := ⟨W.heap.size + 1, 4, none⟩) (by simp) (.int .i64 (0))) (p := ⟨W.heap.size + 1, 5, none⟩) (by simp) (.int .i64 (0))) (p := ⟨W.heap.size + 1, 6, none⟩) (by simp) (.int .i64 (0))) (p := ⟨W.heap.size + 1, 7, none⟩) (by simp) (.int .i64 (0))) (p := ⟨W.heap.size + 1, 8, none⟩) (by simp) (.int .i64 (0))) (p := ⟨W.heap.size + 1, 9, none⟩) (by simp) (.int .i64 (0))) (p := ⟨W.heap.size + 1, 10, none⟩) (by simp) (.int .i64 (0))) (p := ⟨W.heap.size + 1, 11, none⟩) (by simp) (.int .i64 (0)))
  clear hP hR hB
  replace hR2 := Lib.hid hR2
  replace hB2 := Lib.hid hB2
  go_wp2
  replace hR2 := hR2.out
  replace hB2 := hB2.out
  generalize ((((((((((((W1.setCell ⟨W.heap.size + 1, 0, none⟩ (.int .i64 (0))).setCell ⟨W.heap.size + 1, 1, none⟩ (.int .i64 (0))).setCell ⟨W.heap.size + 1, 2, none⟩ (.int .i64 (0))).setCell ⟨W.heap.size + 1, 3, none⟩ (.int .i64 (0))).setCell ⟨W.heap.size + 1, 4, none⟩ (.int .i64 (0))).setCell ⟨W.heap.size + 1, 5, none⟩ (.int .i64 (0))).setCell ⟨W.heap.size + 1, 6, none⟩ (.int .i64 (0))).setCell ⟨W.heap.size + 1, 7, none⟩ (.int .i64 (0))).setCell ⟨W.heap.size + 1, 8, none⟩ (.int .i64 (0))).setCell ⟨W.heap.size + 1, 9, none⟩ (.int .i64 (0))).setCell ⟨W.heap.size + 1, 10, none⟩ (.int .i64 (0))).setCell ⟨W.heap.size + 1, 11, none⟩ (.int .i64 (0))) = WE at *
  have w0 := hR2.cell
  refine bodyPost_ret (v := .agg #[.int .i64 (0), .int .i64 (0), .int .i64 (0), .int .i64 (0), .int .i64 (0), .int .i64 (0), .int .i64 (0), .int .i64 (0), .int .i64 (0), .int .i64 (0), .int .i64 (0), .int .i64 (0)]) (by simp [results, Try.results42, go_sem, w0]) rfl ⟨rfl, hB2⟩
theorem vRow_any (p : Nat → P3) (s : Int) : Gives Try.prog 42 #[.agg (ptsC 16 p), .int .i64 s] (.agg (ptsC 4 (rowF p s))) := by
  by_cases h0 : s = 0
  · subst h0; exact vRow0 p
  by_cases h1 : s = 1
  · subst h1; exact vRow1 p
  by_cases h2 : s = 2
  · subst h2; exact vRow2 p
  by_cases h3 : s = 3
  · subst h3; exact vRow3 p
  exact vRowN p s h0 h1 h2 h3
end Go.Proofs.Ytpaehkjnefgaiaa
namespace Go.Proofs.Ytpaehkjnefgaiaa
set_option linter.unusedVariables false
set_option linter.unusedSimpArgs false
set_option linter.unnecessarySimpa false
def sz (z : Int) : Int := max z (-z)
theorem sz_pos (z : Int) : 0 ≤ sz z := by unfold sz; omega
def stpR (v : P3) : Int := sz v.x + sz v.y + sz v.z
theorem stp_pos (v : P3) : 0 ≤ stpR v := by
  unfold stpR
  have := sz_pos v.x
  have := sz_pos v.y
  have := sz_pos v.z
  omega
theorem stp_le {v : P3} (h : InP 131072 v) : stpR v ≤ 393216 := by
  obtain ⟨h1, h2, h3⟩ := h
  have : sz v.x ≤ 131072 := by unfold sz; omega
  have : sz v.y ≤ 131072 := by unfold sz; omega
  have : sz v.z ≤ 131072 := by unfold sz; omega
  unfold stpR; omega
def lenU (p : Nat → P3) : Nat → Int
  | 0 => 0
  | k + 1 => lenU p k + stpR (sb (p (k + 1)) (p k))
theorem sb_wi {a b : P3} (ha : wi a = true) (hb : wi b = true) : InP 131072 (sb a b) := by
  have h1 := (wiB_iff _ _ _ _).1 ha
  have h2 := (wiB_iff _ _ _ _).1 hb
  refine ⟨?_, ?_, ?_⟩ <;> (unfold sb; simp only []; omega)
theorem lenU_bd {p : Nat → P3} {n : Nat} (h : okB p n = true) : ∀ k, k < n → 0 ≤ lenU p k ∧ lenU p k ≤ 393216 * (k : Int)
  | 0, _ => by simp [lenU]
  | k + 1, hk => by
    have i := lenU_bd h k (by omega)
    have s := stp_le (sb_wi (okB_all.1 h (k + 1) hk) (okB_all.1 h k (by omega)))
    have s0 := stp_pos (sb (p (k + 1)) (p k))
    rw [lenU]
    omega
def lenF (p : Nat → P3) : Int := lenU p 3
theorem lenF_eq (p : Nat → P3) : lenF p = stpR (sb (p 1) (p 0)) + stpR (sb (p 2) (p 1)) + stpR (sb (p 3) (p 2)) := by
  show 0 + stpR (sb (p 1) (p 0)) + stpR (sb (p 2) (p 1)) + stpR (sb (p 3) (p 2)) = _
  omega
theorem lenF_bd {p : Nat → P3} (h : okB p 4 = true) : 0 ≤ lenF p ∧ lenF p ≤ 1179648 := by
  have := lenU_bd h 3 (by omega)
  unfold lenF
  omega
def lenK (p : Nat → P3) : Int := if okB p 4 then lenF p else 0
def edF (n u : Int) : Int := min (1 + n / u) 16
def edK (p : Nat → P3) (u : Int) : Int := if okB p 4 = true ∧ 1 ≤ u then edF (lenF p) u else 0
def prR (a b c d : P3) (k : Nat) : P3 := if k = 0 then a else if k = 1 then b else if k = 2 then c else d
theorem okB4 (p : Nat → P3) : okB p 4 = (wi (p 0) && wi (p 1) && wi (p 2) && wi (p 3)) := by simp [okB]
theorem edF_bd {n u : Int} (hn : 0 ≤ n) (hu : 1 ≤ u) : 1 ≤ edF n u ∧ edF n u ≤ 16 := by
  have : 0 ≤ n / u := Int.ediv_nonneg hn (by omega)
  unfold edF
  omega
end Go.Proofs.Ytpaehkjnefgaiaa
namespace Go.Proofs.Ytpaehkjnefgaiaa
open Go.RowKit
set_option linter.unusedVariables false
set_option linter.unusedSimpArgs false
set_option linter.unnecessarySimpa false
set_option maxRecDepth 100000
theorem vSub_sm (a b : P3) (h : InP 131072 (sb a b)) : Gives Try.prog 34 #[.agg #[.int .i64 a.x, .int .i64 a.y, .int .i64 a.z], .agg #[.int .i64 b.x, .int .i64 b.y, .int .i64 b.z]] (.agg #[.int .i64 (sb a b).x, .int .i64 (sb a b).y, .int .i64 (sb a b).z]) := by
  have k := vSub_any a.x a.y a.z b.x b.y b.z
  obtain ⟨h1, h2, h3⟩ := h
  unfold sb at h1 h2 h3
  simp only [] at h1 h2 h3
  rw [show wrap64 (a.x - b.x) = (sb a b).x from wrap_id (by omega) (by omega), show wrap64 (a.y - b.y) = (sb a b).y from wrap_id (by omega) (by omega), show wrap64 (a.z - b.z) = (sb a b).z from wrap_id (by omega) (by omega)] at k
  exact k
theorem steps_any (v : P3) (h : InP 131072 v) : Gives Try.prog 76 #[.agg #[.int .i64 v.x, .int .i64 v.y, .int .i64 v.z]] (.int .i64 (stpR v)) := by
  obtain ⟨h1, h2, h3⟩ := h
  refine Gives.mk fun w => ?_
  go_enter Try.func76, Try.ntmps76
  go_wp2
  go_ret
  exact ⟨rfl, (by repeat (first | exact Below.refl _ _ | refine bel_then ?_ _ | refine bel_grow ?_ _ | refine bel_alloc ?_ _ | refine bel_drew ?_ | refine bel_set ?_ (by simp) _ | refine bel_setRow ?_ (by first | omega | (simp; done) | (refine Nat.le_trans ?_ (top_le _ _); simp; done) | (refine Nat.le_succ_of_le (Nat.le_trans ?_ (top_le _ _)); simp; done) | (refine Nat.le_trans ?_ (top_le _ _); simp only [World.size_alloc]; refine Nat.le_succ_of_le (Nat.le_trans ?_ (top_le _ _)); simp; done)) _))⟩
theorem st_bd {a b : P3} (ha : wi a = true) (hb : wi b = true) : 0 ≤ stpR (sb a b) ∧ stpR (sb a b) ≤ 393216 := ⟨stp_pos _, stp_le (sb_wi ha hb)⟩
theorem lenK_lit (a b c d : P3) (h : (wi a && wi b && wi c && wi d) = true) : lenK (prR a b c d) = stpR (sb b a) + stpR (sb c b) + stpR (sb d c) := by
  unfold lenK
  rw [okB4, lenF_eq]
  exact if_pos h
theorem lenK_not (a b c d : P3) (h : (wi a && wi b && wi c && wi d) = false) : lenK (prR a b c d) = 0 := by
  unfold lenK
  rw [okB4]
  exact if_neg (by intro e; have e' : (wi a && wi b && wi c && wi d) = true := e; rw [h] at e'; cases e')
set_option maxHeartbeats 4000000 in
theorem length_lit (a b c d : P3) : Gives Try.prog 65 #[.agg #[.int .i64 a.x, .int .i64 a.y, .int .i64 a.z, .int .i64 b.x, .int .i64 b.y, .int .i64 b.z, .int .i64 c.x, .int .i64 c.y, .int .i64 c.z, .int .i64 d.x, .int .i64 d.y, .int .i64 d.z]] (.tuple #[.int .i64 (lenK (prR a b c d)), .bool (wi a && wi b && wi c && wi d)]) := by
  have hy := lenK_lit a b c d
  have hn := lenK_not a b c d
  generalize lenK (prR a b c d) = LL at *
  obtain ⟨ob, hob⟩ : ∃ o, o = (wi a && wi b && wi c && wi d) := ⟨_, rfl⟩
  rw [← hob] at hy hn ⊢
  replace hob := Lib.hid hob
  replace hy := Lib.hid hy
  replace hn := Lib.hid hn
  refine Gives.mk fun w => ?_
  have hP0 : Blk (w.alloc (.cells #[.int .i64 a.x, .int .i64 a.y, .int .i64 a.z, .int .i64 b.x, .int .i64 b.y, .int .i64 b.z, .int .i64 c.x, .int .i64 c.y, .int .i64 c.z, .int .i64 d.x, .int .i64 d.y, .int .i64 d.z] 26)) w.heap.size 26 #[.int .i64 a.x, .int .i64 a.y, .int .i64 a.z, .int .i64 b.x, .int .i64 b.y, .int .i64 b.z, .int .i64 c.x, .int .i64 c.y, .int .i64 c.z, .int .i64 d.x, .int .i64 d.y, .int .i64 d.z] := Blk.new _ _ _ _ rfl
  have hB0 : Below w.heap.size w (w.alloc (.cells #[.int .i64 a.x, .int .i64 a.y, .int .i64 a.z, .int .i64 b.x, .int .i64 b.y, .int .i64 b.z, .int .i64 c.x, .int .i64 c.y, .int .i64 c.z, .int .i64 d.x, .int .i64 d.y, .int .i64 d.z] 26)) := bel_alloc (Below.refl _ _) _
  go_enter Try.func65, Try.ntmps65
  go_upto_region 1 with (fail)
  generalize (w.alloc (.cells #[.int .i64 a.x, .int .i64 a.y, .int .i64 a.z, .int .i64 b.x, .int .i64 b.y, .int .i64 b.z, .int .i64 c.x, .int .i64 c.y, .int .i64 c.z, .int .i64 d.x, .int .i64 d.y, .int .i64 d.z] 26)) = W0 at *
  have pl := hP0.lt
  have c0 := hP0.cell 0
  have c1 := hP0.cell 1
  have c2 := hP0.cell 2
  have c3 := hP0.cell 3
  have c4 := hP0.cell 4
  have c5 := hP0.cell 5
  have c6 := hP0.cell 6
  have c7 := hP0.cell 7
  have c8 := hP0.cell 8
  have c9 := hP0.cell 9
  have c10 := hP0.cell 10
  have c11 := hP0.cell 11
  go_wp2
  clear pl c0 c1 c2 c3 c4 c5 c6 c7 c8 c9 c10 c11
  go_loopw [9] (fun iv wr => Below w.heap.size w wr ∧ Blk wr w.heap.size 26 #[.int .i64 a.x, .int .i64 a.y, .int .i64 a.z, .int .i64 b.x, .int .i64 b.y, .int .i64 b.z, .int .i64 c.x, .int .i64 c.y, .int .i64 c.z, .int .i64 d.x, .int .i64 d.y, .int .i64 d.z] ∧ ((iv = .int .i64 0) ∨ (iv = .int .i64 1 ∧ (wi a = true)) ∨ (iv = .int .i64 2 ∧ (wi a = true ∧ wi b = true)) ∨ (iv = .int .i64 3 ∧ (wi a = true ∧ wi b = true ∧ wi c = true)) ∨ (iv = .int .i64 4 ∧ (wi a = true ∧ wi b = true ∧ wi c = true ∧ wi d = true)))) (fun iv _ => 4 - (intOf iv).toNat)
  case atStart => exact ⟨hB0, hP0, .inl rfl⟩
  case round =>
    obtain ⟨hBr, hPr, hi⟩ := hrel
    clear hB0 hP0
    rename World => wr
    rcases hi with rfl | ⟨rfl, w0⟩ | ⟨rfl, w0, w1⟩ | ⟨rfl, w0, w1, w2⟩ | ⟨rfl, w0, w1, w2, w3⟩
    · have kw := vWithin_G a
      have pl := hPr.lt
      have c0 : wr.cell? ⟨w.heap.size, 0, none⟩ = some (.int .i64 a.x) := hPr.cell 0
      have c1 : wr.cell? ⟨w.heap.size, 1, none⟩ = some (.int .i64 a.y) := hPr.cell 1
      have c2 : wr.cell? ⟨w.heap.size, 2, none⟩ = some (.int .i64 a.z) := hPr.cell 2
      rcases Bool.eq_false_or_eq_true (wi a) with hw | hw
      rotate_left
      · rw [hw] at kw
        obtain rfl : ob = false := by rw [hob.out, hw]; simp
        obtain rfl := hn.out rfl
        replace hw := trivial
        go_upto_region 3 with (fail)
        refine wp_region_lit ?_
        refine wpList_val rfl (.agg #[.int .i64 a.x, .int .i64 a.y, .int .i64 a.z]) wr (by kernel_rfl) ?_
        simp only [Act.put, List.setIfInBounds_toArray, List.set_cons_succ, List.set_cons_zero]
        go_wp2_with (first | (go_at_call 19; (with_reducible refine (kw.at_ _).mono ?_); rintro e w' ⟨rfl, xg, rfl⟩) | fail)
        go_ret2
        exact ⟨rfl, bel_trans hBr (by repeat (first | exact Below.refl _ _ | refine bel_then ?_ _ | refine bel_grow ?_ _ | refine bel_alloc ?_ _ | refine bel_drew ?_ | refine bel_set ?_ (by simp) _ | refine bel_setRow ?_ (by first | omega | (simp; done) | (refine Nat.le_trans ?_ (top_le _ _); simp; done) | (refine Nat.le_succ_of_le (Nat.le_trans ?_ (top_le _ _)); simp; done) | (refine Nat.le_trans ?_ (top_le _ _); simp only [World.size_alloc]; refine Nat.le_succ_of_le (Nat.le_trans ?_ (top_le _ _)); simp; done)) _))⟩
      · rw [hw] at kw
        replace hw := Lib.hid hw
        go_upto_region 3 with (fail)
        refine wp_region_lit ?_
        refine wpList_val rfl (.agg #[.int .i64 a.x, .int .i64 a.y, .int .i64 a.z]) wr (by kernel_rfl) ?_
        simp only [Act.put, List.setIfInBounds_toArray, List.set_cons_succ, List.set_cons_zero]
        go_wp2_with (first | (go_at_call 19; (with_reducible refine (kw.at_ _).mono ?_); rintro e w' ⟨rfl, xg, rfl⟩) | fail)
        go_roundw
        case rel => exact ⟨bel_trans hBr (by repeat (first | exact Below.refl _ _ | refine bel_then ?_ _ | refine bel_grow ?_ _ | refine bel_alloc ?_ _ | refine bel_drew ?_ | refine bel_set ?_ (by simp) _ | refine bel_setRow ?_ (by first | omega | (simp; done) | (refine Nat.le_trans ?_ (top_le _ _); simp; done) | (refine Nat.le_succ_of_le (Nat.le_trans ?_ (top_le _ _)); simp; done) | (refine Nat.le_trans ?_ (top_le _ _); simp only [World.size_alloc]; refine Nat.le_succ_of_le (Nat.le_trans ?_ (top_le _ _)); simp; done)) _)), (hPr.below (by repeat (first | exact Below.refl _ _ | refine bel_then ?_ _ | refine bel_grow ?_ _ | refine bel_alloc ?_ _ | refine bel_drew ?_ | refine bel_set ?_ (by simp) _ | refine bel_setRow ?_ (by first | omega | (simp; done) | (refine Nat.le_trans ?_ (top_le _ _); simp; done) | (refine Nat.le_succ_of_le (Nat.le_trans ?_ (top_le _ _)); simp; done) | (refine Nat.le_trans ?_ (top_le _ _); simp only [World.size_alloc]; refine Nat.le_succ_of_le (Nat.le_trans ?_ (top_le _ _)); simp; done)) _))), .inr (.inl ⟨rfl, hw.out⟩)⟩
        case measure => simp [intOf]
    · have kw := vWithin_G b
      replace w0 := Lib.hid w0
      have pl := hPr.lt
      have c0 : wr.cell? ⟨w.heap.size, 3, none⟩ = some (.int .i64 b.x) := hPr.cell 3
      have c1 : wr.cell? ⟨w.heap.size, 4, none⟩ = some (.int .i64 b.y) := hPr.cell 4
      have c2 : wr.cell? ⟨w.heap.size, 5, none⟩ = some (.int .i64 b.z) := hPr.cell 5
      rcases Bool.eq_false_or_eq_true (wi b) with hw | hw
      rotate_left
      · rw [hw] at kw
        obtain rfl : ob = false := by rw [hob.out, hw]; simp
        obtain rfl := hn.out rfl
        replace hw := trivial
        go_upto_region 3 with (fail)
        refine wp_region_lit ?_
        refine wpList_val rfl (.agg #[.int .i64 b.x, .int .i64 b.y, .int .i64 b.z]) wr (by kernel_rfl) ?_
        simp only [Act.put, List.setIfInBounds_toArray, List.set_cons_succ, List.set_cons_zero]
        go_wp2_with (first | (go_at_call 19; (with_reducible refine (kw.at_ _).mono ?_); rintro e w' ⟨rfl, xg, rfl⟩) | fail)
        go_ret2
        exact ⟨rfl, bel_trans hBr (by repeat (first | exact Below.refl _ _ | refine bel_then ?_ _ | refine bel_grow ?_ _ | refine bel_alloc ?_ _ | refine bel_drew ?_ | refine bel_set ?_ (by simp) _ | refine bel_setRow ?_ (by first | omega | (simp; done) | (refine Nat.le_trans ?_ (top_le _ _); simp; done) | (refine Nat.le_succ_of_le (Nat.le_trans ?_ (top_le _ _)); simp; done) | (refine Nat.le_trans ?_ (top_le _ _); simp only [World.size_alloc]; refine Nat.le_succ_of_le (Nat.le_trans ?_ (top_le _ _)); simp; done)) _))⟩
      · rw [hw] at kw
        replace hw := Lib.hid hw
        go_upto_region 3 with (fail)
        refine wp_region_lit ?_
        refine wpList_val rfl (.agg #[.int .i64 b.x, .int .i64 b.y, .int .i64 b.z]) wr (by kernel_rfl) ?_
        simp only [Act.put, List.setIfInBounds_toArray, List.set_cons_succ, List.set_cons_zero]
        go_wp2_with (first | (go_at_call 19; (with_reducible refine (kw.at_ _).mono ?_); rintro e w' ⟨rfl, xg, rfl⟩) | fail)
        go_roundw
        case rel => exact ⟨bel_trans hBr (by repeat (first | exact Below.refl _ _ | refine bel_then ?_ _ | refine bel_grow ?_ _ | refine bel_alloc ?_ _ | refine bel_drew ?_ | refine bel_set ?_ (by simp) _ | refine bel_setRow ?_ (by first | omega | (simp; done) | (refine Nat.le_trans ?_ (top_le _ _); simp; done) | (refine Nat.le_succ_of_le (Nat.le_trans ?_ (top_le _ _)); simp; done) | (refine Nat.le_trans ?_ (top_le _ _); simp only [World.size_alloc]; refine Nat.le_succ_of_le (Nat.le_trans ?_ (top_le _ _)); simp; done)) _)), (hPr.below (by repeat (first | exact Below.refl _ _ | refine bel_then ?_ _ | refine bel_grow ?_ _ | refine bel_alloc ?_ _ | refine bel_drew ?_ | refine bel_set ?_ (by simp) _ | refine bel_setRow ?_ (by first | omega | (simp; done) | (refine Nat.le_trans ?_ (top_le _ _); simp; done) | (refine Nat.le_succ_of_le (Nat.le_trans ?_ (top_le _ _)); simp; done) | (refine Nat.le_trans ?_ (top_le _ _); simp only [World.size_alloc]; refine Nat.le_succ_of_le (Nat.le_trans ?_ (top_le _ _)); simp; done)) _))), .inr (.inr (.inl ⟨rfl, w0.out, hw.out⟩))⟩
        case measure => simp [intOf]
    · have kw := vWithin_G c
      replace w0 := Lib.hid w0
      replace w1 := Lib.hid w1
      have pl := hPr.lt
      have c0 : wr.cell? ⟨w.heap.size, 6, none⟩ = some (.int .i64 c.x) := hPr.cell 6
      have c1 : wr.cell? ⟨w.heap.size, 7, none⟩ = some (.int .i64 c.y) := hPr.cell 7
      have c2 : wr.cell? ⟨w.heap.size, 8, none⟩ = some (.int .i64 c.z) := hPr.cell 8
      rcases Bool.eq_false_or_eq_true (wi c) with hw | hw
      rotate_left
      · rw [hw] at kw
        obtain rfl : ob = false := by rw [hob.out, hw]; simp
        obtain rfl := hn.out rfl
        replace hw := trivial
        go_upto_region 3 with (fail)
        refine wp_region_lit ?_
        refine wpList_val rfl (.agg #[.int .i64 c.x, .int .i64 c.y, .int .i64 c.z]) wr (by kernel_rfl) ?_
        simp only [Act.put, List.setIfInBounds_toArray, List.set_cons_succ, List.set_cons_zero]
        go_wp2_with (first | (go_at_call 19; (with_reducible refine (kw.at_ _).mono ?_); rintro e w' ⟨rfl, xg, rfl⟩) | fail)
        go_ret2
        exact ⟨rfl, bel_trans hBr (by repeat (first | exact Below.refl _ _ | refine bel_then ?_ _ | refine bel_grow ?_ _ | refine bel_alloc ?_ _ | refine bel_drew ?_ | refine bel_set ?_ (by simp) _ | refine bel_setRow ?_ (by first | omega | (simp; done) | (refine Nat.le_trans ?_ (top_le _ _); simp; done) | (refine Nat.le_succ_of_le (Nat.le_trans ?_ (top_le _ _)); simp; done) | (refine Nat.le_trans ?_ (top_le _ _); simp only [World.size_alloc]; refine Nat.le_succ_of_le (Nat.le_trans ?_ (top_le _ _)); simp; done)) _))⟩
      · rw [hw] at kw
        replace hw := Lib.hid hw
        go_upto_region 3 with (fail)
        refine wp_region_lit ?_
        refine wpList_val rfl (.agg #[.int .i64 c.x, .int .i64 c.y, .int .i64 c.z]) wr (by kernel_rfl) ?_
        simp only [Act.put, List.setIfInBounds_toArray, List.set_cons_succ, List.set_cons_zero]
        go_wp2_with (first | (go_at_call 19; (with_reducible refine (kw.at_ _).mono ?_); rintro e w' ⟨rfl, xg, rfl⟩) | fail)
        go_roundw
        case rel => exact ⟨bel_trans hBr (by repeat (first | exact Below.refl _ _ | refine bel_then ?_ _ | refine bel_grow ?_ _ | refine bel_alloc ?_ _ | refine bel_drew ?_ | refine bel_set ?_ (by simp) _ | refine bel_setRow ?_ (by first | omega | (simp; done) | (refine Nat.le_trans ?_ (top_le _ _); simp; done) | (refine Nat.le_succ_of_le (Nat.le_trans ?_ (top_le _ _)); simp; done) | (refine Nat.le_trans ?_ (top_le _ _); simp only [World.size_alloc]; refine Nat.le_succ_of_le (Nat.le_trans ?_ (top_le _ _)); simp; done)) _)), (hPr.below (by repeat (first | exact Below.refl _ _ | refine bel_then ?_ _ | refine bel_grow ?_ _ | refine bel_alloc ?_ _ | refine bel_drew ?_ | refine bel_set ?_ (by simp) _ | refine bel_setRow ?_ (by first | omega | (simp; done) | (refine Nat.le_trans ?_ (top_le _ _); simp; done) | (refine Nat.le_succ_of_le (Nat.le_trans ?_ (top_le _ _)); simp; done) | (refine Nat.le_trans ?_ (top_le _ _); simp only [World.size_alloc]; refine Nat.le_succ_of_le (Nat.le_trans ?_ (top_le _ _)); simp; done)) _))), .inr (.inr (.inr (.inl ⟨rfl, w0.out, w1.out, hw.out⟩)))⟩
        case measure => simp [intOf]
    · have kw := vWithin_G d
      replace w0 := Lib.hid w0
      replace w1 := Lib.hid w1
      replace w2 := Lib.hid w2
      have pl := hPr.lt
      have c0 : wr.cell? ⟨w.heap.size, 9, none⟩ = some (.int .i64 d.x) := hPr.cell 9
      have c1 : wr.cell? ⟨w.heap.size, 10, none⟩ = some (.int .i64 d.y) := hPr.cell 10
      have c2 : wr.cell? ⟨w.heap.size, 11, none⟩ = some (.int .i64 d.z) := hPr.cell 11
      rcases Bool.eq_false_or_eq_true (wi d) with hw | hw
      rotate_left
      · rw [hw] at kw
        obtain rfl : ob = false := by rw [hob.out, hw]; simp
        obtain rfl := hn.out rfl
        replace hw := trivial
        go_upto_region 3 with (fail)
        refine wp_region_lit ?_
        refine wpList_val rfl (.agg #[.int .i64 d.x, .int .i64 d.y, .int .i64 d.z]) wr (by kernel_rfl) ?_
        simp only [Act.put, List.setIfInBounds_toArray, List.set_cons_succ, List.set_cons_zero]
        go_wp2_with (first | (go_at_call 19; (with_reducible refine (kw.at_ _).mono ?_); rintro e w' ⟨rfl, xg, rfl⟩) | fail)
        go_ret2
        exact ⟨rfl, bel_trans hBr (by repeat (first | exact Below.refl _ _ | refine bel_then ?_ _ | refine bel_grow ?_ _ | refine bel_alloc ?_ _ | refine bel_drew ?_ | refine bel_set ?_ (by simp) _ | refine bel_setRow ?_ (by first | omega | (simp; done) | (refine Nat.le_trans ?_ (top_le _ _); simp; done) | (refine Nat.le_succ_of_le (Nat.le_trans ?_ (top_le _ _)); simp; done) | (refine Nat.le_trans ?_ (top_le _ _); simp only [World.size_alloc]; refine Nat.le_succ_of_le (Nat.le_trans ?_ (top_le _ _)); simp; done)) _))⟩
      · rw [hw] at kw
        replace hw := Lib.hid hw
        go_upto_region 3 with (fail)
        refine wp_region_lit ?_
        refine wpList_val rfl (.agg #[.int .i64 d.x, .int .i64 d.y, .int .i64 d.z]) wr (by kernel_rfl) ?_
        simp only [Act.put, List.setIfInBounds_toArray, List.set_cons_succ, List.set_cons_zero]
        go_wp2_with (first | (go_at_call 19; (with_reducible refine (kw.at_ _).mono ?_); rintro e w' ⟨rfl, xg, rfl⟩) | fail)
        go_roundw
        case rel => exact ⟨bel_trans hBr (by repeat (first | exact Below.refl _ _ | refine bel_then ?_ _ | refine bel_grow ?_ _ | refine bel_alloc ?_ _ | refine bel_drew ?_ | refine bel_set ?_ (by simp) _ | refine bel_setRow ?_ (by first | omega | (simp; done) | (refine Nat.le_trans ?_ (top_le _ _); simp; done) | (refine Nat.le_succ_of_le (Nat.le_trans ?_ (top_le _ _)); simp; done) | (refine Nat.le_trans ?_ (top_le _ _); simp only [World.size_alloc]; refine Nat.le_succ_of_le (Nat.le_trans ?_ (top_le _ _)); simp; done)) _)), (hPr.below (by repeat (first | exact Below.refl _ _ | refine bel_then ?_ _ | refine bel_grow ?_ _ | refine bel_alloc ?_ _ | refine bel_drew ?_ | refine bel_set ?_ (by simp) _ | refine bel_setRow ?_ (by first | omega | (simp; done) | (refine Nat.le_trans ?_ (top_le _ _); simp; done) | (refine Nat.le_succ_of_le (Nat.le_trans ?_ (top_le _ _)); simp; done) | (refine Nat.le_trans ?_ (top_le _ _); simp only [World.size_alloc]; refine Nat.le_succ_of_le (Nat.le_trans ?_ (top_le _ _)); simp; done)) _))), .inr (.inr (.inr (.inr (⟨rfl, w0.out, w1.out, w2.out, hw.out⟩))))⟩
        case measure => simp [intOf]
    · obtain rfl : ob = true := by rw [hob.out, w0, w1, w2, w3]; rfl
      have hLL := hy.out rfl
      have s1 := sb_wi w1 w0
      have s2 := sb_wi w2 w1
      have s3 := sb_wi w3 w2
      have b1 := st_bd w1 w0
      have b2 := st_bd w2 w1
      have b3 := st_bd w3 w2
      have e1 := vSub_sm b a s1
      have e2 := vSub_sm c b s2
      have e3 := vSub_sm d c s3
      have f1 := steps_any _ s1
      have f2 := steps_any _ s2
      have f3 := steps_any _ s3
      clear hy hn w0 w1 w2 w3 s1 s2 s3
      generalize stpR (sb b a) = t1 at *
      generalize stpR (sb c b) = t2 at *
      generalize stpR (sb d c) = t3 at *
      replace hLL := Lib.hid hLL
      generalize sb b a = u1 at *
      generalize sb c b = u2 at *
      generalize sb d c = u3 at *
      go_wp2
      go_loopw [6, 16] (fun lv iv wq => Below w.heap.size w wq ∧ Blk wq w.heap.size 26 #[.int .i64 a.x, .int .i64 a.y, .int .i64 a.z, .int .i64 b.x, .int .i64 b.y, .int .i64 b.z, .int .i64 c.x, .int .i64 c.y, .int .i64 c.z, .int .i64 d.x, .int .i64 d.y, .int .i64 d.z] ∧ ((iv = .int .i64 0 ∧ lv = .int .i64 0) ∨ (iv = .int .i64 1 ∧ lv = .int .i64 t1) ∨ (iv = .int .i64 2 ∧ lv = .int .i64 (t1 + t2)) ∨ (iv = .int .i64 3 ∧ lv = .int .i64 (t1 + t2 + t3)))) (fun lv iv _ => 3 - (intOf iv).toNat)
      case atStart => exact ⟨hBr, hPr, .inl ⟨rfl, rfl⟩⟩
      case round =>
        obtain ⟨hBq, hPq, hi⟩ := hrel
        clear hBr hPr
        rename World => wq
        rcases hi with ⟨rfl, rfl⟩ | ⟨rfl, rfl⟩ | ⟨rfl, rfl⟩ | ⟨rfl, rfl⟩
        · have pl := hPq.lt
          have c0 := hPq.cell 0
          have c1 := hPq.cell 1
          have c2 := hPq.cell 2
          have c3 := hPq.cell 3
          have c4 := hPq.cell 4
          have c5 := hPq.cell 5
          go_upto_region 11 with (fail)
          refine wp_region_grow (by kernel_rfl) (by kernel_rfl) ?_
          repeat (go_big_quiet_step (((first | with_reducible exact e1.quiet _ | with_reducible exact e1.quiet2 _ _ | with_reducible exact f1.quiet _ | with_reducible exact f1.quiet2 _ _))))
          refine wpQuiet_nil ?_
          rintro _ ⟨xg, rfl⟩
          go_wp2
          go_roundw
          case rel => exact ⟨bel_trans hBq (by repeat (first | exact Below.refl _ _ | refine bel_then ?_ _ | refine bel_grow ?_ _ | refine bel_alloc ?_ _ | refine bel_drew ?_ | refine bel_set ?_ (by simp) _ | refine bel_setRow ?_ (by first | omega | (simp; done) | (refine Nat.le_trans ?_ (top_le _ _); simp; done) | (refine Nat.le_succ_of_le (Nat.le_trans ?_ (top_le _ _)); simp; done) | (refine Nat.le_trans ?_ (top_le _ _); simp only [World.size_alloc]; refine Nat.le_succ_of_le (Nat.le_trans ?_ (top_le _ _)); simp; done)) _)), hPq.below (by repeat (first | exact Below.refl _ _ | refine bel_then ?_ _ | refine bel_grow ?_ _ | refine bel_alloc ?_ _ | refine bel_drew ?_ | refine bel_set ?_ (by simp) _ | refine bel_setRow ?_ (by first | omega | (simp; done) | (refine Nat.le_trans ?_ (top_le _ _); simp; done) | (refine Nat.le_succ_of_le (Nat.le_trans ?_ (top_le _ _)); simp; done) | (refine Nat.le_trans ?_ (top_le _ _); simp only [World.size_alloc]; refine Nat.le_succ_of_le (Nat.le_trans ?_ (top_le _ _)); simp; done)) _)), .inr (.inl ⟨rfl, rfl⟩)⟩
          case measure => simp [intOf]
        · have pl := hPq.lt
          have c0 := hPq.cell 3
          have c1 := hPq.cell 4
          have c2 := hPq.cell 5
          have c3 := hPq.cell 6
          have c4 := hPq.cell 7
          have c5 := hPq.cell 8
          go_upto_region 11 with (fail)
          refine wp_region_grow (by kernel_rfl) (by kernel_rfl) ?_
          repeat (go_big_quiet_step (((first | with_reducible exact e2.quiet _ | with_reducible exact e2.quiet2 _ _ | with_reducible exact f2.quiet _ | with_reducible exact f2.quiet2 _ _))))
          refine wpQuiet_nil ?_
          rintro _ ⟨xg, rfl⟩
          go_wp2
          go_roundw
          case rel => exact ⟨bel_trans hBq (by repeat (first | exact Below.refl _ _ | refine bel_then ?_ _ | refine bel_grow ?_ _ | refine bel_alloc ?_ _ | refine bel_drew ?_ | refine bel_set ?_ (by simp) _ | refine bel_setRow ?_ (by first | omega | (simp; done) | (refine Nat.le_trans ?_ (top_le _ _); simp; done) | (refine Nat.le_succ_of_le (Nat.le_trans ?_ (top_le _ _)); simp; done) | (refine Nat.le_trans ?_ (top_le _ _); simp only [World.size_alloc]; refine Nat.le_succ_of_le (Nat.le_trans ?_ (top_le _ _)); simp; done)) _)), hPq.below (by repeat (first | exact Below.refl _ _ | refine bel_then ?_ _ | refine bel_grow ?_ _ | refine bel_alloc ?_ _ | refine bel_drew ?_ | refine bel_set ?_ (by simp) _ | refine bel_setRow ?_ (by first | omega | (simp; done) | (refine Nat.le_trans ?_ (top_le _ _); simp; done) | (refine Nat.le_succ_of_le (Nat.le_trans ?_ (top_le _ _)); simp; done) | (refine Nat.le_trans ?_ (top_le _ _); simp only [World.size_alloc]; refine Nat.le_succ_of_le (Nat.le_trans ?_ (top_le _ _)); simp; done)) _)), .inr (.inr (.inl ⟨rfl, rfl⟩))⟩
          case measure => simp [intOf]
        · have pl := hPq.lt
          have c0 := hPq.cell 6
          have c1 := hPq.cell 7
          have c2 := hPq.cell 8
          have c3 := hPq.cell 9
          have c4 := hPq.cell 10
          have c5 := hPq.cell 11
          go_upto_region 11 with (fail)
          refine wp_region_grow (by kernel_rfl) (by kernel_rfl) ?_
          repeat (go_big_quiet_step (((first | with_reducible exact e3.quiet _ | with_reducible exact e3.quiet2 _ _ | with_reducible exact f3.quiet _ | with_reducible exact f3.quiet2 _ _))))
          refine wpQuiet_nil ?_
          rintro _ ⟨xg, rfl⟩
          go_wp2
          go_roundw
          case rel => exact ⟨bel_trans hBq (by repeat (first | exact Below.refl _ _ | refine bel_then ?_ _ | refine bel_grow ?_ _ | refine bel_alloc ?_ _ | refine bel_drew ?_ | refine bel_set ?_ (by simp) _ | refine bel_setRow ?_ (by first | omega | (simp; done) | (refine Nat.le_trans ?_ (top_le _ _); simp; done) | (refine Nat.le_succ_of_le (Nat.le_trans ?_ (top_le _ _)); simp; done) | (refine Nat.le_trans ?_ (top_le _ _); simp only [World.size_alloc]; refine Nat.le_succ_of_le (Nat.le_trans ?_ (top_le _ _)); simp; done)) _)), hPq.below (by repeat (first | exact Below.refl _ _ | refine bel_then ?_ _ | refine bel_grow ?_ _ | refine bel_alloc ?_ _ | refine bel_drew ?_ | refine bel_set ?_ (by simp) _ | refine bel_setRow ?_ (by first | omega | (simp; done) | (refine Nat.le_trans ?_ (top_le _ _); simp; done) | (refine Nat.le_succ_of_le (Nat.le_trans ?_ (top_le _ _)); simp; done) | (refine Nat.le_trans ?_ (top_le _ _); simp only [World.size_alloc]; refine Nat.le_succ_of_le (Nat.le_trans ?_ (top_le _ _)); simp; done)) _)), .inr (.inr (.inr (⟨rfl, rfl⟩)))⟩
          case measure => simp [intOf]
        · go_wp2
          go_ret2
          exact ⟨by rw [hLL.out]; rfl, bel_trans hBq (by repeat (first | exact Below.refl _ _ | refine bel_then ?_ _ | refine bel_grow ?_ _ | refine bel_alloc ?_ _ | refine bel_drew ?_ | refine bel_set ?_ (by simp) _ | refine bel_setRow ?_ (by first | omega | (simp; done) | (refine Nat.le_trans ?_ (top_le _ _); simp; done) | (refine Nat.le_succ_of_le (Nat.le_trans ?_ (top_le _ _)); simp; done) | (refine Nat.le_trans ?_ (top_le _ _); simp only [World.size_alloc]; refine Nat.le_succ_of_le (Nat.le_trans ?_ (top_le _ _)); simp; done)) _))⟩
end Go.Proofs.Ytpaehkjnefgaiaa
