/- CurveSides holds for every input: the row, out of the walk. No condition. -/
import Derived.Test.YtiaikceoodeboabRows
import Derived.Test.YtiaikceoodeboabC3
import Derived.Test.YtiaikceoodeboabC4
import Derived.Test.YtiaikceoodeboabC5
namespace Go.Proofs.Ytiaikceoodeboab.curveSides
open Go.ChangeShapes Go.WideShapes Go.ChangeAt Go.RowKit
set_option linter.unusedVariables false
set_option linter.unusedSimpArgs false
theorem sd0 {p : Nat → P3} {i n m : Int} (bi : In64 i) (hk : ptK p i n 0 m = true) : cubK (rowF p 0) i n = true ∧ cubP (rowF p 0) i n = ptP p i n 0 m := by
  have h := ptK_iff.1 hk
  obtain ⟨a, b⟩ := side0 h
  exact ⟨cubK_iff.2 a, b⟩
theorem sd1 {p : Nat → P3} {i n m : Int} (bi : In64 i) (hk : ptK p m m i n = true) : cubK (rowF p 1) i n = true ∧ cubP (rowF p 1) i n = ptP p m m i n := by
  have h := ptK_iff.1 hk
  obtain ⟨a, b⟩ := side1 h
  exact ⟨cubK_iff.2 a, b⟩
theorem sd2 {p : Nat → P3} {i n m : Int} (bi : In64 i) (hk : ptK p (wrap64 (n - i)) n m m = true) : cubK (rowF p 2) i n = true ∧ cubP (rowF p 2) i n = ptP p (wrap64 (n - i)) n m m := by
  have h := ptK_iff.1 hk
  have e : wrap64 (n - i) = n - i := by have a := h.n1; have b := h.i0; have c := h.i1; have d := h.n0; unfold In64 at bi; unfold wrap64 at a b ⊢; omega
  rw [e] at h ⊢
  obtain ⟨a, b⟩ := side2 h
  exact ⟨cubK_iff.2 a, b⟩
theorem sd3 {p : Nat → P3} {i n m : Int} (bi : In64 i) (hk : ptK p 0 m (wrap64 (n - i)) n = true) : cubK (rowF p 3) i n = true ∧ cubP (rowF p 3) i n = ptP p 0 m (wrap64 (n - i)) n := by
  have h := ptK_iff.1 hk
  have e : wrap64 (n - i) = n - i := by have a := h.m1; have b := h.j0; have c := h.j1; have d := h.m0; unfold In64 at bi; unfold wrap64 at a b ⊢; omega
  rw [e] at h ⊢
  obtain ⟨a, b⟩ := side3 h
  exact ⟨cubK_iff.2 a, b⟩
set_option maxRecDepth 100000 in
set_option maxHeartbeats 4000000 in
theorem walk (w : World) (p : Nat → P3) (kp : ∀ k, k < 16 → In3 (p k)) (i : Int) (bi : In64 i) (n : Int) (bn : In64 n) : Calls Try.prog 5 #[.agg (ptsC 16 p), .int .i64 i, .int .i64 n] w fun e w' => e = .returned (.bool true) ∧ Below w.heap.size w w' := by
  have al := alive11_any
  have hP0 : Blk (w.alloc (.cells (ptsC 16 p) 24)) w.heap.size 24 (ptsC 16 p) := Blk.new _ _ _ _ rfl
  have hB0 : Below w.heap.size w (w.alloc (.cells (ptsC 16 p) 24)) := bel_alloc (Below.refl _ _) _
  go_enter Try.func5, Try.ntmps5
  go_upto_region 1 with (fail)
  generalize (w.alloc (.cells (ptsC 16 p) 24)) = W0 at *
  go_upto_region 3 with (first | (go_at_call 10; first | ((with_reducible refine (al.at_ _).mono ?_); rintro e w' ⟨rfl, xa, rfl⟩)) | fail)
  have hP1 := hP0.grow xa
  have hB1 := bel_grow hB0 xa
  clear hP0 hB0 al
  generalize grow W0 xa = W1 at *
  go_wp2
  go_loopw [7] (fun iv wr => ∃ m : Nat, iv = .int .i64 (m : Int) ∧ 1 ≤ m ∧ m ≤ 4 ∧ Below w.heap.size w wr ∧ Blk wr w.heap.size 24 (ptsC 16 p)) (fun iv _ => 4 - (intOf iv).toNat)
  case atStart => exact ⟨1, rfl, by omega, by omega, hB1, hP1⟩
  case round =>
    obtain ⟨m, rfl, hm1, hm4, hBr, hPr⟩ := hrel
    clear hB1 hP1
    rename World => wr
    by_cases hlt : m < 4
    · have q1 : (m : Int) ≤ 3 := by omega
      go_upto_region 6 with (fail)
      go_wp2
      go_loopw [8] (fun iv wq => ∃ k : Nat, rowI iv k ∧ Below w.heap.size w wq ∧ Blk wq w.heap.size 24 (ptsC 16 p)) (fun iv _ => 4 - (intOf iv).toNat)
      case atStart => exact ⟨0, .inl ⟨rfl, rfl⟩, hBr, hPr⟩
      case round =>
        obtain ⟨k, hi, hBq, hPq⟩ := hrel
        clear hBr hPr
        rename World => wq
        rcases hi with ⟨rfl, rfl⟩ | ⟨rfl, rfl⟩ | ⟨rfl, rfl⟩ | ⟨rfl, rfl⟩ | ⟨rfl, rfl⟩
        · have r1 : Gives Try.prog 15 #[.agg (ptsC 16 p), .int .i64 0] (.agg #[.int .i64 (p 0).x, .int .i64 (p 0).y, .int .i64 (p 0).z, .int .i64 (p 1).x, .int .i64 (p 1).y, .int .i64 (p 1).z, .int .i64 (p 2).x, .int .i64 (p 2).y, .int .i64 (p 2).z, .int .i64 (p 3).x, .int .i64 (p 3).y, .int .i64 (p 3).z]) := vRow_any p 0
          have k1 : Gives Try.prog 11 #[.agg #[.int .i64 (p 0).x, .int .i64 (p 0).y, .int .i64 (p 0).z, .int .i64 (p 1).x, .int .i64 (p 1).y, .int .i64 (p 1).z, .int .i64 (p 2).x, .int .i64 (p 2).y, .int .i64 (p 2).z, .int .i64 (p 3).x, .int .i64 (p 3).y, .int .i64 (p 3).z], .int .i64 i, .int .i64 n] (.tuple #[.agg #[.int .i64 (cubP (rowF p 0) i n).x, .int .i64 (cubP (rowF p 0) i n).y, .int .i64 (cubP (rowF p 0) i n).z], .bool (cubK (rowF p 0) i n)]) := cub_any (rowF p 0) i n
          have k2 := pt_any p (i) (n) (0) ((m : Int))
          have hs := sd0 (p := p) (i := i) (n := n) (m := (m : Int)) bi
          generalize cubP (rowF p 0) i n = A at *
          generalize cubK (rowF p 0) i n = ka at *
          generalize ptP p (i) (n) (0) ((m : Int)) = X at *
          generalize ptK p (i) (n) (0) ((m : Int)) = kx at *
          replace hs := Lib.hid hs
          go_upto_region 9 with (fail)
          refine wp_region_lit ?_
          refine load16 rfl _ rfl w.heap.size rfl p hPq ?_
          simp only [Act.put, List.setIfInBounds_toArray, List.set_cons_succ, List.set_cons_zero]
          go_upto_region 10 with (first | (go_at_call 15; first | ((with_reducible refine (r1.at_ _).mono ?_); rintro e w' ⟨rfl, xr, rfl⟩)) | (go_at_call 11; first | ((with_reducible refine (k1.at_ _).mono ?_); rintro e w' ⟨rfl, xg, rfl⟩)) | fail)
          have hP3 : Blk ((grow wq (xr.then xg)).alloc (.cells #[.int .i64 A.x, .int .i64 A.y, .int .i64 A.z] 23)) w.heap.size 24 (ptsC 16 p) := (hPq.grow _).alloc _
          have ha3 : Blk ((grow wq (xr.then xg)).alloc (.cells #[.int .i64 A.x, .int .i64 A.y, .int .i64 A.z] 23)) (grow wq (xr.then xg)).heap.size 23 #[.int .i64 A.x, .int .i64 A.y, .int .i64 A.z] := Blk.new _ _ _ _ rfl
          have hB3 : Below w.heap.size w ((grow wq (xr.then xg)).alloc (.cells #[.int .i64 A.x, .int .i64 A.y, .int .i64 A.z] 23)) := bel_alloc (bel_grow hBq _) _
          clear hPq hBq k1 r1
          generalize (grow wq (xr.then xg)).alloc (.cells #[.int .i64 A.x, .int .i64 A.y, .int .i64 A.z] 23) = W3 at *
          generalize (grow wq (xr.then xg)).heap.size = g1 at *
          go_upto_region 14 with (fail)
          have hP4 : Blk (W3.alloc (.cells #[.int .i64 0, .int .i64 0, .int .i64 0] 23)) w.heap.size 24 (ptsC 16 p) := hP3.alloc _
          have ha4 := ha3.alloc (.cells #[.int .i64 0, .int .i64 0, .int .i64 0] 23)
          have hx4 : Blk (W3.alloc (.cells #[.int .i64 0, .int .i64 0, .int .i64 0] 23)) W3.heap.size 23 #[.int .i64 0, .int .i64 0, .int .i64 0] := Blk.new _ _ _ _ rfl
          have hB4 : Below w.heap.size w (W3.alloc (.cells #[.int .i64 0, .int .i64 0, .int .i64 0] 23)) := bel_alloc hB3 _
          have hne : w.heap.size < W3.heap.size ∧ g1 < W3.heap.size ∧ w.heap.size ≤ W3.heap.size := ⟨hP3.lt, ha3.lt, Nat.le_of_lt hP3.lt⟩
          clear hP3 ha3 hB3
          generalize W3.alloc (.cells #[.int .i64 0, .int .i64 0, .int .i64 0] 23) = W4 at *
          generalize W3.heap.size = g2 at *
          refine wp_region_lit ?_
          refine load16 rfl _ rfl w.heap.size rfl p hP4 ?_
          simp only [Act.put, List.setIfInBounds_toArray, List.set_cons_succ, List.set_cons_zero]
          go_upto_region 21 with (first | (go_at_call 13; (with_reducible refine (k2.at_ _).mono ?_); rintro e Wo ⟨rfl, xo, hWo⟩; have hP5 : Blk Wo w.heap.size 24 (ptsC 16 p) := hWo ▸ hP4.grow xo; have ha5 : Blk Wo g1 23 #[.int .i64 A.x, .int .i64 A.y, .int .i64 A.z] := hWo ▸ ha4.grow xo; have hx5 : Blk Wo g2 23 #[.int .i64 0, .int .i64 0, .int .i64 0] := hWo ▸ hx4.grow xo; have hB5 : Below w.heap.size w Wo := hWo ▸ bel_grow hB4 xo; clear hWo; have f0 := hx5.frozen 0; have f1 := hx5.frozen 1; have f2 := hx5.frozen 2; have r0 := hx5.cell 0; have r1 := hx5.cell 1; have r2 := hx5.cell 2; have rl := hx5.lt) | fail)
          clear hP4 ha4 hx4 hB4 k2
          rename World => Wo
          have hP6 := ((hP5.far (b := g2) 0 (.int .i64 X.x) (by omega)).far (b := g2) 1 (.int .i64 X.y) (by omega)).far (b := g2) 2 (.int .i64 X.z) (by omega)
          have ha6 := ((ha5.far (b := g2) 0 (.int .i64 X.x) (by omega)).far (b := g2) 1 (.int .i64 X.y) (by omega)).far (b := g2) 2 (.int .i64 X.z) (by omega)
          have hx6 := ((hx5.set 0 (.int .i64 X.x)).set 1 (.int .i64 X.y)).set 2 (.int .i64 X.z)
          have hB6 : Below w.heap.size w (((Wo.setCell ⟨g2, 0, none⟩ (.int .i64 X.x)).setCell ⟨g2, 1, none⟩ (.int .i64 X.y)).setCell ⟨g2, 2, none⟩ (.int .i64 X.z)) := bel_set (bel_set (bel_set hB5 (p := ⟨g2, 0, none⟩) hne.2.2 _) (p := ⟨g2, 1, none⟩) hne.2.2 _) (p := ⟨g2, 2, none⟩) hne.2.2 _
          clear hP5 ha5 hx5 hB5 f0 f1 f2 r0 r1 r2 rl
          generalize ((Wo.setCell ⟨g2, 0, none⟩ (.int .i64 X.x)).setCell ⟨g2, 1, none⟩ (.int .i64 X.y)).setCell ⟨g2, 2, none⟩ (.int .i64 X.z) = W6 at *
          have xa0 := ha6.cell 0
          have xa1 := ha6.cell 1
          have xa2 := ha6.cell 2
          have xx0 : W6.cell? ⟨g2, 0, none⟩ = some (.int .i64 X.x) := hx6.cell 0
          have xx1 : W6.cell? ⟨g2, 1, none⟩ = some (.int .i64 X.y) := hx6.cell 1
          have xx2 : W6.cell? ⟨g2, 2, none⟩ = some (.int .i64 X.z) := hx6.cell 2
          have la := ha6.lt
          have lx := hx6.lt
          cases kx with
          | false =>
            go_wp2
            go_roundw
            case rel => exact ⟨1, .inr (.inl ⟨rfl, rfl⟩), hB6, hP6⟩
            case measure => simp [intOf]
          | true =>
            obtain ⟨rfl, rfl⟩ := hs.out rfl
            go_wp2
            go_roundw
            case rel => exact ⟨1, .inr (.inl ⟨rfl, rfl⟩), hB6, hP6⟩
            case measure => simp [intOf]
        · have r1 : Gives Try.prog 15 #[.agg (ptsC 16 p), .int .i64 1] (.agg #[.int .i64 (p 3).x, .int .i64 (p 3).y, .int .i64 (p 3).z, .int .i64 (p 7).x, .int .i64 (p 7).y, .int .i64 (p 7).z, .int .i64 (p 11).x, .int .i64 (p 11).y, .int .i64 (p 11).z, .int .i64 (p 15).x, .int .i64 (p 15).y, .int .i64 (p 15).z]) := vRow_any p 1
          have k1 : Gives Try.prog 11 #[.agg #[.int .i64 (p 3).x, .int .i64 (p 3).y, .int .i64 (p 3).z, .int .i64 (p 7).x, .int .i64 (p 7).y, .int .i64 (p 7).z, .int .i64 (p 11).x, .int .i64 (p 11).y, .int .i64 (p 11).z, .int .i64 (p 15).x, .int .i64 (p 15).y, .int .i64 (p 15).z], .int .i64 i, .int .i64 n] (.tuple #[.agg #[.int .i64 (cubP (rowF p 1) i n).x, .int .i64 (cubP (rowF p 1) i n).y, .int .i64 (cubP (rowF p 1) i n).z], .bool (cubK (rowF p 1) i n)]) := cub_any (rowF p 1) i n
          have k2 := pt_any p ((m : Int)) ((m : Int)) (i) (n)
          have hs := sd1 (p := p) (i := i) (n := n) (m := (m : Int)) bi
          generalize cubP (rowF p 1) i n = A at *
          generalize cubK (rowF p 1) i n = ka at *
          generalize ptP p ((m : Int)) ((m : Int)) (i) (n) = X at *
          generalize ptK p ((m : Int)) ((m : Int)) (i) (n) = kx at *
          replace hs := Lib.hid hs
          go_upto_region 9 with (fail)
          refine wp_region_lit ?_
          refine load16 rfl _ rfl w.heap.size rfl p hPq ?_
          simp only [Act.put, List.setIfInBounds_toArray, List.set_cons_succ, List.set_cons_zero]
          go_upto_region 10 with (first | (go_at_call 15; first | ((with_reducible refine (r1.at_ _).mono ?_); rintro e w' ⟨rfl, xr, rfl⟩)) | (go_at_call 11; first | ((with_reducible refine (k1.at_ _).mono ?_); rintro e w' ⟨rfl, xg, rfl⟩)) | fail)
          have hP3 : Blk ((grow wq (xr.then xg)).alloc (.cells #[.int .i64 A.x, .int .i64 A.y, .int .i64 A.z] 23)) w.heap.size 24 (ptsC 16 p) := (hPq.grow _).alloc _
          have ha3 : Blk ((grow wq (xr.then xg)).alloc (.cells #[.int .i64 A.x, .int .i64 A.y, .int .i64 A.z] 23)) (grow wq (xr.then xg)).heap.size 23 #[.int .i64 A.x, .int .i64 A.y, .int .i64 A.z] := Blk.new _ _ _ _ rfl
          have hB3 : Below w.heap.size w ((grow wq (xr.then xg)).alloc (.cells #[.int .i64 A.x, .int .i64 A.y, .int .i64 A.z] 23)) := bel_alloc (bel_grow hBq _) _
          clear hPq hBq k1 r1
          generalize (grow wq (xr.then xg)).alloc (.cells #[.int .i64 A.x, .int .i64 A.y, .int .i64 A.z] 23) = W3 at *
          generalize (grow wq (xr.then xg)).heap.size = g1 at *
          go_upto_region 16 with (fail)
          have hP4 : Blk (W3.alloc (.cells #[.int .i64 0, .int .i64 0, .int .i64 0] 23)) w.heap.size 24 (ptsC 16 p) := hP3.alloc _
          have ha4 := ha3.alloc (.cells #[.int .i64 0, .int .i64 0, .int .i64 0] 23)
          have hx4 : Blk (W3.alloc (.cells #[.int .i64 0, .int .i64 0, .int .i64 0] 23)) W3.heap.size 23 #[.int .i64 0, .int .i64 0, .int .i64 0] := Blk.new _ _ _ _ rfl
          have hB4 : Below w.heap.size w (W3.alloc (.cells #[.int .i64 0, .int .i64 0, .int .i64 0] 23)) := bel_alloc hB3 _
          have hne : w.heap.size < W3.heap.size ∧ g1 < W3.heap.size ∧ w.heap.size ≤ W3.heap.size := ⟨hP3.lt, ha3.lt, Nat.le_of_lt hP3.lt⟩
          clear hP3 ha3 hB3
          generalize W3.alloc (.cells #[.int .i64 0, .int .i64 0, .int .i64 0] 23) = W4 at *
          generalize W3.heap.size = g2 at *
          refine wp_region_lit ?_
          refine load16 rfl _ rfl w.heap.size rfl p hP4 ?_
          simp only [Act.put, List.setIfInBounds_toArray, List.set_cons_succ, List.set_cons_zero]
          go_upto_region 21 with (first | (go_at_call 13; (with_reducible refine (k2.at_ _).mono ?_); rintro e Wo ⟨rfl, xo, hWo⟩; have hP5 : Blk Wo w.heap.size 24 (ptsC 16 p) := hWo ▸ hP4.grow xo; have ha5 : Blk Wo g1 23 #[.int .i64 A.x, .int .i64 A.y, .int .i64 A.z] := hWo ▸ ha4.grow xo; have hx5 : Blk Wo g2 23 #[.int .i64 0, .int .i64 0, .int .i64 0] := hWo ▸ hx4.grow xo; have hB5 : Below w.heap.size w Wo := hWo ▸ bel_grow hB4 xo; clear hWo; have f0 := hx5.frozen 0; have f1 := hx5.frozen 1; have f2 := hx5.frozen 2; have r0 := hx5.cell 0; have r1 := hx5.cell 1; have r2 := hx5.cell 2; have rl := hx5.lt) | fail)
          clear hP4 ha4 hx4 hB4 k2
          rename World => Wo
          have hP6 := ((hP5.far (b := g2) 0 (.int .i64 X.x) (by omega)).far (b := g2) 1 (.int .i64 X.y) (by omega)).far (b := g2) 2 (.int .i64 X.z) (by omega)
          have ha6 := ((ha5.far (b := g2) 0 (.int .i64 X.x) (by omega)).far (b := g2) 1 (.int .i64 X.y) (by omega)).far (b := g2) 2 (.int .i64 X.z) (by omega)
          have hx6 := ((hx5.set 0 (.int .i64 X.x)).set 1 (.int .i64 X.y)).set 2 (.int .i64 X.z)
          have hB6 : Below w.heap.size w (((Wo.setCell ⟨g2, 0, none⟩ (.int .i64 X.x)).setCell ⟨g2, 1, none⟩ (.int .i64 X.y)).setCell ⟨g2, 2, none⟩ (.int .i64 X.z)) := bel_set (bel_set (bel_set hB5 (p := ⟨g2, 0, none⟩) hne.2.2 _) (p := ⟨g2, 1, none⟩) hne.2.2 _) (p := ⟨g2, 2, none⟩) hne.2.2 _
          clear hP5 ha5 hx5 hB5 f0 f1 f2 r0 r1 r2 rl
          generalize ((Wo.setCell ⟨g2, 0, none⟩ (.int .i64 X.x)).setCell ⟨g2, 1, none⟩ (.int .i64 X.y)).setCell ⟨g2, 2, none⟩ (.int .i64 X.z) = W6 at *
          have xa0 := ha6.cell 0
          have xa1 := ha6.cell 1
          have xa2 := ha6.cell 2
          have xx0 : W6.cell? ⟨g2, 0, none⟩ = some (.int .i64 X.x) := hx6.cell 0
          have xx1 : W6.cell? ⟨g2, 1, none⟩ = some (.int .i64 X.y) := hx6.cell 1
          have xx2 : W6.cell? ⟨g2, 2, none⟩ = some (.int .i64 X.z) := hx6.cell 2
          have la := ha6.lt
          have lx := hx6.lt
          cases kx with
          | false =>
            go_wp2
            go_roundw
            case rel => exact ⟨2, .inr (.inr (.inl ⟨rfl, rfl⟩)), hB6, hP6⟩
            case measure => simp [intOf]
          | true =>
            obtain ⟨rfl, rfl⟩ := hs.out rfl
            go_wp2
            go_roundw
            case rel => exact ⟨2, .inr (.inr (.inl ⟨rfl, rfl⟩)), hB6, hP6⟩
            case measure => simp [intOf]
        · have r1 : Gives Try.prog 15 #[.agg (ptsC 16 p), .int .i64 2] (.agg #[.int .i64 (p 15).x, .int .i64 (p 15).y, .int .i64 (p 15).z, .int .i64 (p 14).x, .int .i64 (p 14).y, .int .i64 (p 14).z, .int .i64 (p 13).x, .int .i64 (p 13).y, .int .i64 (p 13).z, .int .i64 (p 12).x, .int .i64 (p 12).y, .int .i64 (p 12).z]) := vRow_any p 2
          have k1 : Gives Try.prog 11 #[.agg #[.int .i64 (p 15).x, .int .i64 (p 15).y, .int .i64 (p 15).z, .int .i64 (p 14).x, .int .i64 (p 14).y, .int .i64 (p 14).z, .int .i64 (p 13).x, .int .i64 (p 13).y, .int .i64 (p 13).z, .int .i64 (p 12).x, .int .i64 (p 12).y, .int .i64 (p 12).z], .int .i64 i, .int .i64 n] (.tuple #[.agg #[.int .i64 (cubP (rowF p 2) i n).x, .int .i64 (cubP (rowF p 2) i n).y, .int .i64 (cubP (rowF p 2) i n).z], .bool (cubK (rowF p 2) i n)]) := cub_any (rowF p 2) i n
          have k2 := pt_any p (wrap64 (n - i)) (n) ((m : Int)) ((m : Int))
          have hs := sd2 (p := p) (i := i) (n := n) (m := (m : Int)) bi
          generalize cubP (rowF p 2) i n = A at *
          generalize cubK (rowF p 2) i n = ka at *
          generalize ptP p (wrap64 (n - i)) (n) ((m : Int)) ((m : Int)) = X at *
          generalize ptK p (wrap64 (n - i)) (n) ((m : Int)) ((m : Int)) = kx at *
          replace hs := Lib.hid hs
          go_upto_region 9 with (fail)
          refine wp_region_lit ?_
          refine load16 rfl _ rfl w.heap.size rfl p hPq ?_
          simp only [Act.put, List.setIfInBounds_toArray, List.set_cons_succ, List.set_cons_zero]
          go_upto_region 10 with (first | (go_at_call 15; first | ((with_reducible refine (r1.at_ _).mono ?_); rintro e w' ⟨rfl, xr, rfl⟩)) | (go_at_call 11; first | ((with_reducible refine (k1.at_ _).mono ?_); rintro e w' ⟨rfl, xg, rfl⟩)) | fail)
          have hP3 : Blk ((grow wq (xr.then xg)).alloc (.cells #[.int .i64 A.x, .int .i64 A.y, .int .i64 A.z] 23)) w.heap.size 24 (ptsC 16 p) := (hPq.grow _).alloc _
          have ha3 : Blk ((grow wq (xr.then xg)).alloc (.cells #[.int .i64 A.x, .int .i64 A.y, .int .i64 A.z] 23)) (grow wq (xr.then xg)).heap.size 23 #[.int .i64 A.x, .int .i64 A.y, .int .i64 A.z] := Blk.new _ _ _ _ rfl
          have hB3 : Below w.heap.size w ((grow wq (xr.then xg)).alloc (.cells #[.int .i64 A.x, .int .i64 A.y, .int .i64 A.z] 23)) := bel_alloc (bel_grow hBq _) _
          clear hPq hBq k1 r1
          generalize (grow wq (xr.then xg)).alloc (.cells #[.int .i64 A.x, .int .i64 A.y, .int .i64 A.z] 23) = W3 at *
          generalize (grow wq (xr.then xg)).heap.size = g1 at *
          go_upto_region 18 with (fail)
          have hP4 : Blk (W3.alloc (.cells #[.int .i64 0, .int .i64 0, .int .i64 0] 23)) w.heap.size 24 (ptsC 16 p) := hP3.alloc _
          have ha4 := ha3.alloc (.cells #[.int .i64 0, .int .i64 0, .int .i64 0] 23)
          have hx4 : Blk (W3.alloc (.cells #[.int .i64 0, .int .i64 0, .int .i64 0] 23)) W3.heap.size 23 #[.int .i64 0, .int .i64 0, .int .i64 0] := Blk.new _ _ _ _ rfl
          have hB4 : Below w.heap.size w (W3.alloc (.cells #[.int .i64 0, .int .i64 0, .int .i64 0] 23)) := bel_alloc hB3 _
          have hne : w.heap.size < W3.heap.size ∧ g1 < W3.heap.size ∧ w.heap.size ≤ W3.heap.size := ⟨hP3.lt, ha3.lt, Nat.le_of_lt hP3.lt⟩
          clear hP3 ha3 hB3
          generalize W3.alloc (.cells #[.int .i64 0, .int .i64 0, .int .i64 0] 23) = W4 at *
          generalize W3.heap.size = g2 at *
          refine wp_region_lit ?_
          refine load16 rfl _ rfl w.heap.size rfl p hP4 ?_
          simp only [Act.put, List.setIfInBounds_toArray, List.set_cons_succ, List.set_cons_zero]
          go_upto_region 21 with (first | (go_at_call 13; (with_reducible refine (k2.at_ _).mono ?_); rintro e Wo ⟨rfl, xo, hWo⟩; have hP5 : Blk Wo w.heap.size 24 (ptsC 16 p) := hWo ▸ hP4.grow xo; have ha5 : Blk Wo g1 23 #[.int .i64 A.x, .int .i64 A.y, .int .i64 A.z] := hWo ▸ ha4.grow xo; have hx5 : Blk Wo g2 23 #[.int .i64 0, .int .i64 0, .int .i64 0] := hWo ▸ hx4.grow xo; have hB5 : Below w.heap.size w Wo := hWo ▸ bel_grow hB4 xo; clear hWo; have f0 := hx5.frozen 0; have f1 := hx5.frozen 1; have f2 := hx5.frozen 2; have r0 := hx5.cell 0; have r1 := hx5.cell 1; have r2 := hx5.cell 2; have rl := hx5.lt) | fail)
          clear hP4 ha4 hx4 hB4 k2
          rename World => Wo
          have hP6 := ((hP5.far (b := g2) 0 (.int .i64 X.x) (by omega)).far (b := g2) 1 (.int .i64 X.y) (by omega)).far (b := g2) 2 (.int .i64 X.z) (by omega)
          have ha6 := ((ha5.far (b := g2) 0 (.int .i64 X.x) (by omega)).far (b := g2) 1 (.int .i64 X.y) (by omega)).far (b := g2) 2 (.int .i64 X.z) (by omega)
          have hx6 := ((hx5.set 0 (.int .i64 X.x)).set 1 (.int .i64 X.y)).set 2 (.int .i64 X.z)
          have hB6 : Below w.heap.size w (((Wo.setCell ⟨g2, 0, none⟩ (.int .i64 X.x)).setCell ⟨g2, 1, none⟩ (.int .i64 X.y)).setCell ⟨g2, 2, none⟩ (.int .i64 X.z)) := bel_set (bel_set (bel_set hB5 (p := ⟨g2, 0, none⟩) hne.2.2 _) (p := ⟨g2, 1, none⟩) hne.2.2 _) (p := ⟨g2, 2, none⟩) hne.2.2 _
          clear hP5 ha5 hx5 hB5 f0 f1 f2 r0 r1 r2 rl
          generalize ((Wo.setCell ⟨g2, 0, none⟩ (.int .i64 X.x)).setCell ⟨g2, 1, none⟩ (.int .i64 X.y)).setCell ⟨g2, 2, none⟩ (.int .i64 X.z) = W6 at *
          have xa0 := ha6.cell 0
          have xa1 := ha6.cell 1
          have xa2 := ha6.cell 2
          have xx0 : W6.cell? ⟨g2, 0, none⟩ = some (.int .i64 X.x) := hx6.cell 0
          have xx1 : W6.cell? ⟨g2, 1, none⟩ = some (.int .i64 X.y) := hx6.cell 1
          have xx2 : W6.cell? ⟨g2, 2, none⟩ = some (.int .i64 X.z) := hx6.cell 2
          have la := ha6.lt
          have lx := hx6.lt
          cases kx with
          | false =>
            go_wp2
            go_roundw
            case rel => exact ⟨3, .inr (.inr (.inr (.inl ⟨rfl, rfl⟩))), hB6, hP6⟩
            case measure => simp [intOf]
          | true =>
            obtain ⟨rfl, rfl⟩ := hs.out rfl
            go_wp2
            go_roundw
            case rel => exact ⟨3, .inr (.inr (.inr (.inl ⟨rfl, rfl⟩))), hB6, hP6⟩
            case measure => simp [intOf]
        · have r1 : Gives Try.prog 15 #[.agg (ptsC 16 p), .int .i64 3] (.agg #[.int .i64 (p 12).x, .int .i64 (p 12).y, .int .i64 (p 12).z, .int .i64 (p 8).x, .int .i64 (p 8).y, .int .i64 (p 8).z, .int .i64 (p 4).x, .int .i64 (p 4).y, .int .i64 (p 4).z, .int .i64 (p 0).x, .int .i64 (p 0).y, .int .i64 (p 0).z]) := vRow_any p 3
          have k1 : Gives Try.prog 11 #[.agg #[.int .i64 (p 12).x, .int .i64 (p 12).y, .int .i64 (p 12).z, .int .i64 (p 8).x, .int .i64 (p 8).y, .int .i64 (p 8).z, .int .i64 (p 4).x, .int .i64 (p 4).y, .int .i64 (p 4).z, .int .i64 (p 0).x, .int .i64 (p 0).y, .int .i64 (p 0).z], .int .i64 i, .int .i64 n] (.tuple #[.agg #[.int .i64 (cubP (rowF p 3) i n).x, .int .i64 (cubP (rowF p 3) i n).y, .int .i64 (cubP (rowF p 3) i n).z], .bool (cubK (rowF p 3) i n)]) := cub_any (rowF p 3) i n
          have k2 := pt_any p (0) ((m : Int)) (wrap64 (n - i)) (n)
          have hs := sd3 (p := p) (i := i) (n := n) (m := (m : Int)) bi
          generalize cubP (rowF p 3) i n = A at *
          generalize cubK (rowF p 3) i n = ka at *
          generalize ptP p (0) ((m : Int)) (wrap64 (n - i)) (n) = X at *
          generalize ptK p (0) ((m : Int)) (wrap64 (n - i)) (n) = kx at *
          replace hs := Lib.hid hs
          go_upto_region 9 with (fail)
          refine wp_region_lit ?_
          refine load16 rfl _ rfl w.heap.size rfl p hPq ?_
          simp only [Act.put, List.setIfInBounds_toArray, List.set_cons_succ, List.set_cons_zero]
          go_upto_region 10 with (first | (go_at_call 15; first | ((with_reducible refine (r1.at_ _).mono ?_); rintro e w' ⟨rfl, xr, rfl⟩)) | (go_at_call 11; first | ((with_reducible refine (k1.at_ _).mono ?_); rintro e w' ⟨rfl, xg, rfl⟩)) | fail)
          have hP3 : Blk ((grow wq (xr.then xg)).alloc (.cells #[.int .i64 A.x, .int .i64 A.y, .int .i64 A.z] 23)) w.heap.size 24 (ptsC 16 p) := (hPq.grow _).alloc _
          have ha3 : Blk ((grow wq (xr.then xg)).alloc (.cells #[.int .i64 A.x, .int .i64 A.y, .int .i64 A.z] 23)) (grow wq (xr.then xg)).heap.size 23 #[.int .i64 A.x, .int .i64 A.y, .int .i64 A.z] := Blk.new _ _ _ _ rfl
          have hB3 : Below w.heap.size w ((grow wq (xr.then xg)).alloc (.cells #[.int .i64 A.x, .int .i64 A.y, .int .i64 A.z] 23)) := bel_alloc (bel_grow hBq _) _
          clear hPq hBq k1 r1
          generalize (grow wq (xr.then xg)).alloc (.cells #[.int .i64 A.x, .int .i64 A.y, .int .i64 A.z] 23) = W3 at *
          generalize (grow wq (xr.then xg)).heap.size = g1 at *
          go_upto_region 20 with (fail)
          have hP4 : Blk (W3.alloc (.cells #[.int .i64 0, .int .i64 0, .int .i64 0] 23)) w.heap.size 24 (ptsC 16 p) := hP3.alloc _
          have ha4 := ha3.alloc (.cells #[.int .i64 0, .int .i64 0, .int .i64 0] 23)
          have hx4 : Blk (W3.alloc (.cells #[.int .i64 0, .int .i64 0, .int .i64 0] 23)) W3.heap.size 23 #[.int .i64 0, .int .i64 0, .int .i64 0] := Blk.new _ _ _ _ rfl
          have hB4 : Below w.heap.size w (W3.alloc (.cells #[.int .i64 0, .int .i64 0, .int .i64 0] 23)) := bel_alloc hB3 _
          have hne : w.heap.size < W3.heap.size ∧ g1 < W3.heap.size ∧ w.heap.size ≤ W3.heap.size := ⟨hP3.lt, ha3.lt, Nat.le_of_lt hP3.lt⟩
          clear hP3 ha3 hB3
          generalize W3.alloc (.cells #[.int .i64 0, .int .i64 0, .int .i64 0] 23) = W4 at *
          generalize W3.heap.size = g2 at *
          refine wp_region_lit ?_
          refine load16 rfl _ rfl w.heap.size rfl p hP4 ?_
          simp only [Act.put, List.setIfInBounds_toArray, List.set_cons_succ, List.set_cons_zero]
          go_upto_region 21 with (first | (go_at_call 13; (with_reducible refine (k2.at_ _).mono ?_); rintro e Wo ⟨rfl, xo, hWo⟩; have hP5 : Blk Wo w.heap.size 24 (ptsC 16 p) := hWo ▸ hP4.grow xo; have ha5 : Blk Wo g1 23 #[.int .i64 A.x, .int .i64 A.y, .int .i64 A.z] := hWo ▸ ha4.grow xo; have hx5 : Blk Wo g2 23 #[.int .i64 0, .int .i64 0, .int .i64 0] := hWo ▸ hx4.grow xo; have hB5 : Below w.heap.size w Wo := hWo ▸ bel_grow hB4 xo; clear hWo; have f0 := hx5.frozen 0; have f1 := hx5.frozen 1; have f2 := hx5.frozen 2; have r0 := hx5.cell 0; have r1 := hx5.cell 1; have r2 := hx5.cell 2; have rl := hx5.lt) | fail)
          clear hP4 ha4 hx4 hB4 k2
          rename World => Wo
          have hP6 := ((hP5.far (b := g2) 0 (.int .i64 X.x) (by omega)).far (b := g2) 1 (.int .i64 X.y) (by omega)).far (b := g2) 2 (.int .i64 X.z) (by omega)
          have ha6 := ((ha5.far (b := g2) 0 (.int .i64 X.x) (by omega)).far (b := g2) 1 (.int .i64 X.y) (by omega)).far (b := g2) 2 (.int .i64 X.z) (by omega)
          have hx6 := ((hx5.set 0 (.int .i64 X.x)).set 1 (.int .i64 X.y)).set 2 (.int .i64 X.z)
          have hB6 : Below w.heap.size w (((Wo.setCell ⟨g2, 0, none⟩ (.int .i64 X.x)).setCell ⟨g2, 1, none⟩ (.int .i64 X.y)).setCell ⟨g2, 2, none⟩ (.int .i64 X.z)) := bel_set (bel_set (bel_set hB5 (p := ⟨g2, 0, none⟩) hne.2.2 _) (p := ⟨g2, 1, none⟩) hne.2.2 _) (p := ⟨g2, 2, none⟩) hne.2.2 _
          clear hP5 ha5 hx5 hB5 f0 f1 f2 r0 r1 r2 rl
          generalize ((Wo.setCell ⟨g2, 0, none⟩ (.int .i64 X.x)).setCell ⟨g2, 1, none⟩ (.int .i64 X.y)).setCell ⟨g2, 2, none⟩ (.int .i64 X.z) = W6 at *
          have xa0 := ha6.cell 0
          have xa1 := ha6.cell 1
          have xa2 := ha6.cell 2
          have xx0 : W6.cell? ⟨g2, 0, none⟩ = some (.int .i64 X.x) := hx6.cell 0
          have xx1 : W6.cell? ⟨g2, 1, none⟩ = some (.int .i64 X.y) := hx6.cell 1
          have xx2 : W6.cell? ⟨g2, 2, none⟩ = some (.int .i64 X.z) := hx6.cell 2
          have la := ha6.lt
          have lx := hx6.lt
          cases kx with
          | false =>
            go_wp2
            go_roundw
            case rel => exact ⟨4, .inr (.inr (.inr (.inr ⟨rfl, rfl⟩))), hB6, hP6⟩
            case measure => simp [intOf]
          | true =>
            obtain ⟨rfl, rfl⟩ := hs.out rfl
            go_wp2
            go_roundw
            case rel => exact ⟨4, .inr (.inr (.inr (.inr ⟨rfl, rfl⟩))), hB6, hP6⟩
            case measure => simp [intOf]
        · go_wp2
          go_roundw
          case rel => exact ⟨m + 1, by go_num, by omega, by omega, hBq, hPq⟩
          case measure => simp [intOf]; omega
    · obtain rfl : m = 4 := by omega
      go_wp2
      go_ret
      exact ⟨rfl, hBr⟩

theorem own : ownKnob Try.prog.godebug = none := by kernel_rfl
set_option maxRecDepth 100000 in
theorem lifted (os : Os) (started : os.Started) (H : Type) (enc : TypeId × Value → H) :
    ReturnsInHanded {} Try.checked os 5 .any (Rows.curveSidesSpec.pre6 enc Try.prog Try.f5 Rows.curveSidesRow.domain false) (Rows.curveSidesSpec.post enc Try.prog Try.f5 false true false false) := by
  refine returnsInHanded_of_change (C := Try.checked) own started (by kernel_rfl) Try.func5
    (ChangeSpec.witness6 (enc := enc) (C := Try.checked) false ⟨#[], #[.agg #[.int .i64 0, .int .i64 0, .int .i64 0, .int .i64 0, .int .i64 0, .int .i64 0, .int .i64 0, .int .i64 0, .int .i64 0, .int .i64 0, .int .i64 0, .int .i64 0, .int .i64 0, .int .i64 0, .int .i64 0, .int .i64 0, .int .i64 0, .int .i64 0, .int .i64 0, .int .i64 0, .int .i64 0, .int .i64 0, .int .i64 0, .int .i64 0, .int .i64 0, .int .i64 0, .int .i64 0, .int .i64 0, .int .i64 0, .int .i64 0, .int .i64 0, .int .i64 0, .int .i64 0, .int .i64 0, .int .i64 0, .int .i64 0, .int .i64 0, .int .i64 0, .int .i64 0, .int .i64 0, .int .i64 0, .int .i64 0, .int .i64 0, .int .i64 0, .int .i64 0, .int .i64 0, .int .i64 0, .int .i64 0], .int .i64 0, .int .i64 0], []⟩ 12 (by kernel_rfl) (by kernel_rfl) (by kernel_rfl) (by kernel_rfl)) ?_
  intro W base args ds gs before hval0 hW hcnd _
  have hval : ∀ (j : Nat) t v, Try.f5.params[j]? = some t → args[j]? = some v → Value.okWide Try.prog W .any base t v := hval0
  have hW' := hW
  obtain ⟨p, q, hA0, hV, rfl, hfz, hnd⟩ := hW
  have hA : DataW.TrodAll enc Try.prog W 0 (fun _ => true) true Try.f5.params.toList args.toList ds p := hA0
  rw [Try.params5] at hA hval
  obtain ⟨v0, vs0, d0, ds0, p0, q0, hargs, rfl, rfl, h0, r0⟩ := trodAll_cons hA
  obtain ⟨v1, vs1, d1, ds1, p1, q1, rfl, rfl, rfl, h1, r1⟩ := trodAll_cons r0
  obtain ⟨v2, vs2, d2, ds2, p2, q2, rfl, rfl, rfl, h2, r2⟩ := trodAll_cons r1
  obtain ⟨rfl, rfl, rfl⟩ := trodAll_nil r2
  obtain rfl : args = #[v0, v1, v2] := by cases args; simp_all
  obtain ⟨p0, rfl, k0⟩ := open_A16 (hval 0 24 v0 rfl rfl) h0
  obtain ⟨a1, rfl, b1⟩ := open_int64 (hval 1 3 v1 rfl rfl) h1
  obtain ⟨a2, rfl, b2⟩ := open_int64 (hval 2 3 v2 rfl rfl) h2
  refine (walk W p0 k0 a1 b1 a2 b2).mono fun e W' ⟨he, hb⟩ => ?_
  subst he
  exact ⟨_, rfl, law_post (tb := 4) (by kernel_rfl) (by kernel_rfl) rfl rfl Try.underlying4 rfl rfl rfl hW' hb⟩

theorem over : Rows.curveSidesRow.holds Try.pinned (OpenSpec.ofChange Rows.curveSidesSpec) :=
  OpenClaim.holds_of_wide 5 Try.f5 rfl rfl rfl rfl rfl rfl rfl ⟨rfl, rfl, rfl, rfl, rfl⟩ rfl rfl rfl rfl rfl (by kernel_rfl) Try.func5 (by kernel_rfl)
    (of_decide_eq_true (by kernel_rfl)) (by unfold Func.isWrapper; first | (rw [if_pos (by decide +kernel)]; kernel_rfl) | (rw [if_neg (by decide +kernel)]; exact ⟨rfl, rfl⟩))
    (fun os started H enc _ => lifted os started H enc)

theorem proved : Rows.CurveSidesSaid :=
  over
#print axioms proved
end Go.Proofs.Ytiaikceoodeboab.curveSides
