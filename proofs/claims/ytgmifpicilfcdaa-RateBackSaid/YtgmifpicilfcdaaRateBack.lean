/- RateBack holds for every input: the row, out of the walk. No condition. -/
import Derived.Test.YtgmifpicilfcdaaRows
import Derived.Test.YtgmifpicilfcdaaC4
import Derived.Test.YtgmifpicilfcdaaC5
namespace Go.Proofs.Ytgmifpicilfcdaa.rateBack
open Go.ChangeShapes Go.WideShapes Go.ChangeAt Go.RowKit
set_option linter.unusedVariables false
set_option linter.unusedSimpArgs false
set_option maxRecDepth 100000 in
set_option maxHeartbeats 4000000 in
theorem walk (w : World) (p : Nat → P3) (kp : ∀ k, k < 16 → In3 (p k)) (u : Int) (bu : In64 u) : Calls Try.prog 4 #[.agg (ptsC 16 p), .int .i64 u] w fun e w' => e = .returned (.bool true) ∧ Below w.heap.size w w' := by
  clear kp bu
  have al := alive12_any
  have hP0 : Blk (w.alloc (.cells (ptsC 16 p) 24)) w.heap.size 24 (ptsC 16 p) := Blk.new _ _ _ _ rfl
  have hB0 : Below w.heap.size w (w.alloc (.cells (ptsC 16 p) 24)) := bel_alloc (Below.refl _ _) _
  go_enter Try.func4, Try.ntmps4
  go_upto_region 1 with (fail)
  generalize (w.alloc (.cells (ptsC 16 p) 24)) = W0 at *
  go_upto_region 3 with (first | (go_at_call 7; first | ((with_reducible refine (al.at_ _).mono ?_); rintro e w' ⟨rfl, xa, rfl⟩)) | fail)
  have hP1 := hP0.grow xa
  have hB1 := bel_grow hB0 xa
  clear hP0 hB0 al
  generalize grow W0 xa = W1 at *
  have pl := hP1.lt
  have c0 := (ptsB hP1 (show 0 < 16 by omega)).1
  have c1 := (ptsB hP1 (show 0 < 16 by omega)).2.1
  have c2 := (ptsB hP1 (show 0 < 16 by omega)).2.2
  have c3 := (ptsB hP1 (show 1 < 16 by omega)).1
  have c4 := (ptsB hP1 (show 1 < 16 by omega)).2.1
  have c5 := (ptsB hP1 (show 1 < 16 by omega)).2.2
  have c6 := (ptsB hP1 (show 2 < 16 by omega)).1
  have c7 := (ptsB hP1 (show 2 < 16 by omega)).2.1
  have c8 := (ptsB hP1 (show 2 < 16 by omega)).2.2
  have c9 := (ptsB hP1 (show 3 < 16 by omega)).1
  have c10 := (ptsB hP1 (show 3 < 16 by omega)).2.1
  have c11 := (ptsB hP1 (show 3 < 16 by omega)).2.2
  simp only [Nat.zero_mul, Nat.reduceMul, Nat.reduceAdd] at c0 c1 c2 c3 c4 c5 c6 c7 c8 c9 c10 c11
  go_upto_region 4 with (fail)
  have hC2 : Blk (W1.alloc (.cells #[.int .i64 (p 0).x, .int .i64 (p 0).y, .int .i64 (p 0).z, .int .i64 (p 1).x, .int .i64 (p 1).y, .int .i64 (p 1).z, .int .i64 (p 2).x, .int .i64 (p 2).y, .int .i64 (p 2).z, .int .i64 (p 3).x, .int .i64 (p 3).y, .int .i64 (p 3).z] 26)) W1.heap.size 26 #[.int .i64 (p 0).x, .int .i64 (p 0).y, .int .i64 (p 0).z, .int .i64 (p 1).x, .int .i64 (p 1).y, .int .i64 (p 1).z, .int .i64 (p 2).x, .int .i64 (p 2).y, .int .i64 (p 2).z, .int .i64 (p 3).x, .int .i64 (p 3).y, .int .i64 (p 3).z] := Blk.new _ _ _ _ rfl
  have hP2 : Blk (W1.alloc (.cells #[.int .i64 (p 0).x, .int .i64 (p 0).y, .int .i64 (p 0).z, .int .i64 (p 1).x, .int .i64 (p 1).y, .int .i64 (p 1).z, .int .i64 (p 2).x, .int .i64 (p 2).y, .int .i64 (p 2).z, .int .i64 (p 3).x, .int .i64 (p 3).y, .int .i64 (p 3).z] 26)) w.heap.size 24 (ptsC 16 p) := hP1.alloc _
  have hB2 : Below w.heap.size w (W1.alloc (.cells #[.int .i64 (p 0).x, .int .i64 (p 0).y, .int .i64 (p 0).z, .int .i64 (p 1).x, .int .i64 (p 1).y, .int .i64 (p 1).z, .int .i64 (p 2).x, .int .i64 (p 2).y, .int .i64 (p 2).z, .int .i64 (p 3).x, .int .i64 (p 3).y, .int .i64 (p 3).z] 26)) := bel_alloc hB1 _
  have hnc : w.heap.size < W1.heap.size := hP1.lt
  clear hP1 hB1 pl c0 c1 c2 c3 c4 c5 c6 c7 c8 c9 c10 c11
  generalize W1.alloc (.cells #[.int .i64 (p 0).x, .int .i64 (p 0).y, .int .i64 (p 0).z, .int .i64 (p 1).x, .int .i64 (p 1).y, .int .i64 (p 1).z, .int .i64 (p 2).x, .int .i64 (p 2).y, .int .i64 (p 2).z, .int .i64 (p 3).x, .int .i64 (p 3).y, .int .i64 (p 3).z] 26) = W2 at *
  generalize W1.heap.size = gc at *
  refine wp_region_lit ?_
  refine wpList_val rfl _ _ (build_Z16 _ _ rfl _) ?_
  refine wpList_val rfl _ _ (alloc_Z16 _ _ rfl _ _ rfl) ?_
  simp only [Act.put, List.setIfInBounds_toArray, List.set_cons_succ, List.set_cons_zero]
  refine wpList_store_Z16 rfl _ _ rfl W2 Z3 rfl rfl rfl ?_
  simp only [Act.put, List.setIfInBounds_toArray, List.set_cons_succ, List.set_cons_zero]
  have hT3 : Blk (W2.alloc (.cells (ptsC 16 Z3) 24)) W2.heap.size 24 (ptsC 16 (trn p 0)) := by rw [trn_zero]; exact Blk.new _ _ _ _ rfl
  have hC3 := hC2.alloc (.cells (ptsC 16 Z3) 24)
  have hP3 := hP2.alloc (.cells (ptsC 16 Z3) 24)
  have hB3 : Below w.heap.size w (W2.alloc (.cells (ptsC 16 Z3) 24)) := bel_alloc hB2 _
  have hnt : gc < W2.heap.size := hC2.lt
  clear hC2 hP2 hB2
  generalize W2.alloc (.cells (ptsC 16 Z3) 24) = W3 at *
  generalize W2.heap.size = gt at *
  go_upto_region 5 with (fail)
  go_wp2
  go_loopw [7] (fun iv wr => ∃ j : Nat, rowI iv j ∧ Below w.heap.size w wr ∧ Blk wr w.heap.size 24 (ptsC 16 p) ∧ Blk wr gc 26 #[.int .i64 (p 0).x, .int .i64 (p 0).y, .int .i64 (p 0).z, .int .i64 (p 1).x, .int .i64 (p 1).y, .int .i64 (p 1).z, .int .i64 (p 2).x, .int .i64 (p 2).y, .int .i64 (p 2).z, .int .i64 (p 3).x, .int .i64 (p 3).y, .int .i64 (p 3).z] ∧ Blk wr gt 24 (ptsC 16 (trn p (4 * j)))) (fun iv _ => 4 - (intOf iv).toNat)
  case atStart => exact ⟨0, .inl ⟨rfl, rfl⟩, hB3, hP3, hC3, hT3⟩
  case round =>
    obtain ⟨j, hj, hBr, hPr, hCr, hTr⟩ := hrel
    clear hB3 hP3 hC3 hT3
    rename World => wr
    rcases hj with ⟨rfl, rfl⟩ | ⟨rfl, rfl⟩ | ⟨rfl, rfl⟩ | ⟨rfl, rfl⟩ | ⟨rfl, rfl⟩
    · go_upto_region 8 with (fail)
      go_wp2
      go_loopw [8] (fun iv wq => ∃ i : Nat, rowI iv i ∧ Below w.heap.size w wq ∧ Blk wq w.heap.size 24 (ptsC 16 p) ∧ Blk wq gc 26 #[.int .i64 (p 0).x, .int .i64 (p 0).y, .int .i64 (p 0).z, .int .i64 (p 1).x, .int .i64 (p 1).y, .int .i64 (p 1).z, .int .i64 (p 2).x, .int .i64 (p 2).y, .int .i64 (p 2).z, .int .i64 (p 3).x, .int .i64 (p 3).y, .int .i64 (p 3).z] ∧ Blk wq gt 24 (ptsC 16 (trn p (0 + i)))) (fun iv _ => 4 - (intOf iv).toNat)
      case atStart => exact ⟨0, .inl ⟨rfl, rfl⟩, hBr, hPr, hCr, hTr⟩
      case round =>
        obtain ⟨i, hi, hBq, hPq, hCq, hTq⟩ := hrel
        clear hBr hPr hCr hTr
        rename World => wq
        rcases hi with ⟨rfl, rfl⟩ | ⟨rfl, rfl⟩ | ⟨rfl, rfl⟩ | ⟨rfl, rfl⟩ | ⟨rfl, rfl⟩
        · have hne : w.heap.size < gt ∧ gc < gt ∧ w.heap.size < gc := ⟨by omega, by omega, by omega⟩
          have pl := hPq.lt
          have tl := hTq.lt
          have c0 : wq.cell? ⟨w.heap.size, 9, none⟩ = some (.int .i64 (p 3).x) := (ptsB hPq (show 3 < 16 by omega)).1
          have c1 : wq.cell? ⟨w.heap.size, 10, none⟩ = some (.int .i64 (p 3).y) := (ptsB hPq (show 3 < 16 by omega)).2.1
          have c2 : wq.cell? ⟨w.heap.size, 11, none⟩ = some (.int .i64 (p 3).z) := (ptsB hPq (show 3 < 16 by omega)).2.2
          have o0 : wq.cell? ⟨gt, 0, none⟩ = some (.int .i64 (trn p (0 + 0) 0).x) := (ptsB hTq (show 0 < 16 by omega)).1
          have o1 : wq.cell? ⟨gt, 1, none⟩ = some (.int .i64 (trn p (0 + 0) 0).y) := (ptsB hTq (show 0 < 16 by omega)).2.1
          have o2 : wq.cell? ⟨gt, 2, none⟩ = some (.int .i64 (trn p (0 + 0) 0).z) := (ptsB hTq (show 0 < 16 by omega)).2.2
          have f0 := hTq.frozen 0
          have f1 := hTq.frozen 1
          have f2 := hTq.frozen 2
          have hT6 : Blk (((wq.setCell ⟨gt, 0, none⟩ (.int .i64 (p 3).x)).setCell ⟨gt, 1, none⟩ (.int .i64 (p 3).y)).setCell ⟨gt, 2, none⟩ (.int .i64 (p 3).z)) gt 24 (ptsC 16 (trn p (0 + 0 + 1))) := by
            have h6 := (((hTq.set 0 (.int .i64 (p 3).x)).set 1 (.int .i64 (p 3).y)).set 2 (.int .i64 (p 3).z))
            rw [show ((0 : Nat) + 0) = 0 from rfl] at h6 ⊢
            rw [← trn_next p (m := 0) (s := 3) (by omega) (by omega)]
            exact h6
          have hP6 := (((hPq.far (b := gt) 0 (.int .i64 (p 3).x) (by omega)).far (b := gt) 1 (.int .i64 (p 3).y) (by omega)).far (b := gt) 2 (.int .i64 (p 3).z) (by omega))
          have hC6 := (((hCq.far (b := gt) 0 (.int .i64 (p 3).x) (by omega)).far (b := gt) 1 (.int .i64 (p 3).y) (by omega)).far (b := gt) 2 (.int .i64 (p 3).z) (by omega))
          have hB6 : Below w.heap.size w (((wq.setCell ⟨gt, 0, none⟩ (.int .i64 (p 3).x)).setCell ⟨gt, 1, none⟩ (.int .i64 (p 3).y)).setCell ⟨gt, 2, none⟩ (.int .i64 (p 3).z)) := (bel_set (bel_set (bel_set hBq (p := ⟨gt, 0, none⟩) (by show _ ≤ gt; omega) _) (p := ⟨gt, 1, none⟩) (by show _ ≤ gt; omega) _) (p := ⟨gt, 2, none⟩) (by show _ ≤ gt; omega) _)
          clear hTq hPq hCq hBq
          replace hT6 := Lib.hid hT6
          replace hP6 := Lib.hid hP6
          replace hC6 := Lib.hid hC6
          replace hB6 := Lib.hid hB6
          go_wp2
          go_roundw
          case rel => exact ⟨1, .inr (.inl ⟨rfl, rfl⟩), hB6.out, hP6.out, hC6.out, hT6.out⟩
          case measure => simp [intOf]
        · have hne : w.heap.size < gt ∧ gc < gt ∧ w.heap.size < gc := ⟨by omega, by omega, by omega⟩
          have pl := hPq.lt
          have tl := hTq.lt
          have c0 : wq.cell? ⟨w.heap.size, 21, none⟩ = some (.int .i64 (p 7).x) := (ptsB hPq (show 7 < 16 by omega)).1
          have c1 : wq.cell? ⟨w.heap.size, 22, none⟩ = some (.int .i64 (p 7).y) := (ptsB hPq (show 7 < 16 by omega)).2.1
          have c2 : wq.cell? ⟨w.heap.size, 23, none⟩ = some (.int .i64 (p 7).z) := (ptsB hPq (show 7 < 16 by omega)).2.2
          have o0 : wq.cell? ⟨gt, 3, none⟩ = some (.int .i64 (trn p (0 + 1) 1).x) := (ptsB hTq (show 1 < 16 by omega)).1
          have o1 : wq.cell? ⟨gt, 4, none⟩ = some (.int .i64 (trn p (0 + 1) 1).y) := (ptsB hTq (show 1 < 16 by omega)).2.1
          have o2 : wq.cell? ⟨gt, 5, none⟩ = some (.int .i64 (trn p (0 + 1) 1).z) := (ptsB hTq (show 1 < 16 by omega)).2.2
          have f0 := hTq.frozen 3
          have f1 := hTq.frozen 4
          have f2 := hTq.frozen 5
          have hT6 : Blk (((wq.setCell ⟨gt, 3, none⟩ (.int .i64 (p 7).x)).setCell ⟨gt, 4, none⟩ (.int .i64 (p 7).y)).setCell ⟨gt, 5, none⟩ (.int .i64 (p 7).z)) gt 24 (ptsC 16 (trn p (0 + 1 + 1))) := by
            have h6 := (((hTq.set 3 (.int .i64 (p 7).x)).set 4 (.int .i64 (p 7).y)).set 5 (.int .i64 (p 7).z))
            rw [show ((0 : Nat) + 1) = 1 from rfl] at h6 ⊢
            rw [← trn_next p (m := 1) (s := 7) (by omega) (by omega)]
            exact h6
          have hP6 := (((hPq.far (b := gt) 3 (.int .i64 (p 7).x) (by omega)).far (b := gt) 4 (.int .i64 (p 7).y) (by omega)).far (b := gt) 5 (.int .i64 (p 7).z) (by omega))
          have hC6 := (((hCq.far (b := gt) 3 (.int .i64 (p 7).x) (by omega)).far (b := gt) 4 (.int .i64 (p 7).y) (by omega)).far (b := gt) 5 (.int .i64 (p 7).z) (by omega))
          have hB6 : Below w.heap.size w (((wq.setCell ⟨gt, 3, none⟩ (.int .i64 (p 7).x)).setCell ⟨gt, 4, none⟩ (.int .i64 (p 7).y)).setCell ⟨gt, 5, none⟩ (.int .i64 (p 7).z)) := (bel_set (bel_set (bel_set hBq (p := ⟨gt, 3, none⟩) (by show _ ≤ gt; omega) _) (p := ⟨gt, 4, none⟩) (by show _ ≤ gt; omega) _) (p := ⟨gt, 5, none⟩) (by show _ ≤ gt; omega) _)
          clear hTq hPq hCq hBq
          replace hT6 := Lib.hid hT6
          replace hP6 := Lib.hid hP6
          replace hC6 := Lib.hid hC6
          replace hB6 := Lib.hid hB6
          go_wp2
          go_roundw
          case rel => exact ⟨2, .inr (.inr (.inl ⟨rfl, rfl⟩)), hB6.out, hP6.out, hC6.out, hT6.out⟩
          case measure => simp [intOf]
        · have hne : w.heap.size < gt ∧ gc < gt ∧ w.heap.size < gc := ⟨by omega, by omega, by omega⟩
          have pl := hPq.lt
          have tl := hTq.lt
          have c0 : wq.cell? ⟨w.heap.size, 33, none⟩ = some (.int .i64 (p 11).x) := (ptsB hPq (show 11 < 16 by omega)).1
          have c1 : wq.cell? ⟨w.heap.size, 34, none⟩ = some (.int .i64 (p 11).y) := (ptsB hPq (show 11 < 16 by omega)).2.1
          have c2 : wq.cell? ⟨w.heap.size, 35, none⟩ = some (.int .i64 (p 11).z) := (ptsB hPq (show 11 < 16 by omega)).2.2
          have o0 : wq.cell? ⟨gt, 6, none⟩ = some (.int .i64 (trn p (0 + 2) 2).x) := (ptsB hTq (show 2 < 16 by omega)).1
          have o1 : wq.cell? ⟨gt, 7, none⟩ = some (.int .i64 (trn p (0 + 2) 2).y) := (ptsB hTq (show 2 < 16 by omega)).2.1
          have o2 : wq.cell? ⟨gt, 8, none⟩ = some (.int .i64 (trn p (0 + 2) 2).z) := (ptsB hTq (show 2 < 16 by omega)).2.2
          have f0 := hTq.frozen 6
          have f1 := hTq.frozen 7
          have f2 := hTq.frozen 8
          have hT6 : Blk (((wq.setCell ⟨gt, 6, none⟩ (.int .i64 (p 11).x)).setCell ⟨gt, 7, none⟩ (.int .i64 (p 11).y)).setCell ⟨gt, 8, none⟩ (.int .i64 (p 11).z)) gt 24 (ptsC 16 (trn p (0 + 2 + 1))) := by
            have h6 := (((hTq.set 6 (.int .i64 (p 11).x)).set 7 (.int .i64 (p 11).y)).set 8 (.int .i64 (p 11).z))
            rw [show ((0 : Nat) + 2) = 2 from rfl] at h6 ⊢
            rw [← trn_next p (m := 2) (s := 11) (by omega) (by omega)]
            exact h6
          have hP6 := (((hPq.far (b := gt) 6 (.int .i64 (p 11).x) (by omega)).far (b := gt) 7 (.int .i64 (p 11).y) (by omega)).far (b := gt) 8 (.int .i64 (p 11).z) (by omega))
          have hC6 := (((hCq.far (b := gt) 6 (.int .i64 (p 11).x) (by omega)).far (b := gt) 7 (.int .i64 (p 11).y) (by omega)).far (b := gt) 8 (.int .i64 (p 11).z) (by omega))
          have hB6 : Below w.heap.size w (((wq.setCell ⟨gt, 6, none⟩ (.int .i64 (p 11).x)).setCell ⟨gt, 7, none⟩ (.int .i64 (p 11).y)).setCell ⟨gt, 8, none⟩ (.int .i64 (p 11).z)) := (bel_set (bel_set (bel_set hBq (p := ⟨gt, 6, none⟩) (by show _ ≤ gt; omega) _) (p := ⟨gt, 7, none⟩) (by show _ ≤ gt; omega) _) (p := ⟨gt, 8, none⟩) (by show _ ≤ gt; omega) _)
          clear hTq hPq hCq hBq
          replace hT6 := Lib.hid hT6
          replace hP6 := Lib.hid hP6
          replace hC6 := Lib.hid hC6
          replace hB6 := Lib.hid hB6
          go_wp2
          go_roundw
          case rel => exact ⟨3, .inr (.inr (.inr (.inl ⟨rfl, rfl⟩))), hB6.out, hP6.out, hC6.out, hT6.out⟩
          case measure => simp [intOf]
        · have hne : w.heap.size < gt ∧ gc < gt ∧ w.heap.size < gc := ⟨by omega, by omega, by omega⟩
          have pl := hPq.lt
          have tl := hTq.lt
          have c0 : wq.cell? ⟨w.heap.size, 45, none⟩ = some (.int .i64 (p 15).x) := (ptsB hPq (show 15 < 16 by omega)).1
          have c1 : wq.cell? ⟨w.heap.size, 46, none⟩ = some (.int .i64 (p 15).y) := (ptsB hPq (show 15 < 16 by omega)).2.1
          have c2 : wq.cell? ⟨w.heap.size, 47, none⟩ = some (.int .i64 (p 15).z) := (ptsB hPq (show 15 < 16 by omega)).2.2
          have o0 : wq.cell? ⟨gt, 9, none⟩ = some (.int .i64 (trn p (0 + 3) 3).x) := (ptsB hTq (show 3 < 16 by omega)).1
          have o1 : wq.cell? ⟨gt, 10, none⟩ = some (.int .i64 (trn p (0 + 3) 3).y) := (ptsB hTq (show 3 < 16 by omega)).2.1
          have o2 : wq.cell? ⟨gt, 11, none⟩ = some (.int .i64 (trn p (0 + 3) 3).z) := (ptsB hTq (show 3 < 16 by omega)).2.2
          have f0 := hTq.frozen 9
          have f1 := hTq.frozen 10
          have f2 := hTq.frozen 11
          have hT6 : Blk (((wq.setCell ⟨gt, 9, none⟩ (.int .i64 (p 15).x)).setCell ⟨gt, 10, none⟩ (.int .i64 (p 15).y)).setCell ⟨gt, 11, none⟩ (.int .i64 (p 15).z)) gt 24 (ptsC 16 (trn p (0 + 3 + 1))) := by
            have h6 := (((hTq.set 9 (.int .i64 (p 15).x)).set 10 (.int .i64 (p 15).y)).set 11 (.int .i64 (p 15).z))
            rw [show ((0 : Nat) + 3) = 3 from rfl] at h6 ⊢
            rw [← trn_next p (m := 3) (s := 15) (by omega) (by omega)]
            exact h6
          have hP6 := (((hPq.far (b := gt) 9 (.int .i64 (p 15).x) (by omega)).far (b := gt) 10 (.int .i64 (p 15).y) (by omega)).far (b := gt) 11 (.int .i64 (p 15).z) (by omega))
          have hC6 := (((hCq.far (b := gt) 9 (.int .i64 (p 15).x) (by omega)).far (b := gt) 10 (.int .i64 (p 15).y) (by omega)).far (b := gt) 11 (.int .i64 (p 15).z) (by omega))
          have hB6 : Below w.heap.size w (((wq.setCell ⟨gt, 9, none⟩ (.int .i64 (p 15).x)).setCell ⟨gt, 10, none⟩ (.int .i64 (p 15).y)).setCell ⟨gt, 11, none⟩ (.int .i64 (p 15).z)) := (bel_set (bel_set (bel_set hBq (p := ⟨gt, 9, none⟩) (by show _ ≤ gt; omega) _) (p := ⟨gt, 10, none⟩) (by show _ ≤ gt; omega) _) (p := ⟨gt, 11, none⟩) (by show _ ≤ gt; omega) _)
          clear hTq hPq hCq hBq
          replace hT6 := Lib.hid hT6
          replace hP6 := Lib.hid hP6
          replace hC6 := Lib.hid hC6
          replace hB6 := Lib.hid hB6
          go_wp2
          go_roundw
          case rel => exact ⟨4, .inr (.inr (.inr (.inr (⟨rfl, rfl⟩)))), hB6.out, hP6.out, hC6.out, hT6.out⟩
          case measure => simp [intOf]
        · replace hBq := Lib.hid hBq
          replace hPq := Lib.hid hPq
          replace hCq := Lib.hid hCq
          replace hTq := Lib.hid hTq
          go_wp2
          go_roundw
          case rel => exact ⟨1, .inr (.inl ⟨rfl, rfl⟩), hBq.out, hPq.out, hCq.out, hTq.out⟩
          case measure => simp [intOf]
    · go_upto_region 8 with (fail)
      go_wp2
      go_loopw [8] (fun iv wq => ∃ i : Nat, rowI iv i ∧ Below w.heap.size w wq ∧ Blk wq w.heap.size 24 (ptsC 16 p) ∧ Blk wq gc 26 #[.int .i64 (p 0).x, .int .i64 (p 0).y, .int .i64 (p 0).z, .int .i64 (p 1).x, .int .i64 (p 1).y, .int .i64 (p 1).z, .int .i64 (p 2).x, .int .i64 (p 2).y, .int .i64 (p 2).z, .int .i64 (p 3).x, .int .i64 (p 3).y, .int .i64 (p 3).z] ∧ Blk wq gt 24 (ptsC 16 (trn p (4 + i)))) (fun iv _ => 4 - (intOf iv).toNat)
      case atStart => exact ⟨0, .inl ⟨rfl, rfl⟩, hBr, hPr, hCr, hTr⟩
      case round =>
        obtain ⟨i, hi, hBq, hPq, hCq, hTq⟩ := hrel
        clear hBr hPr hCr hTr
        rename World => wq
        rcases hi with ⟨rfl, rfl⟩ | ⟨rfl, rfl⟩ | ⟨rfl, rfl⟩ | ⟨rfl, rfl⟩ | ⟨rfl, rfl⟩
        · have hne : w.heap.size < gt ∧ gc < gt ∧ w.heap.size < gc := ⟨by omega, by omega, by omega⟩
          have pl := hPq.lt
          have tl := hTq.lt
          have c0 : wq.cell? ⟨w.heap.size, 6, none⟩ = some (.int .i64 (p 2).x) := (ptsB hPq (show 2 < 16 by omega)).1
          have c1 : wq.cell? ⟨w.heap.size, 7, none⟩ = some (.int .i64 (p 2).y) := (ptsB hPq (show 2 < 16 by omega)).2.1
          have c2 : wq.cell? ⟨w.heap.size, 8, none⟩ = some (.int .i64 (p 2).z) := (ptsB hPq (show 2 < 16 by omega)).2.2
          have o0 : wq.cell? ⟨gt, 12, none⟩ = some (.int .i64 (trn p (4 + 0) 4).x) := (ptsB hTq (show 4 < 16 by omega)).1
          have o1 : wq.cell? ⟨gt, 13, none⟩ = some (.int .i64 (trn p (4 + 0) 4).y) := (ptsB hTq (show 4 < 16 by omega)).2.1
          have o2 : wq.cell? ⟨gt, 14, none⟩ = some (.int .i64 (trn p (4 + 0) 4).z) := (ptsB hTq (show 4 < 16 by omega)).2.2
          have f0 := hTq.frozen 12
          have f1 := hTq.frozen 13
          have f2 := hTq.frozen 14
          have hT6 : Blk (((wq.setCell ⟨gt, 12, none⟩ (.int .i64 (p 2).x)).setCell ⟨gt, 13, none⟩ (.int .i64 (p 2).y)).setCell ⟨gt, 14, none⟩ (.int .i64 (p 2).z)) gt 24 (ptsC 16 (trn p (4 + 0 + 1))) := by
            have h6 := (((hTq.set 12 (.int .i64 (p 2).x)).set 13 (.int .i64 (p 2).y)).set 14 (.int .i64 (p 2).z))
            rw [show ((4 : Nat) + 0) = 4 from rfl] at h6 ⊢
            rw [← trn_next p (m := 4) (s := 2) (by omega) (by omega)]
            exact h6
          have hP6 := (((hPq.far (b := gt) 12 (.int .i64 (p 2).x) (by omega)).far (b := gt) 13 (.int .i64 (p 2).y) (by omega)).far (b := gt) 14 (.int .i64 (p 2).z) (by omega))
          have hC6 := (((hCq.far (b := gt) 12 (.int .i64 (p 2).x) (by omega)).far (b := gt) 13 (.int .i64 (p 2).y) (by omega)).far (b := gt) 14 (.int .i64 (p 2).z) (by omega))
          have hB6 : Below w.heap.size w (((wq.setCell ⟨gt, 12, none⟩ (.int .i64 (p 2).x)).setCell ⟨gt, 13, none⟩ (.int .i64 (p 2).y)).setCell ⟨gt, 14, none⟩ (.int .i64 (p 2).z)) := (bel_set (bel_set (bel_set hBq (p := ⟨gt, 12, none⟩) (by show _ ≤ gt; omega) _) (p := ⟨gt, 13, none⟩) (by show _ ≤ gt; omega) _) (p := ⟨gt, 14, none⟩) (by show _ ≤ gt; omega) _)
          clear hTq hPq hCq hBq
          replace hT6 := Lib.hid hT6
          replace hP6 := Lib.hid hP6
          replace hC6 := Lib.hid hC6
          replace hB6 := Lib.hid hB6
          go_wp2
          go_roundw
          case rel => exact ⟨1, .inr (.inl ⟨rfl, rfl⟩), hB6.out, hP6.out, hC6.out, hT6.out⟩
          case measure => simp [intOf]
        · have hne : w.heap.size < gt ∧ gc < gt ∧ w.heap.size < gc := ⟨by omega, by omega, by omega⟩
          have pl := hPq.lt
          have tl := hTq.lt
          have c0 : wq.cell? ⟨w.heap.size, 18, none⟩ = some (.int .i64 (p 6).x) := (ptsB hPq (show 6 < 16 by omega)).1
          have c1 : wq.cell? ⟨w.heap.size, 19, none⟩ = some (.int .i64 (p 6).y) := (ptsB hPq (show 6 < 16 by omega)).2.1
          have c2 : wq.cell? ⟨w.heap.size, 20, none⟩ = some (.int .i64 (p 6).z) := (ptsB hPq (show 6 < 16 by omega)).2.2
          have o0 : wq.cell? ⟨gt, 15, none⟩ = some (.int .i64 (trn p (4 + 1) 5).x) := (ptsB hTq (show 5 < 16 by omega)).1
          have o1 : wq.cell? ⟨gt, 16, none⟩ = some (.int .i64 (trn p (4 + 1) 5).y) := (ptsB hTq (show 5 < 16 by omega)).2.1
          have o2 : wq.cell? ⟨gt, 17, none⟩ = some (.int .i64 (trn p (4 + 1) 5).z) := (ptsB hTq (show 5 < 16 by omega)).2.2
          have f0 := hTq.frozen 15
          have f1 := hTq.frozen 16
          have f2 := hTq.frozen 17
          have hT6 : Blk (((wq.setCell ⟨gt, 15, none⟩ (.int .i64 (p 6).x)).setCell ⟨gt, 16, none⟩ (.int .i64 (p 6).y)).setCell ⟨gt, 17, none⟩ (.int .i64 (p 6).z)) gt 24 (ptsC 16 (trn p (4 + 1 + 1))) := by
            have h6 := (((hTq.set 15 (.int .i64 (p 6).x)).set 16 (.int .i64 (p 6).y)).set 17 (.int .i64 (p 6).z))
            rw [show ((4 : Nat) + 1) = 5 from rfl] at h6 ⊢
            rw [← trn_next p (m := 5) (s := 6) (by omega) (by omega)]
            exact h6
          have hP6 := (((hPq.far (b := gt) 15 (.int .i64 (p 6).x) (by omega)).far (b := gt) 16 (.int .i64 (p 6).y) (by omega)).far (b := gt) 17 (.int .i64 (p 6).z) (by omega))
          have hC6 := (((hCq.far (b := gt) 15 (.int .i64 (p 6).x) (by omega)).far (b := gt) 16 (.int .i64 (p 6).y) (by omega)).far (b := gt) 17 (.int .i64 (p 6).z) (by omega))
          have hB6 : Below w.heap.size w (((wq.setCell ⟨gt, 15, none⟩ (.int .i64 (p 6).x)).setCell ⟨gt, 16, none⟩ (.int .i64 (p 6).y)).setCell ⟨gt, 17, none⟩ (.int .i64 (p 6).z)) := (bel_set (bel_set (bel_set hBq (p := ⟨gt, 15, none⟩) (by show _ ≤ gt; omega) _) (p := ⟨gt, 16, none⟩) (by show _ ≤ gt; omega) _) (p := ⟨gt, 17, none⟩) (by show _ ≤ gt; omega) _)
          clear hTq hPq hCq hBq
          replace hT6 := Lib.hid hT6
          replace hP6 := Lib.hid hP6
          replace hC6 := Lib.hid hC6
          replace hB6 := Lib.hid hB6
          go_wp2
          go_roundw
          case rel => exact ⟨2, .inr (.inr (.inl ⟨rfl, rfl⟩)), hB6.out, hP6.out, hC6.out, hT6.out⟩
          case measure => simp [intOf]
        · have hne : w.heap.size < gt ∧ gc < gt ∧ w.heap.size < gc := ⟨by omega, by omega, by omega⟩
          have pl := hPq.lt
          have tl := hTq.lt
          have c0 : wq.cell? ⟨w.heap.size, 30, none⟩ = some (.int .i64 (p 10).x) := (ptsB hPq (show 10 < 16 by omega)).1
          have c1 : wq.cell? ⟨w.heap.size, 31, none⟩ = some (.int .i64 (p 10).y) := (ptsB hPq (show 10 < 16 by omega)).2.1
          have c2 : wq.cell? ⟨w.heap.size, 32, none⟩ = some (.int .i64 (p 10).z) := (ptsB hPq (show 10 < 16 by omega)).2.2
          have o0 : wq.cell? ⟨gt, 18, none⟩ = some (.int .i64 (trn p (4 + 2) 6).x) := (ptsB hTq (show 6 < 16 by omega)).1
          have o1 : wq.cell? ⟨gt, 19, none⟩ = some (.int .i64 (trn p (4 + 2) 6).y) := (ptsB hTq (show 6 < 16 by omega)).2.1
          have o2 : wq.cell? ⟨gt, 20, none⟩ = some (.int .i64 (trn p (4 + 2) 6).z) := (ptsB hTq (show 6 < 16 by omega)).2.2
          have f0 := hTq.frozen 18
          have f1 := hTq.frozen 19
          have f2 := hTq.frozen 20
          have hT6 : Blk (((wq.setCell ⟨gt, 18, none⟩ (.int .i64 (p 10).x)).setCell ⟨gt, 19, none⟩ (.int .i64 (p 10).y)).setCell ⟨gt, 20, none⟩ (.int .i64 (p 10).z)) gt 24 (ptsC 16 (trn p (4 + 2 + 1))) := by
            have h6 := (((hTq.set 18 (.int .i64 (p 10).x)).set 19 (.int .i64 (p 10).y)).set 20 (.int .i64 (p 10).z))
            rw [show ((4 : Nat) + 2) = 6 from rfl] at h6 ⊢
            rw [← trn_next p (m := 6) (s := 10) (by omega) (by omega)]
            exact h6
          have hP6 := (((hPq.far (b := gt) 18 (.int .i64 (p 10).x) (by omega)).far (b := gt) 19 (.int .i64 (p 10).y) (by omega)).far (b := gt) 20 (.int .i64 (p 10).z) (by omega))
          have hC6 := (((hCq.far (b := gt) 18 (.int .i64 (p 10).x) (by omega)).far (b := gt) 19 (.int .i64 (p 10).y) (by omega)).far (b := gt) 20 (.int .i64 (p 10).z) (by omega))
          have hB6 : Below w.heap.size w (((wq.setCell ⟨gt, 18, none⟩ (.int .i64 (p 10).x)).setCell ⟨gt, 19, none⟩ (.int .i64 (p 10).y)).setCell ⟨gt, 20, none⟩ (.int .i64 (p 10).z)) := (bel_set (bel_set (bel_set hBq (p := ⟨gt, 18, none⟩) (by show _ ≤ gt; omega) _) (p := ⟨gt, 19, none⟩) (by show _ ≤ gt; omega) _) (p := ⟨gt, 20, none⟩) (by show _ ≤ gt; omega) _)
          clear hTq hPq hCq hBq
          replace hT6 := Lib.hid hT6
          replace hP6 := Lib.hid hP6
          replace hC6 := Lib.hid hC6
          replace hB6 := Lib.hid hB6
          go_wp2
          go_roundw
          case rel => exact ⟨3, .inr (.inr (.inr (.inl ⟨rfl, rfl⟩))), hB6.out, hP6.out, hC6.out, hT6.out⟩
          case measure => simp [intOf]
        · have hne : w.heap.size < gt ∧ gc < gt ∧ w.heap.size < gc := ⟨by omega, by omega, by omega⟩
          have pl := hPq.lt
          have tl := hTq.lt
          have c0 : wq.cell? ⟨w.heap.size, 42, none⟩ = some (.int .i64 (p 14).x) := (ptsB hPq (show 14 < 16 by omega)).1
          have c1 : wq.cell? ⟨w.heap.size, 43, none⟩ = some (.int .i64 (p 14).y) := (ptsB hPq (show 14 < 16 by omega)).2.1
          have c2 : wq.cell? ⟨w.heap.size, 44, none⟩ = some (.int .i64 (p 14).z) := (ptsB hPq (show 14 < 16 by omega)).2.2
          have o0 : wq.cell? ⟨gt, 21, none⟩ = some (.int .i64 (trn p (4 + 3) 7).x) := (ptsB hTq (show 7 < 16 by omega)).1
          have o1 : wq.cell? ⟨gt, 22, none⟩ = some (.int .i64 (trn p (4 + 3) 7).y) := (ptsB hTq (show 7 < 16 by omega)).2.1
          have o2 : wq.cell? ⟨gt, 23, none⟩ = some (.int .i64 (trn p (4 + 3) 7).z) := (ptsB hTq (show 7 < 16 by omega)).2.2
          have f0 := hTq.frozen 21
          have f1 := hTq.frozen 22
          have f2 := hTq.frozen 23
          have hT6 : Blk (((wq.setCell ⟨gt, 21, none⟩ (.int .i64 (p 14).x)).setCell ⟨gt, 22, none⟩ (.int .i64 (p 14).y)).setCell ⟨gt, 23, none⟩ (.int .i64 (p 14).z)) gt 24 (ptsC 16 (trn p (4 + 3 + 1))) := by
            have h6 := (((hTq.set 21 (.int .i64 (p 14).x)).set 22 (.int .i64 (p 14).y)).set 23 (.int .i64 (p 14).z))
            rw [show ((4 : Nat) + 3) = 7 from rfl] at h6 ⊢
            rw [← trn_next p (m := 7) (s := 14) (by omega) (by omega)]
            exact h6
          have hP6 := (((hPq.far (b := gt) 21 (.int .i64 (p 14).x) (by omega)).far (b := gt) 22 (.int .i64 (p 14).y) (by omega)).far (b := gt) 23 (.int .i64 (p 14).z) (by omega))
          have hC6 := (((hCq.far (b := gt) 21 (.int .i64 (p 14).x) (by omega)).far (b := gt) 22 (.int .i64 (p 14).y) (by omega)).far (b := gt) 23 (.int .i64 (p 14).z) (by omega))
          have hB6 : Below w.heap.size w (((wq.setCell ⟨gt, 21, none⟩ (.int .i64 (p 14).x)).setCell ⟨gt, 22, none⟩ (.int .i64 (p 14).y)).setCell ⟨gt, 23, none⟩ (.int .i64 (p 14).z)) := (bel_set (bel_set (bel_set hBq (p := ⟨gt, 21, none⟩) (by show _ ≤ gt; omega) _) (p := ⟨gt, 22, none⟩) (by show _ ≤ gt; omega) _) (p := ⟨gt, 23, none⟩) (by show _ ≤ gt; omega) _)
          clear hTq hPq hCq hBq
          replace hT6 := Lib.hid hT6
          replace hP6 := Lib.hid hP6
          replace hC6 := Lib.hid hC6
          replace hB6 := Lib.hid hB6
          go_wp2
          go_roundw
          case rel => exact ⟨4, .inr (.inr (.inr (.inr (⟨rfl, rfl⟩)))), hB6.out, hP6.out, hC6.out, hT6.out⟩
          case measure => simp [intOf]
        · replace hBq := Lib.hid hBq
          replace hPq := Lib.hid hPq
          replace hCq := Lib.hid hCq
          replace hTq := Lib.hid hTq
          go_wp2
          go_roundw
          case rel => exact ⟨2, .inr (.inr (.inl ⟨rfl, rfl⟩)), hBq.out, hPq.out, hCq.out, hTq.out⟩
          case measure => simp [intOf]
    · go_upto_region 8 with (fail)
      go_wp2
      go_loopw [8] (fun iv wq => ∃ i : Nat, rowI iv i ∧ Below w.heap.size w wq ∧ Blk wq w.heap.size 24 (ptsC 16 p) ∧ Blk wq gc 26 #[.int .i64 (p 0).x, .int .i64 (p 0).y, .int .i64 (p 0).z, .int .i64 (p 1).x, .int .i64 (p 1).y, .int .i64 (p 1).z, .int .i64 (p 2).x, .int .i64 (p 2).y, .int .i64 (p 2).z, .int .i64 (p 3).x, .int .i64 (p 3).y, .int .i64 (p 3).z] ∧ Blk wq gt 24 (ptsC 16 (trn p (8 + i)))) (fun iv _ => 4 - (intOf iv).toNat)
      case atStart => exact ⟨0, .inl ⟨rfl, rfl⟩, hBr, hPr, hCr, hTr⟩
      case round =>
        obtain ⟨i, hi, hBq, hPq, hCq, hTq⟩ := hrel
        clear hBr hPr hCr hTr
        rename World => wq
        rcases hi with ⟨rfl, rfl⟩ | ⟨rfl, rfl⟩ | ⟨rfl, rfl⟩ | ⟨rfl, rfl⟩ | ⟨rfl, rfl⟩
        · have hne : w.heap.size < gt ∧ gc < gt ∧ w.heap.size < gc := ⟨by omega, by omega, by omega⟩
          have pl := hPq.lt
          have tl := hTq.lt
          have c0 : wq.cell? ⟨w.heap.size, 3, none⟩ = some (.int .i64 (p 1).x) := (ptsB hPq (show 1 < 16 by omega)).1
          have c1 : wq.cell? ⟨w.heap.size, 4, none⟩ = some (.int .i64 (p 1).y) := (ptsB hPq (show 1 < 16 by omega)).2.1
          have c2 : wq.cell? ⟨w.heap.size, 5, none⟩ = some (.int .i64 (p 1).z) := (ptsB hPq (show 1 < 16 by omega)).2.2
          have o0 : wq.cell? ⟨gt, 24, none⟩ = some (.int .i64 (trn p (8 + 0) 8).x) := (ptsB hTq (show 8 < 16 by omega)).1
          have o1 : wq.cell? ⟨gt, 25, none⟩ = some (.int .i64 (trn p (8 + 0) 8).y) := (ptsB hTq (show 8 < 16 by omega)).2.1
          have o2 : wq.cell? ⟨gt, 26, none⟩ = some (.int .i64 (trn p (8 + 0) 8).z) := (ptsB hTq (show 8 < 16 by omega)).2.2
          have f0 := hTq.frozen 24
          have f1 := hTq.frozen 25
          have f2 := hTq.frozen 26
          have hT6 : Blk (((wq.setCell ⟨gt, 24, none⟩ (.int .i64 (p 1).x)).setCell ⟨gt, 25, none⟩ (.int .i64 (p 1).y)).setCell ⟨gt, 26, none⟩ (.int .i64 (p 1).z)) gt 24 (ptsC 16 (trn p (8 + 0 + 1))) := by
            have h6 := (((hTq.set 24 (.int .i64 (p 1).x)).set 25 (.int .i64 (p 1).y)).set 26 (.int .i64 (p 1).z))
            rw [show ((8 : Nat) + 0) = 8 from rfl] at h6 ⊢
            rw [← trn_next p (m := 8) (s := 1) (by omega) (by omega)]
            exact h6
          have hP6 := (((hPq.far (b := gt) 24 (.int .i64 (p 1).x) (by omega)).far (b := gt) 25 (.int .i64 (p 1).y) (by omega)).far (b := gt) 26 (.int .i64 (p 1).z) (by omega))
          have hC6 := (((hCq.far (b := gt) 24 (.int .i64 (p 1).x) (by omega)).far (b := gt) 25 (.int .i64 (p 1).y) (by omega)).far (b := gt) 26 (.int .i64 (p 1).z) (by omega))
          have hB6 : Below w.heap.size w (((wq.setCell ⟨gt, 24, none⟩ (.int .i64 (p 1).x)).setCell ⟨gt, 25, none⟩ (.int .i64 (p 1).y)).setCell ⟨gt, 26, none⟩ (.int .i64 (p 1).z)) := (bel_set (bel_set (bel_set hBq (p := ⟨gt, 24, none⟩) (by show _ ≤ gt; omega) _) (p := ⟨gt, 25, none⟩) (by show _ ≤ gt; omega) _) (p := ⟨gt, 26, none⟩) (by show _ ≤ gt; omega) _)
          clear hTq hPq hCq hBq
          replace hT6 := Lib.hid hT6
          replace hP6 := Lib.hid hP6
          replace hC6 := Lib.hid hC6
          replace hB6 := Lib.hid hB6
          go_wp2
          go_roundw
          case rel => exact ⟨1, .inr (.inl ⟨rfl, rfl⟩), hB6.out, hP6.out, hC6.out, hT6.out⟩
          case measure => simp [intOf]
        · have hne : w.heap.size < gt ∧ gc < gt ∧ w.heap.size < gc := ⟨by omega, by omega, by omega⟩
          have pl := hPq.lt
          have tl := hTq.lt
          have c0 : wq.cell? ⟨w.heap.size, 15, none⟩ = some (.int .i64 (p 5).x) := (ptsB hPq (show 5 < 16 by omega)).1
          have c1 : wq.cell? ⟨w.heap.size, 16, none⟩ = some (.int .i64 (p 5).y) := (ptsB hPq (show 5 < 16 by omega)).2.1
          have c2 : wq.cell? ⟨w.heap.size, 17, none⟩ = some (.int .i64 (p 5).z) := (ptsB hPq (show 5 < 16 by omega)).2.2
          have o0 : wq.cell? ⟨gt, 27, none⟩ = some (.int .i64 (trn p (8 + 1) 9).x) := (ptsB hTq (show 9 < 16 by omega)).1
          have o1 : wq.cell? ⟨gt, 28, none⟩ = some (.int .i64 (trn p (8 + 1) 9).y) := (ptsB hTq (show 9 < 16 by omega)).2.1
          have o2 : wq.cell? ⟨gt, 29, none⟩ = some (.int .i64 (trn p (8 + 1) 9).z) := (ptsB hTq (show 9 < 16 by omega)).2.2
          have f0 := hTq.frozen 27
          have f1 := hTq.frozen 28
          have f2 := hTq.frozen 29
          have hT6 : Blk (((wq.setCell ⟨gt, 27, none⟩ (.int .i64 (p 5).x)).setCell ⟨gt, 28, none⟩ (.int .i64 (p 5).y)).setCell ⟨gt, 29, none⟩ (.int .i64 (p 5).z)) gt 24 (ptsC 16 (trn p (8 + 1 + 1))) := by
            have h6 := (((hTq.set 27 (.int .i64 (p 5).x)).set 28 (.int .i64 (p 5).y)).set 29 (.int .i64 (p 5).z))
            rw [show ((8 : Nat) + 1) = 9 from rfl] at h6 ⊢
            rw [← trn_next p (m := 9) (s := 5) (by omega) (by omega)]
            exact h6
          have hP6 := (((hPq.far (b := gt) 27 (.int .i64 (p 5).x) (by omega)).far (b := gt) 28 (.int .i64 (p 5).y) (by omega)).far (b := gt) 29 (.int .i64 (p 5).z) (by omega))
          have hC6 := (((hCq.far (b := gt) 27 (.int .i64 (p 5).x) (by omega)).far (b := gt) 28 (.int .i64 (p 5).y) (by omega)).far (b := gt) 29 (.int .i64 (p 5).z) (by omega))
          have hB6 : Below w.heap.size w (((wq.setCell ⟨gt, 27, none⟩ (.int .i64 (p 5).x)).setCell ⟨gt, 28, none⟩ (.int .i64 (p 5).y)).setCell ⟨gt, 29, none⟩ (.int .i64 (p 5).z)) := (bel_set (bel_set (bel_set hBq (p := ⟨gt, 27, none⟩) (by show _ ≤ gt; omega) _) (p := ⟨gt, 28, none⟩) (by show _ ≤ gt; omega) _) (p := ⟨gt, 29, none⟩) (by show _ ≤ gt; omega) _)
          clear hTq hPq hCq hBq
          replace hT6 := Lib.hid hT6
          replace hP6 := Lib.hid hP6
          replace hC6 := Lib.hid hC6
          replace hB6 := Lib.hid hB6
          go_wp2
          go_roundw
          case rel => exact ⟨2, .inr (.inr (.inl ⟨rfl, rfl⟩)), hB6.out, hP6.out, hC6.out, hT6.out⟩
          case measure => simp [intOf]
        · have hne : w.heap.size < gt ∧ gc < gt ∧ w.heap.size < gc := ⟨by omega, by omega, by omega⟩
          have pl := hPq.lt
          have tl := hTq.lt
          have c0 : wq.cell? ⟨w.heap.size, 27, none⟩ = some (.int .i64 (p 9).x) := (ptsB hPq (show 9 < 16 by omega)).1
          have c1 : wq.cell? ⟨w.heap.size, 28, none⟩ = some (.int .i64 (p 9).y) := (ptsB hPq (show 9 < 16 by omega)).2.1
          have c2 : wq.cell? ⟨w.heap.size, 29, none⟩ = some (.int .i64 (p 9).z) := (ptsB hPq (show 9 < 16 by omega)).2.2
          have o0 : wq.cell? ⟨gt, 30, none⟩ = some (.int .i64 (trn p (8 + 2) 10).x) := (ptsB hTq (show 10 < 16 by omega)).1
          have o1 : wq.cell? ⟨gt, 31, none⟩ = some (.int .i64 (trn p (8 + 2) 10).y) := (ptsB hTq (show 10 < 16 by omega)).2.1
          have o2 : wq.cell? ⟨gt, 32, none⟩ = some (.int .i64 (trn p (8 + 2) 10).z) := (ptsB hTq (show 10 < 16 by omega)).2.2
          have f0 := hTq.frozen 30
          have f1 := hTq.frozen 31
          have f2 := hTq.frozen 32
          have hT6 : Blk (((wq.setCell ⟨gt, 30, none⟩ (.int .i64 (p 9).x)).setCell ⟨gt, 31, none⟩ (.int .i64 (p 9).y)).setCell ⟨gt, 32, none⟩ (.int .i64 (p 9).z)) gt 24 (ptsC 16 (trn p (8 + 2 + 1))) := by
            have h6 := (((hTq.set 30 (.int .i64 (p 9).x)).set 31 (.int .i64 (p 9).y)).set 32 (.int .i64 (p 9).z))
            rw [show ((8 : Nat) + 2) = 10 from rfl] at h6 ⊢
            rw [← trn_next p (m := 10) (s := 9) (by omega) (by omega)]
            exact h6
          have hP6 := (((hPq.far (b := gt) 30 (.int .i64 (p 9).x) (by omega)).far (b := gt) 31 (.int .i64 (p 9).y) (by omega)).far (b := gt) 32 (.int .i64 (p 9).z) (by omega))
          have hC6 := (((hCq.far (b := gt) 30 (.int .i64 (p 9).x) (by omega)).far (b := gt) 31 (.int .i64 (p 9).y) (by omega)).far (b := gt) 32 (.int .i64 (p 9).z) (by omega))
          have hB6 : Below w.heap.size w (((wq.setCell ⟨gt, 30, none⟩ (.int .i64 (p 9).x)).setCell ⟨gt, 31, none⟩ (.int .i64 (p 9).y)).setCell ⟨gt, 32, none⟩ (.int .i64 (p 9).z)) := (bel_set (bel_set (bel_set hBq (p := ⟨gt, 30, none⟩) (by show _ ≤ gt; omega) _) (p := ⟨gt, 31, none⟩) (by show _ ≤ gt; omega) _) (p := ⟨gt, 32, none⟩) (by show _ ≤ gt; omega) _)
          clear hTq hPq hCq hBq
          replace hT6 := Lib.hid hT6
          replace hP6 := Lib.hid hP6
          replace hC6 := Lib.hid hC6
          replace hB6 := Lib.hid hB6
          go_wp2
          go_roundw
          case rel => exact ⟨3, .inr (.inr (.inr (.inl ⟨rfl, rfl⟩))), hB6.out, hP6.out, hC6.out, hT6.out⟩
          case measure => simp [intOf]
        · have hne : w.heap.size < gt ∧ gc < gt ∧ w.heap.size < gc := ⟨by omega, by omega, by omega⟩
          have pl := hPq.lt
          have tl := hTq.lt
          have c0 : wq.cell? ⟨w.heap.size, 39, none⟩ = some (.int .i64 (p 13).x) := (ptsB hPq (show 13 < 16 by omega)).1
          have c1 : wq.cell? ⟨w.heap.size, 40, none⟩ = some (.int .i64 (p 13).y) := (ptsB hPq (show 13 < 16 by omega)).2.1
          have c2 : wq.cell? ⟨w.heap.size, 41, none⟩ = some (.int .i64 (p 13).z) := (ptsB hPq (show 13 < 16 by omega)).2.2
          have o0 : wq.cell? ⟨gt, 33, none⟩ = some (.int .i64 (trn p (8 + 3) 11).x) := (ptsB hTq (show 11 < 16 by omega)).1
          have o1 : wq.cell? ⟨gt, 34, none⟩ = some (.int .i64 (trn p (8 + 3) 11).y) := (ptsB hTq (show 11 < 16 by omega)).2.1
          have o2 : wq.cell? ⟨gt, 35, none⟩ = some (.int .i64 (trn p (8 + 3) 11).z) := (ptsB hTq (show 11 < 16 by omega)).2.2
          have f0 := hTq.frozen 33
          have f1 := hTq.frozen 34
          have f2 := hTq.frozen 35
          have hT6 : Blk (((wq.setCell ⟨gt, 33, none⟩ (.int .i64 (p 13).x)).setCell ⟨gt, 34, none⟩ (.int .i64 (p 13).y)).setCell ⟨gt, 35, none⟩ (.int .i64 (p 13).z)) gt 24 (ptsC 16 (trn p (8 + 3 + 1))) := by
            have h6 := (((hTq.set 33 (.int .i64 (p 13).x)).set 34 (.int .i64 (p 13).y)).set 35 (.int .i64 (p 13).z))
            rw [show ((8 : Nat) + 3) = 11 from rfl] at h6 ⊢
            rw [← trn_next p (m := 11) (s := 13) (by omega) (by omega)]
            exact h6
          have hP6 := (((hPq.far (b := gt) 33 (.int .i64 (p 13).x) (by omega)).far (b := gt) 34 (.int .i64 (p 13).y) (by omega)).far (b := gt) 35 (.int .i64 (p 13).z) (by omega))
          have hC6 := (((hCq.far (b := gt) 33 (.int .i64 (p 13).x) (by omega)).far (b := gt) 34 (.int .i64 (p 13).y) (by omega)).far (b := gt) 35 (.int .i64 (p 13).z) (by omega))
          have hB6 : Below w.heap.size w (((wq.setCell ⟨gt, 33, none⟩ (.int .i64 (p 13).x)).setCell ⟨gt, 34, none⟩ (.int .i64 (p 13).y)).setCell ⟨gt, 35, none⟩ (.int .i64 (p 13).z)) := (bel_set (bel_set (bel_set hBq (p := ⟨gt, 33, none⟩) (by show _ ≤ gt; omega) _) (p := ⟨gt, 34, none⟩) (by show _ ≤ gt; omega) _) (p := ⟨gt, 35, none⟩) (by show _ ≤ gt; omega) _)
          clear hTq hPq hCq hBq
          replace hT6 := Lib.hid hT6
          replace hP6 := Lib.hid hP6
          replace hC6 := Lib.hid hC6
          replace hB6 := Lib.hid hB6
          go_wp2
          go_roundw
          case rel => exact ⟨4, .inr (.inr (.inr (.inr (⟨rfl, rfl⟩)))), hB6.out, hP6.out, hC6.out, hT6.out⟩
          case measure => simp [intOf]
        · replace hBq := Lib.hid hBq
          replace hPq := Lib.hid hPq
          replace hCq := Lib.hid hCq
          replace hTq := Lib.hid hTq
          go_wp2
          go_roundw
          case rel => exact ⟨3, .inr (.inr (.inr (.inl ⟨rfl, rfl⟩))), hBq.out, hPq.out, hCq.out, hTq.out⟩
          case measure => simp [intOf]
    · go_upto_region 8 with (fail)
      go_wp2
      go_loopw [8] (fun iv wq => ∃ i : Nat, rowI iv i ∧ Below w.heap.size w wq ∧ Blk wq w.heap.size 24 (ptsC 16 p) ∧ Blk wq gc 26 #[.int .i64 (p 0).x, .int .i64 (p 0).y, .int .i64 (p 0).z, .int .i64 (p 1).x, .int .i64 (p 1).y, .int .i64 (p 1).z, .int .i64 (p 2).x, .int .i64 (p 2).y, .int .i64 (p 2).z, .int .i64 (p 3).x, .int .i64 (p 3).y, .int .i64 (p 3).z] ∧ Blk wq gt 24 (ptsC 16 (trn p (12 + i)))) (fun iv _ => 4 - (intOf iv).toNat)
      case atStart => exact ⟨0, .inl ⟨rfl, rfl⟩, hBr, hPr, hCr, hTr⟩
      case round =>
        obtain ⟨i, hi, hBq, hPq, hCq, hTq⟩ := hrel
        clear hBr hPr hCr hTr
        rename World => wq
        rcases hi with ⟨rfl, rfl⟩ | ⟨rfl, rfl⟩ | ⟨rfl, rfl⟩ | ⟨rfl, rfl⟩ | ⟨rfl, rfl⟩
        · have hne : w.heap.size < gt ∧ gc < gt ∧ w.heap.size < gc := ⟨by omega, by omega, by omega⟩
          have pl := hPq.lt
          have tl := hTq.lt
          have c0 : wq.cell? ⟨w.heap.size, 0, none⟩ = some (.int .i64 (p 0).x) := (ptsB hPq (show 0 < 16 by omega)).1
          have c1 : wq.cell? ⟨w.heap.size, 1, none⟩ = some (.int .i64 (p 0).y) := (ptsB hPq (show 0 < 16 by omega)).2.1
          have c2 : wq.cell? ⟨w.heap.size, 2, none⟩ = some (.int .i64 (p 0).z) := (ptsB hPq (show 0 < 16 by omega)).2.2
          have o0 : wq.cell? ⟨gt, 36, none⟩ = some (.int .i64 (trn p (12 + 0) 12).x) := (ptsB hTq (show 12 < 16 by omega)).1
          have o1 : wq.cell? ⟨gt, 37, none⟩ = some (.int .i64 (trn p (12 + 0) 12).y) := (ptsB hTq (show 12 < 16 by omega)).2.1
          have o2 : wq.cell? ⟨gt, 38, none⟩ = some (.int .i64 (trn p (12 + 0) 12).z) := (ptsB hTq (show 12 < 16 by omega)).2.2
          have f0 := hTq.frozen 36
          have f1 := hTq.frozen 37
          have f2 := hTq.frozen 38
          have hT6 : Blk (((wq.setCell ⟨gt, 36, none⟩ (.int .i64 (p 0).x)).setCell ⟨gt, 37, none⟩ (.int .i64 (p 0).y)).setCell ⟨gt, 38, none⟩ (.int .i64 (p 0).z)) gt 24 (ptsC 16 (trn p (12 + 0 + 1))) := by
            have h6 := (((hTq.set 36 (.int .i64 (p 0).x)).set 37 (.int .i64 (p 0).y)).set 38 (.int .i64 (p 0).z))
            rw [show ((12 : Nat) + 0) = 12 from rfl] at h6 ⊢
            rw [← trn_next p (m := 12) (s := 0) (by omega) (by omega)]
            exact h6
          have hP6 := (((hPq.far (b := gt) 36 (.int .i64 (p 0).x) (by omega)).far (b := gt) 37 (.int .i64 (p 0).y) (by omega)).far (b := gt) 38 (.int .i64 (p 0).z) (by omega))
          have hC6 := (((hCq.far (b := gt) 36 (.int .i64 (p 0).x) (by omega)).far (b := gt) 37 (.int .i64 (p 0).y) (by omega)).far (b := gt) 38 (.int .i64 (p 0).z) (by omega))
          have hB6 : Below w.heap.size w (((wq.setCell ⟨gt, 36, none⟩ (.int .i64 (p 0).x)).setCell ⟨gt, 37, none⟩ (.int .i64 (p 0).y)).setCell ⟨gt, 38, none⟩ (.int .i64 (p 0).z)) := (bel_set (bel_set (bel_set hBq (p := ⟨gt, 36, none⟩) (by show _ ≤ gt; omega) _) (p := ⟨gt, 37, none⟩) (by show _ ≤ gt; omega) _) (p := ⟨gt, 38, none⟩) (by show _ ≤ gt; omega) _)
          clear hTq hPq hCq hBq
          replace hT6 := Lib.hid hT6
          replace hP6 := Lib.hid hP6
          replace hC6 := Lib.hid hC6
          replace hB6 := Lib.hid hB6
          go_wp2
          go_roundw
          case rel => exact ⟨1, .inr (.inl ⟨rfl, rfl⟩), hB6.out, hP6.out, hC6.out, hT6.out⟩
          case measure => simp [intOf]
        · have hne : w.heap.size < gt ∧ gc < gt ∧ w.heap.size < gc := ⟨by omega, by omega, by omega⟩
          have pl := hPq.lt
          have tl := hTq.lt
          have c0 : wq.cell? ⟨w.heap.size, 12, none⟩ = some (.int .i64 (p 4).x) := (ptsB hPq (show 4 < 16 by omega)).1
          have c1 : wq.cell? ⟨w.heap.size, 13, none⟩ = some (.int .i64 (p 4).y) := (ptsB hPq (show 4 < 16 by omega)).2.1
          have c2 : wq.cell? ⟨w.heap.size, 14, none⟩ = some (.int .i64 (p 4).z) := (ptsB hPq (show 4 < 16 by omega)).2.2
          have o0 : wq.cell? ⟨gt, 39, none⟩ = some (.int .i64 (trn p (12 + 1) 13).x) := (ptsB hTq (show 13 < 16 by omega)).1
          have o1 : wq.cell? ⟨gt, 40, none⟩ = some (.int .i64 (trn p (12 + 1) 13).y) := (ptsB hTq (show 13 < 16 by omega)).2.1
          have o2 : wq.cell? ⟨gt, 41, none⟩ = some (.int .i64 (trn p (12 + 1) 13).z) := (ptsB hTq (show 13 < 16 by omega)).2.2
          have f0 := hTq.frozen 39
          have f1 := hTq.frozen 40
          have f2 := hTq.frozen 41
          have hT6 : Blk (((wq.setCell ⟨gt, 39, none⟩ (.int .i64 (p 4).x)).setCell ⟨gt, 40, none⟩ (.int .i64 (p 4).y)).setCell ⟨gt, 41, none⟩ (.int .i64 (p 4).z)) gt 24 (ptsC 16 (trn p (12 + 1 + 1))) := by
            have h6 := (((hTq.set 39 (.int .i64 (p 4).x)).set 40 (.int .i64 (p 4).y)).set 41 (.int .i64 (p 4).z))
            rw [show ((12 : Nat) + 1) = 13 from rfl] at h6 ⊢
            rw [← trn_next p (m := 13) (s := 4) (by omega) (by omega)]
            exact h6
          have hP6 := (((hPq.far (b := gt) 39 (.int .i64 (p 4).x) (by omega)).far (b := gt) 40 (.int .i64 (p 4).y) (by omega)).far (b := gt) 41 (.int .i64 (p 4).z) (by omega))
          have hC6 := (((hCq.far (b := gt) 39 (.int .i64 (p 4).x) (by omega)).far (b := gt) 40 (.int .i64 (p 4).y) (by omega)).far (b := gt) 41 (.int .i64 (p 4).z) (by omega))
          have hB6 : Below w.heap.size w (((wq.setCell ⟨gt, 39, none⟩ (.int .i64 (p 4).x)).setCell ⟨gt, 40, none⟩ (.int .i64 (p 4).y)).setCell ⟨gt, 41, none⟩ (.int .i64 (p 4).z)) := (bel_set (bel_set (bel_set hBq (p := ⟨gt, 39, none⟩) (by show _ ≤ gt; omega) _) (p := ⟨gt, 40, none⟩) (by show _ ≤ gt; omega) _) (p := ⟨gt, 41, none⟩) (by show _ ≤ gt; omega) _)
          clear hTq hPq hCq hBq
          replace hT6 := Lib.hid hT6
          replace hP6 := Lib.hid hP6
          replace hC6 := Lib.hid hC6
          replace hB6 := Lib.hid hB6
          go_wp2
          go_roundw
          case rel => exact ⟨2, .inr (.inr (.inl ⟨rfl, rfl⟩)), hB6.out, hP6.out, hC6.out, hT6.out⟩
          case measure => simp [intOf]
        · have hne : w.heap.size < gt ∧ gc < gt ∧ w.heap.size < gc := ⟨by omega, by omega, by omega⟩
          have pl := hPq.lt
          have tl := hTq.lt
          have c0 : wq.cell? ⟨w.heap.size, 24, none⟩ = some (.int .i64 (p 8).x) := (ptsB hPq (show 8 < 16 by omega)).1
          have c1 : wq.cell? ⟨w.heap.size, 25, none⟩ = some (.int .i64 (p 8).y) := (ptsB hPq (show 8 < 16 by omega)).2.1
          have c2 : wq.cell? ⟨w.heap.size, 26, none⟩ = some (.int .i64 (p 8).z) := (ptsB hPq (show 8 < 16 by omega)).2.2
          have o0 : wq.cell? ⟨gt, 42, none⟩ = some (.int .i64 (trn p (12 + 2) 14).x) := (ptsB hTq (show 14 < 16 by omega)).1
          have o1 : wq.cell? ⟨gt, 43, none⟩ = some (.int .i64 (trn p (12 + 2) 14).y) := (ptsB hTq (show 14 < 16 by omega)).2.1
          have o2 : wq.cell? ⟨gt, 44, none⟩ = some (.int .i64 (trn p (12 + 2) 14).z) := (ptsB hTq (show 14 < 16 by omega)).2.2
          have f0 := hTq.frozen 42
          have f1 := hTq.frozen 43
          have f2 := hTq.frozen 44
          have hT6 : Blk (((wq.setCell ⟨gt, 42, none⟩ (.int .i64 (p 8).x)).setCell ⟨gt, 43, none⟩ (.int .i64 (p 8).y)).setCell ⟨gt, 44, none⟩ (.int .i64 (p 8).z)) gt 24 (ptsC 16 (trn p (12 + 2 + 1))) := by
            have h6 := (((hTq.set 42 (.int .i64 (p 8).x)).set 43 (.int .i64 (p 8).y)).set 44 (.int .i64 (p 8).z))
            rw [show ((12 : Nat) + 2) = 14 from rfl] at h6 ⊢
            rw [← trn_next p (m := 14) (s := 8) (by omega) (by omega)]
            exact h6
          have hP6 := (((hPq.far (b := gt) 42 (.int .i64 (p 8).x) (by omega)).far (b := gt) 43 (.int .i64 (p 8).y) (by omega)).far (b := gt) 44 (.int .i64 (p 8).z) (by omega))
          have hC6 := (((hCq.far (b := gt) 42 (.int .i64 (p 8).x) (by omega)).far (b := gt) 43 (.int .i64 (p 8).y) (by omega)).far (b := gt) 44 (.int .i64 (p 8).z) (by omega))
          have hB6 : Below w.heap.size w (((wq.setCell ⟨gt, 42, none⟩ (.int .i64 (p 8).x)).setCell ⟨gt, 43, none⟩ (.int .i64 (p 8).y)).setCell ⟨gt, 44, none⟩ (.int .i64 (p 8).z)) := (bel_set (bel_set (bel_set hBq (p := ⟨gt, 42, none⟩) (by show _ ≤ gt; omega) _) (p := ⟨gt, 43, none⟩) (by show _ ≤ gt; omega) _) (p := ⟨gt, 44, none⟩) (by show _ ≤ gt; omega) _)
          clear hTq hPq hCq hBq
          replace hT6 := Lib.hid hT6
          replace hP6 := Lib.hid hP6
          replace hC6 := Lib.hid hC6
          replace hB6 := Lib.hid hB6
          go_wp2
          go_roundw
          case rel => exact ⟨3, .inr (.inr (.inr (.inl ⟨rfl, rfl⟩))), hB6.out, hP6.out, hC6.out, hT6.out⟩
          case measure => simp [intOf]
        · have hne : w.heap.size < gt ∧ gc < gt ∧ w.heap.size < gc := ⟨by omega, by omega, by omega⟩
          have pl := hPq.lt
          have tl := hTq.lt
          have c0 : wq.cell? ⟨w.heap.size, 36, none⟩ = some (.int .i64 (p 12).x) := (ptsB hPq (show 12 < 16 by omega)).1
          have c1 : wq.cell? ⟨w.heap.size, 37, none⟩ = some (.int .i64 (p 12).y) := (ptsB hPq (show 12 < 16 by omega)).2.1
          have c2 : wq.cell? ⟨w.heap.size, 38, none⟩ = some (.int .i64 (p 12).z) := (ptsB hPq (show 12 < 16 by omega)).2.2
          have o0 : wq.cell? ⟨gt, 45, none⟩ = some (.int .i64 (trn p (12 + 3) 15).x) := (ptsB hTq (show 15 < 16 by omega)).1
          have o1 : wq.cell? ⟨gt, 46, none⟩ = some (.int .i64 (trn p (12 + 3) 15).y) := (ptsB hTq (show 15 < 16 by omega)).2.1
          have o2 : wq.cell? ⟨gt, 47, none⟩ = some (.int .i64 (trn p (12 + 3) 15).z) := (ptsB hTq (show 15 < 16 by omega)).2.2
          have f0 := hTq.frozen 45
          have f1 := hTq.frozen 46
          have f2 := hTq.frozen 47
          have hT6 : Blk (((wq.setCell ⟨gt, 45, none⟩ (.int .i64 (p 12).x)).setCell ⟨gt, 46, none⟩ (.int .i64 (p 12).y)).setCell ⟨gt, 47, none⟩ (.int .i64 (p 12).z)) gt 24 (ptsC 16 (trn p (12 + 3 + 1))) := by
            have h6 := (((hTq.set 45 (.int .i64 (p 12).x)).set 46 (.int .i64 (p 12).y)).set 47 (.int .i64 (p 12).z))
            rw [show ((12 : Nat) + 3) = 15 from rfl] at h6 ⊢
            rw [← trn_next p (m := 15) (s := 12) (by omega) (by omega)]
            exact h6
          have hP6 := (((hPq.far (b := gt) 45 (.int .i64 (p 12).x) (by omega)).far (b := gt) 46 (.int .i64 (p 12).y) (by omega)).far (b := gt) 47 (.int .i64 (p 12).z) (by omega))
          have hC6 := (((hCq.far (b := gt) 45 (.int .i64 (p 12).x) (by omega)).far (b := gt) 46 (.int .i64 (p 12).y) (by omega)).far (b := gt) 47 (.int .i64 (p 12).z) (by omega))
          have hB6 : Below w.heap.size w (((wq.setCell ⟨gt, 45, none⟩ (.int .i64 (p 12).x)).setCell ⟨gt, 46, none⟩ (.int .i64 (p 12).y)).setCell ⟨gt, 47, none⟩ (.int .i64 (p 12).z)) := (bel_set (bel_set (bel_set hBq (p := ⟨gt, 45, none⟩) (by show _ ≤ gt; omega) _) (p := ⟨gt, 46, none⟩) (by show _ ≤ gt; omega) _) (p := ⟨gt, 47, none⟩) (by show _ ≤ gt; omega) _)
          clear hTq hPq hCq hBq
          replace hT6 := Lib.hid hT6
          replace hP6 := Lib.hid hP6
          replace hC6 := Lib.hid hC6
          replace hB6 := Lib.hid hB6
          go_wp2
          go_roundw
          case rel => exact ⟨4, .inr (.inr (.inr (.inr (⟨rfl, rfl⟩)))), hB6.out, hP6.out, hC6.out, hT6.out⟩
          case measure => simp [intOf]
        · replace hBq := Lib.hid hBq
          replace hPq := Lib.hid hPq
          replace hCq := Lib.hid hCq
          replace hTq := Lib.hid hTq
          go_wp2
          go_roundw
          case rel => exact ⟨4, .inr (.inr (.inr (.inr (⟨rfl, rfl⟩)))), hBq.out, hPq.out, hCq.out, hTq.out⟩
          case measure => simp [intOf]
    · have hT : Blk wr gt 24 (ptsC 16 (trn p 16)) := hTr
      clear hTr
      have k1 := edge_any p u
      have k2 := edge_any (bk4 p) u
      have k3 := sides_any p u
      have k4 := sides_any (trn p 16) u
      obtain ⟨t0, t1, t2, t3⟩ := trn_ed p u
      rw [ptsC4] at k1 k2
      rw [ed_bk] at k2
      unfold sdV at k3 k4
      rw [t0, t1, t2, t3] at k4
      clear t0 t1 t2 t3
      have s0 : sm16 (edK (rowF p 0) u) := edK_bd _ _
      have s1 : sm16 (edK (rowF p 1) u) := edK_bd _ _
      have s2 : sm16 (edK (rowF p 2) u) := edK_bd _ _
      have s3 : sm16 (edK (rowF p 3) u) := edK_bd _ _
      generalize edK (rowF p 0) u = e0 at *
      generalize edK (rowF p 1) u = e1 at *
      generalize edK (rowF p 2) u = e2 at *
      generalize edK (rowF p 3) u = e3 at *
      generalize edK p u = E at *
      change Gives Try.prog 10 #[.agg #[.int .i64 (p 3).x, .int .i64 (p 3).y, .int .i64 (p 3).z, .int .i64 (p 2).x, .int .i64 (p 2).y, .int .i64 (p 2).z, .int .i64 (p 1).x, .int .i64 (p 1).y, .int .i64 (p 1).z, .int .i64 (p 0).x, .int .i64 (p 0).y, .int .i64 (p 0).z], .int .i64 u] _ at k2
      generalize trn p 16 = q at *
      go_upto_region 12 with (fail)
      go_upto_region 13 with (first | ((refine load16 rfl _ rfl w.heap.size rfl p hPr ?_); simp only [Act.put, List.setIfInBounds_toArray, List.set_cons_succ, List.set_cons_zero]) | (go_at_call 12; first | ((with_reducible refine (k3.at_ _).mono ?_); rintro e w' ⟨rfl, xb, rfl⟩)) | fail)
      have hA4 : Blk ((grow wr xb).alloc (.cells #[.int .i64 e0, .int .i64 e1, .int .i64 e2, .int .i64 e3] 30)) (grow wr xb).heap.size 30 #[.int .i64 e0, .int .i64 e1, .int .i64 e2, .int .i64 e3] := Blk.new _ _ _ _ rfl
      have hT4 := (hT.grow xb).alloc (.cells #[.int .i64 e0, .int .i64 e1, .int .i64 e2, .int .i64 e3] 30)
      have hC4 := (hCr.grow xb).alloc (.cells #[.int .i64 e0, .int .i64 e1, .int .i64 e2, .int .i64 e3] 30)
      have hB4 : Below w.heap.size w ((grow wr xb).alloc (.cells #[.int .i64 e0, .int .i64 e1, .int .i64 e2, .int .i64 e3] 30)) := bel_alloc (bel_grow hBr xb) _
      clear hPr hT hCr hBr k3
      generalize (grow wr xb).alloc (.cells #[.int .i64 e0, .int .i64 e1, .int .i64 e2, .int .i64 e3] 30) = W4 at *
      generalize (grow wr xb).heap.size = ga at *
      go_upto_region 14 with (first | ((refine load16 rfl _ rfl gt rfl q hT4 ?_); simp only [Act.put, List.setIfInBounds_toArray, List.set_cons_succ, List.set_cons_zero]) | (go_at_call 12; first | ((with_reducible refine (k4.at_ _).mono ?_); rintro e w' ⟨rfl, xc, rfl⟩)) | fail)
      have hA5 := (hA4.grow xc).alloc (.cells #[.int .i64 e1, .int .i64 e2, .int .i64 e3, .int .i64 e0] 30)
      have hC5 := (hC4.grow xc).alloc (.cells #[.int .i64 e1, .int .i64 e2, .int .i64 e3, .int .i64 e0] 30)
      have hD5 : Blk ((grow W4 xc).alloc (.cells #[.int .i64 e1, .int .i64 e2, .int .i64 e3, .int .i64 e0] 30)) (grow W4 xc).heap.size 30 #[.int .i64 e1, .int .i64 e2, .int .i64 e3, .int .i64 e0] := Blk.new _ _ _ _ rfl
      have hB5 : Below w.heap.size w ((grow W4 xc).alloc (.cells #[.int .i64 e1, .int .i64 e2, .int .i64 e3, .int .i64 e0] 30)) := bel_alloc (bel_grow hB4 xc) _
      clear hT4 hC4 hB4 hA4 k4
      generalize (grow W4 xc).alloc (.cells #[.int .i64 e1, .int .i64 e2, .int .i64 e3, .int .i64 e0] 30) = W5 at *
      generalize (grow W4 xc).heap.size = gd at *
      have al := hA5.lt
      have cl := hC5.lt
      have dl := hD5.lt
      have c0 := hC5.cell 0
      have c1 := hC5.cell 1
      have c2 := hC5.cell 2
      have c3 := hC5.cell 3
      have c4 := hC5.cell 4
      have c5 := hC5.cell 5
      have c6 := hC5.cell 6
      have c7 := hC5.cell 7
      have c8 := hC5.cell 8
      have c9 := hC5.cell 9
      have c10 := hC5.cell 10
      have c11 := hC5.cell 11
      have a0 := hA5.cell 0
      have d0 := hD5.cell 0
      have a1 := hA5.cell 1
      have d1 := hD5.cell 1
      have a2 := hA5.cell 2
      have d2 := hD5.cell 2
      have a3 := hA5.cell 3
      have d3 := hD5.cell 3
      refine wp_region_grow (by kernel_rfl) (by kernel_rfl) ?_
      repeat (first | (refine quiet_eqI _ _ rfl rfl e1 e2 e3 e0 rfl rfl s1 s2 s3 s0 ?_; simp only [Act.put, List.setIfInBounds_toArray, List.set_cons_succ, List.set_cons_zero]) | go_big_quiet_step (((first | with_reducible exact k1.quiet _ | with_reducible exact k1.quiet2 _ _ | with_reducible exact k2.quiet _ | with_reducible exact k2.quiet2 _ _))))
      refine wpQuiet_nil ?_
      rintro _ ⟨xg, rfl⟩
      go_wp2
      go_ret
      exact ⟨rfl, bel_trans hB5 (by repeat (first | exact Below.refl _ _ | refine bel_then ?_ _ | refine bel_grow ?_ _ | refine bel_alloc ?_ _ | refine bel_drew ?_ | refine bel_set ?_ (by simp) _ | refine bel_setRow ?_ (by first | omega | (simp; done) | (refine Nat.le_trans ?_ (top_le _ _); simp; done) | (refine Nat.le_succ_of_le (Nat.le_trans ?_ (top_le _ _)); simp; done) | (refine Nat.le_trans ?_ (top_le _ _); simp only [World.size_alloc]; refine Nat.le_succ_of_le (Nat.le_trans ?_ (top_le _ _)); simp; done)) _))⟩

theorem own : ownKnob Try.prog.godebug = none := by kernel_rfl
set_option maxRecDepth 100000 in
theorem lifted (os : Os) (started : os.Started) (H : Type) (enc : TypeId × Value → H) :
    ReturnsInHanded {} Try.checked os 4 .any (Rows.rateBackSpec.pre6 enc Try.prog Try.f4 Rows.rateBackRow.domain false) (Rows.rateBackSpec.post enc Try.prog Try.f4 false true false false) := by
  refine returnsInHanded_of_change (C := Try.checked) own started (by kernel_rfl) Try.func4
    (ChangeSpec.witness6 (enc := enc) (C := Try.checked) false ⟨#[], #[.agg #[.int .i64 0, .int .i64 0, .int .i64 0, .int .i64 0, .int .i64 0, .int .i64 0, .int .i64 0, .int .i64 0, .int .i64 0, .int .i64 0, .int .i64 0, .int .i64 0, .int .i64 0, .int .i64 0, .int .i64 0, .int .i64 0, .int .i64 0, .int .i64 0, .int .i64 0, .int .i64 0, .int .i64 0, .int .i64 0, .int .i64 0, .int .i64 0, .int .i64 0, .int .i64 0, .int .i64 0, .int .i64 0, .int .i64 0, .int .i64 0, .int .i64 0, .int .i64 0, .int .i64 0, .int .i64 0, .int .i64 0, .int .i64 0, .int .i64 0, .int .i64 0, .int .i64 0, .int .i64 0, .int .i64 0, .int .i64 0, .int .i64 0, .int .i64 0, .int .i64 0, .int .i64 0, .int .i64 0, .int .i64 0], .int .i64 0], []⟩ 12 (by kernel_rfl) (by kernel_rfl) (by kernel_rfl) (by kernel_rfl)) ?_
  intro W base args ds gs before hval0 hW hcnd _
  have hval : ∀ (j : Nat) t v, Try.f4.params[j]? = some t → args[j]? = some v → Value.okWide Try.prog W .any base t v := hval0
  have hW' := hW
  obtain ⟨p, q, hA0, hV, rfl, hfz, hnd⟩ := hW
  have hA : DataW.TrodAll enc Try.prog W 0 (fun _ => true) true Try.f4.params.toList args.toList ds p := hA0
  rw [Try.params4] at hA hval
  obtain ⟨v0, vs0, d0, ds0, p0, q0, hargs, rfl, rfl, h0, r0⟩ := trodAll_cons hA
  obtain ⟨v1, vs1, d1, ds1, p1, q1, rfl, rfl, rfl, h1, r1⟩ := trodAll_cons r0
  obtain ⟨rfl, rfl, rfl⟩ := trodAll_nil r1
  obtain rfl : args = #[v0, v1] := by cases args; simp_all
  obtain ⟨p0, rfl, k0⟩ := open_A16 (hval 0 24 v0 rfl rfl) h0
  obtain ⟨a1, rfl, b1⟩ := open_int64 (hval 1 3 v1 rfl rfl) h1
  refine (walk W p0 k0 a1 b1).mono fun e W' ⟨he, hb⟩ => ?_
  subst he
  exact ⟨_, rfl, law_post (tb := 4) (by kernel_rfl) (by kernel_rfl) rfl rfl Try.underlying4 rfl rfl rfl hW' hb⟩

theorem over : Rows.rateBackRow.holds Try.pinned (OpenSpec.ofChange Rows.rateBackSpec) :=
  OpenClaim.holds_of_wide 4 Try.f4 rfl rfl rfl rfl rfl rfl rfl ⟨rfl, rfl, rfl, rfl, rfl⟩ rfl rfl rfl rfl rfl (by kernel_rfl) Try.func4 (by kernel_rfl)
    (of_decide_eq_true (by kernel_rfl)) (by unfold Func.isWrapper; first | (rw [if_pos (by decide +kernel)]; kernel_rfl) | (rw [if_neg (by decide +kernel)]; exact ⟨rfl, rfl⟩))
    (fun os started H enc _ => lifted os started H enc)

theorem proved : Rows.RateBackSaid :=
  over
#print axioms proved
end Go.Proofs.Ytgmifpicilfcdaa.rateBack
