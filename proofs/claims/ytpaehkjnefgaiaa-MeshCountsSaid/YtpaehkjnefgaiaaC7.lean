/- A patch's sides: Row, the program's and the document's. How long a curve is, and how many parts it has: pure. Package rate: steps, Length. The document's Length. Edge of both. A patch's sides: the document's Row. -/
import Derived.Test.YtpaehkjnefgaiaaC0
import Derived.Test.YtpaehkjnefgaiaaC6
namespace Go.Proofs.Ytpaehkjnefgaiaa
open Go.RowKit
set_option linter.unusedVariables false
set_option linter.unusedSimpArgs false
set_option linter.unnecessarySimpa false
set_option maxRecDepth 100000
def rowF (p : Nat → P3) (s : Int) (k : Nat) : P3 := if s = 0 then p k else if s = 1 then p (4 * k + 3) else if s = 2 then p (15 - k) else if s = 3 then p (12 - 4 * k) else N3
theorem ptsC4 (q : Nat → P3) : ptsC 4 q = #[.int .i64 (q 0).x, .int .i64 (q 0).y, .int .i64 (q 0).z, .int .i64 (q 1).x, .int .i64 (q 1).y, .int .i64 (q 1).z, .int .i64 (q 2).x, .int .i64 (q 2).y, .int .i64 (q 2).z, .int .i64 (q 3).x, .int .i64 (q 3).y, .int .i64 (q 3).z] := rfl
set_option maxHeartbeats 4000000 in
theorem vRow0 (p : Nat → P3)  : Gives Try.prog 42 #[.agg (ptsC 16 p), .int .i64 (0)] (.agg (ptsC 4 (rowF p 0))) := by
  refine Gives.mk fun W => ?_
  have hP : Blk ((W.alloc (.cells (ptsC 16 p) 24)).alloc (.cells #[.int .i64 0, .int .i64 0, .int .i64 0, .int .i64 0, .int .i64 0, .int .i64 0, .int .i64 0, .int .i64 0, .int .i64 0, .int .i64 0, .int .i64 0, .int .i64 0] 26)) W.heap.size 24 (ptsC 16 p) := (Blk.new _ _ _ _ rfl).alloc _
  have hR : Blk ((W.alloc (.cells (ptsC 16 p) 24)).alloc (.cells #[.int .i64 0, .int .i64 0, .int .i64 0, .int .i64 0, .int .i64 0, .int .i64 0, .int .i64 0, .int .i64 0, .int .i64 0, .int .i64 0, .int .i64 0, .int .i64 0] 26)) (W.heap.size + 1) 26 #[.int .i64 0, .int .i64 0, .int .i64 0, .int .i64 0, .int .i64 0, .int .i64 0, .int .i64 0, .int .i64 0, .int .i64 0, .int .i64 0, .int .i64 0, .int .i64 0] := Blk.new _ _ _ _ (by simp)
  have hB : Below W.heap.size W ((W.alloc (.cells (ptsC 16 p) 24)).alloc (.cells #[.int .i64 0, .int .i64 0, .int .i64 0, .int .i64 0, .int .i64 0, .int .i64 0, .int .i64 0, .int .i64 0, .int .i64 0, .int .i64 0, .int .i64 0, .int .i64 0] 26)) := bel_alloc (bel_alloc (Below.refl _ _) _) _
  go_enter Try.func42, Try.ntmps42
  go_upto_region 1 with (fail)
  generalize ((W.alloc (.cells (ptsC 16 p) 24)).alloc (.cells #[.int .i64 0, .int .i64 0, .int .i64 0, .int .i64 0, .int .i64 0, .int .i64 0, .int .i64 0, .int .i64 0, .int .i64 0, .int .i64 0, .int .i64 0, .int .i64 0] 26)) = W1 at *
  replace hP := Lib.hid hP
  replace hR := Lib.hid hR
  replace hB := Lib.hid hB
  go_upto_region 3 with (fail)
  replace hP := hP.out
  replace hR := hR.out
  replace hB := hB.out
  have c0x : W1.cell? ⟨W.heap.size, 0, none⟩ = some (.int .i64 (p 0).x) := (ptsB hP (k := 0) (by omega)).1
  have c0y : W1.cell? ⟨W.heap.size, 1, none⟩ = some (.int .i64 (p 0).y) := (ptsB hP (k := 0) (by omega)).2.1
  have c0z : W1.cell? ⟨W.heap.size, 2, none⟩ = some (.int .i64 (p 0).z) := (ptsB hP (k := 0) (by omega)).2.2
  have c1x : W1.cell? ⟨W.heap.size, 3, none⟩ = some (.int .i64 (p 1).x) := (ptsB hP (k := 1) (by omega)).1
  have c1y : W1.cell? ⟨W.heap.size, 4, none⟩ = some (.int .i64 (p 1).y) := (ptsB hP (k := 1) (by omega)).2.1
  have c1z : W1.cell? ⟨W.heap.size, 5, none⟩ = some (.int .i64 (p 1).z) := (ptsB hP (k := 1) (by omega)).2.2
  have c2x : W1.cell? ⟨W.heap.size, 6, none⟩ = some (.int .i64 (p 2).x) := (ptsB hP (k := 2) (by omega)).1
  have c2y : W1.cell? ⟨W.heap.size, 7, none⟩ = some (.int .i64 (p 2).y) := (ptsB hP (k := 2) (by omega)).2.1
  have c2z : W1.cell? ⟨W.heap.size, 8, none⟩ = some (.int .i64 (p 2).z) := (ptsB hP (k := 2) (by omega)).2.2
  have c3x : W1.cell? ⟨W.heap.size, 9, none⟩ = some (.int .i64 (p 3).x) := (ptsB hP (k := 3) (by omega)).1
  have c3y : W1.cell? ⟨W.heap.size, 10, none⟩ = some (.int .i64 (p 3).y) := (ptsB hP (k := 3) (by omega)).2.1
  have c3z : W1.cell? ⟨W.heap.size, 11, none⟩ = some (.int .i64 (p 3).z) := (ptsB hP (k := 3) (by omega)).2.2
  have pl := hP.lt
  have r0 := hR.cell 0
  have f0 := hR.frozen 0
  have r1 := hR.cell 1
  have f1 := hR.frozen 1
  have r2 := hR.cell 2
  have f2 := hR.frozen 2
  have r3 := hR.cell 3
  have f3 := hR.frozen 3
  have r4 := hR.cell 4
  have f4 := hR.frozen 4
  have r5 := hR.cell 5
  have f5 := hR.frozen 5
  have r6 := hR.cell 6
  have f6 := hR.frozen 6
  have r7 := hR.cell 7
  have f7 := hR.frozen 7
  have r8 := hR.cell 8
  have f8 := hR.frozen 8
  have r9 := hR.cell 9
  have f9 := hR.frozen 9
  have r10 := hR.cell 10
  have f10 := hR.frozen 10
  have r11 := hR.cell 11
  have f11 := hR.frozen 11
  have rl := hR.lt
  have hR2 := ((((((((((((hR.set 0 (.int .i64 ((p 0).x))).set 1 (.int .i64 ((p 0).y))).set 2 (.int .i64 ((p 0).z))).set 3 (.int .i64 ((p 1).x))).set 4 (.int .i64 ((p 1).y))).set 5 (.int .i64 ((p 1).z))).set 6 (.int .i64 ((p 2).x))).set 7 (.int .i64 ((p 2).y))).set 8 (.int .i64 ((p 2).z))).set 9 (.int .i64 ((p 3).x))).set 10 (.int .i64 ((p 3).y))).set 11 (.int .i64 ((p 3).z)))
  have hB2 : Below W.heap.size W ((((((((((((W1.setCell ⟨W.heap.size + 1, 0, none⟩ (.int .i64 ((p 0).x))).setCell ⟨W.heap.size + 1, 1, none⟩ (.int .i64 ((p 0).y))).setCell ⟨W.heap.size + 1, 2, none⟩ (.int .i64 ((p 0).z))).setCell ⟨W.heap.size + 1, 3, none⟩ (.int .i64 ((p 1).x))).setCell ⟨W.heap.size + 1, 4, none⟩ (.int .i64 ((p 1).y))).setCell ⟨W.heap.size + 1, 5, none⟩ (.int .i64 ((p 1).z))).setCell ⟨W.heap.size + 1, 6, none⟩ (.int .i64 ((p 2).x))).setCell ⟨W.heap.size + 1, 7, none⟩ (.int .i64 ((p 2).y))).setCell ⟨W.heap.size + 1, 8, none⟩ (.int .i64 ((p 2).z))).setCell ⟨W.heap.size + 1, 9, none⟩ (.int .i64 ((p 3).x))).setCell ⟨W.heap.size + 1, 10, none⟩ (.int .i64 ((p 3).y))).setCell ⟨W.heap.size + 1, 11, none⟩ (.int .i64 ((p 3).z))) := (bel_set (bel_set (bel_set (bel_set (bel_set (bel_set (bel_set (bel_set (bel_set (bel_set (bel_set (bel_set hB (p := ⟨W.heap.size + 1, 0, none⟩) (by simp) (.int .i64 ((p 0).x))) (p := ⟨W.heap.size + 1, 1, none⟩) (by simp) (.int .i64 ((p 0).y))) (p := ⟨W.heap.size + 1, 2, none⟩) (by simp) (.int .i64 ((p 0).z))) (p := ⟨W.heap.size + 1, 3, none⟩) (by simp) (.int .i64 ((p 1).x))) (p := ⟨W.heap.size + 1, 4, none⟩) (by simp) (.int .i64 ((p 1).y))) (p := ⟨W.heap.size + 1, 5, none⟩) (by simp) (.int .i64 ((p 1).z))) (p := ⟨W.heap.size + 1, 6, none⟩) (by simp) (.int .i64 ((p 2).x))) (p := ⟨W.heap.size + 1, 7, none⟩) (by simp) (.int .i64 ((p 2).y))) (p := ⟨W.heap.size + 1, 8, none⟩) (by simp) (.int .i64 ((p 2).z))) (p := ⟨W.heap.size + 1, 9, none⟩) (by simp) (.int .i64 ((p 3).x))) (p := ⟨W.heap.size + 1, 10, none⟩) (by simp) (.int .i64 ((p 3).y))) (p := ⟨W.heap.size + 1, 11, none⟩) (by simp) (.int .i64 ((p 3).z)))
  clear hP hR hB
  replace hR2 := Lib.hid hR2
  replace hB2 := Lib.hid hB2
  go_wp2
  replace hR2 := hR2.out
  replace hB2 := hB2.out
  generalize ((((((((((((W1.setCell ⟨W.heap.size + 1, 0, none⟩ (.int .i64 ((p 0).x))).setCell ⟨W.heap.size + 1, 1, none⟩ (.int .i64 ((p 0).y))).setCell ⟨W.heap.size + 1, 2, none⟩ (.int .i64 ((p 0).z))).setCell ⟨W.heap.size + 1, 3, none⟩ (.int .i64 ((p 1).x))).setCell ⟨W.heap.size + 1, 4, none⟩ (.int .i64 ((p 1).y))).setCell ⟨W.heap.size + 1, 5, none⟩ (.int .i64 ((p 1).z))).setCell ⟨W.heap.size + 1, 6, none⟩ (.int .i64 ((p 2).x))).setCell ⟨W.heap.size + 1, 7, none⟩ (.int .i64 ((p 2).y))).setCell ⟨W.heap.size + 1, 8, none⟩ (.int .i64 ((p 2).z))).setCell ⟨W.heap.size + 1, 9, none⟩ (.int .i64 ((p 3).x))).setCell ⟨W.heap.size + 1, 10, none⟩ (.int .i64 ((p 3).y))).setCell ⟨W.heap.size + 1, 11, none⟩ (.int .i64 ((p 3).z))) = WE at *
  have w0 := hR2.cell
  refine bodyPost_ret (v := .agg #[.int .i64 ((p 0).x), .int .i64 ((p 0).y), .int .i64 ((p 0).z), .int .i64 ((p 1).x), .int .i64 ((p 1).y), .int .i64 ((p 1).z), .int .i64 ((p 2).x), .int .i64 ((p 2).y), .int .i64 ((p 2).z), .int .i64 ((p 3).x), .int .i64 ((p 3).y), .int .i64 ((p 3).z)]) (by simp [results, Try.results42, go_sem, w0]) rfl ⟨rfl, hB2⟩
set_option maxHeartbeats 4000000 in
theorem vRow1 (p : Nat → P3)  : Gives Try.prog 42 #[.agg (ptsC 16 p), .int .i64 (1)] (.agg (ptsC 4 (rowF p 1))) := by
  refine Gives.mk fun W => ?_
  have hP : Blk ((W.alloc (.cells (ptsC 16 p) 24)).alloc (.cells #[.int .i64 0, .int .i64 0, .int .i64 0, .int .i64 0, .int .i64 0, .int .i64 0, .int .i64 0, .int .i64 0, .int .i64 0, .int .i64 0, .int .i64 0, .int .i64 0] 26)) W.heap.size 24 (ptsC 16 p) := (Blk.new _ _ _ _ rfl).alloc _
  have hR : Blk ((W.alloc (.cells (ptsC 16 p) 24)).alloc (.cells #[.int .i64 0, .int .i64 0, .int .i64 0, .int .i64 0, .int .i64 0, .int .i64 0, .int .i64 0, .int .i64 0, .int .i64 0, .int .i64 0, .int .i64 0, .int .i64 0] 26)) (W.heap.size + 1) 26 #[.int .i64 0, .int .i64 0, .int .i64 0, .int .i64 0, .int .i64 0, .int .i64 0, .int .i64 0, .int .i64 0, .int .i64 0, .int .i64 0, .int .i64 0, .int .i64 0] := Blk.new _ _ _ _ (by simp)
  have hB : Below W.heap.size W ((W.alloc (.cells (ptsC 16 p) 24)).alloc (.cells #[.int .i64 0, .int .i64 0, .int .i64 0, .int .i64 0, .int .i64 0, .int .i64 0, .int .i64 0, .int .i64 0, .int .i64 0, .int .i64 0, .int .i64 0, .int .i64 0] 26)) := bel_alloc (bel_alloc (Below.refl _ _) _) _
  go_enter Try.func42, Try.ntmps42
  go_upto_region 1 with (fail)
  generalize ((W.alloc (.cells (ptsC 16 p) 24)).alloc (.cells #[.int .i64 0, .int .i64 0, .int .i64 0, .int .i64 0, .int .i64 0, .int .i64 0, .int .i64 0, .int .i64 0, .int .i64 0, .int .i64 0, .int .i64 0, .int .i64 0] 26)) = W1 at *
  replace hP := Lib.hid hP
  replace hR := Lib.hid hR
  replace hB := Lib.hid hB
  go_upto_region 5 with (fail)
  replace hP := hP.out
  replace hR := hR.out
  replace hB := hB.out
  have c0x : W1.cell? ⟨W.heap.size, 9, none⟩ = some (.int .i64 (p 3).x) := (ptsB hP (k := 3) (by omega)).1
  have c0y : W1.cell? ⟨W.heap.size, 10, none⟩ = some (.int .i64 (p 3).y) := (ptsB hP (k := 3) (by omega)).2.1
  have c0z : W1.cell? ⟨W.heap.size, 11, none⟩ = some (.int .i64 (p 3).z) := (ptsB hP (k := 3) (by omega)).2.2
  have c1x : W1.cell? ⟨W.heap.size, 21, none⟩ = some (.int .i64 (p 7).x) := (ptsB hP (k := 7) (by omega)).1
  have c1y : W1.cell? ⟨W.heap.size, 22, none⟩ = some (.int .i64 (p 7).y) := (ptsB hP (k := 7) (by omega)).2.1
  have c1z : W1.cell? ⟨W.heap.size, 23, none⟩ = some (.int .i64 (p 7).z) := (ptsB hP (k := 7) (by omega)).2.2
  have c2x : W1.cell? ⟨W.heap.size, 33, none⟩ = some (.int .i64 (p 11).x) := (ptsB hP (k := 11) (by omega)).1
  have c2y : W1.cell? ⟨W.heap.size, 34, none⟩ = some (.int .i64 (p 11).y) := (ptsB hP (k := 11) (by omega)).2.1
  have c2z : W1.cell? ⟨W.heap.size, 35, none⟩ = some (.int .i64 (p 11).z) := (ptsB hP (k := 11) (by omega)).2.2
  have c3x : W1.cell? ⟨W.heap.size, 45, none⟩ = some (.int .i64 (p 15).x) := (ptsB hP (k := 15) (by omega)).1
  have c3y : W1.cell? ⟨W.heap.size, 46, none⟩ = some (.int .i64 (p 15).y) := (ptsB hP (k := 15) (by omega)).2.1
  have c3z : W1.cell? ⟨W.heap.size, 47, none⟩ = some (.int .i64 (p 15).z) := (ptsB hP (k := 15) (by omega)).2.2
  have pl := hP.lt
  have r0 := hR.cell 0
  have f0 := hR.frozen 0
  have r1 := hR.cell 1
  have f1 := hR.frozen 1
  have r2 := hR.cell 2
  have f2 := hR.frozen 2
  have r3 := hR.cell 3
  have f3 := hR.frozen 3
  have r4 := hR.cell 4
  have f4 := hR.frozen 4
  have r5 := hR.cell 5
  have f5 := hR.frozen 5
  have r6 := hR.cell 6
  have f6 := hR.frozen 6
  have r7 := hR.cell 7
  have f7 := hR.frozen 7
  have r8 := hR.cell 8
  have f8 := hR.frozen 8
  have r9 := hR.cell 9
  have f9 := hR.frozen 9
  have r10 := hR.cell 10
  have f10 := hR.frozen 10
  have r11 := hR.cell 11
  have f11 := hR.frozen 11
  have rl := hR.lt
  have hR2 := ((((((((((((hR.set 0 (.int .i64 ((p 3).x))).set 1 (.int .i64 ((p 3).y))).set 2 (.int .i64 ((p 3).z))).set 3 (.int .i64 ((p 7).x))).set 4 (.int .i64 ((p 7).y))).set 5 (.int .i64 ((p 7).z))).set 6 (.int .i64 ((p 11).x))).set 7 (.int .i64 ((p 11).y))).set 8 (.int .i64 ((p 11).z))).set 9 (.int .i64 ((p 15).x))).set 10 (.int .i64 ((p 15).y))).set 11 (.int .i64 ((p 15).z)))
  have hB2 : Below W.heap.size W ((((((((((((W1.setCell ⟨W.heap.size + 1, 0, none⟩ (.int .i64 ((p 3).x))).setCell ⟨W.heap.size + 1, 1, none⟩ (.int .i64 ((p 3).y))).setCell ⟨W.heap.size + 1, 2, none⟩ (.int .i64 ((p 3).z))).setCell ⟨W.heap.size + 1, 3, none⟩ (.int .i64 ((p 7).x))).setCell ⟨W.heap.size + 1, 4, none⟩ (.int .i64 ((p 7).y))).setCell ⟨W.heap.size + 1, 5, none⟩ (.int .i64 ((p 7).z))).setCell ⟨W.heap.size + 1, 6, none⟩ (.int .i64 ((p 11).x))).setCell ⟨W.heap.size + 1, 7, none⟩ (.int .i64 ((p 11).y))).setCell ⟨W.heap.size + 1, 8, none⟩ (.int .i64 ((p 11).z))).setCell ⟨W.heap.size + 1, 9, none⟩ (.int .i64 ((p 15).x))).setCell ⟨W.heap.size + 1, 10, none⟩ (.int .i64 ((p 15).y))).setCell ⟨W.heap.size + 1, 11, none⟩ (.int .i64 ((p 15).z))) := (bel_set (bel_set (bel_set (bel_set (bel_set (bel_set (bel_set (bel_set (bel_set (bel_set (bel_set (bel_set hB (p := ⟨W.heap.size + 1, 0, none⟩) (by simp) (.int .i64 ((p 3).x))) (p := ⟨W.heap.size + 1, 1, none⟩) (by simp) (.int .i64 ((p 3).y))) (p := ⟨W.heap.size + 1, 2, none⟩) (by simp) (.int .i64 ((p 3).z))) (p := ⟨W.heap.size + 1, 3, none⟩) (by simp) (.int .i64 ((p 7).x))) (p := ⟨W.heap.size + 1, 4, none⟩) (by simp) (.int .i64 ((p 7).y))) (p := ⟨W.heap.size + 1, 5, none⟩) (by simp) (.int .i64 ((p 7).z))) (p := ⟨W.heap.size + 1, 6, none⟩) (by simp) (.int .i64 ((p 11).x))) (p := ⟨W.heap.size + 1, 7, none⟩) (by simp) (.int .i64 ((p 11).y))) (p := ⟨W.heap.size + 1, 8, none⟩) (by simp) (.int .i64 ((p 11).z))) (p := ⟨W.heap.size + 1, 9, none⟩) (by simp) (.int .i64 ((p 15).x))) (p := ⟨W.heap.size + 1, 10, none⟩) (by simp) (.int .i64 ((p 15).y))) (p := ⟨W.heap.size + 1, 11, none⟩) (by simp) (.int .i64 ((p 15).z)))
  clear hP hR hB
  replace hR2 := Lib.hid hR2
  replace hB2 := Lib.hid hB2
  go_wp2
  replace hR2 := hR2.out
  replace hB2 := hB2.out
  generalize ((((((((((((W1.setCell ⟨W.heap.size + 1, 0, none⟩ (.int .i64 ((p 3).x))).setCell ⟨W.heap.size + 1, 1, none⟩ (.int .i64 ((p 3).y))).setCell ⟨W.heap.size + 1, 2, none⟩ (.int .i64 ((p 3).z))).setCell ⟨W.heap.size + 1, 3, none⟩ (.int .i64 ((p 7).x))).setCell ⟨W.heap.size + 1, 4, none⟩ (.int .i64 ((p 7).y))).setCell ⟨W.heap.size + 1, 5, none⟩ (.int .i64 ((p 7).z))).setCell ⟨W.heap.size + 1, 6, none⟩ (.int .i64 ((p 11).x))).setCell ⟨W.heap.size + 1, 7, none⟩ (.int .i64 ((p 11).y))).setCell ⟨W.heap.size + 1, 8, none⟩ (.int .i64 ((p 11).z))).setCell ⟨W.heap.size + 1, 9, none⟩ (.int .i64 ((p 15).x))).setCell ⟨W.heap.size + 1, 10, none⟩ (.int .i64 ((p 15).y))).setCell ⟨W.heap.size + 1, 11, none⟩ (.int .i64 ((p 15).z))) = WE at *
  have w0 := hR2.cell
  refine bodyPost_ret (v := .agg #[.int .i64 ((p 3).x), .int .i64 ((p 3).y), .int .i64 ((p 3).z), .int .i64 ((p 7).x), .int .i64 ((p 7).y), .int .i64 ((p 7).z), .int .i64 ((p 11).x), .int .i64 ((p 11).y), .int .i64 ((p 11).z), .int .i64 ((p 15).x), .int .i64 ((p 15).y), .int .i64 ((p 15).z)]) (by simp [results, Try.results42, go_sem, w0]) rfl ⟨rfl, hB2⟩
set_option maxHeartbeats 4000000 in
theorem vRow2 (p : Nat → P3)  : Gives Try.prog 42 #[.agg (ptsC 16 p), .int .i64 (2)] (.agg (ptsC 4 (rowF p 2))) := by
  refine Gives.mk fun W => ?_
  have hP : Blk ((W.alloc (.cells (ptsC 16 p) 24)).alloc (.cells #[.int .i64 0, .int .i64 0, .int .i64 0, .int .i64 0, .int .i64 0, .int .i64 0, .int .i64 0, .int .i64 0, .int .i64 0, .int .i64 0, .int .i64 0, .int .i64 0] 26)) W.heap.size 24 (ptsC 16 p) := (Blk.new _ _ _ _ rfl).alloc _
  have hR : Blk ((W.alloc (.cells (ptsC 16 p) 24)).alloc (.cells #[.int .i64 0, .int .i64 0, .int .i64 0, .int .i64 0, .int .i64 0, .int .i64 0, .int .i64 0, .int .i64 0, .int .i64 0, .int .i64 0, .int .i64 0, .int .i64 0] 26)) (W.heap.size + 1) 26 #[.int .i64 0, .int .i64 0, .int .i64 0, .int .i64 0, .int .i64 0, .int .i64 0, .int .i64 0, .int .i64 0, .int .i64 0, .int .i64 0, .int .i64 0, .int .i64 0] := Blk.new _ _ _ _ (by simp)
  have hB : Below W.heap.size W ((W.alloc (.cells (ptsC 16 p) 24)).alloc (.cells #[.int .i64 0, .int .i64 0, .int .i64 0, .int .i64 0, .int .i64 0, .int .i64 0, .int .i64 0, .int .i64 0, .int .i64 0, .int .i64 0, .int .i64 0, .int .i64 0] 26)) := bel_alloc (bel_alloc (Below.refl _ _) _) _
  go_enter Try.func42, Try.ntmps42
  go_upto_region 1 with (fail)
  generalize ((W.alloc (.cells (ptsC 16 p) 24)).alloc (.cells #[.int .i64 0, .int .i64 0, .int .i64 0, .int .i64 0, .int .i64 0, .int .i64 0, .int .i64 0, .int .i64 0, .int .i64 0, .int .i64 0, .int .i64 0, .int .i64 0] 26)) = W1 at *
  replace hP := Lib.hid hP
  replace hR := Lib.hid hR
  replace hB := Lib.hid hB
  go_upto_region 7 with (fail)
  replace hP := hP.out
  replace hR := hR.out
  replace hB := hB.out
  have c0x : W1.cell? ⟨W.heap.size, 45, none⟩ = some (.int .i64 (p 15).x) := (ptsB hP (k := 15) (by omega)).1
  have c0y : W1.cell? ⟨W.heap.size, 46, none⟩ = some (.int .i64 (p 15).y) := (ptsB hP (k := 15) (by omega)).2.1
  have c0z : W1.cell? ⟨W.heap.size, 47, none⟩ = some (.int .i64 (p 15).z) := (ptsB hP (k := 15) (by omega)).2.2
  have c1x : W1.cell? ⟨W.heap.size, 42, none⟩ = some (.int .i64 (p 14).x) := (ptsB hP (k := 14) (by omega)).1
  have c1y : W1.cell? ⟨W.heap.size, 43, none⟩ = some (.int .i64 (p 14).y) := (ptsB hP (k := 14) (by omega)).2.1
  have c1z : W1.cell? ⟨W.heap.size, 44, none⟩ = some (.int .i64 (p 14).z) := (ptsB hP (k := 14) (by omega)).2.2
  have c2x : W1.cell? ⟨W.heap.size, 39, none⟩ = some (.int .i64 (p 13).x) := (ptsB hP (k := 13) (by omega)).1
  have c2y : W1.cell? ⟨W.heap.size, 40, none⟩ = some (.int .i64 (p 13).y) := (ptsB hP (k := 13) (by omega)).2.1
  have c2z : W1.cell? ⟨W.heap.size, 41, none⟩ = some (.int .i64 (p 13).z) := (ptsB hP (k := 13) (by omega)).2.2
  have c3x : W1.cell? ⟨W.heap.size, 36, none⟩ = some (.int .i64 (p 12).x) := (ptsB hP (k := 12) (by omega)).1
  have c3y : W1.cell? ⟨W.heap.size, 37, none⟩ = some (.int .i64 (p 12).y) := (ptsB hP (k := 12) (by omega)).2.1
  have c3z : W1.cell? ⟨W.heap.size, 38, none⟩ = some (.int .i64 (p 12).z) := (ptsB hP (k := 12) (by omega)).2.2
  have pl := hP.lt
  have r0 := hR.cell 0
  have f0 := hR.frozen 0
  have r1 := hR.cell 1
  have f1 := hR.frozen 1
  have r2 := hR.cell 2
  have f2 := hR.frozen 2
  have r3 := hR.cell 3
  have f3 := hR.frozen 3
  have r4 := hR.cell 4
  have f4 := hR.frozen 4
  have r5 := hR.cell 5
  have f5 := hR.frozen 5
  have r6 := hR.cell 6
  have f6 := hR.frozen 6
  have r7 := hR.cell 7
  have f7 := hR.frozen 7
  have r8 := hR.cell 8
  have f8 := hR.frozen 8
  have r9 := hR.cell 9
  have f9 := hR.frozen 9
  have r10 := hR.cell 10
  have f10 := hR.frozen 10
  have r11 := hR.cell 11
  have f11 := hR.frozen 11
  have rl := hR.lt
  have hR2 := ((((((((((((hR.set 0 (.int .i64 ((p 15).x))).set 1 (.int .i64 ((p 15).y))).set 2 (.int .i64 ((p 15).z))).set 3 (.int .i64 ((p 14).x))).set 4 (.int .i64 ((p 14).y))).set 5 (.int .i64 ((p 14).z))).set 6 (.int .i64 ((p 13).x))).set 7 (.int .i64 ((p 13).y))).set 8 (.int .i64 ((p 13).z))).set 9 (.int .i64 ((p 12).x))).set 10 (.int .i64 ((p 12).y))).set 11 (.int .i64 ((p 12).z)))
  have hB2 : Below W.heap.size W ((((((((((((W1.setCell ⟨W.heap.size + 1, 0, none⟩ (.int .i64 ((p 15).x))).setCell ⟨W.heap.size + 1, 1, none⟩ (.int .i64 ((p 15).y))).setCell ⟨W.heap.size + 1, 2, none⟩ (.int .i64 ((p 15).z))).setCell ⟨W.heap.size + 1, 3, none⟩ (.int .i64 ((p 14).x))).setCell ⟨W.heap.size + 1, 4, none⟩ (.int .i64 ((p 14).y))).setCell ⟨W.heap.size + 1, 5, none⟩ (.int .i64 ((p 14).z))).setCell ⟨W.heap.size + 1, 6, none⟩ (.int .i64 ((p 13).x))).setCell ⟨W.heap.size + 1, 7, none⟩ (.int .i64 ((p 13).y))).setCell ⟨W.heap.size + 1, 8, none⟩ (.int .i64 ((p 13).z))).setCell ⟨W.heap.size + 1, 9, none⟩ (.int .i64 ((p 12).x))).setCell ⟨W.heap.size + 1, 10, none⟩ (.int .i64 ((p 12).y))).setCell ⟨W.heap.size + 1, 11, none⟩ (.int .i64 ((p 12).z))) := (bel_set (bel_set (bel_set (bel_set (bel_set (bel_set (bel_set (bel_set (bel_set (bel_set (bel_set (bel_set hB (p := ⟨W.heap.size + 1, 0, none⟩) (by simp) (.int .i64 ((p 15).x))) (p := ⟨W.heap.size + 1, 1, none⟩) (by simp) (.int .i64 ((p 15).y))) (p := ⟨W.heap.size + 1, 2, none⟩) (by simp) (.int .i64 ((p 15).z))) (p := ⟨W.heap.size + 1, 3, none⟩) (by simp) (.int .i64 ((p 14).x))) (p := ⟨W.heap.size + 1, 4, none⟩) (by simp) (.int .i64 ((p 14).y))) (p := ⟨W.heap.size + 1, 5, none⟩) (by simp) (.int .i64 ((p 14).z))) (p := ⟨W.heap.size + 1, 6, none⟩) (by simp) (.int .i64 ((p 13).x))) (p := ⟨W.heap.size + 1, 7, none⟩) (by simp) (.int .i64 ((p 13).y))) (p := ⟨W.heap.size + 1, 8, none⟩) (by simp) (.int .i64 ((p 13).z))) (p := ⟨W.heap.size + 1, 9, none⟩) (by simp) (.int .i64 ((p 12).x))) (p := ⟨W.heap.size + 1, 10, none⟩) (by simp) (.int .i64 ((p 12).y))) (p := ⟨W.heap.size + 1, 11, none⟩) (by simp) (.int .i64 ((p 12).z)))
  clear hP hR hB
  replace hR2 := Lib.hid hR2
  replace hB2 := Lib.hid hB2
  go_wp2
  replace hR2 := hR2.out
  replace hB2 := hB2.out
  generalize ((((((((((((W1.setCell ⟨W.heap.size + 1, 0, none⟩ (.int .i64 ((p 15).x))).setCell ⟨W.heap.size + 1, 1, none⟩ (.int .i64 ((p 15).y))).setCell ⟨W.heap.size + 1, 2, none⟩ (.int .i64 ((p 15).z))).setCell ⟨W.heap.size + 1, 3, none⟩ (.int .i64 ((p 14).x))).setCell ⟨W.heap.size + 1, 4, none⟩ (.int .i64 ((p 14).y))).setCell ⟨W.heap.size + 1, 5, none⟩ (.int .i64 ((p 14).z))).setCell ⟨W.heap.size + 1, 6, none⟩ (.int .i64 ((p 13).x))).setCell ⟨W.heap.size + 1, 7, none⟩ (.int .i64 ((p 13).y))).setCell ⟨W.heap.size + 1, 8, none⟩ (.int .i64 ((p 13).z))).setCell ⟨W.heap.size + 1, 9, none⟩ (.int .i64 ((p 12).x))).setCell ⟨W.heap.size + 1, 10, none⟩ (.int .i64 ((p 12).y))).setCell ⟨W.heap.size + 1, 11, none⟩ (.int .i64 ((p 12).z))) = WE at *
  have w0 := hR2.cell
  refine bodyPost_ret (v := .agg #[.int .i64 ((p 15).x), .int .i64 ((p 15).y), .int .i64 ((p 15).z), .int .i64 ((p 14).x), .int .i64 ((p 14).y), .int .i64 ((p 14).z), .int .i64 ((p 13).x), .int .i64 ((p 13).y), .int .i64 ((p 13).z), .int .i64 ((p 12).x), .int .i64 ((p 12).y), .int .i64 ((p 12).z)]) (by simp [results, Try.results42, go_sem, w0]) rfl ⟨rfl, hB2⟩
set_option maxHeartbeats 4000000 in
theorem vRow3 (p : Nat → P3)  : Gives Try.prog 42 #[.agg (ptsC 16 p), .int .i64 (3)] (.agg (ptsC 4 (rowF p 3))) := by
  refine Gives.mk fun W => ?_
  have hP : Blk ((W.alloc (.cells (ptsC 16 p) 24)).alloc (.cells #[.int .i64 0, .int .i64 0, .int .i64 0, .int .i64 0, .int .i64 0, .int .i64 0, .int .i64 0, .int .i64 0, .int .i64 0, .int .i64 0, .int .i64 0, .int .i64 0] 26)) W.heap.size 24 (ptsC 16 p) := (Blk.new _ _ _ _ rfl).alloc _
  have hR : Blk ((W.alloc (.cells (ptsC 16 p) 24)).alloc (.cells #[.int .i64 0, .int .i64 0, .int .i64 0, .int .i64 0, .int .i64 0, .int .i64 0, .int .i64 0, .int .i64 0, .int .i64 0, .int .i64 0, .int .i64 0, .int .i64 0] 26)) (W.heap.size + 1) 26 #[.int .i64 0, .int .i64 0, .int .i64 0, .int .i64 0, .int .i64 0, .int .i64 0, .int .i64 0, .int .i64 0, .int .i64 0, .int .i64 0, .int .i64 0, .int .i64 0] := Blk.new _ _ _ _ (by simp)
  have hB : Below W.heap.size W ((W.alloc (.cells (ptsC 16 p) 24)).alloc (.cells #[.int .i64 0, .int .i64 0, .int .i64 0, .int .i64 0, .int .i64 0, .int .i64 0, .int .i64 0, .int .i64 0, .int .i64 0, .int .i64 0, .int .i64 0, .int .i64 0] 26)) := bel_alloc (bel_alloc (Below.refl _ _) _) _
  go_enter Try.func42, Try.ntmps42
  go_upto_region 1 with (fail)
  generalize ((W.alloc (.cells (ptsC 16 p) 24)).alloc (.cells #[.int .i64 0, .int .i64 0, .int .i64 0, .int .i64 0, .int .i64 0, .int .i64 0, .int .i64 0, .int .i64 0, .int .i64 0, .int .i64 0, .int .i64 0, .int .i64 0] 26)) = W1 at *
  replace hP := Lib.hid hP
  replace hR := Lib.hid hR
  replace hB := Lib.hid hB
  go_upto_region 9 with (fail)
  replace hP := hP.out
  replace hR := hR.out
  replace hB := hB.out
  have c0x : W1.cell? ⟨W.heap.size, 36, none⟩ = some (.int .i64 (p 12).x) := (ptsB hP (k := 12) (by omega)).1
  have c0y : W1.cell? ⟨W.heap.size, 37, none⟩ = some (.int .i64 (p 12).y) := (ptsB hP (k := 12) (by omega)).2.1
  have c0z : W1.cell? ⟨W.heap.size, 38, none⟩ = some (.int .i64 (p 12).z) := (ptsB hP (k := 12) (by omega)).2.2
  have c1x : W1.cell? ⟨W.heap.size, 24, none⟩ = some (.int .i64 (p 8).x) := (ptsB hP (k := 8) (by omega)).1
  have c1y : W1.cell? ⟨W.heap.size, 25, none⟩ = some (.int .i64 (p 8).y) := (ptsB hP (k := 8) (by omega)).2.1
  have c1z : W1.cell? ⟨W.heap.size, 26, none⟩ = some (.int .i64 (p 8).z) := (ptsB hP (k := 8) (by omega)).2.2
  have c2x : W1.cell? ⟨W.heap.size, 12, none⟩ = some (.int .i64 (p 4).x) := (ptsB hP (k := 4) (by omega)).1
  have c2y : W1.cell? ⟨W.heap.size, 13, none⟩ = some (.int .i64 (p 4).y) := (ptsB hP (k := 4) (by omega)).2.1
  have c2z : W1.cell? ⟨W.heap.size, 14, none⟩ = some (.int .i64 (p 4).z) := (ptsB hP (k := 4) (by omega)).2.2
  have c3x : W1.cell? ⟨W.heap.size, 0, none⟩ = some (.int .i64 (p 0).x) := (ptsB hP (k := 0) (by omega)).1
  have c3y : W1.cell? ⟨W.heap.size, 1, none⟩ = some (.int .i64 (p 0).y) := (ptsB hP (k := 0) (by omega)).2.1
  have c3z : W1.cell? ⟨W.heap.size, 2, none⟩ = some (.int .i64 (p 0).z) := (ptsB hP (k := 0) (by omega)).2.2
  have pl := hP.lt
  have r0 := hR.cell 0
  have f0 := hR.frozen 0
  have r1 := hR.cell 1
  have f1 := hR.frozen 1
  have r2 := hR.cell 2
  have f2 := hR.frozen 2
  have r3 := hR.cell 3
  have f3 := hR.frozen 3
  have r4 := hR.cell 4
  have f4 := hR.frozen 4
  have r5 := hR.cell 5
  have f5 := hR.frozen 5
  have r6 := hR.cell 6
  have f6 := hR.frozen 6
  have r7 := hR.cell 7
  have f7 := hR.frozen 7
  have r8 := hR.cell 8
  have f8 := hR.frozen 8
  have r9 := hR.cell 9
  have f9 := hR.frozen 9
  have r10 := hR.cell 10
  have f10 := hR.frozen 10
  have r11 := hR.cell 11
  have f11 := hR.frozen 11
  have rl := hR.lt
  have hR2 := ((((((((((((hR.set 0 (.int .i64 ((p 12).x))).set 1 (.int .i64 ((p 12).y))).set 2 (.int .i64 ((p 12).z))).set 3 (.int .i64 ((p 8).x))).set 4 (.int .i64 ((p 8).y))).set 5 (.int .i64 ((p 8).z))).set 6 (.int .i64 ((p 4).x))).set 7 (.int .i64 ((p 4).y))).set 8 (.int .i64 ((p 4).z))).set 9 (.int .i64 ((p 0).x))).set 10 (.int .i64 ((p 0).y))).set 11 (.int .i64 ((p 0).z)))
  have hB2 : Below W.heap.size W ((((((((((((W1.setCell ⟨W.heap.size + 1, 0, none⟩ (.int .i64 ((p 12).x))).setCell ⟨W.heap.size + 1, 1, none⟩ (.int .i64 ((p 12).y))).setCell ⟨W.heap.size + 1, 2, none⟩ (.int .i64 ((p 12).z))).setCell ⟨W.heap.size + 1, 3, none⟩ (.int .i64 ((p 8).x))).setCell ⟨W.heap.size + 1, 4, none⟩ (.int .i64 ((p 8).y))).setCell ⟨W.heap.size + 1, 5, none⟩ (.int .i64 ((p 8).z))).setCell ⟨W.heap.size + 1, 6, none⟩ (.int .i64 ((p 4).x))).setCell ⟨W.heap.size + 1, 7, none⟩ (.int .i64 ((p 4).y))).setCell ⟨W.heap.size + 1, 8, none⟩ (.int .i64 ((p 4).z))).setCell ⟨W.heap.size + 1, 9, none⟩ (.int .i64 ((p 0).x))).setCell ⟨W.heap.size + 1, 10, none⟩ (.int .i64 ((p 0).y))).setCell ⟨W.heap.size + 1, 11, none⟩ (.int .i64 ((p 0).z))) := (bel_set (bel_set (bel_set (bel_set (bel_set (bel_set (bel_set (bel_set (bel_set (bel_set (bel_set (bel_set hB (p := ⟨W.heap.size + 1, 0, none⟩) (by simp) (.int .i64 ((p 12).x))) (p := ⟨W.heap.size + 1, 1, none⟩) (by simp) (.int .i64 ((p 12).y))) (p := ⟨W.heap.size + 1, 2, none⟩) (by simp) (.int .i64 ((p 12).z))) (p := ⟨W.heap.size + 1, 3, none⟩) (by simp) (.int .i64 ((p 8).x))) (p := ⟨W.heap.size + 1, 4, none⟩) (by simp) (.int .i64 ((p 8).y))) (p := ⟨W.heap.size + 1, 5, none⟩) (by simp) (.int .i64 ((p 8).z))) (p := ⟨W.heap.size + 1, 6, none⟩) (by simp) (.int .i64 ((p 4).x))) (p := ⟨W.heap.size + 1, 7, none⟩) (by simp) (.int .i64 ((p 4).y))) (p := ⟨W.heap.size + 1, 8, none⟩) (by simp) (.int .i64 ((p 4).z))) (p := ⟨W.heap.size + 1, 9, none⟩) (by simp) (.int .i64 ((p 0).x))) (p := ⟨W.heap.size + 1, 10, none⟩) (by simp) (.int .i64 ((p 0).y))) (p := ⟨W.heap.size + 1, 11, none⟩) (by simp) (.int .i64 ((p 0).z)))
  clear hP hR hB
  replace hR2 := Lib.hid hR2
  replace hB2 := Lib.hid hB2
  go_wp2
  replace hR2 := hR2.out
  replace hB2 := hB2.out
  generalize ((((((((((((W1.setCell ⟨W.heap.size + 1, 0, none⟩ (.int .i64 ((p 12).x))).setCell ⟨W.heap.size + 1, 1, none⟩ (.int .i64 ((p 12).y))).setCell ⟨W.heap.size + 1, 2, none⟩ (.int .i64 ((p 12).z))).setCell ⟨W.heap.size + 1, 3, none⟩ (.int .i64 ((p 8).x))).setCell ⟨W.heap.size + 1, 4, none⟩ (.int .i64 ((p 8).y))).setCell ⟨W.heap.size + 1, 5, none⟩ (.int .i64 ((p 8).z))).setCell ⟨W.heap.size + 1, 6, none⟩ (.int .i64 ((p 4).x))).setCell ⟨W.heap.size + 1, 7, none⟩ (.int .i64 ((p 4).y))).setCell ⟨W.heap.size + 1, 8, none⟩ (.int .i64 ((p 4).z))).setCell ⟨W.heap.size + 1, 9, none⟩ (.int .i64 ((p 0).x))).setCell ⟨W.heap.size + 1, 10, none⟩ (.int .i64 ((p 0).y))).setCell ⟨W.heap.size + 1, 11, none⟩ (.int .i64 ((p 0).z))) = WE at *
  have w0 := hR2.cell
  refine bodyPost_ret (v := .agg #[.int .i64 ((p 12).x), .int .i64 ((p 12).y), .int .i64 ((p 12).z), .int .i64 ((p 8).x), .int .i64 ((p 8).y), .int .i64 ((p 8).z), .int .i64 ((p 4).x), .int .i64 ((p 4).y), .int .i64 ((p 4).z), .int .i64 ((p 0).x), .int .i64 ((p 0).y), .int .i64 ((p 0).z)]) (by simp [results, Try.results42, go_sem, w0]) rfl ⟨rfl, hB2⟩
set_option maxHeartbeats 4000000 in
theorem vRowN (p : Nat → P3) (s : Int) (h0 : s ≠ 0) (h1 : s ≠ 1) (h2 : s ≠ 2) (h3 : s ≠ 3) : Gives Try.prog 42 #[.agg (ptsC 16 p), .int .i64 s] (.agg (ptsC 4 (rowF p s))) := by
  have e : rowF p s = fun _ => N3 := by funext k; unfold rowF; rw [if_neg h0, if_neg h1, if_neg h2, if_neg h3]
  rw [e, ptsC4]
  simp only [N3]
  refine Gives.mk fun W => ?_
  have hP : Blk ((W.alloc (.cells (ptsC 16 p) 24)).alloc (.cells #[.int .i64 0, .int .i64 0, .int .i64 0, .int .i64 0, .int .i64 0, .int .i64 0, .int .i64 0, .int .i64 0, .int .i64 0, .int .i64 0, .int .i64 0, .int .i64 0] 26)) W.heap.size 24 (ptsC 16 p) := (Blk.new _ _ _ _ rfl).alloc _
  have hR : Blk ((W.alloc (.cells (ptsC 16 p) 24)).alloc (.cells #[.int .i64 0, .int .i64 0, .int .i64 0, .int .i64 0, .int .i64 0, .int .i64 0, .int .i64 0, .int .i64 0, .int .i64 0, .int .i64 0, .int .i64 0, .int .i64 0] 26)) (W.heap.size + 1) 26 #[.int .i64 0, .int .i64 0, .int .i64 0, .int .i64 0, .int .i64 0, .int .i64 0, .int .i64 0, .int .i64 0, .int .i64 0, .int .i64 0, .int .i64 0, .int .i64 0] := Blk.new _ _ _ _ (by simp)
  have hB : Below W.heap.size W ((W.alloc (.cells (ptsC 16 p) 24)).alloc (.cells #[.int .i64 0, .int .i64 0, .int .i64 0, .int .i64 0, .int .i64 0, .int .i64 0, .int .i64 0, .int .i64 0, .int .i64 0, .int .i64 0, .int .i64 0, .int .i64 0] 26)) := bel_alloc (bel_alloc (Below.refl _ _) _) _
  go_enter Try.func42, Try.ntmps42
  go_upto_region 1 with (fail)
  generalize ((W.alloc (.cells (ptsC 16 p) 24)).alloc (.cells #[.int .i64 0, .int .i64 0, .int .i64 0, .int .i64 0, .int .i64 0, .int .i64 0, .int .i64 0, .int .i64 0, .int .i64 0, .int .i64 0, .int .i64 0, .int .i64 0] 26)) = W1 at *
  replace hP := Lib.hid hP
  replace hR := Lib.hid hR
  replace hB := Lib.hid hB
  go_upto_region 10 with (fail)
  replace hP := hP.out
  replace hR := hR.out
  replace hB := hB.out
  have pl := hP.lt
  have r0 := hR.cell 0
  have f0 := hR.frozen 0
  have r1 := hR.cell 1
  have f1 := hR.frozen 1
  have r2 := hR.cell 2
  have f2 := hR.frozen 2
  have r3 := hR.cell 3
  have f3 := hR.frozen 3
  have r4 := hR.cell 4
  have f4 := hR.frozen 4
  have r5 := hR.cell 5
  have f5 := hR.frozen 5
  have r6 := hR.cell 6
  have f6 := hR.frozen 6
  have r7 := hR.cell 7
  have f7 := hR.frozen 7
  have r8 := hR.cell 8
  have f8 := hR.frozen 8
  have r9 := hR.cell 9
  have f9 := hR.frozen 9
  have r10 := hR.cell 10
  have f10 := hR.frozen 10
  have r11 := hR.cell 11
  have f11 := hR.frozen 11
  have rl := hR.lt
  have hR2 := ((((((((((((hR.set 0 (.int .i64 (0))).set 1 (.int .i64 (0))).set 2 (.int .i64 (0))).set 3 (.int .i64 (0))).set 4 (.int .i64 (0))).set 5 (.int .i64 (0))).set 6 (.int .i64 (0))).set 7 (.int .i64 (0))).set 8 (.int .i64 (0))).set 9 (.int .i64 (0))).set 10 (.int .i64 (0))).set 11 (.int .i64 (0)))
  have hB2 : Below W.heap.size W ((((((((((((W1.setCell ⟨W.heap.size + 1, 0, none⟩ (.int .i64 (0))).setCell ⟨W.heap.size + 1, 1, none⟩ (.int .i64 (0))).setCell ⟨W.heap.size + 1, 2, none⟩ (.int .i64 (0))).setCell ⟨W.heap.size + 1, 3, none⟩ (.int .i64 (0))).setCell ⟨W.heap.size + 1, 4, none⟩ (.int .i64 (0))).setCell ⟨W.heap.size + 1, 5, none⟩ (.int .i64 (0))).setCell ⟨W.heap.size + 1, 6, none⟩ (.int .i64 (0))).setCell ⟨W.heap.size + 1, 7, none⟩ (.int .i64 (0))).setCell ⟨W.heap.size + 1, 8, none⟩ (.int .i64 (0))).setCell ⟨W.heap.size + 1, 9, none⟩ (.int .i64 (0))).setCell ⟨W.heap.size + 1, 10, none⟩ (.int .i64 (0))).setCell ⟨W.heap.size + 1, 11, none⟩ (.int .i64 (0))) := (bel_set (bel_set (bel_set (bel_set (bel_set (bel_set (bel_set (bel_set (bel_set (bel_set (bel_set (bel_set hB (p := ⟨W.heap.size + 1, 0, none⟩) (by simp) (.int .i64 (0))) (p := ⟨W.heap.size + 1, 1, none⟩) (by simp) (.int .i64 (0))) (p := ⟨W.heap.size + 1, 2, none⟩) (by simp) (.int .i64 (0))) (p := ⟨W.heap.size + 1, 3, none⟩) (by simp) (.int .i64 (0))) (p := ⟨W.heap.size + 1, 4, none⟩) (by simp) (.int .i64 (0))) (p := ⟨W.heap.size + 1, 5, none⟩) (by simp) (.int .i64 (0))) (p := ⟨W.heap.size + 1, 6, none⟩) (by simp) (.int .i64 (0))) (p := ⟨W.heap.size + 1, 7, none⟩) (by simp) (.int .i64 (0))) (p := ⟨W.heap.size + 1, 8, none⟩) (by simp) (.int .i64 (0))) (p := ⟨W.heap.size + 1, 9, none⟩) (by simp) (.int .i64 (0))) (p := ⟨W.heap.size + 1, 10, none⟩) (by simp) (.int .i64 (0))) (p := ⟨W.heap.size + 1, 11, none⟩) (by simp) (.int .i64 (0)))
  clear hP hR hB
  replace hR2 := Lib.hid hR2
  replace hB2 := Lib.hid hB2
  go_wp2
  replace hR2 := hR2.out
  replace hB2 := hB2.out
  generalize ((((((((((((W1.setCell ⟨W.heap.size + 1, 0, none⟩ (.int .i64 (0))).setCell ⟨W.heap.size + 1, 1, none⟩ (.int .i64 (0))).setCell ⟨W.heap.size + 1, 2, none⟩ (.int .i64 (0))).setCell ⟨W.heap.size + 1, 3, none⟩ (.int .i64 (0))).setCell ⟨W.heap.size + 1, 4, none⟩ (.int .i64 (0))).setCell ⟨W.heap.size + 1, 5, none⟩ (.int .i64 (0))).setCell ⟨W.heap.size + 1, 6, none⟩ (.int .i64 (0))).setCell ⟨W.heap.size + 1, 7, none⟩ (.int .i64 (0))).setCell ⟨W.heap.size + 1, 8, none⟩ (.int .i64 (0))).setCell ⟨W.heap.size + 1, 9, none⟩ (.int .i64 (0))).setCell ⟨W.heap.size + 1, 10, none⟩ (.int .i64 (0))).setCell ⟨W.heap.size + 1, 11, none⟩ (.int .i64 (0))) = WE at *
  have w0 := hR2.cell
  refine bodyPost_ret (v := .agg #[.int .i64 (0), .int .i64 (0), .int .i64 (0), .int .i64 (0), .int .i64 (0), .int .i64 (0), .int .i64 (0), .int .i64 (0), .int .i64 (0), .int .i64 (0), .int .i64 (0), .int .i64 (0)]) (by simp [results, Try.results42, go_sem, w0]) rfl ⟨rfl, hB2⟩
theorem vRow_any (p : Nat → P3) (s : Int) : Gives Try.prog 42 #[.agg (ptsC 16 p), .int .i64 s] (.agg (ptsC 4 (rowF p s))) := by
  by_cases h0 : s = 0
  · subst h0; exact vRow0 p
  by_cases h1 : s = 1
  · subst h1; exact vRow1 p
  by_cases h2 : s = 2
  · subst h2; exact vRow2 p
  by_cases h3 : s = 3
  · subst h3; exact vRow3 p
  exact vRowN p s h0 h1 h2 h3
end Go.Proofs.Ytpaehkjnefgaiaa
namespace Go.Proofs.Ytpaehkjnefgaiaa
set_option linter.unusedVariables false
set_option linter.unusedSimpArgs false
set_option linter.unnecessarySimpa false
def sz (z : Int) : Int := max z (-z)
theorem sz_pos (z : Int) : 0 ≤ sz z := by unfold sz; omega
def stpR (v : P3) : Int := sz v.x + sz v.y + sz v.z
theorem stp_pos (v : P3) : 0 ≤ stpR v := by
  unfold stpR
  have := sz_pos v.x
  have := sz_pos v.y
  have := sz_pos v.z
  omega
theorem stp_le {v : P3} (h : InP 131072 v) : stpR v ≤ 393216 := by
  obtain ⟨h1, h2, h3⟩ := h
  have : sz v.x ≤ 131072 := by unfold sz; omega
  have : sz v.y ≤ 131072 := by unfold sz; omega
  have : sz v.z ≤ 131072 := by unfold sz; omega
  unfold stpR; omega
def lenU (p : Nat → P3) : Nat → Int
  | 0 => 0
  | k + 1 => lenU p k + stpR (sb (p (k + 1)) (p k))
theorem sb_wi {a b : P3} (ha : wi a = true) (hb : wi b = true) : InP 131072 (sb a b) := by
  have h1 := (wiB_iff _ _ _ _).1 ha
  have h2 := (wiB_iff _ _ _ _).1 hb
  refine ⟨?_, ?_, ?_⟩ <;> (unfold sb; simp only []; omega)
theorem lenU_bd {p : Nat → P3} {n : Nat} (h : okB p n = true) : ∀ k, k < n → 0 ≤ lenU p k ∧ lenU p k ≤ 393216 * (k : Int)
  | 0, _ => by simp [lenU]
  | k + 1, hk => by
    have i := lenU_bd h k (by omega)
    have s := stp_le (sb_wi (okB_all.1 h (k + 1) hk) (okB_all.1 h k (by omega)))
    have s0 := stp_pos (sb (p (k + 1)) (p k))
    rw [lenU]
    omega
def lenF (p : Nat → P3) : Int := lenU p 3
theorem lenF_eq (p : Nat → P3) : lenF p = stpR (sb (p 1) (p 0)) + stpR (sb (p 2) (p 1)) + stpR (sb (p 3) (p 2)) := by
  show 0 + stpR (sb (p 1) (p 0)) + stpR (sb (p 2) (p 1)) + stpR (sb (p 3) (p 2)) = _
  omega
theorem lenF_bd {p : Nat → P3} (h : okB p 4 = true) : 0 ≤ lenF p ∧ lenF p ≤ 1179648 := by
  have := lenU_bd h 3 (by omega)
  unfold lenF
  omega
def lenK (p : Nat → P3) : Int := if okB p 4 then lenF p else 0
def edF (n u : Int) : Int := min (1 + n / u) 16
def edK (p : Nat → P3) (u : Int) : Int := if okB p 4 = true ∧ 1 ≤ u then edF (lenF p) u else 0
def prR (a b c d : P3) (k : Nat) : P3 := if k = 0 then a else if k = 1 then b else if k = 2 then c else d
theorem okB4 (p : Nat → P3) : okB p 4 = (wi (p 0) && wi (p 1) && wi (p 2) && wi (p 3)) := by simp [okB]
theorem edF_bd {n u : Int} (hn : 0 ≤ n) (hu : 1 ≤ u) : 1 ≤ edF n u ∧ edF n u ≤ 16 := by
  have : 0 ≤ n / u := Int.ediv_nonneg hn (by omega)
  unfold edF
  omega
end Go.Proofs.Ytpaehkjnefgaiaa
namespace Go.Proofs.Ytpaehkjnefgaiaa
open Go.RowKit
set_option linter.unusedVariables false
set_option linter.unusedSimpArgs false
set_option linter.unnecessarySimpa false
set_option maxRecDepth 100000
theorem vSub_sm (a b : P3) (h : InP 131072 (sb a b)) : Gives Try.prog 34 #[.agg #[.int .i64 a.x, .int .i64 a.y, .int .i64 a.z], .agg #[.int .i64 b.x, .int .i64 b.y, .int .i64 b.z]] (.agg #[.int .i64 (sb a b).x, .int .i64 (sb a b).y, .int .i64 (sb a b).z]) := by
  have k := vSub_any a.x a.y a.z b.x b.y b.z
  obtain ⟨h1, h2, h3⟩ := h
  unfold sb at h1 h2 h3
  simp only [] at h1 h2 h3
  rw [show wrap64 (a.x - b.x) = (sb a b).x from wrap_id (by omega) (by omega), show wrap64 (a.y - b.y) = (sb a b).y from wrap_id (by omega) (by omega), show wrap64 (a.z - b.z) = (sb a b).z from wrap_id (by omega) (by omega)] at k
  exact k
theorem steps_any (v : P3) (h : InP 131072 v) : Gives Try.prog 76 #[.agg #[.int .i64 v.x, .int .i64 v.y, .int .i64 v.z]] (.int .i64 (stpR v)) := by
  obtain ⟨h1, h2, h3⟩ := h
  refine Gives.mk fun w => ?_
  go_enter Try.func76, Try.ntmps76
  go_wp2
  go_ret
  exact ⟨rfl, (by repeat (first | exact Below.refl _ _ | refine bel_then ?_ _ | refine bel_grow ?_ _ | refine bel_alloc ?_ _ | refine bel_drew ?_ | refine bel_set ?_ (by simp) _ | refine bel_setRow ?_ (by first | omega | (simp; done) | (refine Nat.le_trans ?_ (top_le _ _); simp; done) | (refine Nat.le_succ_of_le (Nat.le_trans ?_ (top_le _ _)); simp; done) | (refine Nat.le_trans ?_ (top_le _ _); simp only [World.size_alloc]; refine Nat.le_succ_of_le (Nat.le_trans ?_ (top_le _ _)); simp; done)) _))⟩
theorem st_bd {a b : P3} (ha : wi a = true) (hb : wi b = true) : 0 ≤ stpR (sb a b) ∧ stpR (sb a b) ≤ 393216 := ⟨stp_pos _, stp_le (sb_wi ha hb)⟩
theorem lenK_lit (a b c d : P3) (h : (wi a && wi b && wi c && wi d) = true) : lenK (prR a b c d) = stpR (sb b a) + stpR (sb c b) + stpR (sb d c) := by
  unfold lenK
  rw [okB4, lenF_eq]
  exact if_pos h
theorem lenK_not (a b c d : P3) (h : (wi a && wi b && wi c && wi d) = false) : lenK (prR a b c d) = 0 := by
  unfold lenK
  rw [okB4]
  exact if_neg (by intro e; have e' : (wi a && wi b && wi c && wi d) = true := e; rw [h] at e'; cases e')
set_option maxHeartbeats 4000000 in
theorem length_lit (a b c d : P3) : Gives Try.prog 65 #[.agg #[.int .i64 a.x, .int .i64 a.y, .int .i64 a.z, .int .i64 b.x, .int .i64 b.y, .int .i64 b.z, .int .i64 c.x, .int .i64 c.y, .int .i64 c.z, .int .i64 d.x, .int .i64 d.y, .int .i64 d.z]] (.tuple #[.int .i64 (lenK (prR a b c d)), .bool (wi a && wi b && wi c && wi d)]) := by
  have hy := lenK_lit a b c d
  have hn := lenK_not a b c d
  generalize lenK (prR a b c d) = LL at *
  obtain ⟨ob, hob⟩ : ∃ o, o = (wi a && wi b && wi c && wi d) := ⟨_, rfl⟩
  rw [← hob] at hy hn ⊢
  replace hob := Lib.hid hob
  replace hy := Lib.hid hy
  replace hn := Lib.hid hn
  refine Gives.mk fun w => ?_
  have hP0 : Blk (w.alloc (.cells #[.int .i64 a.x, .int .i64 a.y, .int .i64 a.z, .int .i64 b.x, .int .i64 b.y, .int .i64 b.z, .int .i64 c.x, .int .i64 c.y, .int .i64 c.z, .int .i64 d.x, .int .i64 d.y, .int .i64 d.z] 26)) w.heap.size 26 #[.int .i64 a.x, .int .i64 a.y, .int .i64 a.z, .int .i64 b.x, .int .i64 b.y, .int .i64 b.z, .int .i64 c.x, .int .i64 c.y, .int .i64 c.z, .int .i64 d.x, .int .i64 d.y, .int .i64 d.z] := Blk.new _ _ _ _ rfl
  have hB0 : Below w.heap.size w (w.alloc (.cells #[.int .i64 a.x, .int .i64 a.y, .int .i64 a.z, .int .i64 b.x, .int .i64 b.y, .int .i64 b.z, .int .i64 c.x, .int .i64 c.y, .int .i64 c.z, .int .i64 d.x, .int .i64 d.y, .int .i64 d.z] 26)) := bel_alloc (Below.refl _ _) _
  go_enter Try.func65, Try.ntmps65
  go_upto_region 1 with (fail)
  generalize (w.alloc (.cells #[.int .i64 a.x, .int .i64 a.y, .int .i64 a.z, .int .i64 b.x, .int .i64 b.y, .int .i64 b.z, .int .i64 c.x, .int .i64 c.y, .int .i64 c.z, .int .i64 d.x, .int .i64 d.y, .int .i64 d.z] 26)) = W0 at *
  have pl := hP0.lt
  have c0 := hP0.cell 0
  have c1 := hP0.cell 1
  have c2 := hP0.cell 2
  have c3 := hP0.cell 3
  have c4 := hP0.cell 4
  have c5 := hP0.cell 5
  have c6 := hP0.cell 6
  have c7 := hP0.cell 7
  have c8 := hP0.cell 8
  have c9 := hP0.cell 9
  have c10 := hP0.cell 10
  have c11 := hP0.cell 11
  go_wp2
  clear pl c0 c1 c2 c3 c4 c5 c6 c7 c8 c9 c10 c11
  go_loopw [9] (fun iv wr => Below w.heap.size w wr ∧ Blk wr w.heap.size 26 #[.int .i64 a.x, .int .i64 a.y, .int .i64 a.z, .int .i64 b.x, .int .i64 b.y, .int .i64 b.z, .int .i64 c.x, .int .i64 c.y, .int .i64 c.z, .int .i64 d.x, .int .i64 d.y, .int .i64 d.z] ∧ ((iv = .int .i64 0) ∨ (iv = .int .i64 1 ∧ (wi a = true)) ∨ (iv = .int .i64 2 ∧ (wi a = true ∧ wi b = true)) ∨ (iv = .int .i64 3 ∧ (wi a = true ∧ wi b = true ∧ wi c = true)) ∨ (iv = .int .i64 4 ∧ (wi a = true ∧ wi b = true ∧ wi c = true ∧ wi d = true)))) (fun iv _ => 4 - (intOf iv).toNat)
  case atStart => exact ⟨hB0, hP0, .inl rfl⟩
  case round =>
    obtain ⟨hBr, hPr, hi⟩ := hrel
    clear hB0 hP0
    rename World => wr
    rcases hi with rfl | ⟨rfl, w0⟩ | ⟨rfl, w0, w1⟩ | ⟨rfl, w0, w1, w2⟩ | ⟨rfl, w0, w1, w2, w3⟩
    · have kw := vWithin_G a
      have pl := hPr.lt
      have c0 : wr.cell? ⟨w.heap.size, 0, none⟩ = some (.int .i64 a.x) := hPr.cell 0
      have c1 : wr.cell? ⟨w.heap.size, 1, none⟩ = some (.int .i64 a.y) := hPr.cell 1
      have c2 : wr.cell? ⟨w.heap.size, 2, none⟩ = some (.int .i64 a.z) := hPr.cell 2
      rcases Bool.eq_false_or_eq_true (wi a) with hw | hw
      rotate_left
      · rw [hw] at kw
        obtain rfl : ob = false := by rw [hob.out, hw]; simp
        obtain rfl := hn.out rfl
        replace hw := trivial
        go_upto_region 3 with (fail)
        refine wp_region_lit ?_
        refine wpList_val rfl (.agg #[.int .i64 a.x, .int .i64 a.y, .int .i64 a.z]) wr (by kernel_rfl) ?_
        simp only [Act.put, List.setIfInBounds_toArray, List.set_cons_succ, List.set_cons_zero]
        go_wp2_with (first | (go_at_call 19; (with_reducible refine (kw.at_ _).mono ?_); rintro e w' ⟨rfl, xg, rfl⟩) | fail)
        go_ret2
        exact ⟨rfl, bel_trans hBr (by repeat (first | exact Below.refl _ _ | refine bel_then ?_ _ | refine bel_grow ?_ _ | refine bel_alloc ?_ _ | refine bel_drew ?_ | refine bel_set ?_ (by simp) _ | refine bel_setRow ?_ (by first | omega | (simp; done) | (refine Nat.le_trans ?_ (top_le _ _); simp; done) | (refine Nat.le_succ_of_le (Nat.le_trans ?_ (top_le _ _)); simp; done) | (refine Nat.le_trans ?_ (top_le _ _); simp only [World.size_alloc]; refine Nat.le_succ_of_le (Nat.le_trans ?_ (top_le _ _)); simp; done)) _))⟩
      · rw [hw] at kw
        replace hw := Lib.hid hw
        go_upto_region 3 with (fail)
        refine wp_region_lit ?_
        refine wpList_val rfl (.agg #[.int .i64 a.x, .int .i64 a.y, .int .i64 a.z]) wr (by kernel_rfl) ?_
        simp only [Act.put, List.setIfInBounds_toArray, List.set_cons_succ, List.set_cons_zero]
        go_wp2_with (first | (go_at_call 19; (with_reducible refine (kw.at_ _).mono ?_); rintro e w' ⟨rfl, xg, rfl⟩) | fail)
        go_roundw
        case rel => exact ⟨bel_trans hBr (by repeat (first | exact Below.refl _ _ | refine bel_then ?_ _ | refine bel_grow ?_ _ | refine bel_alloc ?_ _ | refine bel_drew ?_ | refine bel_set ?_ (by simp) _ | refine bel_setRow ?_ (by first | omega | (simp; done) | (refine Nat.le_trans ?_ (top_le _ _); simp; done) | (refine Nat.le_succ_of_le (Nat.le_trans ?_ (top_le _ _)); simp; done) | (refine Nat.le_trans ?_ (top_le _ _); simp only [World.size_alloc]; refine Nat.le_succ_of_le (Nat.le_trans ?_ (top_le _ _)); simp; done)) _)), (hPr.below (by repeat (first | exact Below.refl _ _ | refine bel_then ?_ _ | refine bel_grow ?_ _ | refine bel_alloc ?_ _ | refine bel_drew ?_ | refine bel_set ?_ (by simp) _ | refine bel_setRow ?_ (by first | omega | (simp; done) | (refine Nat.le_trans ?_ (top_le _ _); simp; done) | (refine Nat.le_succ_of_le (Nat.le_trans ?_ (top_le _ _)); simp; done) | (refine Nat.le_trans ?_ (top_le _ _); simp only [World.size_alloc]; refine Nat.le_succ_of_le (Nat.le_trans ?_ (top_le _ _)); simp; done)) _))), .inr (.inl ⟨rfl, hw.out⟩)⟩
        case measure => simp [intOf]
    · have kw := vWithin_G b
      replace w0 := Lib.hid w0
      have pl := hPr.lt
      have c0 : wr.cell? ⟨w.heap.size, 3, none⟩ = some (.int .i64 b.x) := hPr.cell 3
      have c1 : wr.cell? ⟨w.heap.size, 4, none⟩ = some (.int .i64 b.y) := hPr.cell 4
      have c2 : wr.cell? ⟨w.heap.size, 5, none⟩ = some (.int .i64 b.z) := hPr.cell 5
      rcases Bool.eq_false_or_eq_true (wi b) with hw | hw
      rotate_left
      · rw [hw] at kw
        obtain rfl : ob = false := by rw [hob.out, hw]; simp
        obtain rfl := hn.out rfl
        replace hw := trivial
        go_upto_region 3 with (fail)
        refine wp_region_lit ?_
        refine wpList_val rfl (.agg #[.int .i64 b.x, .int .i64 b.y, .int .i64 b.z]) wr (by kernel_rfl) ?_
        simp only [Act.put, List.setIfInBounds_toArray, List.set_cons_succ, List.set_cons_zero]
        go_wp2_with (first | (go_at_call 19; (with_reducible refine (kw.at_ _).mono ?_); rintro e w' ⟨rfl, xg, rfl⟩) | fail)
        go_ret2
        exact ⟨rfl, bel_trans hBr (by repeat (first | exact Below.refl _ _ | refine bel_then ?_ _ | refine bel_grow ?_ _ | refine bel_alloc ?_ _ | refine bel_drew ?_ | refine bel_set ?_ (by simp) _ | refine bel_setRow ?_ (by first | omega | (simp; done) | (refine Nat.le_trans ?_ (top_le _ _); simp; done) | (refine Nat.le_succ_of_le (Nat.le_trans ?_ (top_le _ _)); simp; done) | (refine Nat.le_trans ?_ (top_le _ _); simp only [World.size_alloc]; refine Nat.le_succ_of_le (Nat.le_trans ?_ (top_le _ _)); simp; done)) _))⟩
      · rw [hw] at kw
        replace hw := Lib.hid hw
        go_upto_region 3 with (fail)
        refine wp_region_lit ?_
        refine wpList_val rfl (.agg #[.int .i64 b.x, .int .i64 b.y, .int .i64 b.z]) wr (by kernel_rfl) ?_
        simp only [Act.put, List.setIfInBounds_toArray, List.set_cons_succ, List.set_cons_zero]
        go_wp2_with (first | (go_at_call 19; (with_reducible refine (kw.at_ _).mono ?_); rintro e w' ⟨rfl, xg, rfl⟩) | fail)
        go_roundw
        case rel => exact ⟨bel_trans hBr (by repeat (first | exact Below.refl _ _ | refine bel_then ?_ _ | refine bel_grow ?_ _ | refine bel_alloc ?_ _ | refine bel_drew ?_ | refine bel_set ?_ (by simp) _ | refine bel_setRow ?_ (by first | omega | (simp; done) | (refine Nat.le_trans ?_ (top_le _ _); simp; done) | (refine Nat.le_succ_of_le (Nat.le_trans ?_ (top_le _ _)); simp; done) | (refine Nat.le_trans ?_ (top_le _ _); simp only [World.size_alloc]; refine Nat.le_succ_of_le (Nat.le_trans ?_ (top_le _ _)); simp; done)) _)), (hPr.below (by repeat (first | exact Below.refl _ _ | refine bel_then ?_ _ | refine bel_grow ?_ _ | refine bel_alloc ?_ _ | refine bel_drew ?_ | refine bel_set ?_ (by simp) _ | refine bel_setRow ?_ (by first | omega | (simp; done) | (refine Nat.le_trans ?_ (top_le _ _); simp; done) | (refine Nat.le_succ_of_le (Nat.le_trans ?_ (top_le _ _)); simp; done) | (refine Nat.le_trans ?_ (top_le _ _); simp only [World.size_alloc]; refine Nat.le_succ_of_le (Nat.le_trans ?_ (top_le _ _)); simp; done)) _))), .inr (.inr (.inl ⟨rfl, w0.out, hw.out⟩))⟩
        case measure => simp [intOf]
    · have kw := vWithin_G c
      replace w0 := Lib.hid w0
      replace w1 := Lib.hid w1
      have pl := hPr.lt
      have c0 : wr.cell? ⟨w.heap.size, 6, none⟩ = some (.int .i64 c.x) := hPr.cell 6
      have c1 : wr.cell? ⟨w.heap.size, 7, none⟩ = some (.int .i64 c.y) := hPr.cell 7
      have c2 : wr.cell? ⟨w.heap.size, 8, none⟩ = some (.int .i64 c.z) := hPr.cell 8
      rcases Bool.eq_false_or_eq_true (wi c) with hw | hw
      rotate_left
      · rw [hw] at kw
        obtain rfl : ob = false := by rw [hob.out, hw]; simp
        obtain rfl := hn.out rfl
        replace hw := trivial
        go_upto_region 3 with (fail)
        refine wp_region_lit ?_
        refine wpList_val rfl (.agg #[.int .i64 c.x, .int .i64 c.y, .int .i64 c.z]) wr (by kernel_rfl) ?_
        simp only [Act.put, List.setIfInBounds_toArray, List.set_cons_succ, List.set_cons_zero]
        go_wp2_with (first | (go_at_call 19; (with_reducible refine (kw.at_ _).mono ?_); rintro e w' ⟨rfl, xg, rfl⟩) | fail)
        go_ret2
        exact ⟨rfl, bel_trans hBr (by repeat (first | exact Below.refl _ _ | refine bel_then ?_ _ | refine bel_grow ?_ _ | refine bel_alloc ?_ _ | refine bel_drew ?_ | refine bel_set ?_ (by simp) _ | refine bel_setRow ?_ (by first | omega | (simp; done) | (refine Nat.le_trans ?_ (top_le _ _); simp; done) | (refine Nat.le_succ_of_le (Nat.le_trans ?_ (top_le _ _)); simp; done) | (refine Nat.le_trans ?_ (top_le _ _); simp only [World.size_alloc]; refine Nat.le_succ_of_le (Nat.le_trans ?_ (top_le _ _)); simp; done)) _))⟩
      · rw [hw] at kw
        replace hw := Lib.hid hw
        go_upto_region 3 with (fail)
        refine wp_region_lit ?_
        refine wpList_val rfl (.agg #[.int .i64 c.x, .int .i64 c.y, .int .i64 c.z]) wr (by kernel_rfl) ?_
        simp only [Act.put, List.setIfInBounds_toArray, List.set_cons_succ, List.set_cons_zero]
        go_wp2_with (first | (go_at_call 19; (with_reducible refine (kw.at_ _).mono ?_); rintro e w' ⟨rfl, xg, rfl⟩) | fail)
        go_roundw
        case rel => exact ⟨bel_trans hBr (by repeat (first | exact Below.refl _ _ | refine bel_then ?_ _ | refine bel_grow ?_ _ | refine bel_alloc ?_ _ | refine bel_drew ?_ | refine bel_set ?_ (by simp) _ | refine bel_setRow ?_ (by first | omega | (simp; done) | (refine Nat.le_trans ?_ (top_le _ _); simp; done) | (refine Nat.le_succ_of_le (Nat.le_trans ?_ (top_le _ _)); simp; done) | (refine Nat.le_trans ?_ (top_le _ _); simp only [World.size_alloc]; refine Nat.le_succ_of_le (Nat.le_trans ?_ (top_le _ _)); simp; done)) _)), (hPr.below (by repeat (first | exact Below.refl _ _ | refine bel_then ?_ _ | refine bel_grow ?_ _ | refine bel_alloc ?_ _ | refine bel_drew ?_ | refine bel_set ?_ (by simp) _ | refine bel_setRow ?_ (by first | omega | (simp; done) | (refine Nat.le_trans ?_ (top_le _ _); simp; done) | (refine Nat.le_succ_of_le (Nat.le_trans ?_ (top_le _ _)); simp; done) | (refine Nat.le_trans ?_ (top_le _ _); simp only [World.size_alloc]; refine Nat.le_succ_of_le (Nat.le_trans ?_ (top_le _ _)); simp; done)) _))), .inr (.inr (.inr (.inl ⟨rfl, w0.out, w1.out, hw.out⟩)))⟩
        case measure => simp [intOf]
    · have kw := vWithin_G d
      replace w0 := Lib.hid w0
      replace w1 := Lib.hid w1
      replace w2 := Lib.hid w2
      have pl := hPr.lt
      have c0 : wr.cell? ⟨w.heap.size, 9, none⟩ = some (.int .i64 d.x) := hPr.cell 9
      have c1 : wr.cell? ⟨w.heap.size, 10, none⟩ = some (.int .i64 d.y) := hPr.cell 10
      have c2 : wr.cell? ⟨w.heap.size, 11, none⟩ = some (.int .i64 d.z) := hPr.cell 11
      rcases Bool.eq_false_or_eq_true (wi d) with hw | hw
      rotate_left
      · rw [hw] at kw
        obtain rfl : ob = false := by rw [hob.out, hw]; simp
        obtain rfl := hn.out rfl
        replace hw := trivial
        go_upto_region 3 with (fail)
        refine wp_region_lit ?_
        refine wpList_val rfl (.agg #[.int .i64 d.x, .int .i64 d.y, .int .i64 d.z]) wr (by kernel_rfl) ?_
        simp only [Act.put, List.setIfInBounds_toArray, List.set_cons_succ, List.set_cons_zero]
        go_wp2_with (first | (go_at_call 19; (with_reducible refine (kw.at_ _).mono ?_); rintro e w' ⟨rfl, xg, rfl⟩) | fail)
        go_ret2
        exact ⟨rfl, bel_trans hBr (by repeat (first | exact Below.refl _ _ | refine bel_then ?_ _ | refine bel_grow ?_ _ | refine bel_alloc ?_ _ | refine bel_drew ?_ | refine bel_set ?_ (by simp) _ | refine bel_setRow ?_ (by first | omega | (simp; done) | (refine Nat.le_trans ?_ (top_le _ _); simp; done) | (refine Nat.le_succ_of_le (Nat.le_trans ?_ (top_le _ _)); simp; done) | (refine Nat.le_trans ?_ (top_le _ _); simp only [World.size_alloc]; refine Nat.le_succ_of_le (Nat.le_trans ?_ (top_le _ _)); simp; done)) _))⟩
      · rw [hw] at kw
        replace hw := Lib.hid hw
        go_upto_region 3 with (fail)
        refine wp_region_lit ?_
        refine wpList_val rfl (.agg #[.int .i64 d.x, .int .i64 d.y, .int .i64 d.z]) wr (by kernel_rfl) ?_
        simp only [Act.put, List.setIfInBounds_toArray, List.set_cons_succ, List.set_cons_zero]
        go_wp2_with (first | (go_at_call 19; (with_reducible refine (kw.at_ _).mono ?_); rintro e w' ⟨rfl, xg, rfl⟩) | fail)
        go_roundw
        case rel => exact ⟨bel_trans hBr (by repeat (first | exact Below.refl _ _ | refine bel_then ?_ _ | refine bel_grow ?_ _ | refine bel_alloc ?_ _ | refine bel_drew ?_ | refine bel_set ?_ (by simp) _ | refine bel_setRow ?_ (by first | omega | (simp; done) | (refine Nat.le_trans ?_ (top_le _ _); simp; done) | (refine Nat.le_succ_of_le (Nat.le_trans ?_ (top_le _ _)); simp; done) | (refine Nat.le_trans ?_ (top_le _ _); simp only [World.size_alloc]; refine Nat.le_succ_of_le (Nat.le_trans ?_ (top_le _ _)); simp; done)) _)), (hPr.below (by repeat (first | exact Below.refl _ _ | refine bel_then ?_ _ | refine bel_grow ?_ _ | refine bel_alloc ?_ _ | refine bel_drew ?_ | refine bel_set ?_ (by simp) _ | refine bel_setRow ?_ (by first | omega | (simp; done) | (refine Nat.le_trans ?_ (top_le _ _); simp; done) | (refine Nat.le_succ_of_le (Nat.le_trans ?_ (top_le _ _)); simp; done) | (refine Nat.le_trans ?_ (top_le _ _); simp only [World.size_alloc]; refine Nat.le_succ_of_le (Nat.le_trans ?_ (top_le _ _)); simp; done)) _))), .inr (.inr (.inr (.inr (⟨rfl, w0.out, w1.out, w2.out, hw.out⟩))))⟩
        case measure => simp [intOf]
    · obtain rfl : ob = true := by rw [hob.out, w0, w1, w2, w3]; rfl
      have hLL := hy.out rfl
      have s1 := sb_wi w1 w0
      have s2 := sb_wi w2 w1
      have s3 := sb_wi w3 w2
      have b1 := st_bd w1 w0
      have b2 := st_bd w2 w1
      have b3 := st_bd w3 w2
      have e1 := vSub_sm b a s1
      have e2 := vSub_sm c b s2
      have e3 := vSub_sm d c s3
      have f1 := steps_any _ s1
      have f2 := steps_any _ s2
      have f3 := steps_any _ s3
      clear hy hn w0 w1 w2 w3 s1 s2 s3
      generalize stpR (sb b a) = t1 at *
      generalize stpR (sb c b) = t2 at *
      generalize stpR (sb d c) = t3 at *
      replace hLL := Lib.hid hLL
      generalize sb b a = u1 at *
      generalize sb c b = u2 at *
      generalize sb d c = u3 at *
      go_wp2
      go_loopw [6, 16] (fun lv iv wq => Below w.heap.size w wq ∧ Blk wq w.heap.size 26 #[.int .i64 a.x, .int .i64 a.y, .int .i64 a.z, .int .i64 b.x, .int .i64 b.y, .int .i64 b.z, .int .i64 c.x, .int .i64 c.y, .int .i64 c.z, .int .i64 d.x, .int .i64 d.y, .int .i64 d.z] ∧ ((iv = .int .i64 0 ∧ lv = .int .i64 0) ∨ (iv = .int .i64 1 ∧ lv = .int .i64 t1) ∨ (iv = .int .i64 2 ∧ lv = .int .i64 (t1 + t2)) ∨ (iv = .int .i64 3 ∧ lv = .int .i64 (t1 + t2 + t3)))) (fun lv iv _ => 3 - (intOf iv).toNat)
      case atStart => exact ⟨hBr, hPr, .inl ⟨rfl, rfl⟩⟩
      case round =>
        obtain ⟨hBq, hPq, hi⟩ := hrel
        clear hBr hPr
        rename World => wq
        rcases hi with ⟨rfl, rfl⟩ | ⟨rfl, rfl⟩ | ⟨rfl, rfl⟩ | ⟨rfl, rfl⟩
        · have pl := hPq.lt
          have c0 := hPq.cell 0
          have c1 := hPq.cell 1
          have c2 := hPq.cell 2
          have c3 := hPq.cell 3
          have c4 := hPq.cell 4
          have c5 := hPq.cell 5
          go_upto_region 11 with (fail)
          refine wp_region_grow (by kernel_rfl) (by kernel_rfl) ?_
          repeat (go_big_quiet_step (((first | with_reducible exact e1.quiet _ | with_reducible exact e1.quiet2 _ _ | with_reducible exact f1.quiet _ | with_reducible exact f1.quiet2 _ _))))
          refine wpQuiet_nil ?_
          rintro _ ⟨xg, rfl⟩
          go_wp2
          go_roundw
          case rel => exact ⟨bel_trans hBq (by repeat (first | exact Below.refl _ _ | refine bel_then ?_ _ | refine bel_grow ?_ _ | refine bel_alloc ?_ _ | refine bel_drew ?_ | refine bel_set ?_ (by simp) _ | refine bel_setRow ?_ (by first | omega | (simp; done) | (refine Nat.le_trans ?_ (top_le _ _); simp; done) | (refine Nat.le_succ_of_le (Nat.le_trans ?_ (top_le _ _)); simp; done) | (refine Nat.le_trans ?_ (top_le _ _); simp only [World.size_alloc]; refine Nat.le_succ_of_le (Nat.le_trans ?_ (top_le _ _)); simp; done)) _)), hPq.below (by repeat (first | exact Below.refl _ _ | refine bel_then ?_ _ | refine bel_grow ?_ _ | refine bel_alloc ?_ _ | refine bel_drew ?_ | refine bel_set ?_ (by simp) _ | refine bel_setRow ?_ (by first | omega | (simp; done) | (refine Nat.le_trans ?_ (top_le _ _); simp; done) | (refine Nat.le_succ_of_le (Nat.le_trans ?_ (top_le _ _)); simp; done) | (refine Nat.le_trans ?_ (top_le _ _); simp only [World.size_alloc]; refine Nat.le_succ_of_le (Nat.le_trans ?_ (top_le _ _)); simp; done)) _)), .inr (.inl ⟨rfl, rfl⟩)⟩
          case measure => simp [intOf]
        · have pl := hPq.lt
          have c0 := hPq.cell 3
          have c1 := hPq.cell 4
          have c2 := hPq.cell 5
          have c3 := hPq.cell 6
          have c4 := hPq.cell 7
          have c5 := hPq.cell 8
          go_upto_region 11 with (fail)
          refine wp_region_grow (by kernel_rfl) (by kernel_rfl) ?_
          repeat (go_big_quiet_step (((first | with_reducible exact e2.quiet _ | with_reducible exact e2.quiet2 _ _ | with_reducible exact f2.quiet _ | with_reducible exact f2.quiet2 _ _))))
          refine wpQuiet_nil ?_
          rintro _ ⟨xg, rfl⟩
          go_wp2
          go_roundw
          case rel => exact ⟨bel_trans hBq (by repeat (first | exact Below.refl _ _ | refine bel_then ?_ _ | refine bel_grow ?_ _ | refine bel_alloc ?_ _ | refine bel_drew ?_ | refine bel_set ?_ (by simp) _ | refine bel_setRow ?_ (by first | omega | (simp; done) | (refine Nat.le_trans ?_ (top_le _ _); simp; done) | (refine Nat.le_succ_of_le (Nat.le_trans ?_ (top_le _ _)); simp; done) | (refine Nat.le_trans ?_ (top_le _ _); simp only [World.size_alloc]; refine Nat.le_succ_of_le (Nat.le_trans ?_ (top_le _ _)); simp; done)) _)), hPq.below (by repeat (first | exact Below.refl _ _ | refine bel_then ?_ _ | refine bel_grow ?_ _ | refine bel_alloc ?_ _ | refine bel_drew ?_ | refine bel_set ?_ (by simp) _ | refine bel_setRow ?_ (by first | omega | (simp; done) | (refine Nat.le_trans ?_ (top_le _ _); simp; done) | (refine Nat.le_succ_of_le (Nat.le_trans ?_ (top_le _ _)); simp; done) | (refine Nat.le_trans ?_ (top_le _ _); simp only [World.size_alloc]; refine Nat.le_succ_of_le (Nat.le_trans ?_ (top_le _ _)); simp; done)) _)), .inr (.inr (.inl ⟨rfl, rfl⟩))⟩
          case measure => simp [intOf]
        · have pl := hPq.lt
          have c0 := hPq.cell 6
          have c1 := hPq.cell 7
          have c2 := hPq.cell 8
          have c3 := hPq.cell 9
          have c4 := hPq.cell 10
          have c5 := hPq.cell 11
          go_upto_region 11 with (fail)
          refine wp_region_grow (by kernel_rfl) (by kernel_rfl) ?_
          repeat (go_big_quiet_step (((first | with_reducible exact e3.quiet _ | with_reducible exact e3.quiet2 _ _ | with_reducible exact f3.quiet _ | with_reducible exact f3.quiet2 _ _))))
          refine wpQuiet_nil ?_
          rintro _ ⟨xg, rfl⟩
          go_wp2
          go_roundw
          case rel => exact ⟨bel_trans hBq (by repeat (first | exact Below.refl _ _ | refine bel_then ?_ _ | refine bel_grow ?_ _ | refine bel_alloc ?_ _ | refine bel_drew ?_ | refine bel_set ?_ (by simp) _ | refine bel_setRow ?_ (by first | omega | (simp; done) | (refine Nat.le_trans ?_ (top_le _ _); simp; done) | (refine Nat.le_succ_of_le (Nat.le_trans ?_ (top_le _ _)); simp; done) | (refine Nat.le_trans ?_ (top_le _ _); simp only [World.size_alloc]; refine Nat.le_succ_of_le (Nat.le_trans ?_ (top_le _ _)); simp; done)) _)), hPq.below (by repeat (first | exact Below.refl _ _ | refine bel_then ?_ _ | refine bel_grow ?_ _ | refine bel_alloc ?_ _ | refine bel_drew ?_ | refine bel_set ?_ (by simp) _ | refine bel_setRow ?_ (by first | omega | (simp; done) | (refine Nat.le_trans ?_ (top_le _ _); simp; done) | (refine Nat.le_succ_of_le (Nat.le_trans ?_ (top_le _ _)); simp; done) | (refine Nat.le_trans ?_ (top_le _ _); simp only [World.size_alloc]; refine Nat.le_succ_of_le (Nat.le_trans ?_ (top_le _ _)); simp; done)) _)), .inr (.inr (.inr (⟨rfl, rfl⟩)))⟩
          case measure => simp [intOf]
        · go_wp2
          go_ret2
          exact ⟨by rw [hLL.out]; rfl, bel_trans hBq (by repeat (first | exact Below.refl _ _ | refine bel_then ?_ _ | refine bel_grow ?_ _ | refine bel_alloc ?_ _ | refine bel_drew ?_ | refine bel_set ?_ (by simp) _ | refine bel_setRow ?_ (by first | omega | (simp; done) | (refine Nat.le_trans ?_ (top_le _ _); simp; done) | (refine Nat.le_succ_of_le (Nat.le_trans ?_ (top_le _ _)); simp; done) | (refine Nat.le_trans ?_ (top_le _ _); simp only [World.size_alloc]; refine Nat.le_succ_of_le (Nat.le_trans ?_ (top_le _ _)); simp; done)) _))⟩
end Go.Proofs.Ytpaehkjnefgaiaa
namespace Go.Proofs.Ytpaehkjnefgaiaa
open Go.RowKit
set_option linter.unusedVariables false
set_option linter.unusedSimpArgs false
set_option linter.unnecessarySimpa false
set_option maxRecDepth 100000
end Go.Proofs.Ytpaehkjnefgaiaa
namespace Go.Proofs.Ytpaehkjnefgaiaa
open Go.RowKit
set_option linter.unusedVariables false
set_option linter.unusedSimpArgs false
set_option linter.unnecessarySimpa false
set_option maxRecDepth 100000
theorem ok_pr (p : Nat → P3) : okB (prR (p 0) (p 1) (p 2) (p 3)) 4 = okB p 4 := by rw [okB4, okB4]; rfl
theorem len_pr (p : Nat → P3) : lenF (prR (p 0) (p 1) (p 2) (p 3)) = lenF p := by rw [lenF_eq, lenF_eq]; rfl
theorem lenK_pr (p : Nat → P3) : lenK (prR (p 0) (p 1) (p 2) (p 3)) = lenK p := by unfold lenK; rw [ok_pr, len_pr]
theorem length_any (p : Nat → P3) : Gives Try.prog 65 #[.agg (ptsC 4 p)] (.tuple #[.int .i64 (lenK p), .bool (okB p 4)]) := by
  have h := length_lit (p 0) (p 1) (p 2) (p 3)
  rw [lenK_pr, ← okB4] at h
  exact h
theorem lenK_bd (p : Nat → P3) : 0 ≤ lenK p ∧ lenK p ≤ 1179648 := by
  unfold lenK
  split
  · rename_i h; exact lenF_bd h
  · omega
theorem edK_yes {p : Nat → P3} {u : Int} (h : okB p 4 = true) (hu : 1 ≤ u) : edK p u = min (1 + lenK p / u) 16 := by
  unfold edK lenK edF
  rw [if_pos ⟨h, hu⟩, if_pos h]
theorem edK_no {p : Nat → P3} {u : Int} (h : okB p 4 = false ∨ ¬ 1 ≤ u) : edK p u = 0 := by
  unfold edK
  rw [if_neg]
  rintro ⟨a, b⟩
  rcases h with h | h
  · rw [h] at a; cases a
  · exact h b
theorem div_bd {n u : Int} (hn : 0 ≤ n ∧ n ≤ 1179648) (hu : 1 ≤ u) : n.tdiv u = n / u ∧ 0 ≤ n / u ∧ n / u ≤ 1179648 := by
  refine ⟨Int.tdiv_eq_ediv_of_nonneg hn.1, Int.ediv_nonneg hn.1 (by omega), ?_⟩
  have := Int.ediv_le_self u hn.1
  omega
set_option maxHeartbeats 4000000 in
theorem edge_any (p : Nat → P3) (u : Int) : Gives Try.prog 41 #[.agg (ptsC 4 p), .int .i64 u] (.int .i64 (edK p u)) := by
  have k1 := length_any p
  have bl := lenK_bd p
  have hy := @edK_yes p u
  have hn := @edK_no p u
  generalize edK p u = EE at *
  generalize lenK p = LL at *
  obtain ⟨ok, hok⟩ : ∃ o, o = okB p 4 := ⟨_, rfl⟩
  rw [← hok] at k1 hy hn
  clear hok
  rw [ptsC4] at k1 ⊢
  replace hn := Lib.hid hn
  replace hy := Lib.hid hy
  refine Gives.mk fun w => ?_
  cases ok
  · obtain rfl := hn.out (.inl rfl)
    go_enter Try.func41, Try.ntmps41
    go_wp2_with (first | (go_at_call 65; (with_reducible refine (k1.at_ _).mono ?_); rintro e w' ⟨rfl, xg, rfl⟩) | fail)
    go_ret
    exact ⟨rfl, (by repeat (first | exact Below.refl _ _ | refine bel_then ?_ _ | refine bel_grow ?_ _ | refine bel_alloc ?_ _ | refine bel_drew ?_ | refine bel_set ?_ (by simp) _ | refine bel_setRow ?_ (by first | omega | (simp; done) | (refine Nat.le_trans ?_ (top_le _ _); simp; done) | (refine Nat.le_succ_of_le (Nat.le_trans ?_ (top_le _ _)); simp; done) | (refine Nat.le_trans ?_ (top_le _ _); simp only [World.size_alloc]; refine Nat.le_succ_of_le (Nat.le_trans ?_ (top_le _ _)); simp; done)) _))⟩
  · by_cases hu : u < 1
    · obtain rfl := hn.out (.inr (by omega))
      go_enter Try.func41, Try.ntmps41
      go_wp2_with (first | (go_at_call 65; (with_reducible refine (k1.at_ _).mono ?_); rintro e w' ⟨rfl, xg, rfl⟩) | fail)
      go_ret
      exact ⟨rfl, (by repeat (first | exact Below.refl _ _ | refine bel_then ?_ _ | refine bel_grow ?_ _ | refine bel_alloc ?_ _ | refine bel_drew ?_ | refine bel_set ?_ (by simp) _ | refine bel_setRow ?_ (by first | omega | (simp; done) | (refine Nat.le_trans ?_ (top_le _ _); simp; done) | (refine Nat.le_succ_of_le (Nat.le_trans ?_ (top_le _ _)); simp; done) | (refine Nat.le_trans ?_ (top_le _ _); simp only [World.size_alloc]; refine Nat.le_succ_of_le (Nat.le_trans ?_ (top_le _ _)); simp; done)) _))⟩
    · have hE := hy.out rfl (by omega)
      obtain ⟨d1, d2, d3⟩ := div_bd bl (show 1 ≤ u by omega)
      have hz : u ≠ 0 := by omega
      have hz1 : u ≠ -1 := by omega
      rw [← d1] at d2 d3 hE
      clear d1
      replace hE := Lib.hid hE
      clear hy hn
      go_enter Try.func41, Try.ntmps41
      go_wp2_with (first | (go_at_call 65; (with_reducible refine (k1.at_ _).mono ?_); rintro e w' ⟨rfl, xg, rfl⟩) | fail)
      go_ret
      exact ⟨by rw [hE.out]; rfl, (by repeat (first | exact Below.refl _ _ | refine bel_then ?_ _ | refine bel_grow ?_ _ | refine bel_alloc ?_ _ | refine bel_drew ?_ | refine bel_set ?_ (by simp) _ | refine bel_setRow ?_ (by first | omega | (simp; done) | (refine Nat.le_trans ?_ (top_le _ _); simp; done) | (refine Nat.le_succ_of_le (Nat.le_trans ?_ (top_le _ _)); simp; done) | (refine Nat.le_trans ?_ (top_le _ _); simp only [World.size_alloc]; refine Nat.le_succ_of_le (Nat.le_trans ?_ (top_le _ _)); simp; done)) _))⟩
end Go.Proofs.Ytpaehkjnefgaiaa
namespace Go.Proofs.Ytpaehkjnefgaiaa
open Go.RowKit
set_option linter.unusedVariables false
set_option linter.unusedSimpArgs false
set_option linter.unnecessarySimpa false
set_option maxRecDepth 100000
end Go.Proofs.Ytpaehkjnefgaiaa
