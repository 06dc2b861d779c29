/- CurveFlat holds for every input: the row, out of the walk. No condition. -/
import Derived.Test.YtiaikceoodeboabRows
import Derived.Test.YtiaikceoodeboabC3
import Derived.Test.YtiaikceoodeboabC4
namespace Go.Proofs.Ytiaikceoodeboab.curveFlat
open Go.ChangeShapes Go.WideShapes Go.ChangeAt Go.RowKit
set_option linter.unusedVariables false
set_option linter.unusedSimpArgs false
theorem flat_fin {q : Nat → P3} {z i n : Int} (hz : ∀ k, k < 4 → (q k).z = z) (h1 : (q 0).x ≤ (q 1).x) (h2 : (q 1).x ≤ (q 2).x) (h3 : (q 2).x ≤ (q 3).x) :
    cubK q i n = false ∨ (cubK q i n = true ∧ n ≤ i) ∨ (cubK q i n = true ∧ i < n ∧ cubK q (wrap64 (i + 1)) n = true ∧ (cubP q i n).z = z ∧ (cubP q (wrap64 (i + 1)) n).z = z ∧ (cubP q i n).x ≤ (cubP q (wrap64 (i + 1)) n).x) := by
  cases h : cubK q i n
  · exact .inl rfl
  · refine .inr ?_
    have c := cubK_iff.1 h
    by_cases hn : n ≤ i
    · exact .inl ⟨rfl, hn⟩
    · have e : wrap64 (i + 1) = i + 1 := wrap_id (by have := c.i0; omega) (by have := c.n1; omega)
      have c2 : CurH q (i + 1) n := ⟨c.n0, c.n1, by have := c.i0; omega, by omega, c.hp⟩
      rw [e]
      exact .inr ⟨rfl, by omega, cubK_iff.2 c2, cub_flat part_z c hz, cub_flat part_z c2 hz, cub_rises part_x c c2 h1 h2 h3⟩
def fl4 (a b c d : P3) (k : Nat) : P3 := if k = 0 then a else if k = 1 then b else if k = 2 then c else d
set_option maxRecDepth 100000 in
set_option maxHeartbeats 4000000 in
theorem walk (w : World) (p : Nat → P3) (kp : ∀ k, k < 4 → In3 (p k)) (i : Int) (bi : In64 i) (n : Int) (bn : In64 n) : Calls Try.prog 8 #[.agg (ptsC 4 p), .int .i64 i, .int .i64 n] w fun e w' => e = .returned (.bool true) ∧ Below w.heap.size w w' := by
  have al := alive11_any
  have wr1 : wrap64 1 = 1 := wrap_id (by omega) (by omega)
  have wr2 : wrap64 2 = 2 := wrap_id (by omega) (by omega)
  have wr3 : wrap64 3 = 3 := wrap_id (by omega) (by omega)
  have wr4 : wrap64 4 = 4 := wrap_id (by omega) (by omega)
  have wr0 : wrap64 0 = 0 := wrap_id (by omega) (by omega)
  rw [ptsC4]
  generalize p 0 = a at *
  generalize p 1 = b at *
  generalize p 2 = c at *
  generalize p 3 = d at *
  obtain ⟨q1, hq1⟩ : ∃ q : P3, q = ⟨max b.x a.x, b.y, a.z⟩ := ⟨_, rfl⟩
  obtain ⟨q2, hq2⟩ : ∃ q : P3, q = ⟨max c.x q1.x, c.y, a.z⟩ := ⟨_, rfl⟩
  obtain ⟨q3, hq3⟩ : ∃ q : P3, q = ⟨max d.x q2.x, d.y, a.z⟩ := ⟨_, rfl⟩
  have k1 : Gives Try.prog 11 #[.agg #[.int .i64 (a).x, .int .i64 (a).y, .int .i64 (a).z, .int .i64 (q1).x, .int .i64 (q1).y, .int .i64 (q1).z, .int .i64 (q2).x, .int .i64 (q2).y, .int .i64 (q2).z, .int .i64 (q3).x, .int .i64 (q3).y, .int .i64 (q3).z], .int .i64 i, .int .i64 n] (.tuple #[.agg #[.int .i64 (cubP (fl4 a q1 q2 q3) i n).x, .int .i64 (cubP (fl4 a q1 q2 q3) i n).y, .int .i64 (cubP (fl4 a q1 q2 q3) i n).z], .bool (cubK (fl4 a q1 q2 q3) i n)]) := cub_any (fl4 a q1 q2 q3) i n
  have k2 : Gives Try.prog 11 #[.agg #[.int .i64 (a).x, .int .i64 (a).y, .int .i64 (a).z, .int .i64 (q1).x, .int .i64 (q1).y, .int .i64 (q1).z, .int .i64 (q2).x, .int .i64 (q2).y, .int .i64 (q2).z, .int .i64 (q3).x, .int .i64 (q3).y, .int .i64 (q3).z], .int .i64 (wrap64 (i + 1)), .int .i64 n] (.tuple #[.agg #[.int .i64 (cubP (fl4 a q1 q2 q3) (wrap64 (i + 1)) n).x, .int .i64 (cubP (fl4 a q1 q2 q3) (wrap64 (i + 1)) n).y, .int .i64 (cubP (fl4 a q1 q2 q3) (wrap64 (i + 1)) n).z], .bool (cubK (fl4 a q1 q2 q3) (wrap64 (i + 1)) n)]) := cub_any (fl4 a q1 q2 q3) (wrap64 (i + 1)) n
  have hF := flat_fin (q := fl4 a q1 q2 q3) (z := a.z) (i := i) (n := n) (fun k hk => by
    rcases (by omega : k = 0 ∨ k = 1 ∨ k = 2 ∨ k = 3) with rfl | rfl | rfl | rfl
    · rfl
    · show q1.z = _; rw [hq1]
    · show q2.z = _; rw [hq2]
    · show q3.z = _; rw [hq3]) (by show a.x ≤ q1.x; rw [hq1]; simp only []; omega) (by show q1.x ≤ q2.x; rw [hq2]; simp only []; omega) (by show q2.x ≤ q3.x; rw [hq3]; simp only []; omega)
  generalize cubP (fl4 a q1 q2 q3) i n = A at *
  generalize cubK (fl4 a q1 q2 q3) i n = ka at *
  generalize cubP (fl4 a q1 q2 q3) (wrap64 (i + 1)) n = B at *
  generalize cubK (fl4 a q1 q2 q3) (wrap64 (i + 1)) n = kb at *
  replace hF := Lib.hid hF
  have x1 : max b.x a.x = q1.x ∧ b.y = q1.y ∧ a.z = q1.z := by rw [hq1]; exact ⟨rfl, rfl, rfl⟩
  have x2 : max c.x q1.x = q2.x ∧ c.y = q2.y ∧ a.z = q2.z := by rw [hq2]; exact ⟨rfl, rfl, rfl⟩
  have x3 : max d.x q2.x = q3.x ∧ d.y = q3.y ∧ a.z = q3.z := by rw [hq3]; exact ⟨rfl, rfl, rfl⟩
  clear hq1 hq2 hq3
  replace x1 := Lib.hid x1
  replace x2 := Lib.hid x2
  replace x3 := Lib.hid x3
  have hP0 : Blk (w.alloc (.cells #[.int .i64 (a).x, .int .i64 (a).y, .int .i64 (a).z, .int .i64 (b).x, .int .i64 (b).y, .int .i64 (b).z, .int .i64 (c).x, .int .i64 (c).y, .int .i64 (c).z, .int .i64 (d).x, .int .i64 (d).y, .int .i64 (d).z] 26)) w.heap.size 26 #[.int .i64 (a).x, .int .i64 (a).y, .int .i64 (a).z, .int .i64 (b).x, .int .i64 (b).y, .int .i64 (b).z, .int .i64 (c).x, .int .i64 (c).y, .int .i64 (c).z, .int .i64 (d).x, .int .i64 (d).y, .int .i64 (d).z] := Blk.new _ _ _ _ rfl
  have hB0 : Below w.heap.size w (w.alloc (.cells #[.int .i64 (a).x, .int .i64 (a).y, .int .i64 (a).z, .int .i64 (b).x, .int .i64 (b).y, .int .i64 (b).z, .int .i64 (c).x, .int .i64 (c).y, .int .i64 (c).z, .int .i64 (d).x, .int .i64 (d).y, .int .i64 (d).z] 26)) := bel_alloc (Below.refl _ _) _
  go_enter Try.func8, Try.ntmps8
  go_upto_region 1 with (fail)
  generalize w.alloc (.cells #[.int .i64 (a).x, .int .i64 (a).y, .int .i64 (a).z, .int .i64 (b).x, .int .i64 (b).y, .int .i64 (b).z, .int .i64 (c).x, .int .i64 (c).y, .int .i64 (c).z, .int .i64 (d).x, .int .i64 (d).y, .int .i64 (d).z] 26) = W0 at *
  go_upto_region 3 with (first | (go_at_call 10; first | ((with_reducible refine (al.at_ _).mono ?_); rintro e w' ⟨rfl, xa, rfl⟩)) | fail)
  have hP1 := hP0.grow xa
  have hB1 := bel_grow hB0 xa
  clear hP0 hB0 al
  generalize grow W0 xa = W1 at *
  go_wp2
  go_loopw [7] (fun iv wr => Below w.heap.size w wr ∧ ((iv = .int .i64 1 ∧ Blk wr w.heap.size 26 #[.int .i64 (a).x, .int .i64 (a).y, .int .i64 (a).z, .int .i64 (b).x, .int .i64 (b).y, .int .i64 (b).z, .int .i64 (c).x, .int .i64 (c).y, .int .i64 (c).z, .int .i64 (d).x, .int .i64 (d).y, .int .i64 (d).z]) ∨ (iv = .int .i64 2 ∧ Blk wr w.heap.size 26 #[.int .i64 (a).x, .int .i64 (a).y, .int .i64 (a).z, .int .i64 (q1).x, .int .i64 (q1).y, .int .i64 (q1).z, .int .i64 (c).x, .int .i64 (c).y, .int .i64 (c).z, .int .i64 (d).x, .int .i64 (d).y, .int .i64 (d).z]) ∨ (iv = .int .i64 3 ∧ Blk wr w.heap.size 26 #[.int .i64 (a).x, .int .i64 (a).y, .int .i64 (a).z, .int .i64 (q1).x, .int .i64 (q1).y, .int .i64 (q1).z, .int .i64 (q2).x, .int .i64 (q2).y, .int .i64 (q2).z, .int .i64 (d).x, .int .i64 (d).y, .int .i64 (d).z]) ∨ (iv = .int .i64 4 ∧ Blk wr w.heap.size 26 #[.int .i64 (a).x, .int .i64 (a).y, .int .i64 (a).z, .int .i64 (q1).x, .int .i64 (q1).y, .int .i64 (q1).z, .int .i64 (q2).x, .int .i64 (q2).y, .int .i64 (q2).z, .int .i64 (q3).x, .int .i64 (q3).y, .int .i64 (q3).z]))) (fun iv _ => 4 - (intOf iv).toNat)
  case atStart => exact ⟨hB1, .inl ⟨rfl, hP1⟩⟩
  case round =>
    obtain ⟨hBr, hi⟩ := hrel
    clear hB1 hP1
    rename World => wr
    rcases hi with ⟨rfl, hPr⟩ | ⟨rfl, hPr⟩ | ⟨rfl, hPr⟩ | ⟨rfl, hPr⟩
    · have pl := hPr.lt
      have c0 : wr.cell? ⟨w.heap.size, 2, none⟩ = some (.int .i64 a.z) := hPr.cell 2
      have c1 : wr.cell? ⟨w.heap.size, 5, none⟩ = some (.int .i64 b.z) := hPr.cell 5
      have f1 := hPr.frozen 5
      have hP2 := hPr.set 5 (.int .i64 a.z)
      have hB2 := bel_set hBr (p := ⟨w.heap.size, 5, none⟩) (Nat.le_refl _) (.int .i64 a.z)
      clear hPr hBr
      go_upto_region 7 with (fail)
      generalize wr.setCell ⟨w.heap.size, 5, none⟩ (.int .i64 a.z) = W2 at *
      clear c0 c1 f1
      have pl := hP2.lt
      have c0 : W2.cell? ⟨w.heap.size, 3, none⟩ = some (.int .i64 b.x) := hP2.cell 3
      have c1 : W2.cell? ⟨w.heap.size, 0, none⟩ = some (.int .i64 a.x) := hP2.cell 0
      refine wp_region_tail 13 ?_ (by kernel_rfl) (by kernel_rfl) (by kernel_rfl) (fun x => ?_) (fun x => ?_)
      rotate_left
      · simp only [List.take_succ_cons, List.take_zero]
        repeat (go_big_quiet_step (fail))
        refine wpQuiet_nil ?_
        exact rfl
      simp only [List.drop_succ_cons, List.drop_zero]
      try simp only [Act.put, List.setIfInBounds_toArray, List.set_cons_succ, List.set_cons_zero]
      have hP3 := hP2.grow x
      have hB3 := bel_grow hB2 x
      clear hP2 hB2 c0 c1
      generalize grow W2 x = W3 at *
      have pl := hP3.lt
      have c0 := hP3.cell 3
      have f0 := hP3.frozen 3
      have hP4 := hP3.set 3 (.int .i64 (max b.x a.x))
      have hB4 := bel_set hB3 (p := ⟨w.heap.size, 3, none⟩) (Nat.le_refl _) (.int .i64 (max b.x a.x))
      clear hP3 hB3
      replace hP4 := Lib.hid hP4
      replace hB4 := Lib.hid hB4
      go_wp2
      go_roundw
      case rel =>
        refine ⟨hB4.out, .inr (.inl ⟨rfl, ?_⟩)⟩
        obtain ⟨e1, e2, e3⟩ := x1.out
        show Blk _ _ _ #[.int .i64 (a).x, .int .i64 (a).y, .int .i64 (a).z, .int .i64 (q1).x, .int .i64 (q1).y, .int .i64 (q1).z, .int .i64 (c).x, .int .i64 (c).y, .int .i64 (c).z, .int .i64 (d).x, .int .i64 (d).y, .int .i64 (d).z]
        rw [← e1, ← e2, ← e3]
        exact hP4.out
      case measure => simp [intOf]
    · have pl := hPr.lt
      have c0 : wr.cell? ⟨w.heap.size, 2, none⟩ = some (.int .i64 a.z) := hPr.cell 2
      have c1 : wr.cell? ⟨w.heap.size, 8, none⟩ = some (.int .i64 c.z) := hPr.cell 8
      have f1 := hPr.frozen 8
      have hP2 := hPr.set 8 (.int .i64 a.z)
      have hB2 := bel_set hBr (p := ⟨w.heap.size, 8, none⟩) (Nat.le_refl _) (.int .i64 a.z)
      clear hPr hBr
      go_upto_region 7 with (fail)
      generalize wr.setCell ⟨w.heap.size, 8, none⟩ (.int .i64 a.z) = W2 at *
      clear c0 c1 f1
      have pl := hP2.lt
      have c0 : W2.cell? ⟨w.heap.size, 6, none⟩ = some (.int .i64 c.x) := hP2.cell 6
      have c1 : W2.cell? ⟨w.heap.size, 3, none⟩ = some (.int .i64 q1.x) := hP2.cell 3
      refine wp_region_tail 13 ?_ (by kernel_rfl) (by kernel_rfl) (by kernel_rfl) (fun x => ?_) (fun x => ?_)
      rotate_left
      · simp only [List.take_succ_cons, List.take_zero]
        repeat (go_big_quiet_step (fail))
        refine wpQuiet_nil ?_
        exact rfl
      simp only [List.drop_succ_cons, List.drop_zero]
      try simp only [Act.put, List.setIfInBounds_toArray, List.set_cons_succ, List.set_cons_zero]
      have hP3 := hP2.grow x
      have hB3 := bel_grow hB2 x
      clear hP2 hB2 c0 c1
      generalize grow W2 x = W3 at *
      have pl := hP3.lt
      have c0 := hP3.cell 6
      have f0 := hP3.frozen 6
      have hP4 := hP3.set 6 (.int .i64 (max c.x q1.x))
      have hB4 := bel_set hB3 (p := ⟨w.heap.size, 6, none⟩) (Nat.le_refl _) (.int .i64 (max c.x q1.x))
      clear hP3 hB3
      replace hP4 := Lib.hid hP4
      replace hB4 := Lib.hid hB4
      go_wp2
      go_roundw
      case rel =>
        refine ⟨hB4.out, .inr (.inr (.inl ⟨rfl, ?_⟩))⟩
        obtain ⟨e1, e2, e3⟩ := x2.out
        show Blk _ _ _ #[.int .i64 (a).x, .int .i64 (a).y, .int .i64 (a).z, .int .i64 (q1).x, .int .i64 (q1).y, .int .i64 (q1).z, .int .i64 (q2).x, .int .i64 (q2).y, .int .i64 (q2).z, .int .i64 (d).x, .int .i64 (d).y, .int .i64 (d).z]
        rw [← e1, ← e2, ← e3]
        exact hP4.out
      case measure => simp [intOf]
    · have pl := hPr.lt
      have c0 : wr.cell? ⟨w.heap.size, 2, none⟩ = some (.int .i64 a.z) := hPr.cell 2
      have c1 : wr.cell? ⟨w.heap.size, 11, none⟩ = some (.int .i64 d.z) := hPr.cell 11
      have f1 := hPr.frozen 11
      have hP2 := hPr.set 11 (.int .i64 a.z)
      have hB2 := bel_set hBr (p := ⟨w.heap.size, 11, none⟩) (Nat.le_refl _) (.int .i64 a.z)
      clear hPr hBr
      go_upto_region 7 with (fail)
      generalize wr.setCell ⟨w.heap.size, 11, none⟩ (.int .i64 a.z) = W2 at *
      clear c0 c1 f1
      have pl := hP2.lt
      have c0 : W2.cell? ⟨w.heap.size, 9, none⟩ = some (.int .i64 d.x) := hP2.cell 9
      have c1 : W2.cell? ⟨w.heap.size, 6, none⟩ = some (.int .i64 q2.x) := hP2.cell 6
      refine wp_region_tail 13 ?_ (by kernel_rfl) (by kernel_rfl) (by kernel_rfl) (fun x => ?_) (fun x => ?_)
      rotate_left
      · simp only [List.take_succ_cons, List.take_zero]
        repeat (go_big_quiet_step (fail))
        refine wpQuiet_nil ?_
        exact rfl
      simp only [List.drop_succ_cons, List.drop_zero]
      try simp only [Act.put, List.setIfInBounds_toArray, List.set_cons_succ, List.set_cons_zero]
      have hP3 := hP2.grow x
      have hB3 := bel_grow hB2 x
      clear hP2 hB2 c0 c1
      generalize grow W2 x = W3 at *
      have pl := hP3.lt
      have c0 := hP3.cell 9
      have f0 := hP3.frozen 9
      have hP4 := hP3.set 9 (.int .i64 (max d.x q2.x))
      have hB4 := bel_set hB3 (p := ⟨w.heap.size, 9, none⟩) (Nat.le_refl _) (.int .i64 (max d.x q2.x))
      clear hP3 hB3
      replace hP4 := Lib.hid hP4
      replace hB4 := Lib.hid hB4
      go_wp2
      go_roundw
      case rel =>
        refine ⟨hB4.out, .inr (.inr (.inr ⟨rfl, ?_⟩))⟩
        obtain ⟨e1, e2, e3⟩ := x3.out
        show Blk _ _ _ #[.int .i64 (a).x, .int .i64 (a).y, .int .i64 (a).z, .int .i64 (q1).x, .int .i64 (q1).y, .int .i64 (q1).z, .int .i64 (q2).x, .int .i64 (q2).y, .int .i64 (q2).z, .int .i64 (q3).x, .int .i64 (q3).y, .int .i64 (q3).z]
        rw [← e1, ← e2, ← e3]
        exact hP4.out
      case measure => simp [intOf]
    · go_upto_region 8 with (fail)
      have c0 := hPr.cell 0
      have c1 := hPr.cell 1
      have c2 := hPr.cell 2
      have c3 := hPr.cell 3
      have c4 := hPr.cell 4
      have c5 := hPr.cell 5
      have c6 := hPr.cell 6
      have c7 := hPr.cell 7
      have c8 := hPr.cell 8
      have c9 := hPr.cell 9
      have c10 := hPr.cell 10
      have c11 := hPr.cell 11
      have pl := hPr.lt
      go_upto_region 9 with (first | (go_at_call 11; first | ((with_reducible refine (k1.at_ _).mono ?_); rintro e w' ⟨rfl, xg, rfl⟩)) | fail)
      have ha3 : Blk ((grow wr xg).alloc (.cells #[.int .i64 A.x, .int .i64 A.y, .int .i64 A.z] 23)) (grow wr xg).heap.size 23 #[.int .i64 A.x, .int .i64 A.y, .int .i64 A.z] := Blk.new _ _ _ _ rfl
      have hP3 := (hPr.grow xg).alloc (.cells #[.int .i64 A.x, .int .i64 A.y, .int .i64 A.z] 23)
      have hB3 : Below w.heap.size w ((grow wr xg).alloc (.cells #[.int .i64 A.x, .int .i64 A.y, .int .i64 A.z] 23)) := bel_alloc (bel_grow hBr xg) _
      clear hPr hBr c0 c1 c2 c3 c4 c5 c6 c7 c8 c9 c10 c11 k1 pl
      generalize (grow wr xg).alloc (.cells #[.int .i64 A.x, .int .i64 A.y, .int .i64 A.z] 23) = W3 at *
      generalize (grow wr xg).heap.size = g1 at *
      rcases hF.out with rfl | ⟨rfl, hge⟩ | ⟨rfl, hlt, rfl, hz1, hz2, hxx⟩
      · go_wp2
        go_ret
        exact ⟨rfl, hB3⟩
      · go_wp2
        go_ret
        exact ⟨rfl, hB3⟩
      · replace hz1 := Lib.hid hz1
        replace hz2 := Lib.hid hz2
        go_upto_region 11 with (fail)
        have c0 := hP3.cell 0
        have c1 := hP3.cell 1
        have c2 := hP3.cell 2
        have c3 := hP3.cell 3
        have c4 := hP3.cell 4
        have c5 := hP3.cell 5
        have c6 := hP3.cell 6
        have c7 := hP3.cell 7
        have c8 := hP3.cell 8
        have c9 := hP3.cell 9
        have c10 := hP3.cell 10
        have c11 := hP3.cell 11
        have pl := hP3.lt
        go_upto_region 12 with (first | (go_at_call 11; first | ((with_reducible refine (k2.at_ _).mono ?_); rintro e w' ⟨rfl, xg, rfl⟩)) | fail)
        have hb4 : Blk ((grow W3 xg).alloc (.cells #[.int .i64 B.x, .int .i64 B.y, .int .i64 B.z] 23)) (grow W3 xg).heap.size 23 #[.int .i64 B.x, .int .i64 B.y, .int .i64 B.z] := Blk.new _ _ _ _ rfl
        have ha4 := (ha3.grow xg).alloc (.cells #[.int .i64 B.x, .int .i64 B.y, .int .i64 B.z] 23)
        have hP4 := (hP3.grow xg).alloc (.cells #[.int .i64 B.x, .int .i64 B.y, .int .i64 B.z] 23)
        have hB4 : Below w.heap.size w ((grow W3 xg).alloc (.cells #[.int .i64 B.x, .int .i64 B.y, .int .i64 B.z] 23)) := bel_alloc (bel_grow hB3 xg) _
        clear hP3 ha3 hB3 c0 c1 c2 c3 c4 c5 c6 c7 c8 c9 c10 c11 k2 pl
        generalize (grow W3 xg).alloc (.cells #[.int .i64 B.x, .int .i64 B.y, .int .i64 B.z] 23) = W4 at *
        generalize (grow W3 xg).heap.size = g2 at *
        have pl := hP4.lt
        have la := ha4.lt
        have lb := hb4.lt
        have cz : W4.cell? ⟨w.heap.size, 2, none⟩ = some (.int .i64 a.z) := hP4.cell 2
        have az : W4.cell? ⟨g1, 2, none⟩ = some (.int .i64 a.z) := by rw [← hz1.out]; exact ha4.cell 2
        have ax : W4.cell? ⟨g1, 0, none⟩ = some (.int .i64 A.x) := ha4.cell 0
        have bz : W4.cell? ⟨g2, 2, none⟩ = some (.int .i64 a.z) := by rw [← hz2.out]; exact hb4.cell 2
        have bx : W4.cell? ⟨g2, 0, none⟩ = some (.int .i64 B.x) := hb4.cell 0
        clear hz1 hz2
        go_wp2
        go_ret
        exact ⟨rfl, hB4⟩

theorem own : ownKnob Try.prog.godebug = none := by kernel_rfl
set_option maxRecDepth 100000 in
theorem lifted (os : Os) (started : os.Started) (H : Type) (enc : TypeId × Value → H) :
    ReturnsInHanded {} Try.checked os 8 .any (Rows.curveFlatSpec.pre6 enc Try.prog Try.f8 Rows.curveFlatRow.domain false) (Rows.curveFlatSpec.post enc Try.prog Try.f8 false true false false) := by
  refine returnsInHanded_of_change (C := Try.checked) own started (by kernel_rfl) Try.func8
    (ChangeSpec.witness6 (enc := enc) (C := Try.checked) false ⟨#[], #[.agg #[.int .i64 0, .int .i64 0, .int .i64 0, .int .i64 0, .int .i64 0, .int .i64 0, .int .i64 0, .int .i64 0, .int .i64 0, .int .i64 0, .int .i64 0, .int .i64 0], .int .i64 0, .int .i64 0], []⟩ 12 (by kernel_rfl) (by kernel_rfl) (by kernel_rfl) (by kernel_rfl)) ?_
  intro W base args ds gs before hval0 hW hcnd _
  have hval : ∀ (j : Nat) t v, Try.f8.params[j]? = some t → args[j]? = some v → Value.okWide Try.prog W .any base t v := hval0
  have hW' := hW
  obtain ⟨p, q, hA0, hV, rfl, hfz, hnd⟩ := hW
  have hA : DataW.TrodAll enc Try.prog W 0 (fun _ => true) true Try.f8.params.toList args.toList ds p := hA0
  rw [Try.params8] at hA hval
  obtain ⟨v0, vs0, d0, ds0, p0, q0, hargs, rfl, rfl, h0, r0⟩ := trodAll_cons hA
  obtain ⟨v1, vs1, d1, ds1, p1, q1, rfl, rfl, rfl, h1, r1⟩ := trodAll_cons r0
  obtain ⟨v2, vs2, d2, ds2, p2, q2, rfl, rfl, rfl, h2, r2⟩ := trodAll_cons r1
  obtain ⟨rfl, rfl, rfl⟩ := trodAll_nil r2
  obtain rfl : args = #[v0, v1, v2] := by cases args; simp_all
  obtain ⟨p0, rfl, k0⟩ := open_A4 (hval 0 26 v0 rfl rfl) h0
  obtain ⟨a1, rfl, b1⟩ := open_int64 (hval 1 3 v1 rfl rfl) h1
  obtain ⟨a2, rfl, b2⟩ := open_int64 (hval 2 3 v2 rfl rfl) h2
  refine (walk W p0 k0 a1 b1 a2 b2).mono fun e W' ⟨he, hb⟩ => ?_
  subst he
  exact ⟨_, rfl, law_post (tb := 4) (by kernel_rfl) (by kernel_rfl) rfl rfl Try.underlying4 rfl rfl rfl hW' hb⟩

theorem over : Rows.curveFlatRow.holds Try.pinned (OpenSpec.ofChange Rows.curveFlatSpec) :=
  OpenClaim.holds_of_wide 8 Try.f8 rfl rfl rfl rfl rfl rfl rfl ⟨rfl, rfl, rfl, rfl, rfl⟩ rfl rfl rfl rfl rfl (by kernel_rfl) Try.func8 (by kernel_rfl)
    (of_decide_eq_true (by kernel_rfl)) (by unfold Func.isWrapper; first | (rw [if_pos (by decide +kernel)]; kernel_rfl) | (rw [if_neg (by decide +kernel)]; exact ⟨rfl, rfl⟩))
    (fun os started H enc _ => lifted os started H enc)

theorem proved : Rows.CurveFlatSaid :=
  over
#print axioms proved
end Go.Proofs.Ytiaikceoodeboab.curveFlat
