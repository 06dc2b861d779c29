/- CurveCorners holds for every input: the row, out of the walk. No condition. -/
import Derived.Test.YtiaikceoodeboabRows
import Derived.Test.YtiaikceoodeboabC3
import Derived.Test.YtiaikceoodeboabC4
import Derived.Test.YtiaikceoodeboabC5
namespace Go.Proofs.Ytiaikceoodeboab.curveCorners
open Go.ChangeShapes Go.WideShapes Go.ChangeAt Go.RowKit
set_option linter.unusedVariables false
set_option linter.unusedSimpArgs false
set_option maxRecDepth 100000 in
set_option maxHeartbeats 4000000 in
theorem walk (w : World) (p : Nat → P3) (kp : ∀ k, k < 16 → In3 (p k)) (n : Int) (bn : In64 n) : Calls Try.prog 9 #[.agg (ptsC 16 p), .int .i64 n] w fun e w' => e = .returned (.bool true) ∧ Below w.heap.size w w' := by
  have al := alive11_any
  have k1 := pt_any p 0 n 0 n
  have k2 := pt_any p n n n n
  have hX : ptK p 0 n 0 n = false ∨ ptK p 0 n 0 n = true ∧ ptP p 0 n 0 n = p 0 := by
    cases h : ptK p 0 n 0 n
    · exact .inl rfl
    · exact .inr ⟨rfl, corner0 (ptK_iff.1 h)⟩
  have hY : ptK p n n n n = false ∨ ptK p n n n n = true ∧ ptP p n n n n = p 15 := by
    cases h : ptK p n n n n
    · exact .inl rfl
    · exact .inr ⟨rfl, corner15 (ptK_iff.1 h)⟩
  generalize ptK p 0 n 0 n = ka at *
  generalize ptP p 0 n 0 n = A at *
  generalize ptK p n n n n = kb at *
  generalize ptP p n n n n = B at *
  replace hX := Lib.hid hX
  replace hY := Lib.hid hY
  have wr1 : wrap64 1 = 1 := wrap_id (by omega) (by omega)
  have wr2 : wrap64 2 = 2 := wrap_id (by omega) (by omega)
  have wr3 : wrap64 3 = 3 := wrap_id (by omega) (by omega)
  have wr4 : wrap64 4 = 4 := wrap_id (by omega) (by omega)
  have tm1 : Int.tmod 1 4 = 1 := by decide
  have tm2 : Int.tmod 2 4 = 2 := by decide
  have tm3 : Int.tmod 3 4 = 3 := by decide
  have tm4 : Int.tmod 4 4 = 0 := by decide
  have hP0 : Blk (w.alloc (.cells (ptsC 16 p) 24)) w.heap.size 24 (ptsC 16 p) := Blk.new _ _ _ _ rfl
  have hB0 : Below w.heap.size w (w.alloc (.cells (ptsC 16 p) 24)) := bel_alloc (Below.refl _ _) _
  go_enter Try.func9, Try.ntmps9
  go_upto_region 1 with (fail)
  generalize (w.alloc (.cells (ptsC 16 p) 24)) = W0 at *
  go_upto_region 3 with (first | (go_at_call 10; first | ((with_reducible refine (al.at_ _).mono ?_); rintro e w' ⟨rfl, xa, rfl⟩)) | fail)
  have hP1 := hP0.grow xa
  have hB1 := bel_grow hB0 xa
  clear hP0 hB0 al
  generalize grow W0 xa = W1 at *
  go_upto_region 4 with (fail)
  have hP2 : Blk (W1.alloc (.cells #[.int .i64 0, .int .i64 3, .int .i64 15, .int .i64 12] 43)) w.heap.size 24 (ptsC 16 p) := hP1.alloc _
  have hA2 : Blk (W1.alloc (.cells #[.int .i64 0, .int .i64 3, .int .i64 15, .int .i64 12] 43)) W1.heap.size 43 #[.int .i64 0, .int .i64 3, .int .i64 15, .int .i64 12] := Blk.new _ _ _ _ rfl
  have hB2 : Below w.heap.size w (W1.alloc (.cells #[.int .i64 0, .int .i64 3, .int .i64 15, .int .i64 12] 43)) := bel_alloc hB1 _
  clear hP1 hB1
  generalize W1.alloc (.cells #[.int .i64 0, .int .i64 3, .int .i64 15, .int .i64 12] 43) = W2 at *
  generalize W1.heap.size = ba at *
  go_wp2
  go_loopw [6] (fun iv wr => ∃ k : Nat, rowI iv k ∧ Below w.heap.size w wr ∧ Blk wr w.heap.size 24 (ptsC 16 p) ∧ Blk wr ba 43 #[.int .i64 0, .int .i64 3, .int .i64 15, .int .i64 12]) (fun iv _ => 4 - (intOf iv).toNat)
  case atStart => exact ⟨0, .inl ⟨rfl, rfl⟩, hB2, hP2, hA2⟩
  case round =>
    obtain ⟨k, hi, hBr, hPr, hAr⟩ := hrel
    clear hB2 hP2 hA2
    rename World => wr
    rcases hi with ⟨rfl, rfl⟩ | ⟨rfl, rfl⟩ | ⟨rfl, rfl⟩ | ⟨rfl, rfl⟩ | ⟨rfl, rfl⟩
    · have r1 : Gives Try.prog 15 #[.agg (ptsC 16 p), .int .i64 0] (.agg #[.int .i64 (p 0).x, .int .i64 (p 0).y, .int .i64 (p 0).z, .int .i64 (p 1).x, .int .i64 (p 1).y, .int .i64 (p 1).z, .int .i64 (p 2).x, .int .i64 (p 2).y, .int .i64 (p 2).z, .int .i64 (p 3).x, .int .i64 (p 3).y, .int .i64 (p 3).z]) := vRow_any p 0
      have r2 : Gives Try.prog 15 #[.agg (ptsC 16 p), .int .i64 1] (.agg #[.int .i64 (p 3).x, .int .i64 (p 3).y, .int .i64 (p 3).z, .int .i64 (p 7).x, .int .i64 (p 7).y, .int .i64 (p 7).z, .int .i64 (p 11).x, .int .i64 (p 11).y, .int .i64 (p 11).z, .int .i64 (p 15).x, .int .i64 (p 15).y, .int .i64 (p 15).z]) := vRow_any p 1
      go_upto_region 7 with (fail)
      refine wp_region_lit ?_
      refine load16 rfl _ rfl w.heap.size rfl p hPr ?_
      simp only [Act.put, List.setIfInBounds_toArray, List.set_cons_succ, List.set_cons_zero]
      go_upto_region 8 with (first | (go_at_call 15; first | ((with_reducible refine (r1.at_ _).mono ?_); rintro e w' ⟨rfl, xg, rfl⟩)) | fail)
      have hP3 : Blk ((grow wr xg).alloc (.cells #[.int .i64 (p 0).x, .int .i64 (p 0).y, .int .i64 (p 0).z, .int .i64 (p 1).x, .int .i64 (p 1).y, .int .i64 (p 1).z, .int .i64 (p 2).x, .int .i64 (p 2).y, .int .i64 (p 2).z, .int .i64 (p 3).x, .int .i64 (p 3).y, .int .i64 (p 3).z] 26)) w.heap.size 24 (ptsC 16 p) := (hPr.grow xg).alloc _
      have hA3 := (hAr.grow xg).alloc (.cells #[.int .i64 (p 0).x, .int .i64 (p 0).y, .int .i64 (p 0).z, .int .i64 (p 1).x, .int .i64 (p 1).y, .int .i64 (p 1).z, .int .i64 (p 2).x, .int .i64 (p 2).y, .int .i64 (p 2).z, .int .i64 (p 3).x, .int .i64 (p 3).y, .int .i64 (p 3).z] 26)
      have ha3 : Blk ((grow wr xg).alloc (.cells #[.int .i64 (p 0).x, .int .i64 (p 0).y, .int .i64 (p 0).z, .int .i64 (p 1).x, .int .i64 (p 1).y, .int .i64 (p 1).z, .int .i64 (p 2).x, .int .i64 (p 2).y, .int .i64 (p 2).z, .int .i64 (p 3).x, .int .i64 (p 3).y, .int .i64 (p 3).z] 26)) (grow wr xg).heap.size 26 #[.int .i64 (p 0).x, .int .i64 (p 0).y, .int .i64 (p 0).z, .int .i64 (p 1).x, .int .i64 (p 1).y, .int .i64 (p 1).z, .int .i64 (p 2).x, .int .i64 (p 2).y, .int .i64 (p 2).z, .int .i64 (p 3).x, .int .i64 (p 3).y, .int .i64 (p 3).z] := Blk.new _ _ _ _ rfl
      have hB3 : Below w.heap.size w ((grow wr xg).alloc (.cells #[.int .i64 (p 0).x, .int .i64 (p 0).y, .int .i64 (p 0).z, .int .i64 (p 1).x, .int .i64 (p 1).y, .int .i64 (p 1).z, .int .i64 (p 2).x, .int .i64 (p 2).y, .int .i64 (p 2).z, .int .i64 (p 3).x, .int .i64 (p 3).y, .int .i64 (p 3).z] 26)) := bel_alloc (bel_grow hBr xg) _
      clear hPr hAr hBr r1
      generalize (grow wr xg).alloc (.cells #[.int .i64 (p 0).x, .int .i64 (p 0).y, .int .i64 (p 0).z, .int .i64 (p 1).x, .int .i64 (p 1).y, .int .i64 (p 1).z, .int .i64 (p 2).x, .int .i64 (p 2).y, .int .i64 (p 2).z, .int .i64 (p 3).x, .int .i64 (p 3).y, .int .i64 (p 3).z] 26) = W3 at *
      generalize (grow wr xg).heap.size = g1 at *
      refine wp_region_lit ?_
      refine load16 rfl _ rfl w.heap.size rfl p hP3 ?_
      simp only [Act.put, List.setIfInBounds_toArray, List.set_cons_succ, List.set_cons_zero]
      go_upto_region 9 with (first | (go_at_call 15; first | ((with_reducible refine (r2.at_ _).mono ?_); rintro e w' ⟨rfl, xg, rfl⟩)) | fail)
      have hP4 : Blk ((grow W3 xg).alloc (.cells #[.int .i64 (p 3).x, .int .i64 (p 3).y, .int .i64 (p 3).z, .int .i64 (p 7).x, .int .i64 (p 7).y, .int .i64 (p 7).z, .int .i64 (p 11).x, .int .i64 (p 11).y, .int .i64 (p 11).z, .int .i64 (p 15).x, .int .i64 (p 15).y, .int .i64 (p 15).z] 26)) w.heap.size 24 (ptsC 16 p) := (hP3.grow xg).alloc _
      have hA4 := (hA3.grow xg).alloc (.cells #[.int .i64 (p 3).x, .int .i64 (p 3).y, .int .i64 (p 3).z, .int .i64 (p 7).x, .int .i64 (p 7).y, .int .i64 (p 7).z, .int .i64 (p 11).x, .int .i64 (p 11).y, .int .i64 (p 11).z, .int .i64 (p 15).x, .int .i64 (p 15).y, .int .i64 (p 15).z] 26)
      have ha4 := (ha3.grow xg).alloc (.cells #[.int .i64 (p 3).x, .int .i64 (p 3).y, .int .i64 (p 3).z, .int .i64 (p 7).x, .int .i64 (p 7).y, .int .i64 (p 7).z, .int .i64 (p 11).x, .int .i64 (p 11).y, .int .i64 (p 11).z, .int .i64 (p 15).x, .int .i64 (p 15).y, .int .i64 (p 15).z] 26)
      have hc4 : Blk ((grow W3 xg).alloc (.cells #[.int .i64 (p 3).x, .int .i64 (p 3).y, .int .i64 (p 3).z, .int .i64 (p 7).x, .int .i64 (p 7).y, .int .i64 (p 7).z, .int .i64 (p 11).x, .int .i64 (p 11).y, .int .i64 (p 11).z, .int .i64 (p 15).x, .int .i64 (p 15).y, .int .i64 (p 15).z] 26)) (grow W3 xg).heap.size 26 #[.int .i64 (p 3).x, .int .i64 (p 3).y, .int .i64 (p 3).z, .int .i64 (p 7).x, .int .i64 (p 7).y, .int .i64 (p 7).z, .int .i64 (p 11).x, .int .i64 (p 11).y, .int .i64 (p 11).z, .int .i64 (p 15).x, .int .i64 (p 15).y, .int .i64 (p 15).z] := Blk.new _ _ _ _ rfl
      have hB4 : Below w.heap.size w ((grow W3 xg).alloc (.cells #[.int .i64 (p 3).x, .int .i64 (p 3).y, .int .i64 (p 3).z, .int .i64 (p 7).x, .int .i64 (p 7).y, .int .i64 (p 7).z, .int .i64 (p 11).x, .int .i64 (p 11).y, .int .i64 (p 11).z, .int .i64 (p 15).x, .int .i64 (p 15).y, .int .i64 (p 15).z] 26)) := bel_alloc (bel_grow hB3 xg) _
      clear hP3 hA3 ha3 hB3 r2
      generalize (grow W3 xg).alloc (.cells #[.int .i64 (p 3).x, .int .i64 (p 3).y, .int .i64 (p 3).z, .int .i64 (p 7).x, .int .i64 (p 7).y, .int .i64 (p 7).z, .int .i64 (p 11).x, .int .i64 (p 11).y, .int .i64 (p 11).z, .int .i64 (p 15).x, .int .i64 (p 15).y, .int .i64 (p 15).z] 26) = W4 at *
      generalize (grow W3 xg).heap.size = g2 at *
      obtain ⟨c1, c2, c3⟩ := ptsB hP4 (k := 0) (by omega)
      have d1 : W4.cell? ⟨w.heap.size, 0, none⟩ = some (.int .i64 (p 0).x) := c1
      have d2 : W4.cell? ⟨w.heap.size, 1, none⟩ = some (.int .i64 (p 0).y) := c2
      have d3 : W4.cell? ⟨w.heap.size, 2, none⟩ = some (.int .i64 (p 0).z) := c3
      clear c1 c2 c3
      have xa0 := ha4.cell 0
      have xa1 := ha4.cell 1
      have xa2 := ha4.cell 2
      have xa3 := ha4.cell 9
      have xa4 := ha4.cell 10
      have xa5 := ha4.cell 11
      have xc0 := hc4.cell 0
      have xc1 := hc4.cell 1
      have xc2 := hc4.cell 2
      have xt := hA4.cell 0
      have lp := hP4.lt
      have lt_ := hA4.lt
      have la := ha4.lt
      have lc := hc4.lt
      refine wp_region_grow (by kernel_rfl) (by kernel_rfl) ?_
      repeat (go_big_quiet_step (((fail))))
      refine wpQuiet_nil ?_
      rintro _ ⟨xr, rfl⟩
      have hP5 := hP4.grow xr
      have hA5 := hA4.grow xr
      have hB5 := bel_grow hB4 xr
      clear hP4 hA4 ha4 hc4 hB4 d1 d2 d3 xa0 xa1 xa2 xa3 xa4 xa5 xc0 xc1 xc2 xt lp lt_ la lc
      generalize grow W4 xr = W5 at *
      go_wp2
      go_roundw
      case rel => exact ⟨1, .inr (.inl ⟨rfl, rfl⟩), hB5, hP5, hA5⟩
      case measure => simp [intOf]
    · have r1 : Gives Try.prog 15 #[.agg (ptsC 16 p), .int .i64 1] (.agg #[.int .i64 (p 3).x, .int .i64 (p 3).y, .int .i64 (p 3).z, .int .i64 (p 7).x, .int .i64 (p 7).y, .int .i64 (p 7).z, .int .i64 (p 11).x, .int .i64 (p 11).y, .int .i64 (p 11).z, .int .i64 (p 15).x, .int .i64 (p 15).y, .int .i64 (p 15).z]) := vRow_any p 1
      have r2 : Gives Try.prog 15 #[.agg (ptsC 16 p), .int .i64 2] (.agg #[.int .i64 (p 15).x, .int .i64 (p 15).y, .int .i64 (p 15).z, .int .i64 (p 14).x, .int .i64 (p 14).y, .int .i64 (p 14).z, .int .i64 (p 13).x, .int .i64 (p 13).y, .int .i64 (p 13).z, .int .i64 (p 12).x, .int .i64 (p 12).y, .int .i64 (p 12).z]) := vRow_any p 2
      go_upto_region 7 with (fail)
      refine wp_region_lit ?_
      refine load16 rfl _ rfl w.heap.size rfl p hPr ?_
      simp only [Act.put, List.setIfInBounds_toArray, List.set_cons_succ, List.set_cons_zero]
      go_upto_region 8 with (first | (go_at_call 15; first | ((with_reducible refine (r1.at_ _).mono ?_); rintro e w' ⟨rfl, xg, rfl⟩)) | fail)
      have hP3 : Blk ((grow wr xg).alloc (.cells #[.int .i64 (p 3).x, .int .i64 (p 3).y, .int .i64 (p 3).z, .int .i64 (p 7).x, .int .i64 (p 7).y, .int .i64 (p 7).z, .int .i64 (p 11).x, .int .i64 (p 11).y, .int .i64 (p 11).z, .int .i64 (p 15).x, .int .i64 (p 15).y, .int .i64 (p 15).z] 26)) w.heap.size 24 (ptsC 16 p) := (hPr.grow xg).alloc _
      have hA3 := (hAr.grow xg).alloc (.cells #[.int .i64 (p 3).x, .int .i64 (p 3).y, .int .i64 (p 3).z, .int .i64 (p 7).x, .int .i64 (p 7).y, .int .i64 (p 7).z, .int .i64 (p 11).x, .int .i64 (p 11).y, .int .i64 (p 11).z, .int .i64 (p 15).x, .int .i64 (p 15).y, .int .i64 (p 15).z] 26)
      have ha3 : Blk ((grow wr xg).alloc (.cells #[.int .i64 (p 3).x, .int .i64 (p 3).y, .int .i64 (p 3).z, .int .i64 (p 7).x, .int .i64 (p 7).y, .int .i64 (p 7).z, .int .i64 (p 11).x, .int .i64 (p 11).y, .int .i64 (p 11).z, .int .i64 (p 15).x, .int .i64 (p 15).y, .int .i64 (p 15).z] 26)) (grow wr xg).heap.size 26 #[.int .i64 (p 3).x, .int .i64 (p 3).y, .int .i64 (p 3).z, .int .i64 (p 7).x, .int .i64 (p 7).y, .int .i64 (p 7).z, .int .i64 (p 11).x, .int .i64 (p 11).y, .int .i64 (p 11).z, .int .i64 (p 15).x, .int .i64 (p 15).y, .int .i64 (p 15).z] := Blk.new _ _ _ _ rfl
      have hB3 : Below w.heap.size w ((grow wr xg).alloc (.cells #[.int .i64 (p 3).x, .int .i64 (p 3).y, .int .i64 (p 3).z, .int .i64 (p 7).x, .int .i64 (p 7).y, .int .i64 (p 7).z, .int .i64 (p 11).x, .int .i64 (p 11).y, .int .i64 (p 11).z, .int .i64 (p 15).x, .int .i64 (p 15).y, .int .i64 (p 15).z] 26)) := bel_alloc (bel_grow hBr xg) _
      clear hPr hAr hBr r1
      generalize (grow wr xg).alloc (.cells #[.int .i64 (p 3).x, .int .i64 (p 3).y, .int .i64 (p 3).z, .int .i64 (p 7).x, .int .i64 (p 7).y, .int .i64 (p 7).z, .int .i64 (p 11).x, .int .i64 (p 11).y, .int .i64 (p 11).z, .int .i64 (p 15).x, .int .i64 (p 15).y, .int .i64 (p 15).z] 26) = W3 at *
      generalize (grow wr xg).heap.size = g1 at *
      refine wp_region_lit ?_
      refine load16 rfl _ rfl w.heap.size rfl p hP3 ?_
      simp only [Act.put, List.setIfInBounds_toArray, List.set_cons_succ, List.set_cons_zero]
      go_upto_region 9 with (first | (go_at_call 15; first | ((with_reducible refine (r2.at_ _).mono ?_); rintro e w' ⟨rfl, xg, rfl⟩)) | fail)
      have hP4 : Blk ((grow W3 xg).alloc (.cells #[.int .i64 (p 15).x, .int .i64 (p 15).y, .int .i64 (p 15).z, .int .i64 (p 14).x, .int .i64 (p 14).y, .int .i64 (p 14).z, .int .i64 (p 13).x, .int .i64 (p 13).y, .int .i64 (p 13).z, .int .i64 (p 12).x, .int .i64 (p 12).y, .int .i64 (p 12).z] 26)) w.heap.size 24 (ptsC 16 p) := (hP3.grow xg).alloc _
      have hA4 := (hA3.grow xg).alloc (.cells #[.int .i64 (p 15).x, .int .i64 (p 15).y, .int .i64 (p 15).z, .int .i64 (p 14).x, .int .i64 (p 14).y, .int .i64 (p 14).z, .int .i64 (p 13).x, .int .i64 (p 13).y, .int .i64 (p 13).z, .int .i64 (p 12).x, .int .i64 (p 12).y, .int .i64 (p 12).z] 26)
      have ha4 := (ha3.grow xg).alloc (.cells #[.int .i64 (p 15).x, .int .i64 (p 15).y, .int .i64 (p 15).z, .int .i64 (p 14).x, .int .i64 (p 14).y, .int .i64 (p 14).z, .int .i64 (p 13).x, .int .i64 (p 13).y, .int .i64 (p 13).z, .int .i64 (p 12).x, .int .i64 (p 12).y, .int .i64 (p 12).z] 26)
      have hc4 : Blk ((grow W3 xg).alloc (.cells #[.int .i64 (p 15).x, .int .i64 (p 15).y, .int .i64 (p 15).z, .int .i64 (p 14).x, .int .i64 (p 14).y, .int .i64 (p 14).z, .int .i64 (p 13).x, .int .i64 (p 13).y, .int .i64 (p 13).z, .int .i64 (p 12).x, .int .i64 (p 12).y, .int .i64 (p 12).z] 26)) (grow W3 xg).heap.size 26 #[.int .i64 (p 15).x, .int .i64 (p 15).y, .int .i64 (p 15).z, .int .i64 (p 14).x, .int .i64 (p 14).y, .int .i64 (p 14).z, .int .i64 (p 13).x, .int .i64 (p 13).y, .int .i64 (p 13).z, .int .i64 (p 12).x, .int .i64 (p 12).y, .int .i64 (p 12).z] := Blk.new _ _ _ _ rfl
      have hB4 : Below w.heap.size w ((grow W3 xg).alloc (.cells #[.int .i64 (p 15).x, .int .i64 (p 15).y, .int .i64 (p 15).z, .int .i64 (p 14).x, .int .i64 (p 14).y, .int .i64 (p 14).z, .int .i64 (p 13).x, .int .i64 (p 13).y, .int .i64 (p 13).z, .int .i64 (p 12).x, .int .i64 (p 12).y, .int .i64 (p 12).z] 26)) := bel_alloc (bel_grow hB3 xg) _
      clear hP3 hA3 ha3 hB3 r2
      generalize (grow W3 xg).alloc (.cells #[.int .i64 (p 15).x, .int .i64 (p 15).y, .int .i64 (p 15).z, .int .i64 (p 14).x, .int .i64 (p 14).y, .int .i64 (p 14).z, .int .i64 (p 13).x, .int .i64 (p 13).y, .int .i64 (p 13).z, .int .i64 (p 12).x, .int .i64 (p 12).y, .int .i64 (p 12).z] 26) = W4 at *
      generalize (grow W3 xg).heap.size = g2 at *
      obtain ⟨c1, c2, c3⟩ := ptsB hP4 (k := 3) (by omega)
      have d1 : W4.cell? ⟨w.heap.size, 9, none⟩ = some (.int .i64 (p 3).x) := c1
      have d2 : W4.cell? ⟨w.heap.size, 10, none⟩ = some (.int .i64 (p 3).y) := c2
      have d3 : W4.cell? ⟨w.heap.size, 11, none⟩ = some (.int .i64 (p 3).z) := c3
      clear c1 c2 c3
      have xa0 := ha4.cell 0
      have xa1 := ha4.cell 1
      have xa2 := ha4.cell 2
      have xa3 := ha4.cell 9
      have xa4 := ha4.cell 10
      have xa5 := ha4.cell 11
      have xc0 := hc4.cell 0
      have xc1 := hc4.cell 1
      have xc2 := hc4.cell 2
      have xt := hA4.cell 1
      have lp := hP4.lt
      have lt_ := hA4.lt
      have la := ha4.lt
      have lc := hc4.lt
      refine wp_region_grow (by kernel_rfl) (by kernel_rfl) ?_
      repeat (go_big_quiet_step (((fail))))
      refine wpQuiet_nil ?_
      rintro _ ⟨xr, rfl⟩
      have hP5 := hP4.grow xr
      have hA5 := hA4.grow xr
      have hB5 := bel_grow hB4 xr
      clear hP4 hA4 ha4 hc4 hB4 d1 d2 d3 xa0 xa1 xa2 xa3 xa4 xa5 xc0 xc1 xc2 xt lp lt_ la lc
      generalize grow W4 xr = W5 at *
      go_wp2
      go_roundw
      case rel => exact ⟨2, .inr (.inr (.inl ⟨rfl, rfl⟩)), hB5, hP5, hA5⟩
      case measure => simp [intOf]
    · have r1 : Gives Try.prog 15 #[.agg (ptsC 16 p), .int .i64 2] (.agg #[.int .i64 (p 15).x, .int .i64 (p 15).y, .int .i64 (p 15).z, .int .i64 (p 14).x, .int .i64 (p 14).y, .int .i64 (p 14).z, .int .i64 (p 13).x, .int .i64 (p 13).y, .int .i64 (p 13).z, .int .i64 (p 12).x, .int .i64 (p 12).y, .int .i64 (p 12).z]) := vRow_any p 2
      have r2 : Gives Try.prog 15 #[.agg (ptsC 16 p), .int .i64 3] (.agg #[.int .i64 (p 12).x, .int .i64 (p 12).y, .int .i64 (p 12).z, .int .i64 (p 8).x, .int .i64 (p 8).y, .int .i64 (p 8).z, .int .i64 (p 4).x, .int .i64 (p 4).y, .int .i64 (p 4).z, .int .i64 (p 0).x, .int .i64 (p 0).y, .int .i64 (p 0).z]) := vRow_any p 3
      go_upto_region 7 with (fail)
      refine wp_region_lit ?_
      refine load16 rfl _ rfl w.heap.size rfl p hPr ?_
      simp only [Act.put, List.setIfInBounds_toArray, List.set_cons_succ, List.set_cons_zero]
      go_upto_region 8 with (first | (go_at_call 15; first | ((with_reducible refine (r1.at_ _).mono ?_); rintro e w' ⟨rfl, xg, rfl⟩)) | fail)
      have hP3 : Blk ((grow wr xg).alloc (.cells #[.int .i64 (p 15).x, .int .i64 (p 15).y, .int .i64 (p 15).z, .int .i64 (p 14).x, .int .i64 (p 14).y, .int .i64 (p 14).z, .int .i64 (p 13).x, .int .i64 (p 13).y, .int .i64 (p 13).z, .int .i64 (p 12).x, .int .i64 (p 12).y, .int .i64 (p 12).z] 26)) w.heap.size 24 (ptsC 16 p) := (hPr.grow xg).alloc _
      have hA3 := (hAr.grow xg).alloc (.cells #[.int .i64 (p 15).x, .int .i64 (p 15).y, .int .i64 (p 15).z, .int .i64 (p 14).x, .int .i64 (p 14).y, .int .i64 (p 14).z, .int .i64 (p 13).x, .int .i64 (p 13).y, .int .i64 (p 13).z, .int .i64 (p 12).x, .int .i64 (p 12).y, .int .i64 (p 12).z] 26)
      have ha3 : Blk ((grow wr xg).alloc (.cells #[.int .i64 (p 15).x, .int .i64 (p 15).y, .int .i64 (p 15).z, .int .i64 (p 14).x, .int .i64 (p 14).y, .int .i64 (p 14).z, .int .i64 (p 13).x, .int .i64 (p 13).y, .int .i64 (p 13).z, .int .i64 (p 12).x, .int .i64 (p 12).y, .int .i64 (p 12).z] 26)) (grow wr xg).heap.size 26 #[.int .i64 (p 15).x, .int .i64 (p 15).y, .int .i64 (p 15).z, .int .i64 (p 14).x, .int .i64 (p 14).y, .int .i64 (p 14).z, .int .i64 (p 13).x, .int .i64 (p 13).y, .int .i64 (p 13).z, .int .i64 (p 12).x, .int .i64 (p 12).y, .int .i64 (p 12).z] := Blk.new _ _ _ _ rfl
      have hB3 : Below w.heap.size w ((grow wr xg).alloc (.cells #[.int .i64 (p 15).x, .int .i64 (p 15).y, .int .i64 (p 15).z, .int .i64 (p 14).x, .int .i64 (p 14).y, .int .i64 (p 14).z, .int .i64 (p 13).x, .int .i64 (p 13).y, .int .i64 (p 13).z, .int .i64 (p 12).x, .int .i64 (p 12).y, .int .i64 (p 12).z] 26)) := bel_alloc (bel_grow hBr xg) _
      clear hPr hAr hBr r1
      generalize (grow wr xg).alloc (.cells #[.int .i64 (p 15).x, .int .i64 (p 15).y, .int .i64 (p 15).z, .int .i64 (p 14).x, .int .i64 (p 14).y, .int .i64 (p 14).z, .int .i64 (p 13).x, .int .i64 (p 13).y, .int .i64 (p 13).z, .int .i64 (p 12).x, .int .i64 (p 12).y, .int .i64 (p 12).z] 26) = W3 at *
      generalize (grow wr xg).heap.size = g1 at *
      refine wp_region_lit ?_
      refine load16 rfl _ rfl w.heap.size rfl p hP3 ?_
      simp only [Act.put, List.setIfInBounds_toArray, List.set_cons_succ, List.set_cons_zero]
      go_upto_region 9 with (first | (go_at_call 15; first | ((with_reducible refine (r2.at_ _).mono ?_); rintro e w' ⟨rfl, xg, rfl⟩)) | fail)
      have hP4 : Blk ((grow W3 xg).alloc (.cells #[.int .i64 (p 12).x, .int .i64 (p 12).y, .int .i64 (p 12).z, .int .i64 (p 8).x, .int .i64 (p 8).y, .int .i64 (p 8).z, .int .i64 (p 4).x, .int .i64 (p 4).y, .int .i64 (p 4).z, .int .i64 (p 0).x, .int .i64 (p 0).y, .int .i64 (p 0).z] 26)) w.heap.size 24 (ptsC 16 p) := (hP3.grow xg).alloc _
      have hA4 := (hA3.grow xg).alloc (.cells #[.int .i64 (p 12).x, .int .i64 (p 12).y, .int .i64 (p 12).z, .int .i64 (p 8).x, .int .i64 (p 8).y, .int .i64 (p 8).z, .int .i64 (p 4).x, .int .i64 (p 4).y, .int .i64 (p 4).z, .int .i64 (p 0).x, .int .i64 (p 0).y, .int .i64 (p 0).z] 26)
      have ha4 := (ha3.grow xg).alloc (.cells #[.int .i64 (p 12).x, .int .i64 (p 12).y, .int .i64 (p 12).z, .int .i64 (p 8).x, .int .i64 (p 8).y, .int .i64 (p 8).z, .int .i64 (p 4).x, .int .i64 (p 4).y, .int .i64 (p 4).z, .int .i64 (p 0).x, .int .i64 (p 0).y, .int .i64 (p 0).z] 26)
      have hc4 : Blk ((grow W3 xg).alloc (.cells #[.int .i64 (p 12).x, .int .i64 (p 12).y, .int .i64 (p 12).z, .int .i64 (p 8).x, .int .i64 (p 8).y, .int .i64 (p 8).z, .int .i64 (p 4).x, .int .i64 (p 4).y, .int .i64 (p 4).z, .int .i64 (p 0).x, .int .i64 (p 0).y, .int .i64 (p 0).z] 26)) (grow W3 xg).heap.size 26 #[.int .i64 (p 12).x, .int .i64 (p 12).y, .int .i64 (p 12).z, .int .i64 (p 8).x, .int .i64 (p 8).y, .int .i64 (p 8).z, .int .i64 (p 4).x, .int .i64 (p 4).y, .int .i64 (p 4).z, .int .i64 (p 0).x, .int .i64 (p 0).y, .int .i64 (p 0).z] := Blk.new _ _ _ _ rfl
      have hB4 : Below w.heap.size w ((grow W3 xg).alloc (.cells #[.int .i64 (p 12).x, .int .i64 (p 12).y, .int .i64 (p 12).z, .int .i64 (p 8).x, .int .i64 (p 8).y, .int .i64 (p 8).z, .int .i64 (p 4).x, .int .i64 (p 4).y, .int .i64 (p 4).z, .int .i64 (p 0).x, .int .i64 (p 0).y, .int .i64 (p 0).z] 26)) := bel_alloc (bel_grow hB3 xg) _
      clear hP3 hA3 ha3 hB3 r2
      generalize (grow W3 xg).alloc (.cells #[.int .i64 (p 12).x, .int .i64 (p 12).y, .int .i64 (p 12).z, .int .i64 (p 8).x, .int .i64 (p 8).y, .int .i64 (p 8).z, .int .i64 (p 4).x, .int .i64 (p 4).y, .int .i64 (p 4).z, .int .i64 (p 0).x, .int .i64 (p 0).y, .int .i64 (p 0).z] 26) = W4 at *
      generalize (grow W3 xg).heap.size = g2 at *
      obtain ⟨c1, c2, c3⟩ := ptsB hP4 (k := 15) (by omega)
      have d1 : W4.cell? ⟨w.heap.size, 45, none⟩ = some (.int .i64 (p 15).x) := c1
      have d2 : W4.cell? ⟨w.heap.size, 46, none⟩ = some (.int .i64 (p 15).y) := c2
      have d3 : W4.cell? ⟨w.heap.size, 47, none⟩ = some (.int .i64 (p 15).z) := c3
      clear c1 c2 c3
      have xa0 := ha4.cell 0
      have xa1 := ha4.cell 1
      have xa2 := ha4.cell 2
      have xa3 := ha4.cell 9
      have xa4 := ha4.cell 10
      have xa5 := ha4.cell 11
      have xc0 := hc4.cell 0
      have xc1 := hc4.cell 1
      have xc2 := hc4.cell 2
      have xt := hA4.cell 2
      have lp := hP4.lt
      have lt_ := hA4.lt
      have la := ha4.lt
      have lc := hc4.lt
      refine wp_region_grow (by kernel_rfl) (by kernel_rfl) ?_
      repeat (go_big_quiet_step (((fail))))
      refine wpQuiet_nil ?_
      rintro _ ⟨xr, rfl⟩
      have hP5 := hP4.grow xr
      have hA5 := hA4.grow xr
      have hB5 := bel_grow hB4 xr
      clear hP4 hA4 ha4 hc4 hB4 d1 d2 d3 xa0 xa1 xa2 xa3 xa4 xa5 xc0 xc1 xc2 xt lp lt_ la lc
      generalize grow W4 xr = W5 at *
      go_wp2
      go_roundw
      case rel => exact ⟨3, .inr (.inr (.inr (.inl ⟨rfl, rfl⟩))), hB5, hP5, hA5⟩
      case measure => simp [intOf]
    · have r1 : Gives Try.prog 15 #[.agg (ptsC 16 p), .int .i64 3] (.agg #[.int .i64 (p 12).x, .int .i64 (p 12).y, .int .i64 (p 12).z, .int .i64 (p 8).x, .int .i64 (p 8).y, .int .i64 (p 8).z, .int .i64 (p 4).x, .int .i64 (p 4).y, .int .i64 (p 4).z, .int .i64 (p 0).x, .int .i64 (p 0).y, .int .i64 (p 0).z]) := vRow_any p 3
      have r2 : Gives Try.prog 15 #[.agg (ptsC 16 p), .int .i64 0] (.agg #[.int .i64 (p 0).x, .int .i64 (p 0).y, .int .i64 (p 0).z, .int .i64 (p 1).x, .int .i64 (p 1).y, .int .i64 (p 1).z, .int .i64 (p 2).x, .int .i64 (p 2).y, .int .i64 (p 2).z, .int .i64 (p 3).x, .int .i64 (p 3).y, .int .i64 (p 3).z]) := vRow_any p 0
      go_upto_region 7 with (fail)
      refine wp_region_lit ?_
      refine load16 rfl _ rfl w.heap.size rfl p hPr ?_
      simp only [Act.put, List.setIfInBounds_toArray, List.set_cons_succ, List.set_cons_zero]
      go_upto_region 8 with (first | (go_at_call 15; first | ((with_reducible refine (r1.at_ _).mono ?_); rintro e w' ⟨rfl, xg, rfl⟩)) | fail)
      have hP3 : Blk ((grow wr xg).alloc (.cells #[.int .i64 (p 12).x, .int .i64 (p 12).y, .int .i64 (p 12).z, .int .i64 (p 8).x, .int .i64 (p 8).y, .int .i64 (p 8).z, .int .i64 (p 4).x, .int .i64 (p 4).y, .int .i64 (p 4).z, .int .i64 (p 0).x, .int .i64 (p 0).y, .int .i64 (p 0).z] 26)) w.heap.size 24 (ptsC 16 p) := (hPr.grow xg).alloc _
      have hA3 := (hAr.grow xg).alloc (.cells #[.int .i64 (p 12).x, .int .i64 (p 12).y, .int .i64 (p 12).z, .int .i64 (p 8).x, .int .i64 (p 8).y, .int .i64 (p 8).z, .int .i64 (p 4).x, .int .i64 (p 4).y, .int .i64 (p 4).z, .int .i64 (p 0).x, .int .i64 (p 0).y, .int .i64 (p 0).z] 26)
      have ha3 : Blk ((grow wr xg).alloc (.cells #[.int .i64 (p 12).x, .int .i64 (p 12).y, .int .i64 (p 12).z, .int .i64 (p 8).x, .int .i64 (p 8).y, .int .i64 (p 8).z, .int .i64 (p 4).x, .int .i64 (p 4).y, .int .i64 (p 4).z, .int .i64 (p 0).x, .int .i64 (p 0).y, .int .i64 (p 0).z] 26)) (grow wr xg).heap.size 26 #[.int .i64 (p 12).x, .int .i64 (p 12).y, .int .i64 (p 12).z, .int .i64 (p 8).x, .int .i64 (p 8).y, .int .i64 (p 8).z, .int .i64 (p 4).x, .int .i64 (p 4).y, .int .i64 (p 4).z, .int .i64 (p 0).x, .int .i64 (p 0).y, .int .i64 (p 0).z] := Blk.new _ _ _ _ rfl
      have hB3 : Below w.heap.size w ((grow wr xg).alloc (.cells #[.int .i64 (p 12).x, .int .i64 (p 12).y, .int .i64 (p 12).z, .int .i64 (p 8).x, .int .i64 (p 8).y, .int .i64 (p 8).z, .int .i64 (p 4).x, .int .i64 (p 4).y, .int .i64 (p 4).z, .int .i64 (p 0).x, .int .i64 (p 0).y, .int .i64 (p 0).z] 26)) := bel_alloc (bel_grow hBr xg) _
      clear hPr hAr hBr r1
      generalize (grow wr xg).alloc (.cells #[.int .i64 (p 12).x, .int .i64 (p 12).y, .int .i64 (p 12).z, .int .i64 (p 8).x, .int .i64 (p 8).y, .int .i64 (p 8).z, .int .i64 (p 4).x, .int .i64 (p 4).y, .int .i64 (p 4).z, .int .i64 (p 0).x, .int .i64 (p 0).y, .int .i64 (p 0).z] 26) = W3 at *
      generalize (grow wr xg).heap.size = g1 at *
      refine wp_region_lit ?_
      refine load16 rfl _ rfl w.heap.size rfl p hP3 ?_
      simp only [Act.put, List.setIfInBounds_toArray, List.set_cons_succ, List.set_cons_zero]
      go_upto_region 9 with (first | (go_at_call 15; first | ((with_reducible refine (r2.at_ _).mono ?_); rintro e w' ⟨rfl, xg, rfl⟩)) | fail)
      have hP4 : Blk ((grow W3 xg).alloc (.cells #[.int .i64 (p 0).x, .int .i64 (p 0).y, .int .i64 (p 0).z, .int .i64 (p 1).x, .int .i64 (p 1).y, .int .i64 (p 1).z, .int .i64 (p 2).x, .int .i64 (p 2).y, .int .i64 (p 2).z, .int .i64 (p 3).x, .int .i64 (p 3).y, .int .i64 (p 3).z] 26)) w.heap.size 24 (ptsC 16 p) := (hP3.grow xg).alloc _
      have hA4 := (hA3.grow xg).alloc (.cells #[.int .i64 (p 0).x, .int .i64 (p 0).y, .int .i64 (p 0).z, .int .i64 (p 1).x, .int .i64 (p 1).y, .int .i64 (p 1).z, .int .i64 (p 2).x, .int .i64 (p 2).y, .int .i64 (p 2).z, .int .i64 (p 3).x, .int .i64 (p 3).y, .int .i64 (p 3).z] 26)
      have ha4 := (ha3.grow xg).alloc (.cells #[.int .i64 (p 0).x, .int .i64 (p 0).y, .int .i64 (p 0).z, .int .i64 (p 1).x, .int .i64 (p 1).y, .int .i64 (p 1).z, .int .i64 (p 2).x, .int .i64 (p 2).y, .int .i64 (p 2).z, .int .i64 (p 3).x, .int .i64 (p 3).y, .int .i64 (p 3).z] 26)
      have hc4 : Blk ((grow W3 xg).alloc (.cells #[.int .i64 (p 0).x, .int .i64 (p 0).y, .int .i64 (p 0).z, .int .i64 (p 1).x, .int .i64 (p 1).y, .int .i64 (p 1).z, .int .i64 (p 2).x, .int .i64 (p 2).y, .int .i64 (p 2).z, .int .i64 (p 3).x, .int .i64 (p 3).y, .int .i64 (p 3).z] 26)) (grow W3 xg).heap.size 26 #[.int .i64 (p 0).x, .int .i64 (p 0).y, .int .i64 (p 0).z, .int .i64 (p 1).x, .int .i64 (p 1).y, .int .i64 (p 1).z, .int .i64 (p 2).x, .int .i64 (p 2).y, .int .i64 (p 2).z, .int .i64 (p 3).x, .int .i64 (p 3).y, .int .i64 (p 3).z] := Blk.new _ _ _ _ rfl
      have hB4 : Below w.heap.size w ((grow W3 xg).alloc (.cells #[.int .i64 (p 0).x, .int .i64 (p 0).y, .int .i64 (p 0).z, .int .i64 (p 1).x, .int .i64 (p 1).y, .int .i64 (p 1).z, .int .i64 (p 2).x, .int .i64 (p 2).y, .int .i64 (p 2).z, .int .i64 (p 3).x, .int .i64 (p 3).y, .int .i64 (p 3).z] 26)) := bel_alloc (bel_grow hB3 xg) _
      clear hP3 hA3 ha3 hB3 r2
      generalize (grow W3 xg).alloc (.cells #[.int .i64 (p 0).x, .int .i64 (p 0).y, .int .i64 (p 0).z, .int .i64 (p 1).x, .int .i64 (p 1).y, .int .i64 (p 1).z, .int .i64 (p 2).x, .int .i64 (p 2).y, .int .i64 (p 2).z, .int .i64 (p 3).x, .int .i64 (p 3).y, .int .i64 (p 3).z] 26) = W4 at *
      generalize (grow W3 xg).heap.size = g2 at *
      obtain ⟨c1, c2, c3⟩ := ptsB hP4 (k := 12) (by omega)
      have d1 : W4.cell? ⟨w.heap.size, 36, none⟩ = some (.int .i64 (p 12).x) := c1
      have d2 : W4.cell? ⟨w.heap.size, 37, none⟩ = some (.int .i64 (p 12).y) := c2
      have d3 : W4.cell? ⟨w.heap.size, 38, none⟩ = some (.int .i64 (p 12).z) := c3
      clear c1 c2 c3
      have xa0 := ha4.cell 0
      have xa1 := ha4.cell 1
      have xa2 := ha4.cell 2
      have xa3 := ha4.cell 9
      have xa4 := ha4.cell 10
      have xa5 := ha4.cell 11
      have xc0 := hc4.cell 0
      have xc1 := hc4.cell 1
      have xc2 := hc4.cell 2
      have xt := hA4.cell 3
      have lp := hP4.lt
      have lt_ := hA4.lt
      have la := ha4.lt
      have lc := hc4.lt
      refine wp_region_grow (by kernel_rfl) (by kernel_rfl) ?_
      repeat (go_big_quiet_step (((fail))))
      refine wpQuiet_nil ?_
      rintro _ ⟨xr, rfl⟩
      have hP5 := hP4.grow xr
      have hA5 := hA4.grow xr
      have hB5 := bel_grow hB4 xr
      clear hP4 hA4 ha4 hc4 hB4 d1 d2 d3 xa0 xa1 xa2 xa3 xa4 xa5 xc0 xc1 xc2 xt lp lt_ la lc
      generalize grow W4 xr = W5 at *
      go_wp2
      go_roundw
      case rel => exact ⟨4, .inr (.inr (.inr (.inr ⟨rfl, rfl⟩))), hB5, hP5, hA5⟩
      case measure => simp [intOf]
    · go_upto_region 11 with (fail)
      refine wp_region_lit ?_
      refine load16 rfl _ rfl w.heap.size rfl p hPr ?_
      simp only [Act.put, List.setIfInBounds_toArray, List.set_cons_succ, List.set_cons_zero]
      go_upto_region 12 with (first | (go_at_call 13; first | ((with_reducible refine (k1.at_ _).mono ?_); rintro e w' ⟨rfl, xg, rfl⟩)) | fail)
      have hP3 : Blk ((grow wr xg).alloc (.cells #[.int .i64 A.x, .int .i64 A.y, .int .i64 A.z] 23)) w.heap.size 24 (ptsC 16 p) := (hPr.grow xg).alloc _
      have ha3 : Blk ((grow wr xg).alloc (.cells #[.int .i64 A.x, .int .i64 A.y, .int .i64 A.z] 23)) (grow wr xg).heap.size 23 #[.int .i64 A.x, .int .i64 A.y, .int .i64 A.z] := Blk.new _ _ _ _ rfl
      have hB3 : Below w.heap.size w ((grow wr xg).alloc (.cells #[.int .i64 A.x, .int .i64 A.y, .int .i64 A.z] 23)) := bel_alloc (bel_grow hBr xg) _
      clear hPr hAr hBr k1
      generalize (grow wr xg).alloc (.cells #[.int .i64 A.x, .int .i64 A.y, .int .i64 A.z] 23) = W3 at *
      generalize (grow wr xg).heap.size = g1 at *
      refine wp_region_lit ?_
      refine load16 rfl _ rfl w.heap.size rfl p hP3 ?_
      simp only [Act.put, List.setIfInBounds_toArray, List.set_cons_succ, List.set_cons_zero]
      go_upto_region 13 with (first | (go_at_call 13; first | ((with_reducible refine (k2.at_ _).mono ?_); rintro e w' ⟨rfl, xg, rfl⟩)) | fail)
      have hP4 : Blk ((grow W3 xg).alloc (.cells #[.int .i64 B.x, .int .i64 B.y, .int .i64 B.z] 23)) w.heap.size 24 (ptsC 16 p) := (hP3.grow xg).alloc _
      have ha4 := (ha3.grow xg).alloc (.cells #[.int .i64 B.x, .int .i64 B.y, .int .i64 B.z] 23)
      have hb4 : Blk ((grow W3 xg).alloc (.cells #[.int .i64 B.x, .int .i64 B.y, .int .i64 B.z] 23)) (grow W3 xg).heap.size 23 #[.int .i64 B.x, .int .i64 B.y, .int .i64 B.z] := Blk.new _ _ _ _ rfl
      have hB4 : Below w.heap.size w ((grow W3 xg).alloc (.cells #[.int .i64 B.x, .int .i64 B.y, .int .i64 B.z] 23)) := bel_alloc (bel_grow hB3 xg) _
      clear hP3 ha3 hB3 k2
      generalize (grow W3 xg).alloc (.cells #[.int .i64 B.x, .int .i64 B.y, .int .i64 B.z] 23) = W4 at *
      generalize (grow W3 xg).heap.size = g2 at *
      obtain ⟨c1, c2, c3⟩ := ptsB hP4 (k := 0) (by omega)
      obtain ⟨e1, e2, e3⟩ := ptsB hP4 (k := 15) (by omega)
      have d1 : W4.cell? ⟨w.heap.size, 0, none⟩ = some (.int .i64 (p 0).x) := c1
      have d2 : W4.cell? ⟨w.heap.size, 1, none⟩ = some (.int .i64 (p 0).y) := c2
      have d3 : W4.cell? ⟨w.heap.size, 2, none⟩ = some (.int .i64 (p 0).z) := c3
      have f1 : W4.cell? ⟨w.heap.size, 45, none⟩ = some (.int .i64 (p 15).x) := e1
      have f2 : W4.cell? ⟨w.heap.size, 46, none⟩ = some (.int .i64 (p 15).y) := e2
      have f3 : W4.cell? ⟨w.heap.size, 47, none⟩ = some (.int .i64 (p 15).z) := e3
      clear c1 c2 c3 e1 e2 e3
      have xa0 := ha4.cell 0
      have xa1 := ha4.cell 1
      have xa2 := ha4.cell 2
      have xb0 := hb4.cell 0
      have xb1 := hb4.cell 1
      have xb2 := hb4.cell 2
      have lp := hP4.lt
      have la := ha4.lt
      have lb := hb4.lt
      clear hP4 ha4 hb4
      rcases hX.out with rfl | ⟨rfl, rfl⟩ <;> rcases hY.out with rfl | ⟨rfl, rfl⟩
      all_goals
        go_wp2
        go_ret
        exact ⟨rfl, hB4⟩

theorem own : ownKnob Try.prog.godebug = none := by kernel_rfl
set_option maxRecDepth 100000 in
theorem lifted (os : Os) (started : os.Started) (H : Type) (enc : TypeId × Value → H) :
    ReturnsInHanded {} Try.checked os 9 .any (Rows.curveCornersSpec.pre6 enc Try.prog Try.f9 Rows.curveCornersRow.domain false) (Rows.curveCornersSpec.post enc Try.prog Try.f9 false true false false) := by
  refine returnsInHanded_of_change (C := Try.checked) own started (by kernel_rfl) Try.func9
    (ChangeSpec.witness6 (enc := enc) (C := Try.checked) false ⟨#[], #[.agg #[.int .i64 0, .int .i64 0, .int .i64 0, .int .i64 0, .int .i64 0, .int .i64 0, .int .i64 0, .int .i64 0, .int .i64 0, .int .i64 0, .int .i64 0, .int .i64 0, .int .i64 0, .int .i64 0, .int .i64 0, .int .i64 0, .int .i64 0, .int .i64 0, .int .i64 0, .int .i64 0, .int .i64 0, .int .i64 0, .int .i64 0, .int .i64 0, .int .i64 0, .int .i64 0, .int .i64 0, .int .i64 0, .int .i64 0, .int .i64 0, .int .i64 0, .int .i64 0, .int .i64 0, .int .i64 0, .int .i64 0, .int .i64 0, .int .i64 0, .int .i64 0, .int .i64 0, .int .i64 0, .int .i64 0, .int .i64 0, .int .i64 0, .int .i64 0, .int .i64 0, .int .i64 0, .int .i64 0, .int .i64 0], .int .i64 0], []⟩ 12 (by kernel_rfl) (by kernel_rfl) (by kernel_rfl) (by kernel_rfl)) ?_
  intro W base args ds gs before hval0 hW hcnd _
  have hval : ∀ (j : Nat) t v, Try.f9.params[j]? = some t → args[j]? = some v → Value.okWide Try.prog W .any base t v := hval0
  have hW' := hW
  obtain ⟨p, q, hA0, hV, rfl, hfz, hnd⟩ := hW
  have hA : DataW.TrodAll enc Try.prog W 0 (fun _ => true) true Try.f9.params.toList args.toList ds p := hA0
  rw [Try.params9] at hA hval
  obtain ⟨v0, vs0, d0, ds0, p0, q0, hargs, rfl, rfl, h0, r0⟩ := trodAll_cons hA
  obtain ⟨v1, vs1, d1, ds1, p1, q1, rfl, rfl, rfl, h1, r1⟩ := trodAll_cons r0
  obtain ⟨rfl, rfl, rfl⟩ := trodAll_nil r1
  obtain rfl : args = #[v0, v1] := by cases args; simp_all
  obtain ⟨p0, rfl, k0⟩ := open_A16 (hval 0 24 v0 rfl rfl) h0
  obtain ⟨a1, rfl, b1⟩ := open_int64 (hval 1 3 v1 rfl rfl) h1
  refine (walk W p0 k0 a1 b1).mono fun e W' ⟨he, hb⟩ => ?_
  subst he
  exact ⟨_, rfl, law_post (tb := 4) (by kernel_rfl) (by kernel_rfl) rfl rfl Try.underlying4 rfl rfl rfl hW' hb⟩

theorem over : Rows.curveCornersRow.holds Try.pinned (OpenSpec.ofChange Rows.curveCornersSpec) :=
  OpenClaim.holds_of_wide 9 Try.f9 rfl rfl rfl rfl rfl rfl rfl ⟨rfl, rfl, rfl, rfl, rfl⟩ rfl rfl rfl rfl rfl (by kernel_rfl) Try.func9 (by kernel_rfl)
    (of_decide_eq_true (by kernel_rfl)) (by unfold Func.isWrapper; first | (rw [if_pos (by decide +kernel)]; kernel_rfl) | (rw [if_neg (by decide +kernel)]; exact ⟨rfl, rfl⟩))
    (fun os started H enc _ => lifted os started H enc)

theorem proved : Rows.CurveCornersSaid :=
  over
#print axioms proved
end Go.Proofs.Ytiaikceoodeboab.curveCorners
