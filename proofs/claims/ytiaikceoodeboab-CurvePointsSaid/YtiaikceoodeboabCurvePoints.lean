/- CurvePoints holds for every input: the row, out of the walk. No condition. -/
import Derived.Test.YtiaikceoodeboabRows
import Derived.Test.YtiaikceoodeboabC3
import Derived.Test.YtiaikceoodeboabC4
import Derived.Test.YtiaikceoodeboabC5
namespace Go.Proofs.Ytiaikceoodeboab.curvePoints
open Go.ChangeShapes Go.WideShapes Go.ChangeAt Go.RowKit
set_option linter.unusedVariables false
set_option linter.unusedSimpArgs false
set_option maxRecDepth 100000 in
set_option maxHeartbeats 4000000 in
theorem walk (w : World) (p : Nat → P3) (kp : ∀ k, k < 16 → In3 (p k)) (i : Int) (bi : In64 i) (n : Int) (bn : In64 n) (j : Int) (bj : In64 j) (m : Int) (bm : In64 m) : Calls Try.prog 3 #[.agg (ptsC 16 p), .int .i64 i, .int .i64 n, .int .i64 j, .int .i64 m] w fun e w' => e = .returned (.bool true) ∧ Below w.heap.size w w' := by
  have al := alive11_any
  have k1 : Gives Try.prog 11 #[.agg #[.int .i64 (p 0).x, .int .i64 (p 0).y, .int .i64 (p 0).z, .int .i64 (p 1).x, .int .i64 (p 1).y, .int .i64 (p 1).z, .int .i64 (p 2).x, .int .i64 (p 2).y, .int .i64 (p 2).z, .int .i64 (p 3).x, .int .i64 (p 3).y, .int .i64 (p 3).z], .int .i64 i, .int .i64 n] (.tuple #[.agg #[.int .i64 (cubP p i n).x, .int .i64 (cubP p i n).y, .int .i64 (cubP p i n).z], .bool (cubK p i n)]) := cub_any p i n
  have k2 : Gives Try.prog 12 #[.agg #[.int .i64 (p 0).x, .int .i64 (p 0).y, .int .i64 (p 0).z, .int .i64 (p 1).x, .int .i64 (p 1).y, .int .i64 (p 1).z, .int .i64 (p 2).x, .int .i64 (p 2).y, .int .i64 (p 2).z, .int .i64 (p 3).x, .int .i64 (p 3).y, .int .i64 (p 3).z], .int .i64 i, .int .i64 n] (.tuple #[.agg #[.int .i64 (cubP p i n).x, .int .i64 (cubP p i n).y, .int .i64 (cubP p i n).z], .bool (cubK p i n)]) := rcub_any p i n
  have k3 := pt_any p i n j m
  have k4 := rpt_any p i n j m
  have k5 := vRow_any p i
  have k6 := rRow_any p i
  have hr : ∀ k, k < 4 → In3 (rowF p i k) := fun k hk => by
    unfold rowF
    split
    · exact kp _ (by omega)
    · split
      · exact kp _ (by omega)
      · split
        · exact kp _ (by omega)
        · split
          · exact kp _ (by omega)
          · exact ⟨⟨by decide, by decide⟩, ⟨by decide, by decide⟩, by decide, by decide⟩
  replace hr := Lib.hid hr
  generalize cubP p i n = A at *
  generalize cubK p i n = ka at *
  generalize ptP p i n j m = X at *
  generalize ptK p i n j m = kx at *
  generalize rowF p i = r at *
  have hP0 : Blk (w.alloc (.cells (ptsC 16 p) 24)) w.heap.size 24 (ptsC 16 p) := Blk.new _ _ _ _ rfl
  have hB0 : Below w.heap.size w (w.alloc (.cells (ptsC 16 p) 24)) := bel_alloc (Below.refl _ _) _
  go_enter Try.func3, Try.ntmps3
  go_upto_region 1 with (fail)
  generalize (w.alloc (.cells (ptsC 16 p) 24)) = W0 at *
  go_upto_region 3 with (first | (go_at_call 10; first | ((with_reducible refine (al.at_ _).mono ?_); rintro e w' ⟨rfl, xa, rfl⟩)) | fail)
  have hP1 := hP0.grow xa
  have hB1 := bel_grow hB0 xa
  clear hP0 hB0 al
  generalize grow W0 xa = W1 at *
  have c0x : W1.cell? ⟨w.heap.size, 0, none⟩ = some (.int .i64 (p 0).x) := (ptsB hP1 (k := 0) (by omega)).1
  have c0y : W1.cell? ⟨w.heap.size, 1, none⟩ = some (.int .i64 (p 0).y) := (ptsB hP1 (k := 0) (by omega)).2.1
  have c0z : W1.cell? ⟨w.heap.size, 2, none⟩ = some (.int .i64 (p 0).z) := (ptsB hP1 (k := 0) (by omega)).2.2
  have c1x : W1.cell? ⟨w.heap.size, 3, none⟩ = some (.int .i64 (p 1).x) := (ptsB hP1 (k := 1) (by omega)).1
  have c1y : W1.cell? ⟨w.heap.size, 4, none⟩ = some (.int .i64 (p 1).y) := (ptsB hP1 (k := 1) (by omega)).2.1
  have c1z : W1.cell? ⟨w.heap.size, 5, none⟩ = some (.int .i64 (p 1).z) := (ptsB hP1 (k := 1) (by omega)).2.2
  have c2x : W1.cell? ⟨w.heap.size, 6, none⟩ = some (.int .i64 (p 2).x) := (ptsB hP1 (k := 2) (by omega)).1
  have c2y : W1.cell? ⟨w.heap.size, 7, none⟩ = some (.int .i64 (p 2).y) := (ptsB hP1 (k := 2) (by omega)).2.1
  have c2z : W1.cell? ⟨w.heap.size, 8, none⟩ = some (.int .i64 (p 2).z) := (ptsB hP1 (k := 2) (by omega)).2.2
  have c3x : W1.cell? ⟨w.heap.size, 9, none⟩ = some (.int .i64 (p 3).x) := (ptsB hP1 (k := 3) (by omega)).1
  have c3y : W1.cell? ⟨w.heap.size, 10, none⟩ = some (.int .i64 (p 3).y) := (ptsB hP1 (k := 3) (by omega)).2.1
  have c3z : W1.cell? ⟨w.heap.size, 11, none⟩ = some (.int .i64 (p 3).z) := (ptsB hP1 (k := 3) (by omega)).2.2
  have pl := hP1.lt
  go_upto_region 4 with (fail)
  clear c0x c0y c0z c1x c1y c1z c2x c2y c2z c3x c3y c3z pl
  go_upto_region 6 with (first | (go_at_call 11; first | ((with_reducible refine (k1.at_ _).mono ?_); rintro e w' ⟨rfl, xg, rfl⟩)) | (go_at_call 12; first | ((with_reducible refine (k2.at_ _).mono ?_); rintro e w' ⟨rfl, xh, rfl⟩)) | fail)
  have hP2 : Blk ((grow ((grow (W1.alloc (.cells #[.int .i64 (p 0).x, .int .i64 (p 0).y, .int .i64 (p 0).z, .int .i64 (p 1).x, .int .i64 (p 1).y, .int .i64 (p 1).z, .int .i64 (p 2).x, .int .i64 (p 2).y, .int .i64 (p 2).z, .int .i64 (p 3).x, .int .i64 (p 3).y, .int .i64 (p 3).z] 26)) xg).alloc (.cells #[.int .i64 A.x, .int .i64 A.y, .int .i64 A.z] 23)) xh).alloc (.cells #[.int .i64 A.x, .int .i64 A.y, .int .i64 A.z] 23)) w.heap.size 24 (ptsC 16 p) := ((((hP1.alloc _).grow xg).alloc _).grow xh).alloc _
  have hB2 : Below w.heap.size w ((grow ((grow (W1.alloc (.cells #[.int .i64 (p 0).x, .int .i64 (p 0).y, .int .i64 (p 0).z, .int .i64 (p 1).x, .int .i64 (p 1).y, .int .i64 (p 1).z, .int .i64 (p 2).x, .int .i64 (p 2).y, .int .i64 (p 2).z, .int .i64 (p 3).x, .int .i64 (p 3).y, .int .i64 (p 3).z] 26)) xg).alloc (.cells #[.int .i64 A.x, .int .i64 A.y, .int .i64 A.z] 23)) xh).alloc (.cells #[.int .i64 A.x, .int .i64 A.y, .int .i64 A.z] 23)) := bel_alloc (bel_grow (bel_alloc (bel_grow (bel_alloc hB1 _) _) _) _) _
  have ha : Blk ((grow ((grow (W1.alloc (.cells #[.int .i64 (p 0).x, .int .i64 (p 0).y, .int .i64 (p 0).z, .int .i64 (p 1).x, .int .i64 (p 1).y, .int .i64 (p 1).z, .int .i64 (p 2).x, .int .i64 (p 2).y, .int .i64 (p 2).z, .int .i64 (p 3).x, .int .i64 (p 3).y, .int .i64 (p 3).z] 26)) xg).alloc (.cells #[.int .i64 A.x, .int .i64 A.y, .int .i64 A.z] 23)) xh).alloc (.cells #[.int .i64 A.x, .int .i64 A.y, .int .i64 A.z] 23)) (grow (W1.alloc (.cells #[.int .i64 (p 0).x, .int .i64 (p 0).y, .int .i64 (p 0).z, .int .i64 (p 1).x, .int .i64 (p 1).y, .int .i64 (p 1).z, .int .i64 (p 2).x, .int .i64 (p 2).y, .int .i64 (p 2).z, .int .i64 (p 3).x, .int .i64 (p 3).y, .int .i64 (p 3).z] 26)) xg).heap.size 23 #[.int .i64 A.x, .int .i64 A.y, .int .i64 A.z] := ((Blk.new _ _ _ _ rfl).grow xh).alloc _
  have hb : Blk ((grow ((grow (W1.alloc (.cells #[.int .i64 (p 0).x, .int .i64 (p 0).y, .int .i64 (p 0).z, .int .i64 (p 1).x, .int .i64 (p 1).y, .int .i64 (p 1).z, .int .i64 (p 2).x, .int .i64 (p 2).y, .int .i64 (p 2).z, .int .i64 (p 3).x, .int .i64 (p 3).y, .int .i64 (p 3).z] 26)) xg).alloc (.cells #[.int .i64 A.x, .int .i64 A.y, .int .i64 A.z] 23)) xh).alloc (.cells #[.int .i64 A.x, .int .i64 A.y, .int .i64 A.z] 23)) (grow ((grow (W1.alloc (.cells #[.int .i64 (p 0).x, .int .i64 (p 0).y, .int .i64 (p 0).z, .int .i64 (p 1).x, .int .i64 (p 1).y, .int .i64 (p 1).z, .int .i64 (p 2).x, .int .i64 (p 2).y, .int .i64 (p 2).z, .int .i64 (p 3).x, .int .i64 (p 3).y, .int .i64 (p 3).z] 26)) xg).alloc (.cells #[.int .i64 A.x, .int .i64 A.y, .int .i64 A.z] 23)) xh).heap.size 23 #[.int .i64 A.x, .int .i64 A.y, .int .i64 A.z] := Blk.new _ _ _ _ rfl
  generalize ((grow ((grow (W1.alloc (.cells #[.int .i64 (p 0).x, .int .i64 (p 0).y, .int .i64 (p 0).z, .int .i64 (p 1).x, .int .i64 (p 1).y, .int .i64 (p 1).z, .int .i64 (p 2).x, .int .i64 (p 2).y, .int .i64 (p 2).z, .int .i64 (p 3).x, .int .i64 (p 3).y, .int .i64 (p 3).z] 26)) xg).alloc (.cells #[.int .i64 A.x, .int .i64 A.y, .int .i64 A.z] 23)) xh).alloc (.cells #[.int .i64 A.x, .int .i64 A.y, .int .i64 A.z] 23)) = W2 at *
  generalize (grow ((grow (W1.alloc (.cells #[.int .i64 (p 0).x, .int .i64 (p 0).y, .int .i64 (p 0).z, .int .i64 (p 1).x, .int .i64 (p 1).y, .int .i64 (p 1).z, .int .i64 (p 2).x, .int .i64 (p 2).y, .int .i64 (p 2).z, .int .i64 (p 3).x, .int .i64 (p 3).y, .int .i64 (p 3).z] 26)) xg).alloc (.cells #[.int .i64 A.x, .int .i64 A.y, .int .i64 A.z] 23)) xh).heap.size = gb at *
  generalize (grow (W1.alloc (.cells #[.int .i64 (p 0).x, .int .i64 (p 0).y, .int .i64 (p 0).z, .int .i64 (p 1).x, .int .i64 (p 1).y, .int .i64 (p 1).z, .int .i64 (p 2).x, .int .i64 (p 2).y, .int .i64 (p 2).z, .int .i64 (p 3).x, .int .i64 (p 3).y, .int .i64 (p 3).z] 26)) xg).heap.size = ga at *
  generalize (W1.alloc (.cells #[.int .i64 (p 0).x, .int .i64 (p 0).y, .int .i64 (p 0).z, .int .i64 (p 1).x, .int .i64 (p 1).y, .int .i64 (p 1).z, .int .i64 (p 2).x, .int .i64 (p 2).y, .int .i64 (p 2).z, .int .i64 (p 3).x, .int .i64 (p 3).y, .int .i64 (p 3).z] 26)).heap.size = gc at *
  clear hP1 hB1 k1 k2
  refine wp_region_lit ?_
  refine load16 rfl _ rfl w.heap.size rfl p hP2 ?_
  simp only [Act.put, List.setIfInBounds_toArray, List.set_cons_succ, List.set_cons_zero]
  go_upto_region 7 with (first | (go_at_call 13; first | ((with_reducible refine (k3.at_ _).mono ?_); rintro e w' ⟨rfl, xg, rfl⟩)) | fail)
  have hP3 : Blk ((grow W2 xg).alloc (.cells #[.int .i64 X.x, .int .i64 X.y, .int .i64 X.z] 23)) w.heap.size 24 (ptsC 16 p) := (hP2.grow xg).alloc _
  have ha3 := (ha.grow xg).alloc (.cells #[.int .i64 X.x, .int .i64 X.y, .int .i64 X.z] 23)
  have hb3 := (hb.grow xg).alloc (.cells #[.int .i64 X.x, .int .i64 X.y, .int .i64 X.z] 23)
  have hx3 : Blk ((grow W2 xg).alloc (.cells #[.int .i64 X.x, .int .i64 X.y, .int .i64 X.z] 23)) (grow W2 xg).heap.size 23 #[.int .i64 X.x, .int .i64 X.y, .int .i64 X.z] := Blk.new _ _ _ _ rfl
  have hB3 : Below w.heap.size w ((grow W2 xg).alloc (.cells #[.int .i64 X.x, .int .i64 X.y, .int .i64 X.z] 23)) := bel_alloc (bel_grow hB2 xg) _
  clear hP2 ha hb hB2 k3
  generalize (grow W2 xg).alloc (.cells #[.int .i64 X.x, .int .i64 X.y, .int .i64 X.z] 23) = W3 at *
  generalize (grow W2 xg).heap.size = gx at *
  refine wp_region_lit ?_
  refine load16 rfl _ rfl w.heap.size rfl p hP3 ?_
  simp only [Act.put, List.setIfInBounds_toArray, List.set_cons_succ, List.set_cons_zero]
  go_upto_region 8 with (first | (go_at_call 14; first | ((with_reducible refine (k4.at_ _).mono ?_); rintro e w' ⟨rfl, xg, rfl⟩)) | fail)
  have hP9 : Blk ((grow W3 xg).alloc (.cells #[.int .i64 X.x, .int .i64 X.y, .int .i64 X.z] 23)) w.heap.size 24 (ptsC 16 p) := (hP3.grow xg).alloc _
  have ha4 := (ha3.grow xg).alloc (.cells #[.int .i64 X.x, .int .i64 X.y, .int .i64 X.z] 23)
  have hb4 := (hb3.grow xg).alloc (.cells #[.int .i64 X.x, .int .i64 X.y, .int .i64 X.z] 23)
  have hx4 := (hx3.grow xg).alloc (.cells #[.int .i64 X.x, .int .i64 X.y, .int .i64 X.z] 23)
  have hy4 : Blk ((grow W3 xg).alloc (.cells #[.int .i64 X.x, .int .i64 X.y, .int .i64 X.z] 23)) (grow W3 xg).heap.size 23 #[.int .i64 X.x, .int .i64 X.y, .int .i64 X.z] := Blk.new _ _ _ _ rfl
  have hB4 : Below w.heap.size w ((grow W3 xg).alloc (.cells #[.int .i64 X.x, .int .i64 X.y, .int .i64 X.z] 23)) := bel_alloc (bel_grow hB3 xg) _
  clear hP3 ha3 hb3 hx3 hB3 k4
  generalize (grow W3 xg).alloc (.cells #[.int .i64 X.x, .int .i64 X.y, .int .i64 X.z] 23) = W4 at *
  generalize (grow W3 xg).heap.size = gy at *
  have ha40 := ha4.cell 0
  have ha41 := ha4.cell 1
  have ha42 := ha4.cell 2
  have ha4l := ha4.lt
  have hb40 := hb4.cell 0
  have hb41 := hb4.cell 1
  have hb42 := hb4.cell 2
  have hb4l := hb4.lt
  have hx40 := hx4.cell 0
  have hx41 := hx4.cell 1
  have hx42 := hx4.cell 2
  have hx4l := hx4.lt
  have hy40 := hy4.cell 0
  have hy41 := hy4.cell 1
  have hy42 := hy4.cell 2
  have hy4l := hy4.lt
  refine wp_region_grow (by kernel_rfl) (by kernel_rfl) ?_
  repeat (first | (refine quiet_load16 _ rfl rfl w.heap.size rfl p (fun u hu => by obtain ⟨y, rfl⟩ := hu; first | exact hP9.grow _ | exact (hP9.grow _).grow _) ?_; simp only [Act.put, List.setIfInBounds_toArray, List.set_cons_succ, List.set_cons_zero]) | (refine quiet_eq4 _ _ rfl rfl r rfl rfl hr.out ?_; simp only [Act.put, List.setIfInBounds_toArray, List.set_cons_succ, List.set_cons_zero]) | go_big_quiet_step (((first | with_reducible exact k5.quiet _ | with_reducible exact k5.quiet2 _ _ | with_reducible exact k6.quiet _ | with_reducible exact k6.quiet2 _ _))))
  refine wpQuiet_nil ?_
  rintro _ ⟨xr, rfl⟩
  go_wp2
  go_ret
  exact ⟨rfl, bel_trans hB4 (by repeat (first | exact Below.refl _ _ | refine bel_then ?_ _ | refine bel_grow ?_ _ | refine bel_alloc ?_ _ | refine bel_drew ?_ | refine bel_set ?_ (by simp) _ | refine bel_setRow ?_ (by first | omega | (simp; done) | (refine Nat.le_trans ?_ (top_le _ _); simp; done) | (refine Nat.le_succ_of_le (Nat.le_trans ?_ (top_le _ _)); simp; done) | (refine Nat.le_trans ?_ (top_le _ _); simp only [World.size_alloc]; refine Nat.le_succ_of_le (Nat.le_trans ?_ (top_le _ _)); simp; done)) _))⟩

theorem own : ownKnob Try.prog.godebug = none := by kernel_rfl
set_option maxRecDepth 100000 in
theorem lifted (os : Os) (started : os.Started) (H : Type) (enc : TypeId × Value → H) :
    ReturnsInHanded {} Try.checked os 3 .any (Rows.curvePointsSpec.pre6 enc Try.prog Try.f3 Rows.curvePointsRow.domain false) (Rows.curvePointsSpec.post enc Try.prog Try.f3 false true false false) := by
  refine returnsInHanded_of_change (C := Try.checked) own started (by kernel_rfl) Try.func3
    (ChangeSpec.witness6 (enc := enc) (C := Try.checked) false ⟨#[], #[.agg #[.int .i64 0, .int .i64 0, .int .i64 0, .int .i64 0, .int .i64 0, .int .i64 0, .int .i64 0, .int .i64 0, .int .i64 0, .int .i64 0, .int .i64 0, .int .i64 0, .int .i64 0, .int .i64 0, .int .i64 0, .int .i64 0, .int .i64 0, .int .i64 0, .int .i64 0, .int .i64 0, .int .i64 0, .int .i64 0, .int .i64 0, .int .i64 0, .int .i64 0, .int .i64 0, .int .i64 0, .int .i64 0, .int .i64 0, .int .i64 0, .int .i64 0, .int .i64 0, .int .i64 0, .int .i64 0, .int .i64 0, .int .i64 0, .int .i64 0, .int .i64 0, .int .i64 0, .int .i64 0, .int .i64 0, .int .i64 0, .int .i64 0, .int .i64 0, .int .i64 0, .int .i64 0, .int .i64 0, .int .i64 0], .int .i64 0, .int .i64 0, .int .i64 0, .int .i64 0], []⟩ 12 (by kernel_rfl) (by kernel_rfl) (by kernel_rfl) (by kernel_rfl)) ?_
  intro W base args ds gs before hval0 hW hcnd _
  have hval : ∀ (j : Nat) t v, Try.f3.params[j]? = some t → args[j]? = some v → Value.okWide Try.prog W .any base t v := hval0
  have hW' := hW
  obtain ⟨p, q, hA0, hV, rfl, hfz, hnd⟩ := hW
  have hA : DataW.TrodAll enc Try.prog W 0 (fun _ => true) true Try.f3.params.toList args.toList ds p := hA0
  rw [Try.params3] at hA hval
  obtain ⟨v0, vs0, d0, ds0, p0, q0, hargs, rfl, rfl, h0, r0⟩ := trodAll_cons hA
  obtain ⟨v1, vs1, d1, ds1, p1, q1, rfl, rfl, rfl, h1, r1⟩ := trodAll_cons r0
  obtain ⟨v2, vs2, d2, ds2, p2, q2, rfl, rfl, rfl, h2, r2⟩ := trodAll_cons r1
  obtain ⟨v3, vs3, d3, ds3, p3, q3, rfl, rfl, rfl, h3, r3⟩ := trodAll_cons r2
  obtain ⟨v4, vs4, d4, ds4, p4, q4, rfl, rfl, rfl, h4, r4⟩ := trodAll_cons r3
  obtain ⟨rfl, rfl, rfl⟩ := trodAll_nil r4
  obtain rfl : args = #[v0, v1, v2, v3, v4] := by cases args; simp_all
  obtain ⟨p0, rfl, k0⟩ := open_A16 (hval 0 24 v0 rfl rfl) h0
  obtain ⟨a1, rfl, b1⟩ := open_int64 (hval 1 3 v1 rfl rfl) h1
  obtain ⟨a2, rfl, b2⟩ := open_int64 (hval 2 3 v2 rfl rfl) h2
  obtain ⟨a3, rfl, b3⟩ := open_int64 (hval 3 3 v3 rfl rfl) h3
  obtain ⟨a4, rfl, b4⟩ := open_int64 (hval 4 3 v4 rfl rfl) h4
  refine (walk W p0 k0 a1 b1 a2 b2 a3 b3 a4 b4).mono fun e W' ⟨he, hb⟩ => ?_
  subst he
  exact ⟨_, rfl, law_post (tb := 4) (by kernel_rfl) (by kernel_rfl) rfl rfl Try.underlying4 rfl rfl rfl hW' hb⟩

theorem over : Rows.curvePointsRow.holds Try.pinned (OpenSpec.ofChange Rows.curvePointsSpec) :=
  OpenClaim.holds_of_wide 3 Try.f3 rfl rfl rfl rfl rfl rfl rfl ⟨rfl, rfl, rfl, rfl, rfl⟩ rfl rfl rfl rfl rfl (by kernel_rfl) Try.func3 (by kernel_rfl)
    (of_decide_eq_true (by kernel_rfl)) (by unfold Func.isWrapper; first | (rw [if_pos (by decide +kernel)]; kernel_rfl) | (rw [if_neg (by decide +kernel)]; exact ⟨rfl, rfl⟩))
    (fun os started H enc _ => lifted os started H enc)

theorem proved : Rows.CurvePointsSaid :=
  over
#print axioms proved
end Go.Proofs.Ytiaikceoodeboab.curvePoints
