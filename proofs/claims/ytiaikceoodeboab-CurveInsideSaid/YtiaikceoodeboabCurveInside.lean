/- CurveInside holds for every input: the row, out of the walk. No condition. -/
import Derived.Test.YtiaikceoodeboabRows
import Derived.Test.YtiaikceoodeboabC3
import Derived.Test.YtiaikceoodeboabC4
import Derived.Test.YtiaikceoodeboabC5
namespace Go.Proofs.Ytiaikceoodeboab.curveInside
open Go.ChangeShapes Go.WideShapes Go.ChangeAt Go.RowKit
set_option linter.unusedVariables false
set_option linter.unusedSimpArgs false
set_option maxRecDepth 100000 in
set_option maxHeartbeats 4000000 in
theorem no (w : World) (p : Nat → P3) (i n j m : Int) (h : ptK p i n j m = false) : Calls Try.prog 6 #[.agg (ptsC 16 p), .int .i64 i, .int .i64 n, .int .i64 j, .int .i64 m] w fun e w' => e = .returned (.bool true) ∧ Below w.heap.size w w' := by
  have al := alive11_any
  have k1 := pt_any p i n j m
  rw [h, ptP_no h] at k1
  have hP0 : Blk (w.alloc (.cells (ptsC 16 p) 24)) w.heap.size 24 (ptsC 16 p) := Blk.new _ _ _ _ rfl
  have hB0 : Below w.heap.size w (w.alloc (.cells (ptsC 16 p) 24)) := bel_alloc (Below.refl _ _) _
  go_enter Try.func6, Try.ntmps6
  go_upto_region 1 with (fail)
  generalize (w.alloc (.cells (ptsC 16 p) 24)) = W0 at *
  go_upto_region 3 with (first | (go_at_call 10; first | ((with_reducible refine (al.at_ _).mono ?_); rintro e w' ⟨rfl, xa, rfl⟩)) | fail)
  have hP1 := hP0.grow xa
  have hB1 := bel_grow hB0 xa
  clear hP0 hB0 al
  generalize grow W0 xa = W1 at *
  refine wp_region_lit ?_
  refine load16 rfl _ rfl w.heap.size rfl p hP1 ?_
  simp only [Act.put, List.setIfInBounds_toArray, List.set_cons_succ, List.set_cons_zero]
  go_wp2_with (first | (go_at_call 13; first | ((with_reducible refine (k1.at_ _).mono ?_); rintro e w' ⟨rfl, xg, rfl⟩)) | fail)
  go_ret
  exact ⟨rfl, bel_trans hB1 (by repeat (first | exact Below.refl _ _ | refine bel_then ?_ _ | refine bel_grow ?_ _ | refine bel_alloc ?_ _ | refine bel_drew ?_ | refine bel_set ?_ (by simp) _ | refine bel_setRow ?_ (by first | omega | (simp; done) | (refine Nat.le_trans ?_ (top_le _ _); simp; done) | (refine Nat.le_succ_of_le (Nat.le_trans ?_ (top_le _ _)); simp; done) | (refine Nat.le_trans ?_ (top_le _ _); simp only [World.size_alloc]; refine Nat.le_succ_of_le (Nat.le_trans ?_ (top_le _ _)); simp; done)) _))⟩
set_option maxRecDepth 100000 in
set_option maxHeartbeats 4000000 in
theorem yes (w : World) (p : Nat → P3) (i n j m : Int) (h : ptK p i n j m = true) : Calls Try.prog 6 #[.agg (ptsC 16 p), .int .i64 i, .int .i64 n, .int .i64 j, .int .i64 m] w fun e w' => e = .returned (.bool true) ∧ Below w.heap.size w w' := by
  have al := alive11_any
  have k1 := pt_any p i n j m
  rw [h] at k1
  have hh := ptK_iff.1 h
  obtain ⟨q, hq⟩ : ∃ q : Nat → Int × Int × Int, q = fun k => ((p k).x, (p k).y, (p k).z) := ⟨_, rfl⟩
  have hbx := boxF_has q 15
  have ix := pt_in part_x hh (lo := (boxF q 15).1.1) (hi := (boxF q 15).2.1) (fun k hk => by have := hbx k (by omega); unfold inP at this; rw [hq] at this ⊢; exact this.1)
  have iy := pt_in part_y hh (lo := (boxF q 15).1.2.1) (hi := (boxF q 15).2.2.1) (fun k hk => by have := hbx k (by omega); unfold inP at this; rw [hq] at this ⊢; exact this.2.1)
  have iz := pt_in part_z hh (lo := (boxF q 15).1.2.2) (hi := (boxF q 15).2.2.2) (fun k hk => by have := hbx k (by omega); unfold inP at this; rw [hq] at this ⊢; exact this.2.2)
  have hin := (inB_iff (boxF q 15).1.1 (boxF q 15).1.2.1 (boxF q 15).1.2.2 (boxF q 15).2.1 (boxF q 15).2.2.1 (boxF q 15).2.2.2 (ptP p i n j m).x (ptP p i n j m).y (ptP p i n j m).z).2 ⟨ix, iy, iz⟩
  have kH := vHas_any (boxF q 15).1.1 (boxF q 15).1.2.1 (boxF q 15).1.2.2 (boxF q 15).2.1 (boxF q 15).2.2.1 (boxF q 15).2.2.2 (ptP p i n j m).x (ptP p i n j m).y (ptP p i n j m).z
  rw [hin] at kH
  have hV : ∀ W : World, Blk W w.heap.size 24 (ptsC 16 p) → VF W (some ⟨w.heap.size, 0, none⟩) 16 q := fun W hb _ => ⟨w.heap.size, 0, rfl, hb.lt, fun k hk => by rw [Nat.zero_add, hq]; exact ptsB hb hk⟩
  have kB : ∀ W : World, Blk W w.heap.size 24 (ptsC 16 p) → _ := fun W hb => vBound_some W (some ⟨w.heap.size, 0, none⟩) 15 16 q (hV W hb) (by omega) (by omega)
  clear hbx ix iy iz hin hV hh h
  generalize (boxF q 15).1.1 = b1 at *
  generalize (boxF q 15).1.2.1 = b2 at *
  generalize (boxF q 15).1.2.2 = b3 at *
  generalize (boxF q 15).2.1 = b4 at *
  generalize (boxF q 15).2.2.1 = b5 at *
  generalize (boxF q 15).2.2.2 = b6 at *
  generalize ptP p i n j m = A at *
  replace hq := Lib.hid hq
  have hP0 : Blk (w.alloc (.cells (ptsC 16 p) 24)) w.heap.size 24 (ptsC 16 p) := Blk.new _ _ _ _ rfl
  have hB0 : Below w.heap.size w (w.alloc (.cells (ptsC 16 p) 24)) := bel_alloc (Below.refl _ _) _
  go_enter Try.func6, Try.ntmps6
  go_upto_region 1 with (fail)
  generalize (w.alloc (.cells (ptsC 16 p) 24)) = W0 at *
  go_upto_region 3 with (first | (go_at_call 10; first | ((with_reducible refine (al.at_ _).mono ?_); rintro e w' ⟨rfl, xa, rfl⟩)) | fail)
  have hP1 := hP0.grow xa
  have hB1 := bel_grow hB0 xa
  clear hP0 hB0 al
  generalize grow W0 xa = W1 at *
  refine wp_region_lit ?_
  refine load16 rfl _ rfl w.heap.size rfl p hP1 ?_
  simp only [Act.put, List.setIfInBounds_toArray, List.set_cons_succ, List.set_cons_zero]
  go_upto_region 6 with (first | (go_at_call 13; first | ((with_reducible refine (k1.at_ _).mono ?_); rintro e w' ⟨rfl, xg, rfl⟩)) | fail)
  have hP2 : Blk ((grow W1 xg).alloc (.cells #[.int .i64 A.x, .int .i64 A.y, .int .i64 A.z] 23)) w.heap.size 24 (ptsC 16 p) := (hP1.grow xg).alloc _
  have hA2 : Blk ((grow W1 xg).alloc (.cells #[.int .i64 A.x, .int .i64 A.y, .int .i64 A.z] 23)) (grow W1 xg).heap.size 23 #[.int .i64 A.x, .int .i64 A.y, .int .i64 A.z] := Blk.new _ _ _ _ rfl
  have hB2 : Below w.heap.size w ((grow W1 xg).alloc (.cells #[.int .i64 A.x, .int .i64 A.y, .int .i64 A.z] 23)) := bel_alloc (bel_grow hB1 xg) _
  generalize (grow W1 xg).alloc (.cells #[.int .i64 A.x, .int .i64 A.y, .int .i64 A.z] 23) = W2 at *
  generalize (grow W1 xg).heap.size = ba at *
  have kB2 := kB W2 hP2
  have pl := hP2.lt
  have z0 := hA2.cell 0
  have z1 := hA2.cell 1
  have z2 := hA2.cell 2
  have zl := hA2.lt
  clear kB k1 hP1 hB1
  go_wp2_with (first | (go_at_call 17; (with_reducible refine kB2.mono ?_); rintro e w' ⟨rfl, xg, rfl⟩) | (go_at_call 18; first | ((with_reducible refine (kH.at_ _).mono ?_); rintro e w' ⟨rfl, xg, rfl⟩)) | fail)
  go_ret
  exact ⟨rfl, bel_trans hB2 (by repeat (first | exact Below.refl _ _ | refine bel_then ?_ _ | refine bel_grow ?_ _ | refine bel_alloc ?_ _ | refine bel_drew ?_ | refine bel_set ?_ (by simp) _ | refine bel_setRow ?_ (by first | omega | (simp; done) | (refine Nat.le_trans ?_ (top_le _ _); simp; done) | (refine Nat.le_succ_of_le (Nat.le_trans ?_ (top_le _ _)); simp; done) | (refine Nat.le_trans ?_ (top_le _ _); simp only [World.size_alloc]; refine Nat.le_succ_of_le (Nat.le_trans ?_ (top_le _ _)); simp; done)) _))⟩
theorem walk (w : World) (p : Nat → P3) (kp : ∀ k, k < 16 → In3 (p k)) (i : Int) (bi : In64 i) (n : Int) (bn : In64 n) (j : Int) (bj : In64 j) (m : Int) (bm : In64 m) : Calls Try.prog 6 #[.agg (ptsC 16 p), .int .i64 i, .int .i64 n, .int .i64 j, .int .i64 m] w fun e w' => e = .returned (.bool true) ∧ Below w.heap.size w w' := by
  cases h : ptK p i n j m
  · exact no w p i n j m h
  · exact yes w p i n j m h

theorem own : ownKnob Try.prog.godebug = none := by kernel_rfl
set_option maxRecDepth 100000 in
theorem lifted (os : Os) (started : os.Started) (H : Type) (enc : TypeId × Value → H) :
    ReturnsInHanded {} Try.checked os 6 .any (Rows.curveInsideSpec.pre6 enc Try.prog Try.f6 Rows.curveInsideRow.domain false) (Rows.curveInsideSpec.post enc Try.prog Try.f6 false true false false) := by
  refine returnsInHanded_of_change (C := Try.checked) own started (by kernel_rfl) Try.func6
    (ChangeSpec.witness6 (enc := enc) (C := Try.checked) false ⟨#[], #[.agg #[.int .i64 0, .int .i64 0, .int .i64 0, .int .i64 0, .int .i64 0, .int .i64 0, .int .i64 0, .int .i64 0, .int .i64 0, .int .i64 0, .int .i64 0, .int .i64 0, .int .i64 0, .int .i64 0, .int .i64 0, .int .i64 0, .int .i64 0, .int .i64 0, .int .i64 0, .int .i64 0, .int .i64 0, .int .i64 0, .int .i64 0, .int .i64 0, .int .i64 0, .int .i64 0, .int .i64 0, .int .i64 0, .int .i64 0, .int .i64 0, .int .i64 0, .int .i64 0, .int .i64 0, .int .i64 0, .int .i64 0, .int .i64 0, .int .i64 0, .int .i64 0, .int .i64 0, .int .i64 0, .int .i64 0, .int .i64 0, .int .i64 0, .int .i64 0, .int .i64 0, .int .i64 0, .int .i64 0, .int .i64 0], .int .i64 0, .int .i64 0, .int .i64 0, .int .i64 0], []⟩ 12 (by kernel_rfl) (by kernel_rfl) (by kernel_rfl) (by kernel_rfl)) ?_
  intro W base args ds gs before hval0 hW hcnd _
  have hval : ∀ (j : Nat) t v, Try.f6.params[j]? = some t → args[j]? = some v → Value.okWide Try.prog W .any base t v := hval0
  have hW' := hW
  obtain ⟨p, q, hA0, hV, rfl, hfz, hnd⟩ := hW
  have hA : DataW.TrodAll enc Try.prog W 0 (fun _ => true) true Try.f6.params.toList args.toList ds p := hA0
  rw [Try.params6] at hA hval
  obtain ⟨v0, vs0, d0, ds0, p0, q0, hargs, rfl, rfl, h0, r0⟩ := trodAll_cons hA
  obtain ⟨v1, vs1, d1, ds1, p1, q1, rfl, rfl, rfl, h1, r1⟩ := trodAll_cons r0
  obtain ⟨v2, vs2, d2, ds2, p2, q2, rfl, rfl, rfl, h2, r2⟩ := trodAll_cons r1
  obtain ⟨v3, vs3, d3, ds3, p3, q3, rfl, rfl, rfl, h3, r3⟩ := trodAll_cons r2
  obtain ⟨v4, vs4, d4, ds4, p4, q4, rfl, rfl, rfl, h4, r4⟩ := trodAll_cons r3
  obtain ⟨rfl, rfl, rfl⟩ := trodAll_nil r4
  obtain rfl : args = #[v0, v1, v2, v3, v4] := by cases args; simp_all
  obtain ⟨p0, rfl, k0⟩ := open_A16 (hval 0 24 v0 rfl rfl) h0
  obtain ⟨a1, rfl, b1⟩ := open_int64 (hval 1 3 v1 rfl rfl) h1
  obtain ⟨a2, rfl, b2⟩ := open_int64 (hval 2 3 v2 rfl rfl) h2
  obtain ⟨a3, rfl, b3⟩ := open_int64 (hval 3 3 v3 rfl rfl) h3
  obtain ⟨a4, rfl, b4⟩ := open_int64 (hval 4 3 v4 rfl rfl) h4
  refine (walk W p0 k0 a1 b1 a2 b2 a3 b3 a4 b4).mono fun e W' ⟨he, hb⟩ => ?_
  subst he
  exact ⟨_, rfl, law_post (tb := 4) (by kernel_rfl) (by kernel_rfl) rfl rfl Try.underlying4 rfl rfl rfl hW' hb⟩

theorem over : Rows.curveInsideRow.holds Try.pinned (OpenSpec.ofChange Rows.curveInsideSpec) :=
  OpenClaim.holds_of_wide 6 Try.f6 rfl rfl rfl rfl rfl rfl rfl ⟨rfl, rfl, rfl, rfl, rfl⟩ rfl rfl rfl rfl rfl (by kernel_rfl) Try.func6 (by kernel_rfl)
    (of_decide_eq_true (by kernel_rfl)) (by unfold Func.isWrapper; first | (rw [if_pos (by decide +kernel)]; kernel_rfl) | (rw [if_neg (by decide +kernel)]; exact ⟨rfl, rfl⟩))
    (fun os started H enc _ => lifted os started H enc)

theorem proved : Rows.CurveInsideSaid :=
  over
#print axioms proved
end Go.Proofs.Ytiaikceoodeboab.curveInside
