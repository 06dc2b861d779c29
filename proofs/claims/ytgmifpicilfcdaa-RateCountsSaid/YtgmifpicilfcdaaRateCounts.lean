/- RateCounts holds for every input: the row, out of the walk. No condition. -/
import Derived.Test.YtgmifpicilfcdaaRows
import Derived.Test.YtgmifpicilfcdaaC4
import Derived.Test.YtgmifpicilfcdaaC5
namespace Go.Proofs.Ytgmifpicilfcdaa.rateCounts
open Go.ChangeShapes Go.WideShapes Go.ChangeAt Go.RowKit
set_option linter.unusedVariables false
set_option linter.unusedSimpArgs false
set_option maxRecDepth 100000 in
set_option maxHeartbeats 4000000 in
theorem walk (w : World) (p : Nat → P3) (kp : ∀ k, k < 16 → In3 (p k)) (u : Int) (bu : In64 u) : Calls Try.prog 3 #[.agg (ptsC 16 p), .int .i64 u] w fun e w' => e = .returned (.bool true) ∧ Below w.heap.size w w' := by
  have al := alive12_any
  have k1 := length_any p
  have k2 := rLength_any p
  have k3 := edge_any p u
  have k4 := rEdge_any p u
  have k5 := sides_any p u
  have k6 := rSides_any p u
  rw [ptsC4] at k1 k2 k3 k4
  unfold sdV at k5 k6
  have s0 : sm16 (edK (rowF p 0) u) := edK_bd _ _
  have s1 : sm16 (edK (rowF p 1) u) := edK_bd _ _
  have s2 : sm16 (edK (rowF p 2) u) := edK_bd _ _
  have s3 : sm16 (edK (rowF p 3) u) := edK_bd _ _
  generalize edK (rowF p 0) u = e0 at *
  generalize edK (rowF p 1) u = e1 at *
  generalize edK (rowF p 2) u = e2 at *
  generalize edK (rowF p 3) u = e3 at *
  generalize edK p u = E at *
  generalize lenK p = LL at *
  generalize okB p 4 = ok at *
  clear kp bu
  have hP0 : Blk (w.alloc (.cells (ptsC 16 p) 24)) w.heap.size 24 (ptsC 16 p) := Blk.new _ _ _ _ rfl
  have hB0 : Below w.heap.size w (w.alloc (.cells (ptsC 16 p) 24)) := bel_alloc (Below.refl _ _) _
  go_enter Try.func3, Try.ntmps3
  go_upto_region 1 with (fail)
  generalize (w.alloc (.cells (ptsC 16 p) 24)) = W0 at *
  go_upto_region 3 with (first | (go_at_call 7; first | ((with_reducible refine (al.at_ _).mono ?_); rintro e w' ⟨rfl, xa, rfl⟩)) | fail)
  have hP1 := hP0.grow xa
  have hB1 := bel_grow hB0 xa
  clear hP0 hB0 al
  generalize grow W0 xa = W1 at *
  have pl := hP1.lt
  have c0 := (ptsB hP1 (show 0 < 16 by omega)).1
  have c1 := (ptsB hP1 (show 0 < 16 by omega)).2.1
  have c2 := (ptsB hP1 (show 0 < 16 by omega)).2.2
  have c3 := (ptsB hP1 (show 1 < 16 by omega)).1
  have c4 := (ptsB hP1 (show 1 < 16 by omega)).2.1
  have c5 := (ptsB hP1 (show 1 < 16 by omega)).2.2
  have c6 := (ptsB hP1 (show 2 < 16 by omega)).1
  have c7 := (ptsB hP1 (show 2 < 16 by omega)).2.1
  have c8 := (ptsB hP1 (show 2 < 16 by omega)).2.2
  have c9 := (ptsB hP1 (show 3 < 16 by omega)).1
  have c10 := (ptsB hP1 (show 3 < 16 by omega)).2.1
  have c11 := (ptsB hP1 (show 3 < 16 by omega)).2.2
  simp only [Nat.zero_mul, Nat.reduceMul, Nat.reduceAdd] at c0 c1 c2 c3 c4 c5 c6 c7 c8 c9 c10 c11
  go_upto_region 4 with (fail)
  have hC2 : Blk (W1.alloc (.cells #[.int .i64 (p 0).x, .int .i64 (p 0).y, .int .i64 (p 0).z, .int .i64 (p 1).x, .int .i64 (p 1).y, .int .i64 (p 1).z, .int .i64 (p 2).x, .int .i64 (p 2).y, .int .i64 (p 2).z, .int .i64 (p 3).x, .int .i64 (p 3).y, .int .i64 (p 3).z] 26)) W1.heap.size 26 #[.int .i64 (p 0).x, .int .i64 (p 0).y, .int .i64 (p 0).z, .int .i64 (p 1).x, .int .i64 (p 1).y, .int .i64 (p 1).z, .int .i64 (p 2).x, .int .i64 (p 2).y, .int .i64 (p 2).z, .int .i64 (p 3).x, .int .i64 (p 3).y, .int .i64 (p 3).z] := Blk.new _ _ _ _ rfl
  have hP2 : Blk (W1.alloc (.cells #[.int .i64 (p 0).x, .int .i64 (p 0).y, .int .i64 (p 0).z, .int .i64 (p 1).x, .int .i64 (p 1).y, .int .i64 (p 1).z, .int .i64 (p 2).x, .int .i64 (p 2).y, .int .i64 (p 2).z, .int .i64 (p 3).x, .int .i64 (p 3).y, .int .i64 (p 3).z] 26)) w.heap.size 24 (ptsC 16 p) := hP1.alloc _
  have hB2 : Below w.heap.size w (W1.alloc (.cells #[.int .i64 (p 0).x, .int .i64 (p 0).y, .int .i64 (p 0).z, .int .i64 (p 1).x, .int .i64 (p 1).y, .int .i64 (p 1).z, .int .i64 (p 2).x, .int .i64 (p 2).y, .int .i64 (p 2).z, .int .i64 (p 3).x, .int .i64 (p 3).y, .int .i64 (p 3).z] 26)) := bel_alloc hB1 _
  clear hP1 hB1 pl c0 c1 c2 c3 c4 c5 c6 c7 c8 c9 c10 c11
  generalize W1.alloc (.cells #[.int .i64 (p 0).x, .int .i64 (p 0).y, .int .i64 (p 0).z, .int .i64 (p 1).x, .int .i64 (p 1).y, .int .i64 (p 1).z, .int .i64 (p 2).x, .int .i64 (p 2).y, .int .i64 (p 2).z, .int .i64 (p 3).x, .int .i64 (p 3).y, .int .i64 (p 3).z] 26) = W2 at *
  generalize W1.heap.size = gc at *
  have cl := hC2.lt
  have c0 := hC2.cell 0
  have c1 := hC2.cell 1
  have c2 := hC2.cell 2
  have c3 := hC2.cell 3
  have c4 := hC2.cell 4
  have c5 := hC2.cell 5
  have c6 := hC2.cell 6
  have c7 := hC2.cell 7
  have c8 := hC2.cell 8
  have c9 := hC2.cell 9
  have c10 := hC2.cell 10
  have c11 := hC2.cell 11
  go_upto_region 6 with (first | (go_at_call 8; first | ((with_reducible refine (k1.at_ _).mono ?_); rintro e w' ⟨rfl, xb, rfl⟩)) | (go_at_call 9; first | ((with_reducible refine (k2.at_ _).mono ?_); rintro e w' ⟨rfl, xc, rfl⟩)) | fail)
  have hP3 := (hP2.grow xb).grow xc
  have hC3 := (hC2.grow xb).grow xc
  have hB3 := bel_grow (bel_grow hB2 xb) xc
  clear hP2 hC2 hB2 cl c0 c1 c2 c3 c4 c5 c6 c7 c8 c9 c10 c11
  simp only [grow_grow] at hP3 hC3 hB3
  generalize grow W2 (xb.then xc) = W3 at *
  have pl := hP3.lt
  have cl := hC3.lt
  have c0 := hC3.cell 0
  have c1 := hC3.cell 1
  have c2 := hC3.cell 2
  have c3 := hC3.cell 3
  have c4 := hC3.cell 4
  have c5 := hC3.cell 5
  have c6 := hC3.cell 6
  have c7 := hC3.cell 7
  have c8 := hC3.cell 8
  have c9 := hC3.cell 9
  have c10 := hC3.cell 10
  have c11 := hC3.cell 11
  cases ok
  all_goals
    refine wp_region_grow (by kernel_rfl) (by kernel_rfl) ?_
    repeat (first | (refine quiet_load16 _ rfl rfl w.heap.size rfl p (fun z hz => by obtain ⟨y, rfl⟩ := hz; first | exact hP3.grow _ | exact (hP3.grow _).grow _) ?_; simp only [Act.put, List.setIfInBounds_toArray, List.set_cons_succ, List.set_cons_zero]) | (refine quiet_eqI _ _ rfl rfl e0 e1 e2 e3 rfl rfl s0 s1 s2 s3 ?_; simp only [Act.put, List.setIfInBounds_toArray, List.set_cons_succ, List.set_cons_zero]) | go_big_quiet_step (((first | with_reducible exact k3.quiet _ | with_reducible exact k3.quiet2 _ _ | with_reducible exact k4.quiet _ | with_reducible exact k4.quiet2 _ _ | with_reducible exact k5.quiet _ | with_reducible exact k5.quiet2 _ _ | with_reducible exact k6.quiet _ | with_reducible exact k6.quiet2 _ _))))
    refine wpQuiet_nil ?_
    rintro _ ⟨xg, rfl⟩
    go_wp2
    go_ret
    exact ⟨rfl, bel_trans hB3 (by repeat (first | exact Below.refl _ _ | refine bel_then ?_ _ | refine bel_grow ?_ _ | refine bel_alloc ?_ _ | refine bel_drew ?_ | refine bel_set ?_ (by simp) _ | refine bel_setRow ?_ (by first | omega | (simp; done) | (refine Nat.le_trans ?_ (top_le _ _); simp; done) | (refine Nat.le_succ_of_le (Nat.le_trans ?_ (top_le _ _)); simp; done) | (refine Nat.le_trans ?_ (top_le _ _); simp only [World.size_alloc]; refine Nat.le_succ_of_le (Nat.le_trans ?_ (top_le _ _)); simp; done)) _))⟩

theorem own : ownKnob Try.prog.godebug = none := by kernel_rfl
set_option maxRecDepth 100000 in
theorem lifted (os : Os) (started : os.Started) (H : Type) (enc : TypeId × Value → H) :
    ReturnsInHanded {} Try.checked os 3 .any (Rows.rateCountsSpec.pre6 enc Try.prog Try.f3 Rows.rateCountsRow.domain false) (Rows.rateCountsSpec.post enc Try.prog Try.f3 false true false false) := by
  refine returnsInHanded_of_change (C := Try.checked) own started (by kernel_rfl) Try.func3
    (ChangeSpec.witness6 (enc := enc) (C := Try.checked) false ⟨#[], #[.agg #[.int .i64 0, .int .i64 0, .int .i64 0, .int .i64 0, .int .i64 0, .int .i64 0, .int .i64 0, .int .i64 0, .int .i64 0, .int .i64 0, .int .i64 0, .int .i64 0, .int .i64 0, .int .i64 0, .int .i64 0, .int .i64 0, .int .i64 0, .int .i64 0, .int .i64 0, .int .i64 0, .int .i64 0, .int .i64 0, .int .i64 0, .int .i64 0, .int .i64 0, .int .i64 0, .int .i64 0, .int .i64 0, .int .i64 0, .int .i64 0, .int .i64 0, .int .i64 0, .int .i64 0, .int .i64 0, .int .i64 0, .int .i64 0, .int .i64 0, .int .i64 0, .int .i64 0, .int .i64 0, .int .i64 0, .int .i64 0, .int .i64 0, .int .i64 0, .int .i64 0, .int .i64 0, .int .i64 0, .int .i64 0], .int .i64 0], []⟩ 12 (by kernel_rfl) (by kernel_rfl) (by kernel_rfl) (by kernel_rfl)) ?_
  intro W base args ds gs before hval0 hW hcnd _
  have hval : ∀ (j : Nat) t v, Try.f3.params[j]? = some t → args[j]? = some v → Value.okWide Try.prog W .any base t v := hval0
  have hW' := hW
  obtain ⟨p, q, hA0, hV, rfl, hfz, hnd⟩ := hW
  have hA : DataW.TrodAll enc Try.prog W 0 (fun _ => true) true Try.f3.params.toList args.toList ds p := hA0
  rw [Try.params3] at hA hval
  obtain ⟨v0, vs0, d0, ds0, p0, q0, hargs, rfl, rfl, h0, r0⟩ := trodAll_cons hA
  obtain ⟨v1, vs1, d1, ds1, p1, q1, rfl, rfl, rfl, h1, r1⟩ := trodAll_cons r0
  obtain ⟨rfl, rfl, rfl⟩ := trodAll_nil r1
  obtain rfl : args = #[v0, v1] := by cases args; simp_all
  obtain ⟨p0, rfl, k0⟩ := open_A16 (hval 0 24 v0 rfl rfl) h0
  obtain ⟨a1, rfl, b1⟩ := open_int64 (hval 1 3 v1 rfl rfl) h1
  refine (walk W p0 k0 a1 b1).mono fun e W' ⟨he, hb⟩ => ?_
  subst he
  exact ⟨_, rfl, law_post (tb := 4) (by kernel_rfl) (by kernel_rfl) rfl rfl Try.underlying4 rfl rfl rfl hW' hb⟩

theorem over : Rows.rateCountsRow.holds Try.pinned (OpenSpec.ofChange Rows.rateCountsSpec) :=
  OpenClaim.holds_of_wide 3 Try.f3 rfl rfl rfl rfl rfl rfl rfl ⟨rfl, rfl, rfl, rfl, rfl⟩ rfl rfl rfl rfl rfl (by kernel_rfl) Try.func3 (by kernel_rfl)
    (of_decide_eq_true (by kernel_rfl)) (by unfold Func.isWrapper; first | (rw [if_pos (by decide +kernel)]; kernel_rfl) | (rw [if_neg (by decide +kernel)]; exact ⟨rfl, rfl⟩))
    (fun os started H enc _ => lifted os started H enc)

theorem proved : Rows.RateCountsSaid :=
  over
#print axioms proved
end Go.Proofs.Ytgmifpicilfcdaa.rateCounts
