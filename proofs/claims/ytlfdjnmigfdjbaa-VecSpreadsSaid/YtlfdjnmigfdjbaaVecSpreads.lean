/- VecSpreads holds for every input: the row, out of the walk. No condition. -/
import Derived.Test.YtlfdjnmigfdjbaaRows
import Derived.Test.YtlfdjnmigfdjbaaAlive2
import Derived.Test.YtlfdjnmigfdjbaaOpenV
import Derived.Test.YtlfdjnmigfdjbaaPost
namespace Go.Proofs.Ytlfdjnmigfdjbaa.vecSpreads
open Go.ChangeShapes Go.WideShapes Go.ChangeAt Go.RowKit
set_option linter.unusedVariables false
set_option linter.unusedSimpArgs false
theorem spread (p q a b c d e f : Int) : wrap64 (wrap64 (wrap64 (wrap64 (a + d) * p) + wrap64 (wrap64 (b + e) * q)) + wrap64 (wrap64 (c + f) * 0)) = wrap64 (wrap64 (wrap64 (wrap64 (a * p) + wrap64 (b * q)) + wrap64 (c * 0)) + wrap64 (wrap64 (wrap64 (d * p) + wrap64 (e * q)) + wrap64 (f * 0))) := by
  simp only [wrap_bmod, Int.bmod_add_bmod, Int.add_bmod_bmod, Int.bmod_sub_bmod, Int.sub_bmod_bmod, Int.bmod_mul_bmod, Int.mul_bmod_bmod]
  congr 1; grind
theorem dots (ax ay az bx by_ bz cx cy cz : Int) : wrap64 (wrap64 (wrap64 (wrap64 (ax + bx) * cx) + wrap64 (wrap64 (ay + by_) * cy)) + wrap64 (wrap64 (az + bz) * cz)) =
    wrap64 (wrap64 (wrap64 (wrap64 (ax * cx) + wrap64 (ay * cy)) + wrap64 (az * cz)) + wrap64 (wrap64 (wrap64 (bx * cx) + wrap64 (by_ * cy)) + wrap64 (bz * cz))) := by
  simp only [wrap_bmod, Int.bmod_add_bmod, Int.add_bmod_bmod, Int.bmod_sub_bmod, Int.sub_bmod_bmod, Int.bmod_mul_bmod, Int.mul_bmod_bmod]
  congr 1; grind
theorem crs (p q r s c d : Int) : wrap64 (wrap64 (wrap64 (p + q) * c) - wrap64 (wrap64 (r + s) * d)) = wrap64 (wrap64 (wrap64 (p * c) - wrap64 (r * d)) + wrap64 (wrap64 (q * c) - wrap64 (s * d))) := by
  simp only [wrap_bmod, Int.bmod_add_bmod, Int.add_bmod_bmod, Int.bmod_sub_bmod, Int.sub_bmod_bmod, Int.bmod_mul_bmod, Int.mul_bmod_bmod]
  congr 1; grind
theorem back (a b : Int) (h : In64 a) : wrap64 (wrap64 (a + b) - b) = a := by
  unfold In64 at h; unfold wrap64; omega
set_option maxRecDepth 100000 in
set_option maxHeartbeats 1000000 in
theorem walk (w : World) (ax ay az : Int) (ha : In64 ax ∧ In64 ay ∧ In64 az) (bx by_ bz : Int) (hb : In64 bx ∧ In64 by_ ∧ In64 bz) (cx cy cz : Int) (hc : In64 cx ∧ In64 cy ∧ In64 cz) :
    Calls Try.prog 12 #[.agg #[.int .i64 ax, .int .i64 ay, .int .i64 az], .agg #[.int .i64 bx, .int .i64 by_, .int .i64 bz], .agg #[.int .i64 cx, .int .i64 cy, .int .i64 cz]] w fun e w' => e = .returned (.bool true) ∧ Below w.heap.size w w' := by
  have al := alive2_any
  have s := vAdd_any ax ay az bx by_ bz
  have d1 := vDot_any (wrap64 (ax + bx)) (wrap64 (ay + by_)) (wrap64 (az + bz)) cx cy cz
  have d2 := vDot_any ax ay az cx cy cz
  have d3 := vDot_any bx by_ bz cx cy cz
  have d4 := vDot_any ax ay az bx by_ bz
  have d5 := vDot_any bx by_ bz ax ay az
  have c1 := vCross_any (wrap64 (ax + bx)) (wrap64 (ay + by_)) (wrap64 (az + bz)) cx cy cz
  have c2 := vCross_any ax ay az cx cy cz
  have c3 := vCross_any bx by_ bz cx cy cz
  have s2 := vAdd_any (wrap64 (wrap64 (ay * cz) - wrap64 (az * cy))) (wrap64 (wrap64 (az * cx) - wrap64 (ax * cz))) (wrap64 (wrap64 (ax * cy) - wrap64 (ay * cx))) (wrap64 (wrap64 (by_ * cz) - wrap64 (bz * cy))) (wrap64 (wrap64 (bz * cx) - wrap64 (bx * cz))) (wrap64 (wrap64 (bx * cy) - wrap64 (by_ * cx)))
  have b := vSub_any (wrap64 (ax + bx)) (wrap64 (ay + by_)) (wrap64 (az + bz)) bx by_ bz
  rw [back _ _ ha.1, back _ _ ha.2.1, back _ _ ha.2.2] at b
  rw [dots] at d1
  rw [crs, crs, crs] at c1
  rw [Int.mul_comm bx ax, Int.mul_comm by_ ay, Int.mul_comm bz az] at d5
  generalize wrap64 (ax + bx) = m0 at *
  generalize wrap64 (ay + by_) = m1 at *
  generalize wrap64 (az + bz) = m2 at *
  generalize wrap64 (wrap64 (ay * cz) - wrap64 (az * cy)) = p0 at *
  generalize wrap64 (wrap64 (by_ * cz) - wrap64 (bz * cy)) = q0 at *
  generalize wrap64 (wrap64 (az * cx) - wrap64 (ax * cz)) = p1 at *
  generalize wrap64 (wrap64 (bz * cx) - wrap64 (bx * cz)) = q1 at *
  generalize wrap64 (wrap64 (ax * cy) - wrap64 (ay * cx)) = p2 at *
  generalize wrap64 (wrap64 (bx * cy) - wrap64 (by_ * cx)) = q2 at *
  generalize wrap64 (wrap64 (wrap64 (ax * cx) + wrap64 (ay * cy)) + wrap64 (az * cz)) = u at *
  generalize wrap64 (wrap64 (wrap64 (bx * cx) + wrap64 (by_ * cy)) + wrap64 (bz * cz)) = v at *
  generalize wrap64 (wrap64 (wrap64 (ax * bx) + wrap64 (ay * by_)) + wrap64 (az * bz)) = t at *
  clear ha hb hc
  go_enter Try.func12, Try.ntmps12
  go_wp2_with (first | (go_at_call 34; first | ((with_reducible refine (al.at_ _).mono ?_); rintro e w' ⟨rfl, xg, rfl⟩)) | (go_at_call 35; first | ((with_reducible refine (s.at_ _).mono ?_); rintro e w' ⟨rfl, xg, rfl⟩)))
  refine wp_region_grow (by kernel_rfl) (by kernel_rfl) ?_
  repeat (go_big_quiet_step (((first | with_reducible exact s.quiet _ | with_reducible exact s.quiet2 _ _ | with_reducible exact d1.quiet _ | with_reducible exact d1.quiet2 _ _ | with_reducible exact d2.quiet _ | with_reducible exact d2.quiet2 _ _ | with_reducible exact d3.quiet _ | with_reducible exact d3.quiet2 _ _ | with_reducible exact d4.quiet _ | with_reducible exact d4.quiet2 _ _ | with_reducible exact d5.quiet _ | with_reducible exact d5.quiet2 _ _ | with_reducible exact c1.quiet _ | with_reducible exact c1.quiet2 _ _ | with_reducible exact c2.quiet _ | with_reducible exact c2.quiet2 _ _ | with_reducible exact c3.quiet _ | with_reducible exact c3.quiet2 _ _ | with_reducible exact s2.quiet _ | with_reducible exact s2.quiet2 _ _ | with_reducible exact b.quiet _ | with_reducible exact b.quiet2 _ _))))
  refine wpQuiet_nil ?_
  rintro _ ⟨xg, rfl⟩
  go_wp2_with fail
  go_ret
  exact ⟨rfl, (by repeat (first | exact Below.refl _ _ | refine bel_then ?_ _ | refine bel_grow ?_ _ | refine bel_alloc ?_ _ | refine bel_drew ?_ | refine bel_set ?_ (by simp) _ | refine bel_setRow ?_ (by simp) _))⟩

theorem own : ownKnob Try.prog.godebug = none := by kernel_rfl
set_option maxRecDepth 100000 in
theorem lifted (os : Os) (started : os.Started) (H : Type) (enc : TypeId × Value → H) :
    ReturnsInHanded {} Try.checked os 12 .any (Rows.vecSpreadsSpec.pre6 enc Try.prog Try.f12 Rows.vecSpreadsRow.domain false) (Rows.vecSpreadsSpec.post enc Try.prog Try.f12 false true false false) := by
  refine returnsInHanded_of_change (C := Try.checked) own started (by kernel_rfl) Try.func12
    (ChangeSpec.witness6 (enc := enc) (C := Try.checked) false ⟨#[], #[.agg #[.int .i64 0, .int .i64 0, .int .i64 0], .agg #[.int .i64 0, .int .i64 0, .int .i64 0], .agg #[.int .i64 0, .int .i64 0, .int .i64 0]], []⟩ 12 (by kernel_rfl) (by kernel_rfl) (by kernel_rfl) (by kernel_rfl)) ?_
  intro W base args ds gs before hval0 hW hcnd _
  have hval : ∀ (j : Nat) t v, Try.f12.params[j]? = some t → args[j]? = some v → Value.okWide Try.prog W .any base t v := hval0
  have hW' := hW
  obtain ⟨p, q, hA0, hV, rfl, hfz, hnd⟩ := hW
  have hA : DataW.TrodAll enc Try.prog W 0 (fun _ => true) true Try.f12.params.toList args.toList ds p := hA0
  rw [Try.params12] at hA hval
  obtain ⟨v0, vs0, d0, ds0, p0, q0, hargs, rfl, rfl, h0, r0⟩ := trodAll_cons hA
  obtain ⟨v1, vs1, d1, ds1, p1, q1, rfl, rfl, rfl, h1, r1⟩ := trodAll_cons r0
  obtain ⟨v2, vs2, d2, ds2, p2, q2, rfl, rfl, rfl, h2, r2⟩ := trodAll_cons r1
  obtain ⟨rfl, rfl, rfl⟩ := trodAll_nil r2
  obtain rfl : args = #[v0, v1, v2] := by cases args; simp_all
  obtain ⟨x0, y0, z0, rfl, b0⟩ := open_V (hval 0 51 v0 rfl rfl) h0
  obtain ⟨x1, y1, z1, rfl, b1⟩ := open_V (hval 1 51 v1 rfl rfl) h1
  obtain ⟨x2, y2, z2, rfl, b2⟩ := open_V (hval 2 51 v2 rfl rfl) h2
  refine (walk W x0 y0 z0 b0 x1 y1 z1 b1 x2 y2 z2 b2).mono fun e W' ⟨he, hb⟩ => ?_
  subst he
  exact ⟨_, rfl, law_post (tb := 4) (by kernel_rfl) (by kernel_rfl) rfl rfl Try.underlying4 rfl rfl rfl hW' hb⟩

theorem over : Rows.vecSpreadsRow.holds Try.pinned (OpenSpec.ofChange Rows.vecSpreadsSpec) :=
  OpenClaim.holds_of_wide 12 Try.f12 rfl rfl rfl rfl rfl rfl rfl ⟨rfl, rfl, rfl, rfl, rfl⟩ rfl rfl rfl rfl rfl (by kernel_rfl) Try.func12 (by kernel_rfl)
    (of_decide_eq_true (by kernel_rfl)) (by unfold Func.isWrapper; first | (rw [if_pos (by decide +kernel)]; kernel_rfl) | (rw [if_neg (by decide +kernel)]; exact ⟨rfl, rfl⟩))
    (fun os started H enc _ => lifted os started H enc)

theorem proved : Rows.VecSpreadsSaid :=
  over
#print axioms proved
end Go.Proofs.Ytlfdjnmigfdjbaa.vecSpreads
