/- VecCross holds for every input: the row, out of the walk. No condition. -/
import Derived.Test.YtlfdjnmigfdjbaaRows
import Derived.Test.YtlfdjnmigfdjbaaAlive2
import Derived.Test.YtlfdjnmigfdjbaaOpenV
import Derived.Test.YtlfdjnmigfdjbaaPost
namespace Go.Proofs.Ytlfdjnmigfdjbaa.vecCross
open Go.ChangeShapes Go.WideShapes Go.ChangeAt Go.RowKit
set_option linter.unusedVariables false
set_option linter.unusedSimpArgs false
theorem dotc (ax ay az bx by_ bz : Int) : wrap64 (wrap64 (wrap64 ((wrap64 (wrap64 (ay * bz) - wrap64 (az * by_))) * ax) + wrap64 ((wrap64 (wrap64 (az * bx) - wrap64 (ax * bz))) * ay)) + wrap64 ((wrap64 (wrap64 (ax * by_) - wrap64 (ay * bx))) * az)) = 0 ∧ wrap64 (wrap64 (wrap64 ((wrap64 (wrap64 (ay * bz) - wrap64 (az * by_))) * bx) + wrap64 ((wrap64 (wrap64 (az * bx) - wrap64 (ax * bz))) * by_)) + wrap64 ((wrap64 (wrap64 (ax * by_) - wrap64 (ay * bx))) * bz)) = 0 := by
  constructor
  · simp only [wrap_bmod, Int.bmod_add_bmod, Int.add_bmod_bmod, Int.bmod_sub_bmod, Int.sub_bmod_bmod, Int.bmod_mul_bmod, Int.mul_bmod_bmod]
    have e : (ay * bz - az * by_) * ax + (az * bx - ax * bz) * ay + (ax * by_ - ay * bx) * az = 0 := by grind
    rw [e]; rfl
  · simp only [wrap_bmod, Int.bmod_add_bmod, Int.add_bmod_bmod, Int.bmod_sub_bmod, Int.sub_bmod_bmod, Int.bmod_mul_bmod, Int.mul_bmod_bmod]
    have e : (ay * bz - az * by_) * bx + (az * bx - ax * bz) * by_ + (ax * by_ - ay * bx) * bz = 0 := by grind
    rw [e]; rfl
theorem anti (p q r s : Int) : wrap64 (wrap64 (wrap64 (p * q) - wrap64 (r * s)) + wrap64 (wrap64 (s * r) - wrap64 (q * p))) = 0 := by
  simp only [wrap_bmod, Int.bmod_add_bmod, Int.add_bmod_bmod, Int.bmod_sub_bmod, Int.sub_bmod_bmod, Int.bmod_mul_bmod, Int.mul_bmod_bmod]
  have e : p * q - r * s + (s * r - q * p) = 0 := by grind
  rw [e]; rfl
theorem none_ (p q : Int) : wrap64 (wrap64 (p * q) - wrap64 (q * p)) = 0 := by
  rw [Int.mul_comm]; unfold wrap64; omega
set_option maxRecDepth 100000 in
set_option maxHeartbeats 1000000 in
theorem walk (w : World) (ax ay az : Int) (ha : In64 ax ∧ In64 ay ∧ In64 az) (bx by_ bz : Int) (hb : In64 bx ∧ In64 by_ ∧ In64 bz) :
    Calls Try.prog 7 #[.agg #[.int .i64 ax, .int .i64 ay, .int .i64 az], .agg #[.int .i64 bx, .int .i64 by_, .int .i64 bz]] w fun e w' => e = .returned (.bool true) ∧ Below w.heap.size w w' := by
  have al := alive2_any
  have c1 := vCross_any ax ay az bx by_ bz
  have c2 := vCross_any bx by_ bz ax ay az
  have c3 := vCross_any ax ay az ax ay az
  have d1 := vDot_any (wrap64 (wrap64 (ay * bz) - wrap64 (az * by_))) (wrap64 (wrap64 (az * bx) - wrap64 (ax * bz))) (wrap64 (wrap64 (ax * by_) - wrap64 (ay * bx))) ax ay az
  have d2 := vDot_any (wrap64 (wrap64 (ay * bz) - wrap64 (az * by_))) (wrap64 (wrap64 (az * bx) - wrap64 (ax * bz))) (wrap64 (wrap64 (ax * by_) - wrap64 (ay * bx))) bx by_ bz
  have s := vAdd_any (wrap64 (wrap64 (ay * bz) - wrap64 (az * by_))) (wrap64 (wrap64 (az * bx) - wrap64 (ax * bz))) (wrap64 (wrap64 (ax * by_) - wrap64 (ay * bx))) (wrap64 (wrap64 (by_ * az) - wrap64 (bz * ay))) (wrap64 (wrap64 (bz * ax) - wrap64 (bx * az))) (wrap64 (wrap64 (bx * ay) - wrap64 (by_ * ax)))
  rw [(dotc ax ay az bx by_ bz).1] at d1
  rw [(dotc ax ay az bx by_ bz).2] at d2
  rw [anti, anti, anti] at s
  rw [none_, none_, none_] at c3
  generalize wrap64 (wrap64 (ay * bz) - wrap64 (az * by_)) = p0 at c1 d1 d2 s
  generalize wrap64 (wrap64 (by_ * az) - wrap64 (bz * ay)) = q0 at c2 s
  generalize wrap64 (wrap64 (az * bx) - wrap64 (ax * bz)) = p1 at c1 d1 d2 s
  generalize wrap64 (wrap64 (bz * ax) - wrap64 (bx * az)) = q1 at c2 s
  generalize wrap64 (wrap64 (ax * by_) - wrap64 (ay * bx)) = p2 at c1 d1 d2 s
  generalize wrap64 (wrap64 (bx * ay) - wrap64 (by_ * ax)) = q2 at c2 s
  go_enter Try.func7, Try.ntmps7
  go_wp2_with (first | (go_at_call 34; first | ((with_reducible refine (al.at_ _).mono ?_); rintro e w' ⟨rfl, xg, rfl⟩)) | (go_at_call 43; first | ((with_reducible refine (c1.at_ _).mono ?_); rintro e w' ⟨rfl, xg, rfl⟩)))
  refine wp_region_grow (by kernel_rfl) (by kernel_rfl) ?_
  repeat (go_big_quiet_step (((first | with_reducible exact d1.quiet _ | with_reducible exact d1.quiet2 _ _ | with_reducible exact d2.quiet _ | with_reducible exact d2.quiet2 _ _ | with_reducible exact c1.quiet _ | with_reducible exact c1.quiet2 _ _ | with_reducible exact c2.quiet _ | with_reducible exact c2.quiet2 _ _ | with_reducible exact c3.quiet _ | with_reducible exact c3.quiet2 _ _ | with_reducible exact s.quiet _ | with_reducible exact s.quiet2 _ _))))
  refine wpQuiet_nil ?_
  rintro _ ⟨xg, rfl⟩
  go_wp2_with fail
  go_ret
  exact ⟨rfl, (by repeat (first | exact Below.refl _ _ | refine bel_then ?_ _ | refine bel_grow ?_ _ | refine bel_alloc ?_ _ | refine bel_drew ?_ | refine bel_set ?_ (by simp) _ | refine bel_setRow ?_ (by simp) _))⟩

theorem own : ownKnob Try.prog.godebug = none := by kernel_rfl
set_option maxRecDepth 100000 in
theorem lifted (os : Os) (started : os.Started) (H : Type) (enc : TypeId × Value → H) :
    ReturnsInHanded {} Try.checked os 7 .any (Rows.vecCrossSpec.pre6 enc Try.prog Try.f7 Rows.vecCrossRow.domain false) (Rows.vecCrossSpec.post enc Try.prog Try.f7 false true false false) := by
  refine returnsInHanded_of_change (C := Try.checked) own started (by kernel_rfl) Try.func7
    (ChangeSpec.witness6 (enc := enc) (C := Try.checked) false ⟨#[], #[.agg #[.int .i64 0, .int .i64 0, .int .i64 0], .agg #[.int .i64 0, .int .i64 0, .int .i64 0]], []⟩ 12 (by kernel_rfl) (by kernel_rfl) (by kernel_rfl) (by kernel_rfl)) ?_
  intro W base args ds gs before hval0 hW hcnd _
  have hval : ∀ (j : Nat) t v, Try.f7.params[j]? = some t → args[j]? = some v → Value.okWide Try.prog W .any base t v := hval0
  have hW' := hW
  obtain ⟨p, q, hA0, hV, rfl, hfz, hnd⟩ := hW
  have hA : DataW.TrodAll enc Try.prog W 0 (fun _ => true) true Try.f7.params.toList args.toList ds p := hA0
  rw [Try.params7] at hA hval
  obtain ⟨v0, vs0, d0, ds0, p0, q0, hargs, rfl, rfl, h0, r0⟩ := trodAll_cons hA
  obtain ⟨v1, vs1, d1, ds1, p1, q1, rfl, rfl, rfl, h1, r1⟩ := trodAll_cons r0
  obtain ⟨rfl, rfl, rfl⟩ := trodAll_nil r1
  obtain rfl : args = #[v0, v1] := by cases args; simp_all
  obtain ⟨x0, y0, z0, rfl, b0⟩ := open_V (hval 0 51 v0 rfl rfl) h0
  obtain ⟨x1, y1, z1, rfl, b1⟩ := open_V (hval 1 51 v1 rfl rfl) h1
  refine (walk W x0 y0 z0 b0 x1 y1 z1 b1).mono fun e W' ⟨he, hb⟩ => ?_
  subst he
  exact ⟨_, rfl, law_post (tb := 4) (by kernel_rfl) (by kernel_rfl) rfl rfl Try.underlying4 rfl rfl rfl hW' hb⟩

theorem over : Rows.vecCrossRow.holds Try.pinned (OpenSpec.ofChange Rows.vecCrossSpec) :=
  OpenClaim.holds_of_wide 7 Try.f7 rfl rfl rfl rfl rfl rfl rfl ⟨rfl, rfl, rfl, rfl, rfl⟩ rfl rfl rfl rfl rfl (by kernel_rfl) Try.func7 (by kernel_rfl)
    (of_decide_eq_true (by kernel_rfl)) (by unfold Func.isWrapper; first | (rw [if_pos (by decide +kernel)]; kernel_rfl) | (rw [if_neg (by decide +kernel)]; exact ⟨rfl, rfl⟩))
    (fun os started H enc _ => lifted os started H enc)

theorem proved : Rows.VecCrossSaid :=
  over
#print axioms proved
end Go.Proofs.Ytlfdjnmigfdjbaa.vecCross
