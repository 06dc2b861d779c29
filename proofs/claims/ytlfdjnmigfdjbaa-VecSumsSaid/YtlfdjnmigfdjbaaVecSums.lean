/- VecSums holds for every input: the row, out of the walk. No condition. -/
import Derived.Test.YtlfdjnmigfdjbaaRows
import Derived.Test.YtlfdjnmigfdjbaaAlive2
import Derived.Test.YtlfdjnmigfdjbaaOpenV
import Derived.Test.YtlfdjnmigfdjbaaPost
namespace Go.Proofs.Ytlfdjnmigfdjbaa.vecSums
open Go.ChangeShapes Go.WideShapes Go.ChangeAt Go.RowKit
set_option linter.unusedVariables false
set_option linter.unusedSimpArgs false
set_option maxRecDepth 100000 in
set_option maxHeartbeats 2000000 in
theorem walk (w : World) (ax ay az : Int) (ha : In64 ax ∧ In64 ay ∧ In64 az) (bx by_ bz : Int) (hb : In64 bx ∧ In64 by_ ∧ In64 bz) (k : Int) (hk : In64 k) (n : Int) (hn : In64 n) :
    Calls Try.prog 5 #[.agg #[.int .i64 ax, .int .i64 ay, .int .i64 az], .agg #[.int .i64 bx, .int .i64 by_, .int .i64 bz], .int .i64 k, .int .i64 n] w fun e w' => e = .returned (.bool true) ∧ Below w.heap.size w w' := by
  have al := alive2_any
  have a1 := vAdd_any ax ay az bx by_ bz
  have a2 := rAdd_any ax ay az bx by_ bz
  have s1 := vSub_any ax ay az bx by_ bz
  have s2 := rSub_any ax ay az bx by_ bz
  have k1 := vScale_any ax ay az k
  have k2 := rScale_any ax ay az k
  have d1 := vDot_any ax ay az bx by_ bz
  have d2 := rDot_any ax ay az bx by_ bz
  have c1 := vCross_any ax ay az bx by_ bz
  have c2 := rCross_any ax ay az bx by_ bz
  have w1 := vWithin_any ax ay az k hk.2
  have w2 := rWithin_any ax ay az k hk.2
  have r1 := vRound_any n k hn.1 hn.2 hk.1 hk.2
  have r2 := rRound_any n k hn.1 hn.2 hk.1 hk.2
  obtain ⟨t, t1, t2⟩ : ∃ t : Int × Int × Int, (Gives Try.prog 47 #[.agg #[.int .i64 ax, .int .i64 ay, .int .i64 az], .int .i64 k] (.agg #[.int .i64 t.1, .int .i64 t.2.1, .int .i64 t.2.2])) ∧ Gives Try.prog 48 #[.agg #[.int .i64 ax, .int .i64 ay, .int .i64 az], .int .i64 k] (.agg #[.int .i64 t.1, .int .i64 t.2.1, .int .i64 t.2.2]) := by
    by_cases h : k < 1
    · exact ⟨(0, 0, 0), vCut_no ax ay az k h, rCut_no ax ay az k h⟩
    · exact ⟨_, vCut_yes ax ay az k (by omega) hk.2 ha.1.1 ha.1.2 ha.2.1.1 ha.2.1.2 ha.2.2.1 ha.2.2.2, rCut_yes ax ay az k (by omega) hk.2 ha.1.1 ha.1.2 ha.2.1.1 ha.2.1.2 ha.2.2.1 ha.2.2.2⟩
  clear ha hb hk hn
  go_enter Try.func5, Try.ntmps5
  go_wp2_with (first | (go_at_call 34; first | ((with_reducible refine (al.at_ _).mono ?_); rintro e w' ⟨rfl, xg, rfl⟩)))
  refine wp_region_grow (by kernel_rfl) (by kernel_rfl) ?_
  simp only [List.cons_append, List.nil_append, List.append_eq]
  repeat (go_big_quiet_step (((first | with_reducible exact a1.quiet _ | with_reducible exact a1.quiet2 _ _ | with_reducible exact a2.quiet _ | with_reducible exact a2.quiet2 _ _ | with_reducible exact s1.quiet _ | with_reducible exact s1.quiet2 _ _ | with_reducible exact s2.quiet _ | with_reducible exact s2.quiet2 _ _ | with_reducible exact k1.quiet _ | with_reducible exact k1.quiet2 _ _ | with_reducible exact k2.quiet _ | with_reducible exact k2.quiet2 _ _ | with_reducible exact d1.quiet _ | with_reducible exact d1.quiet2 _ _ | with_reducible exact d2.quiet _ | with_reducible exact d2.quiet2 _ _ | with_reducible exact c1.quiet _ | with_reducible exact c1.quiet2 _ _ | with_reducible exact c2.quiet _ | with_reducible exact c2.quiet2 _ _ | with_reducible exact w1.quiet _ | with_reducible exact w1.quiet2 _ _ | with_reducible exact w2.quiet _ | with_reducible exact w2.quiet2 _ _ | with_reducible exact t1.quiet _ | with_reducible exact t1.quiet2 _ _ | with_reducible exact t2.quiet _ | with_reducible exact t2.quiet2 _ _ | with_reducible exact r1.quiet _ | with_reducible exact r1.quiet2 _ _ | with_reducible exact r2.quiet _ | with_reducible exact r2.quiet2 _ _))))
  refine wpQuiet_nil ?_
  rintro _ ⟨xg, rfl⟩
  go_wp2_with fail
  go_ret
  exact ⟨rfl, (by repeat (first | exact Below.refl _ _ | refine bel_then ?_ _ | refine bel_grow ?_ _ | refine bel_alloc ?_ _ | refine bel_drew ?_ | refine bel_set ?_ (by simp) _ | refine bel_setRow ?_ (by simp) _))⟩

theorem own : ownKnob Try.prog.godebug = none := by kernel_rfl
set_option maxRecDepth 100000 in
theorem lifted (os : Os) (started : os.Started) (H : Type) (enc : TypeId × Value → H) :
    ReturnsInHanded {} Try.checked os 5 .any (Rows.vecSumsSpec.pre6 enc Try.prog Try.f5 Rows.vecSumsRow.domain false) (Rows.vecSumsSpec.post enc Try.prog Try.f5 false true false false) := by
  refine returnsInHanded_of_change (C := Try.checked) own started (by kernel_rfl) Try.func5
    (ChangeSpec.witness6 (enc := enc) (C := Try.checked) false ⟨#[], #[.agg #[.int .i64 0, .int .i64 0, .int .i64 0], .agg #[.int .i64 0, .int .i64 0, .int .i64 0], .int .i64 0, .int .i64 0], []⟩ 12 (by kernel_rfl) (by kernel_rfl) (by kernel_rfl) (by kernel_rfl)) ?_
  intro W base args ds gs before hval0 hW hcnd _
  have hval : ∀ (j : Nat) t v, Try.f5.params[j]? = some t → args[j]? = some v → Value.okWide Try.prog W .any base t v := hval0
  have hW' := hW
  obtain ⟨p, q, hA0, hV, rfl, hfz, hnd⟩ := hW
  have hA : DataW.TrodAll enc Try.prog W 0 (fun _ => true) true Try.f5.params.toList args.toList ds p := hA0
  rw [Try.params5] at hA hval
  obtain ⟨v0, vs0, d0, ds0, p0, q0, hargs, rfl, rfl, h0, r0⟩ := trodAll_cons hA
  obtain ⟨v1, vs1, d1, ds1, p1, q1, rfl, rfl, rfl, h1, r1⟩ := trodAll_cons r0
  obtain ⟨v2, vs2, d2, ds2, p2, q2, rfl, rfl, rfl, h2, r2⟩ := trodAll_cons r1
  obtain ⟨v3, vs3, d3, ds3, p3, q3, rfl, rfl, rfl, h3, r3⟩ := trodAll_cons r2
  obtain ⟨rfl, rfl, rfl⟩ := trodAll_nil r3
  obtain rfl : args = #[v0, v1, v2, v3] := by cases args; simp_all
  obtain ⟨x0, y0, z0, rfl, b0⟩ := open_V (hval 0 51 v0 rfl rfl) h0
  obtain ⟨x1, y1, z1, rfl, b1⟩ := open_V (hval 1 51 v1 rfl rfl) h1
  obtain ⟨a2, rfl, b2⟩ := open_int64 (hval 2 3 v2 rfl rfl) h2
  obtain ⟨a3, rfl, b3⟩ := open_int64 (hval 3 3 v3 rfl rfl) h3
  refine (walk W x0 y0 z0 b0 x1 y1 z1 b1 a2 b2 a3 b3).mono fun e W' ⟨he, hb⟩ => ?_
  subst he
  exact ⟨_, rfl, law_post (tb := 4) (by kernel_rfl) (by kernel_rfl) rfl rfl Try.underlying4 rfl rfl rfl hW' hb⟩

theorem over : Rows.vecSumsRow.holds Try.pinned (OpenSpec.ofChange Rows.vecSumsSpec) :=
  OpenClaim.holds_of_wide 5 Try.f5 rfl rfl rfl rfl rfl rfl rfl ⟨rfl, rfl, rfl, rfl, rfl⟩ rfl rfl rfl rfl rfl (by kernel_rfl) Try.func5 (by kernel_rfl)
    (of_decide_eq_true (by kernel_rfl)) (by unfold Func.isWrapper; first | (rw [if_pos (by decide +kernel)]; kernel_rfl) | (rw [if_neg (by decide +kernel)]; exact ⟨rfl, rfl⟩))
    (fun os started H enc _ => lifted os started H enc)

theorem proved : Rows.VecSumsSaid :=
  over
#print axioms proved
end Go.Proofs.Ytlfdjnmigfdjbaa.vecSums
