/- VecCut holds for every input: the row, out of the walk. No condition. -/
import Derived.Test.YtlfdjnmigfdjbaaRows
import Derived.Test.YtlfdjnmigfdjbaaAlive2
import Derived.Test.YtlfdjnmigfdjbaaOpenV
import Derived.Test.YtlfdjnmigfdjbaaCuts
import Derived.Test.YtlfdjnmigfdjbaaPost
namespace Go.Proofs.Ytlfdjnmigfdjbaa.vecCut
open Go.ChangeShapes Go.WideShapes Go.ChangeAt Go.RowKit
set_option linter.unusedVariables false
set_option linter.unusedSimpArgs false
theorem cut_within (m ax ay az : Int) (k : Nat) : ∀ x y z : Int, CutInv m ax ay az k x y z → 1 ≤ m → wiB (cut3 k m x y z).1 (cut3 k m x y z).2.1 (cut3 k m x y z).2.2 m = true := by
  induction k with
  | zero =>
    intro x y z h hm
    cases hw : wiB x y z m
    · obtain ⟨j, hj, _⟩ := cut_next h hm hw; omega
    · exact hw
  | succ k ih =>
    intro x y z h hm
    cases hw : wiB x y z m
    · obtain ⟨j, hj, h2⟩ := cut_next h hm hw
      obtain rfl : k = j := by omega
      rw [cut3_on _ _ _ _ _ hw]
      exact ih _ _ _ h2 hm
    · rw [cut3_end _ _ _ _ _ hw]; exact hw
theorem half_sign (x : Int) : (x.tdiv 2 < 0 → x < 0) ∧ (0 < x.tdiv 2 → 0 < x) := by
  obtain ⟨q, r, e1, e2, e3, b1, b2, b3, b4, b5, b6⟩ := tq x 2 (by omega)
  rw [e1]
  constructor <;> intro h <;> rcases Int.lt_trichotomy x 0 with hx | hx | hx <;> omega
theorem cut_sign (m : Int) : ∀ (k : Nat) (x y z : Int), (((cut3 k m x y z).1 < 0 → x < 0) ∧ (0 < (cut3 k m x y z).1 → 0 < x)) ∧ (((cut3 k m x y z).2.1 < 0 → y < 0) ∧ (0 < (cut3 k m x y z).2.1 → 0 < y)) ∧ ((cut3 k m x y z).2.2 < 0 → z < 0) ∧ (0 < (cut3 k m x y z).2.2 → 0 < z) := by
  intro k
  induction k with
  | zero => intro x y z; exact ⟨⟨id, id⟩, ⟨id, id⟩, id, id⟩
  | succ k ih =>
    intro x y z
    cases hw : wiB x y z m
    · rw [cut3_on _ _ _ _ _ hw]
      obtain ⟨⟨h1, h2⟩, ⟨h3, h4⟩, h5, h6⟩ := ih (x.tdiv 2) (y.tdiv 2) (z.tdiv 2)
      exact ⟨⟨fun h => (half_sign x).1 (h1 h), fun h => (half_sign x).2 (h2 h)⟩, ⟨fun h => (half_sign y).1 (h3 h), fun h => (half_sign y).2 (h4 h)⟩, fun h => (half_sign z).1 (h5 h), fun h => (half_sign z).2 (h6 h)⟩
    · rw [cut3_end _ _ _ _ _ hw]; exact ⟨⟨id, id⟩, ⟨id, id⟩, id, id⟩
theorem wiB_neg (x y z m : Int) : wiB (-x) (-y) (-z) m = wiB x y z m := by
  rw [Bool.eq_iff_iff, wiB_iff, wiB_iff]; omega
theorem cut_neg (m : Int) : ∀ (k : Nat) (x y z : Int), cut3 k m (-x) (-y) (-z) = (-(cut3 k m x y z).1, -(cut3 k m x y z).2.1, -(cut3 k m x y z).2.2) := by
  intro k
  induction k with
  | zero => intro x y z; rfl
  | succ k ih =>
    intro x y z
    cases hw : wiB x y z m
    · rw [cut3_on _ _ _ _ _ hw, cut3_on _ _ _ _ _ (by rw [wiB_neg]; exact hw), Int.neg_tdiv, Int.neg_tdiv, Int.neg_tdiv]
      exact ih _ _ _
    · rw [cut3_end _ _ _ _ _ hw, cut3_end _ _ _ _ _ (by rw [wiB_neg]; exact hw)]
theorem low (w : World) (ax ay az : Int) (ha : In64 ax ∧ In64 ay ∧ In64 az) (m : Int) (hm : In64 m) (h : m < 1) : Calls Try.prog 9 #[.agg #[.int .i64 ax, .int .i64 ay, .int .i64 az], .int .i64 m] w fun e w' => e = .returned (.bool true) ∧ Below w.heap.size w w' := by
  have al := alive2_any
  have k := vCut_no ax ay az m h
  go_enter Try.func9, Try.ntmps9
  go_wp2_with (first | (go_at_call 34; first | ((with_reducible refine (al.at_ _).mono ?_); rintro e w' ⟨rfl, xg, rfl⟩)) | (go_at_call 47; first | ((with_reducible refine (k.at_ _).mono ?_); rintro e w' ⟨rfl, xg, rfl⟩)))
  go_ret
  exact ⟨rfl, (by repeat (first | exact Below.refl _ _ | refine bel_then ?_ _ | refine bel_grow ?_ _ | refine bel_alloc ?_ _ | refine bel_drew ?_ | refine bel_set ?_ (by simp) _ | refine bel_setRow ?_ (by simp) _))⟩
set_option maxRecDepth 100000 in
set_option maxHeartbeats 4000000 in
theorem high (w : World) (ax ay az : Int) (ha : In64 ax ∧ In64 ay ∧ In64 az) (m : Int) (hm : In64 m) (h : 1 ≤ m) : Calls Try.prog 9 #[.agg #[.int .i64 ax, .int .i64 ay, .int .i64 az], .int .i64 m] w fun e w' => e = .returned (.bool true) ∧ Below w.heap.size w w' := by
  have al := alive2_any
  have k := vCut_yes ax ay az m h hm.2 ha.1.1 ha.1.2 ha.2.1.1 ha.2.1.2 ha.2.2.1 ha.2.2.2
  have hw := cut_within m ax ay az 63 ax ay az (cut_first m ax ay az ha.1.1 ha.1.2 ha.2.1.1 ha.2.1.2 ha.2.2.1 ha.2.2.2) h
  have hsg := cut_sign m 63 ax ay az
  have hend := cut3_end 63 m ax ay az
  have hng := cut_neg m 63 ax ay az
  obtain ⟨⟨cx, cy, cz⟩, hC⟩ : ∃ C, cut3 63 m ax ay az = C := ⟨_, rfl⟩
  rw [hC] at k hw hsg hend hng
  replace hC := Lib.hid hC
  simp only [] at k hw hsg hend hng
  replace hng := Lib.hid hng
  have w1 := vWithin_any cx cy cz m hm.2
  rw [hw] at w1
  have w2 := vWithin_any ax ay az m hm.2
  have wbd := (wiB_iff cx cy cz m).1 hw
  replace hw := Lib.hid hw
  obtain ⟨bw, hbw⟩ : ∃ b, wiB ax ay az m = b := ⟨_, rfl⟩
  rw [hbw] at w2 hend
  replace hbw := Lib.hid hbw
  have w3 := vWithin_any ax ay az 4611686018427387904 (by omega)
  obtain ⟨⟨s1, s2⟩, ⟨s3, s4⟩, s5, s6⟩ := hsg
  have e : ∀ w : World, bw = true → (binOp .neq 51 (.agg #[.int .i64 cx, .int .i64 cy, .int .i64 cz]) (.agg #[.int .i64 ax, .int .i64 ay, .int .i64 az])).run Try.prog w = .ok (.bool false) w := by
    intro w hb
    have := hend hb
    simp only [Prod.mk.injEq] at this
    obtain ⟨rfl, rfl, rfl⟩ := this
    go_simp
  replace hend := Lib.hid hend
  have goes : ∀ (tv : Bool), wiB ax ay az 4611686018427387904 = tv → True := fun _ _ => trivial
  clear goes
  go_enter Try.func9, Try.ntmps9
  go_upto_region 6 with (first | (go_at_call 34; first | ((with_reducible refine (al.at_ _).mono ?_); rintro e w' ⟨rfl, xg, rfl⟩)) | (go_at_call 47; first | ((with_reducible refine (k.at_ _).mono ?_); rintro e w' ⟨rfl, xg, rfl⟩)))
  go_cut [5, 31] (fun s5 s31 wx => s31 = .bool false ∧ ∃ x y, s5 = .pointer (some ⟨(grow (w.alloc (.cells #[.int .i64 ax, .int .i64 ay, .int .i64 az] 51)) x).heap.size, 0, none⟩) ∧ wx = grow ((grow (w.alloc (.cells #[.int .i64 ax, .int .i64 ay, .int .i64 az] 51)) x).alloc (.cells #[.int .i64 cx, .int .i64 cy, .int .i64 cz] 51)) y)
  case first =>
    cases bw
    · replace e := trivial
      replace hend := trivial
      go_wp2_with (first | (go_at_call 45; first | ((with_reducible refine (w1.at_ _).mono ?_); rintro e w' ⟨rfl, xg, rfl⟩) | ((with_reducible refine (w2.at_ _).mono ?_); rintro e w' ⟨rfl, xg, rfl⟩)))
      go_meet
      exact ⟨rfl, _, _, rfl, rfl⟩
    · replace e := fun w => e w rfl
      replace hend := trivial
      go_wp2_with (first | (go_at_call 45; first | ((with_reducible refine (w1.at_ _).mono ?_); rintro e w' ⟨rfl, xg, rfl⟩) | ((with_reducible refine (w2.at_ _).mono ?_); rintro e w' ⟨rfl, xg, rfl⟩)))
      go_meet
      exact ⟨rfl, _, _, rfl, rfl⟩
  case rest =>
    obtain ⟨rfl, x, y, rfl, rfl⟩ := hcut
    replace e := trivial
    replace hend := trivial
    clear w1 w2 al k
    go_upto_region 8 with fail
    go_cut [5, 89] (fun s5 s89 wx => s89 = .bool false ∧ ∃ x y, s5 = .pointer (some ⟨(grow (w.alloc (.cells #[.int .i64 ax, .int .i64 ay, .int .i64 az] 51)) x).heap.size, 0, none⟩) ∧ wx = grow ((grow (w.alloc (.cells #[.int .i64 ax, .int .i64 ay, .int .i64 az] 51)) x).alloc (.cells #[.int .i64 cx, .int .i64 cy, .int .i64 cz] 51)) y)
    case first =>
      clear w3 wbd
      go_wp2_with fail
      all_goals first | (exfalso; omega) | (go_meet; refine ⟨?_, _, _, rfl, rfl⟩; first | rfl | (simp; omega))
    case rest =>
      obtain ⟨rfl, x, y, rfl, rfl⟩ := hcut
      cases hbig : wiB ax ay az 4611686018427387904
      · rw [hbig] at w3
        replace hbig := Lib.hid hbig
        go_wp2_with (first | (go_at_call 45; first | ((with_reducible refine (w3.at_ _).mono ?_); rintro e w' ⟨rfl, xg, rfl⟩)))
        go_ret
        exact ⟨rfl, (by repeat (first | exact Below.refl _ _ | refine bel_then ?_ _ | refine bel_grow ?_ _ | refine bel_alloc ?_ _ | refine bel_drew ?_ | refine bel_set ?_ (by simp) _ | refine bel_setRow ?_ (by simp) _))⟩
      · rw [hbig] at w3
        have k2 := vScale_any ax ay az (-1)
        have k3 := vScale_any cx cy cz (-1)
        have bd := (wiB_iff ax ay az 4611686018427387904).1 hbig
        rw [wrap_id (by omega) (by omega), wrap_id (by omega) (by omega), wrap_id (by omega) (by omega), show ax * -1 = -ax by omega, show ay * -1 = -ay by omega, show az * -1 = -az by omega] at k2
        unfold In64 at hm
        rw [wrap_id (by omega) (by omega), wrap_id (by omega) (by omega), wrap_id (by omega) (by omega), show cx * -1 = -cx by omega, show cy * -1 = -cy by omega, show cz * -1 = -cz by omega] at k3
        have k4 := vCut_yes (-ax) (-ay) (-az) m h hm.2 (by omega) (by omega) (by omega) (by omega) (by omega) (by omega)
        rw [hng.out] at k4
        simp only [] at k4
        replace hbig := Lib.hid hbig
        go_wp2_with (first | (go_at_call 45; first | ((with_reducible refine (w3.at_ _).mono ?_); rintro e w' ⟨rfl, xg, rfl⟩)))
        refine wp_region_grow (by kernel_rfl) (by kernel_rfl) ?_
        repeat (go_big_quiet_step (((first | with_reducible exact k2.quiet _ | with_reducible exact k2.quiet2 _ _ | with_reducible exact k3.quiet _ | with_reducible exact k3.quiet2 _ _ | with_reducible exact k4.quiet _ | with_reducible exact k4.quiet2 _ _))))
        refine wpQuiet_nil ?_
        rintro _ ⟨xg, rfl⟩
        go_wp2_with fail
        go_ret
        exact ⟨rfl, (by repeat (first | exact Below.refl _ _ | refine bel_then ?_ _ | refine bel_grow ?_ _ | refine bel_alloc ?_ _ | refine bel_drew ?_ | refine bel_set ?_ (by simp) _ | refine bel_setRow ?_ (by simp) _))⟩
theorem walk (w : World) (ax ay az : Int) (ha : In64 ax ∧ In64 ay ∧ In64 az) (m : Int) (hm : In64 m) : Calls Try.prog 9 #[.agg #[.int .i64 ax, .int .i64 ay, .int .i64 az], .int .i64 m] w fun e w' => e = .returned (.bool true) ∧ Below w.heap.size w w' := by
  by_cases h : m < 1
  · exact low w ax ay az ha m hm h
  · exact high w ax ay az ha m hm (by omega)

theorem own : ownKnob Try.prog.godebug = none := by kernel_rfl
set_option maxRecDepth 100000 in
theorem lifted (os : Os) (started : os.Started) (H : Type) (enc : TypeId × Value → H) :
    ReturnsInHanded {} Try.checked os 9 .any (Rows.vecCutSpec.pre6 enc Try.prog Try.f9 Rows.vecCutRow.domain false) (Rows.vecCutSpec.post enc Try.prog Try.f9 false true false false) := by
  refine returnsInHanded_of_change (C := Try.checked) own started (by kernel_rfl) Try.func9
    (ChangeSpec.witness6 (enc := enc) (C := Try.checked) false ⟨#[], #[.agg #[.int .i64 0, .int .i64 0, .int .i64 0], .int .i64 0], []⟩ 12 (by kernel_rfl) (by kernel_rfl) (by kernel_rfl) (by kernel_rfl)) ?_
  intro W base args ds gs before hval0 hW hcnd _
  have hval : ∀ (j : Nat) t v, Try.f9.params[j]? = some t → args[j]? = some v → Value.okWide Try.prog W .any base t v := hval0
  have hW' := hW
  obtain ⟨p, q, hA0, hV, rfl, hfz, hnd⟩ := hW
  have hA : DataW.TrodAll enc Try.prog W 0 (fun _ => true) true Try.f9.params.toList args.toList ds p := hA0
  rw [Try.params9] at hA hval
  obtain ⟨v0, vs0, d0, ds0, p0, q0, hargs, rfl, rfl, h0, r0⟩ := trodAll_cons hA
  obtain ⟨v1, vs1, d1, ds1, p1, q1, rfl, rfl, rfl, h1, r1⟩ := trodAll_cons r0
  obtain ⟨rfl, rfl, rfl⟩ := trodAll_nil r1
  obtain rfl : args = #[v0, v1] := by cases args; simp_all
  obtain ⟨x0, y0, z0, rfl, b0⟩ := open_V (hval 0 51 v0 rfl rfl) h0
  obtain ⟨a1, rfl, b1⟩ := open_int64 (hval 1 3 v1 rfl rfl) h1
  refine (walk W x0 y0 z0 b0 a1 b1).mono fun e W' ⟨he, hb⟩ => ?_
  subst he
  exact ⟨_, rfl, law_post (tb := 4) (by kernel_rfl) (by kernel_rfl) rfl rfl Try.underlying4 rfl rfl rfl hW' hb⟩

theorem over : Rows.vecCutRow.holds Try.pinned (OpenSpec.ofChange Rows.vecCutSpec) :=
  OpenClaim.holds_of_wide 9 Try.f9 rfl rfl rfl rfl rfl rfl rfl ⟨rfl, rfl, rfl, rfl, rfl⟩ rfl rfl rfl rfl rfl (by kernel_rfl) Try.func9 (by kernel_rfl)
    (of_decide_eq_true (by kernel_rfl)) (by unfold Func.isWrapper; first | (rw [if_pos (by decide +kernel)]; kernel_rfl) | (rw [if_neg (by decide +kernel)]; exact ⟨rfl, rfl⟩))
    (fun os started H enc _ => lifted os started H enc)

theorem proved : Rows.VecCutSaid :=
  over
#print axioms proved
end Go.Proofs.Ytlfdjnmigfdjbaa.vecCut
