/- SideMoved holds for every input: the row, out of the walk. No condition. -/
import Derived.Test.YtgfgaaecpdbgeaaRows
import Derived.Test.YtgfgaaecpdbgeaaAlive3
import Derived.Test.YtgfgaaecpdbgeaaOpenT
import Derived.Test.YtgfgaaecpdbgeaaSide6
import Derived.Test.YtgfgaaecpdbgeaaMid
import Derived.Test.YtgfgaaecpdbgeaaPost
namespace Go.Proofs.Ytgfgaaecpdbgeaa.sideMoved
open Go.ChangeShapes Go.WideShapes Go.ChangeAt Go.RowKit
set_option linter.unusedVariables false
set_option linter.unusedSimpArgs false
theorem ad_in {a v : P3} (ha : Sp a) (hv : InP 1048576 v) : InP 4611686018427387904 (ad a v) := by
  unfold Sp InP at *; unfold ad; simp only; omega
set_option maxRecDepth 100000 in
set_option maxHeartbeats 4000000 in
theorem walk (w : World) (o : P3) (ko : In3 o) (d : P3) (kd : In3 d) (a b c : P3) (kt : In3 a ∧ In3 b ∧ In3 c) (v : P3) (kv : In3 v) :
    Calls Try.prog 10 #[.agg #[.int .i64 o.x, .int .i64 o.y, .int .i64 o.z], .agg #[.int .i64 d.x, .int .i64 d.y, .int .i64 d.z], .agg #[.int .i64 a.x, .int .i64 a.y, .int .i64 a.z, .int .i64 b.x, .int .i64 b.y, .int .i64 b.z, .int .i64 c.x, .int .i64 c.y, .int .i64 c.z], .agg #[.int .i64 v.x, .int .i64 v.y, .int .i64 v.z]] w fun e w' => e = .returned (.bool true) ∧ Below w.heap.size w w' := by
  have al := alive3_any
  have m1 := vMeet_any o d a b c
  rcases hE_cases o d a b c with ⟨hb, he⟩ | ⟨hb, he⟩
  · rw [he] at m1
    have uw := uWithin_any v.x v.y v.z 1048576 (by omega) (by omega)
    by_cases hw : wiB v.x v.y v.z 1048576 = true
    · obtain ⟨ho, hd, ha, hb', hc⟩ := bdB_in hb
      have hv := wi_in hw
      rw [hw] at uw
      have q1_ := rAdd_P o v (ad_in ho hv)
      have q2_ := rAdd_P a v (ad_in ha hv)
      have q3_ := rAdd_P b v (ad_in hb' hv)
      have q4_ := rAdd_P c v (ad_in hc hv)
      have m2 := vMeet_any (ad o v) d (ad a v) (ad b v) (ad c v)
      rcases hE_cases (ad o v) d (ad a v) (ad b v) (ad c v) with ⟨hb2, he2⟩ | ⟨hb2, he2⟩
      · obtain ⟨e1, e2, e3, e4⟩ := hit_moved o d a b c v hb hb2
        rw [e1, e2, e3, e4, he2] at m2
        clear ko kd kt kv hb he hb2 he2 e1 e2 e3 e4 ho hd ha hb' hc hv hw
        generalize hN o d a b c = n1 at *
        generalize hD o d a b c = n2 at *
        generalize hF o d a b c = f1 at *
        generalize hK o d a b c = k1 at *
        go_enter Try.func10, Try.ntmps10
        go_wp2_with (first | (go_at_call 22; first | ((with_reducible refine (al.at_ _).mono ?_); rintro e w' ⟨rfl, xg, rfl⟩)) | (go_at_call 25; first | ((with_reducible refine (m1.at_ _).mono ?_); rintro e w' ⟨rfl, xg, rfl⟩)) | (go_at_call 32; first | ((with_reducible refine (uw.at_ _).mono ?_); rintro e w' ⟨rfl, xg, rfl⟩)))
        refine wp_region_mid 22 ?_ 12 (.cells #[.int .i64 0, .int .i64 0, .bool false, .int .i64 0, .int .i64 0] 43) (.cells #[.int .i64 (n1), .int .i64 (n2), .bool (f1), .int .i64 0, .int .i64 0] 43) (by kernel_rfl) (by kernel_rfl) (by kernel_rfl) (fun d hd => by cases hd; exact ⟨_, rfl, rfl, rfl, fun A u => alloc_hit A _ rfl u⟩) (fun pp => ?_) (fun pp => ?_) (fun pp => ⟨?_, ?_, fun x => ?_, fun qq => ?_⟩)
        rotate_left
        · simp only [List.take_succ_cons, List.take_zero]
          repeat (go_big_quiet_step (((first | with_reducible exact q1_.quiet _ | with_reducible exact q1_.quiet2 _ _ | with_reducible exact q2_.quiet _ | with_reducible exact q2_.quiet2 _ _ | with_reducible exact q3_.quiet _ | with_reducible exact q3_.quiet2 _ _ | with_reducible exact q4_.quiet _ | with_reducible exact q4_.quiet2 _ _ | with_reducible exact m2.quiet _ | with_reducible exact m2.quiet2 _ _))))
          refine wpQuiet_nil ?_
          exact rfl
        · exact ⟨_, rfl, storeAt_row 43 _ _ _ _ rfl rfl rfl rfl rfl (by kernel_rfl) rfl (by first | kernel_rfl | simp [Value.oneCell'] | (simp only [List.all_toArray, Array.all]; rfl))⟩
        rotate_left
        · kernel_rfl
        · simp only [List.drop_succ_cons, List.drop_zero]
          try simp only [Act.put, List.setIfInBounds_toArray, List.set_cons_succ, List.set_cons_zero]
          repeat (go_big_quiet_step ((fail)))
          refine wpQuiet_nil ?_
          exact rfl
        go_wp2_with fail
        all_goals
          go_ret
          exact ⟨rfl, (by repeat (first | exact Below.refl _ _ | refine bel_then ?_ _ | refine bel_grow ?_ _ | refine bel_alloc ?_ _ | refine bel_drew ?_ | refine bel_set ?_ (by simp) _ | refine bel_setRow ?_ (by first | omega | simp; done | exact Nat.le_trans (by simp) (top_le _ _)) _))⟩
      · obtain ⟨e1, e2, e3, e4, _⟩ := h_out hb2
        rw [e1, e2, e3, e4, he2] at m2
        clear ko kd kt kv hb he hb2 he2 e1 e2 e3 e4 ho hd ha hb' hc hv hw
        generalize hN o d a b c = n1 at *
        generalize hD o d a b c = n2 at *
        generalize hF o d a b c = f1 at *
        generalize hK o d a b c = k1 at *
        go_enter Try.func10, Try.ntmps10
        go_wp2_with (first | (go_at_call 22; first | ((with_reducible refine (al.at_ _).mono ?_); rintro e w' ⟨rfl, xg, rfl⟩)) | (go_at_call 25; first | ((with_reducible refine (m1.at_ _).mono ?_); rintro e w' ⟨rfl, xg, rfl⟩)) | (go_at_call 32; first | ((with_reducible refine (uw.at_ _).mono ?_); rintro e w' ⟨rfl, xg, rfl⟩)))
        refine wp_region_mid 22 ?_ 12 (.cells #[.int .i64 0, .int .i64 0, .bool false, .int .i64 0, .int .i64 0] 43) (.cells #[.int .i64 (0), .int .i64 (0), .bool (false), .int .i64 0, .int .i64 0] 43) (by kernel_rfl) (by kernel_rfl) (by kernel_rfl) (fun d hd => by cases hd; exact ⟨_, rfl, rfl, rfl, fun A u => alloc_hit A _ rfl u⟩) (fun pp => ?_) (fun pp => ?_) (fun pp => ⟨?_, ?_, fun x => ?_, fun qq => ?_⟩)
        rotate_left
        · simp only [List.take_succ_cons, List.take_zero]
          repeat (go_big_quiet_step (((first | with_reducible exact q1_.quiet _ | with_reducible exact q1_.quiet2 _ _ | with_reducible exact q2_.quiet _ | with_reducible exact q2_.quiet2 _ _ | with_reducible exact q3_.quiet _ | with_reducible exact q3_.quiet2 _ _ | with_reducible exact q4_.quiet _ | with_reducible exact q4_.quiet2 _ _ | with_reducible exact m2.quiet _ | with_reducible exact m2.quiet2 _ _))))
          refine wpQuiet_nil ?_
          exact rfl
        · exact ⟨_, rfl, storeAt_row 43 _ _ _ _ rfl rfl rfl rfl rfl (by kernel_rfl) rfl (by first | kernel_rfl | simp [Value.oneCell'] | (simp only [List.all_toArray, Array.all]; rfl))⟩
        rotate_left
        · kernel_rfl
        · simp only [List.drop_succ_cons, List.drop_zero]
          try simp only [Act.put, List.setIfInBounds_toArray, List.set_cons_succ, List.set_cons_zero]
          repeat (go_big_quiet_step ((fail)))
          refine wpQuiet_nil ?_
          exact rfl
        go_wp2_with fail
        all_goals
          go_ret
          exact ⟨rfl, (by repeat (first | exact Below.refl _ _ | refine bel_then ?_ _ | refine bel_grow ?_ _ | refine bel_alloc ?_ _ | refine bel_drew ?_ | refine bel_set ?_ (by simp) _ | refine bel_setRow ?_ (by first | omega | simp; done | exact Nat.le_trans (by simp) (top_le _ _)) _))⟩
    · have hw : wiB v.x v.y v.z 1048576 = false := by simpa using hw
      rw [hw] at uw
      clear ko kd kt kv hb he hw
      go_enter Try.func10, Try.ntmps10
      go_wp2_with (first | (go_at_call 22; first | ((with_reducible refine (al.at_ _).mono ?_); rintro e w' ⟨rfl, xg, rfl⟩)) | (go_at_call 25; first | ((with_reducible refine (m1.at_ _).mono ?_); rintro e w' ⟨rfl, xg, rfl⟩)) | (go_at_call 32; first | ((with_reducible refine (uw.at_ _).mono ?_); rintro e w' ⟨rfl, xg, rfl⟩)))
      all_goals
        go_ret
        exact ⟨rfl, (by repeat (first | exact Below.refl _ _ | refine bel_then ?_ _ | refine bel_grow ?_ _ | refine bel_alloc ?_ _ | refine bel_drew ?_ | refine bel_set ?_ (by simp) _ | refine bel_setRow ?_ (by first | omega | simp; done | exact Nat.le_trans (by simp) (top_le _ _)) _))⟩
  · rw [he] at m1
    clear ko kd kt kv hb he
    go_enter Try.func10, Try.ntmps10
    go_wp2_with (first | (go_at_call 22; first | ((with_reducible refine (al.at_ _).mono ?_); rintro e w' ⟨rfl, xg, rfl⟩)) | (go_at_call 25; first | ((with_reducible refine (m1.at_ _).mono ?_); rintro e w' ⟨rfl, xg, rfl⟩)))
    all_goals
      go_ret
      exact ⟨rfl, (by repeat (first | exact Below.refl _ _ | refine bel_then ?_ _ | refine bel_grow ?_ _ | refine bel_alloc ?_ _ | refine bel_drew ?_ | refine bel_set ?_ (by simp) _ | refine bel_setRow ?_ (by first | omega | simp; done | exact Nat.le_trans (by simp) (top_le _ _)) _))⟩

theorem own : ownKnob Try.prog.godebug = none := by kernel_rfl
set_option maxRecDepth 100000 in
theorem lifted (os : Os) (started : os.Started) (H : Type) (enc : TypeId × Value → H) :
    ReturnsInHanded {} Try.checked os 10 .any (Rows.sideMovedSpec.pre6 enc Try.prog Try.f10 Rows.sideMovedRow.domain false) (Rows.sideMovedSpec.post enc Try.prog Try.f10 false true false false) := by
  refine returnsInHanded_of_change (C := Try.checked) own started (by kernel_rfl) Try.func10
    (ChangeSpec.witness6 (enc := enc) (C := Try.checked) false ⟨#[], #[.agg #[.int .i64 0, .int .i64 0, .int .i64 0], .agg #[.int .i64 0, .int .i64 0, .int .i64 0], .agg #[.int .i64 0, .int .i64 0, .int .i64 0, .int .i64 0, .int .i64 0, .int .i64 0, .int .i64 0, .int .i64 0, .int .i64 0], .agg #[.int .i64 0, .int .i64 0, .int .i64 0]], []⟩ 12 (by kernel_rfl) (by kernel_rfl) (by kernel_rfl) (by kernel_rfl)) ?_
  intro W base args ds gs before hval0 hW hcnd _
  have hval : ∀ (j : Nat) t v, Try.f10.params[j]? = some t → args[j]? = some v → Value.okWide Try.prog W .any base t v := hval0
  have hW' := hW
  obtain ⟨p, q, hA0, hV, rfl, hfz, hnd⟩ := hW
  have hA : DataW.TrodAll enc Try.prog W 0 (fun _ => true) true Try.f10.params.toList args.toList ds p := hA0
  rw [Try.params10] at hA hval
  obtain ⟨v0, vs0, d0, ds0, p0, q0, hargs, rfl, rfl, h0, r0⟩ := trodAll_cons hA
  obtain ⟨v1, vs1, d1, ds1, p1, q1, rfl, rfl, rfl, h1, r1⟩ := trodAll_cons r0
  obtain ⟨v2, vs2, d2, ds2, p2, q2, rfl, rfl, rfl, h2, r2⟩ := trodAll_cons r1
  obtain ⟨v3, vs3, d3, ds3, p3, q3, rfl, rfl, rfl, h3, r3⟩ := trodAll_cons r2
  obtain ⟨rfl, rfl, rfl⟩ := trodAll_nil r3
  obtain rfl : args = #[v0, v1, v2, v3] := by cases args; simp_all
  obtain ⟨a0, rfl, k0⟩ := open_V3 (hval 0 36 v0 rfl rfl) h0
  obtain ⟨a1, rfl, k1⟩ := open_V3 (hval 1 36 v1 rfl rfl) h1
  obtain ⟨a2, b2, c2, rfl, k2⟩ := open_T3 (hval 2 38 v2 rfl rfl) h2
  obtain ⟨a3, rfl, k3⟩ := open_V3 (hval 3 36 v3 rfl rfl) h3
  refine (walk W a0 k0 a1 k1 a2 b2 c2 k2 a3 k3).mono fun e W' ⟨he, hb⟩ => ?_
  subst he
  exact ⟨_, rfl, law_post (tb := 4) (by kernel_rfl) (by kernel_rfl) rfl rfl Try.underlying4 rfl rfl rfl hW' hb⟩

theorem over : Rows.sideMovedRow.holds Try.pinned (OpenSpec.ofChange Rows.sideMovedSpec) :=
  OpenClaim.holds_of_wide 10 Try.f10 rfl rfl rfl rfl rfl rfl rfl ⟨rfl, rfl, rfl, rfl, rfl⟩ rfl rfl rfl rfl rfl (by kernel_rfl) Try.func10 (by kernel_rfl)
    (of_decide_eq_true (by kernel_rfl)) (by unfold Func.isWrapper; first | (rw [if_pos (by decide +kernel)]; kernel_rfl) | (rw [if_neg (by decide +kernel)]; exact ⟨rfl, rfl⟩))
    (fun os started H enc _ => lifted os started H enc)

theorem proved : Rows.SideMovedSaid :=
  over
#print axioms proved
end Go.Proofs.Ytgfgaaecpdbgeaa.sideMoved
