/- SlabInside holds for every input: the row, out of the walk. No condition. -/
import Derived.Test.YtngkimcnolmmoaaRows
import Derived.Test.YtngkimcnolmmoaaSlab4
import Derived.Test.YtngkimcnolmmoaaPost
namespace Go.Proofs.Ytngkimcnolmmoaa.slabInside
open Go.ChangeShapes Go.WideShapes Go.ChangeAt Go.RowKit
set_option linter.unusedVariables false
set_option linter.unusedSimpArgs false
set_option maxRecDepth 100000 in
set_option maxHeartbeats 4000000 in
theorem far0 (w : World) (o d l h : P3) (m1 : Gives Try.prog 11 #[.agg #[.int .i64 o.x, .int .i64 o.y, .int .i64 o.z], .agg #[.int .i64 d.x, .int .i64 d.y, .int .i64 d.z], .agg #[.int .i64 l.x, .int .i64 l.y, .int .i64 l.z, .int .i64 h.x, .int .i64 h.y, .int .i64 h.z]] (.tuple #[.agg #[.int .i64 (⟨0, 0⟩ : Fr).n, .int .i64 (⟨0, 0⟩ : Fr).d], .agg #[.int .i64 (⟨0, 0⟩ : Fr).n, .int .i64 (⟨0, 0⟩ : Fr).d], .bool false, .int .i64 21])) :
    Calls Try.prog 6 #[.agg #[.int .i64 o.x, .int .i64 o.y, .int .i64 o.z], .agg #[.int .i64 d.x, .int .i64 d.y, .int .i64 d.z], .agg #[.int .i64 l.x, .int .i64 l.y, .int .i64 l.z, .int .i64 h.x, .int .i64 h.y, .int .i64 h.z]] w fun e w' => e = .returned (.bool true) ∧ Below w.heap.size w w' := by
  have al := alive4_any
  simp only at m1
  go_enter Try.func6, Try.ntmps6
  go_wp2_with (first | (go_at_call 10; first | ((with_reducible refine (al.at_ _).mono ?_); rintro e w' ⟨rfl, xg, rfl⟩)) | (go_at_call 11; first | ((with_reducible refine (m1.at_ _).mono ?_); rintro e w' ⟨rfl, xg, rfl⟩)) | (go_at_call 16; first | ((with_reducible refine (k.at_ _).mono ?_); rintro e w' ⟨rfl, xg, rfl⟩)) | (go_at_call 17; first | ((with_reducible refine (hv.at_ _).mono ?_); rintro e w' ⟨rfl, xg, rfl⟩)))
  go_ret
  exact ⟨rfl, (by repeat (first | with_reducible exact Below.refl _ _ | with_reducible refine bel_then ?_ _ | with_reducible refine bel_grow ?_ _ | with_reducible refine bel_alloc ?_ _ | with_reducible refine bel_drew ?_ | with_reducible refine bel_set ?_ (by simp) _ | with_reducible refine bel_setRow ?_ (by first | omega | (simp; done) | (refine Nat.le_trans ?_ (top_le _ _); simp; done) | (refine Nat.le_succ_of_le (Nat.le_trans ?_ (top_le _ _)); simp; done)) _))⟩
set_option maxRecDepth 100000 in
set_option maxHeartbeats 4000000 in
theorem none_ (w : World) (o d l h : P3) (m1 : Gives Try.prog 11 #[.agg #[.int .i64 o.x, .int .i64 o.y, .int .i64 o.z], .agg #[.int .i64 d.x, .int .i64 d.y, .int .i64 d.z], .agg #[.int .i64 l.x, .int .i64 l.y, .int .i64 l.z, .int .i64 h.x, .int .i64 h.y, .int .i64 h.z]] (.tuple #[.agg #[.int .i64 (⟨0, 0⟩ : Fr).n, .int .i64 (⟨0, 0⟩ : Fr).d], .agg #[.int .i64 (⟨0, 0⟩ : Fr).n, .int .i64 (⟨0, 0⟩ : Fr).d], .bool false, .int .i64 0])) (hv : Gives Try.prog 17 #[.agg #[.int .i64 l.x, .int .i64 l.y, .int .i64 l.z, .int .i64 h.x, .int .i64 h.y, .int .i64 h.z], .agg #[.int .i64 o.x, .int .i64 o.y, .int .i64 o.z]] (.bool false)) :
    Calls Try.prog 6 #[.agg #[.int .i64 o.x, .int .i64 o.y, .int .i64 o.z], .agg #[.int .i64 d.x, .int .i64 d.y, .int .i64 d.z], .agg #[.int .i64 l.x, .int .i64 l.y, .int .i64 l.z, .int .i64 h.x, .int .i64 h.y, .int .i64 h.z]] w fun e w' => e = .returned (.bool true) ∧ Below w.heap.size w w' := by
  have al := alive4_any
  simp only at m1
  go_enter Try.func6, Try.ntmps6
  go_wp2_with (first | (go_at_call 10; first | ((with_reducible refine (al.at_ _).mono ?_); rintro e w' ⟨rfl, xg, rfl⟩)) | (go_at_call 11; first | ((with_reducible refine (m1.at_ _).mono ?_); rintro e w' ⟨rfl, xg, rfl⟩)) | (go_at_call 16; first | ((with_reducible refine (k.at_ _).mono ?_); rintro e w' ⟨rfl, xg, rfl⟩)) | (go_at_call 17; first | ((with_reducible refine (hv.at_ _).mono ?_); rintro e w' ⟨rfl, xg, rfl⟩)))
  go_ret
  exact ⟨rfl, (by repeat (first | with_reducible exact Below.refl _ _ | with_reducible refine bel_then ?_ _ | with_reducible refine bel_grow ?_ _ | with_reducible refine bel_alloc ?_ _ | with_reducible refine bel_drew ?_ | with_reducible refine bel_set ?_ (by simp) _ | with_reducible refine bel_setRow ?_ (by first | omega | (simp; done) | (refine Nat.le_trans ?_ (top_le _ _); simp; done) | (refine Nat.le_succ_of_le (Nat.le_trans ?_ (top_le _ _)); simp; done)) _))⟩
set_option maxRecDepth 100000 in
set_option maxHeartbeats 4000000 in
theorem some_no (w : World) (o d l h : P3) (a b : Fr) (c : Int) (hc : decide (0 < c) = false) (hn : decide (a.n < 0) = false) (m1 : Gives Try.prog 11 #[.agg #[.int .i64 o.x, .int .i64 o.y, .int .i64 o.z], .agg #[.int .i64 d.x, .int .i64 d.y, .int .i64 d.z], .agg #[.int .i64 l.x, .int .i64 l.y, .int .i64 l.z, .int .i64 h.x, .int .i64 h.y, .int .i64 h.z]] (.tuple #[.agg #[.int .i64 a.n, .int .i64 a.d], .agg #[.int .i64 b.n, .int .i64 b.d], .bool true, .int .i64 0])) (k : Gives Try.prog 16 #[.agg #[.int .i64 a.n, .int .i64 a.d], .agg #[.int .i64 b.n, .int .i64 b.d]] (.tuple #[.int .i64 c, .bool true])) (hv : Gives Try.prog 17 #[.agg #[.int .i64 l.x, .int .i64 l.y, .int .i64 l.z, .int .i64 h.x, .int .i64 h.y, .int .i64 h.z], .agg #[.int .i64 o.x, .int .i64 o.y, .int .i64 o.z]] (.bool false)) :
    Calls Try.prog 6 #[.agg #[.int .i64 o.x, .int .i64 o.y, .int .i64 o.z], .agg #[.int .i64 d.x, .int .i64 d.y, .int .i64 d.z], .agg #[.int .i64 l.x, .int .i64 l.y, .int .i64 l.z, .int .i64 h.x, .int .i64 h.y, .int .i64 h.z]] w fun e w' => e = .returned (.bool true) ∧ Below w.heap.size w w' := by
  have al := alive4_any
  go_enter Try.func6, Try.ntmps6
  go_wp2_with (first | (go_at_call 10; first | ((with_reducible refine (al.at_ _).mono ?_); rintro e w' ⟨rfl, xg, rfl⟩)) | (go_at_call 11; first | ((with_reducible refine (m1.at_ _).mono ?_); rintro e w' ⟨rfl, xg, rfl⟩)) | (go_at_call 16; first | ((with_reducible refine (k.at_ _).mono ?_); rintro e w' ⟨rfl, xg, rfl⟩)) | (go_at_call 17; first | ((with_reducible refine (hv.at_ _).mono ?_); rintro e w' ⟨rfl, xg, rfl⟩)))
  go_ret
  exact ⟨rfl, (by repeat (first | with_reducible exact Below.refl _ _ | with_reducible refine bel_then ?_ _ | with_reducible refine bel_grow ?_ _ | with_reducible refine bel_alloc ?_ _ | with_reducible refine bel_drew ?_ | with_reducible refine bel_set ?_ (by simp) _ | with_reducible refine bel_setRow ?_ (by first | omega | (simp; done) | (refine Nat.le_trans ?_ (top_le _ _); simp; done) | (refine Nat.le_succ_of_le (Nat.le_trans ?_ (top_le _ _)); simp; done)) _))⟩
set_option maxRecDepth 100000 in
set_option maxHeartbeats 4000000 in
theorem some_yes (w : World) (o d l h : P3) (b : Fr) (c : Int) (hc : decide (0 < c) = false) (m1 : Gives Try.prog 11 #[.agg #[.int .i64 o.x, .int .i64 o.y, .int .i64 o.z], .agg #[.int .i64 d.x, .int .i64 d.y, .int .i64 d.z], .agg #[.int .i64 l.x, .int .i64 l.y, .int .i64 l.z, .int .i64 h.x, .int .i64 h.y, .int .i64 h.z]] (.tuple #[.agg #[.int .i64 (⟨0, 1⟩ : Fr).n, .int .i64 (⟨0, 1⟩ : Fr).d], .agg #[.int .i64 b.n, .int .i64 b.d], .bool true, .int .i64 0])) (k : Gives Try.prog 16 #[.agg #[.int .i64 0, .int .i64 1], .agg #[.int .i64 b.n, .int .i64 b.d]] (.tuple #[.int .i64 c, .bool true])) (hv : Gives Try.prog 17 #[.agg #[.int .i64 l.x, .int .i64 l.y, .int .i64 l.z, .int .i64 h.x, .int .i64 h.y, .int .i64 h.z], .agg #[.int .i64 o.x, .int .i64 o.y, .int .i64 o.z]] (.bool true)) :
    Calls Try.prog 6 #[.agg #[.int .i64 o.x, .int .i64 o.y, .int .i64 o.z], .agg #[.int .i64 d.x, .int .i64 d.y, .int .i64 d.z], .agg #[.int .i64 l.x, .int .i64 l.y, .int .i64 l.z, .int .i64 h.x, .int .i64 h.y, .int .i64 h.z]] w fun e w' => e = .returned (.bool true) ∧ Below w.heap.size w w' := by
  have al := alive4_any
  simp only at m1
  go_enter Try.func6, Try.ntmps6
  go_wp2_with (first | (go_at_call 10; first | ((with_reducible refine (al.at_ _).mono ?_); rintro e w' ⟨rfl, xg, rfl⟩)) | (go_at_call 11; first | ((with_reducible refine (m1.at_ _).mono ?_); rintro e w' ⟨rfl, xg, rfl⟩)) | (go_at_call 16; first | ((with_reducible refine (k.at_ _).mono ?_); rintro e w' ⟨rfl, xg, rfl⟩)) | (go_at_call 17; first | ((with_reducible refine (hv.at_ _).mono ?_); rintro e w' ⟨rfl, xg, rfl⟩)))
  go_ret
  exact ⟨rfl, (by repeat (first | with_reducible exact Below.refl _ _ | with_reducible refine bel_then ?_ _ | with_reducible refine bel_grow ?_ _ | with_reducible refine bel_alloc ?_ _ | with_reducible refine bel_drew ?_ | with_reducible refine bel_set ?_ (by simp) _ | with_reducible refine bel_setRow ?_ (by first | omega | (simp; done) | (refine Nat.le_trans ?_ (top_le _ _); simp; done) | (refine Nat.le_succ_of_le (Nat.le_trans ?_ (top_le _ _)); simp; done)) _))⟩
theorem cmp_le0 {x y : Int} (h : x ≤ y) : decide (0 < cmpOf x y) = false := by
  unfold cmpOf
  split
  · rfl
  · rw [if_pos (by omega)]; rfl
theorem walk (w : World) (o : P3) (ko : In3 o) (d : P3) (kd : In3 d) (l h : P3) (kb : In3 l ∧ In3 h) :
    Calls Try.prog 6 #[.agg #[.int .i64 o.x, .int .i64 o.y, .int .i64 o.z], .agg #[.int .i64 d.x, .int .i64 d.y, .int .i64 d.z], .agg #[.int .i64 l.x, .int .i64 l.y, .int .i64 l.z, .int .i64 h.x, .int .i64 h.y, .int .i64 h.z]] w fun e w' => e = .returned (.bool true) ∧ Below w.heap.size w w' := by
  have m1 := slRange_any o d l h
  have hv := vHas_any l.x l.y l.z h.x h.y h.z o.x o.y o.z
  have inn : inB l.x l.y l.z h.x h.y h.z o.x o.y o.z = true → ∃ u, rangeM o d l h = some (⟨0, 1⟩, u) := fun q => by
    obtain ⟨⟨a1, a2⟩, ⟨a3, a4⟩, a5, a6⟩ := (inB_iff _ _ _ _ _ _ _ _ _).1 q
    exact range_inside a1 a2 a3 a4 a5 a6
  rcases rg_cases o d l h with ⟨_, e⟩ | ⟨_, hr, e⟩ | ⟨r, hb, hr, e⟩
  · rw [e] at m1
    exact far0 w o d l h m1
  · rw [e] at m1
    have hf : inB l.x l.y l.z h.x h.y h.z o.x o.y o.z = false := by
      cases q : inB l.x l.y l.z h.x h.y h.z o.x o.y o.z
      · rfl
      · obtain ⟨u, eu⟩ := inn q; rw [hr] at eu; cases eu
    rw [hf] at hv
    exact none_ w o d l h m1 hv
  · rw [e] at m1
    obtain ⟨o1, o2, o3⟩ := range_ok hr
    obtain ⟨s1, s2⟩ := range_small hb hr
    have i1 := smallF_in s1
    have i2 := smallF_in s2
    have k := order_yes r.1.n r.1.d r.2.n r.2.d i1.1.1 i1.1.2 i1.2.1 i1.2.2 i2.1.1 i2.1.2 i2.2.1 i2.2.2 (okLo_right o1) (okHi_right o2)
    have hc := cmp_le0 (show r.1.n * r.2.d ≤ r.2.n * r.1.d from o3)
    have hn : decide (r.1.n < 0) = false := by have := o1.2; simp; omega
    cases q : inB l.x l.y l.z h.x h.y h.z o.x o.y o.z
    · rw [q] at hv
      exact some_no w o d l h r.1 r.2 _ hc hn m1 k hv
    · rw [q] at hv
      obtain ⟨u, eu⟩ := inn q
      rw [hr] at eu
      obtain rfl : r = (⟨0, 1⟩, u) := by injection eu
      exact some_yes w o d l h u _ hc m1 k hv

theorem own : ownKnob Try.prog.godebug = none := by kernel_rfl
set_option maxRecDepth 100000 in
theorem lifted (os : Os) (started : os.Started) (H : Type) (enc : TypeId × Value → H) :
    ReturnsInHanded {} Try.checked os 6 .any (Rows.slabInsideSpec.pre6 enc Try.prog Try.f6 Rows.slabInsideRow.domain false) (Rows.slabInsideSpec.post enc Try.prog Try.f6 false true false false) := by
  refine returnsInHanded_of_change (C := Try.checked) own started (by kernel_rfl) Try.func6
    (ChangeSpec.witness6 (enc := enc) (C := Try.checked) false ⟨#[], #[.agg #[.int .i64 0, .int .i64 0, .int .i64 0], .agg #[.int .i64 0, .int .i64 0, .int .i64 0], .agg #[.int .i64 0, .int .i64 0, .int .i64 0, .int .i64 0, .int .i64 0, .int .i64 0]], []⟩ 12 (by kernel_rfl) (by kernel_rfl) (by kernel_rfl) (by kernel_rfl)) ?_
  intro W base args ds gs before hval0 hW hcnd _
  have hval : ∀ (j : Nat) t v, Try.f6.params[j]? = some t → args[j]? = some v → Value.okWide Try.prog W .any base t v := hval0
  have hW' := hW
  obtain ⟨p, q, hA0, hV, rfl, hfz, hnd⟩ := hW
  have hA : DataW.TrodAll enc Try.prog W 0 (fun _ => true) true Try.f6.params.toList args.toList ds p := hA0
  rw [Try.params6] at hA hval
  obtain ⟨v0, vs0, d0, ds0, p0, q0, hargs, rfl, rfl, h0, r0⟩ := trodAll_cons hA
  obtain ⟨v1, vs1, d1, ds1, p1, q1, rfl, rfl, rfl, h1, r1⟩ := trodAll_cons r0
  obtain ⟨v2, vs2, d2, ds2, p2, q2, rfl, rfl, rfl, h2, r2⟩ := trodAll_cons r1
  obtain ⟨rfl, rfl, rfl⟩ := trodAll_nil r2
  obtain rfl : args = #[v0, v1, v2] := by cases args; simp_all
  obtain ⟨a0, rfl, k0⟩ := open_V3 (hval 0 23 v0 rfl rfl) h0
  obtain ⟨a1, rfl, k1⟩ := open_V3 (hval 1 23 v1 rfl rfl) h1
  obtain ⟨bl2, bh2, rfl, k2⟩ := open_B3 (hval 2 25 v2 rfl rfl) h2
  refine (walk W a0 k0 a1 k1 bl2 bh2 k2).mono fun e W' ⟨he, hb⟩ => ?_
  subst he
  exact ⟨_, rfl, law_post (tb := 4) (by kernel_rfl) (by kernel_rfl) rfl rfl Try.underlying4 rfl rfl rfl hW' hb⟩

theorem over : Rows.slabInsideRow.holds Try.pinned (OpenSpec.ofChange Rows.slabInsideSpec) :=
  OpenClaim.holds_of_wide 6 Try.f6 rfl rfl rfl rfl rfl rfl rfl ⟨rfl, rfl, rfl, rfl, rfl⟩ rfl rfl rfl rfl rfl (by kernel_rfl) Try.func6 (by kernel_rfl)
    (of_decide_eq_true (by kernel_rfl)) (by unfold Func.isWrapper; first | (rw [if_pos (by decide +kernel)]; kernel_rfl) | (rw [if_neg (by decide +kernel)]; exact ⟨rfl, rfl⟩))
    (fun os started H enc _ => lifted os started H enc)

theorem proved : Rows.SlabInsideSaid :=
  over
#print axioms proved
end Go.Proofs.Ytngkimcnolmmoaa.slabInside
