/- ReliefNear holds for every input: the row, out of the walk. No condition. -/
import Derived.SizedLaws
import Derived.Test.YteigionfaodafaaRows
import Derived.Test.YteigionfaodafaaC4
import Derived.Test.YteigionfaodafaaC6
import Derived.Test.YteigionfaodafaaC7
namespace Go.Proofs.Yteigionfaodafaa.reliefNear
open Go.ChangeShapes Go.WideShapes Go.ChangeAt Go.RowKit
set_option linter.unusedVariables false
set_option linter.unusedSimpArgs false
theorem lfH_0 {h : Int} : lfH 0 h = 0 := by unfold lfH; rw [Int.zero_mul]; kernel_rfl
theorem lfD_0 {n : P3} {h : Int} : lfD n 0 h = ⟨0, 0, 0⟩ := by
  unfold lfD
  rw [lfH_0]
  unfold scE
  simp only [Int.mul_zero]
  kernel_rfl
theorem lfP_0 {p n : P3} {h : Int} (e : lfK p n 0 h = true) : lfP p n 0 h = p := by
  rw [lfP_yes e, lfD_0]
  unfold adE
  simp
set_option maxRecDepth 100000 in
set_option maxHeartbeats 4000000 in
theorem walk (W : World) (p : P3) (kp : I3 p) (n : P3) (kn : I3 n) (t : Int) (kt : -9223372036854775808 ≤ t ∧ t ≤ 9223372036854775807) (h : Int) (kh : -9223372036854775808 ≤ h ∧ h ≤ 9223372036854775807) : Calls Try.prog 4 #[.agg #[.int .i64 p.x, .int .i64 p.y, .int .i64 p.z], .agg #[.int .i64 n.x, .int .i64 n.y, .int .i64 n.z], .int .i64 t, .int .i64 h] W fun e w' => e = .returned (.bool true) ∧ Below W.heap.size W w' := by
  have al := alive14_any
  have k1 := lift_any p n t h kt kh
  cases hk : lfK p n t h
  · rw [hk, lfP_no hk, show N3 = ⟨0, 0, 0⟩ from rfl] at k1
    simp only [] at k1
    clear hk kp kn kt kh
    go_enter Try.func4, Try.ntmps4
    go_wp2_with (first | (go_at_call 8; (with_reducible refine (al.at_ _).mono ?_); rintro e w' ⟨rfl, xg, rfl⟩) | (go_at_call 16; (with_reducible refine (k1.at_ _).mono ?_); rintro e w' ⟨rfl, xh, rfl⟩) | fail)
    go_ret
    exact ⟨rfl, (by repeat (first | exact Below.refl _ _ | refine bel_then ?_ _ | refine bel_grow ?_ _ | refine bel_alloc ?_ _ | refine bel_drew ?_ | refine bel_set ?_ (by simp) _ | refine bel_setRow ?_ (by first | omega | (simp; done) | (refine Nat.le_trans ?_ (top_le _ _); simp; done) | (refine Nat.le_succ_of_le (Nat.le_trans ?_ (top_le _ _)); simp; done) | (refine Nat.le_trans ?_ (top_le _ _); simp only [World.size_alloc]; refine Nat.le_succ_of_le (Nat.le_trans ?_ (top_le _ _)); simp; done)) _))⟩
  · obtain ⟨hp, hn, ht, hh⟩ := lfK_yes hk
    have hd := lfD_bd hn ht hh
    have e := lfP_yes hk
    have k2 := rSub_any (lfP p n t h).x (lfP p n t h).y (lfP p n t h).z p.x p.y p.z
    rw [wB_iff] at hp
    have hx : (lfP p n t h).x - p.x = (lfD n t h).x := by rw [e]; unfold adE; simp only; omega
    have hy : (lfP p n t h).y - p.y = (lfD n t h).y := by rw [e]; unfold adE; simp only; omega
    have hz : (lfP p n t h).z - p.z = (lfD n t h).z := by rw [e]; unfold adE; simp only; omega
    rw [hx, hy, hz, show wrap64 (lfD n t h).x = (lfD n t h).x from wrap_id (by omega) (by omega), show wrap64 (lfD n t h).y = (lfD n t h).y from wrap_id (by omega) (by omega), show wrap64 (lfD n t h).z = (lfD n t h).z from wrap_id (by omega) (by omega)] at k2
    have k3 := vWithin_any (lfD n t h).x (lfD n t h).y (lfD n t h).z h (by omega)
    rw [show wiB (lfD n t h).x (lfD n t h).y (lfD n t h).z h = true from (wiB_iff _ _ _ _).2 (by omega)] at k3
    rw [hk] at k1
    have h0 : t = 0 → lfP p n t h = p := fun e => by subst e; exact lfP_0 hk
    clear hk hp hn hd e hx hy hz kp kn
    generalize lfP p n t h = q at *
    generalize lfD n t h = d at *
    by_cases e : t = 0
    · obtain rfl := h0 e
      subst e
      clear h0
      go_enter Try.func4, Try.ntmps4
      go_wp2_with (first | (go_at_call 8; (with_reducible refine (al.at_ _).mono ?_); rintro e w' ⟨rfl, xg, rfl⟩) | (go_at_call 16; (with_reducible refine (k1.at_ _).mono ?_); rintro e w' ⟨rfl, xh, rfl⟩) | (go_at_call 20; (with_reducible refine (k2.at_ _).mono ?_); rintro e w' ⟨rfl, xi, rfl⟩) | (go_at_call 19; (with_reducible refine (k3.at_ _).mono ?_); rintro e w' ⟨rfl, xj, rfl⟩) | fail)
      go_ret
      exact ⟨rfl, (by repeat (first | exact Below.refl _ _ | refine bel_then ?_ _ | refine bel_grow ?_ _ | refine bel_alloc ?_ _ | refine bel_drew ?_ | refine bel_set ?_ (by simp) _ | refine bel_setRow ?_ (by first | omega | (simp; done) | (refine Nat.le_trans ?_ (top_le _ _); simp; done) | (refine Nat.le_succ_of_le (Nat.le_trans ?_ (top_le _ _)); simp; done) | (refine Nat.le_trans ?_ (top_le _ _); simp only [World.size_alloc]; refine Nat.le_succ_of_le (Nat.le_trans ?_ (top_le _ _)); simp; done)) _))⟩
    · clear h0
      have hne : (t != 0) = true := by simpa using e
      go_enter Try.func4, Try.ntmps4
      go_wp2_with (first | (go_at_call 8; (with_reducible refine (al.at_ _).mono ?_); rintro e w' ⟨rfl, xg, rfl⟩) | (go_at_call 16; (with_reducible refine (k1.at_ _).mono ?_); rintro e w' ⟨rfl, xh, rfl⟩) | (go_at_call 20; (with_reducible refine (k2.at_ _).mono ?_); rintro e w' ⟨rfl, xi, rfl⟩) | (go_at_call 19; (with_reducible refine (k3.at_ _).mono ?_); rintro e w' ⟨rfl, xj, rfl⟩) | fail)
      go_ret
      exact ⟨rfl, (by repeat (first | exact Below.refl _ _ | refine bel_then ?_ _ | refine bel_grow ?_ _ | refine bel_alloc ?_ _ | refine bel_drew ?_ | refine bel_set ?_ (by simp) _ | refine bel_setRow ?_ (by first | omega | (simp; done) | (refine Nat.le_trans ?_ (top_le _ _); simp; done) | (refine Nat.le_succ_of_le (Nat.le_trans ?_ (top_le _ _)); simp; done) | (refine Nat.le_trans ?_ (top_le _ _); simp only [World.size_alloc]; refine Nat.le_succ_of_le (Nat.le_trans ?_ (top_le _ _)); simp; done)) _))⟩

theorem own : ownKnob Try.prog.godebug = none := by kernel_rfl
set_option maxRecDepth 100000 in
theorem lifted (os : Os) (started : os.Started) (H : Type) (enc : TypeId × Value → H) :
    ReturnsInHanded {} Try.checked os 4 .any (Rows.reliefNearSpec.pre6 enc Try.prog Try.f4 Rows.reliefNearRow.domain false) (Rows.reliefNearSpec.post enc Try.prog Try.f4 false true false false) := by
  refine returnsInHanded_of_change_sized (C := Try.checked) own started (by kernel_rfl) Try.func4
    (ChangeSpec.witness6 (enc := enc) (C := Try.checked) false ⟨#[], #[.agg #[.int .i64 0, .int .i64 0, .int .i64 0], .agg #[.int .i64 0, .int .i64 0, .int .i64 0], .int .i64 0, .int .i64 0], []⟩ 12 (by kernel_rfl) (by kernel_rfl) (by kernel_rfl) (by kernel_rfl)) ?_
  intro W base args ds gs before hval0 hW hcnd hwt _
  have hval : ∀ (j : Nat) t v, Try.f4.params[j]? = some t → args[j]? = some v → Value.okWide Try.prog W .any base t v := hval0
  have hW' := hW
  obtain ⟨p, q, hA0, hV, rfl, hfz, hnd⟩ := hW
  have hA : DataW.TrodAll enc Try.prog W 0 (fun _ => true) true Try.f4.params.toList args.toList ds p := hA0
  rw [Try.params4] at hA hval
  obtain ⟨v0, vs0, d0, ds0, p0, q0, hargs, rfl, rfl, h0, r0⟩ := trodAll_cons hA
  obtain ⟨v1, vs1, d1, ds1, p1, q1, rfl, rfl, rfl, h1, r1⟩ := trodAll_cons r0
  obtain ⟨v2, vs2, d2, ds2, p2, q2, rfl, rfl, rfl, h2, r2⟩ := trodAll_cons r1
  obtain ⟨v3, vs3, d3, ds3, p3, q3, rfl, rfl, rfl, h3, r3⟩ := trodAll_cons r2
  obtain ⟨rfl, rfl, rfl⟩ := trodAll_nil r3
  obtain rfl : args = #[v0, v1, v2, v3] := by cases args; simp_all
  obtain ⟨a0, rfl, k0⟩ := open_P (hval 0 26 v0 rfl rfl) h0
  obtain ⟨a1, rfl, k1⟩ := open_P (hval 1 26 v1 rfl rfl) h1
  obtain ⟨a2, rfl, b2⟩ := open_int64 (hval 2 3 v2 rfl rfl) h2
  obtain ⟨a3, rfl, b3⟩ := open_int64 (hval 3 3 v3 rfl rfl) h3
  refine (walk W a0 k0 a1 k1 a2 b2 a3 b3).mono fun e W' ⟨he, hb⟩ => ?_
  subst he
  exact ⟨_, rfl, law_post (tb := 4) (by kernel_rfl) (by kernel_rfl) rfl rfl Try.underlying4 rfl rfl rfl hW' hb⟩

theorem over : Rows.reliefNearRow.holds Try.pinned (OpenSpec.ofChange Rows.reliefNearSpec) :=
  OpenClaim.holds_of_wide 4 Try.f4 rfl rfl rfl rfl rfl rfl rfl ⟨rfl, rfl, rfl, rfl, rfl⟩ rfl rfl rfl rfl rfl (by kernel_rfl) Try.func4 (by kernel_rfl)
    (of_decide_eq_true (by kernel_rfl)) (by unfold Func.isWrapper; first | (rw [if_pos (by decide +kernel)]; kernel_rfl) | (rw [if_neg (by decide +kernel)]; exact ⟨rfl, rfl⟩))
    (fun os started H enc _ => lifted os started H enc)

theorem proved : Rows.ReliefNearSaid :=
  over
#print axioms proved
end Go.Proofs.Yteigionfaodafaa.reliefNear
