/- VecRound holds for every input: the row, out of the walk. No condition. -/
import Derived.Test.YtlfdjnmigfdjbaaRows
import Derived.Test.YtlfdjnmigfdjbaaAlive2
import Derived.Test.YtlfdjnmigfdjbaaOpenV
import Derived.Test.YtlfdjnmigfdjbaaPost
namespace Go.Proofs.Ytlfdjnmigfdjbaa.vecRound
open Go.ChangeShapes Go.WideShapes Go.ChangeAt Go.RowKit
set_option linter.unusedVariables false
set_option linter.unusedSimpArgs false
theorem rnd_near (n d : Int) (h : 1 ≤ d) : -d ≤ 2 * n - 2 * ((2 * n + d) / (2 * d)) * d ∧ 2 * n - 2 * ((2 * n + d) / (2 * d)) * d < d := by
  have h1 := Int.emod_add_mul_ediv (2 * n + d) (2 * d)
  have h2 := Int.emod_nonneg (2 * n + d) (by omega : 2 * d ≠ 0)
  have h3 := Int.emod_lt_of_pos (2 * n + d) (by omega : 0 < 2 * d)
  have h4 : 2 * ((2 * n + d) / (2 * d)) * d = 2 * d * ((2 * n + d) / (2 * d)) := by grind
  rw [h4]
  generalize 2 * d * ((2 * n + d) / (2 * d)) = u at *
  omega
theorem rnd_more (n d k : Int) (h : 1 ≤ d) : (2 * (n + k * d) + d) / (2 * d) = (2 * n + d) / (2 * d) + k := by
  rw [show 2 * (n + k * d) + d = 2 * n + d + k * (2 * d) by grind, Int.add_mul_ediv_right _ _ (by omega)]
theorem mul_bd (k d : Int) (k0 : -1048576 ≤ k) (k1 : k ≤ 1048576) (d0 : 1 ≤ d) (d1 : d ≤ 1073741824) : -1125899906842624 ≤ k * d ∧ k * d ≤ 1125899906842624 := by
  have h1 : k * d ≤ 1048576 * d := Int.mul_le_mul_of_nonneg_right k1 (by omega)
  have h2 : -1048576 * d ≤ k * d := Int.mul_le_mul_of_nonneg_right k0 (by omega)
  omega
set_option maxHeartbeats 1000000 in
theorem walk (w : World) (n : Int) (hn : In64 n) (d : Int) (hd : In64 d) (k : Int) (hk : In64 k) :
    Calls Try.prog 8 #[.int .i64 n, .int .i64 d, .int .i64 k] w fun e w' => e = .returned (.bool true) ∧ Below w.heap.size w w' := by
  have al := alive2_any
  by_cases hg : d < 1 ∨ 1073741824 < d ∨ n < -1073741824 ∨ 1073741824 < n ∨ k < -1048576 ∨ 1048576 < k
  · clear hn hd hk
    go_enter Try.func8, Try.ntmps8
    go_wp2_with (first | (go_at_call 34; first | ((with_reducible refine (al.at_ _).mono ?_); rintro e w' ⟨rfl, xg, rfl⟩)))
    all_goals first | (go_ret; exact ⟨rfl, (by repeat (first | exact Below.refl _ _ | refine bel_then ?_ _ | refine bel_grow ?_ _ | refine bel_alloc ?_ _ | refine bel_drew ?_ | refine bel_set ?_ (by simp) _ | refine bel_setRow ?_ (by simp) _))⟩) | (exfalso; omega)
  · have d0 : 1 ≤ d := by omega
    have d1 : d ≤ 1073741824 := by omega
    have n0 : -1073741824 ≤ n := by omega
    have n1 : n ≤ 1073741824 := by omega
    have k0 : -1048576 ≤ k := by omega
    have k1 : k ≤ 1048576 := by omega
    have r1 := vRound_any n d (by omega) (by omega) (by omega) (by omega)
    obtain ⟨e0, e1⟩ := rnd_near n d d0
    obtain ⟨m0, m1⟩ := mul_bd k d k0 k1 d0 d1
    have r2 := vRound_any (n + k * d) d (by omega) (by omega) (by omega) (by omega)
    rw [rnd_in (by omega)] at r1
    rw [rnd_in (by omega), rnd_more n d k d0] at r2
    have q0 : -2147483649 ≤ (2 * n + d) / (2 * d) ∧ (2 * n + d) / (2 * d) ≤ 2147483649 := by
      constructor
      · exact (Int.le_ediv_iff_mul_le (by omega)).2 (by omega)
      · have := Int.ediv_lt_of_lt_mul (a := 2 * n + d) (b := 2147483650) (c := 2 * d) (by omega) (by omega)
        omega
    generalize (2 * n + d) / (2 * d) = q at *
    have u0 : -9223372036854775808 ≤ 2 * q * d ∧ 2 * q * d ≤ 9223372036854775807 := by omega
    obtain ⟨u, hu⟩ : ∃ u, 2 * q * d = u := ⟨_, rfl⟩
    obtain ⟨v, hv⟩ : ∃ v, k * d = v := ⟨_, rfl⟩
    rw [hu] at e0 e1 u0
    rw [hv] at m0 m1 r2
    clear hg hn hd hk
    go_enter Try.func8, Try.ntmps8
    go_wp2_with (first | (go_at_call 34; first | ((with_reducible refine (al.at_ _).mono ?_); rintro e w' ⟨rfl, xg, rfl⟩)) | (go_at_call 49; first | ((with_reducible refine (r1.at_ _).mono ?_); rintro e w' ⟨rfl, xg, rfl⟩) | ((with_reducible refine (r2.at_ _).mono ?_); rintro e w' ⟨rfl, xg, rfl⟩)))
    go_ret
    exact ⟨rfl, (by repeat (first | exact Below.refl _ _ | refine bel_then ?_ _ | refine bel_grow ?_ _ | refine bel_alloc ?_ _ | refine bel_drew ?_ | refine bel_set ?_ (by simp) _ | refine bel_setRow ?_ (by simp) _))⟩

theorem own : ownKnob Try.prog.godebug = none := by kernel_rfl
set_option maxRecDepth 100000 in
theorem lifted (os : Os) (started : os.Started) (H : Type) (enc : TypeId × Value → H) :
    ReturnsInHanded {} Try.checked os 8 .any (Rows.vecRoundSpec.pre6 enc Try.prog Try.f8 Rows.vecRoundRow.domain false) (Rows.vecRoundSpec.post enc Try.prog Try.f8 false true false false) := by
  refine returnsInHanded_of_change (C := Try.checked) own started (by kernel_rfl) Try.func8
    (ChangeSpec.witness6 (enc := enc) (C := Try.checked) false ⟨#[], #[.int .i64 0, .int .i64 0, .int .i64 0], []⟩ 12 (by kernel_rfl) (by kernel_rfl) (by kernel_rfl) (by kernel_rfl)) ?_
  intro W base args ds gs before hval0 hW hcnd _
  have hval : ∀ (j : Nat) t v, Try.f8.params[j]? = some t → args[j]? = some v → Value.okWide Try.prog W .any base t v := hval0
  have hW' := hW
  obtain ⟨p, q, hA0, hV, rfl, hfz, hnd⟩ := hW
  have hA : DataW.TrodAll enc Try.prog W 0 (fun _ => true) true Try.f8.params.toList args.toList ds p := hA0
  rw [Try.params8] at hA hval
  obtain ⟨v0, vs0, d0, ds0, p0, q0, hargs, rfl, rfl, h0, r0⟩ := trodAll_cons hA
  obtain ⟨v1, vs1, d1, ds1, p1, q1, rfl, rfl, rfl, h1, r1⟩ := trodAll_cons r0
  obtain ⟨v2, vs2, d2, ds2, p2, q2, rfl, rfl, rfl, h2, r2⟩ := trodAll_cons r1
  obtain ⟨rfl, rfl, rfl⟩ := trodAll_nil r2
  obtain rfl : args = #[v0, v1, v2] := by cases args; simp_all
  obtain ⟨a0, rfl, b0⟩ := open_int64 (hval 0 3 v0 rfl rfl) h0
  obtain ⟨a1, rfl, b1⟩ := open_int64 (hval 1 3 v1 rfl rfl) h1
  obtain ⟨a2, rfl, b2⟩ := open_int64 (hval 2 3 v2 rfl rfl) h2
  refine (walk W a0 b0 a1 b1 a2 b2).mono fun e W' ⟨he, hb⟩ => ?_
  subst he
  exact ⟨_, rfl, law_post (tb := 4) (by kernel_rfl) (by kernel_rfl) rfl rfl Try.underlying4 rfl rfl rfl hW' hb⟩

theorem over : Rows.vecRoundRow.holds Try.pinned (OpenSpec.ofChange Rows.vecRoundSpec) :=
  OpenClaim.holds_of_wide 8 Try.f8 rfl rfl rfl rfl rfl rfl rfl ⟨rfl, rfl, rfl, rfl, rfl⟩ rfl rfl rfl rfl rfl (by kernel_rfl) Try.func8 (by kernel_rfl)
    (of_decide_eq_true (by kernel_rfl)) (by unfold Func.isWrapper; first | (rw [if_pos (by decide +kernel)]; kernel_rfl) | (rw [if_neg (by decide +kernel)]; exact ⟨rfl, rfl⟩))
    (fun os started H enc _ => lifted os started H enc)

theorem proved : Rows.VecRoundSaid :=
  over
#print axioms proved
end Go.Proofs.Ytlfdjnmigfdjbaa.vecRound
