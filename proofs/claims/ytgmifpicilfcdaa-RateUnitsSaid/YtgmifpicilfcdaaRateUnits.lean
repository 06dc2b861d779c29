/- RateUnits holds for every input: the row, out of the walk. No condition. -/
import Derived.Test.YtgmifpicilfcdaaRows
import Derived.Test.YtgmifpicilfcdaaC4
import Derived.Test.YtgmifpicilfcdaaC5
namespace Go.Proofs.Ytgmifpicilfcdaa.rateUnits
open Go.ChangeShapes Go.WideShapes Go.ChangeAt Go.RowKit
set_option linter.unusedVariables false
set_option linter.unusedSimpArgs false
theorem units_yes {p : Nat → P3} {u : Int} (h : okB p 4 = true) (hu : 1 ≤ u) : 1 ≤ edK p u ∧ edK p u ≤ 16 := by
  unfold edK
  rw [if_pos ⟨h, hu⟩]
  exact edF_bd (lenF_bd h).1 hu
theorem units_le {p : Nat → P3} {u v : Int} (h : okB p 4 = true) (hu : 1 ≤ u) (hv : u ≤ v) : 1 ≤ edK p v ∧ edK p v ≤ edK p u := by
  refine ⟨(units_yes h (by omega)).1, ?_⟩
  unfold edK
  rw [if_pos (show okB p 4 = true ∧ 1 ≤ v from ⟨h, by omega⟩), if_pos (show okB p 4 = true ∧ 1 ≤ u from ⟨h, hu⟩)]
  exact edF_le (lenF_bd h).1 hu hv
set_option maxRecDepth 100000 in
set_option maxHeartbeats 4000000 in
theorem no (w : World) (p : Nat → P3) (u m : Int) (h : okB p 4 = false ∨ ¬ 1 ≤ u) : Calls Try.prog 5 #[.agg (ptsC 4 p), .int .i64 u, .int .i64 m] w fun e w' => e = .returned (.bool true) ∧ Below w.heap.size w w' := by
  have al := alive12_any
  have k1 := length_any p
  have k3 := edge_any p u
  rw [edK_no h] at k3
  rw [ptsC4] at k1 k3 ⊢
  generalize lenK p = LL at *
  generalize okB p 4 = ok at *
  cases ok
  · clear h
    go_enter Try.func5, Try.ntmps5
    go_wp2_with (first | (go_at_call 7; first | ((with_reducible refine (al.at_ _).mono ?_); rintro e w' ⟨rfl, xa, rfl⟩)) | (go_at_call 8; first | ((with_reducible refine (k1.at_ _).mono ?_); rintro e w' ⟨rfl, xb, rfl⟩)) | (go_at_call 10; first | ((with_reducible refine (k3.at_ _).mono ?_); rintro e w' ⟨rfl, xc, rfl⟩)) | fail)
    all_goals
      go_ret
      exact ⟨rfl, (by repeat (first | exact Below.refl _ _ | refine bel_then ?_ _ | refine bel_grow ?_ _ | refine bel_alloc ?_ _ | refine bel_drew ?_ | refine bel_set ?_ (by simp) _ | refine bel_setRow ?_ (by first | omega | (simp; done) | (refine Nat.le_trans ?_ (top_le _ _); simp; done) | (refine Nat.le_succ_of_le (Nat.le_trans ?_ (top_le _ _)); simp; done) | (refine Nat.le_trans ?_ (top_le _ _); simp only [World.size_alloc]; refine Nat.le_succ_of_le (Nat.le_trans ?_ (top_le _ _)); simp; done)) _))⟩
  · have h1 : u < 1 := by
      rcases h with h | h
      · cases h
      · omega
    clear h
    go_enter Try.func5, Try.ntmps5
    go_wp2_with (first | (go_at_call 7; first | ((with_reducible refine (al.at_ _).mono ?_); rintro e w' ⟨rfl, xa, rfl⟩)) | (go_at_call 8; first | ((with_reducible refine (k1.at_ _).mono ?_); rintro e w' ⟨rfl, xb, rfl⟩)) | (go_at_call 10; first | ((with_reducible refine (k3.at_ _).mono ?_); rintro e w' ⟨rfl, xc, rfl⟩)) | fail)
    all_goals
      go_ret
      exact ⟨rfl, (by repeat (first | exact Below.refl _ _ | refine bel_then ?_ _ | refine bel_grow ?_ _ | refine bel_alloc ?_ _ | refine bel_drew ?_ | refine bel_set ?_ (by simp) _ | refine bel_setRow ?_ (by first | omega | (simp; done) | (refine Nat.le_trans ?_ (top_le _ _); simp; done) | (refine Nat.le_succ_of_le (Nat.le_trans ?_ (top_le _ _)); simp; done) | (refine Nat.le_trans ?_ (top_le _ _); simp only [World.size_alloc]; refine Nat.le_succ_of_le (Nat.le_trans ?_ (top_le _ _)); simp; done)) _))⟩
set_option maxRecDepth 100000 in
set_option maxHeartbeats 4000000 in
theorem yes (w : World) (p : Nat → P3) (u m : Int) (h : okB p 4 = true) (hu : 1 ≤ u) : Calls Try.prog 5 #[.agg (ptsC 4 p), .int .i64 u, .int .i64 m] w fun e w' => e = .returned (.bool true) ∧ Below w.heap.size w w' := by
  have al := alive12_any
  have k3 := edge_any p u
  have k4 := edge_any p (u + m)
  obtain ⟨e1, e2⟩ := units_yes h hu
  have hv : 0 ≤ m → 1 ≤ edK p (u + m) ∧ edK p (u + m) ≤ edK p u := fun hm => units_le h hu (by omega)
  rw [ptsC4] at k3 k4 ⊢
  generalize edK p (u + m) = F at *
  generalize edK p u = E at *
  clear h
  have ez : ¬ E = 0 := by omega
  by_cases hm : m < 0
  · clear hv k4
    go_enter Try.func5, Try.ntmps5
    go_wp2_with (first | (go_at_call 7; first | ((with_reducible refine (al.at_ _).mono ?_); rintro e w' ⟨rfl, xa, rfl⟩)) | (go_at_call 10; first | ((with_reducible refine (k3.at_ _).mono ?_); rintro e w' ⟨rfl, xc, rfl⟩)) | fail)
    all_goals
      go_ret
      exact ⟨rfl, (by repeat (first | exact Below.refl _ _ | refine bel_then ?_ _ | refine bel_grow ?_ _ | refine bel_alloc ?_ _ | refine bel_drew ?_ | refine bel_set ?_ (by simp) _ | refine bel_setRow ?_ (by first | omega | (simp; done) | (refine Nat.le_trans ?_ (top_le _ _); simp; done) | (refine Nat.le_succ_of_le (Nat.le_trans ?_ (top_le _ _)); simp; done) | (refine Nat.le_trans ?_ (top_le _ _); simp only [World.size_alloc]; refine Nat.le_succ_of_le (Nat.le_trans ?_ (top_le _ _)); simp; done)) _))⟩
  · obtain ⟨f1, f2⟩ := hv (by omega)
    clear hv
    by_cases hm2 : m > 1048576
    · go_enter Try.func5, Try.ntmps5
      go_wp2_with (first | (go_at_call 7; first | ((with_reducible refine (al.at_ _).mono ?_); rintro e w' ⟨rfl, xa, rfl⟩)) | (go_at_call 10; first | ((with_reducible refine (k3.at_ _).mono ?_); rintro e w' ⟨rfl, xc, rfl⟩)) | fail)
      all_goals
        go_ret
        exact ⟨rfl, (by repeat (first | exact Below.refl _ _ | refine bel_then ?_ _ | refine bel_grow ?_ _ | refine bel_alloc ?_ _ | refine bel_drew ?_ | refine bel_set ?_ (by simp) _ | refine bel_setRow ?_ (by first | omega | (simp; done) | (refine Nat.le_trans ?_ (top_le _ _); simp; done) | (refine Nat.le_succ_of_le (Nat.le_trans ?_ (top_le _ _)); simp; done) | (refine Nat.le_trans ?_ (top_le _ _); simp only [World.size_alloc]; refine Nat.le_succ_of_le (Nat.le_trans ?_ (top_le _ _)); simp; done)) _))⟩
    · by_cases hu2 : u > 1048576
      · go_enter Try.func5, Try.ntmps5
        go_wp2_with (first | (go_at_call 7; first | ((with_reducible refine (al.at_ _).mono ?_); rintro e w' ⟨rfl, xa, rfl⟩)) | (go_at_call 10; first | ((with_reducible refine (k3.at_ _).mono ?_); rintro e w' ⟨rfl, xc, rfl⟩)) | fail)
        all_goals
          go_ret
          exact ⟨rfl, (by repeat (first | exact Below.refl _ _ | refine bel_then ?_ _ | refine bel_grow ?_ _ | refine bel_alloc ?_ _ | refine bel_drew ?_ | refine bel_set ?_ (by simp) _ | refine bel_setRow ?_ (by first | omega | (simp; done) | (refine Nat.le_trans ?_ (top_le _ _); simp; done) | (refine Nat.le_succ_of_le (Nat.le_trans ?_ (top_le _ _)); simp; done) | (refine Nat.le_trans ?_ (top_le _ _); simp only [World.size_alloc]; refine Nat.le_succ_of_le (Nat.le_trans ?_ (top_le _ _)); simp; done)) _))⟩
      · go_enter Try.func5, Try.ntmps5
        go_wp2_with (first | (go_at_call 7; first | ((with_reducible refine (al.at_ _).mono ?_); rintro e w' ⟨rfl, xa, rfl⟩)) | (go_at_call 10; first | ((with_reducible refine (k3.at_ _).mono ?_); rintro e w' ⟨rfl, xc, rfl⟩) | ((with_reducible refine (k4.at_ _).mono ?_); rintro e w' ⟨rfl, xd, rfl⟩)) | fail)
        all_goals
          go_ret
          exact ⟨rfl, (by repeat (first | exact Below.refl _ _ | refine bel_then ?_ _ | refine bel_grow ?_ _ | refine bel_alloc ?_ _ | refine bel_drew ?_ | refine bel_set ?_ (by simp) _ | refine bel_setRow ?_ (by first | omega | (simp; done) | (refine Nat.le_trans ?_ (top_le _ _); simp; done) | (refine Nat.le_succ_of_le (Nat.le_trans ?_ (top_le _ _)); simp; done) | (refine Nat.le_trans ?_ (top_le _ _); simp only [World.size_alloc]; refine Nat.le_succ_of_le (Nat.le_trans ?_ (top_le _ _)); simp; done)) _))⟩
theorem walk (w : World) (p : Nat → P3) (kp : ∀ k, k < 4 → In3 (p k)) (u : Int) (bu : In64 u) (m : Int) (bm : In64 m) : Calls Try.prog 5 #[.agg (ptsC 4 p), .int .i64 u, .int .i64 m] w fun e w' => e = .returned (.bool true) ∧ Below w.heap.size w w' := by
  by_cases h : okB p 4 = true ∧ 1 ≤ u
  · exact yes w p u m h.1 h.2
  · refine no w p u m ?_
    cases e : okB p 4
    · exact .inl rfl
    · exact .inr fun hu => h ⟨e, hu⟩

theorem own : ownKnob Try.prog.godebug = none := by kernel_rfl
set_option maxRecDepth 100000 in
theorem lifted (os : Os) (started : os.Started) (H : Type) (enc : TypeId × Value → H) :
    ReturnsInHanded {} Try.checked os 5 .any (Rows.rateUnitsSpec.pre6 enc Try.prog Try.f5 Rows.rateUnitsRow.domain false) (Rows.rateUnitsSpec.post enc Try.prog Try.f5 false true false false) := by
  refine returnsInHanded_of_change (C := Try.checked) own started (by kernel_rfl) Try.func5
    (ChangeSpec.witness6 (enc := enc) (C := Try.checked) false ⟨#[], #[.agg #[.int .i64 0, .int .i64 0, .int .i64 0, .int .i64 0, .int .i64 0, .int .i64 0, .int .i64 0, .int .i64 0, .int .i64 0, .int .i64 0, .int .i64 0, .int .i64 0], .int .i64 0, .int .i64 0], []⟩ 12 (by kernel_rfl) (by kernel_rfl) (by kernel_rfl) (by kernel_rfl)) ?_
  intro W base args ds gs before hval0 hW hcnd _
  have hval : ∀ (j : Nat) t v, Try.f5.params[j]? = some t → args[j]? = some v → Value.okWide Try.prog W .any base t v := hval0
  have hW' := hW
  obtain ⟨p, q, hA0, hV, rfl, hfz, hnd⟩ := hW
  have hA : DataW.TrodAll enc Try.prog W 0 (fun _ => true) true Try.f5.params.toList args.toList ds p := hA0
  rw [Try.params5] at hA hval
  obtain ⟨v0, vs0, d0, ds0, p0, q0, hargs, rfl, rfl, h0, r0⟩ := trodAll_cons hA
  obtain ⟨v1, vs1, d1, ds1, p1, q1, rfl, rfl, rfl, h1, r1⟩ := trodAll_cons r0
  obtain ⟨v2, vs2, d2, ds2, p2, q2, rfl, rfl, rfl, h2, r2⟩ := trodAll_cons r1
  obtain ⟨rfl, rfl, rfl⟩ := trodAll_nil r2
  obtain rfl : args = #[v0, v1, v2] := by cases args; simp_all
  obtain ⟨p0, rfl, k0⟩ := open_A4 (hval 0 26 v0 rfl rfl) h0
  obtain ⟨a1, rfl, b1⟩ := open_int64 (hval 1 3 v1 rfl rfl) h1
  obtain ⟨a2, rfl, b2⟩ := open_int64 (hval 2 3 v2 rfl rfl) h2
  refine (walk W p0 k0 a1 b1 a2 b2).mono fun e W' ⟨he, hb⟩ => ?_
  subst he
  exact ⟨_, rfl, law_post (tb := 4) (by kernel_rfl) (by kernel_rfl) rfl rfl Try.underlying4 rfl rfl rfl hW' hb⟩

theorem over : Rows.rateUnitsRow.holds Try.pinned (OpenSpec.ofChange Rows.rateUnitsSpec) :=
  OpenClaim.holds_of_wide 5 Try.f5 rfl rfl rfl rfl rfl rfl rfl ⟨rfl, rfl, rfl, rfl, rfl⟩ rfl rfl rfl rfl rfl (by kernel_rfl) Try.func5 (by kernel_rfl)
    (of_decide_eq_true (by kernel_rfl)) (by unfold Func.isWrapper; first | (rw [if_pos (by decide +kernel)]; kernel_rfl) | (rw [if_neg (by decide +kernel)]; exact ⟨rfl, rfl⟩))
    (fun os started H enc _ => lifted os started H enc)

theorem proved : Rows.RateUnitsSaid :=
  over
#print axioms proved
end Go.Proofs.Ytgmifpicilfcdaa.rateUnits
