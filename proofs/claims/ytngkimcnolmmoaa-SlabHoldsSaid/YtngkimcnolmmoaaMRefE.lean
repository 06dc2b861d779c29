/- The document's own numbers: right, Order, Sqrt. -/
import Derived.Test.YtngkimcnolmmoaaMRefC
import Derived.Test.YtngkimcnolmmoaaMWide
import Derived.Test.YtngkimcnolmmoaaSideM
namespace Go.Proofs.Ytngkimcnolmmoaa
open Go.RowKit
set_option linter.unusedVariables false
set_option linter.unusedSimpArgs false
theorem right_yes (n d : Int) (h : Right n d) : Gives Try.prog 40 #[.agg #[.int .i64 n, .int .i64 d]] (.bool true) := by
  refine Gives.mk fun w => ?_
  unfold Right at h
  by_cases h0 : 0 < d
  · clear h
    go_enter Try.func40, Try.ntmps40
    go_wp2
    go_ret
    exact ⟨rfl, (by repeat (first | exact Below.refl _ _ | refine bel_then ?_ _ | refine bel_grow ?_ _ | refine bel_alloc ?_ _ | refine bel_drew ?_ | refine bel_set ?_ (by simp) _ | refine bel_setRow ?_ (by first | omega | (simp; done) | (refine Nat.le_trans ?_ (top_le _ _); simp; done) | (refine Nat.le_succ_of_le (Nat.le_trans ?_ (top_le _ _)); simp; done) | (refine Nat.le_trans ?_ (top_le _ _); simp only [World.size_alloc]; refine Nat.le_succ_of_le (Nat.le_trans ?_ (top_le _ _)); simp; done)) _))⟩
  · obtain ⟨rfl, rfl⟩ : n = 1 ∧ d = 0 := by omega
    clear h h0
    go_enter Try.func40, Try.ntmps40
    go_wp2
    go_ret
    exact ⟨rfl, (by repeat (first | exact Below.refl _ _ | refine bel_then ?_ _ | refine bel_grow ?_ _ | refine bel_alloc ?_ _ | refine bel_drew ?_ | refine bel_set ?_ (by simp) _ | refine bel_setRow ?_ (by first | omega | (simp; done) | (refine Nat.le_trans ?_ (top_le _ _); simp; done) | (refine Nat.le_succ_of_le (Nat.le_trans ?_ (top_le _ _)); simp; done) | (refine Nat.le_trans ?_ (top_le _ _); simp only [World.size_alloc]; refine Nat.le_succ_of_le (Nat.le_trans ?_ (top_le _ _)); simp; done)) _))⟩
theorem right_no (n d : Int) (h : ¬ Right n d) : Gives Try.prog 40 #[.agg #[.int .i64 n, .int .i64 d]] (.bool false) := by
  refine Gives.mk fun w => ?_
  unfold Right at h
  have h0 : d ≤ 0 := by omega
  by_cases h1 : d = 0
  · subst h1
    have h2 : (n == 1) = false := by simp; omega
    clear h
    go_enter Try.func40, Try.ntmps40
    go_wp2
    go_ret
    exact ⟨rfl, (by repeat (first | exact Below.refl _ _ | refine bel_then ?_ _ | refine bel_grow ?_ _ | refine bel_alloc ?_ _ | refine bel_drew ?_ | refine bel_set ?_ (by simp) _ | refine bel_setRow ?_ (by first | omega | (simp; done) | (refine Nat.le_trans ?_ (top_le _ _); simp; done) | (refine Nat.le_succ_of_le (Nat.le_trans ?_ (top_le _ _)); simp; done) | (refine Nat.le_trans ?_ (top_le _ _); simp only [World.size_alloc]; refine Nat.le_succ_of_le (Nat.le_trans ?_ (top_le _ _)); simp; done)) _))⟩
  · have h2 : d < 0 := by omega
    have h3 : decide (0 < d) = false := by simp; omega
    have h4 : (d == 0) = false := by simp; omega
    clear h h1
    go_enter Try.func40, Try.ntmps40
    go_wp2
    go_ret
    exact ⟨rfl, (by repeat (first | exact Below.refl _ _ | refine bel_then ?_ _ | refine bel_grow ?_ _ | refine bel_alloc ?_ _ | refine bel_drew ?_ | refine bel_set ?_ (by simp) _ | refine bel_setRow ?_ (by first | omega | (simp; done) | (refine Nat.le_trans ?_ (top_le _ _); simp; done) | (refine Nat.le_succ_of_le (Nat.le_trans ?_ (top_le _ _)); simp; done) | (refine Nat.le_trans ?_ (top_le _ _); simp only [World.size_alloc]; refine Nat.le_succ_of_le (Nat.le_trans ?_ (top_le _ _)); simp; done)) _))⟩
set_option maxHeartbeats 1000000 in
theorem rOrder_yes (pn pd qn qd : Int) (a0 : -9223372036854775808 ≤ pn ∧ pn ≤ 9223372036854775807) (b0 : -9223372036854775808 ≤ pd ∧ pd ≤ 9223372036854775807) (c0 : -9223372036854775808 ≤ qn ∧ qn ≤ 9223372036854775807) (d0 : -9223372036854775808 ≤ qd ∧ qd ≤ 9223372036854775807) (hp : Right pn pd) (hq : Right qn qd) : Gives Try.prog 36 #[.agg #[.int .i64 pn, .int .i64 pd], .agg #[.int .i64 qn, .int .i64 qd]] (.tuple #[.int .i64 (cmpOf (pn * qd) (qn * pd)), .bool true]) := by
  refine Gives.mk fun w => ?_
  have r1 := right_yes pn pd hp
  have r2 := right_yes qn qd hq
  have f1 := fromInt_any pn a0.1 a0.2
  have f2 := fromInt_any qd d0.1 d0.2
  have f3 := fromInt_any qn c0.1 c0.2
  have f4 := fromInt_any pd b0.1 b0.2
  have t1 := times_any pn qd (half_i a0.1 a0.2) (half_i d0.1 d0.2)
  have t2 := times_any qn pd (half_i c0.1 c0.2) (half_i b0.1 b0.2)
  have c := compare_any (pn * qd) (qn * pd) (big_w (inW_mul _ _ a0.1 a0.2 d0.1 d0.2)) (big_w (inW_mul _ _ c0.1 c0.2 b0.1 b0.2))
  generalize numc (sg pn) (dg pn.natAbs) = N1 at *
  generalize numc (sg qd) (dg qd.natAbs) = N2 at *
  generalize numc (sg qn) (dg qn.natAbs) = N3 at *
  generalize numc (sg pd) (dg pd.natAbs) = N4 at *
  generalize numc (sg (pn * qd)) (dg (pn * qd).natAbs) = N5 at *
  generalize numc (sg (qn * pd)) (dg (qn * pd).natAbs) = N6 at *
  generalize cmpOf (pn * qd) (qn * pd) = v at *
  clear hp hq a0 b0 c0 d0
  go_enter Try.func36, Try.ntmps36
  go_wp2_with (first | (go_at_call 40; first | ((with_reducible refine (r1.at_ _).mono ?_); rintro e w' ⟨rfl, xg, rfl⟩) | ((with_reducible refine (r2.at_ _).mono ?_); rintro e w' ⟨rfl, xg, rfl⟩)))
  refine wp_region_grow (by kernel_rfl) (by kernel_rfl) ?_
  repeat (go_big_quiet_step (((first | with_reducible exact f1.quiet _ | with_reducible exact f1.quiet2 _ _ | with_reducible exact f2.quiet _ | with_reducible exact f2.quiet2 _ _ | with_reducible exact f3.quiet _ | with_reducible exact f3.quiet2 _ _ | with_reducible exact f4.quiet _ | with_reducible exact f4.quiet2 _ _ | with_reducible exact t1.quiet _ | with_reducible exact t1.quiet2 _ _ | with_reducible exact t2.quiet _ | with_reducible exact t2.quiet2 _ _ | with_reducible exact c.quiet _ | with_reducible exact c.quiet2 _ _))))
  refine wpQuiet_nil ?_
  rintro _ ⟨xg, rfl⟩
  go_wp2_with fail
  go_ret2
  exact ⟨rfl, (by repeat (first | exact Below.refl _ _ | refine bel_then ?_ _ | refine bel_grow ?_ _ | refine bel_alloc ?_ _ | refine bel_drew ?_ | refine bel_set ?_ (by simp) _ | refine bel_setRow ?_ (by first | omega | (simp; done) | (refine Nat.le_trans ?_ (top_le _ _); simp; done) | (refine Nat.le_succ_of_le (Nat.le_trans ?_ (top_le _ _)); simp; done) | (refine Nat.le_trans ?_ (top_le _ _); simp only [World.size_alloc]; refine Nat.le_succ_of_le (Nat.le_trans ?_ (top_le _ _)); simp; done)) _))⟩
theorem rOrder_no (pn pd qn qd : Int) (h : ¬ (Right pn pd ∧ Right qn qd)) : Gives Try.prog 36 #[.agg #[.int .i64 pn, .int .i64 pd], .agg #[.int .i64 qn, .int .i64 qd]] (.tuple #[.int .i64 0, .bool false]) := by
  refine Gives.mk fun w => ?_
  by_cases hp : Right pn pd
  · have r1 := right_yes pn pd hp
    have r2 := right_no qn qd (fun hq => h ⟨hp, hq⟩)
    clear hp h
    go_enter Try.func36, Try.ntmps36
    go_wp2_with (first | (go_at_call 40; first | ((with_reducible refine (r1.at_ _).mono ?_); rintro e w' ⟨rfl, xg, rfl⟩) | ((with_reducible refine (r2.at_ _).mono ?_); rintro e w' ⟨rfl, xg, rfl⟩)))
    go_ret2
    exact ⟨rfl, (by repeat (first | exact Below.refl _ _ | refine bel_then ?_ _ | refine bel_grow ?_ _ | refine bel_alloc ?_ _ | refine bel_drew ?_ | refine bel_set ?_ (by simp) _ | refine bel_setRow ?_ (by first | omega | (simp; done) | (refine Nat.le_trans ?_ (top_le _ _); simp; done) | (refine Nat.le_succ_of_le (Nat.le_trans ?_ (top_le _ _)); simp; done) | (refine Nat.le_trans ?_ (top_le _ _); simp only [World.size_alloc]; refine Nat.le_succ_of_le (Nat.le_trans ?_ (top_le _ _)); simp; done)) _))⟩
  · have r1 := right_no pn pd hp
    clear hp h
    go_enter Try.func36, Try.ntmps36
    go_wp2_with (first | (go_at_call 40; first | ((with_reducible refine (r1.at_ _).mono ?_); rintro e w' ⟨rfl, xg, rfl⟩)))
    go_ret2
    exact ⟨rfl, (by repeat (first | exact Below.refl _ _ | refine bel_then ?_ _ | refine bel_grow ?_ _ | refine bel_alloc ?_ _ | refine bel_drew ?_ | refine bel_set ?_ (by simp) _ | refine bel_setRow ?_ (by first | omega | (simp; done) | (refine Nat.le_trans ?_ (top_le _ _); simp; done) | (refine Nat.le_succ_of_le (Nat.le_trans ?_ (top_le _ _)); simp; done) | (refine Nat.le_trans ?_ (top_le _ _); simp only [World.size_alloc]; refine Nat.le_succ_of_le (Nat.le_trans ?_ (top_le _ _)); simp; done)) _))⟩
end Go.Proofs.Ytngkimcnolmmoaa
