/- The document's blends, lifted points, directions among four. Package topo: fan. Rows copied and compared; a point that the document fixes. Blends: told backwards, of one, at the ends, and where they lie. Rows of points that are read; cages that are handed in, opened. A row's length within its room, all that a copy asks: of a cage's vertices and creases. -/
import Derived.OwnWalk
import Derived.Maps.AppendAt
import Derived.Deep.Upon
import Derived.Deep.MidRow
import Derived.Test.YteigionfaodafaaC0
import Derived.Test.YteigionfaodafaaC1
import Derived.Test.YteigionfaodafaaC3
import Derived.Test.YteigionfaodafaaC4
import Derived.Test.YteigionfaodafaaC5
namespace Go.Proofs.Yteigionfaodafaa
open Go.RowKit
set_option linter.unusedVariables false
set_option linter.unusedSimpArgs false
set_option linter.unnecessarySimpa false
set_option maxRecDepth 100000
set_option maxHeartbeats 1000000 in
theorem rBlend_any (a b : P3) (i n : Int) (hi : -9223372036854775808 ≤ i ∧ i ≤ 9223372036854775807) (hn : -9223372036854775808 ≤ n ∧ n ≤ 9223372036854775807) :
    Gives Try.prog 13 #[.agg #[.int .i64 a.x, .int .i64 a.y, .int .i64 a.z], .agg #[.int .i64 b.x, .int .i64 b.y, .int .i64 b.z], .int .i64 i, .int .i64 n] (.tuple #[.agg #[.int .i64 (blP a b i n).x, .int .i64 (blP a b i n).y, .int .i64 (blP a b i n).z], .bool (blK a b i n)]) := by
  have k1 : Gives Try.prog 27 #[.agg #[.int .i64 a.x, .int .i64 a.y, .int .i64 a.z], .int .i64 1023] (.bool (wB a 1023)) := uWin_any a.x a.y a.z 1023 (by omega) (by omega)
  have k2 : Gives Try.prog 27 #[.agg #[.int .i64 b.x, .int .i64 b.y, .int .i64 b.z], .int .i64 1023] (.bool (wB b 1023)) := uWin_any b.x b.y b.z 1023 (by omega) (by omega)
  by_cases hp : 1 ≤ n ∧ n ≤ 16 ∧ 0 ≤ i ∧ i ≤ n
  · obtain ⟨n1, n2, i1, i2⟩ := hp
    have hpk : plK i n = true := decide_eq_true ⟨n1, n2, i1, i2⟩
    cases ha : wB a 1023
    · have hk : blK a b i n = false := by unfold blK; rw [ha, hpk]; rfl
      rw [ha] at k1
      rw [blP_no hk, hk]
      clear hk ha hpk
      refine Gives.mk fun w => ?_
      go_enter Try.func13, Try.ntmps13
      go_wp2_with (first | (go_at_call 27; first | ((with_reducible refine (k1.at_ _).mono ?_); rintro e w' ⟨rfl, xg, rfl⟩) | ((with_reducible refine (k2.at_ _).mono ?_); rintro e w' ⟨rfl, xg, rfl⟩)) | fail)
      refine bodyPost_ret (v := .tuple #[.agg #[.int .i64 N3.x, .int .i64 N3.y, .int .i64 N3.z], .bool false]) (by simp [results, Try.results13, go_sem, N3]) rfl ⟨rfl, (by repeat (first | exact Below.refl _ _ | refine bel_then ?_ _ | refine bel_grow ?_ _ | refine bel_alloc ?_ _ | refine bel_drew ?_ | refine bel_set ?_ (by simp) _ | refine bel_setRow ?_ (by first | omega | (simp; done) | (refine Nat.le_trans ?_ (top_le _ _); simp; done) | (refine Nat.le_succ_of_le (Nat.le_trans ?_ (top_le _ _)); simp; done) | (refine Nat.le_trans ?_ (top_le _ _); simp only [World.size_alloc]; refine Nat.le_succ_of_le (Nat.le_trans ?_ (top_le _ _)); simp; done)) _))⟩
    · rw [ha] at k1
      cases hb : wB b 1023
      · have hk : blK a b i n = false := by unfold blK; rw [ha, hpk, hb]; rfl
        rw [hb] at k2
        rw [blP_no hk, hk]
        clear hk ha hpk hb
        refine Gives.mk fun w => ?_
        go_enter Try.func13, Try.ntmps13
        go_wp2_with (first | (go_at_call 27; first | ((with_reducible refine (k1.at_ _).mono ?_); rintro e w' ⟨rfl, xg, rfl⟩) | ((with_reducible refine (k2.at_ _).mono ?_); rintro e w' ⟨rfl, xg, rfl⟩)) | fail)
        refine bodyPost_ret (v := .tuple #[.agg #[.int .i64 N3.x, .int .i64 N3.y, .int .i64 N3.z], .bool false]) (by simp [results, Try.results13, go_sem, N3]) rfl ⟨rfl, (by repeat (first | exact Below.refl _ _ | refine bel_then ?_ _ | refine bel_grow ?_ _ | refine bel_alloc ?_ _ | refine bel_drew ?_ | refine bel_set ?_ (by simp) _ | refine bel_setRow ?_ (by first | omega | (simp; done) | (refine Nat.le_trans ?_ (top_le _ _); simp; done) | (refine Nat.le_succ_of_le (Nat.le_trans ?_ (top_le _ _)); simp; done) | (refine Nat.le_trans ?_ (top_le _ _); simp only [World.size_alloc]; refine Nat.le_succ_of_le (Nat.le_trans ?_ (top_le _ _)); simp; done)) _))⟩
      · have hk : blK a b i n = true := by unfold blK; rw [ha, hpk, hb]; rfl
        rw [hb] at k2
        have k3 := rScale_r ha (k := n - i) (by omega)
        have k4 := rScale_r hb (k := i) (by omega)
        have hS := blS_bd hk
        have k5 := rAdd_r (a := scE a (n - i)) (b := scE b i) (hS.up (by omega))
        have k6 := rOf_any (adE (scE a (n - i)) (scE b i)) n (by obtain ⟨h1, h2, h3⟩ := hS; exact ⟨⟨by unfold blS at h1; omega, by unfold blS at h1; omega⟩, ⟨by unfold blS at h2; omega, by unfold blS at h2; omega⟩, by unfold blS at h3; omega, by unfold blS at h3; omega⟩) (by omega)
        rw [blP_yes hk, hk]
        unfold blS at *
        generalize adE (scE a (n - i)) (scE b i) = s at *
        generalize scE a (n - i) = u1 at *
        generalize scE b i = u2 at *
        generalize rnP s n = q at *
        clear hk ha hb hpk hS
        refine Gives.mk fun w => ?_
        go_enter Try.func13, Try.ntmps13
        go_upto_region 3 with (first | (go_at_call 27; first | ((with_reducible refine (k1.at_ _).mono ?_); rintro e w' ⟨rfl, xg, rfl⟩) | ((with_reducible refine (k2.at_ _).mono ?_); rintro e w' ⟨rfl, xg, rfl⟩)) | fail)
        clear k1 k2
        refine wp_region_tail 11 ?_ (by kernel_rfl) (by kernel_rfl) (by kernel_rfl) (fun x => ?_) (fun x => ?_)
        rotate_left
        · simp only [List.take_succ_cons, List.take_zero]
          repeat (go_big_quiet_step (((first | with_reducible exact k3.quiet _ | with_reducible exact k3.quiet2 _ _ | with_reducible exact k4.quiet _ | with_reducible exact k4.quiet2 _ _ | with_reducible exact k5.quiet _ | with_reducible exact k5.quiet2 _ _ | with_reducible exact k6.quiet _ | with_reducible exact k6.quiet2 _ _))))
          refine wpQuiet_nil ?_
          exact rfl
        simp only [List.drop_succ_cons, List.drop_zero]
        try simp only [Act.put, List.setIfInBounds_toArray, List.set_cons_succ, List.set_cons_zero]
        go_wp2
        refine bodyPost_ret (v := .tuple #[.agg #[.int .i64 q.x, .int .i64 q.y, .int .i64 q.z], .bool true]) (by simp [results, Try.results13, go_sem]) rfl ⟨rfl, (by repeat (first | exact Below.refl _ _ | refine bel_then ?_ _ | refine bel_grow ?_ _ | refine bel_alloc ?_ _ | refine bel_drew ?_ | refine bel_set ?_ (by simp) _ | refine bel_setRow ?_ (by first | omega | (simp; done) | (refine Nat.le_trans ?_ (top_le _ _); simp; done) | (refine Nat.le_succ_of_le (Nat.le_trans ?_ (top_le _ _)); simp; done) | (refine Nat.le_trans ?_ (top_le _ _); simp only [World.size_alloc]; refine Nat.le_succ_of_le (Nat.le_trans ?_ (top_le _ _)); simp; done)) _))⟩
  · have hk : blK a b i n = false := by unfold blK; rw [show plK i n = false from decide_eq_false hp]; rfl
    rw [blP_no hk, hk]
    clear hk
    rcases (by omega : n < 1 ∨ (1 ≤ n ∧ 16 < n) ∨ (1 ≤ n ∧ n ≤ 16 ∧ i < 0) ∨ (1 ≤ n ∧ n ≤ 16 ∧ 0 ≤ i ∧ n < i)) with h1 | ⟨h1, h2⟩ | ⟨h1, h2, h3⟩ | ⟨h1, h2, h3, h4⟩
    all_goals
      clear hp
      refine Gives.mk fun w => ?_
      go_enter Try.func13, Try.ntmps13
      go_wp2_with fail
      all_goals
        refine bodyPost_ret (v := .tuple #[.agg #[.int .i64 N3.x, .int .i64 N3.y, .int .i64 N3.z], .bool false]) (by simp [results, Try.results13, go_sem, N3]) rfl ⟨rfl, (by repeat (first | exact Below.refl _ _ | refine bel_then ?_ _ | refine bel_grow ?_ _ | refine bel_alloc ?_ _ | refine bel_drew ?_ | refine bel_set ?_ (by simp) _ | refine bel_setRow ?_ (by first | omega | (simp; done) | (refine Nat.le_trans ?_ (top_le _ _); simp; done) | (refine Nat.le_succ_of_le (Nat.le_trans ?_ (top_le _ _)); simp; done) | (refine Nat.le_trans ?_ (top_le _ _); simp only [World.size_alloc]; refine Nat.le_succ_of_le (Nat.le_trans ?_ (top_le _ _)); simp; done)) _))⟩
set_option maxHeartbeats 1000000 in
theorem rLift_any (p n : P3) (t h : Int) (ht0 : -9223372036854775808 ≤ t ∧ t ≤ 9223372036854775807) (hh0 : -9223372036854775808 ≤ h ∧ h ≤ 9223372036854775807) :
    Gives Try.prog 17 #[.agg #[.int .i64 p.x, .int .i64 p.y, .int .i64 p.z], .agg #[.int .i64 n.x, .int .i64 n.y, .int .i64 n.z], .int .i64 t, .int .i64 h] (.tuple #[.agg #[.int .i64 (lfP p n t h).x, .int .i64 (lfP p n t h).y, .int .i64 (lfP p n t h).z], .bool (lfK p n t h)]) := by
  have k1 : Gives Try.prog 27 #[.agg #[.int .i64 p.x, .int .i64 p.y, .int .i64 p.z], .int .i64 65024] (.bool (wB p 65024)) := uWin_any p.x p.y p.z 65024 (by omega) (by omega)
  have k2 : Gives Try.prog 27 #[.agg #[.int .i64 n.x, .int .i64 n.y, .int .i64 n.z], .int .i64 1023] (.bool (wB n 1023)) := uWin_any n.x n.y n.z 1023 (by omega) (by omega)
  by_cases hk : lfK p n t h = true
  · obtain ⟨hp, hn, ht, hh⟩ := lfK_yes hk
    rw [hp] at k1
    rw [hn] at k2
    have b0 := th_bd ht hh
    have hw : wrap64 (t * h) = t * h := wrap_id (by omega) (by omega)
    have k4 : Gives Try.prog 36 #[.int .i64 (t * h), .int .i64 255] (.int .i64 (lfH t h)) := rRound_any (t * h) 255 (by omega) (by omega) (by omega) (by omega)
    have k5 := rScale_any n.x n.y n.z (lfH t h)
    obtain ⟨⟨s1, s2, s3⟩, s4⟩ := lfS_bd hn ht hh
    rw [s1, s2, s3] at k5
    have k6 : Gives Try.prog 32 #[.agg #[.int .i64 (scE n (lfH t h)).x, .int .i64 (scE n (lfH t h)).y, .int .i64 (scE n (lfH t h)).z], .int .i64 1024] (.agg #[.int .i64 (lfD n t h).x, .int .i64 (lfD n t h).y, .int .i64 (lfD n t h).z]) := rOf_any (scE n (lfH t h)) 1024 s4 (by omega)
    have k7 := rAdd_r (lfA_bd hp hn ht hh)
    rw [lfP_yes hk, hk]
    obtain ⟨h1, h2⟩ := hh
    obtain ⟨t1, t2⟩ := ht
    clear hk hp hn s1 s2 s3 s4 b0 ht0 hh0
    generalize adE p (lfD n t h) = q at *
    generalize lfD n t h = d at *
    generalize scE n (lfH t h) = s at *
    generalize lfH t h = u at *
    refine Gives.mk fun w => ?_
    go_enter Try.func17, Try.ntmps17
    go_upto_region 4 with (first | (go_at_call 27; first | ((with_reducible refine (k1.at_ _).mono ?_); rintro e w' ⟨rfl, xg, rfl⟩) | ((with_reducible refine (k2.at_ _).mono ?_); rintro e w' ⟨rfl, xg, rfl⟩)) | (go_at_call 36; (with_reducible refine (k4.at_ _).mono ?_); rintro e w' ⟨rfl, xg, rfl⟩) | fail)
    clear k1 k2 k4
    refine wp_region_tail 6 ?_ (by kernel_rfl) (by kernel_rfl) (by kernel_rfl) (fun x => ?_) (fun x => ?_)
    rotate_left
    · simp only [List.take_succ_cons, List.take_zero]
      repeat (go_big_quiet_step (((first | with_reducible exact k5.quiet _ | with_reducible exact k5.quiet2 _ _ | with_reducible exact k6.quiet _ | with_reducible exact k6.quiet2 _ _ | with_reducible exact k7.quiet _ | with_reducible exact k7.quiet2 _ _))))
      refine wpQuiet_nil ?_
      exact rfl
    simp only [List.drop_succ_cons, List.drop_zero]
    try simp only [Act.put, List.setIfInBounds_toArray, List.set_cons_succ, List.set_cons_zero]
    go_wp2
    refine bodyPost_ret (v := .tuple #[.agg #[.int .i64 q.x, .int .i64 q.y, .int .i64 q.z], .bool true]) (by simp [results, Try.results17, go_sem]) rfl ⟨rfl, (by repeat (first | exact Below.refl _ _ | refine bel_then ?_ _ | refine bel_grow ?_ _ | refine bel_alloc ?_ _ | refine bel_drew ?_ | refine bel_set ?_ (by simp) _ | refine bel_setRow ?_ (by first | omega | (simp; done) | (refine Nat.le_trans ?_ (top_le _ _); simp; done) | (refine Nat.le_succ_of_le (Nat.le_trans ?_ (top_le _ _)); simp; done) | (refine Nat.le_trans ?_ (top_le _ _); simp only [World.size_alloc]; refine Nat.le_succ_of_le (Nat.le_trans ?_ (top_le _ _)); simp; done)) _))⟩
  · have hk : lfK p n t h = false := by simpa using hk
    rw [lfP_no hk, hk]
    unfold lfK at hk
    generalize wB p 65024 = c1 at *
    generalize wB n 1023 = c2 at *
    generalize hc3 : decide (0 ≤ t ∧ t ≤ 255) = c3 at *
    cases c1
    rotate_left
    cases c2
    rotate_left
    cases c3
    rotate_left
    · have hh : h < 0 ∨ (0 ≤ h ∧ 255 < h) := by
        have := of_decide_eq_false (by simpa using hk : decide (0 ≤ h ∧ h ≤ 255) = false)
        omega
      obtain ⟨t0, t1⟩ := of_decide_eq_true hc3
      clear hk hc3
      rcases hh with h1 | ⟨h1, h2⟩
      all_goals
        refine Gives.mk fun w => ?_
        go_enter Try.func17, Try.ntmps17
        go_wp2_with (first | (go_at_call 27; first | ((with_reducible refine (k1.at_ _).mono ?_); rintro e w' ⟨rfl, xg, rfl⟩) | ((with_reducible refine (k2.at_ _).mono ?_); rintro e w' ⟨rfl, xg, rfl⟩)) | fail)
        refine bodyPost_ret (v := .tuple #[.agg #[.int .i64 N3.x, .int .i64 N3.y, .int .i64 N3.z], .bool false]) (by simp [results, Try.results17, go_sem, N3]) rfl ⟨rfl, (by repeat (first | exact Below.refl _ _ | refine bel_then ?_ _ | refine bel_grow ?_ _ | refine bel_alloc ?_ _ | refine bel_drew ?_ | refine bel_set ?_ (by simp) _ | refine bel_setRow ?_ (by first | omega | (simp; done) | (refine Nat.le_trans ?_ (top_le _ _); simp; done) | (refine Nat.le_succ_of_le (Nat.le_trans ?_ (top_le _ _)); simp; done) | (refine Nat.le_trans ?_ (top_le _ _); simp only [World.size_alloc]; refine Nat.le_succ_of_le (Nat.le_trans ?_ (top_le _ _)); simp; done)) _))⟩
    rotate_left 2
    · have ht : t < 0 ∨ (0 ≤ t ∧ 255 < t) := by
        have := of_decide_eq_false hc3
        omega
      clear hk hc3
      rcases ht with h1 | ⟨h1, h2⟩
      all_goals
        refine Gives.mk fun w => ?_
        go_enter Try.func17, Try.ntmps17
        go_wp2_with (first | (go_at_call 27; first | ((with_reducible refine (k1.at_ _).mono ?_); rintro e w' ⟨rfl, xg, rfl⟩) | ((with_reducible refine (k2.at_ _).mono ?_); rintro e w' ⟨rfl, xg, rfl⟩)) | fail)
        refine bodyPost_ret (v := .tuple #[.agg #[.int .i64 N3.x, .int .i64 N3.y, .int .i64 N3.z], .bool false]) (by simp [results, Try.results17, go_sem, N3]) rfl ⟨rfl, (by repeat (first | exact Below.refl _ _ | refine bel_then ?_ _ | refine bel_grow ?_ _ | refine bel_alloc ?_ _ | refine bel_drew ?_ | refine bel_set ?_ (by simp) _ | refine bel_setRow ?_ (by first | omega | (simp; done) | (refine Nat.le_trans ?_ (top_le _ _); simp; done) | (refine Nat.le_succ_of_le (Nat.le_trans ?_ (top_le _ _)); simp; done) | (refine Nat.le_trans ?_ (top_le _ _); simp only [World.size_alloc]; refine Nat.le_succ_of_le (Nat.le_trans ?_ (top_le _ _)); simp; done)) _))⟩
    all_goals
      clear hk hc3
      refine Gives.mk fun w => ?_
      go_enter Try.func17, Try.ntmps17
      go_wp2_with (first | (go_at_call 27; first | ((with_reducible refine (k1.at_ _).mono ?_); rintro e w' ⟨rfl, xg, rfl⟩) | ((with_reducible refine (k2.at_ _).mono ?_); rintro e w' ⟨rfl, xg, rfl⟩)) | fail)
      refine bodyPost_ret (v := .tuple #[.agg #[.int .i64 N3.x, .int .i64 N3.y, .int .i64 N3.z], .bool false]) (by simp [results, Try.results17, go_sem, N3]) rfl ⟨rfl, (by repeat (first | exact Below.refl _ _ | refine bel_then ?_ _ | refine bel_grow ?_ _ | refine bel_alloc ?_ _ | refine bel_drew ?_ | refine bel_set ?_ (by simp) _ | refine bel_setRow ?_ (by first | omega | (simp; done) | (refine Nat.le_trans ?_ (top_le _ _); simp; done) | (refine Nat.le_succ_of_le (Nat.le_trans ?_ (top_le _ _)); simp; done) | (refine Nat.le_trans ?_ (top_le _ _); simp only [World.size_alloc]; refine Nat.le_succ_of_le (Nat.le_trans ?_ (top_le _ _)); simp; done)) _))⟩
set_option maxHeartbeats 2000000 in
theorem rMix_any (n : Nat → P3) (i k j m : Int) (hi : -9223372036854775808 ≤ i ∧ i ≤ 9223372036854775807) (hk : -9223372036854775808 ≤ k ∧ k ≤ 9223372036854775807) (hj : -9223372036854775808 ≤ j ∧ j ≤ 9223372036854775807) (hm : -9223372036854775808 ≤ m ∧ m ≤ 9223372036854775807) :
    Gives Try.prog 15 #[.agg (ptsC 4 n), .int .i64 i, .int .i64 k, .int .i64 j, .int .i64 m] (.tuple #[.agg #[.int .i64 (mxP n i k j m).x, .int .i64 (mxP n i k j m).y, .int .i64 (mxP n i k j m).z], .bool (mxK n i k j m)]) := by
  have k1 := rBlend_any (n 0) (n 1) i k hi hk
  have k2 := rBlend_any (n 3) (n 2) i k hi hk
  have k3 := rBlend_any (blP (n 0) (n 1) i k) (blP (n 3) (n 2) i k) j m hj hm
  rw [ptsC4]
  cases h0 : blK (n 0) (n 1) i k
  · obtain ⟨e1, e2⟩ := mxP_no0 (n := n) (j := j) (m := m) h0
    rw [e1, e2]
    rw [h0] at k1
    generalize n 0 = a at *
    generalize n 1 = b at *
    generalize n 2 = c at *
    generalize n 3 = d at *
    generalize blP a b i k = r0 at *
    generalize blP d c i k = r1 at *
    generalize blK d c i k = b1 at *
    clear k3 h0 e1 e2
    cases b1
    all_goals
      refine Gives.mk fun w => ?_
      go_enter Try.func15, Try.ntmps15
      go_wp2_with (first | (go_at_call 13; first | ((with_reducible refine (k1.at_ _).mono ?_); rintro e w' ⟨rfl, xg, rfl⟩) | ((with_reducible refine (k2.at_ _).mono ?_); rintro e w' ⟨rfl, xg, rfl⟩)) | fail)
      refine bodyPost_ret (v := .tuple #[.agg #[.int .i64 N3.x, .int .i64 N3.y, .int .i64 N3.z], .bool false]) (by simp [results, Try.results15, go_sem, N3]) rfl ⟨rfl, (by repeat (first | exact Below.refl _ _ | refine bel_then ?_ _ | refine bel_grow ?_ _ | refine bel_alloc ?_ _ | refine bel_drew ?_ | refine bel_set ?_ (by simp) _ | refine bel_setRow ?_ (by first | omega | (simp; done) | (refine Nat.le_trans ?_ (top_le _ _); simp; done) | (refine Nat.le_succ_of_le (Nat.le_trans ?_ (top_le _ _)); simp; done) | (refine Nat.le_trans ?_ (top_le _ _); simp only [World.size_alloc]; refine Nat.le_succ_of_le (Nat.le_trans ?_ (top_le _ _)); simp; done)) _))⟩
  · rw [h0] at k1
    cases h1 : blK (n 3) (n 2) i k
    · obtain ⟨e1, e2⟩ := mxP_no1 (n := n) (j := j) (m := m) h0 h1
      rw [e1, e2]
      rw [h1] at k2
      generalize n 0 = a at *
      generalize n 1 = b at *
      generalize n 2 = c at *
      generalize n 3 = d at *
      generalize blP a b i k = r0 at *
      generalize blP d c i k = r1 at *
      clear k3 h0 h1 e1 e2
      refine Gives.mk fun w => ?_
      go_enter Try.func15, Try.ntmps15
      go_wp2_with (first | (go_at_call 13; first | ((with_reducible refine (k1.at_ _).mono ?_); rintro e w' ⟨rfl, xg, rfl⟩) | ((with_reducible refine (k2.at_ _).mono ?_); rintro e w' ⟨rfl, xg, rfl⟩)) | fail)
      refine bodyPost_ret (v := .tuple #[.agg #[.int .i64 N3.x, .int .i64 N3.y, .int .i64 N3.z], .bool false]) (by simp [results, Try.results15, go_sem, N3]) rfl ⟨rfl, (by repeat (first | exact Below.refl _ _ | refine bel_then ?_ _ | refine bel_grow ?_ _ | refine bel_alloc ?_ _ | refine bel_drew ?_ | refine bel_set ?_ (by simp) _ | refine bel_setRow ?_ (by first | omega | (simp; done) | (refine Nat.le_trans ?_ (top_le _ _); simp; done) | (refine Nat.le_succ_of_le (Nat.le_trans ?_ (top_le _ _)); simp; done) | (refine Nat.le_trans ?_ (top_le _ _); simp only [World.size_alloc]; refine Nat.le_succ_of_le (Nat.le_trans ?_ (top_le _ _)); simp; done)) _))⟩
    · obtain ⟨e1, e2⟩ := mxP_yes (n := n) (j := j) (m := m) h0 h1
      rw [e1, e2]
      rw [h1] at k2
      generalize n 0 = a at *
      generalize n 1 = b at *
      generalize n 2 = c at *
      generalize n 3 = d at *
      generalize blP a b i k = r0 at *
      generalize blP d c i k = r1 at *
      generalize blP r0 r1 j m = r2 at *
      generalize blK r0 r1 j m = b2 at *
      clear h0 h1 e1 e2
      refine Gives.mk fun w => ?_
      go_enter Try.func15, Try.ntmps15
      go_wp2_with (first | (go_at_call 13; first | ((with_reducible refine (k1.at_ _).mono ?_); rintro e w' ⟨rfl, xg, rfl⟩) | ((with_reducible refine (k2.at_ _).mono ?_); rintro e w' ⟨rfl, xg, rfl⟩) | ((with_reducible refine (k3.at_ _).mono ?_); rintro e w' ⟨rfl, xg, rfl⟩)) | fail)
      refine bodyPost_ret (v := .tuple #[.agg #[.int .i64 r2.x, .int .i64 r2.y, .int .i64 r2.z], .bool b2]) (by simp [results, Try.results15, go_sem, N3]) rfl ⟨rfl, (by repeat (first | exact Below.refl _ _ | refine bel_then ?_ _ | refine bel_grow ?_ _ | refine bel_alloc ?_ _ | refine bel_drew ?_ | refine bel_set ?_ (by simp) _ | refine bel_setRow ?_ (by first | omega | (simp; done) | (refine Nat.le_trans ?_ (top_le _ _); simp; done) | (refine Nat.le_succ_of_le (Nat.le_trans ?_ (top_le _ _)); simp; done) | (refine Nat.le_trans ?_ (top_le _ _); simp only [World.size_alloc]; refine Nat.le_succ_of_le (Nat.le_trans ?_ (top_le _ _)); simp; done)) _))⟩
end Go.Proofs.Yteigionfaodafaa
namespace Go.Proofs.Yteigionfaodafaa
open Go.RowKit
set_option linter.unusedVariables false
set_option linter.unusedSimpArgs false
set_option linter.unnecessarySimpa false
set_option maxRecDepth 100000


def ints (l : List Int) : List Value := l.map (Value.int .i64)
theorem infoI : (Try.prog.info? 3).map (fun i => (i.zero, i.size, i.bytes)) = some (some (.int .i64 0), 1, 8) := by kernel_rfl
theorem own_form {W : World} {base : Nat} {e : TypeId} {size n : Nat} {v : Value} {xs : List Value} (h : W.ownsRow base e size v n xs) : ∃ A c, v = .slice A n c := by
  rcases h.2 with ⟨h1, h2⟩ | ⟨g, cap, cur, h1, _⟩
  · subst h2; exact ⟨none, 0, h1⟩
  · exact ⟨_, _, h1⟩
theorem own_block {W : World} {base : Nat} {e : TypeId} {size n : Nat} {v : Value} {xs : List Value} (h : W.ownsRow base e size v n xs) : ∀ k, v.ownBlock = some k → base ≤ k ∧ k < W.heap.size := by
  intro k hk
  rcases h.2 with ⟨rfl, _⟩ | ⟨g, cap, cur, rfl, h1, h2, _⟩
  · cases hk
  · cases hk; exact ⟨h1, (Array.getElem?_eq_some_iff.1 h2).1⟩
theorem bel_own {a W W' : World} {row : Option Nat} (h : Below a.heap.size a W) (hg : W.grownBy W' row) (hB : ∀ k, row = some k → a.heap.size ≤ k) : Below a.heap.size a W' :=
  h.trans ⟨hg.os, hg.tape, hg.output, hg.size, fun k hk => hg.block k (Nat.lt_of_lt_of_le hk h.size) (by intro e; have := hB k e.symm; omega)⟩
end Go.Proofs.Yteigionfaodafaa
namespace Go.Proofs.Yteigionfaodafaa
open Go.RowKit
set_option linter.unusedVariables false
set_option linter.unusedSimpArgs false
set_option linter.unnecessarySimpa false
set_option maxRecDepth 100000
theorem own_emptyR (W : World) (base : Nat) (e : TypeId) (hb : base ≤ W.heap.size) : (W.alloc (.cells #[] e)).ownsRow base e 1 (.slice (some ⟨W.heap.size, 0, none⟩) 0 0) 0 [] :=
  ⟨rfl, .inr ⟨W.heap.size, 0, #[], rfl, hb, Blk.new _ _ _ _ rfl, Nat.le_refl _, by unfold maxLen; omega, rfl, rfl⟩⟩
theorem addr_addR (b off k : Nat) : (⟨b, off, none⟩ : Addr).add k = ⟨b, off + k, none⟩ := by
  unfold Addr.add
  split <;> simp_all
theorem own_cellR {W : World} {base : Nat} {e : TypeId} {size n c : Nat} {A : Option Addr} {xs : List Value} (h : W.ownsRow base e size (.slice A n c) n xs) (hn : 0 < n) : ∃ b, A = some ⟨b, 0, none⟩ ∧ b < W.heap.size ∧ base ≤ b ∧ ∀ j, j < n * size → W.cell? ⟨b, j, none⟩ = xs[j]? := by
  obtain ⟨h0, ⟨h1, h2⟩ | ⟨g, cap, cur, h1, h2, h3, h4, h5, h6, h7⟩⟩ := h
  · omega
  · simp only [Value.slice.injEq] at h1
    refine ⟨g, h1.1, (Array.getElem?_eq_some_iff.1 h3).1, h2, fun j hj => ?_⟩
    rw [← h7, List.getElem?_take_of_lt hj]
    simp [World.cell?, h3]
theorem ilR_own {W : World} {base c : Nat} {A : Option Addr} {ns : List Int} (h : W.ownsRow base 3 1 (.slice A ns.length c) ns.length (ints ns)) : IL W A ns := fun hn => by
  obtain ⟨b, e, hb, _, hc⟩ := own_cellR h hn
  refine ⟨b, 0, e, hb, fun i hi => ?_⟩
  rw [Nat.zero_add, hc i (by omega)]
  simp [ints, hi]
set_option maxHeartbeats 1000000 in
theorem copyR_any (W : World) (A : Option Addr) (c : Nat) (ns : List Int) (hA : IL W A ns) (hpos : 0 < ns.length) (hn : ns.length < 1099511627776) :
    Calls Try.prog 9 #[.slice A ns.length c] W fun e W' => ∃ B d, e = .returned (.slice B ns.length d) ∧ W'.ownsRow W.heap.size 3 1 (.slice B ns.length d) ns.length (ints ns) ∧ Below W.heap.size W W' := by
  obtain ⟨i0, hi0, hz0, hz1, hz2⟩ := info_parts infoI
  have hown := own_emptyR W W.heap.size 3 (Nat.le_refl _)
  have hb0 : Below W.heap.size W (W.alloc (.cells #[] 3)) := bel_alloc (Below.refl _ _) _
  obtain ⟨b, off, rfl, hbl, hc⟩ := (hA.below hb0) hpos
  go_enter Try.func9, Try.ntmps9
  go_upto_region 2 with (fail)
  generalize hWe : W.alloc (.cells #[] 3) = W1 at *
  have hob := own_block hown
  have hcells : ∀ j u, (ints ns)[j]? = some u → W1.cell? ((⟨b, off, none⟩ : Addr).add j) = some u := fun j u hu => by
    have hj : j < ns.length := by have := (List.getElem?_eq_some_iff.1 hu).1; simpa [ints] using this
    rw [addr_addR, hc j hj]
    simpa [ints, hj] using hu
  have h1c : ∀ u ∈ ints ns, u.oneCell' = true := fun u hu => by obtain ⟨y, _, rfl⟩ := List.mem_map.1 hu; rfl
  go_wp2_with (first | (at_builtin; (refine wpList_append_own _ rfl _ _ 22 rfl W.heap.size 3 i0 _ 1 8 Try.underlying22 hi0 hz0 hz1 hz2 rfl (by decide) _ _ _ rfl hown ⟨b, off, none⟩ ns.length c (ints ns) rfl (by simp [ints]) hcells h1c (by unfold maxLen; omega) (by omega) hb0.size ?_); intro v3 W3 hown3 hg3 hnil; obtain ⟨A3b, c3b, rfl⟩ := own_form hown3) | fail)
  go_ret
  refine ⟨A3b, c3b, by simp, by simpa using hown3, bel_own hb0 hg3 (fun k hk => (hob k hk).1)⟩
theorem srcR (w : World) (A : Option Addr) (c size : Nat) : Src Try.prog size 22 (.slice A 0 c) 0 [] w :=
  by
  cases A with
  | none => exact Src.ofNil w Try.underlying22 c
  | some a => exact Src.ofSlice w Try.underlying22 a 0 c [] (by simp) (fun j u h => by simp at h) (fun u h => by cases h)
set_option maxHeartbeats 1000000 in
theorem copyR_any0 (W : World) (A : Option Addr) (c : Nat) (ns : List Int) (hA : IL W A ns) (hn : ns.length < 1099511627776) :
    Calls Try.prog 9 #[.slice A ns.length c] W fun e W' => ∃ B d, e = .returned (.slice B ns.length d) ∧ W'.ownsRow W.heap.size 3 1 (.slice B ns.length d) ns.length (ints ns) ∧ Below W.heap.size W W' := by
  by_cases hpos : 0 < ns.length
  · exact copyR_any W A c ns hA hpos hn
  · obtain rfl : ns = [] := List.eq_nil_of_length_eq_zero (by omega)
    have hi : ∃ i, Try.prog.info? 3 = some i := by
      obtain ⟨i0, hi0, _⟩ := info_parts infoI
      exact ⟨i0, hi0⟩
    obtain ⟨i0, hi0⟩ := hi
    have hown := own_emptyR W W.heap.size 3 (Nat.le_refl _)
    have hb0 : Below W.heap.size W (W.alloc (.cells #[] 3)) := bel_alloc (Below.refl _ _) _
    have hrun := run_append_nothing (P := Try.prog) (W.alloc (.cells #[] 3)) 22 22 22 3 i0 Try.underlying22 hi0 (some ⟨W.heap.size, 0, none⟩) 0 0 (Nat.le_refl _) (.slice A 0 c) (srcR _ A c _)
    go_enter Try.func9, Try.ntmps9
    go_upto_region 2 with (fail)
    generalize hWe : W.alloc (.cells #[] 3) = W1 at *
    go_wp2_with (first | (at_builtin; go_loud (refine wpList_val rfl (.slice (some ⟨W.heap.size, 0, none⟩) 0 0) W1 (by unfold execOp; simp only [resolve, invoke, builtin, Sem.run_bind, Sem.run_pure, Result.andThen_ok, List.map_toArray, List.map_cons, List.map_nil]; exact congrArg (fun r => Result.andThen r (fun a w' => Result.ok (Next.value a) w')) hrun) ?_)) | fail)
    go_ret
    exact ⟨_, 0, rfl, by simpa [ints] using hown, hb0⟩
set_option maxHeartbeats 1000000 in
theorem sameR_yes (w : World) (A B : Option Addr) (c d : Nat) (ns : List Int) (hA : IL w A ns) (hB : IL w B ns) (hs : ns.length ≤ 1099511627776) :
    Calls Try.prog 18 #[.slice A ns.length c, .slice B ns.length d] w fun e w' => e = .returned (.bool true) ∧ Below w.heap.size w w' := by
  go_enter Try.func18, Try.ntmps18
  go_wp2
  go_loopw [5] (fun i wr => ∃ k : Nat, i = .int .i64 (k : Int) ∧ k ≤ ns.length ∧ Below w.heap.size w wr) (fun i _ => ns.length - (intOf i).toNat)
  case atStart => exact ⟨0, rfl, by omega, Below.refl _ _⟩
  case round =>
    obtain ⟨k, rfl, hk, hb⟩ := hrel
    by_cases hlt : k < ns.length
    · obtain ⟨b, off, rfl, hbl, c1⟩ := (hA.below hb).at_ k hlt
      obtain ⟨b2, off2, rfl, hbl2, c2⟩ := (hB.below hb).at_ k hlt
      have k0 : (0 : Int) ≤ (k : Int) := by omega
      have k1 : (k : Int) < (ns.length : Int) := by omega
      generalize ns[k] = x at *
      clear hA hB
      go_wp2_with fail
      refine wp_region_grow (by kernel_rfl) (by kernel_rfl) ?_
      repeat (go_big_quiet_step ((fail)))
      refine wpQuiet_nil ?_
      rintro _ ⟨xg, rfl⟩
      have hb9 := bel_grow hb xg
      go_wp2_with fail
      go_roundw
      case rel => exact ⟨k + 1, by go_num, by omega, hb9⟩
      case measure => simp [intOf]; omega
    · obtain rfl : k = ns.length := by omega
      go_wp2
      go_ret
      exact ⟨rfl, hb⟩
theorem ilR_grow {W : World} {A : Option Addr} {l : List Int} (h : IL W A l) (x : More) : IL (grow W x) A l := h.below (x.kept W)
theorem ilR_alloc {W : World} {A : Option Addr} {l : List Int} (h : IL W A l) (o : Obj) : IL (W.alloc o) A l := h.below (bel_alloc (Below.refl _ _) o)
theorem il2 {W : World} {g : Nat} {t : TypeId} {a b : Int} (h : Blk W g t #[.int .i64 a, .int .i64 b]) : IL W (some ⟨g, 0, none⟩) [a, b] := fun _ => ⟨g, 0, rfl, h.lt, fun i hi => by
  rcases (by simp at hi; omega : i = 0 ∨ i = 1) with rfl | rfl
  · exact h.cell 0
  · exact h.cell 1⟩
theorem alive14_any : Gives Try.prog 8 #[] (.bool true) := by
  have k1 := lift_any ⟨5, 5, 5⟩ ⟨0, 0, 1023⟩ 255 10 (by omega) (by omega)
  rw [show lfP ⟨5, 5, 5⟩ ⟨0, 0, 1023⟩ 255 10 = ⟨5, 5, 15⟩ by kernel_rfl, show lfK ⟨5, 5, 5⟩ ⟨0, 0, 1023⟩ 255 10 = true by kernel_rfl] at k1
  have k2 : ∀ W' g, Blk W' g 3 #[.int .i64 7, .int .i64 9] → Calls Try.prog 10 #[.agg #[.string ⟨#[]⟩, .int .i64 2, .int .i64 1, .slice (some ⟨g, 0, none⟩) 2 2], .agg #[.int .i64 (-1), .int .i64 0, .int .i64 0]] W' fun e w' => e = .returned (.tuple #[.int .i64 9, .bool true]) ∧ ∃ x, w' = grow W' x := fun W' g h => by
    have := texel_any W' ⟨#[]⟩ 2 1 (some ⟨g, 0, none⟩) 2 [7, 9] (il2 h) (by simp) ⟨-1, 0, 0⟩
    rw [show texV 2 1 [7, 9] ⟨-1, 0, 0⟩ = 9 by kernel_rfl, show texK 2 1 [7, 9] ⟨-1, 0, 0⟩ = true by kernel_rfl] at this
    exact this
  refine Gives.mk fun w => ?_
  go_enter Try.func8, Try.ntmps8
  go_upto_region 2 with (first | (go_at_call 16; (with_reducible refine (k1.at_ _).mono ?_); rintro e w' ⟨rfl, xg, rfl⟩) | fail)
  have hB : Below w.heap.size w ((grow w xg).alloc (.cells #[.int .i64 5, .int .i64 5, .int .i64 15] 26)) := bel_alloc (bel_grow (Below.refl _ _) xg) _
  have hP : Blk ((grow w xg).alloc (.cells #[.int .i64 5, .int .i64 5, .int .i64 15] 26)) (grow w xg).heap.size 26 #[.int .i64 5, .int .i64 5, .int .i64 15] := Blk.new _ _ _ _ rfl
  generalize ((grow w xg).alloc (.cells #[.int .i64 5, .int .i64 5, .int .i64 15] 26)) = W1 at *
  generalize (grow w xg).heap.size = n at *
  have pl := hP.lt
  have c0 := hP.cell 0
  have c1 := hP.cell 1
  have c2 := hP.cell 2
  go_wp2_with (first | (go_at_call 10; (with_reducible refine (k2 _ _ (Blk.new _ _ _ _ rfl)).mono ?_); rintro e w' ⟨rfl, xh, rfl⟩) | fail)
  go_ret
  exact ⟨rfl, bel_trans hB (by repeat (first | exact Below.refl _ _ | refine bel_then ?_ _ | refine bel_grow ?_ _ | refine bel_alloc ?_ _ | refine bel_drew ?_ | refine bel_set ?_ (by simp) _ | refine bel_setRow ?_ (by first | omega | (simp; done) | (refine Nat.le_trans ?_ (top_le _ _); simp; done) | (refine Nat.le_succ_of_le (Nat.le_trans ?_ (top_le _ _)); simp; done) | (refine Nat.le_trans ?_ (top_le _ _); simp only [World.size_alloc]; refine Nat.le_succ_of_le (Nat.le_trans ?_ (top_le _ _)); simp; done)) _))⟩
end Go.Proofs.Yteigionfaodafaa
namespace Go.Proofs.Yteigionfaodafaa
open Go.RowKit
set_option linter.unusedVariables false
set_option linter.unusedSimpArgs false
end Go.Proofs.Yteigionfaodafaa
namespace Go.Proofs.Yteigionfaodafaa
open Go.ChangeShapes Go.WideShapes Go.ChangeAt Go.RowKit
set_option linter.unusedVariables false
set_option linter.unusedSimpArgs false
set_option maxRecDepth 100000
/-- A row of structs of three numbers that lies somewhere. -/
def VL (W : World) (A : Option Addr) (ps : List P3) : Prop := 0 < ps.length → ∃ b off, A = some ⟨b, off, none⟩ ∧ b < W.heap.size ∧ ∀ i (h : i < ps.length), W.cell? ⟨b, off + i * 3, none⟩ = some (.int .i64 ps[i].x) ∧ W.cell? ⟨b, off + i * 3 + 1, none⟩ = some (.int .i64 ps[i].y) ∧ W.cell? ⟨b, off + i * 3 + 2, none⟩ = some (.int .i64 ps[i].z)
theorem VL.below {W W' : World} {A : Option Addr} {ps : List P3} (h : VL W A ps) (hb : Below W.heap.size W W') : VL W' A ps := fun hn => by
  obtain ⟨b, off, e, hl, hc⟩ := h hn
  refine ⟨b, off, e, Nat.lt_of_lt_of_le hl hb.size, fun i hi => ?_⟩
  obtain ⟨h1, h2, h3⟩ := hc i hi
  exact ⟨(hb.cell (p := ⟨b, _, none⟩) hl).trans h1, (hb.cell (p := ⟨b, _, none⟩) hl).trans h2, (hb.cell (p := ⟨b, _, none⟩) hl).trans h3⟩
theorem VL.nil (W : World) (A : Option Addr) : VL W A [] := fun h => by simp at h
theorem VL.at_ {W : World} {A : Option Addr} {ps : List P3} (h : VL W A ps) (i : Nat) (hi : i < ps.length) : ∃ b off, A = some ⟨b, off, none⟩ ∧ b < W.heap.size ∧ W.cell? ⟨b, off + i * 3, none⟩ = some (.int .i64 ps[i].x) ∧ W.cell? ⟨b, off + i * 3 + 1, none⟩ = some (.int .i64 ps[i].y) ∧ W.cell? ⟨b, off + i * 3 + 2, none⟩ = some (.int .i64 ps[i].z) := by
  obtain ⟨b, off, e, hl, hc⟩ := h (by omega)
  exact ⟨b, off, e, hl, hc i hi⟩
/-- A point of machine numbers. -/
def I3 (p : P3) : Prop := i64B p.x ∧ i64B p.y ∧ i64B p.z
structure Cg where
  vs : List P3
  fs : List (List Int)
  ks : List P3
/-- What a cage that is handed in keeps. -/
structure RawC (W : World) (c : Cg) (A1 A2 A3 : Option Addr) : Prop where
  l1 : c.vs.length ≤ reachBytes
  l2 : c.fs.length ≤ reachBytes
  l3 : c.ks.length ≤ reachBytes
  i1 : ∀ p ∈ c.vs, I3 p
  i2 : ∀ q ∈ c.fs, q.length ≤ reachBytes ∧ (∀ x ∈ q, i64B x)
  i3 : ∀ p ∈ c.ks, I3 p
  v1 : VL W A1 c.vs
  v2 : FL W A2 c.fs
  v3 : VL W A3 c.ks
section
variable {H : Type} {enc : TypeId × Value → H} {w : World} {base : Nat} {spare : Nat → Bool} {held : Bool}
end
end Go.Proofs.Yteigionfaodafaa
namespace Go.Proofs.Yteigionfaodafaa
open Go.RowKit
set_option linter.unusedVariables false
set_option linter.unusedSimpArgs false
section
variable {H : Type} {enc : TypeId × Value → H} {w : World} {base : Nat} {spare : Nat → Bool} {held : Bool}
set_option maxRecDepth 100000 in
theorem open_P {r : Reach} {b0 : Nat} {v : Value} {d : DataW H} {p : List MemPlace} (hv : Value.okWide Try.prog w r b0 26 v) (h : DataW.Trod enc Try.prog w base spare held 26 v d p) : ∃ a : P3, v = .agg #[.int .i64 a.x, .int .i64 a.y, .int .i64 a.z] ∧ I3 a := by
  obtain ⟨g, rfl, hb⟩ := open_ints_agg Try.underlying26 szV lvV Try.underlying3 hv h
  have h0 := hb 0 (by omega)
  have h1 := hb 1 (by omega)
  have h2 := hb 2 (by omega)
  exact ⟨⟨g 0, g 1, g 2⟩, rfl, h0, h1, h2⟩
end
end Go.Proofs.Yteigionfaodafaa
