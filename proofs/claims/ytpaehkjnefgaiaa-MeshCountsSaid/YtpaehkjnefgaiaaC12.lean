/- Lifted points and directions among four: the program's. Directions among four: the program's; the document's blends and lifted points. Package topo: fan. Rows copied and compared; a point that the document fixes. A region in any order in which some operations change the memory one behind the other, all the others read. No program is imported. A region in any order in which one operation stores, the others read or call what only grows. No program is imported. -/
import Derived.OwnWalk
import Derived.Maps.AppendAt
import Derived.Deep.Upon
import Derived.Deep.MidRow
import Derived.Test.YtpaehkjnefgaiaaC1
import Derived.Test.YtpaehkjnefgaiaaC7
import Derived.Test.YtpaehkjnefgaiaaC10
import Derived.Test.YtpaehkjnefgaiaaC11
namespace Go.Proofs.Ytpaehkjnefgaiaa
open Go.RowKit
set_option linter.unusedVariables false
set_option linter.unusedSimpArgs false
set_option linter.unnecessarySimpa false
set_option maxRecDepth 100000
theorem lfS_bd {n : P3} {t h : Int} (hn : wB n 1023 = true) (ht : 0 ≤ t ∧ t ≤ 255) (hh : 0 ≤ h ∧ h ≤ 255) : (wrap64 (n.x * lfH t h) = (scE n (lfH t h)).x ∧ wrap64 (n.y * lfH t h) = (scE n (lfH t h)).y ∧ wrap64 (n.z * lfH t h) = (scE n (lfH t h)).z) ∧ (-1099511627776 ≤ (scE n (lfH t h)).x ∧ (scE n (lfH t h)).x ≤ 1099511627776) ∧ (-1099511627776 ≤ (scE n (lfH t h)).y ∧ (scE n (lfH t h)).y ≤ 1099511627776) ∧ -1099511627776 ≤ (scE n (lfH t h)).z ∧ (scE n (lfH t h)).z ≤ 1099511627776 := by
  rw [wB_iff] at hn
  obtain ⟨_, n1, n2, n3⟩ := hn
  have a1 := lf1_bd n1 ht hh
  have a2 := lf1_bd n2 ht hh
  have a3 := lf1_bd n3 ht hh
  exact ⟨⟨wrap_id (by omega) (by omega), wrap_id (by omega) (by omega), wrap_id (by omega) (by omega)⟩, ⟨by unfold scE; simp only; omega, by unfold scE; simp only; omega⟩, ⟨by unfold scE; simp only; omega, by unfold scE; simp only; omega⟩, by unfold scE; simp only; omega, by unfold scE; simp only; omega⟩
theorem lfA_bd {p n : P3} {t h : Int} (hp : wB p 65024 = true) (hn : wB n 1023 = true) (ht : 0 ≤ t ∧ t ≤ 255) (hh : 0 ≤ h ∧ h ≤ 255) : InP 4611686018427387904 (adE p (lfD n t h)) := by
  have := lfD_bd hn ht hh
  rw [wB_iff] at hp
  unfold InP adE
  simp only
  omega
set_option maxHeartbeats 1000000 in
theorem lift_any (p n : P3) (t h : Int) (ht0 : -9223372036854775808 ≤ t ∧ t ≤ 9223372036854775807) (hh0 : -9223372036854775808 ≤ h ∧ h ≤ 9223372036854775807) :
    Gives Try.prog 71 #[.agg #[.int .i64 p.x, .int .i64 p.y, .int .i64 p.z], .agg #[.int .i64 n.x, .int .i64 n.y, .int .i64 n.z], .int .i64 t, .int .i64 h] (.tuple #[.agg #[.int .i64 (lfP p n t h).x, .int .i64 (lfP p n t h).y, .int .i64 (lfP p n t h).z], .bool (lfK p n t h)]) := by
  have k1 : Gives Try.prog 19 #[.agg #[.int .i64 p.x, .int .i64 p.y, .int .i64 p.z], .int .i64 65024] (.bool (wB p 65024)) := vWithin_any p.x p.y p.z 65024 (by omega)
  have k2 : Gives Try.prog 19 #[.agg #[.int .i64 n.x, .int .i64 n.y, .int .i64 n.z], .int .i64 1023] (.bool (wB n 1023)) := vWithin_any n.x n.y n.z 1023 (by omega)
  have k3 := lit_any t
  by_cases hk : lfK p n t h = true
  · obtain ⟨hp, hn, ht, hh⟩ := lfK_yes hk
    rw [hp] at k1
    rw [hn] at k2
    rw [decide_eq_true ht] at k3
    have b0 := th_bd ht hh
    have hw : wrap64 (t * h) = t * h := wrap_id (by omega) (by omega)
    have k4 : Gives Try.prog 88 #[.int .i64 (t * h), .int .i64 255] (.int .i64 (lfH t h)) := vRound_any (t * h) 255 (by omega) (by omega) (by omega) (by omega)
    have k5 := vScale_any n.x n.y n.z (lfH t h)
    obtain ⟨⟨s1, s2, s3⟩, s4⟩ := lfS_bd hn ht hh
    rw [s1, s2, s3] at k5
    have k6 : Gives Try.prog 89 #[.agg #[.int .i64 (scE n (lfH t h)).x, .int .i64 (scE n (lfH t h)).y, .int .i64 (scE n (lfH t h)).z], .int .i64 1024] (.agg #[.int .i64 (lfD n t h).x, .int .i64 (lfD n t h).y, .int .i64 (lfD n t h).z]) := vOf_any (scE n (lfH t h)) 1024 s4 (by omega)
    have k7 := vAdd_r (lfA_bd hp hn ht hh)
    rw [lfP_yes hk, hk]
    obtain ⟨h1, h2⟩ := hh
    obtain ⟨t1, t2⟩ := ht
    clear hk hp hn s1 s2 s3 s4 b0 ht0 hh0
    generalize adE p (lfD n t h) = q at *
    generalize lfD n t h = d at *
    generalize scE n (lfH t h) = s at *
    generalize lfH t h = u at *
    refine Gives.mk fun w => ?_
    go_enter Try.func71, Try.ntmps71
    go_upto_region 4 with (first | (go_at_call 19; first | ((with_reducible refine (k1.at_ _).mono ?_); rintro e w' ⟨rfl, xg, rfl⟩) | ((with_reducible refine (k2.at_ _).mono ?_); rintro e w' ⟨rfl, xg, rfl⟩)) | (go_at_call 87; (with_reducible refine (k3.at_ _).mono ?_); rintro e w' ⟨rfl, xg, rfl⟩) | (go_at_call 88; (with_reducible refine (k4.at_ _).mono ?_); rintro e w' ⟨rfl, xg, rfl⟩) | fail)
    clear k1 k2 k3 k4
    refine wp_region_tail 6 ?_ (by kernel_rfl) (by kernel_rfl) (by kernel_rfl) (fun x => ?_) (fun x => ?_)
    rotate_left
    · simp only [List.take_succ_cons, List.take_zero]
      repeat (go_big_quiet_step (((first | with_reducible exact k5.quiet _ | with_reducible exact k5.quiet2 _ _ | with_reducible exact k6.quiet _ | with_reducible exact k6.quiet2 _ _ | with_reducible exact k7.quiet _ | with_reducible exact k7.quiet2 _ _))))
      refine wpQuiet_nil ?_
      exact rfl
    simp only [List.drop_succ_cons, List.drop_zero]
    try simp only [Act.put, List.setIfInBounds_toArray, List.set_cons_succ, List.set_cons_zero]
    go_wp2
    refine bodyPost_ret (v := .tuple #[.agg #[.int .i64 q.x, .int .i64 q.y, .int .i64 q.z], .bool true]) (by simp [results, Try.results71, go_sem]) rfl ⟨rfl, (by repeat (first | exact Below.refl _ _ | refine bel_then ?_ _ | refine bel_grow ?_ _ | refine bel_alloc ?_ _ | refine bel_drew ?_ | refine bel_set ?_ (by simp) _ | refine bel_setRow ?_ (by first | omega | (simp; done) | (refine Nat.le_trans ?_ (top_le _ _); simp; done) | (refine Nat.le_succ_of_le (Nat.le_trans ?_ (top_le _ _)); simp; done) | (refine Nat.le_trans ?_ (top_le _ _); simp only [World.size_alloc]; refine Nat.le_succ_of_le (Nat.le_trans ?_ (top_le _ _)); simp; done)) _))⟩
  · have hk : lfK p n t h = false := by simpa using hk
    rw [lfP_no hk, hk]
    unfold lfK at hk
    generalize wB p 65024 = c1 at *
    generalize wB n 1023 = c2 at *
    generalize hc3 : decide (0 ≤ t ∧ t ≤ 255) = c3 at *
    cases c1
    rotate_left
    cases c2
    rotate_left
    cases c3
    rotate_left
    · have hh : h < 0 ∨ (0 ≤ h ∧ 255 < h) := by
        have := of_decide_eq_false (by simpa using hk : decide (0 ≤ h ∧ h ≤ 255) = false)
        omega
      clear hk hc3
      rcases hh with h1 | ⟨h1, h2⟩
      all_goals
        refine Gives.mk fun w => ?_
        go_enter Try.func71, Try.ntmps71
        go_wp2_with (first | (go_at_call 19; first | ((with_reducible refine (k1.at_ _).mono ?_); rintro e w' ⟨rfl, xg, rfl⟩) | ((with_reducible refine (k2.at_ _).mono ?_); rintro e w' ⟨rfl, xg, rfl⟩)) | (go_at_call 87; (with_reducible refine (k3.at_ _).mono ?_); rintro e w' ⟨rfl, xg, rfl⟩) | fail)
        refine bodyPost_ret (v := .tuple #[.agg #[.int .i64 N3.x, .int .i64 N3.y, .int .i64 N3.z], .bool false]) (by simp [results, Try.results71, go_sem, N3]) rfl ⟨rfl, (by repeat (first | exact Below.refl _ _ | refine bel_then ?_ _ | refine bel_grow ?_ _ | refine bel_alloc ?_ _ | refine bel_drew ?_ | refine bel_set ?_ (by simp) _ | refine bel_setRow ?_ (by first | omega | (simp; done) | (refine Nat.le_trans ?_ (top_le _ _); simp; done) | (refine Nat.le_succ_of_le (Nat.le_trans ?_ (top_le _ _)); simp; done) | (refine Nat.le_trans ?_ (top_le _ _); simp only [World.size_alloc]; refine Nat.le_succ_of_le (Nat.le_trans ?_ (top_le _ _)); simp; done)) _))⟩
    all_goals
      clear hk hc3
      refine Gives.mk fun w => ?_
      go_enter Try.func71, Try.ntmps71
      go_wp2_with (first | (go_at_call 19; first | ((with_reducible refine (k1.at_ _).mono ?_); rintro e w' ⟨rfl, xg, rfl⟩) | ((with_reducible refine (k2.at_ _).mono ?_); rintro e w' ⟨rfl, xg, rfl⟩)) | (go_at_call 87; (with_reducible refine (k3.at_ _).mono ?_); rintro e w' ⟨rfl, xg, rfl⟩) | fail)
      refine bodyPost_ret (v := .tuple #[.agg #[.int .i64 N3.x, .int .i64 N3.y, .int .i64 N3.z], .bool false]) (by simp [results, Try.results71, go_sem, N3]) rfl ⟨rfl, (by repeat (first | exact Below.refl _ _ | refine bel_then ?_ _ | refine bel_grow ?_ _ | refine bel_alloc ?_ _ | refine bel_drew ?_ | refine bel_set ?_ (by simp) _ | refine bel_setRow ?_ (by first | omega | (simp; done) | (refine Nat.le_trans ?_ (top_le _ _); simp; done) | (refine Nat.le_succ_of_le (Nat.le_trans ?_ (top_le _ _)); simp; done) | (refine Nat.le_trans ?_ (top_le _ _); simp only [World.size_alloc]; refine Nat.le_succ_of_le (Nat.le_trans ?_ (top_le _ _)); simp; done)) _))⟩
end Go.Proofs.Ytpaehkjnefgaiaa
namespace Go.Proofs.Ytpaehkjnefgaiaa
open Go.RowKit
set_option linter.unusedVariables false
set_option linter.unusedSimpArgs false
set_option linter.unnecessarySimpa false
set_option maxRecDepth 100000
theorem mxP_no0 {n : Nat → P3} {i k j m : Int} (h : blK (n 0) (n 1) i k = false) : mxK n i k j m = false ∧ mxP n i k j m = N3 := by
  have : mxK n i k j m = false := by unfold mxK; rw [h]; rfl
  exact ⟨this, by unfold mxP; rw [this]; rfl⟩
theorem mxP_no1 {n : Nat → P3} {i k j m : Int} (h0 : blK (n 0) (n 1) i k = true) (h : blK (n 3) (n 2) i k = false) : mxK n i k j m = false ∧ mxP n i k j m = N3 := by
  have : mxK n i k j m = false := by unfold mxK; rw [h, h0]; rfl
  exact ⟨this, by unfold mxP; rw [this]; rfl⟩
theorem mxP_yes {n : Nat → P3} {i k j m : Int} (h0 : blK (n 0) (n 1) i k = true) (h1 : blK (n 3) (n 2) i k = true) : mxK n i k j m = blK (blP (n 0) (n 1) i k) (blP (n 3) (n 2) i k) j m ∧ mxP n i k j m = blP (blP (n 0) (n 1) i k) (blP (n 3) (n 2) i k) j m := by
  have h : mxK n i k j m = blK (blP (n 0) (n 1) i k) (blP (n 3) (n 2) i k) j m := by unfold mxK; rw [h0, h1]; rfl
  refine ⟨h, ?_⟩
  unfold mxP
  rw [h]
  cases e : blK (blP (n 0) (n 1) i k) (blP (n 3) (n 2) i k) j m
  · exact (blP_no e).symm
  · rfl
set_option maxHeartbeats 2000000 in
theorem mix_any (n : Nat → P3) (i k j m : Int) (hi : -9223372036854775808 ≤ i ∧ i ≤ 9223372036854775807) (hk : -9223372036854775808 ≤ k ∧ k ≤ 9223372036854775807) (hj : -9223372036854775808 ≤ j ∧ j ≤ 9223372036854775807) (hm : -9223372036854775808 ≤ m ∧ m ≤ 9223372036854775807) :
    Gives Try.prog 92 #[.agg (ptsC 4 n), .int .i64 i, .int .i64 k, .int .i64 j, .int .i64 m] (.tuple #[.agg #[.int .i64 (mxP n i k j m).x, .int .i64 (mxP n i k j m).y, .int .i64 (mxP n i k j m).z], .bool (mxK n i k j m)]) := by
  have k1 := blend_any (n 0) (n 1) i k hi hk
  have k2 := blend_any (n 3) (n 2) i k hi hk
  have k3 := blend_any (blP (n 0) (n 1) i k) (blP (n 3) (n 2) i k) j m hj hm
  rw [ptsC4]
  cases h0 : blK (n 0) (n 1) i k
  · obtain ⟨e1, e2⟩ := mxP_no0 (n := n) (j := j) (m := m) h0
    rw [e1, e2]
    rw [h0] at k1
    generalize n 0 = a at *
    generalize n 1 = b at *
    generalize n 2 = c at *
    generalize n 3 = d at *
    generalize blP a b i k = r0 at *
    generalize blP d c i k = r1 at *
    generalize blK d c i k = b1 at *
    clear k3 h0 e1 e2
    cases b1
    all_goals
      refine Gives.mk fun w => ?_
      go_enter Try.func92, Try.ntmps92
      go_wp2_with (first | (go_at_call 91; first | ((with_reducible refine (k1.at_ _).mono ?_); rintro e w' ⟨rfl, xg, rfl⟩) | ((with_reducible refine (k2.at_ _).mono ?_); rintro e w' ⟨rfl, xg, rfl⟩)) | fail)
      refine bodyPost_ret (v := .tuple #[.agg #[.int .i64 N3.x, .int .i64 N3.y, .int .i64 N3.z], .bool false]) (by simp [results, Try.results92, go_sem, N3]) rfl ⟨rfl, (by repeat (first | exact Below.refl _ _ | refine bel_then ?_ _ | refine bel_grow ?_ _ | refine bel_alloc ?_ _ | refine bel_drew ?_ | refine bel_set ?_ (by simp) _ | refine bel_setRow ?_ (by first | omega | (simp; done) | (refine Nat.le_trans ?_ (top_le _ _); simp; done) | (refine Nat.le_succ_of_le (Nat.le_trans ?_ (top_le _ _)); simp; done) | (refine Nat.le_trans ?_ (top_le _ _); simp only [World.size_alloc]; refine Nat.le_succ_of_le (Nat.le_trans ?_ (top_le _ _)); simp; done)) _))⟩
  · rw [h0] at k1
    cases h1 : blK (n 3) (n 2) i k
    · obtain ⟨e1, e2⟩ := mxP_no1 (n := n) (j := j) (m := m) h0 h1
      rw [e1, e2]
      rw [h1] at k2
      generalize n 0 = a at *
      generalize n 1 = b at *
      generalize n 2 = c at *
      generalize n 3 = d at *
      generalize blP a b i k = r0 at *
      generalize blP d c i k = r1 at *
      clear k3 h0 h1 e1 e2
      refine Gives.mk fun w => ?_
      go_enter Try.func92, Try.ntmps92
      go_wp2_with (first | (go_at_call 91; first | ((with_reducible refine (k1.at_ _).mono ?_); rintro e w' ⟨rfl, xg, rfl⟩) | ((with_reducible refine (k2.at_ _).mono ?_); rintro e w' ⟨rfl, xg, rfl⟩)) | fail)
      refine bodyPost_ret (v := .tuple #[.agg #[.int .i64 N3.x, .int .i64 N3.y, .int .i64 N3.z], .bool false]) (by simp [results, Try.results92, go_sem, N3]) rfl ⟨rfl, (by repeat (first | exact Below.refl _ _ | refine bel_then ?_ _ | refine bel_grow ?_ _ | refine bel_alloc ?_ _ | refine bel_drew ?_ | refine bel_set ?_ (by simp) _ | refine bel_setRow ?_ (by first | omega | (simp; done) | (refine Nat.le_trans ?_ (top_le _ _); simp; done) | (refine Nat.le_succ_of_le (Nat.le_trans ?_ (top_le _ _)); simp; done) | (refine Nat.le_trans ?_ (top_le _ _); simp only [World.size_alloc]; refine Nat.le_succ_of_le (Nat.le_trans ?_ (top_le _ _)); simp; done)) _))⟩
    · obtain ⟨e1, e2⟩ := mxP_yes (n := n) (j := j) (m := m) h0 h1
      rw [e1, e2]
      rw [h1] at k2
      generalize n 0 = a at *
      generalize n 1 = b at *
      generalize n 2 = c at *
      generalize n 3 = d at *
      generalize blP a b i k = r0 at *
      generalize blP d c i k = r1 at *
      generalize blP r0 r1 j m = r2 at *
      generalize blK r0 r1 j m = b2 at *
      clear h0 h1 e1 e2
      refine Gives.mk fun w => ?_
      go_enter Try.func92, Try.ntmps92
      go_wp2_with (first | (go_at_call 91; first | ((with_reducible refine (k1.at_ _).mono ?_); rintro e w' ⟨rfl, xg, rfl⟩) | ((with_reducible refine (k2.at_ _).mono ?_); rintro e w' ⟨rfl, xg, rfl⟩) | ((with_reducible refine (k3.at_ _).mono ?_); rintro e w' ⟨rfl, xg, rfl⟩)) | fail)
      refine bodyPost_ret (v := .tuple #[.agg #[.int .i64 r2.x, .int .i64 r2.y, .int .i64 r2.z], .bool b2]) (by simp [results, Try.results92, go_sem, N3]) rfl ⟨rfl, (by repeat (first | exact Below.refl _ _ | refine bel_then ?_ _ | refine bel_grow ?_ _ | refine bel_alloc ?_ _ | refine bel_drew ?_ | refine bel_set ?_ (by simp) _ | refine bel_setRow ?_ (by first | omega | (simp; done) | (refine Nat.le_trans ?_ (top_le _ _); simp; done) | (refine Nat.le_succ_of_le (Nat.le_trans ?_ (top_le _ _)); simp; done) | (refine Nat.le_trans ?_ (top_le _ _); simp only [World.size_alloc]; refine Nat.le_succ_of_le (Nat.le_trans ?_ (top_le _ _)); simp; done)) _))⟩
end Go.Proofs.Ytpaehkjnefgaiaa
namespace Go.Proofs.Ytpaehkjnefgaiaa
open Go.RowKit
set_option linter.unusedVariables false
set_option linter.unusedSimpArgs false
set_option linter.unnecessarySimpa false
set_option maxRecDepth 100000


end Go.Proofs.Ytpaehkjnefgaiaa
namespace Go.Proofs.Ytpaehkjnefgaiaa
open Go.RowKit
set_option linter.unusedVariables false
set_option linter.unusedSimpArgs false
set_option linter.unnecessarySimpa false
set_option maxRecDepth 100000
end Go.Proofs.Ytpaehkjnefgaiaa
namespace Go.Proofs.Ytpaehkjnefgaiaa
open Go.RowKit
set_option linter.unusedVariables false
set_option linter.unusedSimpArgs false
section
variable {P : Program} {Q : Exit → Act → World → Prop} {R : Nat → Value → Prop} {a0 : Act}
end
end Go.Proofs.Ytpaehkjnefgaiaa
namespace Go.Proofs.Ytpaehkjnefgaiaa
open Go.RowKit
set_option linter.unusedVariables false
set_option linter.unusedSimpArgs false
/-- As edgesB, of the edges that bind. -/
def edgesB2 (l : List Oper) : Bool := l.zipIdx.all fun x => x.1.after.all fun e => !Region.binds .any e || decide (e.on < x.2)
theorem edges_of2 {l : List Oper} (h : edgesB2 l = true) : ∀ (i : Nat) (o : Oper), l.toArray[i]? = some o → ∀ e ∈ o.after, Region.binds .any e = true → e.on < i := fun i o hi e he hb => by
  unfold edgesB2 at h
  rw [List.all_eq_true] at h
  have hm : (o, i) ∈ l.zipIdx := by
    rw [List.mem_zipIdx_iff_getElem?]
    simpa using hi
  have h2 := h _ hm
  rw [Array.all_eq_true_iff_forall_mem] at h2
  have h3 := h2 e he
  rw [hb] at h3
  simpa using h3
section
variable {P : Program} {l : List Oper} {n : Nat} {Q : Exit → Act → World → Prop} {R : Nat → Value → Prop} {a0 : Act} {J : Array Bool → World → Prop}
theorem wp_region_monoK2 {id : Nat} {w0 : World} (n : Nat) (R : Nat → Value → Prop) (J : Array Bool → World → Prop) (hm : P.follows .mixedOrders = true) (N : Nat) (hn : a0.tmps.size = N) (hE : edgesB2 l = true) (hW : waitB l n = true) (hnl : decide (n ≤ l.length) = true) (hseq : Region.seqB .any l.toArray (l.length - n) n (doneA l.length n) = true) (hD : dstB (l.take n) N = true)
    (hJ0 : J (Array.replicate l.toArray.size false) { w0 with drawn := w0.drawn + 1 })
    (hS : allI (MonoKS P (l.take n).toArray R a0 J Q) 0 (l.take n))
    (hend : ∀ (a : Act) (w : World) (listed : Array Bool), J listed w → (∀ j, j < n → listed.getD j false = true) → a.tmps.size = a0.tmps.size → a.defers = a0.defers → (∀ t, (∀ (j : Nat) (o : Oper), (l.take n).toArray[j]? = some o → o.dst ≠ some t) → a.tmps[t]? = a0.tmps[t]?) → (∀ (j : Nat) (o : Oper) (d : Tmp), (l.take n).toArray[j]? = some o → o.dst = some d → ∃ v, a.tmps[d]? = some v ∧ R j v) → wpList P l.toArray Q (l.drop n) a w) :
    (Code.region id l.toArray true).wp P Q a0 w0 := by
  have hl : left (Array.replicate l.toArray.size false) = l.toArray.size := by unfold left; simp
  refine wp_region_any hm ?_
  have := monoK_sound (a0 := a0) (R := R) (J := J) (n := n) (Q := Q) (P := P) (edges_of2 hE) (wait_of hW) (by simpa using hnl) hseq (dst_one hD) (fun j oj d h1 h2 => by rw [hn]; exact dst_lt hD j oj d h1 h2) (allI_arr hS) hend (l.toArray.size) (Array.replicate l.toArray.size false) a0 { w0 with drawn := w0.drawn + 1 } (by simp) (fun i hi => by simp [Array.getD] at hi) hl (fun j h1 h2 => by simp [Array.getD, h2]) ⟨hJ0, rfl, rfl, fun t _ => rfl, fun j o d _ _ hq => by simp [Array.getD] at hq⟩
  exact this
end
section
variable {P : Program} {l : List Oper} {n : Nat} {Q : Exit → Act → World → Prop} {R : Nat → World → Value → Prop} {a0 : Act} {w0 : World}
/-- As wp_region_monoT, by the edges that bind. -/
theorem wp_region_monoT2 {id : Nat} (n : Nat) (R : Nat → World → Value → Prop) (hm : P.follows .mixedOrders = true) (N : Nat) (hn : a0.tmps.size = N) (hE : edgesB2 l = true) (hW : waitB l n = true) (hnl : decide (n ≤ l.length) = true) (hseq : Region.seqB .any l.toArray (l.length - n) n (doneA l.length n) = true) (hD : dstB (l.take n) N = true)
    (hmono : ∀ (j : Nat) (w w' : World) (v : Value), Below w.heap.size w w' → R j w v → R j w' v)
    (hS : allI (MonoS P .any (l.take n).toArray R a0 w0 Q) 0 (l.take n))
    (hend : ∀ (a : Act) (w : World), Below w0.heap.size w0 w → a.tmps.size = a0.tmps.size → a.defers = a0.defers → (∀ t, (∀ (j : Nat) (o : Oper), (l.take n).toArray[j]? = some o → o.dst ≠ some t) → a.tmps[t]? = a0.tmps[t]?) → (∀ (j : Nat) (o : Oper) (d : Tmp), (l.take n).toArray[j]? = some o → o.dst = some d → ∃ v, a.tmps[d]? = some v ∧ R j w v) → wpList P l.toArray Q (l.drop n) a w) :
    (Code.region id l.toArray true).wp P Q a0 w0 := by
  have hl : left (Array.replicate l.toArray.size false) = l.toArray.size := by unfold left; simp
  refine wp_region_any hm ?_
  have := monoT_sound (a0 := a0) (w0 := w0) (R := R) (n := n) (Q := Q) (P := P) (edges_of2 hE) (wait_of hW) (by simpa using hnl) hseq hmono (dst_one hD) (fun j oj d h1 h2 => by rw [hn]; exact dst_lt hD j oj d h1 h2) (allI_arr hS) hend (l.toArray.size) (Array.replicate l.toArray.size false) a0 { w0 with drawn := w0.drawn + 1 } (by simp) (fun i hi => by simp [Array.getD] at hi) hl (fun j h1 h2 => by simp [Array.getD, h2]) ⟨bel_dr (Below.refl _ _) _, rfl, rfl, fun t _ => rfl, fun j o d _ _ hq => by simp [Array.getD] at hq⟩
  exact this
end
section
variable {P : Program} {Q : Exit → Act → World → Prop} {R : Nat → Value → Prop} {a0 : Act} {F A B : World → Prop} {p : Nat}
/-- What goes on to hold in later worlds. -/
def Grows (X : World → Prop) : Prop := ∀ w w', Below w.heap.size w w' → X w → X w'
theorem grows_and {X Y : World → Prop} (h : Grows X) (k : Grows Y) : Grows fun w => X w ∧ Y w := fun w w' hb ⟨x, y⟩ => ⟨h w w' hb x, k w w' hb y⟩
theorem grows_blk (g : Nat) (t : TypeId) (cs : Array Value) : Grows fun w => Blk w g t cs := fun w w' hb h => h.below hb
theorem grows_bel (W : World) : Grows fun w => Below W.heap.size W w := fun w w' hb h => bel_trans h hb
def JK (F : World → Prop) (p : Nat) (A B : World → Prop) (listed : Array Bool) (w : World) : Prop := F w ∧ p < listed.size ∧ (listed.getD p false = true → B w) ∧ (listed.getD p false = false → A w)
theorem jk_val {ops : Array Oper} {i : Nat} {o : Oper} (hg : o.guard = none) (hp : i ≠ p)
    (h : ∀ (a : Act) (u : World), F u → (∀ t, (∀ (j : Nat) (o : Oper), ops[j]? = some o → o.dst ≠ some t) → a.tmps[t]? = a0.tmps[t]?) →
      (∀ e ∈ o.after, Region.binds .any e = true → ∀ (oj : Oper) (d : Tmp), ops[e.on]? = some oj → oj.dst = some d → ∃ v, a.tmps[d]? = some v ∧ R e.on v) → ∃ v, (execOp a.eval o).run P u = .ok (.value v) u ∧ R i v) : MonoKS P ops R a0 (JK F p A B) Q i o :=
  ⟨hg, fun a w listed hJ hu hall hsz hdf hk hgot => by
    obtain ⟨v, hr, hR⟩ := h a w hJ.1 hk hgot
    refine wp_value hr ⟨v, rfl, ⟨hJ.1, by simpa using hJ.2.1, fun hh => ?_, fun hh => ?_⟩, fun _ _ => hR⟩
    · rw [getD_set_ne false hp] at hh; exact hJ.2.2.1 hh
    · rw [getD_set_ne false hp] at hh; exact hJ.2.2.2 hh⟩
theorem jk_call {ops : Array Oper} {i : Nat} {o : Oper} (hg : o.guard = none) (hp : i ≠ p) (hF : Grows F) (hA : Grows A) (hB : Grows B)
    (h : ∀ (a : Act) (u : World), F u → (∀ t, (∀ (j : Nat) (o : Oper), ops[j]? = some o → o.dst ≠ some t) → a.tmps[t]? = a0.tmps[t]?) →
      (∀ e ∈ o.after, Region.binds .any e = true → ∀ (oj : Oper) (d : Tmp), ops[e.on]? = some oj → oj.dst = some d → ∃ v, a.tmps[d]? = some v ∧ R e.on v) → ∃ f args v, (execOp a.eval o).run P u = .ok (.enter f args) u ∧ (Calls P f args u fun e w' => e = .returned v ∧ Below u.heap.size u w') ∧ R i v) : MonoKS P ops R a0 (JK F p A B) Q i o :=
  ⟨hg, fun a w listed hJ hu hall hsz hdf hk hgot => by
    obtain ⟨f, args, v, hr, hc, hR⟩ := h a w hJ.1 hk hgot
    refine wp_enter (R := fun v' w' => v' = v ∧ Below w.heap.size w w') hr (hc.mono fun e w' ⟨he, hb⟩ => ⟨v, he, rfl, hb⟩) fun v' w' ⟨hv, hb⟩ => ?_
    subst hv
    refine ⟨_, rfl, ⟨hF _ _ hb hJ.1, by simpa using hJ.2.1, fun hh => ?_, fun hh => ?_⟩, fun _ _ => hR⟩
    · rw [getD_set_ne false hp] at hh; exact hB _ _ hb (hJ.2.2.1 hh)
    · rw [getD_set_ne false hp] at hh; exact hA _ _ hb (hJ.2.2.2 hh)⟩
theorem jk_store {ops : Array Oper} {o : Oper} (hg : o.guard = none) (hd : o.dst = none)
    (h : ∀ (a : Act) (u : World), F u → A u → (∀ t, (∀ (j : Nat) (o : Oper), ops[j]? = some o → o.dst ≠ some t) → a.tmps[t]? = a0.tmps[t]?) →
      (∀ e ∈ o.after, Region.binds .any e = true → ∀ (oj : Oper) (d : Tmp), ops[e.on]? = some oj → oj.dst = some d → ∃ v, a.tmps[d]? = some v ∧ R e.on v) → o.wp P a u (fun a' w' => ∃ v, a' = a.put o.dst v ∧ F w' ∧ B w') Q) : MonoKS P ops R a0 (JK F p A B) Q p o :=
  ⟨hg, fun a w listed hJ hu hall hsz hdf hk hgot => by
    refine Oper.wp_mono ?_ (h a w hJ.1 (hJ.2.2.2 (getD_tf hu).1) hk hgot)
    rintro a' w' ⟨v, rfl, hF, hB⟩
    refine ⟨v, rfl, ⟨hF, by simpa using hJ.2.1, fun _ => hB, fun hh => ?_⟩, fun d h0 => by rw [hd] at h0; cases h0⟩
    rw [getD_self hJ.2.1] at hh
    cases hh⟩
theorem jk_start {n : Nat} {w0 : World} (hp : p < n) (hF : F w0) (hA : A w0) : JK F p A B (Array.replicate n false) w0 := ⟨hF, by simpa using hp, fun h => by simp [Array.getD] at h, fun _ => hA⟩
theorem jk_end {n : Nat} {listed : Array Bool} {w : World} (h : JK F p A B listed w) (hp : p < n) (hall : ∀ j, j < n → listed.getD j false = true) : F w ∧ B w := ⟨h.1, h.2.2.1 (hall p hp)⟩
end
end Go.Proofs.Ytpaehkjnefgaiaa
