/- SideAlong holds for every input: the row, out of the walk. No condition. -/
import Derived.Test.YtgfgaaecpdbgeaaRows
import Derived.Test.YtgfgaaecpdbgeaaAlive3
import Derived.Test.YtgfgaaecpdbgeaaOpenT
import Derived.Test.YtgfgaaecpdbgeaaSide6
import Derived.Test.YtgfgaaecpdbgeaaSide7
import Derived.Test.YtgfgaaecpdbgeaaMid
import Derived.Test.YtgfgaaecpdbgeaaSideC
import Derived.Test.YtgfgaaecpdbgeaaPost
namespace Go.Proofs.Ytgfgaaecpdbgeaa.sideAlong
open Go.ChangeShapes Go.WideShapes Go.ChangeAt Go.RowKit
set_option linter.unusedVariables false
set_option linter.unusedSimpArgs false
def wsub (a b : P3) : P3 := ⟨wrap64 (a.x - b.x), wrap64 (a.y - b.y), wrap64 (a.z - b.z)⟩
def wadd (a b : P3) : P3 := ⟨wrap64 (a.x + b.x), wrap64 (a.y + b.y), wrap64 (a.z + b.z)⟩
def wsc (a : P3) (k : Int) : P3 := ⟨wrap64 (a.x * k), wrap64 (a.y * k), wrap64 (a.z * k)⟩
theorem rSub_w (a b : P3) : Gives Try.prog 33 #[.agg #[.int .i64 a.x, .int .i64 a.y, .int .i64 a.z], .agg #[.int .i64 b.x, .int .i64 b.y, .int .i64 b.z]] (.agg #[.int .i64 (wsub a b).x, .int .i64 (wsub a b).y, .int .i64 (wsub a b).z]) := rSub_any _ _ _ _ _ _
theorem rAdd_w (a b : P3) : Gives Try.prog 34 #[.agg #[.int .i64 a.x, .int .i64 a.y, .int .i64 a.z], .agg #[.int .i64 b.x, .int .i64 b.y, .int .i64 b.z]] (.agg #[.int .i64 (wadd a b).x, .int .i64 (wadd a b).y, .int .i64 (wadd a b).z]) := rAdd_any _ _ _ _ _ _
theorem rScale_w (a : P3) (k : Int) : Gives Try.prog 37 #[.agg #[.int .i64 a.x, .int .i64 a.y, .int .i64 a.z], .int .i64 k] (.agg #[.int .i64 (wsc a k).x, .int .i64 (wsc a k).y, .int .i64 (wsc a k).z]) := rScale_any _ _ _ _
theorem turn_along (o d a b : P3) (k t : Int) : turn (ad o (sc d k)) (sc d t) a b = t * turn o d a b := by unfold turn dt cr sb ad sc; simp only; grind
theorem grw_along (d a b : P3) (t : Int) : (grw (sc d t) a b).x = t * (grw d a b).x ∧ (grw (sc d t) a b).y = t * (grw d a b).y ∧ (grw (sc d t) a b).z = t * (grw d a b).z := by
  unfold grw cr sb sc; simp only; refine ⟨?_, ?_, ?_⟩ <;> grind
theorem or_scaled (x y z w t : Int) (ht : t ≠ 0) : orI (t * x) (t * y) (t * z) (t * w) = t * orI x y z w := by
  have e : ∀ v : Int, t * v ≠ 0 ↔ v ≠ 0 := fun v => ⟨fun h e => h (by rw [e, Int.mul_zero]), fun h e => by rcases Int.mul_eq_zero.1 e with h' | h' <;> omega⟩
  unfold orI
  simp only [e]
  repeat' split
  all_goals rfl
theorem pS_along (o d a b : P3) (k t : Int) (ht : t ≠ 0) : pS (ad o (sc d k)) (sc d t) a b = sgn t * pS o d a b := by
  obtain ⟨h1, h2, h3⟩ := grw_along d a b t
  unfold pS
  rw [turn_along, h1, h2, h3, or_scaled _ _ _ _ _ ht, sgn_mul]
theorem sgn_one {t : Int} (ht : t ≠ 0) : sgn t = 1 ∨ sgn t = -1 := by have := sgn_cases t; omega
theorem allS_along (o d a b c : P3) (k t : Int) (ht : t ≠ 0) : allS (ad o (sc d k)) (sc d t) a b c = sgn t * allS o d a b c := by
  unfold allS
  rw [pS_along _ _ _ _ _ _ ht, pS_along _ _ _ _ _ _ ht, pS_along _ _ _ _ _ _ ht]
  unfold sd3
  rcases sgn_one ht with e | e <;> rw [e]
  · simp only [Int.one_mul]
  · by_cases h : pS o d a b = pS o d c a ∧ pS o d b c = pS o d c a
    · rw [if_pos h, if_pos (by omega)]
    · rw [if_neg h, if_neg (by omega)]; rfl
theorem stp_along (d a b c : P3) (t : Int) : stp (sc d t) a b c = t * stp d a b c := by unfold stp dt sc; simp only; grind
theorem far_along (o d a b c : P3) (k : Int) : far (ad o (sc d k)) a b c = far o a b c - k * stp d a b c := by unfold far stp dt sb ad sc; simp only; grind
/-- The same triangle is met, at the same point. -/
theorem hit_along (o d a b c : P3) (k t : Int) (ht : t ≠ 0) (h : bdB o d a b c = true) (h' : bdB (ad o (sc d k)) (sc d t) a b c = true) :
    hK (ad o (sc d k)) (sc d t) a b c = hK o d a b c ∧ (hK o d a b c = true → (hN o d a b c - k * hD o d a b c) * hD (ad o (sc d k)) (sc d t) a b c = hN (ad o (sc d k)) (sc d t) a b c * (hD o d a b c * t) ∧ ((0 < t ∧ hF (ad o (sc d k)) (sc d t) a b c = hF o d a b c) ∨ (t < 0 ∧ hF (ad o (sc d k)) (sc d t) a b c = !hF o d a b c))) := by
  rw [hK_sd h, hK_sd h', hF_sd h, hF_sd h', allS_along _ _ _ _ _ _ _ ht]
  obtain ⟨n1, n2, _⟩ := h_in h
  obtain ⟨p1, p2, _⟩ := h_in h'
  rw [n1, n2, p1, p2, allS_along _ _ _ _ _ _ _ ht, stp_along, far_along]
  obtain ⟨ho, hd, ha, hb, hc⟩ := bdB_in h
  have hs := fun e : allS o d a b c ≠ 0 => allS_stp ho hd ha hb hc e
  generalize allS o d a b c = S at *
  generalize stp d a b c = q at *
  generalize far o a b c = f at *
  refine ⟨?_, fun e => ?_⟩
  · refine decide_eq_decide.2 ?_
    rcases sgn_one ht with e | e <;> rw [e] <;> omega
  · have e := of_decide_eq_true e
    have hq := hs e
    have c1 := sgn_cases q
    rcases Int.lt_or_gt_of_ne ht with hn | hp
    · have e1 : sgn t = -1 := by have := sgn_cases t; omega
      rw [e1]
      refine ⟨?_, .inr ⟨hn, ?_⟩⟩
      · rcases Int.lt_or_gt_of_ne (show q ≠ 0 by intro h0; rw [h0] at hq; exact e hq.symm) with q1 | q1
        · have q2 : 0 < t * q := Int.mul_pos_of_neg_of_neg hn q1
          obtain ⟨a1, a2, _⟩ := m_low (fa := f) q1 e
          obtain ⟨b1, b2, _⟩ := m_high (fa := f - k * q) (sd := -1 * S) q2 (by omega)
          rw [a1, a2, b1, b2]; grind
        · have q2 : t * q < 0 := Int.mul_neg_of_neg_of_pos hn q1
          obtain ⟨a1, a2, _⟩ := m_high (fa := f) q1 e
          obtain ⟨b1, b2, _⟩ := m_low (fa := f - k * q) (sd := -1 * S) q2 (by omega)
          rw [a1, a2, b1, b2]; grind
      · by_cases g : S < 0
        · rw [decide_eq_true g, decide_eq_false (by omega)]; rfl
        · rw [decide_eq_false g, decide_eq_true (by omega)]; rfl
    · have e1 : sgn t = 1 := by have := sgn_cases t; omega
      rw [e1, Int.one_mul]
      refine ⟨?_, .inl ⟨hp, rfl⟩⟩
      rcases Int.lt_or_gt_of_ne (show q ≠ 0 by intro h0; rw [h0] at hq; exact e hq.symm) with q1 | q1
      · have q2 : t * q < 0 := Int.mul_neg_of_pos_of_neg hp q1
        obtain ⟨a1, a2, _⟩ := m_low (fa := f) q1 e
        obtain ⟨b1, b2, _⟩ := m_low (fa := f - k * q) q2 e
        rw [a1, a2, b1, b2]; grind
      · have q2 : 0 < t * q := Int.mul_pos hp q1
        obtain ⟨a1, a2, _⟩ := m_high (fa := f) q1 e
        obtain ⟨b1, b2, _⟩ := m_high (fa := f - k * q) q2 e
        rw [a1, a2, b1, b2]; grind
theorem hit_bd (o d a b c : P3) (h : bdB o d a b c = true) : (-13510798882111488 ≤ hN o d a b c ∧ hN o d a b c ≤ 13510798882111488) ∧ -3377699720527872 ≤ hD o d a b c ∧ hD o d a b c ≤ 3377699720527872 := by
  obtain ⟨n1, n2, _⟩ := h_in h
  rw [n1, n2]
  obtain ⟨ho, hd, ha, hb, hc⟩ := bdB_in h
  have f := far_in ho ha hb hc
  have t := step_in hd ha hb hc
  have f' : -13510798882111488 ≤ far o a b c ∧ far o a b c ≤ 13510798882111488 := f
  have t' : -3377699720527872 ≤ stp d a b c ∧ stp d a b c ≤ 3377699720527872 := t
  unfold mN mD
  split
  · split <;> omega
  · omega
theorem wsc_in2 {a : P3} {k : Int} (ha : Dr a) (hk : -1000 ≤ k ∧ k ≤ 1000) : wsc a k = sc a k ∧ InP 32768000 (sc a k) := by
  obtain ⟨h1, h2, h3⟩ := ha
  have m1 := mul_bd h1 hk
  have m2 := mul_bd h2 hk
  have m3 := mul_bd h3 hk
  unfold wsc sc InP
  rw [wrap_in (by omega), wrap_in (by omega), wrap_in (by omega)]
  exact ⟨rfl, by simp only; omega⟩
theorem wadd_in2 {a b : P3} (ha : Sp a) (hb : InP 32768000 b) : wadd a b = ad a b := by
  unfold Sp InP at *; unfold wadd ad
  rw [wrap_in (by omega), wrap_in (by omega), wrap_in (by omega)]
set_option maxRecDepth 100000 in
set_option maxHeartbeats 4000000 in
theorem far0 (w : World) (o d a b c : P3) (by_ ts : Int) (n e : Int) (f k : Bool)
    (m1 : Gives Try.prog 25 #[.agg #[.int .i64 o.x, .int .i64 o.y, .int .i64 o.z], .agg #[.int .i64 d.x, .int .i64 d.y, .int .i64 d.z], .agg #[.int .i64 a.x, .int .i64 a.y, .int .i64 a.z, .int .i64 b.x, .int .i64 b.y, .int .i64 b.z, .int .i64 c.x, .int .i64 c.y, .int .i64 c.z]] (.tuple #[.agg #[.int .i64 (n), .int .i64 (e), .bool (f), .int .i64 0, .int .i64 0], .bool (k), .int .i64 (21)])) :
    Calls Try.prog 11 #[.agg #[.int .i64 o.x, .int .i64 o.y, .int .i64 o.z], .agg #[.int .i64 d.x, .int .i64 d.y, .int .i64 d.z], .agg #[.int .i64 a.x, .int .i64 a.y, .int .i64 a.z, .int .i64 b.x, .int .i64 b.y, .int .i64 b.z, .int .i64 c.x, .int .i64 c.y, .int .i64 c.z], .int .i64 by_, .int .i64 ts] w fun e w' => e = .returned (.bool true) ∧ Below w.heap.size w w' := by
  have al := alive3_any
  go_enter Try.func11, Try.ntmps11
  go_wp2_with (first | (go_at_call 22; first | ((with_reducible refine (al.at_ _).mono ?_); rintro e w' ⟨rfl, xg, rfl⟩)) | (go_at_call 25; first | ((with_reducible refine (m1.at_ _).mono ?_); rintro e w' ⟨rfl, xg, rfl⟩)))
  all_goals
    go_ret
    exact ⟨rfl, (by repeat (first | exact Below.refl _ _ | refine bel_then ?_ _ | refine bel_grow ?_ _ | refine bel_alloc ?_ _ | refine bel_drew ?_ | refine bel_set ?_ (by simp) _ | refine bel_setRow ?_ (by first | omega | simp; done | exact Nat.le_trans (by simp) (top_le _ _)) _))⟩
set_option maxRecDepth 100000 in
set_option maxHeartbeats 4000000 in
theorem far1 (w : World) (o d a b c : P3) (by_ ts : Int) (n e : Int) (f k : Bool)
    (m1 : Gives Try.prog 25 #[.agg #[.int .i64 o.x, .int .i64 o.y, .int .i64 o.z], .agg #[.int .i64 d.x, .int .i64 d.y, .int .i64 d.z], .agg #[.int .i64 a.x, .int .i64 a.y, .int .i64 a.z, .int .i64 b.x, .int .i64 b.y, .int .i64 b.z, .int .i64 c.x, .int .i64 c.y, .int .i64 c.z]] (.tuple #[.agg #[.int .i64 (n), .int .i64 (e), .bool (f), .int .i64 0, .int .i64 0], .bool (k), .int .i64 (0)])) (hg : ¬ (-1000 ≤ by_ ∧ by_ ≤ 1000 ∧ -1000 ≤ ts ∧ ts ≤ 1000 ∧ ts ≠ 0)) :
    Calls Try.prog 11 #[.agg #[.int .i64 o.x, .int .i64 o.y, .int .i64 o.z], .agg #[.int .i64 d.x, .int .i64 d.y, .int .i64 d.z], .agg #[.int .i64 a.x, .int .i64 a.y, .int .i64 a.z, .int .i64 b.x, .int .i64 b.y, .int .i64 b.z, .int .i64 c.x, .int .i64 c.y, .int .i64 c.z], .int .i64 by_, .int .i64 ts] w fun e w' => e = .returned (.bool true) ∧ Below w.heap.size w w' := by
  have al := alive3_any
  by_cases g1 : by_ < -1000
  · clear hg
    go_enter Try.func11, Try.ntmps11
    go_wp2_with (first | (go_at_call 22; first | ((with_reducible refine (al.at_ _).mono ?_); rintro e w' ⟨rfl, xg, rfl⟩)) | (go_at_call 25; first | ((with_reducible refine (m1.at_ _).mono ?_); rintro e w' ⟨rfl, xg, rfl⟩)))
    go_ret
    exact ⟨rfl, (by repeat (first | exact Below.refl _ _ | refine bel_then ?_ _ | refine bel_grow ?_ _ | refine bel_alloc ?_ _ | refine bel_drew ?_ | refine bel_set ?_ (by simp) _ | refine bel_setRow ?_ (by first | omega | simp; done | exact Nat.le_trans (by simp) (top_le _ _)) _))⟩
  · by_cases g2 : 1000 < by_
    · clear hg
      go_enter Try.func11, Try.ntmps11
      go_wp2_with (first | (go_at_call 22; first | ((with_reducible refine (al.at_ _).mono ?_); rintro e w' ⟨rfl, xg, rfl⟩)) | (go_at_call 25; first | ((with_reducible refine (m1.at_ _).mono ?_); rintro e w' ⟨rfl, xg, rfl⟩)))
      go_ret
      exact ⟨rfl, (by repeat (first | exact Below.refl _ _ | refine bel_then ?_ _ | refine bel_grow ?_ _ | refine bel_alloc ?_ _ | refine bel_drew ?_ | refine bel_set ?_ (by simp) _ | refine bel_setRow ?_ (by first | omega | simp; done | exact Nat.le_trans (by simp) (top_le _ _)) _))⟩
    · by_cases g3 : ts < -1000
      · clear hg
        go_enter Try.func11, Try.ntmps11
        go_wp2_with (first | (go_at_call 22; first | ((with_reducible refine (al.at_ _).mono ?_); rintro e w' ⟨rfl, xg, rfl⟩)) | (go_at_call 25; first | ((with_reducible refine (m1.at_ _).mono ?_); rintro e w' ⟨rfl, xg, rfl⟩)))
        go_ret
        exact ⟨rfl, (by repeat (first | exact Below.refl _ _ | refine bel_then ?_ _ | refine bel_grow ?_ _ | refine bel_alloc ?_ _ | refine bel_drew ?_ | refine bel_set ?_ (by simp) _ | refine bel_setRow ?_ (by first | omega | simp; done | exact Nat.le_trans (by simp) (top_le _ _)) _))⟩
      · by_cases g4 : 1000 < ts
        · clear hg
          go_enter Try.func11, Try.ntmps11
          go_wp2_with (first | (go_at_call 22; first | ((with_reducible refine (al.at_ _).mono ?_); rintro e w' ⟨rfl, xg, rfl⟩)) | (go_at_call 25; first | ((with_reducible refine (m1.at_ _).mono ?_); rintro e w' ⟨rfl, xg, rfl⟩)))
          go_ret
          exact ⟨rfl, (by repeat (first | exact Below.refl _ _ | refine bel_then ?_ _ | refine bel_grow ?_ _ | refine bel_alloc ?_ _ | refine bel_drew ?_ | refine bel_set ?_ (by simp) _ | refine bel_setRow ?_ (by first | omega | simp; done | exact Nat.le_trans (by simp) (top_le _ _)) _))⟩
        · have g5 : ts = 0 := by omega
          subst g5
          clear hg
          go_enter Try.func11, Try.ntmps11
          go_wp2_with (first | (go_at_call 22; first | ((with_reducible refine (al.at_ _).mono ?_); rintro e w' ⟨rfl, xg, rfl⟩)) | (go_at_call 25; first | ((with_reducible refine (m1.at_ _).mono ?_); rintro e w' ⟨rfl, xg, rfl⟩)))
          go_ret
          exact ⟨rfl, (by repeat (first | exact Below.refl _ _ | refine bel_then ?_ _ | refine bel_grow ?_ _ | refine bel_alloc ?_ _ | refine bel_drew ?_ | refine bel_set ?_ (by simp) _ | refine bel_setRow ?_ (by first | omega | simp; done | exact Nat.le_trans (by simp) (top_le _ _)) _))⟩
set_option maxRecDepth 100000 in
set_option maxHeartbeats 4000000 in
theorem far2 (w : World) (o d a b c : P3) (by_ ts : Int) (n e : Int) (f k : Bool) (q r v : P3) (c1 : Gives Try.prog 37 #[.agg #[.int .i64 d.x, .int .i64 d.y, .int .i64 d.z], .int .i64 by_] (.agg #[.int .i64 v.x, .int .i64 v.y, .int .i64 v.z])) (t1 : Gives Try.prog 34 #[.agg #[.int .i64 o.x, .int .i64 o.y, .int .i64 o.z], .agg #[.int .i64 v.x, .int .i64 v.y, .int .i64 v.z]] (.agg #[.int .i64 q.x, .int .i64 q.y, .int .i64 q.z])) (c2 : Gives Try.prog 37 #[.agg #[.int .i64 d.x, .int .i64 d.y, .int .i64 d.z], .int .i64 ts] (.agg #[.int .i64 r.x, .int .i64 r.y, .int .i64 r.z]))
    (m1 : Gives Try.prog 25 #[.agg #[.int .i64 o.x, .int .i64 o.y, .int .i64 o.z], .agg #[.int .i64 d.x, .int .i64 d.y, .int .i64 d.z], .agg #[.int .i64 a.x, .int .i64 a.y, .int .i64 a.z, .int .i64 b.x, .int .i64 b.y, .int .i64 b.z, .int .i64 c.x, .int .i64 c.y, .int .i64 c.z]] (.tuple #[.agg #[.int .i64 (n), .int .i64 (e), .bool (f), .int .i64 0, .int .i64 0], .bool (k), .int .i64 (0)])) (hg : -1000 ≤ by_ ∧ by_ ≤ 1000 ∧ -1000 ≤ ts ∧ ts ≤ 1000 ∧ ts ≠ 0) (m2 : Gives Try.prog 25 #[.agg #[.int .i64 q.x, .int .i64 q.y, .int .i64 q.z], .agg #[.int .i64 r.x, .int .i64 r.y, .int .i64 r.z], .agg #[.int .i64 a.x, .int .i64 a.y, .int .i64 a.z, .int .i64 b.x, .int .i64 b.y, .int .i64 b.z, .int .i64 c.x, .int .i64 c.y, .int .i64 c.z]] (.tuple #[.agg #[.int .i64 (0), .int .i64 (0), .bool (false), .int .i64 0, .int .i64 0], .bool (false), .int .i64 (21)])) :
    Calls Try.prog 11 #[.agg #[.int .i64 o.x, .int .i64 o.y, .int .i64 o.z], .agg #[.int .i64 d.x, .int .i64 d.y, .int .i64 d.z], .agg #[.int .i64 a.x, .int .i64 a.y, .int .i64 a.z, .int .i64 b.x, .int .i64 b.y, .int .i64 b.z, .int .i64 c.x, .int .i64 c.y, .int .i64 c.z], .int .i64 by_, .int .i64 ts] w fun e w' => e = .returned (.bool true) ∧ Below w.heap.size w w' := by
  have al := alive3_any
  obtain ⟨b0, b1, b2, b3, b4⟩ := hg
  have b5 : (ts == 0) = false := by simpa using b4
  clear b4
  go_enter Try.func11, Try.ntmps11
  go_wp2_with (first | (go_at_call 22; first | ((with_reducible refine (al.at_ _).mono ?_); rintro e w' ⟨rfl, xg, rfl⟩)) | (go_at_call 25; first | ((with_reducible refine (m1.at_ _).mono ?_); rintro e w' ⟨rfl, xg, rfl⟩)))
  refine wp_region_mid 14 ?_ 14 (.cells #[.int .i64 0, .int .i64 0, .bool false, .int .i64 0, .int .i64 0] 43) (.cells #[.int .i64 (0), .int .i64 (0), .bool (false), .int .i64 0, .int .i64 0] 43) (by kernel_rfl) (by kernel_rfl) (by kernel_rfl) (fun d hd => by cases hd; exact ⟨_, rfl, rfl, rfl, fun A u => alloc_hit A _ rfl u⟩) (fun pp => ?_) (fun pp => ?_) (fun pp => ⟨?_, ?_, fun x => ?_, fun qq => ?_⟩)
  rotate_left
  · simp only [List.take_succ_cons, List.take_zero]
    repeat (go_big_quiet_step (((first | with_reducible exact c1.quiet _ | with_reducible exact c1.quiet2 _ _ | with_reducible exact t1.quiet _ | with_reducible exact t1.quiet2 _ _ | with_reducible exact c2.quiet _ | with_reducible exact c2.quiet2 _ _ | with_reducible exact m2.quiet _ | with_reducible exact m2.quiet2 _ _))))
    refine wpQuiet_nil ?_
    exact rfl
  · exact ⟨_, rfl, storeAt_row 43 _ _ _ _ rfl rfl rfl rfl rfl (by kernel_rfl) rfl (by first | kernel_rfl | simp [Value.oneCell'] | (simp only [List.all_toArray, Array.all]; rfl))⟩
  rotate_left
  · kernel_rfl
  · simp only [List.drop_succ_cons, List.drop_zero]
    try simp only [Act.put, List.setIfInBounds_toArray, List.set_cons_succ, List.set_cons_zero]
    repeat (go_big_quiet_step ((fail)))
    refine wpQuiet_nil ?_
    exact rfl
  go_wp2_with fail
  go_ret
  exact ⟨rfl, (by repeat (first | exact Below.refl _ _ | refine bel_then ?_ _ | refine bel_grow ?_ _ | refine bel_alloc ?_ _ | refine bel_drew ?_ | refine bel_set ?_ (by simp) _ | refine bel_setRow ?_ (by first | omega | simp; done | exact Nat.le_trans (by simp) (top_le _ _)) _))⟩
set_option maxRecDepth 100000 in
set_option maxHeartbeats 4000000 in
theorem none_ (w : World) (o d a b c : P3) (by_ ts : Int) (n e n2 e2 : Int) (f f2 : Bool) (q r v : P3) (c1 : Gives Try.prog 37 #[.agg #[.int .i64 d.x, .int .i64 d.y, .int .i64 d.z], .int .i64 by_] (.agg #[.int .i64 v.x, .int .i64 v.y, .int .i64 v.z])) (t1 : Gives Try.prog 34 #[.agg #[.int .i64 o.x, .int .i64 o.y, .int .i64 o.z], .agg #[.int .i64 v.x, .int .i64 v.y, .int .i64 v.z]] (.agg #[.int .i64 q.x, .int .i64 q.y, .int .i64 q.z])) (c2 : Gives Try.prog 37 #[.agg #[.int .i64 d.x, .int .i64 d.y, .int .i64 d.z], .int .i64 ts] (.agg #[.int .i64 r.x, .int .i64 r.y, .int .i64 r.z]))
    (m1 : Gives Try.prog 25 #[.agg #[.int .i64 o.x, .int .i64 o.y, .int .i64 o.z], .agg #[.int .i64 d.x, .int .i64 d.y, .int .i64 d.z], .agg #[.int .i64 a.x, .int .i64 a.y, .int .i64 a.z, .int .i64 b.x, .int .i64 b.y, .int .i64 b.z, .int .i64 c.x, .int .i64 c.y, .int .i64 c.z]] (.tuple #[.agg #[.int .i64 (n), .int .i64 (e), .bool (f), .int .i64 0, .int .i64 0], .bool (false), .int .i64 (0)])) (hg : -1000 ≤ by_ ∧ by_ ≤ 1000 ∧ -1000 ≤ ts ∧ ts ≤ 1000 ∧ ts ≠ 0) (m2 : Gives Try.prog 25 #[.agg #[.int .i64 q.x, .int .i64 q.y, .int .i64 q.z], .agg #[.int .i64 r.x, .int .i64 r.y, .int .i64 r.z], .agg #[.int .i64 a.x, .int .i64 a.y, .int .i64 a.z, .int .i64 b.x, .int .i64 b.y, .int .i64 b.z, .int .i64 c.x, .int .i64 c.y, .int .i64 c.z]] (.tuple #[.agg #[.int .i64 (n2), .int .i64 (e2), .bool (f2), .int .i64 0, .int .i64 0], .bool (false), .int .i64 (0)])) :
    Calls Try.prog 11 #[.agg #[.int .i64 o.x, .int .i64 o.y, .int .i64 o.z], .agg #[.int .i64 d.x, .int .i64 d.y, .int .i64 d.z], .agg #[.int .i64 a.x, .int .i64 a.y, .int .i64 a.z, .int .i64 b.x, .int .i64 b.y, .int .i64 b.z, .int .i64 c.x, .int .i64 c.y, .int .i64 c.z], .int .i64 by_, .int .i64 ts] w fun e w' => e = .returned (.bool true) ∧ Below w.heap.size w w' := by
  have al := alive3_any
  obtain ⟨b0, b1, b2, b3, b4⟩ := hg
  have b5 : (ts == 0) = false := by simpa using b4
  clear b4
  go_enter Try.func11, Try.ntmps11
  go_wp2_with (first | (go_at_call 22; first | ((with_reducible refine (al.at_ _).mono ?_); rintro e w' ⟨rfl, xg, rfl⟩)) | (go_at_call 25; first | ((with_reducible refine (m1.at_ _).mono ?_); rintro e w' ⟨rfl, xg, rfl⟩)))
  refine wp_region_mid 14 ?_ 14 (.cells #[.int .i64 0, .int .i64 0, .bool false, .int .i64 0, .int .i64 0] 43) (.cells #[.int .i64 (n2), .int .i64 (e2), .bool (f2), .int .i64 0, .int .i64 0] 43) (by kernel_rfl) (by kernel_rfl) (by kernel_rfl) (fun d hd => by cases hd; exact ⟨_, rfl, rfl, rfl, fun A u => alloc_hit A _ rfl u⟩) (fun pp => ?_) (fun pp => ?_) (fun pp => ⟨?_, ?_, fun x => ?_, fun qq => ?_⟩)
  rotate_left
  · simp only [List.take_succ_cons, List.take_zero]
    repeat (go_big_quiet_step (((first | with_reducible exact c1.quiet _ | with_reducible exact c1.quiet2 _ _ | with_reducible exact t1.quiet _ | with_reducible exact t1.quiet2 _ _ | with_reducible exact c2.quiet _ | with_reducible exact c2.quiet2 _ _ | with_reducible exact m2.quiet _ | with_reducible exact m2.quiet2 _ _))))
    refine wpQuiet_nil ?_
    exact rfl
  · exact ⟨_, rfl, storeAt_row 43 _ _ _ _ rfl rfl rfl rfl rfl (by kernel_rfl) rfl (by first | kernel_rfl | simp [Value.oneCell'] | (simp only [List.all_toArray, Array.all]; rfl))⟩
  rotate_left
  · kernel_rfl
  · simp only [List.drop_succ_cons, List.drop_zero]
    try simp only [Act.put, List.setIfInBounds_toArray, List.set_cons_succ, List.set_cons_zero]
    repeat (go_big_quiet_step ((fail)))
    refine wpQuiet_nil ?_
    exact rfl
  go_wp2_with fail
  go_ret
  exact ⟨rfl, (by repeat (first | exact Below.refl _ _ | refine bel_then ?_ _ | refine bel_grow ?_ _ | refine bel_alloc ?_ _ | refine bel_drew ?_ | refine bel_set ?_ (by simp) _ | refine bel_setRow ?_ (by first | omega | simp; done | exact Nat.le_trans (by simp) (top_le _ _)) _))⟩
set_option maxRecDepth 100000 in
set_option maxHeartbeats 4000000 in
theorem same (w : World) (o d a b c : P3) (by_ ts : Int) (n e n2 e2 u1 u2 : Int) (f : Bool) (q r v : P3) (c1 : Gives Try.prog 37 #[.agg #[.int .i64 d.x, .int .i64 d.y, .int .i64 d.z], .int .i64 by_] (.agg #[.int .i64 v.x, .int .i64 v.y, .int .i64 v.z])) (t1 : Gives Try.prog 34 #[.agg #[.int .i64 o.x, .int .i64 o.y, .int .i64 o.z], .agg #[.int .i64 v.x, .int .i64 v.y, .int .i64 v.z]] (.agg #[.int .i64 q.x, .int .i64 q.y, .int .i64 q.z])) (c2 : Gives Try.prog 37 #[.agg #[.int .i64 d.x, .int .i64 d.y, .int .i64 d.z], .int .i64 ts] (.agg #[.int .i64 r.x, .int .i64 r.y, .int .i64 r.z]))
    (m1 : Gives Try.prog 25 #[.agg #[.int .i64 o.x, .int .i64 o.y, .int .i64 o.z], .agg #[.int .i64 d.x, .int .i64 d.y, .int .i64 d.z], .agg #[.int .i64 a.x, .int .i64 a.y, .int .i64 a.z, .int .i64 b.x, .int .i64 b.y, .int .i64 b.z, .int .i64 c.x, .int .i64 c.y, .int .i64 c.z]] (.tuple #[.agg #[.int .i64 (n), .int .i64 (e), .bool (f), .int .i64 0, .int .i64 0], .bool (true), .int .i64 (0)])) (hg : -1000 ≤ by_ ∧ by_ ≤ 1000 ∧ -1000 ≤ ts ∧ ts ≤ 1000 ∧ ts ≠ 0) (ht : 0 < ts) (m2 : Gives Try.prog 25 #[.agg #[.int .i64 q.x, .int .i64 q.y, .int .i64 q.z], .agg #[.int .i64 r.x, .int .i64 r.y, .int .i64 r.z], .agg #[.int .i64 a.x, .int .i64 a.y, .int .i64 a.z, .int .i64 b.x, .int .i64 b.y, .int .i64 b.z, .int .i64 c.x, .int .i64 c.y, .int .i64 c.z]] (.tuple #[.agg #[.int .i64 (n2), .int .i64 (e2), .bool (f), .int .i64 0, .int .i64 0], .bool (true), .int .i64 (0)]))
    (x1 : Gives Try.prog 21 #[.int .i64 (wrap64 (n - wrap64 (by_ * e))), .int .i64 e2] (.agg #[.int .i64 u1, .int .u64 u2])) (x2 : Gives Try.prog 21 #[.int .i64 n2, .int .i64 (wrap64 (e * ts))] (.agg #[.int .i64 u1, .int .u64 u2])) :
    Calls Try.prog 11 #[.agg #[.int .i64 o.x, .int .i64 o.y, .int .i64 o.z], .agg #[.int .i64 d.x, .int .i64 d.y, .int .i64 d.z], .agg #[.int .i64 a.x, .int .i64 a.y, .int .i64 a.z, .int .i64 b.x, .int .i64 b.y, .int .i64 b.z, .int .i64 c.x, .int .i64 c.y, .int .i64 c.z], .int .i64 by_, .int .i64 ts] w fun e w' => e = .returned (.bool true) ∧ Below w.heap.size w w' := by
  have al := alive3_any
  obtain ⟨b0, b1, b2, b3, b4⟩ := hg
  have b5 : (ts == 0) = false := by simpa using b4
  clear b4
  cases f
  · skip
    go_enter Try.func11, Try.ntmps11
    go_wp2_with (first | (go_at_call 22; first | ((with_reducible refine (al.at_ _).mono ?_); rintro e w' ⟨rfl, xg, rfl⟩)) | (go_at_call 25; first | ((with_reducible refine (m1.at_ _).mono ?_); rintro e w' ⟨rfl, xg, rfl⟩)))
    refine wp_region_mid 14 ?_ 14 (.cells #[.int .i64 0, .int .i64 0, .bool false, .int .i64 0, .int .i64 0] 43) (.cells #[.int .i64 (n2), .int .i64 (e2), .bool (false), .int .i64 0, .int .i64 0] 43) (by kernel_rfl) (by kernel_rfl) (by kernel_rfl) (fun d hd => by cases hd; exact ⟨_, rfl, rfl, rfl, fun A u => alloc_hit A _ rfl u⟩) (fun pp => ?_) (fun pp => ?_) (fun pp => ⟨?_, ?_, fun x => ?_, fun qq => ?_⟩)
    rotate_left
    · simp only [List.take_succ_cons, List.take_zero]
      repeat (go_big_quiet_step (((first | with_reducible exact c1.quiet _ | with_reducible exact c1.quiet2 _ _ | with_reducible exact t1.quiet _ | with_reducible exact t1.quiet2 _ _ | with_reducible exact c2.quiet _ | with_reducible exact c2.quiet2 _ _ | with_reducible exact m2.quiet _ | with_reducible exact m2.quiet2 _ _))))
      refine wpQuiet_nil ?_
      exact rfl
    · exact ⟨_, rfl, storeAt_row 43 _ _ _ _ rfl rfl rfl rfl rfl (by kernel_rfl) rfl (by first | kernel_rfl | simp [Value.oneCell'] | (simp only [List.all_toArray, Array.all]; rfl))⟩
    rotate_left
    · kernel_rfl
    · simp only [List.drop_succ_cons, List.drop_zero]
      try simp only [Act.put, List.setIfInBounds_toArray, List.set_cons_succ, List.set_cons_zero]
      repeat (go_big_quiet_step ((fail)))
      refine wpQuiet_nil ?_
      exact rfl
    go_wp2_with (first | (go_at_call 21; first | ((with_reducible refine (x1.at_ _).mono ?_); rintro e w' ⟨rfl, xg, rfl⟩) | ((with_reducible refine (x2.at_ _).mono ?_); rintro e w' ⟨rfl, xg, rfl⟩)))
    all_goals
      go_ret
      exact ⟨rfl, (by repeat (first | exact Below.refl _ _ | refine bel_then ?_ _ | refine bel_grow ?_ _ | refine bel_alloc ?_ _ | refine bel_drew ?_ | refine bel_set ?_ (by simp) _ | refine bel_setRow ?_ (by first | omega | simp; done | exact Nat.le_trans (by simp) (top_le _ _)) _))⟩
  · skip
    go_enter Try.func11, Try.ntmps11
    go_wp2_with (first | (go_at_call 22; first | ((with_reducible refine (al.at_ _).mono ?_); rintro e w' ⟨rfl, xg, rfl⟩)) | (go_at_call 25; first | ((with_reducible refine (m1.at_ _).mono ?_); rintro e w' ⟨rfl, xg, rfl⟩)))
    refine wp_region_mid 14 ?_ 14 (.cells #[.int .i64 0, .int .i64 0, .bool false, .int .i64 0, .int .i64 0] 43) (.cells #[.int .i64 (n2), .int .i64 (e2), .bool (true), .int .i64 0, .int .i64 0] 43) (by kernel_rfl) (by kernel_rfl) (by kernel_rfl) (fun d hd => by cases hd; exact ⟨_, rfl, rfl, rfl, fun A u => alloc_hit A _ rfl u⟩) (fun pp => ?_) (fun pp => ?_) (fun pp => ⟨?_, ?_, fun x => ?_, fun qq => ?_⟩)
    rotate_left
    · simp only [List.take_succ_cons, List.take_zero]
      repeat (go_big_quiet_step (((first | with_reducible exact c1.quiet _ | with_reducible exact c1.quiet2 _ _ | with_reducible exact t1.quiet _ | with_reducible exact t1.quiet2 _ _ | with_reducible exact c2.quiet _ | with_reducible exact c2.quiet2 _ _ | with_reducible exact m2.quiet _ | with_reducible exact m2.quiet2 _ _))))
      refine wpQuiet_nil ?_
      exact rfl
    · exact ⟨_, rfl, storeAt_row 43 _ _ _ _ rfl rfl rfl rfl rfl (by kernel_rfl) rfl (by first | kernel_rfl | simp [Value.oneCell'] | (simp only [List.all_toArray, Array.all]; rfl))⟩
    rotate_left
    · kernel_rfl
    · simp only [List.drop_succ_cons, List.drop_zero]
      try simp only [Act.put, List.setIfInBounds_toArray, List.set_cons_succ, List.set_cons_zero]
      repeat (go_big_quiet_step ((fail)))
      refine wpQuiet_nil ?_
      exact rfl
    go_wp2_with (first | (go_at_call 21; first | ((with_reducible refine (x1.at_ _).mono ?_); rintro e w' ⟨rfl, xg, rfl⟩) | ((with_reducible refine (x2.at_ _).mono ?_); rintro e w' ⟨rfl, xg, rfl⟩)))
    all_goals
      go_ret
      exact ⟨rfl, (by repeat (first | exact Below.refl _ _ | refine bel_then ?_ _ | refine bel_grow ?_ _ | refine bel_alloc ?_ _ | refine bel_drew ?_ | refine bel_set ?_ (by simp) _ | refine bel_setRow ?_ (by first | omega | simp; done | exact Nat.le_trans (by simp) (top_le _ _)) _))⟩
set_option maxRecDepth 100000 in
set_option maxHeartbeats 4000000 in
theorem other (w : World) (o d a b c : P3) (by_ ts : Int) (n e n2 e2 u1 u2 : Int) (f : Bool) (q r v : P3) (c1 : Gives Try.prog 37 #[.agg #[.int .i64 d.x, .int .i64 d.y, .int .i64 d.z], .int .i64 by_] (.agg #[.int .i64 v.x, .int .i64 v.y, .int .i64 v.z])) (t1 : Gives Try.prog 34 #[.agg #[.int .i64 o.x, .int .i64 o.y, .int .i64 o.z], .agg #[.int .i64 v.x, .int .i64 v.y, .int .i64 v.z]] (.agg #[.int .i64 q.x, .int .i64 q.y, .int .i64 q.z])) (c2 : Gives Try.prog 37 #[.agg #[.int .i64 d.x, .int .i64 d.y, .int .i64 d.z], .int .i64 ts] (.agg #[.int .i64 r.x, .int .i64 r.y, .int .i64 r.z]))
    (m1 : Gives Try.prog 25 #[.agg #[.int .i64 o.x, .int .i64 o.y, .int .i64 o.z], .agg #[.int .i64 d.x, .int .i64 d.y, .int .i64 d.z], .agg #[.int .i64 a.x, .int .i64 a.y, .int .i64 a.z, .int .i64 b.x, .int .i64 b.y, .int .i64 b.z, .int .i64 c.x, .int .i64 c.y, .int .i64 c.z]] (.tuple #[.agg #[.int .i64 (n), .int .i64 (e), .bool (f), .int .i64 0, .int .i64 0], .bool (true), .int .i64 (0)])) (hg : -1000 ≤ by_ ∧ by_ ≤ 1000 ∧ -1000 ≤ ts ∧ ts ≤ 1000 ∧ ts ≠ 0) (ht : ts < 0) (m2 : Gives Try.prog 25 #[.agg #[.int .i64 q.x, .int .i64 q.y, .int .i64 q.z], .agg #[.int .i64 r.x, .int .i64 r.y, .int .i64 r.z], .agg #[.int .i64 a.x, .int .i64 a.y, .int .i64 a.z, .int .i64 b.x, .int .i64 b.y, .int .i64 b.z, .int .i64 c.x, .int .i64 c.y, .int .i64 c.z]] (.tuple #[.agg #[.int .i64 (n2), .int .i64 (e2), .bool ((!f)), .int .i64 0, .int .i64 0], .bool (true), .int .i64 (0)]))
    (x1 : Gives Try.prog 21 #[.int .i64 (wrap64 (n - wrap64 (by_ * e))), .int .i64 e2] (.agg #[.int .i64 u1, .int .u64 u2])) (x2 : Gives Try.prog 21 #[.int .i64 n2, .int .i64 (wrap64 (e * ts))] (.agg #[.int .i64 u1, .int .u64 u2])) :
    Calls Try.prog 11 #[.agg #[.int .i64 o.x, .int .i64 o.y, .int .i64 o.z], .agg #[.int .i64 d.x, .int .i64 d.y, .int .i64 d.z], .agg #[.int .i64 a.x, .int .i64 a.y, .int .i64 a.z, .int .i64 b.x, .int .i64 b.y, .int .i64 b.z, .int .i64 c.x, .int .i64 c.y, .int .i64 c.z], .int .i64 by_, .int .i64 ts] w fun e w' => e = .returned (.bool true) ∧ Below w.heap.size w w' := by
  have al := alive3_any
  obtain ⟨b0, b1, b2, b3, b4⟩ := hg
  have b5 : (ts == 0) = false := by simpa using b4
  clear b4
  have b6 : decide (0 < ts) = false := by simp; omega
  cases f
  · simp only [Bool.not_false, Bool.not_true] at m2
    go_enter Try.func11, Try.ntmps11
    go_wp2_with (first | (go_at_call 22; first | ((with_reducible refine (al.at_ _).mono ?_); rintro e w' ⟨rfl, xg, rfl⟩)) | (go_at_call 25; first | ((with_reducible refine (m1.at_ _).mono ?_); rintro e w' ⟨rfl, xg, rfl⟩)))
    refine wp_region_mid 14 ?_ 14 (.cells #[.int .i64 0, .int .i64 0, .bool false, .int .i64 0, .int .i64 0] 43) (.cells #[.int .i64 (n2), .int .i64 (e2), .bool (true), .int .i64 0, .int .i64 0] 43) (by kernel_rfl) (by kernel_rfl) (by kernel_rfl) (fun d hd => by cases hd; exact ⟨_, rfl, rfl, rfl, fun A u => alloc_hit A _ rfl u⟩) (fun pp => ?_) (fun pp => ?_) (fun pp => ⟨?_, ?_, fun x => ?_, fun qq => ?_⟩)
    rotate_left
    · simp only [List.take_succ_cons, List.take_zero]
      repeat (go_big_quiet_step (((first | with_reducible exact c1.quiet _ | with_reducible exact c1.quiet2 _ _ | with_reducible exact t1.quiet _ | with_reducible exact t1.quiet2 _ _ | with_reducible exact c2.quiet _ | with_reducible exact c2.quiet2 _ _ | with_reducible exact m2.quiet _ | with_reducible exact m2.quiet2 _ _))))
      refine wpQuiet_nil ?_
      exact rfl
    · exact ⟨_, rfl, storeAt_row 43 _ _ _ _ rfl rfl rfl rfl rfl (by kernel_rfl) rfl (by first | kernel_rfl | simp [Value.oneCell'] | (simp only [List.all_toArray, Array.all]; rfl))⟩
    rotate_left
    · kernel_rfl
    · simp only [List.drop_succ_cons, List.drop_zero]
      try simp only [Act.put, List.setIfInBounds_toArray, List.set_cons_succ, List.set_cons_zero]
      repeat (go_big_quiet_step ((fail)))
      refine wpQuiet_nil ?_
      exact rfl
    go_wp2_with (first | (go_at_call 21; first | ((with_reducible refine (x1.at_ _).mono ?_); rintro e w' ⟨rfl, xg, rfl⟩) | ((with_reducible refine (x2.at_ _).mono ?_); rintro e w' ⟨rfl, xg, rfl⟩)))
    all_goals
      go_ret
      exact ⟨rfl, (by repeat (first | exact Below.refl _ _ | refine bel_then ?_ _ | refine bel_grow ?_ _ | refine bel_alloc ?_ _ | refine bel_drew ?_ | refine bel_set ?_ (by simp) _ | refine bel_setRow ?_ (by first | omega | simp; done | exact Nat.le_trans (by simp) (top_le _ _)) _))⟩
  · simp only [Bool.not_false, Bool.not_true] at m2
    go_enter Try.func11, Try.ntmps11
    go_wp2_with (first | (go_at_call 22; first | ((with_reducible refine (al.at_ _).mono ?_); rintro e w' ⟨rfl, xg, rfl⟩)) | (go_at_call 25; first | ((with_reducible refine (m1.at_ _).mono ?_); rintro e w' ⟨rfl, xg, rfl⟩)))
    refine wp_region_mid 14 ?_ 14 (.cells #[.int .i64 0, .int .i64 0, .bool false, .int .i64 0, .int .i64 0] 43) (.cells #[.int .i64 (n2), .int .i64 (e2), .bool (false), .int .i64 0, .int .i64 0] 43) (by kernel_rfl) (by kernel_rfl) (by kernel_rfl) (fun d hd => by cases hd; exact ⟨_, rfl, rfl, rfl, fun A u => alloc_hit A _ rfl u⟩) (fun pp => ?_) (fun pp => ?_) (fun pp => ⟨?_, ?_, fun x => ?_, fun qq => ?_⟩)
    rotate_left
    · simp only [List.take_succ_cons, List.take_zero]
      repeat (go_big_quiet_step (((first | with_reducible exact c1.quiet _ | with_reducible exact c1.quiet2 _ _ | with_reducible exact t1.quiet _ | with_reducible exact t1.quiet2 _ _ | with_reducible exact c2.quiet _ | with_reducible exact c2.quiet2 _ _ | with_reducible exact m2.quiet _ | with_reducible exact m2.quiet2 _ _))))
      refine wpQuiet_nil ?_
      exact rfl
    · exact ⟨_, rfl, storeAt_row 43 _ _ _ _ rfl rfl rfl rfl rfl (by kernel_rfl) rfl (by first | kernel_rfl | simp [Value.oneCell'] | (simp only [List.all_toArray, Array.all]; rfl))⟩
    rotate_left
    · kernel_rfl
    · simp only [List.drop_succ_cons, List.drop_zero]
      try simp only [Act.put, List.setIfInBounds_toArray, List.set_cons_succ, List.set_cons_zero]
      repeat (go_big_quiet_step ((fail)))
      refine wpQuiet_nil ?_
      exact rfl
    go_wp2_with (first | (go_at_call 21; first | ((with_reducible refine (x1.at_ _).mono ?_); rintro e w' ⟨rfl, xg, rfl⟩) | ((with_reducible refine (x2.at_ _).mono ?_); rintro e w' ⟨rfl, xg, rfl⟩)))
    all_goals
      go_ret
      exact ⟨rfl, (by repeat (first | exact Below.refl _ _ | refine bel_then ?_ _ | refine bel_grow ?_ _ | refine bel_alloc ?_ _ | refine bel_drew ?_ | refine bel_set ?_ (by simp) _ | refine bel_setRow ?_ (by first | omega | simp; done | exact Nat.le_trans (by simp) (top_le _ _)) _))⟩
theorem walk (w : World) (o : P3) (ko : In3 o) (d : P3) (kd : In3 d) (a b c : P3) (kt : In3 a ∧ In3 b ∧ In3 c) (by_ : Int) (kb : In64 by_) (ts : Int) (kts : In64 ts) :
    Calls Try.prog 11 #[.agg #[.int .i64 o.x, .int .i64 o.y, .int .i64 o.z], .agg #[.int .i64 d.x, .int .i64 d.y, .int .i64 d.z], .agg #[.int .i64 a.x, .int .i64 a.y, .int .i64 a.z, .int .i64 b.x, .int .i64 b.y, .int .i64 b.z, .int .i64 c.x, .int .i64 c.y, .int .i64 c.z], .int .i64 by_, .int .i64 ts] w fun e w' => e = .returned (.bool true) ∧ Below w.heap.size w w' := by
  have m1 := vMeet_any o d a b c
  rcases hE_cases o d a b c with ⟨hb, he⟩ | ⟨hb, he⟩
  · rw [he] at m1
    by_cases hg : -1000 ≤ by_ ∧ by_ ≤ 1000 ∧ -1000 ≤ ts ∧ ts ≤ 1000 ∧ ts ≠ 0
    · obtain ⟨ho, hd, ha, hb', hc⟩ := bdB_in hb
      obtain ⟨w1, i1⟩ := wsc_in2 hd ⟨hg.1, hg.2.1⟩
      obtain ⟨w2, _⟩ := wsc_in2 hd ⟨hg.2.2.1, hg.2.2.2.1⟩
      have w3 := wadd_in2 ho i1
      have c1 := rScale_w d by_
      have c2 := rScale_w d ts
      rw [w1] at c1
      rw [w2] at c2
      have t1 := rAdd_w o (sc d by_)
      rw [w3] at t1
      have m2 := vMeet_any (ad o (sc d by_)) (sc d ts) a b c
      rcases hE_cases (ad o (sc d by_)) (sc d ts) a b c with ⟨hb2, he2⟩ | ⟨hb2, he2⟩
      · rw [he2] at m2
        obtain ⟨e1, e2⟩ := hit_along o d a b c by_ ts hg.2.2.2.2 hb hb2
        rw [e1] at m2
        by_cases hk : hK o d a b c = true
        · obtain ⟨e3, e4⟩ := e2 hk
          rw [hk] at m1 m2
          obtain ⟨⟨n0, n1⟩, d0, d1⟩ := hit_bd o d a b c hb
          obtain ⟨⟨n2, n3⟩, d2, d3⟩ := hit_bd _ _ a b c hb2
          have p1 := mul_bd (m := 1000) (n := 3377699720527872) (a := by_) (b := hD o d a b c) (by omega) (by omega)
          have p2 := mul_bd (m := 3377699720527872) (n := 1000) (a := hD o d a b c) (b := ts) (by omega) (by omega)
          have x1 := rMul_any (wrap64 (hN o d a b c - wrap64 (by_ * hD o d a b c))) (hD (ad o (sc d by_)) (sc d ts) a b c) (by rw [wrap_in (x := by_ * hD o d a b c) (by omega), wrap_in (by omega)]; omega) (by omega)
          have x2 := rMul_any (hN (ad o (sc d by_)) (sc d ts) a b c) (wrap64 (hD o d a b c * ts)) (by omega) (by rw [wrap_in (by omega)]; omega)
          have v1 : wrap64 (hN o d a b c - wrap64 (by_ * hD o d a b c)) * hD (ad o (sc d by_)) (sc d ts) a b c = hN (ad o (sc d by_)) (sc d ts) a b c * wrap64 (hD o d a b c * ts) := by
            rw [wrap_in (x := by_ * hD o d a b c) (by omega), wrap_in (x := hN o d a b c - by_ * hD o d a b c) (by omega), wrap_in (x := hD o d a b c * ts) (by omega), e3]
          rw [v1] at x1
          rcases e4 with ⟨h1, e4⟩ | ⟨h1, e4⟩
          · rw [e4] at m2
            exact same w o d a b c by_ ts _ _ _ _ _ _ _ _ _ _ c1 t1 c2 m1 hg h1 m2 x1 x2
          · rw [e4] at m2
            exact other w o d a b c by_ ts _ _ _ _ _ _ _ _ _ _ c1 t1 c2 m1 hg h1 m2 x1 x2
        · have hk : hK o d a b c = false := by simpa using hk
          rw [hk] at m1 m2
          exact none_ w o d a b c by_ ts _ _ _ _ _ _ _ _ _ c1 t1 c2 m1 hg m2
      · obtain ⟨q1, q2, q3, q4, _⟩ := h_out hb2
        rw [q1, q2, q3, q4, he2] at m2
        exact far2 w o d a b c by_ ts _ _ _ _ _ _ _ c1 t1 c2 m1 hg m2
    · exact far1 w o d a b c by_ ts _ _ _ _ m1 hg
  · rw [he] at m1
    exact far0 w o d a b c by_ ts _ _ _ _ m1

theorem own : ownKnob Try.prog.godebug = none := by kernel_rfl
set_option maxRecDepth 100000 in
theorem lifted (os : Os) (started : os.Started) (H : Type) (enc : TypeId × Value → H) :
    ReturnsInHanded {} Try.checked os 11 .any (Rows.sideAlongSpec.pre6 enc Try.prog Try.f11 Rows.sideAlongRow.domain false) (Rows.sideAlongSpec.post enc Try.prog Try.f11 false true false false) := by
  refine returnsInHanded_of_change (C := Try.checked) own started (by kernel_rfl) Try.func11
    (ChangeSpec.witness6 (enc := enc) (C := Try.checked) false ⟨#[], #[.agg #[.int .i64 0, .int .i64 0, .int .i64 0], .agg #[.int .i64 0, .int .i64 0, .int .i64 0], .agg #[.int .i64 0, .int .i64 0, .int .i64 0, .int .i64 0, .int .i64 0, .int .i64 0, .int .i64 0, .int .i64 0, .int .i64 0], .int .i64 0, .int .i64 0], []⟩ 12 (by kernel_rfl) (by kernel_rfl) (by kernel_rfl) (by kernel_rfl)) ?_
  intro W base args ds gs before hval0 hW hcnd _
  have hval : ∀ (j : Nat) t v, Try.f11.params[j]? = some t → args[j]? = some v → Value.okWide Try.prog W .any base t v := hval0
  have hW' := hW
  obtain ⟨p, q, hA0, hV, rfl, hfz, hnd⟩ := hW
  have hA : DataW.TrodAll enc Try.prog W 0 (fun _ => true) true Try.f11.params.toList args.toList ds p := hA0
  rw [Try.params11] at hA hval
  obtain ⟨v0, vs0, d0, ds0, p0, q0, hargs, rfl, rfl, h0, r0⟩ := trodAll_cons hA
  obtain ⟨v1, vs1, d1, ds1, p1, q1, rfl, rfl, rfl, h1, r1⟩ := trodAll_cons r0
  obtain ⟨v2, vs2, d2, ds2, p2, q2, rfl, rfl, rfl, h2, r2⟩ := trodAll_cons r1
  obtain ⟨v3, vs3, d3, ds3, p3, q3, rfl, rfl, rfl, h3, r3⟩ := trodAll_cons r2
  obtain ⟨v4, vs4, d4, ds4, p4, q4, rfl, rfl, rfl, h4, r4⟩ := trodAll_cons r3
  obtain ⟨rfl, rfl, rfl⟩ := trodAll_nil r4
  obtain rfl : args = #[v0, v1, v2, v3, v4] := by cases args; simp_all
  obtain ⟨a0, rfl, k0⟩ := open_V3 (hval 0 36 v0 rfl rfl) h0
  obtain ⟨a1, rfl, k1⟩ := open_V3 (hval 1 36 v1 rfl rfl) h1
  obtain ⟨a2, b2, c2, rfl, k2⟩ := open_T3 (hval 2 38 v2 rfl rfl) h2
  obtain ⟨a3, rfl, b3⟩ := open_int64 (hval 3 3 v3 rfl rfl) h3
  obtain ⟨a4, rfl, b4⟩ := open_int64 (hval 4 3 v4 rfl rfl) h4
  refine (walk W a0 k0 a1 k1 a2 b2 c2 k2 a3 b3 a4 b4).mono fun e W' ⟨he, hb⟩ => ?_
  subst he
  exact ⟨_, rfl, law_post (tb := 4) (by kernel_rfl) (by kernel_rfl) rfl rfl Try.underlying4 rfl rfl rfl hW' hb⟩

theorem over : Rows.sideAlongRow.holds Try.pinned (OpenSpec.ofChange Rows.sideAlongSpec) :=
  OpenClaim.holds_of_wide 11 Try.f11 rfl rfl rfl rfl rfl rfl rfl ⟨rfl, rfl, rfl, rfl, rfl⟩ rfl rfl rfl rfl rfl (by kernel_rfl) Try.func11 (by kernel_rfl)
    (of_decide_eq_true (by kernel_rfl)) (by unfold Func.isWrapper; first | (rw [if_pos (by decide +kernel)]; kernel_rfl) | (rw [if_neg (by decide +kernel)]; exact ⟨rfl, rfl⟩))
    (fun os started H enc _ => lifted os started H enc)

theorem proved : Rows.SideAlongSaid :=
  over
#print axioms proved
end Go.Proofs.Ytgfgaaecpdbgeaa.sideAlong
