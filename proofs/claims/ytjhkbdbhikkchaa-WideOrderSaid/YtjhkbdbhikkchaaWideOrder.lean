/- WideOrder holds for every input: the row, out of the walk. No condition. -/
import Derived.Test.YtjhkbdbhikkchaaRows
import Derived.Test.YtjhkbdbhikkchaaAlive
import Derived.Test.YtjhkbdbhikkchaaPost
import Derived.Deep.DeepCutAuto
import Derived.Test.YtjhkbdbhikkchaaOpen
namespace Go.Proofs.Ytjhkbdbhikkchaa.wideOrder
open Go.ChangeShapes Go.WideShapes Go.ChangeAt Go.RowKit
set_option linter.unusedVariables false
set_option linter.unusedSimpArgs false
theorem cmpOf_swap (x y : Int) : cmpOf y x = -cmpOf x y := by unfold cmpOf; split <;> split <;> (try split) <;> (try split) <;> omega
theorem cmpOf_bd (x y : Int) : -1 ≤ cmpOf x y ∧ cmpOf x y ≤ 1 := by unfold cmpOf; split <;> (try split) <;> omega
theorem cmpOf_le (x y : Int) : cmpOf x y ≤ 0 ↔ x ≤ y := by unfold cmpOf; split <;> (try split) <;> omega
theorem cmpOf_ge (x y : Int) : 0 ≤ cmpOf x y ↔ y ≤ x := by unfold cmpOf; split <;> (try split) <;> omega
theorem cmpOf_scale (x y k : Int) (hk : 1 ≤ k) : cmpOf (x * k) (y * k) = cmpOf x y := by
  have h1 : x * k < y * k ↔ x < y := ⟨fun h => Int.lt_of_mul_lt_mul_right h (by omega), fun h => Int.mul_lt_mul_of_pos_right h (by omega)⟩
  have h2 : x * k = y * k ↔ x = y := ⟨fun h => Int.eq_of_mul_eq_mul_right (by omega) h, fun h => by rw [h]⟩
  unfold cmpOf
  simp only [h1, h2]
/-- The order of fractions goes on. -/
theorem trans_le (pn pd qn qd rn rd : Int) (hp : Right pn pd) (hq : Right qn qd) (hr : Right rn rd) (h1 : pn * qd ≤ qn * pd) (h2 : qn * rd ≤ rn * qd) : pn * rd ≤ rn * pd := by
  have hp0 : 0 ≤ pd := by unfold Right at hp; omega
  have hr0 : 0 ≤ rd := by unfold Right at hr; omega
  rcases hq with hq | ⟨rfl, rfl⟩
  · have a1 : pn * qd * rd ≤ qn * pd * rd := Int.mul_le_mul_of_nonneg_right h1 hr0
    have a2 : qn * rd * pd ≤ rn * qd * pd := Int.mul_le_mul_of_nonneg_right h2 hp0
    have e1 : pn * qd * rd = pn * rd * qd := Int.mul_right_comm _ _ _
    have e2 : qn * pd * rd = qn * rd * pd := Int.mul_right_comm _ _ _
    have e3 : rn * qd * pd = rn * pd * qd := Int.mul_right_comm _ _ _
    exact Int.le_of_mul_le_mul_right (by omega : pn * rd * qd ≤ rn * pd * qd) hq
  · simp at h2
    have : rd = 0 := by omega
    subst this
    rcases hr with hr | ⟨rfl, _⟩
    · omega
    · simpa using hp0
theorem trans_facts (pn pd qn qd rn rd : Int) (hp : Right pn pd) (hq : Right qn qd) (hr : Right rn rd) :
    (cmpOf (pn * qd) (qn * pd) ≤ 0 → cmpOf (qn * rd) (rn * qd) ≤ 0 → cmpOf (pn * rd) (rn * pd) ≤ 0) ∧
    (0 ≤ cmpOf (pn * qd) (qn * pd) → 0 ≤ cmpOf (qn * rd) (rn * qd) → 0 ≤ cmpOf (pn * rd) (rn * pd)) := by
  simp only [cmpOf_le, cmpOf_ge]
  exact ⟨trans_le pn pd qn qd rn rd hp hq hr, fun h1 h2 => trans_le rn rd qn qd pn pd hr hq hp h2 h1⟩
theorem order_some (pn : Int) (pn0 : -9223372036854775808 ≤ pn) (pn1 : pn ≤ 9223372036854775807) (pd : Int) (pd0 : -9223372036854775808 ≤ pd) (pd1 : pd ≤ 9223372036854775807) (qn : Int) (qn0 : -9223372036854775808 ≤ qn) (qn1 : qn ≤ 9223372036854775807) (qd : Int) (qd0 : -9223372036854775808 ≤ qd) (qd1 : qd ≤ 9223372036854775807) : ∃ a ok, Gives Try.prog 28 #[.agg #[.int .i64 pn, .int .i64 pd], .agg #[.int .i64 qn, .int .i64 qd]] (.tuple #[.int .i64 a, .bool ok]) := by
  by_cases h : Right pn pd ∧ Right qn qd
  · exact ⟨_, _, order_yes pn pd qn qd pn0 pn1 pd0 pd1 qn0 qn1 qd0 qd1 h.1 h.2⟩
  · exact ⟨_, _, order_no pn pd qn qd pd0 qd0 (h)⟩
set_option maxRecDepth 100000 in
set_option maxHeartbeats 1000000 in
theorem core_no (pn : Int) (pn0 : -9223372036854775808 ≤ pn) (pn1 : pn ≤ 9223372036854775807) (pd : Int) (pd0 : -9223372036854775808 ≤ pd) (pd1 : pd ≤ 9223372036854775807) (qn : Int) (qn0 : -9223372036854775808 ≤ qn) (qn1 : qn ≤ 9223372036854775807) (qd : Int) (qd0 : -9223372036854775808 ≤ qd) (qd1 : qd ≤ 9223372036854775807) (rn : Int) (rn0 : -9223372036854775808 ≤ rn) (rn1 : rn ≤ 9223372036854775807) (rd : Int) (rd0 : -9223372036854775808 ≤ rd) (rd1 : rd ≤ 9223372036854775807) (k : Int) (k0 : -9223372036854775808 ≤ k) (k1 : k ≤ 9223372036854775807) (h : ¬ (Right pn pd ∧ Right qn qd)) :
    Gives Try.prog 8 #[.agg #[.int .i64 pn, .int .i64 pd], .agg #[.int .i64 qn, .int .i64 qd], .agg #[.int .i64 rn, .int .i64 rd], .int .i64 k] (.bool true) := by
  refine Gives.mk fun w => ?_
  have al := alive_any
  have o1 := order_no pn pd qn qd pd0 qd0 (h)
  have o2 := order_no qn qd pn pd qd0 pd0 (fun t => h ⟨t.2, t.1⟩)
  obtain ⟨c, ok3, o3⟩ := order_some qn qn0 qn1 qd qd0 qd1 rn rn0 rn1 rd rd0 rd1
  obtain ⟨d, ok4, o4⟩ := order_some pn pn0 pn1 pd pd0 pd1 rn rn0 rn1 rd rd0 rd1
  clear h
  go_enter Try.func8, Try.ntmps8
  go_wp2_with (first | (go_at_call 11; first | ((with_reducible refine (al.at_ _).mono ?_); rintro e w' ⟨rfl, xg, rfl⟩)) | (go_at_call 28; first | ((with_reducible refine (o1.at_ _).mono ?_); rintro e w' ⟨rfl, xg, rfl⟩) | ((with_reducible refine (o2.at_ _).mono ?_); rintro e w' ⟨rfl, xg, rfl⟩) | ((with_reducible refine (o3.at_ _).mono ?_); rintro e w' ⟨rfl, xg, rfl⟩) | ((with_reducible refine (o4.at_ _).mono ?_); rintro e w' ⟨rfl, xg, rfl⟩)))
  go_ret
  exact ⟨rfl, (by repeat (first | exact Below.refl _ _ | refine bel_grow ?_ _ | refine bel_alloc ?_ _ | refine bel_set ?_ (by simp) _))⟩
set_option maxRecDepth 100000 in
set_option maxHeartbeats 4000000 in
theorem core_right (pn : Int) (pn0 : -9223372036854775808 ≤ pn) (pn1 : pn ≤ 9223372036854775807) (pd : Int) (pd0 : -9223372036854775808 ≤ pd) (pd1 : pd ≤ 9223372036854775807) (qn : Int) (qn0 : -9223372036854775808 ≤ qn) (qn1 : qn ≤ 9223372036854775807) (qd : Int) (qd0 : -9223372036854775808 ≤ qd) (qd1 : qd ≤ 9223372036854775807) (rn : Int) (rn0 : -9223372036854775808 ≤ rn) (rn1 : rn ≤ 9223372036854775807) (rd : Int) (rd0 : -9223372036854775808 ≤ rd) (rd1 : rd ≤ 9223372036854775807) (k : Int) (k0 : -9223372036854775808 ≤ k) (k1 : k ≤ 9223372036854775807) (hp : Right pn pd) (hq : Right qn qd) (hr : Right rn rd) :
    Gives Try.prog 8 #[.agg #[.int .i64 pn, .int .i64 pd], .agg #[.int .i64 qn, .int .i64 qd], .agg #[.int .i64 rn, .int .i64 rd], .int .i64 k] (.bool true) := by
  refine Gives.mk fun w => ?_
  have al := alive_any
  have hb := cmpOf_bd (pn * qd) (qn * pd)
  have sw := cmpOf_swap (pn * qd) (qn * pd)
  have o1 := order_yes pn pd qn qd pn0 pn1 pd0 pd1 qn0 qn1 qd0 qd1 hp hq
  have o2 := order_yes qn qd pn pd qn0 qn1 qd0 qd1 pn0 pn1 pd0 pd1 hq hp
  rw [sw] at o2
  have o3 := order_yes qn qd rn rd qn0 qn1 qd0 qd1 rn0 rn1 rd0 rd1 hq hr
  have o4 := order_yes pn pd rn rd pn0 pn1 pd0 pd1 rn0 rn1 rd0 rd1 hp hr
  have tf := trans_facts pn pd qn qd rn rd hp hq hr
  have hb3 := cmpOf_bd (qn * rd) (rn * qd)
  have hb4 := cmpOf_bd (pn * rd) (rn * pd)
  obtain ⟨a, ha⟩ : ∃ a, cmpOf (pn * qd) (qn * pd) = a := ⟨_, rfl⟩
  obtain ⟨c, hc⟩ : ∃ c, cmpOf (qn * rd) (rn * qd) = c := ⟨_, rfl⟩
  obtain ⟨d, hd⟩ : ∃ d, cmpOf (pn * rd) (rn * pd) = d := ⟨_, rfl⟩
  rw [ha] at hb o1 o2 tf
  rw [hc] at hb3 o3 tf
  rw [hd] at hb4 o4 tf
  have tt : (a ≤ 0 ∧ c ≤ 0 → d ≤ 0) ∧ (0 ≤ a ∧ 0 ≤ c → 0 ≤ d) := ⟨fun h => tf.1 h.1 h.2, fun h => tf.2 h.1 h.2⟩
  have tt := Lib.hid tt
  have ha := Lib.hid ha
  clear tf hb3 hb4 sw hc hd hr
  go_enter Try.func8, Try.ntmps8
  go_upto_region 9 with (first | (go_at_call 11; first | ((with_reducible refine (al.at_ _).mono ?_); rintro e w' ⟨rfl, xg, rfl⟩)) | (go_at_call 28; first | ((with_reducible refine (o1.at_ _).mono ?_); rintro e w' ⟨rfl, xg, rfl⟩) | ((with_reducible refine (o2.at_ _).mono ?_); rintro e w' ⟨rfl, xg, rfl⟩) | ((with_reducible refine (o3.at_ _).mono ?_); rintro e w' ⟨rfl, xg, rfl⟩) | ((with_reducible refine (o4.at_ _).mono ?_); rintro e w' ⟨rfl, xg, rfl⟩)))
  go_cut [84] (fun s wx => s = .bool false ∧ ∃ x, wx = grow (((w.alloc (.cells #[.int .i64 pn, .int .i64 pd] 44)).alloc (.cells #[.int .i64 qn, .int .i64 qd] 44)).alloc (.cells #[.int .i64 rn, .int .i64 rd] 44)) x)
  case first =>
    have tt := tt.out
    rcases Int.lt_trichotomy a 0 with ua | ua | ua <;> rcases Int.lt_trichotomy c 0 with uc | uc | uc
    · have e1 : decide (a ≤ 0) = true := by simp; omega
      have e2 : decide (0 ≤ a) = false := by simp; omega
      have e3 : decide (c ≤ 0) = true := by simp; omega
      have e4 : decide (0 ≤ c) = false := by simp; omega
      have e5 : decide (0 < d) = false := by simp; omega
      clear ua uc tt
      go_wp2_with fail
      go_meet
      exact ⟨rfl, grow_of (by repeat (first | exact Below.refl _ _ | refine bel_grow ?_ _ | refine bel_alloc ?_ _ | refine bel_set ?_ (by simp) _))⟩
    · have e1 : decide (a ≤ 0) = true := by simp; omega
      have e2 : decide (0 ≤ a) = false := by simp; omega
      have e3 : decide (c ≤ 0) = true := by simp; omega
      have e4 : decide (0 ≤ c) = true := by simp; omega
      have e5 : decide (0 < d) = false := by simp; omega
      clear ua uc tt
      go_wp2_with fail
      go_meet
      exact ⟨rfl, grow_of (by repeat (first | exact Below.refl _ _ | refine bel_grow ?_ _ | refine bel_alloc ?_ _ | refine bel_set ?_ (by simp) _))⟩
    · have e1 : decide (a ≤ 0) = true := by simp; omega
      have e2 : decide (0 ≤ a) = false := by simp; omega
      have e3 : decide (c ≤ 0) = false := by simp; omega
      have e4 : decide (0 ≤ c) = true := by simp; omega
      clear ua uc tt
      go_wp2_with fail
      go_meet
      exact ⟨rfl, grow_of (by repeat (first | exact Below.refl _ _ | refine bel_grow ?_ _ | refine bel_alloc ?_ _ | refine bel_set ?_ (by simp) _))⟩
    · have e1 : decide (a ≤ 0) = true := by simp; omega
      have e2 : decide (0 ≤ a) = true := by simp; omega
      have e3 : decide (c ≤ 0) = true := by simp; omega
      have e4 : decide (0 ≤ c) = false := by simp; omega
      have e5 : decide (0 < d) = false := by simp; omega
      clear ua uc tt
      go_wp2_with fail
      go_meet
      exact ⟨rfl, grow_of (by repeat (first | exact Below.refl _ _ | refine bel_grow ?_ _ | refine bel_alloc ?_ _ | refine bel_set ?_ (by simp) _))⟩
    · have e1 : decide (a ≤ 0) = true := by simp; omega
      have e2 : decide (0 ≤ a) = true := by simp; omega
      have e3 : decide (c ≤ 0) = true := by simp; omega
      have e4 : decide (0 ≤ c) = true := by simp; omega
      have e5 : decide (0 < d) = false := by simp; omega
      have e6 : decide (d < 0) = false := by simp; omega
      clear ua uc tt
      go_wp2_with fail
      go_meet
      exact ⟨rfl, grow_of (by repeat (first | exact Below.refl _ _ | refine bel_grow ?_ _ | refine bel_alloc ?_ _ | refine bel_set ?_ (by simp) _))⟩
    · have e1 : decide (a ≤ 0) = true := by simp; omega
      have e2 : decide (0 ≤ a) = true := by simp; omega
      have e3 : decide (c ≤ 0) = false := by simp; omega
      have e4 : decide (0 ≤ c) = true := by simp; omega
      have e6 : decide (d < 0) = false := by simp; omega
      clear ua uc tt
      go_wp2_with fail
      go_meet
      exact ⟨rfl, grow_of (by repeat (first | exact Below.refl _ _ | refine bel_grow ?_ _ | refine bel_alloc ?_ _ | refine bel_set ?_ (by simp) _))⟩
    · have e1 : decide (a ≤ 0) = false := by simp; omega
      have e2 : decide (0 ≤ a) = true := by simp; omega
      have e3 : decide (c ≤ 0) = true := by simp; omega
      have e4 : decide (0 ≤ c) = false := by simp; omega
      clear ua uc tt
      go_wp2_with fail
      go_meet
      exact ⟨rfl, grow_of (by repeat (first | exact Below.refl _ _ | refine bel_grow ?_ _ | refine bel_alloc ?_ _ | refine bel_set ?_ (by simp) _))⟩
    · have e1 : decide (a ≤ 0) = false := by simp; omega
      have e2 : decide (0 ≤ a) = true := by simp; omega
      have e3 : decide (c ≤ 0) = true := by simp; omega
      have e4 : decide (0 ≤ c) = true := by simp; omega
      have e6 : decide (d < 0) = false := by simp; omega
      clear ua uc tt
      go_wp2_with fail
      go_meet
      exact ⟨rfl, grow_of (by repeat (first | exact Below.refl _ _ | refine bel_grow ?_ _ | refine bel_alloc ?_ _ | refine bel_set ?_ (by simp) _))⟩
    · have e1 : decide (a ≤ 0) = false := by simp; omega
      have e2 : decide (0 ≤ a) = true := by simp; omega
      have e3 : decide (c ≤ 0) = false := by simp; omega
      have e4 : decide (0 ≤ c) = true := by simp; omega
      have e6 : decide (d < 0) = false := by simp; omega
      clear ua uc tt
      go_wp2_with fail
      go_meet
      exact ⟨rfl, grow_of (by repeat (first | exact Below.refl _ _ | refine bel_grow ?_ _ | refine bel_alloc ?_ _ | refine bel_set ?_ (by simp) _))⟩
  case rest =>
    obtain ⟨rfl, xg, rfl⟩ := hcut
    have ha := ha.out
    by_cases t1 : k < 1
    · clear k1
      clear hp hq ha
      go_wp2_with fail
      go_ret
      exact ⟨rfl, (by repeat (first | exact Below.refl _ _ | refine bel_grow ?_ _ | refine bel_alloc ?_ _ | refine bel_set ?_ (by simp) _))⟩

    by_cases t2 : 1048576 < k
    · clear k0
      clear hp hq ha
      go_wp2_with fail
      go_ret
      exact ⟨rfl, (by repeat (first | exact Below.refl _ _ | refine bel_grow ?_ _ | refine bel_alloc ?_ _ | refine bel_set ?_ (by simp) _))⟩

    by_cases t3 : pd < 1
    · clear pd1
      clear hp hq ha
      go_wp2_with fail
      go_ret
      exact ⟨rfl, (by repeat (first | exact Below.refl _ _ | refine bel_grow ?_ _ | refine bel_alloc ?_ _ | refine bel_set ?_ (by simp) _))⟩

    by_cases t4 : 1099511627776 < pd
    · clear pd0
      clear hp hq ha
      go_wp2_with fail
      go_ret
      exact ⟨rfl, (by repeat (first | exact Below.refl _ _ | refine bel_grow ?_ _ | refine bel_alloc ?_ _ | refine bel_set ?_ (by simp) _))⟩

    by_cases t5 : 1099511627776 < pn
    · clear pn0
      clear hp hq ha
      go_wp2_with fail
      go_ret
      exact ⟨rfl, (by repeat (first | exact Below.refl _ _ | refine bel_grow ?_ _ | refine bel_alloc ?_ _ | refine bel_set ?_ (by simp) _))⟩

    by_cases t6 : pn < -1099511627776
    · clear pn1
      clear hp hq ha
      go_wp2_with fail
      go_ret
      exact ⟨rfl, (by repeat (first | exact Below.refl _ _ | refine bel_grow ?_ _ | refine bel_alloc ?_ _ | refine bel_set ?_ (by simp) _))⟩

    have s1 : pn * k ≤ 1099511627776 * 1048576 := Int.le_trans (Int.mul_le_mul_of_nonneg_right (by omega : pn ≤ 1099511627776) (by omega)) (Int.mul_le_mul_of_nonneg_left (by omega) (by omega))
    have s2 : -1099511627776 * 1048576 ≤ pn * k := Int.le_trans (Int.mul_le_mul_of_nonpos_left (by omega : (-1099511627776 : Int) ≤ 0) (by omega : k ≤ 1048576)) (Int.mul_le_mul_of_nonneg_right (by omega : -1099511627776 ≤ pn) (by omega))
    have s3 : pd * k ≤ 1099511627776 * 1048576 := Int.le_trans (Int.mul_le_mul_of_nonneg_right (by omega : pd ≤ 1099511627776) (by omega)) (Int.mul_le_mul_of_nonneg_left (by omega) (by omega))
    have s4 : 0 < pd * k := Int.mul_pos (by omega) (by omega)
    have o5 := order_yes (pn * k) (pd * k) qn qd (by omega) (by omega) (by omega) (by omega) qn0 qn1 qd0 qd1 (.inl s4) hq
    rw [Int.mul_right_comm pn k qd, ← Int.mul_assoc qn pd k, cmpOf_scale _ _ k (by omega), ha] at o5
    obtain ⟨m1, g1⟩ : ∃ m1, IntKind.i64.wrap (pn * k) = m1 := ⟨_, rfl⟩
    obtain ⟨m2, g2⟩ : ∃ m2, IntKind.i64.wrap (pd * k) = m2 := ⟨_, rfl⟩
    have g3 : pn * k = m1 := by rw [← g1]; exact (IntWalk.i64_in _ (by omega)).symm
    have g4 : pd * k = m2 := by rw [← g2]; exact (IntWalk.i64_in _ (by omega)).symm
    rw [g3, g4] at o5
    clear s1 s2 s3 s4 g3 g4
    clear hp hq ha
    go_wp2_with (first | (go_at_call 28; first | ((with_reducible refine (o5.at_ _).mono ?_); rintro e w' ⟨rfl, xg, rfl⟩)))
    go_ret
    exact ⟨rfl, (by repeat (first | exact Below.refl _ _ | refine bel_grow ?_ _ | refine bel_alloc ?_ _ | refine bel_set ?_ (by simp) _))⟩
set_option maxRecDepth 100000 in
set_option maxHeartbeats 4000000 in
theorem core_two (pn : Int) (pn0 : -9223372036854775808 ≤ pn) (pn1 : pn ≤ 9223372036854775807) (pd : Int) (pd0 : -9223372036854775808 ≤ pd) (pd1 : pd ≤ 9223372036854775807) (qn : Int) (qn0 : -9223372036854775808 ≤ qn) (qn1 : qn ≤ 9223372036854775807) (qd : Int) (qd0 : -9223372036854775808 ≤ qd) (qd1 : qd ≤ 9223372036854775807) (rn : Int) (rn0 : -9223372036854775808 ≤ rn) (rn1 : rn ≤ 9223372036854775807) (rd : Int) (rd0 : -9223372036854775808 ≤ rd) (rd1 : rd ≤ 9223372036854775807) (k : Int) (k0 : -9223372036854775808 ≤ k) (k1 : k ≤ 9223372036854775807) (hp : Right pn pd) (hq : Right qn qd) (hr : ¬ Right rn rd) :
    Gives Try.prog 8 #[.agg #[.int .i64 pn, .int .i64 pd], .agg #[.int .i64 qn, .int .i64 qd], .agg #[.int .i64 rn, .int .i64 rd], .int .i64 k] (.bool true) := by
  refine Gives.mk fun w => ?_
  have al := alive_any
  have hb := cmpOf_bd (pn * qd) (qn * pd)
  have sw := cmpOf_swap (pn * qd) (qn * pd)
  have o1 := order_yes pn pd qn qd pn0 pn1 pd0 pd1 qn0 qn1 qd0 qd1 hp hq
  have o2 := order_yes qn qd pn pd qn0 qn1 qd0 qd1 pn0 pn1 pd0 pd1 hq hp
  rw [sw] at o2
  have o3 := order_no qn qd rn rd qd0 rd0 (fun t => hr t.2)
  have o4 := order_no pn pd rn rd pd0 rd0 (fun t => hr t.2)
  obtain ⟨a, ha⟩ : ∃ a, cmpOf (pn * qd) (qn * pd) = a := ⟨_, rfl⟩
  rw [ha] at hb o1 o2
  have ha := Lib.hid ha
  clear sw hr
  go_enter Try.func8, Try.ntmps8
  go_upto_region 9 with (first | (go_at_call 11; first | ((with_reducible refine (al.at_ _).mono ?_); rintro e w' ⟨rfl, xg, rfl⟩)) | (go_at_call 28; first | ((with_reducible refine (o1.at_ _).mono ?_); rintro e w' ⟨rfl, xg, rfl⟩) | ((with_reducible refine (o2.at_ _).mono ?_); rintro e w' ⟨rfl, xg, rfl⟩) | ((with_reducible refine (o3.at_ _).mono ?_); rintro e w' ⟨rfl, xg, rfl⟩) | ((with_reducible refine (o4.at_ _).mono ?_); rintro e w' ⟨rfl, xg, rfl⟩)))
  go_cut [84] (fun s wx => s = .bool false ∧ ∃ x, wx = grow (((w.alloc (.cells #[.int .i64 pn, .int .i64 pd] 44)).alloc (.cells #[.int .i64 qn, .int .i64 qd] 44)).alloc (.cells #[.int .i64 rn, .int .i64 rd] 44)) x)
  case first =>
    go_wp2_with fail
    go_meet
    exact ⟨rfl, grow_of (by repeat (first | exact Below.refl _ _ | refine bel_grow ?_ _ | refine bel_alloc ?_ _ | refine bel_set ?_ (by simp) _))⟩
  case rest =>
    obtain ⟨rfl, xg, rfl⟩ := hcut
    have ha := ha.out
    by_cases t1 : k < 1
    · clear k1
      clear hp hq ha
      go_wp2_with fail
      go_ret
      exact ⟨rfl, (by repeat (first | exact Below.refl _ _ | refine bel_grow ?_ _ | refine bel_alloc ?_ _ | refine bel_set ?_ (by simp) _))⟩

    by_cases t2 : 1048576 < k
    · clear k0
      clear hp hq ha
      go_wp2_with fail
      go_ret
      exact ⟨rfl, (by repeat (first | exact Below.refl _ _ | refine bel_grow ?_ _ | refine bel_alloc ?_ _ | refine bel_set ?_ (by simp) _))⟩

    by_cases t3 : pd < 1
    · clear pd1
      clear hp hq ha
      go_wp2_with fail
      go_ret
      exact ⟨rfl, (by repeat (first | exact Below.refl _ _ | refine bel_grow ?_ _ | refine bel_alloc ?_ _ | refine bel_set ?_ (by simp) _))⟩

    by_cases t4 : 1099511627776 < pd
    · clear pd0
      clear hp hq ha
      go_wp2_with fail
      go_ret
      exact ⟨rfl, (by repeat (first | exact Below.refl _ _ | refine bel_grow ?_ _ | refine bel_alloc ?_ _ | refine bel_set ?_ (by simp) _))⟩

    by_cases t5 : 1099511627776 < pn
    · clear pn0
      clear hp hq ha
      go_wp2_with fail
      go_ret
      exact ⟨rfl, (by repeat (first | exact Below.refl _ _ | refine bel_grow ?_ _ | refine bel_alloc ?_ _ | refine bel_set ?_ (by simp) _))⟩

    by_cases t6 : pn < -1099511627776
    · clear pn1
      clear hp hq ha
      go_wp2_with fail
      go_ret
      exact ⟨rfl, (by repeat (first | exact Below.refl _ _ | refine bel_grow ?_ _ | refine bel_alloc ?_ _ | refine bel_set ?_ (by simp) _))⟩

    have s1 : pn * k ≤ 1099511627776 * 1048576 := Int.le_trans (Int.mul_le_mul_of_nonneg_right (by omega : pn ≤ 1099511627776) (by omega)) (Int.mul_le_mul_of_nonneg_left (by omega) (by omega))
    have s2 : -1099511627776 * 1048576 ≤ pn * k := Int.le_trans (Int.mul_le_mul_of_nonpos_left (by omega : (-1099511627776 : Int) ≤ 0) (by omega : k ≤ 1048576)) (Int.mul_le_mul_of_nonneg_right (by omega : -1099511627776 ≤ pn) (by omega))
    have s3 : pd * k ≤ 1099511627776 * 1048576 := Int.le_trans (Int.mul_le_mul_of_nonneg_right (by omega : pd ≤ 1099511627776) (by omega)) (Int.mul_le_mul_of_nonneg_left (by omega) (by omega))
    have s4 : 0 < pd * k := Int.mul_pos (by omega) (by omega)
    have o5 := order_yes (pn * k) (pd * k) qn qd (by omega) (by omega) (by omega) (by omega) qn0 qn1 qd0 qd1 (.inl s4) hq
    rw [Int.mul_right_comm pn k qd, ← Int.mul_assoc qn pd k, cmpOf_scale _ _ k (by omega), ha] at o5
    obtain ⟨m1, g1⟩ : ∃ m1, IntKind.i64.wrap (pn * k) = m1 := ⟨_, rfl⟩
    obtain ⟨m2, g2⟩ : ∃ m2, IntKind.i64.wrap (pd * k) = m2 := ⟨_, rfl⟩
    have g3 : pn * k = m1 := by rw [← g1]; exact (IntWalk.i64_in _ (by omega)).symm
    have g4 : pd * k = m2 := by rw [← g2]; exact (IntWalk.i64_in _ (by omega)).symm
    rw [g3, g4] at o5
    clear s1 s2 s3 s4 g3 g4
    clear hp hq ha
    go_wp2_with (first | (go_at_call 28; first | ((with_reducible refine (o5.at_ _).mono ?_); rintro e w' ⟨rfl, xg, rfl⟩)))
    go_ret
    exact ⟨rfl, (by repeat (first | exact Below.refl _ _ | refine bel_grow ?_ _ | refine bel_alloc ?_ _ | refine bel_set ?_ (by simp) _))⟩
theorem walk (pn : Int) (pd : Int) (hp : (-9223372036854775808 ≤ pn ∧ pn ≤ 9223372036854775807) ∧ (-9223372036854775808 ≤ pd ∧ pd ≤ 9223372036854775807)) (qn : Int) (qd : Int) (hq : (-9223372036854775808 ≤ qn ∧ qn ≤ 9223372036854775807) ∧ (-9223372036854775808 ≤ qd ∧ qd ≤ 9223372036854775807)) (rn : Int) (rd : Int) (hr : (-9223372036854775808 ≤ rn ∧ rn ≤ 9223372036854775807) ∧ (-9223372036854775808 ≤ rd ∧ rd ≤ 9223372036854775807)) (k : Int) (k0 : -9223372036854775808 ≤ k) (k1 : k ≤ 9223372036854775807) :
    Gives Try.prog 8 #[.agg #[.int .i64 pn, .int .i64 pd], .agg #[.int .i64 qn, .int .i64 qd], .agg #[.int .i64 rn, .int .i64 rd], .int .i64 k] (.bool true) := by
  by_cases h1 : Right pn pd
  · by_cases h2 : Right qn qd
    · by_cases h3 : Right rn rd
      · exact core_right pn hp.1.1 hp.1.2 pd hp.2.1 hp.2.2 qn hq.1.1 hq.1.2 qd hq.2.1 hq.2.2 rn hr.1.1 hr.1.2 rd hr.2.1 hr.2.2 k k0 k1 h1 h2 h3
      · exact core_two pn hp.1.1 hp.1.2 pd hp.2.1 hp.2.2 qn hq.1.1 hq.1.2 qd hq.2.1 hq.2.2 rn hr.1.1 hr.1.2 rd hr.2.1 hr.2.2 k k0 k1 h1 h2 h3
    · exact core_no pn hp.1.1 hp.1.2 pd hp.2.1 hp.2.2 qn hq.1.1 hq.1.2 qd hq.2.1 hq.2.2 rn hr.1.1 hr.1.2 rd hr.2.1 hr.2.2 k k0 k1 (fun t => h2 t.2)
  · exact core_no pn hp.1.1 hp.1.2 pd hp.2.1 hp.2.2 qn hq.1.1 hq.1.2 qd hq.2.1 hq.2.2 rn hr.1.1 hr.1.2 rd hr.2.1 hr.2.2 k k0 k1 (fun t => h1 t.1)

theorem own : ownKnob Try.prog.godebug = none := by kernel_rfl
set_option maxRecDepth 100000 in
theorem lifted (os : Os) (started : os.Started) (H : Type) (enc : TypeId × Value → H) :
    ReturnsInHanded {} Try.checked os 8 .any (Rows.wideOrderSpec.pre6 enc Try.prog Try.f8 Rows.wideOrderRow.domain false) (Rows.wideOrderSpec.post enc Try.prog Try.f8 false true false false) := by
  refine returnsInHanded_of_change (C := Try.checked) own started (by kernel_rfl) Try.func8
    (ChangeSpec.witness6 (enc := enc) (C := Try.checked) false ⟨#[], #[.agg #[.int .i64 0, .int .i64 0], .agg #[.int .i64 0, .int .i64 0], .agg #[.int .i64 0, .int .i64 0], .int .i64 0], []⟩ 8 (by kernel_rfl) (by kernel_rfl) (by kernel_rfl) (by kernel_rfl)) ?_
  intro W base args ds gs before hval0 hW hcnd _
  have hval : ∀ (j : Nat) t v, Try.f8.params[j]? = some t → args[j]? = some v → Value.okWide Try.prog W .any base t v := hval0
  have hW' := hW
  obtain ⟨p, q, hA0, hV, rfl, hfz, hnd⟩ := hW
  have hA : DataW.TrodAll enc Try.prog W 0 (fun _ => true) true Try.f8.params.toList args.toList ds p := hA0
  rw [Try.params8] at hA hval
  obtain ⟨v0, vs0, d0, ds0, p0, q0, hargs, rfl, rfl, h0, r0⟩ := trodAll_cons hA
  obtain ⟨v1, vs1, d1, ds1, p1, q1, rfl, rfl, rfl, h1, r1⟩ := trodAll_cons r0
  obtain ⟨v2, vs2, d2, ds2, p2, q2, rfl, rfl, rfl, h2, r2⟩ := trodAll_cons r1
  obtain ⟨v3, vs3, d3, ds3, p3, q3, rfl, rfl, rfl, h3, r3⟩ := trodAll_cons r2
  obtain ⟨rfl, rfl, rfl⟩ := trodAll_nil r3
  obtain rfl : args = #[v0, v1, v2, v3] := by cases args; simp_all
  obtain ⟨a0, c0, rfl, b0⟩ := open_Frac (hval 0 44 v0 rfl rfl) h0
  obtain ⟨a1, c1, rfl, b1⟩ := open_Frac (hval 1 44 v1 rfl rfl) h1
  obtain ⟨a2, c2, rfl, b2⟩ := open_Frac (hval 2 44 v2 rfl rfl) h2
  obtain ⟨a3, rfl, b3⟩ := open_Int (hval 3 3 v3 rfl rfl) h3
  refine ((walk a0 c0 b0 a1 c1 b1 a2 c2 b2 a3 b3.1 b3.2).bel W).mono fun e W' ⟨he, hb⟩ => ?_
  subst he
  exact ⟨_, rfl, law_post (tb := 4) (by kernel_rfl) (by kernel_rfl) rfl rfl Try.underlying4 rfl rfl rfl hW' hb⟩

theorem over : Rows.wideOrderRow.holds Try.pinned (OpenSpec.ofChange Rows.wideOrderSpec) :=
  OpenClaim.holds_of_wide 8 Try.f8 rfl rfl rfl rfl rfl rfl rfl ⟨rfl, rfl, rfl, rfl, rfl⟩ rfl rfl rfl rfl rfl (by kernel_rfl) Try.func8 (by kernel_rfl)
    (of_decide_eq_true (by kernel_rfl)) (by unfold Func.isWrapper; first | (rw [if_pos (by decide +kernel)]; kernel_rfl) | (rw [if_neg (by decide +kernel)]; exact ⟨rfl, rfl⟩))
    (fun os started H enc _ => lifted os started H enc)

theorem proved : Rows.WideOrderSaid :=
  over
#print axioms proved
end Go.Proofs.Ytjhkbdbhikkchaa.wideOrder
