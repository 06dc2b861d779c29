/- Contracts of Meet. -/
import Derived.Test.YtgfgaaecpdbgeaaSide3
import Derived.Test.YtgfgaaecpdbgeaaVec8
namespace Go.Proofs.Ytgfgaaecpdbgeaa
open Go.RowKit
set_option linter.unusedVariables false
set_option linter.unusedSimpArgs false
/-! what Meet answers, out of the three numbers -/
def mK (st sd : Int) : Bool := decide (st ≠ 0 ∧ sd ≠ 0)
def mN (fa st sd : Int) : Int := if st ≠ 0 ∧ sd ≠ 0 then (if st < 0 then -fa else fa) else 0
def mD (st sd : Int) : Int := if st ≠ 0 ∧ sd ≠ 0 then (if st < 0 then -st else st) else 0
def mF (st sd : Int) : Bool := decide (st ≠ 0 ∧ sd ≠ 0 ∧ sd < 0)
theorem m_none {fa st sd : Int} (h : st = 0 ∨ sd = 0) : mN fa st sd = 0 ∧ mD st sd = 0 ∧ mF st sd = false ∧ mK st sd = false := by
  unfold mN mD mF mK
  rw [if_neg (by omega), if_neg (by omega)]
  exact ⟨rfl, rfl, by simp; omega, by simp; omega⟩
theorem m_low {fa st sd : Int} (h : st < 0) (h1 : sd ≠ 0) : mN fa st sd = -fa ∧ mD st sd = -st ∧ mF st sd = decide (sd < 0) ∧ mK st sd = true := by
  unfold mN mD mF mK
  rw [if_pos (by omega), if_pos (by omega), if_pos (by omega), if_pos (by omega)]
  exact ⟨rfl, rfl, decide_eq_decide.2 (by omega), by simp; omega⟩
theorem m_high {fa st sd : Int} (h : 0 < st) (h1 : sd ≠ 0) : mN fa st sd = fa ∧ mD st sd = st ∧ mF st sd = decide (sd < 0) ∧ mK st sd = true := by
  unfold mN mD mF mK
  rw [if_pos (by omega), if_neg (by omega), if_pos (by omega), if_neg (by omega)]
  exact ⟨rfl, rfl, decide_eq_decide.2 (by omega), by simp; omega⟩
def far (o a b c : P3) : Int := dt (nrm a b c) (sb a o)
def stp (d a b c : P3) : Int := dt (nrm a b c) d
/-- The numbers of a hit; noughts, where the line or a point is out of the bounds. -/
def hN (o d a b c : P3) : Int := if bdB o d a b c then mN (far o a b c) (stp d a b c) (allS o d a b c) else 0
def hD (o d a b c : P3) : Int := if bdB o d a b c then mD (stp d a b c) (allS o d a b c) else 0
def hF (o d a b c : P3) : Bool := bdB o d a b c && mF (stp d a b c) (allS o d a b c)
def hK (o d a b c : P3) : Bool := bdB o d a b c && mK (stp d a b c) (allS o d a b c)
def hE (o d a b c : P3) : Int := if bdB o d a b c then 0 else 21
theorem h_out {o d a b c : P3} (h : bdB o d a b c = false) : hN o d a b c = 0 ∧ hD o d a b c = 0 ∧ hF o d a b c = false ∧ hK o d a b c = false ∧ hE o d a b c = 21 := by
  unfold hN hD hF hK hE; rw [h]; exact ⟨rfl, rfl, rfl, rfl, rfl⟩
theorem h_in {o d a b c : P3} (h : bdB o d a b c = true) : hN o d a b c = mN (far o a b c) (stp d a b c) (allS o d a b c) ∧ hD o d a b c = mD (stp d a b c) (allS o d a b c) ∧ hF o d a b c = mF (stp d a b c) (allS o d a b c) ∧ hK o d a b c = mK (stp d a b c) (allS o d a b c) ∧ hE o d a b c = 0 := by
  unfold hN hD hF hK hE; rw [h]; exact ⟨rfl, rfl, rfl, rfl, rfl⟩
theorem bounded3 (W : World) (N : Nat) (hN : N = W.heap.size) (t : TypeId) (o d a b c : P3) (v : Bool) (hv : bdB o d a b c = v) (x : More) :
    Calls Try.prog 52 #[.agg #[.int .i64 o.x, .int .i64 o.y, .int .i64 o.z], .agg #[.int .i64 d.x, .int .i64 d.y, .int .i64 d.z], .slice (some ⟨N, 0, none⟩) 3 3] (grow (W.alloc (.cells #[.int .i64 a.x, .int .i64 a.y, .int .i64 a.z, .int .i64 b.x, .int .i64 b.y, .int .i64 b.z, .int .i64 c.x, .int .i64 c.y, .int .i64 c.z] t)) x) fun e w' => e = .returned (.bool v) ∧ ∃ z, w' = grow (grow (W.alloc (.cells #[.int .i64 a.x, .int .i64 a.y, .int .i64 a.z, .int .i64 b.x, .int .i64 b.y, .int .i64 b.z, .int .i64 c.x, .int .i64 c.y, .int .i64 c.z] t)) x) z := by
  have k := bounded_any (grow (W.alloc (.cells #[.int .i64 a.x, .int .i64 a.y, .int .i64 a.z, .int .i64 b.x, .int .i64 b.y, .int .i64 b.z, .int .i64 c.x, .int .i64 c.y, .int .i64 c.z] t)) x) o d _ 3 3 (row3 a b c) ((VF3 W N hN t a b c).below (x.kept _)) (by omega) (by omega)
  rw [ins3] at k
  have e : (lnB o d && (inB3 a && inB3 b && inB3 c)) = v := hv
  rw [e] at k
  exact k
set_option maxRecDepth 100000 in
set_option maxHeartbeats 2000000 in
theorem vMeet_out (o d a b c : P3) (hb : bdB o d a b c = false) : Gives Try.prog 25 #[.agg #[.int .i64 o.x, .int .i64 o.y, .int .i64 o.z], .agg #[.int .i64 d.x, .int .i64 d.y, .int .i64 d.z], .agg #[.int .i64 a.x, .int .i64 a.y, .int .i64 a.z, .int .i64 b.x, .int .i64 b.y, .int .i64 b.z, .int .i64 c.x, .int .i64 c.y, .int .i64 c.z]] (.tuple #[.agg #[.int .i64 (0), .int .i64 (0), .bool (false), .int .i64 0, .int .i64 0], .bool (false), .int .i64 (21)]) := by
  refine Gives.mk fun w => ?_
  go_enter Try.func25, Try.ntmps25
  go_wp2_with fail
  refine wp_region_grow (by kernel_rfl) (by kernel_rfl) ?_
  repeat (go_big_quiet_step (((first | exact q1 (bounded3 _ _ (by simp only [World.size_alloc]) _ o d a b c _ hb _) | exact q2 (bounded3 _ _ (by simp only [World.size_alloc]) _ o d a b c _ hb _)))))
  refine wpQuiet_nil ?_
  rintro _ ⟨xg, rfl⟩
  go_wp2_with fail
  refine bodyPost_ret (v := .tuple #[.agg #[.int .i64 (0), .int .i64 (0), .bool (false), .int .i64 0, .int .i64 0], .bool (false), .int .i64 (21)]) (by simp [results, Try.results25, go_sem]) rfl ⟨rfl, (by repeat (first | exact Below.refl _ _ | refine bel_then ?_ _ | refine bel_grow ?_ _ | refine bel_alloc ?_ _ | refine bel_drew ?_ | refine bel_set ?_ (by simp) _ | refine bel_setRow ?_ (by first | omega | simp; done | exact Nat.le_trans (by simp) (top_le _ _)) _))⟩
set_option maxRecDepth 100000 in
set_option maxHeartbeats 2000000 in
theorem vMeet_flat (o d a b c : P3) (fa st sd : Int) (f0 : -13510798882111488 ≤ fa) (f1 : fa ≤ 13510798882111488) (t0 : -13510798882111488 ≤ st) (t1 : st ≤ 13510798882111488) (hb : bdB o d a b c = true)
    (nm : Gives Try.prog 29 #[.agg #[.int .i64 a.x, .int .i64 a.y, .int .i64 a.z, .int .i64 b.x, .int .i64 b.y, .int .i64 b.z, .int .i64 c.x, .int .i64 c.y, .int .i64 c.z]] (.agg #[.int .i64 (nrm a b c).x, .int .i64 (nrm a b c).y, .int .i64 (nrm a b c).z])) (s1 : Gives Try.prog 56 #[.agg #[.int .i64 a.x, .int .i64 a.y, .int .i64 a.z], .agg #[.int .i64 o.x, .int .i64 o.y, .int .i64 o.z]] (.agg #[.int .i64 (sb a o).x, .int .i64 (sb a o).y, .int .i64 (sb a o).z]))
    (d1 : Gives Try.prog 55 #[.agg #[.int .i64 (nrm a b c).x, .int .i64 (nrm a b c).y, .int .i64 (nrm a b c).z], .agg #[.int .i64 (sb a o).x, .int .i64 (sb a o).y, .int .i64 (sb a o).z]] (.int .i64 fa)) (d2 : Gives Try.prog 55 #[.agg #[.int .i64 (nrm a b c).x, .int .i64 (nrm a b c).y, .int .i64 (nrm a b c).z], .agg #[.int .i64 d.x, .int .i64 d.y, .int .i64 d.z]] (.int .i64 st))
    (pa : Gives Try.prog 57 #[.agg #[.int .i64 o.x, .int .i64 o.y, .int .i64 o.z], .agg #[.int .i64 d.x, .int .i64 d.y, .int .i64 d.z], .agg #[.int .i64 a.x, .int .i64 a.y, .int .i64 a.z, .int .i64 b.x, .int .i64 b.y, .int .i64 b.z, .int .i64 c.x, .int .i64 c.y, .int .i64 c.z]] (.int .i64 sd)) (h : st = 0) : Gives Try.prog 25 #[.agg #[.int .i64 o.x, .int .i64 o.y, .int .i64 o.z], .agg #[.int .i64 d.x, .int .i64 d.y, .int .i64 d.z], .agg #[.int .i64 a.x, .int .i64 a.y, .int .i64 a.z, .int .i64 b.x, .int .i64 b.y, .int .i64 b.z, .int .i64 c.x, .int .i64 c.y, .int .i64 c.z]] (.tuple #[.agg #[.int .i64 (0), .int .i64 (0), .bool (false), .int .i64 0, .int .i64 0], .bool (false), .int .i64 (0)]) := by
  refine Gives.mk fun w => ?_
  subst h
  go_enter Try.func25, Try.ntmps25
  go_wp2_with fail
  refine wp_region_grow (by kernel_rfl) (by kernel_rfl) ?_
  repeat (go_big_quiet_step (((first | exact q1 (bounded3 _ _ (by simp only [World.size_alloc]) _ o d a b c _ hb _) | exact q2 (bounded3 _ _ (by simp only [World.size_alloc]) _ o d a b c _ hb _)))))
  refine wpQuiet_nil ?_
  rintro _ ⟨xg, rfl⟩
  go_wp2_with (first | (go_at_call 29; first | ((with_reducible refine (nm.at_ _).mono ?_); rintro e w' ⟨rfl, xg, rfl⟩)))
  refine wp_region_grow (by kernel_rfl) (by kernel_rfl) ?_
  repeat (go_big_quiet_step (((first | with_reducible exact s1.quiet _ | with_reducible exact s1.quiet2 _ _ | with_reducible exact d1.quiet _ | with_reducible exact d1.quiet2 _ _ | with_reducible exact d2.quiet _ | with_reducible exact d2.quiet2 _ _))))
  refine wpQuiet_nil ?_
  rintro _ ⟨xg, rfl⟩
  go_wp2_with (first | (go_at_call 57; first | ((with_reducible refine (pa.at_ _).mono ?_); rintro e w' ⟨rfl, xg, rfl⟩)))
  refine bodyPost_ret (v := .tuple #[.agg #[.int .i64 (0), .int .i64 (0), .bool (false), .int .i64 0, .int .i64 0], .bool (false), .int .i64 (0)]) (by simp [results, Try.results25, go_sem]) rfl ⟨rfl, (by repeat (first | exact Below.refl _ _ | refine bel_then ?_ _ | refine bel_grow ?_ _ | refine bel_alloc ?_ _ | refine bel_drew ?_ | refine bel_set ?_ (by simp) _ | refine bel_setRow ?_ (by first | omega | simp; done | exact Nat.le_trans (by simp) (top_le _ _)) _))⟩
set_option maxRecDepth 100000 in
set_option maxHeartbeats 2000000 in
theorem vMeet_by (o d a b c : P3) (fa st sd : Int) (f0 : -13510798882111488 ≤ fa) (f1 : fa ≤ 13510798882111488) (t0 : -13510798882111488 ≤ st) (t1 : st ≤ 13510798882111488) (hb : bdB o d a b c = true)
    (nm : Gives Try.prog 29 #[.agg #[.int .i64 a.x, .int .i64 a.y, .int .i64 a.z, .int .i64 b.x, .int .i64 b.y, .int .i64 b.z, .int .i64 c.x, .int .i64 c.y, .int .i64 c.z]] (.agg #[.int .i64 (nrm a b c).x, .int .i64 (nrm a b c).y, .int .i64 (nrm a b c).z])) (s1 : Gives Try.prog 56 #[.agg #[.int .i64 a.x, .int .i64 a.y, .int .i64 a.z], .agg #[.int .i64 o.x, .int .i64 o.y, .int .i64 o.z]] (.agg #[.int .i64 (sb a o).x, .int .i64 (sb a o).y, .int .i64 (sb a o).z]))
    (d1 : Gives Try.prog 55 #[.agg #[.int .i64 (nrm a b c).x, .int .i64 (nrm a b c).y, .int .i64 (nrm a b c).z], .agg #[.int .i64 (sb a o).x, .int .i64 (sb a o).y, .int .i64 (sb a o).z]] (.int .i64 fa)) (d2 : Gives Try.prog 55 #[.agg #[.int .i64 (nrm a b c).x, .int .i64 (nrm a b c).y, .int .i64 (nrm a b c).z], .agg #[.int .i64 d.x, .int .i64 d.y, .int .i64 d.z]] (.int .i64 st))
    (pa : Gives Try.prog 57 #[.agg #[.int .i64 o.x, .int .i64 o.y, .int .i64 o.z], .agg #[.int .i64 d.x, .int .i64 d.y, .int .i64 d.z], .agg #[.int .i64 a.x, .int .i64 a.y, .int .i64 a.z, .int .i64 b.x, .int .i64 b.y, .int .i64 b.z, .int .i64 c.x, .int .i64 c.y, .int .i64 c.z]] (.int .i64 sd)) (h : st ≠ 0) (h1 : sd = 0) : Gives Try.prog 25 #[.agg #[.int .i64 o.x, .int .i64 o.y, .int .i64 o.z], .agg #[.int .i64 d.x, .int .i64 d.y, .int .i64 d.z], .agg #[.int .i64 a.x, .int .i64 a.y, .int .i64 a.z, .int .i64 b.x, .int .i64 b.y, .int .i64 b.z, .int .i64 c.x, .int .i64 c.y, .int .i64 c.z]] (.tuple #[.agg #[.int .i64 (0), .int .i64 (0), .bool (false), .int .i64 0, .int .i64 0], .bool (false), .int .i64 (0)]) := by
  refine Gives.mk fun w => ?_
  subst h1
  have g1 : (st == 0) = false := by simpa using h
  clear h
  go_enter Try.func25, Try.ntmps25
  go_wp2_with fail
  refine wp_region_grow (by kernel_rfl) (by kernel_rfl) ?_
  repeat (go_big_quiet_step (((first | exact q1 (bounded3 _ _ (by simp only [World.size_alloc]) _ o d a b c _ hb _) | exact q2 (bounded3 _ _ (by simp only [World.size_alloc]) _ o d a b c _ hb _)))))
  refine wpQuiet_nil ?_
  rintro _ ⟨xg, rfl⟩
  go_wp2_with (first | (go_at_call 29; first | ((with_reducible refine (nm.at_ _).mono ?_); rintro e w' ⟨rfl, xg, rfl⟩)))
  refine wp_region_grow (by kernel_rfl) (by kernel_rfl) ?_
  repeat (go_big_quiet_step (((first | with_reducible exact s1.quiet _ | with_reducible exact s1.quiet2 _ _ | with_reducible exact d1.quiet _ | with_reducible exact d1.quiet2 _ _ | with_reducible exact d2.quiet _ | with_reducible exact d2.quiet2 _ _))))
  refine wpQuiet_nil ?_
  rintro _ ⟨xg, rfl⟩
  go_wp2_with (first | (go_at_call 57; first | ((with_reducible refine (pa.at_ _).mono ?_); rintro e w' ⟨rfl, xg, rfl⟩)))
  refine bodyPost_ret (v := .tuple #[.agg #[.int .i64 (0), .int .i64 (0), .bool (false), .int .i64 0, .int .i64 0], .bool (false), .int .i64 (0)]) (by simp [results, Try.results25, go_sem]) rfl ⟨rfl, (by repeat (first | exact Below.refl _ _ | refine bel_then ?_ _ | refine bel_grow ?_ _ | refine bel_alloc ?_ _ | refine bel_drew ?_ | refine bel_set ?_ (by simp) _ | refine bel_setRow ?_ (by first | omega | simp; done | exact Nat.le_trans (by simp) (top_le _ _)) _))⟩
set_option maxRecDepth 100000 in
set_option maxHeartbeats 2000000 in
theorem vMeet_low (o d a b c : P3) (fa st sd : Int) (f0 : -13510798882111488 ≤ fa) (f1 : fa ≤ 13510798882111488) (t0 : -13510798882111488 ≤ st) (t1 : st ≤ 13510798882111488) (hb : bdB o d a b c = true)
    (nm : Gives Try.prog 29 #[.agg #[.int .i64 a.x, .int .i64 a.y, .int .i64 a.z, .int .i64 b.x, .int .i64 b.y, .int .i64 b.z, .int .i64 c.x, .int .i64 c.y, .int .i64 c.z]] (.agg #[.int .i64 (nrm a b c).x, .int .i64 (nrm a b c).y, .int .i64 (nrm a b c).z])) (s1 : Gives Try.prog 56 #[.agg #[.int .i64 a.x, .int .i64 a.y, .int .i64 a.z], .agg #[.int .i64 o.x, .int .i64 o.y, .int .i64 o.z]] (.agg #[.int .i64 (sb a o).x, .int .i64 (sb a o).y, .int .i64 (sb a o).z]))
    (d1 : Gives Try.prog 55 #[.agg #[.int .i64 (nrm a b c).x, .int .i64 (nrm a b c).y, .int .i64 (nrm a b c).z], .agg #[.int .i64 (sb a o).x, .int .i64 (sb a o).y, .int .i64 (sb a o).z]] (.int .i64 fa)) (d2 : Gives Try.prog 55 #[.agg #[.int .i64 (nrm a b c).x, .int .i64 (nrm a b c).y, .int .i64 (nrm a b c).z], .agg #[.int .i64 d.x, .int .i64 d.y, .int .i64 d.z]] (.int .i64 st))
    (pa : Gives Try.prog 57 #[.agg #[.int .i64 o.x, .int .i64 o.y, .int .i64 o.z], .agg #[.int .i64 d.x, .int .i64 d.y, .int .i64 d.z], .agg #[.int .i64 a.x, .int .i64 a.y, .int .i64 a.z, .int .i64 b.x, .int .i64 b.y, .int .i64 b.z, .int .i64 c.x, .int .i64 c.y, .int .i64 c.z]] (.int .i64 sd)) (h : st < 0) (h1 : sd ≠ 0) : Gives Try.prog 25 #[.agg #[.int .i64 o.x, .int .i64 o.y, .int .i64 o.z], .agg #[.int .i64 d.x, .int .i64 d.y, .int .i64 d.z], .agg #[.int .i64 a.x, .int .i64 a.y, .int .i64 a.z, .int .i64 b.x, .int .i64 b.y, .int .i64 b.z, .int .i64 c.x, .int .i64 c.y, .int .i64 c.z]] (.tuple #[.agg #[.int .i64 (-fa), .int .i64 (-st), .bool (decide (sd < 0)), .int .i64 0, .int .i64 0], .bool (true), .int .i64 (0)]) := by
  refine Gives.mk fun w => ?_
  have g1 : (st == 0) = false := by simp; omega
  have g2 : (sd == 0) = false := by simpa using h1
  have g3 : decide (st < 0) = true := by simpa using h
  clear h1
  go_enter Try.func25, Try.ntmps25
  go_wp2_with fail
  refine wp_region_grow (by kernel_rfl) (by kernel_rfl) ?_
  repeat (go_big_quiet_step (((first | exact q1 (bounded3 _ _ (by simp only [World.size_alloc]) _ o d a b c _ hb _) | exact q2 (bounded3 _ _ (by simp only [World.size_alloc]) _ o d a b c _ hb _)))))
  refine wpQuiet_nil ?_
  rintro _ ⟨xg, rfl⟩
  go_wp2_with (first | (go_at_call 29; first | ((with_reducible refine (nm.at_ _).mono ?_); rintro e w' ⟨rfl, xg, rfl⟩)))
  refine wp_region_grow (by kernel_rfl) (by kernel_rfl) ?_
  repeat (go_big_quiet_step (((first | with_reducible exact s1.quiet _ | with_reducible exact s1.quiet2 _ _ | with_reducible exact d1.quiet _ | with_reducible exact d1.quiet2 _ _ | with_reducible exact d2.quiet _ | with_reducible exact d2.quiet2 _ _))))
  refine wpQuiet_nil ?_
  rintro _ ⟨xg, rfl⟩
  go_wp2_with (first | (go_at_call 57; first | ((with_reducible refine (pa.at_ _).mono ?_); rintro e w' ⟨rfl, xg, rfl⟩)))
  refine bodyPost_ret (v := .tuple #[.agg #[.int .i64 (-fa), .int .i64 (-st), .bool (decide (sd < 0)), .int .i64 0, .int .i64 0], .bool (true), .int .i64 (0)]) (by simp [results, Try.results25, go_sem]) rfl ⟨rfl, (by repeat (first | exact Below.refl _ _ | refine bel_then ?_ _ | refine bel_grow ?_ _ | refine bel_alloc ?_ _ | refine bel_drew ?_ | refine bel_set ?_ (by simp) _ | refine bel_setRow ?_ (by first | omega | simp; done | exact Nat.le_trans (by simp) (top_le _ _)) _))⟩
set_option maxRecDepth 100000 in
set_option maxHeartbeats 2000000 in
theorem vMeet_high (o d a b c : P3) (fa st sd : Int) (f0 : -13510798882111488 ≤ fa) (f1 : fa ≤ 13510798882111488) (t0 : -13510798882111488 ≤ st) (t1 : st ≤ 13510798882111488) (hb : bdB o d a b c = true)
    (nm : Gives Try.prog 29 #[.agg #[.int .i64 a.x, .int .i64 a.y, .int .i64 a.z, .int .i64 b.x, .int .i64 b.y, .int .i64 b.z, .int .i64 c.x, .int .i64 c.y, .int .i64 c.z]] (.agg #[.int .i64 (nrm a b c).x, .int .i64 (nrm a b c).y, .int .i64 (nrm a b c).z])) (s1 : Gives Try.prog 56 #[.agg #[.int .i64 a.x, .int .i64 a.y, .int .i64 a.z], .agg #[.int .i64 o.x, .int .i64 o.y, .int .i64 o.z]] (.agg #[.int .i64 (sb a o).x, .int .i64 (sb a o).y, .int .i64 (sb a o).z]))
    (d1 : Gives Try.prog 55 #[.agg #[.int .i64 (nrm a b c).x, .int .i64 (nrm a b c).y, .int .i64 (nrm a b c).z], .agg #[.int .i64 (sb a o).x, .int .i64 (sb a o).y, .int .i64 (sb a o).z]] (.int .i64 fa)) (d2 : Gives Try.prog 55 #[.agg #[.int .i64 (nrm a b c).x, .int .i64 (nrm a b c).y, .int .i64 (nrm a b c).z], .agg #[.int .i64 d.x, .int .i64 d.y, .int .i64 d.z]] (.int .i64 st))
    (pa : Gives Try.prog 57 #[.agg #[.int .i64 o.x, .int .i64 o.y, .int .i64 o.z], .agg #[.int .i64 d.x, .int .i64 d.y, .int .i64 d.z], .agg #[.int .i64 a.x, .int .i64 a.y, .int .i64 a.z, .int .i64 b.x, .int .i64 b.y, .int .i64 b.z, .int .i64 c.x, .int .i64 c.y, .int .i64 c.z]] (.int .i64 sd)) (h : 0 < st) (h1 : sd ≠ 0) : Gives Try.prog 25 #[.agg #[.int .i64 o.x, .int .i64 o.y, .int .i64 o.z], .agg #[.int .i64 d.x, .int .i64 d.y, .int .i64 d.z], .agg #[.int .i64 a.x, .int .i64 a.y, .int .i64 a.z, .int .i64 b.x, .int .i64 b.y, .int .i64 b.z, .int .i64 c.x, .int .i64 c.y, .int .i64 c.z]] (.tuple #[.agg #[.int .i64 (fa), .int .i64 (st), .bool (decide (sd < 0)), .int .i64 0, .int .i64 0], .bool (true), .int .i64 (0)]) := by
  refine Gives.mk fun w => ?_
  have g1 : (st == 0) = false := by simp; omega
  have g2 : (sd == 0) = false := by simpa using h1
  have g3 : decide (st < 0) = false := by simp; omega
  clear h1
  go_enter Try.func25, Try.ntmps25
  go_wp2_with fail
  refine wp_region_grow (by kernel_rfl) (by kernel_rfl) ?_
  repeat (go_big_quiet_step (((first | exact q1 (bounded3 _ _ (by simp only [World.size_alloc]) _ o d a b c _ hb _) | exact q2 (bounded3 _ _ (by simp only [World.size_alloc]) _ o d a b c _ hb _)))))
  refine wpQuiet_nil ?_
  rintro _ ⟨xg, rfl⟩
  go_wp2_with (first | (go_at_call 29; first | ((with_reducible refine (nm.at_ _).mono ?_); rintro e w' ⟨rfl, xg, rfl⟩)))
  refine wp_region_grow (by kernel_rfl) (by kernel_rfl) ?_
  repeat (go_big_quiet_step (((first | with_reducible exact s1.quiet _ | with_reducible exact s1.quiet2 _ _ | with_reducible exact d1.quiet _ | with_reducible exact d1.quiet2 _ _ | with_reducible exact d2.quiet _ | with_reducible exact d2.quiet2 _ _))))
  refine wpQuiet_nil ?_
  rintro _ ⟨xg, rfl⟩
  go_wp2_with (first | (go_at_call 57; first | ((with_reducible refine (pa.at_ _).mono ?_); rintro e w' ⟨rfl, xg, rfl⟩)))
  refine bodyPost_ret (v := .tuple #[.agg #[.int .i64 (fa), .int .i64 (st), .bool (decide (sd < 0)), .int .i64 0, .int .i64 0], .bool (true), .int .i64 (0)]) (by simp [results, Try.results25, go_sem]) rfl ⟨rfl, (by repeat (first | exact Below.refl _ _ | refine bel_then ?_ _ | refine bel_grow ?_ _ | refine bel_alloc ?_ _ | refine bel_drew ?_ | refine bel_set ?_ (by simp) _ | refine bel_setRow ?_ (by first | omega | simp; done | exact Nat.le_trans (by simp) (top_le _ _)) _))⟩
theorem vMeet_any (o d a b c : P3) : Gives Try.prog 25 #[.agg #[.int .i64 o.x, .int .i64 o.y, .int .i64 o.z], .agg #[.int .i64 d.x, .int .i64 d.y, .int .i64 d.z], .agg #[.int .i64 a.x, .int .i64 a.y, .int .i64 a.z, .int .i64 b.x, .int .i64 b.y, .int .i64 b.z, .int .i64 c.x, .int .i64 c.y, .int .i64 c.z]] (.tuple #[.agg #[.int .i64 (hN o d a b c), .int .i64 (hD o d a b c), .bool (hF o d a b c), .int .i64 0, .int .i64 0], .bool (hK o d a b c), .int .i64 (hE o d a b c)]) := by
  by_cases hb : bdB o d a b c = true
  · obtain ⟨e1, e2, e3, e4, e5⟩ := h_in hb
    rw [e1, e2, e3, e4, e5]
    obtain ⟨ho, hd, ha, hb', hc⟩ := bdB_in hb
    have nm := vNormal_any a b c ha hb' hc
    have s1 := vSub_P a o (by have := sb_in ha ho; unfold InP at *; omega)
    have d1 : Gives Try.prog 55 #[.agg #[.int .i64 (nrm a b c).x, .int .i64 (nrm a b c).y, .int .i64 (nrm a b c).z], .agg #[.int .i64 (sb a o).x, .int .i64 (sb a o).y, .int .i64 (sb a o).z]] (.int .i64 (far o a b c)) := vDot_P _ _ _ _ (nrm_in ha hb' hc) (sb_in ha ho) (by decide)
    have d2 : Gives Try.prog 55 #[.agg #[.int .i64 (nrm a b c).x, .int .i64 (nrm a b c).y, .int .i64 (nrm a b c).z], .agg #[.int .i64 d.x, .int .i64 d.y, .int .i64 d.z]] (.int .i64 (stp d a b c)) := vDot_P _ _ _ _ (nrm_in ha hb' hc) hd (by decide)
    have pa := passAll_any o d a b c ho hd ha hb' hc
    have f := far_in ho ha hb' hc
    have t := step_in hd ha hb' hc
    have f' : -13510798882111488 ≤ far o a b c ∧ far o a b c ≤ 13510798882111488 := f
    have t' : -3377699720527872 ≤ stp d a b c ∧ stp d a b c ≤ 3377699720527872 := t
    clear f t
    generalize far o a b c = fa at *
    generalize stp d a b c = st at *
    generalize allS o d a b c = sd at *
    by_cases h0 : st = 0
    · obtain ⟨q1, q2, q3, q4⟩ := m_none (fa := fa) (sd := sd) (.inl h0)
      rw [q1, q2, q3, q4]
      exact vMeet_flat o d a b c fa st sd f'.1 f'.2 (by omega) (by omega) hb nm s1 d1 d2 pa h0
    · by_cases h1 : sd = 0
      · obtain ⟨q1, q2, q3, q4⟩ := m_none (fa := fa) (st := st) (.inr h1)
        rw [q1, q2, q3, q4]
        exact vMeet_by o d a b c fa st sd f'.1 f'.2 (by omega) (by omega) hb nm s1 d1 d2 pa h0 h1
      · by_cases h2 : st < 0
        · obtain ⟨q1, q2, q3, q4⟩ := m_low (fa := fa) h2 h1
          rw [q1, q2, q3, q4]
          exact vMeet_low o d a b c fa st sd f'.1 f'.2 (by omega) (by omega) hb nm s1 d1 d2 pa h2 h1
        · obtain ⟨q1, q2, q3, q4⟩ := m_high (fa := fa) (by omega : 0 < st) h1
          rw [q1, q2, q3, q4]
          exact vMeet_high o d a b c fa st sd f'.1 f'.2 (by omega) (by omega) hb nm s1 d1 d2 pa (by omega) h1
  · have hb : bdB o d a b c = false := by simpa using hb
    obtain ⟨e1, e2, e3, e4, e5⟩ := h_out hb
    rw [e1, e2, e3, e4, e5]
    exact vMeet_out o d a b c hb
end Go.Proofs.Ytgfgaaecpdbgeaa
