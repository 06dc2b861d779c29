/- Contracts of Meet. -/
import Derived.Test.YtngkimcnolmmoaaMSideA
import Derived.Test.YtngkimcnolmmoaaMVecB
namespace Go.Proofs.Ytngkimcnolmmoaa
open Go.RowKit
set_option linter.unusedVariables false
set_option linter.unusedSimpArgs false
/-! what Meet answers, out of the three numbers -/
def mK (st sd : Int) : Bool := decide (st ≠ 0 ∧ sd ≠ 0)
def mN (fa st sd : Int) : Int := if st ≠ 0 ∧ sd ≠ 0 then (if st < 0 then -fa else fa) else 0
def mD (st sd : Int) : Int := if st ≠ 0 ∧ sd ≠ 0 then (if st < 0 then -st else st) else 0
def mF (st sd : Int) : Bool := decide (st ≠ 0 ∧ sd ≠ 0 ∧ sd < 0)
theorem m_none {fa st sd : Int} (h : st = 0 ∨ sd = 0) : mN fa st sd = 0 ∧ mD st sd = 0 ∧ mF st sd = false ∧ mK st sd = false := by
  unfold mN mD mF mK
  rw [if_neg (by omega), if_neg (by omega)]
  exact ⟨rfl, rfl, by simp; omega, by simp; omega⟩
theorem m_low {fa st sd : Int} (h : st < 0) (h1 : sd ≠ 0) : mN fa st sd = -fa ∧ mD st sd = -st ∧ mF st sd = decide (sd < 0) ∧ mK st sd = true := by
  unfold mN mD mF mK
  rw [if_pos (by omega), if_pos (by omega), if_pos (by omega), if_pos (by omega)]
  exact ⟨rfl, rfl, decide_eq_decide.2 (by omega), by simp; omega⟩
theorem m_high {fa st sd : Int} (h : 0 < st) (h1 : sd ≠ 0) : mN fa st sd = fa ∧ mD st sd = st ∧ mF st sd = decide (sd < 0) ∧ mK st sd = true := by
  unfold mN mD mF mK
  rw [if_pos (by omega), if_neg (by omega), if_pos (by omega), if_neg (by omega)]
  exact ⟨rfl, rfl, decide_eq_decide.2 (by omega), by simp; omega⟩
def far (o a b c : P3) : Int := dt (nrm a b c) (sb a o)
def stp (d a b c : P3) : Int := dt (nrm a b c) d
/-- The numbers of a hit; noughts, where the line or a point is out of the bounds. -/
def hN (o d a b c : P3) : Int := if bdB o d a b c then mN (far o a b c) (stp d a b c) (allS o d a b c) else 0
def hD (o d a b c : P3) : Int := if bdB o d a b c then mD (stp d a b c) (allS o d a b c) else 0
def hF (o d a b c : P3) : Bool := bdB o d a b c && mF (stp d a b c) (allS o d a b c)
def hK (o d a b c : P3) : Bool := bdB o d a b c && mK (stp d a b c) (allS o d a b c)
def hE (o d a b c : P3) : Int := if bdB o d a b c then 0 else 21
theorem h_out {o d a b c : P3} (h : bdB o d a b c = false) : hN o d a b c = 0 ∧ hD o d a b c = 0 ∧ hF o d a b c = false ∧ hK o d a b c = false ∧ hE o d a b c = 21 := by
  unfold hN hD hF hK hE; rw [h]; exact ⟨rfl, rfl, rfl, rfl, rfl⟩
theorem h_in {o d a b c : P3} (h : bdB o d a b c = true) : hN o d a b c = mN (far o a b c) (stp d a b c) (allS o d a b c) ∧ hD o d a b c = mD (stp d a b c) (allS o d a b c) ∧ hF o d a b c = mF (stp d a b c) (allS o d a b c) ∧ hK o d a b c = mK (stp d a b c) (allS o d a b c) ∧ hE o d a b c = 0 := by
  unfold hN hD hF hK hE; rw [h]; exact ⟨rfl, rfl, rfl, rfl, rfl⟩
theorem bounded3 (W : World) (N : Nat) (hN : N = W.heap.size) (t : TypeId) (o d a b c : P3) (v : Bool) (hv : bdB o d a b c = v) (x : More) :
    Calls Try.prog 27 #[.agg #[.int .i64 o.x, .int .i64 o.y, .int .i64 o.z], .agg #[.int .i64 d.x, .int .i64 d.y, .int .i64 d.z], .slice (some ⟨N, 0, none⟩) 3 3] (grow (W.alloc (.cells #[.int .i64 a.x, .int .i64 a.y, .int .i64 a.z, .int .i64 b.x, .int .i64 b.y, .int .i64 b.z, .int .i64 c.x, .int .i64 c.y, .int .i64 c.z] t)) x) fun e w' => e = .returned (.bool v) ∧ ∃ z, w' = grow (grow (W.alloc (.cells #[.int .i64 a.x, .int .i64 a.y, .int .i64 a.z, .int .i64 b.x, .int .i64 b.y, .int .i64 b.z, .int .i64 c.x, .int .i64 c.y, .int .i64 c.z] t)) x) z := by
  have k := bounded_any (grow (W.alloc (.cells #[.int .i64 a.x, .int .i64 a.y, .int .i64 a.z, .int .i64 b.x, .int .i64 b.y, .int .i64 b.z, .int .i64 c.x, .int .i64 c.y, .int .i64 c.z] t)) x) o d _ 3 3 (row3 a b c) ((VF3 W N hN t a b c).below (x.kept _)) (by omega) (by omega)
  rw [ins3] at k
  have e : (lnB o d && (inB3 a && inB3 b && inB3 c)) = v := hv
  rw [e] at k
  exact k
set_option maxRecDepth 100000 in
set_option maxHeartbeats 2000000 in
theorem vMeet_out (o d a b c : P3) (hb : bdB o d a b c = false) : Gives Try.prog 13 #[.agg #[.int .i64 o.x, .int .i64 o.y, .int .i64 o.z], .agg #[.int .i64 d.x, .int .i64 d.y, .int .i64 d.z], .agg #[.int .i64 a.x, .int .i64 a.y, .int .i64 a.z, .int .i64 b.x, .int .i64 b.y, .int .i64 b.z, .int .i64 c.x, .int .i64 c.y, .int .i64 c.z]] (.tuple #[.agg #[.int .i64 (0), .int .i64 (0), .bool (false), .int .i64 0, .int .i64 0], .bool (false), .int .i64 (21)]) := by
  refine Gives.mk fun w => ?_
  go_enter Try.func13, Try.ntmps13
  go_wp2_with fail
  refine wp_region_grow (by kernel_rfl) (by kernel_rfl) ?_
  repeat (go_big_quiet_step (((first | exact q1 (bounded3 _ _ (by simp only [World.size_alloc]) _ o d a b c _ hb _) | exact q2 (bounded3 _ _ (by simp only [World.size_alloc]) _ o d a b c _ hb _)))))
  refine wpQuiet_nil ?_
  rintro _ ⟨xg, rfl⟩
  go_wp2_with fail
  refine bodyPost_ret (v := .tuple #[.agg #[.int .i64 (0), .int .i64 (0), .bool (false), .int .i64 0, .int .i64 0], .bool (false), .int .i64 (21)]) (by simp [results, Try.results13, go_sem]) rfl ⟨rfl, (by repeat (first | exact Below.refl _ _ | refine bel_then ?_ _ | refine bel_grow ?_ _ | refine bel_alloc ?_ _ | refine bel_drew ?_ | refine bel_set ?_ (by simp) _ | refine bel_setRow ?_ (by first | omega | simp; done | exact Nat.le_trans (by simp) (top_le _ _)) _))⟩
set_option maxRecDepth 100000 in
set_option maxHeartbeats 2000000 in
theorem vMeet_flat (o d a b c : P3) (fa st sd : Int) (f0 : -13510798882111488 ≤ fa) (f1 : fa ≤ 13510798882111488) (t0 : -13510798882111488 ≤ st) (t1 : st ≤ 13510798882111488) (hb : bdB o d a b c = true)
    (nm : Gives Try.prog 28 #[.agg #[.int .i64 a.x, .int .i64 a.y, .int .i64 a.z, .int .i64 b.x, .int .i64 b.y, .int .i64 b.z, .int .i64 c.x, .int .i64 c.y, .int .i64 c.z]] (.agg #[.int .i64 (nrm a b c).x, .int .i64 (nrm a b c).y, .int .i64 (nrm a b c).z])) (s1 : Gives Try.prog 30 #[.agg #[.int .i64 a.x, .int .i64 a.y, .int .i64 a.z], .agg #[.int .i64 o.x, .int .i64 o.y, .int .i64 o.z]] (.agg #[.int .i64 (sb a o).x, .int .i64 (sb a o).y, .int .i64 (sb a o).z]))
    (d1 : Gives Try.prog 29 #[.agg #[.int .i64 (nrm a b c).x, .int .i64 (nrm a b c).y, .int .i64 (nrm a b c).z], .agg #[.int .i64 (sb a o).x, .int .i64 (sb a o).y, .int .i64 (sb a o).z]] (.int .i64 fa)) (d2 : Gives Try.prog 29 #[.agg #[.int .i64 (nrm a b c).x, .int .i64 (nrm a b c).y, .int .i64 (nrm a b c).z], .agg #[.int .i64 d.x, .int .i64 d.y, .int .i64 d.z]] (.int .i64 st))
    (pa : Gives Try.prog 31 #[.agg #[.int .i64 o.x, .int .i64 o.y, .int .i64 o.z], .agg #[.int .i64 d.x, .int .i64 d.y, .int .i64 d.z], .agg #[.int .i64 a.x, .int .i64 a.y, .int .i64 a.z, .int .i64 b.x, .int .i64 b.y, .int .i64 b.z, .int .i64 c.x, .int .i64 c.y, .int .i64 c.z]] (.int .i64 sd)) (h : st = 0) : Gives Try.prog 13 #[.agg #[.int .i64 o.x, .int .i64 o.y, .int .i64 o.z], .agg #[.int .i64 d.x, .int .i64 d.y, .int .i64 d.z], .agg #[.int .i64 a.x, .int .i64 a.y, .int .i64 a.z, .int .i64 b.x, .int .i64 b.y, .int .i64 b.z, .int .i64 c.x, .int .i64 c.y, .int .i64 c.z]] (.tuple #[.agg #[.int .i64 (0), .int .i64 (0), .bool (false), .int .i64 0, .int .i64 0], .bool (false), .int .i64 (0)]) := by
  refine Gives.mk fun w => ?_
  subst h
  go_enter Try.func13, Try.ntmps13
  go_wp2_with fail
  refine wp_region_grow (by kernel_rfl) (by kernel_rfl) ?_
  repeat (go_big_quiet_step (((first | exact q1 (bounded3 _ _ (by simp only [World.size_alloc]) _ o d a b c _ hb _) | exact q2 (bounded3 _ _ (by simp only [World.size_alloc]) _ o d a b c _ hb _)))))
  refine wpQuiet_nil ?_
  rintro _ ⟨xg, rfl⟩
  go_wp2_with (first | (go_at_call 28; first | ((with_reducible refine (nm.at_ _).mono ?_); rintro e w' ⟨rfl, xg, rfl⟩)))
  refine wp_region_grow (by kernel_rfl) (by kernel_rfl) ?_
  repeat (go_big_quiet_step (((first | with_reducible exact s1.quiet _ | with_reducible exact s1.quiet2 _ _ | with_reducible exact d1.quiet _ | with_reducible exact d1.quiet2 _ _ | with_reducible exact d2.quiet _ | with_reducible exact d2.quiet2 _ _))))
  refine wpQuiet_nil ?_
  rintro _ ⟨xg, rfl⟩
  go_wp2_with (first | (go_at_call 31; first | ((with_reducible refine (pa.at_ _).mono ?_); rintro e w' ⟨rfl, xg, rfl⟩)))
  refine bodyPost_ret (v := .tuple #[.agg #[.int .i64 (0), .int .i64 (0), .bool (false), .int .i64 0, .int .i64 0], .bool (false), .int .i64 (0)]) (by simp [results, Try.results13, go_sem]) rfl ⟨rfl, (by repeat (first | exact Below.refl _ _ | refine bel_then ?_ _ | refine bel_grow ?_ _ | refine bel_alloc ?_ _ | refine bel_drew ?_ | refine bel_set ?_ (by simp) _ | refine bel_setRow ?_ (by first | omega | simp; done | exact Nat.le_trans (by simp) (top_le _ _)) _))⟩
set_option maxRecDepth 100000 in
set_option maxHeartbeats 2000000 in
theorem vMeet_by (o d a b c : P3) (fa st sd : Int) (f0 : -13510798882111488 ≤ fa) (f1 : fa ≤ 13510798882111488) (t0 : -13510798882111488 ≤ st) (t1 : st ≤ 13510798882111488) (hb : bdB o d a b c = true)
    (nm : Gives Try.prog 28 #[.agg #[.int .i64 a.x, .int .i64 a.y, .int .i64 a.z, .int .i64 b.x, .int .i64 b.y, .int .i64 b.z, .int .i64 c.x, .int .i64 c.y, .int .i64 c.z]] (.agg #[.int .i64 (nrm a b c).x, .int .i64 (nrm a b c).y, .int .i64 (nrm a b c).z])) (s1 : Gives Try.prog 30 #[.agg #[.int .i64 a.x, .int .i64 a.y, .int .i64 a.z], .agg #[.int .i64 o.x, .int .i64 o.y, .int .i64 o.z]] (.agg #[.int .i64 (sb a o).x, .int .i64 (sb a o).y, .int .i64 (sb a o).z]))
    (d1 : Gives Try.prog 29 #[.agg #[.int .i64 (nrm a b c).x, .int .i64 (nrm a b c).y, .int .i64 (nrm a b c).z], .agg #[.int .i64 (sb a o).x, .int .i64 (sb a o).y, .int .i64 (sb a o).z]] (.int .i64 fa)) (d2 : Gives Try.prog 29 #[.agg #[.int .i64 (nrm a b c).x, .int .i64 (nrm a b c).y, .int .i64 (nrm a b c).z], .agg #[.int .i64 d.x, .int .i64 d.y, .int .i64 d.z]] (.int .i64 st))
    (pa : Gives Try.prog 31 #[.agg #[.int .i64 o.x, .int .i64 o.y, .int .i64 o.z], .agg #[.int .i64 d.x, .int .i64 d.y, .int .i64 d.z], .agg #[.int .i64 a.x, .int .i64 a.y, .int .i64 a.z, .int .i64 b.x, .int .i64 b.y, .int .i64 b.z, .int .i64 c.x, .int .i64 c.y, .int .i64 c.z]] (.int .i64 sd)) (h : st ≠ 0) (h1 : sd = 0) : Gives Try.prog 13 #[.agg #[.int .i64 o.x, .int .i64 o.y, .int .i64 o.z], .agg #[.int .i64 d.x, .int .i64 d.y, .int .i64 d.z], .agg #[.int .i64 a.x, .int .i64 a.y, .int .i64 a.z, .int .i64 b.x, .int .i64 b.y, .int .i64 b.z, .int .i64 c.x, .int .i64 c.y, .int .i64 c.z]] (.tuple #[.agg #[.int .i64 (0), .int .i64 (0), .bool (false), .int .i64 0, .int .i64 0], .bool (false), .int .i64 (0)]) := by
  refine Gives.mk fun w => ?_
  subst h1
  have g1 : (st == 0) = false := by simpa using h
  clear h
  go_enter Try.func13, Try.ntmps13
  go_wp2_with fail
  refine wp_region_grow (by kernel_rfl) (by kernel_rfl) ?_
  repeat (go_big_quiet_step (((first | exact q1 (bounded3 _ _ (by simp only [World.size_alloc]) _ o d a b c _ hb _) | exact q2 (bounded3 _ _ (by simp only [World.size_alloc]) _ o d a b c _ hb _)))))
  refine wpQuiet_nil ?_
  rintro _ ⟨xg, rfl⟩
  go_wp2_with (first | (go_at_call 28; first | ((with_reducible refine (nm.at_ _).mono ?_); rintro e w' ⟨rfl, xg, rfl⟩)))
  refine wp_region_grow (by kernel_rfl) (by kernel_rfl) ?_
  repeat (go_big_quiet_step (((first | with_reducible exact s1.quiet _ | with_reducible exact s1.quiet2 _ _ | with_reducible exact d1.quiet _ | with_reducible exact d1.quiet2 _ _ | with_reducible exact d2.quiet _ | with_reducible exact d2.quiet2 _ _))))
  refine wpQuiet_nil ?_
  rintro _ ⟨xg, rfl⟩
  go_wp2_with (first | (go_at_call 31; first | ((with_reducible refine (pa.at_ _).mono ?_); rintro e w' ⟨rfl, xg, rfl⟩)))
  refine bodyPost_ret (v := .tuple #[.agg #[.int .i64 (0), .int .i64 (0), .bool (false), .int .i64 0, .int .i64 0], .bool (false), .int .i64 (0)]) (by simp [results, Try.results13, go_sem]) rfl ⟨rfl, (by repeat (first | exact Below.refl _ _ | refine bel_then ?_ _ | refine bel_grow ?_ _ | refine bel_alloc ?_ _ | refine bel_drew ?_ | refine bel_set ?_ (by simp) _ | refine bel_setRow ?_ (by first | omega | simp; done | exact Nat.le_trans (by simp) (top_le _ _)) _))⟩
set_option maxRecDepth 100000 in
set_option maxHeartbeats 2000000 in
theorem vMeet_low (o d a b c : P3) (fa st sd : Int) (f0 : -13510798882111488 ≤ fa) (f1 : fa ≤ 13510798882111488) (t0 : -13510798882111488 ≤ st) (t1 : st ≤ 13510798882111488) (hb : bdB o d a b c = true)
    (nm : Gives Try.prog 28 #[.agg #[.int .i64 a.x, .int .i64 a.y, .int .i64 a.z, .int .i64 b.x, .int .i64 b.y, .int .i64 b.z, .int .i64 c.x, .int .i64 c.y, .int .i64 c.z]] (.agg #[.int .i64 (nrm a b c).x, .int .i64 (nrm a b c).y, .int .i64 (nrm a b c).z])) (s1 : Gives Try.prog 30 #[.agg #[.int .i64 a.x, .int .i64 a.y, .int .i64 a.z], .agg #[.int .i64 o.x, .int .i64 o.y, .int .i64 o.z]] (.agg #[.int .i64 (sb a o).x, .int .i64 (sb a o).y, .int .i64 (sb a o).z]))
    (d1 : Gives Try.prog 29 #[.agg #[.int .i64 (nrm a b c).x, .int .i64 (nrm a b c).y, .int .i64 (nrm a b c).z], .agg #[.int .i64 (sb a o).x, .int .i64 (sb a o).y, .int .i64 (sb a o).z]] (.int .i64 fa)) (d2 : Gives Try.prog 29 #[.agg #[.int .i64 (nrm a b c).x, .int .i64 (nrm a b c).y, .int .i64 (nrm a b c).z], .agg #[.int .i64 d.x, .int .i64 d.y, .int .i64 d.z]] (.int .i64 st))
    (pa : Gives Try.prog 31 #[.agg #[.int .i64 o.x, .int .i64 o.y, .int .i64 o.z], .agg #[.int .i64 d.x, .int .i64 d.y, .int .i64 d.z], .agg #[.int .i64 a.x, .int .i64 a.y, .int .i64 a.z, .int .i64 b.x, .int .i64 b.y, .int .i64 b.z, .int .i64 c.x, .int .i64 c.y, .int .i64 c.z]] (.int .i64 sd)) (h : st < 0) (h1 : sd ≠ 0) : Gives Try.prog 13 #[.agg #[.int .i64 o.x, .int .i64 o.y, .int .i64 o.z], .agg #[.int .i64 d.x, .int .i64 d.y, .int .i64 d.z], .agg #[.int .i64 a.x, .int .i64 a.y, .int .i64 a.z, .int .i64 b.x, .int .i64 b.y, .int .i64 b.z, .int .i64 c.x, .int .i64 c.y, .int .i64 c.z]] (.tuple #[.agg #[.int .i64 (-fa), .int .i64 (-st), .bool (decide (sd < 0)), .int .i64 0, .int .i64 0], .bool (true), .int .i64 (0)]) := by
  refine Gives.mk fun w => ?_
  have g1 : (st == 0) = false := by simp; omega
  have g2 : (sd == 0) = false := by simpa using h1
  have g3 : decide (st < 0) = true := by simpa using h
  clear h1
  go_enter Try.func13, Try.ntmps13
  go_wp2_with fail
  refine wp_region_grow (by kernel_rfl) (by kernel_rfl) ?_
  repeat (go_big_quiet_step (((first | exact q1 (bounded3 _ _ (by simp only [World.size_alloc]) _ o d a b c _ hb _) | exact q2 (bounded3 _ _ (by simp only [World.size_alloc]) _ o d a b c _ hb _)))))
  refine wpQuiet_nil ?_
  rintro _ ⟨xg, rfl⟩
  go_wp2_with (first | (go_at_call 28; first | ((with_reducible refine (nm.at_ _).mono ?_); rintro e w' ⟨rfl, xg, rfl⟩)))
  refine wp_region_grow (by kernel_rfl) (by kernel_rfl) ?_
  repeat (go_big_quiet_step (((first | with_reducible exact s1.quiet _ | with_reducible exact s1.quiet2 _ _ | with_reducible exact d1.quiet _ | with_reducible exact d1.quiet2 _ _ | with_reducible exact d2.quiet _ | with_reducible exact d2.quiet2 _ _))))
  refine wpQuiet_nil ?_
  rintro _ ⟨xg, rfl⟩
  go_wp2_with (first | (go_at_call 31; first | ((with_reducible refine (pa.at_ _).mono ?_); rintro e w' ⟨rfl, xg, rfl⟩)))
  refine bodyPost_ret (v := .tuple #[.agg #[.int .i64 (-fa), .int .i64 (-st), .bool (decide (sd < 0)), .int .i64 0, .int .i64 0], .bool (true), .int .i64 (0)]) (by simp [results, Try.results13, go_sem]) rfl ⟨rfl, (by repeat (first | exact Below.refl _ _ | refine bel_then ?_ _ | refine bel_grow ?_ _ | refine bel_alloc ?_ _ | refine bel_drew ?_ | refine bel_set ?_ (by simp) _ | refine bel_setRow ?_ (by first | omega | simp; done | exact Nat.le_trans (by simp) (top_le _ _)) _))⟩
set_option maxRecDepth 100000 in
set_option maxHeartbeats 2000000 in
theorem vMeet_high (o d a b c : P3) (fa st sd : Int) (f0 : -13510798882111488 ≤ fa) (f1 : fa ≤ 13510798882111488) (t0 : -13510798882111488 ≤ st) (t1 : st ≤ 13510798882111488) (hb : bdB o d a b c = true)
    (nm : Gives Try.prog 28 #[.agg #[.int .i64 a.x, .int .i64 a.y, .int .i64 a.z, .int .i64 b.x, .int .i64 b.y, .int .i64 b.z, .int .i64 c.x, .int .i64 c.y, .int .i64 c.z]] (.agg #[.int .i64 (nrm a b c).x, .int .i64 (nrm a b c).y, .int .i64 (nrm a b c).z])) (s1 : Gives Try.prog 30 #[.agg #[.int .i64 a.x, .int .i64 a.y, .int .i64 a.z], .agg #[.int .i64 o.x, .int .i64 o.y, .int .i64 o.z]] (.agg #[.int .i64 (sb a o).x, .int .i64 (sb a o).y, .int .i64 (sb a o).z]))
    (d1 : Gives Try.prog 29 #[.agg #[.int .i64 (nrm a b c).x, .int .i64 (nrm a b c).y, .int .i64 (nrm a b c).z], .agg #[.int .i64 (sb a o).x, .int .i64 (sb a o).y, .int .i64 (sb a o).z]] (.int .i64 fa)) (d2 : Gives Try.prog 29 #[.agg #[.int .i64 (nrm a b c).x, .int .i64 (nrm a b c).y, .int .i64 (nrm a b c).z], .agg #[.int .i64 d.x, .int .i64 d.y, .int .i64 d.z]] (.int .i64 st))
    (pa : Gives Try.prog 31 #[.agg #[.int .i64 o.x, .int .i64 o.y, .int .i64 o.z], .agg #[.int .i64 d.x, .int .i64 d.y, .int .i64 d.z], .agg #[.int .i64 a.x, .int .i64 a.y, .int .i64 a.z, .int .i64 b.x, .int .i64 b.y, .int .i64 b.z, .int .i64 c.x, .int .i64 c.y, .int .i64 c.z]] (.int .i64 sd)) (h : 0 < st) (h1 : sd ≠ 0) : Gives Try.prog 13 #[.agg #[.int .i64 o.x, .int .i64 o.y, .int .i64 o.z], .agg #[.int .i64 d.x, .int .i64 d.y, .int .i64 d.z], .agg #[.int .i64 a.x, .int .i64 a.y, .int .i64 a.z, .int .i64 b.x, .int .i64 b.y, .int .i64 b.z, .int .i64 c.x, .int .i64 c.y, .int .i64 c.z]] (.tuple #[.agg #[.int .i64 (fa), .int .i64 (st), .bool (decide (sd < 0)), .int .i64 0, .int .i64 0], .bool (true), .int .i64 (0)]) := by
  refine Gives.mk fun w => ?_
  have g1 : (st == 0) = false := by simp; omega
  have g2 : (sd == 0) = false := by simpa using h1
  have g3 : decide (st < 0) = false := by simp; omega
  clear h1
  go_enter Try.func13, Try.ntmps13
  go_wp2_with fail
  refine wp_region_grow (by kernel_rfl) (by kernel_rfl) ?_
  repeat (go_big_quiet_step (((first | exact q1 (bounded3 _ _ (by simp only [World.size_alloc]) _ o d a b c _ hb _) | exact q2 (bounded3 _ _ (by simp only [World.size_alloc]) _ o d a b c _ hb _)))))
  refine wpQuiet_nil ?_
  rintro _ ⟨xg, rfl⟩
  go_wp2_with (first | (go_at_call 28; first | ((with_reducible refine (nm.at_ _).mono ?_); rintro e w' ⟨rfl, xg, rfl⟩)))
  refine wp_region_grow (by kernel_rfl) (by kernel_rfl) ?_
  repeat (go_big_quiet_step (((first | with_reducible exact s1.quiet _ | with_reducible exact s1.quiet2 _ _ | with_reducible exact d1.quiet _ | with_reducible exact d1.quiet2 _ _ | with_reducible exact d2.quiet _ | with_reducible exact d2.quiet2 _ _))))
  refine wpQuiet_nil ?_
  rintro _ ⟨xg, rfl⟩
  go_wp2_with (first | (go_at_call 31; first | ((with_reducible refine (pa.at_ _).mono ?_); rintro e w' ⟨rfl, xg, rfl⟩)))
  refine bodyPost_ret (v := .tuple #[.agg #[.int .i64 (fa), .int .i64 (st), .bool (decide (sd < 0)), .int .i64 0, .int .i64 0], .bool (true), .int .i64 (0)]) (by simp [results, Try.results13, go_sem]) rfl ⟨rfl, (by repeat (first | exact Below.refl _ _ | refine bel_then ?_ _ | refine bel_grow ?_ _ | refine bel_alloc ?_ _ | refine bel_drew ?_ | refine bel_set ?_ (by simp) _ | refine bel_setRow ?_ (by first | omega | simp; done | exact Nat.le_trans (by simp) (top_le _ _)) _))⟩
theorem vMeet_any (o d a b c : P3) : Gives Try.prog 13 #[.agg #[.int .i64 o.x, .int .i64 o.y, .int .i64 o.z], .agg #[.int .i64 d.x, .int .i64 d.y, .int .i64 d.z], .agg #[.int .i64 a.x, .int .i64 a.y, .int .i64 a.z, .int .i64 b.x, .int .i64 b.y, .int .i64 b.z, .int .i64 c.x, .int .i64 c.y, .int .i64 c.z]] (.tuple #[.agg #[.int .i64 (hN o d a b c), .int .i64 (hD o d a b c), .bool (hF o d a b c), .int .i64 0, .int .i64 0], .bool (hK o d a b c), .int .i64 (hE o d a b c)]) := by
  by_cases hb : bdB o d a b c = true
  · obtain ⟨e1, e2, e3, e4, e5⟩ := h_in hb
    rw [e1, e2, e3, e4, e5]
    obtain ⟨ho, hd, ha, hb', hc⟩ := bdB_in hb
    have nm := vNormal_any a b c ha hb' hc
    have s1 := vSub_P a o (by have := sb_in ha ho; unfold InP at *; omega)
    have d1 : Gives Try.prog 29 #[.agg #[.int .i64 (nrm a b c).x, .int .i64 (nrm a b c).y, .int .i64 (nrm a b c).z], .agg #[.int .i64 (sb a o).x, .int .i64 (sb a o).y, .int .i64 (sb a o).z]] (.int .i64 (far o a b c)) := vDot_P _ _ _ _ (nrm_in ha hb' hc) (sb_in ha ho) (by decide)
    have d2 : Gives Try.prog 29 #[.agg #[.int .i64 (nrm a b c).x, .int .i64 (nrm a b c).y, .int .i64 (nrm a b c).z], .agg #[.int .i64 d.x, .int .i64 d.y, .int .i64 d.z]] (.int .i64 (stp d a b c)) := vDot_P _ _ _ _ (nrm_in ha hb' hc) hd (by decide)
    have pa := passAll_any o d a b c ho hd ha hb' hc
    have f := far_in ho ha hb' hc
    have t := step_in hd ha hb' hc
    have f' : -13510798882111488 ≤ far o a b c ∧ far o a b c ≤ 13510798882111488 := f
    have t' : -3377699720527872 ≤ stp d a b c ∧ stp d a b c ≤ 3377699720527872 := t
    clear f t
    generalize far o a b c = fa at *
    generalize stp d a b c = st at *
    generalize allS o d a b c = sd at *
    by_cases h0 : st = 0
    · obtain ⟨q1, q2, q3, q4⟩ := m_none (fa := fa) (sd := sd) (.inl h0)
      rw [q1, q2, q3, q4]
      exact vMeet_flat o d a b c fa st sd f'.1 f'.2 (by omega) (by omega) hb nm s1 d1 d2 pa h0
    · by_cases h1 : sd = 0
      · obtain ⟨q1, q2, q3, q4⟩ := m_none (fa := fa) (st := st) (.inr h1)
        rw [q1, q2, q3, q4]
        exact vMeet_by o d a b c fa st sd f'.1 f'.2 (by omega) (by omega) hb nm s1 d1 d2 pa h0 h1
      · by_cases h2 : st < 0
        · obtain ⟨q1, q2, q3, q4⟩ := m_low (fa := fa) h2 h1
          rw [q1, q2, q3, q4]
          exact vMeet_low o d a b c fa st sd f'.1 f'.2 (by omega) (by omega) hb nm s1 d1 d2 pa h2 h1
        · obtain ⟨q1, q2, q3, q4⟩ := m_high (fa := fa) (by omega : 0 < st) h1
          rw [q1, q2, q3, q4]
          exact vMeet_high o d a b c fa st sd f'.1 f'.2 (by omega) (by omega) hb nm s1 d1 d2 pa (by omega) h1
  · have hb : bdB o d a b c = false := by simpa using hb
    obtain ⟨e1, e2, e3, e4, e5⟩ := h_out hb
    rw [e1, e2, e3, e4, e5]
    exact vMeet_out o d a b c hb
end Go.Proofs.Ytngkimcnolmmoaa

/- What triangles that are told otherwise come to. -/
namespace Go.Proofs.Ytngkimcnolmmoaa
set_option linter.unusedVariables false
set_option linter.unusedSimpArgs false
theorem bool_comm3 (x y z : Bool) : (x && y && z) = (x && z && y) := by cases x <;> cases y <;> cases z <;> rfl
theorem bool_turn3 (x y z : Bool) : (x && y && z) = (y && z && x) := by cases x <;> cases y <;> cases z <;> rfl
/-! the other way round -/
theorem bd_turned (o d a b c : P3) : bdB o d a c b = bdB o d a b c := by unfold bdB; rw [bool_comm3]
theorem sd3_turned (s0 s1 s2 : Int) : sd3 (-s1) (-s0) (-s2) = -sd3 s0 s1 s2 := by
  unfold sd3
  by_cases h : s1 = s0 ∧ s2 = s0
  · rw [if_pos h, if_pos (by omega)]; omega
  · rw [if_neg h, if_neg (by omega)]; rfl
theorem allS_turned (o d a b c : P3) : allS o d a c b = -allS o d a b c := by
  unfold allS
  rw [pS_turned o d a b, pS_turned o d c a, pS_turned o d b c, sd3_turned]
theorem far_turned (o a b c : P3) : far o a c b = -far o a b c := by unfold far nrm dt cr sb; grind
theorem stp_turned (d a b c : P3) : stp d a c b = -stp d a b c := by unfold stp nrm dt cr sb; grind
theorem m_turned (fa st sd : Int) : mN (-fa) (-st) (-sd) = mN fa st sd ∧ mD (-st) (-sd) = mD st sd ∧ mK (-st) (-sd) = mK st sd := by
  unfold mN mD mK
  by_cases h : st ≠ 0 ∧ sd ≠ 0
  · have h' : -st ≠ 0 ∧ -sd ≠ 0 := by omega
    rw [if_pos h, if_pos h', if_pos h, if_pos h']
    refine ⟨?_, ?_, decide_eq_decide.2 (by omega)⟩
    · by_cases g : st < 0
      · rw [if_pos g, if_neg (by omega)]
      · rw [if_neg g, if_pos (by omega)]; omega
    · by_cases g : st < 0
      · rw [if_pos g, if_neg (by omega)]
      · rw [if_neg g, if_pos (by omega)]; omega
  · have h' : ¬ (-st ≠ 0 ∧ -sd ≠ 0) := by omega
    rw [if_neg h, if_neg h', if_neg h, if_neg h']
    exact ⟨rfl, rfl, decide_eq_decide.2 (by omega)⟩
theorem mF_turned (st sd : Int) (h : mK st sd = true) : mF (-st) (-sd) = !mF st sd := by
  unfold mK at h
  have h := of_decide_eq_true h
  unfold mF
  by_cases g : sd < 0
  · rw [decide_eq_true (by omega : st ≠ 0 ∧ sd ≠ 0 ∧ sd < 0), decide_eq_false (by omega)]; rfl
  · rw [decide_eq_false (by omega : ¬ (st ≠ 0 ∧ sd ≠ 0 ∧ sd < 0)), decide_eq_true (by omega)]; rfl
theorem hit_turned (o d a b c : P3) : hN o d a c b = hN o d a b c ∧ hD o d a c b = hD o d a b c ∧ hK o d a c b = hK o d a b c ∧ hE o d a c b = hE o d a b c := by
  unfold hN hD hK hE
  rw [bd_turned, far_turned, stp_turned, allS_turned]
  obtain ⟨h1, h2, h3⟩ := m_turned (far o a b c) (stp d a b c) (allS o d a b c)
  rw [h1, h2, h3]
  exact ⟨rfl, rfl, rfl, rfl⟩
theorem hitF_turned (o d a b c : P3) (h : hK o d a b c = true) : hF o d a c b = !hF o d a b c := by
  unfold hK at h
  simp only [Bool.and_eq_true] at h
  unfold hF
  rw [bd_turned, stp_turned, allS_turned, mF_turned _ _ h.2, h.1]
  rfl
theorem si_turned (o d a b : P3) : siE o d b a = siE o d a b ∧ siV o d a b = -siV o d b a := by
  have e : siB o d b a = siB o d a b := by unfold siB; rw [Bool.and_comm (inB3 b)]
  unfold siE siV
  rw [e, pS_turned o d a b]
  refine ⟨rfl, ?_⟩
  split <;> omega
/-! from another corner -/
theorem hit_round (o d a b c : P3) : hN o d b c a = hN o d a b c ∧ hD o d b c a = hD o d a b c ∧ hF o d b c a = hF o d a b c ∧ hK o d b c a = hK o d a b c ∧ hE o d b c a = hE o d a b c := by
  have e1 : bdB o d b c a = bdB o d a b c := by unfold bdB; rw [← bool_turn3]
  have e2 : far o b c a = far o a b c := by unfold far nrm dt cr sb; grind
  have e3 : stp d b c a = stp d a b c := by unfold stp nrm dt cr sb; grind
  have e4 : allS o d b c a = allS o d a b c := by
    unfold allS sd3
    by_cases h : pS o d a b = pS o d c a ∧ pS o d b c = pS o d c a
    · rw [if_pos h, if_pos (by omega)]; omega
    · rw [if_neg h, if_neg (by omega)]
  unfold hN hD hF hK hE
  rw [e1, e2, e3, e4]
  exact ⟨rfl, rfl, rfl, rfl, rfl⟩
/-! moved -/
def ad (a b : P3) : P3 := ⟨a.x + b.x, a.y + b.y, a.z + b.z⟩
def sc (a : P3) (k : Int) : P3 := ⟨a.x * k, a.y * k, a.z * k⟩
theorem sb_moved (a b v : P3) : sb (ad a v) (ad b v) = sb a b := by
  unfold sb ad; simp only [P3.mk.injEq]; omega
theorem pS_moved (o d a b v : P3) : pS (ad o v) d (ad a v) (ad b v) = pS o d a b := by
  unfold pS turn grw; rw [sb_moved, sb_moved, sb_moved]
theorem hit_moved (o d a b c v : P3) (h : bdB o d a b c = true) (h' : bdB (ad o v) d (ad a v) (ad b v) (ad c v) = true) :
    hN (ad o v) d (ad a v) (ad b v) (ad c v) = hN o d a b c ∧ hD (ad o v) d (ad a v) (ad b v) (ad c v) = hD o d a b c ∧ hF (ad o v) d (ad a v) (ad b v) (ad c v) = hF o d a b c ∧ hK (ad o v) d (ad a v) (ad b v) (ad c v) = hK o d a b c := by
  have e2 : far (ad o v) (ad a v) (ad b v) (ad c v) = far o a b c := by unfold far nrm; rw [sb_moved, sb_moved, sb_moved]
  have e3 : stp d (ad a v) (ad b v) (ad c v) = stp d a b c := by unfold stp nrm; rw [sb_moved, sb_moved]
  have e4 : allS (ad o v) d (ad a v) (ad b v) (ad c v) = allS o d a b c := by unfold allS; rw [pS_moved, pS_moved, pS_moved]
  unfold hN hD hF hK
  rw [h, h', e2, e3, e4]
  exact ⟨rfl, rfl, rfl, rfl⟩
theorem hE_cases (o d a b c : P3) : (bdB o d a b c = true ∧ hE o d a b c = 0) ∨ (bdB o d a b c = false ∧ hE o d a b c = 21) := by
  by_cases h : bdB o d a b c = true
  · exact .inl ⟨h, (h_in h).2.2.2.2⟩
  · have h : bdB o d a b c = false := by simpa using h
    exact .inr ⟨h, (h_out h).2.2.2.2⟩
end Go.Proofs.Ytngkimcnolmmoaa

/- Contracts of the document's own bounds and sums, exact. -/
namespace Go.Proofs.Ytngkimcnolmmoaa
open Go.RowKit
set_option linter.unusedVariables false
set_option linter.unusedSimpArgs false
theorem uWithin_any (x y z m : Int) (m0 : 0 ≤ m) (m1 : m ≤ 9223372036854775807) :
    Gives Try.prog 25 #[.agg #[.int .i64 x, .int .i64 y, .int .i64 z], .int .i64 m] (.bool (wiB x y z m)) := by
  refine Gives.mk fun w => ?_
  go_enter Try.func25, Try.ntmps25
  go_wp2
  all_goals
    go_ret
    refine ⟨ret_bool ?_, (by repeat (first | exact Below.refl _ _ | refine bel_then ?_ _ | refine bel_grow ?_ _ | refine bel_alloc ?_ _ | refine bel_drew ?_ | refine bel_set ?_ (by simp) _ | refine bel_setRow ?_ (by first | omega | simp; done | exact Nat.le_trans (by simp) (top_le _ _)) _))⟩
    first | (symm; rw [wiB_iff]; omega) | (symm; apply wiB_no; omega) | (unfold wiB inB; simp [*])
theorem rAdd_P (a b : P3) (h : InP 4611686018427387904 (ad a b)) : Gives Try.prog 19 #[.agg #[.int .i64 a.x, .int .i64 a.y, .int .i64 a.z], .agg #[.int .i64 b.x, .int .i64 b.y, .int .i64 b.z]] (.agg #[.int .i64 (ad a b).x, .int .i64 (ad a b).y, .int .i64 (ad a b).z]) := by
  have k := rAdd_any a.x a.y a.z b.x b.y b.z
  obtain ⟨h1, h2, h3⟩ := h
  rw [show wrap64 (a.x + b.x) = (ad a b).x from wrap_in h1, show wrap64 (a.y + b.y) = (ad a b).y from wrap_in h2, show wrap64 (a.z + b.z) = (ad a b).z from wrap_in h3] at k
  exact k
theorem rScale_P (a : P3) (s : Int) (h : InP 4611686018427387904 (sc a s)) : Gives Try.prog 20 #[.agg #[.int .i64 a.x, .int .i64 a.y, .int .i64 a.z], .int .i64 s] (.agg #[.int .i64 (sc a s).x, .int .i64 (sc a s).y, .int .i64 (sc a s).z]) := by
  have k := rScale_any a.x a.y a.z s
  obtain ⟨h1, h2, h3⟩ := h
  rw [show wrap64 (a.x * s) = (sc a s).x from wrap_in h1, show wrap64 (a.y * s) = (sc a s).y from wrap_in h2, show wrap64 (a.z * s) = (sc a s).z from wrap_in h3] at k
  exact k
theorem alloc_hit (a : Act) (o : Oper) (ho : o.op = .alloc 36) (w : World) : (execOp a.eval o).run Try.prog w = .ok (.value (.pointer (some ⟨w.heap.size, 0, none⟩))) (w.alloc (.cells #[.int .i64 0, .int .i64 0, .bool false, .int .i64 0, .int .i64 0] 36)) := by
  unfold execOp
  rw [ho]
  kernel_rfl
theorem wi_in {a : P3} {m : Int} (h : wiB a.x a.y a.z m = true) : InP m a := ((wiB_iff _ _ _ _).1 h).2
end Go.Proofs.Ytngkimcnolmmoaa
