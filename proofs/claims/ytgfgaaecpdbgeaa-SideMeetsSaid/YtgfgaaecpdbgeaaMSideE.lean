/- Contracts of the document's own sides and meetings. -/
import Derived.Test.YtgfgaaecpdbgeaaSide7
import Derived.Test.YtgfgaaecpdbgeaaMSideB
import Derived.Test.YtgfgaaecpdbgeaaMRefD
import Derived.Test.YtgfgaaecpdbgeaaMWideB
import Derived.Test.YtgfgaaecpdbgeaaMRegion
namespace Go.Proofs.Ytgfgaaecpdbgeaa
open Go.RowKit
set_option linter.unusedVariables false
set_option linter.unusedSimpArgs false
theorem rSign_any (x : Int) : Gives Try.prog 69 #[.int .i64 x] (.int .i64 (sgn x)) := by
  refine Gives.mk fun w => ?_
  rcases sgn_cases x with ⟨h, e⟩ | ⟨rfl, e⟩ | ⟨h, e⟩
  all_goals
    rw [e]
    clear e
    go_enter Try.func69, Try.ntmps69
    go_wp2
    go_ret
    exact ⟨rfl, (by repeat (first | exact Below.refl _ _ | refine bel_then ?_ _ | refine bel_grow ?_ _ | refine bel_alloc ?_ _ | refine bel_drew ?_ | refine bel_set ?_ (by simp) _ | refine bel_setRow ?_ (by first | omega | simp; done | exact Nat.le_trans (by simp) (top_le _ _)) _))⟩
set_option maxRecDepth 100000 in
set_option maxHeartbeats 1000000 in
theorem rPass_p0 (o d a b q : P3) (t s : Int) (s1 : Gives Try.prog 33 #[.agg #[.int .i64 a.x, .int .i64 a.y, .int .i64 a.z], .agg #[.int .i64 o.x, .int .i64 o.y, .int .i64 o.z]] (.agg #[.int .i64 (sb a o).x, .int .i64 (sb a o).y, .int .i64 (sb a o).z])) (s2 : Gives Try.prog 33 #[.agg #[.int .i64 b.x, .int .i64 b.y, .int .i64 b.z], .agg #[.int .i64 o.x, .int .i64 o.y, .int .i64 o.z]] (.agg #[.int .i64 (sb b o).x, .int .i64 (sb b o).y, .int .i64 (sb b o).z])) (s3 : Gives Try.prog 33 #[.agg #[.int .i64 a.x, .int .i64 a.y, .int .i64 a.z], .agg #[.int .i64 b.x, .int .i64 b.y, .int .i64 b.z]] (.agg #[.int .i64 (sb a b).x, .int .i64 (sb a b).y, .int .i64 (sb a b).z])) (c1 : Gives Try.prog 36 #[.agg #[.int .i64 (sb a o).x, .int .i64 (sb a o).y, .int .i64 (sb a o).z], .agg #[.int .i64 (sb b o).x, .int .i64 (sb b o).y, .int .i64 (sb b o).z]] (.agg #[.int .i64 (cr (sb a o) (sb b o)).x, .int .i64 (cr (sb a o) (sb b o)).y, .int .i64 (cr (sb a o) (sb b o)).z])) (d1 : Gives Try.prog 35 #[.agg #[.int .i64 d.x, .int .i64 d.y, .int .i64 d.z], .agg #[.int .i64 (cr (sb a o) (sb b o)).x, .int .i64 (cr (sb a o) (sb b o)).y, .int .i64 (cr (sb a o) (sb b o)).z]] (.int .i64 t)) (c2 : Gives Try.prog 36 #[.agg #[.int .i64 (sb a b).x, .int .i64 (sb a b).y, .int .i64 (sb a b).z], .agg #[.int .i64 d.x, .int .i64 d.y, .int .i64 d.z]] (.agg #[.int .i64 q.x, .int .i64 q.y, .int .i64 q.z])) (k0 : Gives Try.prog 69 #[.int .i64 t] (.int .i64 s)) (hs : s ≠ 0) : Gives Try.prog 54 #[.agg #[.int .i64 o.x, .int .i64 o.y, .int .i64 o.z], .agg #[.int .i64 d.x, .int .i64 d.y, .int .i64 d.z], .agg #[.int .i64 a.x, .int .i64 a.y, .int .i64 a.z], .agg #[.int .i64 b.x, .int .i64 b.y, .int .i64 b.z]] (.int .i64 s) := by
  refine Gives.mk fun w => ?_
  have g1 : (s == 0) = false := by simpa using hs
  clear hs
  go_enter Try.func54, Try.ntmps54
  go_wp2_with fail
  refine wp_region_grow (by kernel_rfl) (by kernel_rfl) ?_
  repeat (go_big_quiet_step (((first | with_reducible exact s1.quiet _ | with_reducible exact s1.quiet2 _ _ | with_reducible exact s2.quiet _ | with_reducible exact s2.quiet2 _ _ | with_reducible exact c1.quiet _ | with_reducible exact c1.quiet2 _ _ | with_reducible exact d1.quiet _ | with_reducible exact d1.quiet2 _ _ | with_reducible exact k0.quiet _ | with_reducible exact k0.quiet2 _ _))))
  refine wpQuiet_nil ?_
  rintro _ ⟨xg, rfl⟩
  go_wp2_with fail
  refine wp_region_make 5 ?_ 10 (.cells #[.int .i64 0, .int .i64 0, .int .i64 0] 36) (by kernel_rfl) (by kernel_rfl) (by kernel_rfl) (fun d hd => by cases hd; exact ⟨_, rfl, rfl, rfl, fun A u => alloc_V A _ rfl u⟩) (fun pp => ?_) (fun pp qq => ?_)
  rotate_left
  · simp only [List.take_succ_cons, List.take_zero]
    repeat (go_big_quiet_step (((first | with_reducible exact s3.quiet _ | with_reducible exact s3.quiet2 _ _ | with_reducible exact c2.quiet _ | with_reducible exact c2.quiet2 _ _))))
    refine wpQuiet_nil ?_
    exact rfl
  simp only [List.drop_succ_cons, List.drop_zero]
  try simp only [Act.put, List.setIfInBounds_toArray, List.set_cons_succ, List.set_cons_zero]
  go_wp2_with fail
  go_ret
  exact ⟨rfl, (by repeat (first | exact Below.refl _ _ | refine bel_then ?_ _ | refine bel_grow ?_ _ | refine bel_alloc ?_ _ | refine bel_drew ?_ | refine bel_set ?_ (by simp) _ | refine bel_setRow ?_ (by first | omega | simp; done | exact Nat.le_trans (by simp) (top_le _ _)) _))⟩
set_option maxRecDepth 100000 in
set_option maxHeartbeats 1000000 in
theorem rPass_p1 (o d a b q : P3) (t s : Int) (s1 : Gives Try.prog 33 #[.agg #[.int .i64 a.x, .int .i64 a.y, .int .i64 a.z], .agg #[.int .i64 o.x, .int .i64 o.y, .int .i64 o.z]] (.agg #[.int .i64 (sb a o).x, .int .i64 (sb a o).y, .int .i64 (sb a o).z])) (s2 : Gives Try.prog 33 #[.agg #[.int .i64 b.x, .int .i64 b.y, .int .i64 b.z], .agg #[.int .i64 o.x, .int .i64 o.y, .int .i64 o.z]] (.agg #[.int .i64 (sb b o).x, .int .i64 (sb b o).y, .int .i64 (sb b o).z])) (s3 : Gives Try.prog 33 #[.agg #[.int .i64 a.x, .int .i64 a.y, .int .i64 a.z], .agg #[.int .i64 b.x, .int .i64 b.y, .int .i64 b.z]] (.agg #[.int .i64 (sb a b).x, .int .i64 (sb a b).y, .int .i64 (sb a b).z])) (c1 : Gives Try.prog 36 #[.agg #[.int .i64 (sb a o).x, .int .i64 (sb a o).y, .int .i64 (sb a o).z], .agg #[.int .i64 (sb b o).x, .int .i64 (sb b o).y, .int .i64 (sb b o).z]] (.agg #[.int .i64 (cr (sb a o) (sb b o)).x, .int .i64 (cr (sb a o) (sb b o)).y, .int .i64 (cr (sb a o) (sb b o)).z])) (d1 : Gives Try.prog 35 #[.agg #[.int .i64 d.x, .int .i64 d.y, .int .i64 d.z], .agg #[.int .i64 (cr (sb a o) (sb b o)).x, .int .i64 (cr (sb a o) (sb b o)).y, .int .i64 (cr (sb a o) (sb b o)).z]] (.int .i64 t)) (c2 : Gives Try.prog 36 #[.agg #[.int .i64 (sb a b).x, .int .i64 (sb a b).y, .int .i64 (sb a b).z], .agg #[.int .i64 d.x, .int .i64 d.y, .int .i64 d.z]] (.agg #[.int .i64 q.x, .int .i64 q.y, .int .i64 q.z])) (k0 : Gives Try.prog 69 #[.int .i64 t] (.int .i64 0)) (k1 : Gives Try.prog 69 #[.int .i64 q.x] (.int .i64 s)) (hs : s ≠ 0) : Gives Try.prog 54 #[.agg #[.int .i64 o.x, .int .i64 o.y, .int .i64 o.z], .agg #[.int .i64 d.x, .int .i64 d.y, .int .i64 d.z], .agg #[.int .i64 a.x, .int .i64 a.y, .int .i64 a.z], .agg #[.int .i64 b.x, .int .i64 b.y, .int .i64 b.z]] (.int .i64 s) := by
  refine Gives.mk fun w => ?_
  have g1 : (s == 0) = false := by simpa using hs
  clear hs
  go_enter Try.func54, Try.ntmps54
  go_wp2_with fail
  refine wp_region_grow (by kernel_rfl) (by kernel_rfl) ?_
  repeat (go_big_quiet_step (((first | with_reducible exact s1.quiet _ | with_reducible exact s1.quiet2 _ _ | with_reducible exact s2.quiet _ | with_reducible exact s2.quiet2 _ _ | with_reducible exact c1.quiet _ | with_reducible exact c1.quiet2 _ _ | with_reducible exact d1.quiet _ | with_reducible exact d1.quiet2 _ _ | with_reducible exact k0.quiet _ | with_reducible exact k0.quiet2 _ _))))
  refine wpQuiet_nil ?_
  rintro _ ⟨xg, rfl⟩
  go_wp2_with fail
  refine wp_region_make 5 ?_ 10 (.cells #[.int .i64 0, .int .i64 0, .int .i64 0] 36) (by kernel_rfl) (by kernel_rfl) (by kernel_rfl) (fun d hd => by cases hd; exact ⟨_, rfl, rfl, rfl, fun A u => alloc_V A _ rfl u⟩) (fun pp => ?_) (fun pp qq => ?_)
  rotate_left
  · simp only [List.take_succ_cons, List.take_zero]
    repeat (go_big_quiet_step (((first | with_reducible exact s3.quiet _ | with_reducible exact s3.quiet2 _ _ | with_reducible exact c2.quiet _ | with_reducible exact c2.quiet2 _ _))))
    refine wpQuiet_nil ?_
    exact rfl
  simp only [List.drop_succ_cons, List.drop_zero]
  try simp only [Act.put, List.setIfInBounds_toArray, List.set_cons_succ, List.set_cons_zero]
  go_wp2_with (first | (go_at_call 69; first | ((with_reducible refine (k1.at_ _).mono ?_); rintro e w' ⟨rfl, xg, rfl⟩)))
  go_ret
  exact ⟨rfl, (by repeat (first | exact Below.refl _ _ | refine bel_then ?_ _ | refine bel_grow ?_ _ | refine bel_alloc ?_ _ | refine bel_drew ?_ | refine bel_set ?_ (by simp) _ | refine bel_setRow ?_ (by first | omega | simp; done | exact Nat.le_trans (by simp) (top_le _ _)) _))⟩
set_option maxRecDepth 100000 in
set_option maxHeartbeats 1000000 in
theorem rPass_p2 (o d a b q : P3) (t s : Int) (s1 : Gives Try.prog 33 #[.agg #[.int .i64 a.x, .int .i64 a.y, .int .i64 a.z], .agg #[.int .i64 o.x, .int .i64 o.y, .int .i64 o.z]] (.agg #[.int .i64 (sb a o).x, .int .i64 (sb a o).y, .int .i64 (sb a o).z])) (s2 : Gives Try.prog 33 #[.agg #[.int .i64 b.x, .int .i64 b.y, .int .i64 b.z], .agg #[.int .i64 o.x, .int .i64 o.y, .int .i64 o.z]] (.agg #[.int .i64 (sb b o).x, .int .i64 (sb b o).y, .int .i64 (sb b o).z])) (s3 : Gives Try.prog 33 #[.agg #[.int .i64 a.x, .int .i64 a.y, .int .i64 a.z], .agg #[.int .i64 b.x, .int .i64 b.y, .int .i64 b.z]] (.agg #[.int .i64 (sb a b).x, .int .i64 (sb a b).y, .int .i64 (sb a b).z])) (c1 : Gives Try.prog 36 #[.agg #[.int .i64 (sb a o).x, .int .i64 (sb a o).y, .int .i64 (sb a o).z], .agg #[.int .i64 (sb b o).x, .int .i64 (sb b o).y, .int .i64 (sb b o).z]] (.agg #[.int .i64 (cr (sb a o) (sb b o)).x, .int .i64 (cr (sb a o) (sb b o)).y, .int .i64 (cr (sb a o) (sb b o)).z])) (d1 : Gives Try.prog 35 #[.agg #[.int .i64 d.x, .int .i64 d.y, .int .i64 d.z], .agg #[.int .i64 (cr (sb a o) (sb b o)).x, .int .i64 (cr (sb a o) (sb b o)).y, .int .i64 (cr (sb a o) (sb b o)).z]] (.int .i64 t)) (c2 : Gives Try.prog 36 #[.agg #[.int .i64 (sb a b).x, .int .i64 (sb a b).y, .int .i64 (sb a b).z], .agg #[.int .i64 d.x, .int .i64 d.y, .int .i64 d.z]] (.agg #[.int .i64 q.x, .int .i64 q.y, .int .i64 q.z])) (k0 : Gives Try.prog 69 #[.int .i64 t] (.int .i64 0)) (k1 : Gives Try.prog 69 #[.int .i64 q.x] (.int .i64 0)) (k2 : Gives Try.prog 69 #[.int .i64 q.y] (.int .i64 s)) (hs : s ≠ 0) : Gives Try.prog 54 #[.agg #[.int .i64 o.x, .int .i64 o.y, .int .i64 o.z], .agg #[.int .i64 d.x, .int .i64 d.y, .int .i64 d.z], .agg #[.int .i64 a.x, .int .i64 a.y, .int .i64 a.z], .agg #[.int .i64 b.x, .int .i64 b.y, .int .i64 b.z]] (.int .i64 s) := by
  refine Gives.mk fun w => ?_
  have g1 : (s == 0) = false := by simpa using hs
  clear hs
  go_enter Try.func54, Try.ntmps54
  go_wp2_with fail
  refine wp_region_grow (by kernel_rfl) (by kernel_rfl) ?_
  repeat (go_big_quiet_step (((first | with_reducible exact s1.quiet _ | with_reducible exact s1.quiet2 _ _ | with_reducible exact s2.quiet _ | with_reducible exact s2.quiet2 _ _ | with_reducible exact c1.quiet _ | with_reducible exact c1.quiet2 _ _ | with_reducible exact d1.quiet _ | with_reducible exact d1.quiet2 _ _ | with_reducible exact k0.quiet _ | with_reducible exact k0.quiet2 _ _))))
  refine wpQuiet_nil ?_
  rintro _ ⟨xg, rfl⟩
  go_wp2_with fail
  refine wp_region_make 5 ?_ 10 (.cells #[.int .i64 0, .int .i64 0, .int .i64 0] 36) (by kernel_rfl) (by kernel_rfl) (by kernel_rfl) (fun d hd => by cases hd; exact ⟨_, rfl, rfl, rfl, fun A u => alloc_V A _ rfl u⟩) (fun pp => ?_) (fun pp qq => ?_)
  rotate_left
  · simp only [List.take_succ_cons, List.take_zero]
    repeat (go_big_quiet_step (((first | with_reducible exact s3.quiet _ | with_reducible exact s3.quiet2 _ _ | with_reducible exact c2.quiet _ | with_reducible exact c2.quiet2 _ _))))
    refine wpQuiet_nil ?_
    exact rfl
  simp only [List.drop_succ_cons, List.drop_zero]
  try simp only [Act.put, List.setIfInBounds_toArray, List.set_cons_succ, List.set_cons_zero]
  go_wp2_with (first | (go_at_call 69; first | ((with_reducible refine (k1.at_ _).mono ?_); rintro e w' ⟨rfl, xg, rfl⟩) | ((with_reducible refine (k2.at_ _).mono ?_); rintro e w' ⟨rfl, xg, rfl⟩)))
  go_ret
  exact ⟨rfl, (by repeat (first | exact Below.refl _ _ | refine bel_then ?_ _ | refine bel_grow ?_ _ | refine bel_alloc ?_ _ | refine bel_drew ?_ | refine bel_set ?_ (by simp) _ | refine bel_setRow ?_ (by first | omega | simp; done | exact Nat.le_trans (by simp) (top_le _ _)) _))⟩
set_option maxRecDepth 100000 in
set_option maxHeartbeats 1000000 in
theorem rPass_p3 (o d a b q : P3) (t s : Int) (s1 : Gives Try.prog 33 #[.agg #[.int .i64 a.x, .int .i64 a.y, .int .i64 a.z], .agg #[.int .i64 o.x, .int .i64 o.y, .int .i64 o.z]] (.agg #[.int .i64 (sb a o).x, .int .i64 (sb a o).y, .int .i64 (sb a o).z])) (s2 : Gives Try.prog 33 #[.agg #[.int .i64 b.x, .int .i64 b.y, .int .i64 b.z], .agg #[.int .i64 o.x, .int .i64 o.y, .int .i64 o.z]] (.agg #[.int .i64 (sb b o).x, .int .i64 (sb b o).y, .int .i64 (sb b o).z])) (s3 : Gives Try.prog 33 #[.agg #[.int .i64 a.x, .int .i64 a.y, .int .i64 a.z], .agg #[.int .i64 b.x, .int .i64 b.y, .int .i64 b.z]] (.agg #[.int .i64 (sb a b).x, .int .i64 (sb a b).y, .int .i64 (sb a b).z])) (c1 : Gives Try.prog 36 #[.agg #[.int .i64 (sb a o).x, .int .i64 (sb a o).y, .int .i64 (sb a o).z], .agg #[.int .i64 (sb b o).x, .int .i64 (sb b o).y, .int .i64 (sb b o).z]] (.agg #[.int .i64 (cr (sb a o) (sb b o)).x, .int .i64 (cr (sb a o) (sb b o)).y, .int .i64 (cr (sb a o) (sb b o)).z])) (d1 : Gives Try.prog 35 #[.agg #[.int .i64 d.x, .int .i64 d.y, .int .i64 d.z], .agg #[.int .i64 (cr (sb a o) (sb b o)).x, .int .i64 (cr (sb a o) (sb b o)).y, .int .i64 (cr (sb a o) (sb b o)).z]] (.int .i64 t)) (c2 : Gives Try.prog 36 #[.agg #[.int .i64 (sb a b).x, .int .i64 (sb a b).y, .int .i64 (sb a b).z], .agg #[.int .i64 d.x, .int .i64 d.y, .int .i64 d.z]] (.agg #[.int .i64 q.x, .int .i64 q.y, .int .i64 q.z])) (k0 : Gives Try.prog 69 #[.int .i64 t] (.int .i64 0)) (k1 : Gives Try.prog 69 #[.int .i64 q.x] (.int .i64 0)) (k2 : Gives Try.prog 69 #[.int .i64 q.y] (.int .i64 0)) (k3 : Gives Try.prog 69 #[.int .i64 q.z] (.int .i64 s))  : Gives Try.prog 54 #[.agg #[.int .i64 o.x, .int .i64 o.y, .int .i64 o.z], .agg #[.int .i64 d.x, .int .i64 d.y, .int .i64 d.z], .agg #[.int .i64 a.x, .int .i64 a.y, .int .i64 a.z], .agg #[.int .i64 b.x, .int .i64 b.y, .int .i64 b.z]] (.int .i64 s) := by
  refine Gives.mk fun w => ?_
  go_enter Try.func54, Try.ntmps54
  go_wp2_with fail
  refine wp_region_grow (by kernel_rfl) (by kernel_rfl) ?_
  repeat (go_big_quiet_step (((first | with_reducible exact s1.quiet _ | with_reducible exact s1.quiet2 _ _ | with_reducible exact s2.quiet _ | with_reducible exact s2.quiet2 _ _ | with_reducible exact c1.quiet _ | with_reducible exact c1.quiet2 _ _ | with_reducible exact d1.quiet _ | with_reducible exact d1.quiet2 _ _ | with_reducible exact k0.quiet _ | with_reducible exact k0.quiet2 _ _))))
  refine wpQuiet_nil ?_
  rintro _ ⟨xg, rfl⟩
  go_wp2_with fail
  refine wp_region_make 5 ?_ 10 (.cells #[.int .i64 0, .int .i64 0, .int .i64 0] 36) (by kernel_rfl) (by kernel_rfl) (by kernel_rfl) (fun d hd => by cases hd; exact ⟨_, rfl, rfl, rfl, fun A u => alloc_V A _ rfl u⟩) (fun pp => ?_) (fun pp qq => ?_)
  rotate_left
  · simp only [List.take_succ_cons, List.take_zero]
    repeat (go_big_quiet_step (((first | with_reducible exact s3.quiet _ | with_reducible exact s3.quiet2 _ _ | with_reducible exact c2.quiet _ | with_reducible exact c2.quiet2 _ _))))
    refine wpQuiet_nil ?_
    exact rfl
  simp only [List.drop_succ_cons, List.drop_zero]
  try simp only [Act.put, List.setIfInBounds_toArray, List.set_cons_succ, List.set_cons_zero]
  go_wp2_with (first | (go_at_call 69; first | ((with_reducible refine (k1.at_ _).mono ?_); rintro e w' ⟨rfl, xg, rfl⟩) | ((with_reducible refine (k2.at_ _).mono ?_); rintro e w' ⟨rfl, xg, rfl⟩) | ((with_reducible refine (k3.at_ _).mono ?_); rintro e w' ⟨rfl, xg, rfl⟩)))
  go_ret
  exact ⟨rfl, (by repeat (first | exact Below.refl _ _ | refine bel_then ?_ _ | refine bel_grow ?_ _ | refine bel_alloc ?_ _ | refine bel_drew ?_ | refine bel_set ?_ (by simp) _ | refine bel_setRow ?_ (by first | omega | simp; done | exact Nat.le_trans (by simp) (top_le _ _)) _))⟩
theorem rPass_any (o d a b : P3) (ho : Sp o) (hd : Dr d) (ha : Sp a) (hb : Sp b) : Gives Try.prog 54 #[.agg #[.int .i64 o.x, .int .i64 o.y, .int .i64 o.z], .agg #[.int .i64 d.x, .int .i64 d.y, .int .i64 d.z], .agg #[.int .i64 a.x, .int .i64 a.y, .int .i64 a.z], .agg #[.int .i64 b.x, .int .i64 b.y, .int .i64 b.z]] (.int .i64 (pS o d a b)) := by
  have i1 := sb_in ha ho
  have i2 := sb_in hb ho
  have i3 := sb_in ha hb
  have s1 := rSub_P a o (by unfold InP at *; omega)
  have s2 := rSub_P b o (by unfold InP at *; omega)
  have s3 := rSub_P a b (by unfold InP at *; omega)
  have c1 := rCross_P (sb a o) (sb b o) _ _ i1 i2 (by decide)
  have d1 : Gives Try.prog 35 #[.agg #[.int .i64 d.x, .int .i64 d.y, .int .i64 d.z], .agg #[.int .i64 (cr (sb a o) (sb b o)).x, .int .i64 (cr (sb a o) (sb b o)).y, .int .i64 (cr (sb a o) (sb b o)).z]] (.int .i64 (turn o d a b)) := rDot_P d _ _ _ hd (cr_in i1 i2) (by decide)
  have c2 : Gives Try.prog 36 #[.agg #[.int .i64 (sb a b).x, .int .i64 (sb a b).y, .int .i64 (sb a b).z], .agg #[.int .i64 d.x, .int .i64 d.y, .int .i64 d.z]] (.agg #[.int .i64 (grw d a b).x, .int .i64 (grw d a b).y, .int .i64 (grw d a b).z]) := rCross_P (sb a b) d _ _ i3 hd (by decide)
  have k0 := rSign_any (turn o d a b)
  have k1 := rSign_any (grw d a b).x
  have k2 := rSign_any (grw d a b).y
  have k3 := rSign_any (grw d a b).z
  have z : ∀ n : Int, n ≠ 0 → sgn n ≠ 0 := fun n h e => h (sgn_zero e)
  unfold pS
  by_cases h0 : turn o d a b = 0
  · rw [h0] at k0 d1 ⊢
    by_cases h1 : (grw d a b).x = 0
    · by_cases h2 : (grw d a b).y = 0
      · rw [h1, h2, orI_3]
        rw [h1] at k1
        rw [h2] at k2
        exact rPass_p3 o d a b ⟨0, 0, (grw d a b).z⟩ 0 _ s1 s2 s3 c1 d1 (by have := c2; rw [h1, h2] at this; exact this) k0 k1 k2 k3
      · rw [h1, orI_2 h2]
        rw [h1] at k1
        exact rPass_p2 o d a b ⟨0, (grw d a b).y, (grw d a b).z⟩ 0 _ s1 s2 s3 c1 d1 (by have := c2; rw [h1] at this; exact this) k0 k1 k2 (z _ h2)
    · rw [orI_1 h1]
      exact rPass_p1 o d a b _ 0 _ s1 s2 s3 c1 d1 c2 k0 k1 (z _ h1)
  · rw [orI_0 h0]
    exact rPass_p0 o d a b _ _ _ s1 s2 s3 c1 d1 c2 k0 (z _ h0)
theorem rSide_l (o d a b : P3) (s : Int) (ln : Gives Try.prog 31 #[.agg #[.int .i64 o.x, .int .i64 o.y, .int .i64 o.z], .agg #[.int .i64 d.x, .int .i64 d.y, .int .i64 d.z]] (.bool false)) : Gives Try.prog 24 #[.agg #[.int .i64 o.x, .int .i64 o.y, .int .i64 o.z], .agg #[.int .i64 d.x, .int .i64 d.y, .int .i64 d.z], .agg #[.int .i64 a.x, .int .i64 a.y, .int .i64 a.z], .agg #[.int .i64 b.x, .int .i64 b.y, .int .i64 b.z]] (.tuple #[.int .i64 0, .int .i64 21]) := by
  refine Gives.mk fun w => ?_
  go_enter Try.func24, Try.ntmps24
  go_wp2_with (first | (go_at_call 31; first | ((with_reducible refine (ln.at_ _).mono ?_); rintro e w' ⟨rfl, xg, rfl⟩)))
  go_ret2
  exact ⟨rfl, (by repeat (first | exact Below.refl _ _ | refine bel_then ?_ _ | refine bel_grow ?_ _ | refine bel_alloc ?_ _ | refine bel_drew ?_ | refine bel_set ?_ (by simp) _ | refine bel_setRow ?_ (by first | omega | simp; done | exact Nat.le_trans (by simp) (top_le _ _)) _))⟩
theorem rSide_a (o d a b : P3) (s : Int) (ln : Gives Try.prog 31 #[.agg #[.int .i64 o.x, .int .i64 o.y, .int .i64 o.z], .agg #[.int .i64 d.x, .int .i64 d.y, .int .i64 d.z]] (.bool true)) (wa : Gives Try.prog 32 #[.agg #[.int .i64 a.x, .int .i64 a.y, .int .i64 a.z], .int .i64 65536] (.bool false)) : Gives Try.prog 24 #[.agg #[.int .i64 o.x, .int .i64 o.y, .int .i64 o.z], .agg #[.int .i64 d.x, .int .i64 d.y, .int .i64 d.z], .agg #[.int .i64 a.x, .int .i64 a.y, .int .i64 a.z], .agg #[.int .i64 b.x, .int .i64 b.y, .int .i64 b.z]] (.tuple #[.int .i64 0, .int .i64 21]) := by
  refine Gives.mk fun w => ?_
  go_enter Try.func24, Try.ntmps24
  go_wp2_with (first | (go_at_call 31; first | ((with_reducible refine (ln.at_ _).mono ?_); rintro e w' ⟨rfl, xg, rfl⟩)) | (go_at_call 32; first | ((with_reducible refine (wa.at_ _).mono ?_); rintro e w' ⟨rfl, xg, rfl⟩)))
  go_ret2
  exact ⟨rfl, (by repeat (first | exact Below.refl _ _ | refine bel_then ?_ _ | refine bel_grow ?_ _ | refine bel_alloc ?_ _ | refine bel_drew ?_ | refine bel_set ?_ (by simp) _ | refine bel_setRow ?_ (by first | omega | simp; done | exact Nat.le_trans (by simp) (top_le _ _)) _))⟩
theorem rSide_b (o d a b : P3) (s : Int) (ln : Gives Try.prog 31 #[.agg #[.int .i64 o.x, .int .i64 o.y, .int .i64 o.z], .agg #[.int .i64 d.x, .int .i64 d.y, .int .i64 d.z]] (.bool true)) (wa : Gives Try.prog 32 #[.agg #[.int .i64 a.x, .int .i64 a.y, .int .i64 a.z], .int .i64 65536] (.bool true)) (wb : Gives Try.prog 32 #[.agg #[.int .i64 b.x, .int .i64 b.y, .int .i64 b.z], .int .i64 65536] (.bool false)) : Gives Try.prog 24 #[.agg #[.int .i64 o.x, .int .i64 o.y, .int .i64 o.z], .agg #[.int .i64 d.x, .int .i64 d.y, .int .i64 d.z], .agg #[.int .i64 a.x, .int .i64 a.y, .int .i64 a.z], .agg #[.int .i64 b.x, .int .i64 b.y, .int .i64 b.z]] (.tuple #[.int .i64 0, .int .i64 21]) := by
  refine Gives.mk fun w => ?_
  go_enter Try.func24, Try.ntmps24
  go_wp2_with (first | (go_at_call 31; first | ((with_reducible refine (ln.at_ _).mono ?_); rintro e w' ⟨rfl, xg, rfl⟩)) | (go_at_call 32; first | ((with_reducible refine (wa.at_ _).mono ?_); rintro e w' ⟨rfl, xg, rfl⟩) | ((with_reducible refine (wb.at_ _).mono ?_); rintro e w' ⟨rfl, xg, rfl⟩)))
  go_ret2
  exact ⟨rfl, (by repeat (first | exact Below.refl _ _ | refine bel_then ?_ _ | refine bel_grow ?_ _ | refine bel_alloc ?_ _ | refine bel_drew ?_ | refine bel_set ?_ (by simp) _ | refine bel_setRow ?_ (by first | omega | simp; done | exact Nat.le_trans (by simp) (top_le _ _)) _))⟩
theorem rSide_y (o d a b : P3) (s : Int) (ln : Gives Try.prog 31 #[.agg #[.int .i64 o.x, .int .i64 o.y, .int .i64 o.z], .agg #[.int .i64 d.x, .int .i64 d.y, .int .i64 d.z]] (.bool true)) (wa : Gives Try.prog 32 #[.agg #[.int .i64 a.x, .int .i64 a.y, .int .i64 a.z], .int .i64 65536] (.bool true)) (wb : Gives Try.prog 32 #[.agg #[.int .i64 b.x, .int .i64 b.y, .int .i64 b.z], .int .i64 65536] (.bool true)) (p : Gives Try.prog 54 #[.agg #[.int .i64 o.x, .int .i64 o.y, .int .i64 o.z], .agg #[.int .i64 d.x, .int .i64 d.y, .int .i64 d.z], .agg #[.int .i64 a.x, .int .i64 a.y, .int .i64 a.z], .agg #[.int .i64 b.x, .int .i64 b.y, .int .i64 b.z]] (.int .i64 s)) : Gives Try.prog 24 #[.agg #[.int .i64 o.x, .int .i64 o.y, .int .i64 o.z], .agg #[.int .i64 d.x, .int .i64 d.y, .int .i64 d.z], .agg #[.int .i64 a.x, .int .i64 a.y, .int .i64 a.z], .agg #[.int .i64 b.x, .int .i64 b.y, .int .i64 b.z]] (.tuple #[.int .i64 s, .int .i64 0]) := by
  refine Gives.mk fun w => ?_
  go_enter Try.func24, Try.ntmps24
  go_wp2_with (first | (go_at_call 31; first | ((with_reducible refine (ln.at_ _).mono ?_); rintro e w' ⟨rfl, xg, rfl⟩)) | (go_at_call 32; first | ((with_reducible refine (wa.at_ _).mono ?_); rintro e w' ⟨rfl, xg, rfl⟩) | ((with_reducible refine (wb.at_ _).mono ?_); rintro e w' ⟨rfl, xg, rfl⟩)) | (go_at_call 54; first | ((with_reducible refine (p.at_ _).mono ?_); rintro e w' ⟨rfl, xg, rfl⟩)))
  go_ret2
  exact ⟨rfl, (by repeat (first | exact Below.refl _ _ | refine bel_then ?_ _ | refine bel_grow ?_ _ | refine bel_alloc ?_ _ | refine bel_drew ?_ | refine bel_set ?_ (by simp) _ | refine bel_setRow ?_ (by first | omega | simp; done | exact Nat.le_trans (by simp) (top_le _ _)) _))⟩
theorem rSide_any (o d a b : P3) : Gives Try.prog 24 #[.agg #[.int .i64 o.x, .int .i64 o.y, .int .i64 o.z], .agg #[.int .i64 d.x, .int .i64 d.y, .int .i64 d.z], .agg #[.int .i64 a.x, .int .i64 a.y, .int .i64 a.z], .agg #[.int .i64 b.x, .int .i64 b.y, .int .i64 b.z]] (.tuple #[.int .i64 (siV o d a b), .int .i64 (siE o d a b)]) := by
  have ln := rLine_any o d
  have wa := uWithin_any a.x a.y a.z 65536 (by omega) (by omega)
  have wb := uWithin_any b.x b.y b.z 65536 (by omega) (by omega)
  have ea : wiB a.x a.y a.z 65536 = inB3 a := rfl
  have eb : wiB b.x b.y b.z 65536 = inB3 b := rfl
  rw [ea] at wa
  rw [eb] at wb
  unfold siV siE siB
  by_cases hl : lnB o d = true
  · by_cases ha : inB3 a = true
    · by_cases hb : inB3 b = true
      · rw [hl] at ln
        rw [ha] at wa
        rw [hb] at wb
        simp only [hl, ha, hb, Bool.and_self, if_true]
        exact rSide_y o d a b _ ln wa wb (rPass_any o d a b (lnB_in hl).1 (lnB_in hl).2 (inB3_sp.1 ha) (inB3_sp.1 hb))
      · have hb : inB3 b = false := by simpa using hb
        rw [hl] at ln
        rw [ha] at wa
        rw [hb] at wb
        simp only [hl, ha, hb, Bool.and_false, Bool.false_eq_true, if_false]
        exact rSide_b o d a b 0 ln wa wb
    · have ha : inB3 a = false := by simpa using ha
      rw [hl] at ln
      rw [ha] at wa
      simp only [hl, ha, Bool.false_and, Bool.and_false, Bool.false_eq_true, if_false]
      exact rSide_a o d a b 0 ln wa
  · have hl : lnB o d = false := by simpa using hl
    rw [hl] at ln
    simp only [hl, Bool.false_and, Bool.false_eq_true, if_false]
    exact rSide_l o d a b 0 ln
set_option maxRecDepth 100000 in
set_option maxHeartbeats 2000000 in
theorem rMeet_l (o d a b c : P3) (s1 s2 s0 fa st : Int) (ln : Gives Try.prog 31 #[.agg #[.int .i64 o.x, .int .i64 o.y, .int .i64 o.z], .agg #[.int .i64 d.x, .int .i64 d.y, .int .i64 d.z]] (.bool false)) : Gives Try.prog 26 #[.agg #[.int .i64 o.x, .int .i64 o.y, .int .i64 o.z], .agg #[.int .i64 d.x, .int .i64 d.y, .int .i64 d.z], .agg #[.int .i64 a.x, .int .i64 a.y, .int .i64 a.z, .int .i64 b.x, .int .i64 b.y, .int .i64 b.z, .int .i64 c.x, .int .i64 c.y, .int .i64 c.z]] (.tuple #[.agg #[.int .i64 (0), .int .i64 (0), .bool (false), .int .i64 0, .int .i64 0], .bool (false), .int .i64 (21)]) := by
  refine Gives.mk fun w => ?_
  go_enter Try.func26, Try.ntmps26
  go_wp2_with (first | (go_at_call 31; first | ((with_reducible refine (ln.at_ _).mono ?_); rintro e w' ⟨rfl, xg, rfl⟩)))
  refine bodyPost_ret (v := .tuple #[.agg #[.int .i64 (0), .int .i64 (0), .bool (false), .int .i64 0, .int .i64 0], .bool (false), .int .i64 (21)]) (by simp [results, Try.results26, go_sem]) rfl ⟨rfl, (by repeat (first | exact Below.refl _ _ | refine bel_then ?_ _ | refine bel_grow ?_ _ | refine bel_alloc ?_ _ | refine bel_drew ?_ | refine bel_set ?_ (by simp) _ | refine bel_setRow ?_ (by first | omega | simp; done | exact Nat.le_trans (by simp) (top_le _ _)) _))⟩
set_option maxRecDepth 100000 in
set_option maxHeartbeats 2000000 in
theorem rMeet_a (o d a b c : P3) (s1 s2 s0 fa st : Int) (ln : Gives Try.prog 31 #[.agg #[.int .i64 o.x, .int .i64 o.y, .int .i64 o.z], .agg #[.int .i64 d.x, .int .i64 d.y, .int .i64 d.z]] (.bool true)) (wa : Gives Try.prog 32 #[.agg #[.int .i64 a.x, .int .i64 a.y, .int .i64 a.z], .int .i64 65536] (.bool false)) : Gives Try.prog 26 #[.agg #[.int .i64 o.x, .int .i64 o.y, .int .i64 o.z], .agg #[.int .i64 d.x, .int .i64 d.y, .int .i64 d.z], .agg #[.int .i64 a.x, .int .i64 a.y, .int .i64 a.z, .int .i64 b.x, .int .i64 b.y, .int .i64 b.z, .int .i64 c.x, .int .i64 c.y, .int .i64 c.z]] (.tuple #[.agg #[.int .i64 (0), .int .i64 (0), .bool (false), .int .i64 0, .int .i64 0], .bool (false), .int .i64 (21)]) := by
  refine Gives.mk fun w => ?_
  go_enter Try.func26, Try.ntmps26
  go_wp2_with (first | (go_at_call 31; first | ((with_reducible refine (ln.at_ _).mono ?_); rintro e w' ⟨rfl, xg, rfl⟩)) | (go_at_call 32; first | ((with_reducible refine (wa.at_ _).mono ?_); rintro e w' ⟨rfl, xg, rfl⟩)))
  refine bodyPost_ret (v := .tuple #[.agg #[.int .i64 (0), .int .i64 (0), .bool (false), .int .i64 0, .int .i64 0], .bool (false), .int .i64 (21)]) (by simp [results, Try.results26, go_sem]) rfl ⟨rfl, (by repeat (first | exact Below.refl _ _ | refine bel_then ?_ _ | refine bel_grow ?_ _ | refine bel_alloc ?_ _ | refine bel_drew ?_ | refine bel_set ?_ (by simp) _ | refine bel_setRow ?_ (by first | omega | simp; done | exact Nat.le_trans (by simp) (top_le _ _)) _))⟩
set_option maxRecDepth 100000 in
set_option maxHeartbeats 2000000 in
theorem rMeet_b (o d a b c : P3) (s1 s2 s0 fa st : Int) (ln : Gives Try.prog 31 #[.agg #[.int .i64 o.x, .int .i64 o.y, .int .i64 o.z], .agg #[.int .i64 d.x, .int .i64 d.y, .int .i64 d.z]] (.bool true)) (wa : Gives Try.prog 32 #[.agg #[.int .i64 a.x, .int .i64 a.y, .int .i64 a.z], .int .i64 65536] (.bool true)) (wb : Gives Try.prog 32 #[.agg #[.int .i64 b.x, .int .i64 b.y, .int .i64 b.z], .int .i64 65536] (.bool false)) : Gives Try.prog 26 #[.agg #[.int .i64 o.x, .int .i64 o.y, .int .i64 o.z], .agg #[.int .i64 d.x, .int .i64 d.y, .int .i64 d.z], .agg #[.int .i64 a.x, .int .i64 a.y, .int .i64 a.z, .int .i64 b.x, .int .i64 b.y, .int .i64 b.z, .int .i64 c.x, .int .i64 c.y, .int .i64 c.z]] (.tuple #[.agg #[.int .i64 (0), .int .i64 (0), .bool (false), .int .i64 0, .int .i64 0], .bool (false), .int .i64 (21)]) := by
  refine Gives.mk fun w => ?_
  go_enter Try.func26, Try.ntmps26
  go_wp2_with (first | (go_at_call 31; first | ((with_reducible refine (ln.at_ _).mono ?_); rintro e w' ⟨rfl, xg, rfl⟩)) | (go_at_call 32; first | ((with_reducible refine (wa.at_ _).mono ?_); rintro e w' ⟨rfl, xg, rfl⟩) | ((with_reducible refine (wb.at_ _).mono ?_); rintro e w' ⟨rfl, xg, rfl⟩)))
  refine bodyPost_ret (v := .tuple #[.agg #[.int .i64 (0), .int .i64 (0), .bool (false), .int .i64 0, .int .i64 0], .bool (false), .int .i64 (21)]) (by simp [results, Try.results26, go_sem]) rfl ⟨rfl, (by repeat (first | exact Below.refl _ _ | refine bel_then ?_ _ | refine bel_grow ?_ _ | refine bel_alloc ?_ _ | refine bel_drew ?_ | refine bel_set ?_ (by simp) _ | refine bel_setRow ?_ (by first | omega | simp; done | exact Nat.le_trans (by simp) (top_le _ _)) _))⟩
set_option maxRecDepth 100000 in
set_option maxHeartbeats 2000000 in
theorem rMeet_c (o d a b c : P3) (s1 s2 s0 fa st : Int) (ln : Gives Try.prog 31 #[.agg #[.int .i64 o.x, .int .i64 o.y, .int .i64 o.z], .agg #[.int .i64 d.x, .int .i64 d.y, .int .i64 d.z]] (.bool true)) (wa : Gives Try.prog 32 #[.agg #[.int .i64 a.x, .int .i64 a.y, .int .i64 a.z], .int .i64 65536] (.bool true)) (wb : Gives Try.prog 32 #[.agg #[.int .i64 b.x, .int .i64 b.y, .int .i64 b.z], .int .i64 65536] (.bool true)) (wc : Gives Try.prog 32 #[.agg #[.int .i64 c.x, .int .i64 c.y, .int .i64 c.z], .int .i64 65536] (.bool false)) : Gives Try.prog 26 #[.agg #[.int .i64 o.x, .int .i64 o.y, .int .i64 o.z], .agg #[.int .i64 d.x, .int .i64 d.y, .int .i64 d.z], .agg #[.int .i64 a.x, .int .i64 a.y, .int .i64 a.z, .int .i64 b.x, .int .i64 b.y, .int .i64 b.z, .int .i64 c.x, .int .i64 c.y, .int .i64 c.z]] (.tuple #[.agg #[.int .i64 (0), .int .i64 (0), .bool (false), .int .i64 0, .int .i64 0], .bool (false), .int .i64 (21)]) := by
  refine Gives.mk fun w => ?_
  go_enter Try.func26, Try.ntmps26
  go_wp2_with (first | (go_at_call 31; first | ((with_reducible refine (ln.at_ _).mono ?_); rintro e w' ⟨rfl, xg, rfl⟩)) | (go_at_call 32; first | ((with_reducible refine (wa.at_ _).mono ?_); rintro e w' ⟨rfl, xg, rfl⟩) | ((with_reducible refine (wb.at_ _).mono ?_); rintro e w' ⟨rfl, xg, rfl⟩) | ((with_reducible refine (wc.at_ _).mono ?_); rintro e w' ⟨rfl, xg, rfl⟩)))
  refine bodyPost_ret (v := .tuple #[.agg #[.int .i64 (0), .int .i64 (0), .bool (false), .int .i64 0, .int .i64 0], .bool (false), .int .i64 (21)]) (by simp [results, Try.results26, go_sem]) rfl ⟨rfl, (by repeat (first | exact Below.refl _ _ | refine bel_then ?_ _ | refine bel_grow ?_ _ | refine bel_alloc ?_ _ | refine bel_drew ?_ | refine bel_set ?_ (by simp) _ | refine bel_setRow ?_ (by first | omega | simp; done | exact Nat.le_trans (by simp) (top_le _ _)) _))⟩
set_option maxRecDepth 100000 in
set_option maxHeartbeats 2000000 in
theorem rMeet_0 (o d a b c : P3) (s1 s2 s0 fa st : Int) (ln : Gives Try.prog 31 #[.agg #[.int .i64 o.x, .int .i64 o.y, .int .i64 o.z], .agg #[.int .i64 d.x, .int .i64 d.y, .int .i64 d.z]] (.bool true)) (wa : Gives Try.prog 32 #[.agg #[.int .i64 a.x, .int .i64 a.y, .int .i64 a.z], .int .i64 65536] (.bool true)) (wb : Gives Try.prog 32 #[.agg #[.int .i64 b.x, .int .i64 b.y, .int .i64 b.z], .int .i64 65536] (.bool true)) (wc : Gives Try.prog 32 #[.agg #[.int .i64 c.x, .int .i64 c.y, .int .i64 c.z], .int .i64 65536] (.bool true)) (p1 : Gives Try.prog 54 #[.agg #[.int .i64 o.x, .int .i64 o.y, .int .i64 o.z], .agg #[.int .i64 d.x, .int .i64 d.y, .int .i64 d.z], .agg #[.int .i64 a.x, .int .i64 a.y, .int .i64 a.z], .agg #[.int .i64 b.x, .int .i64 b.y, .int .i64 b.z]] (.int .i64 0)) : Gives Try.prog 26 #[.agg #[.int .i64 o.x, .int .i64 o.y, .int .i64 o.z], .agg #[.int .i64 d.x, .int .i64 d.y, .int .i64 d.z], .agg #[.int .i64 a.x, .int .i64 a.y, .int .i64 a.z, .int .i64 b.x, .int .i64 b.y, .int .i64 b.z, .int .i64 c.x, .int .i64 c.y, .int .i64 c.z]] (.tuple #[.agg #[.int .i64 (0), .int .i64 (0), .bool (false), .int .i64 0, .int .i64 0], .bool (false), .int .i64 (0)]) := by
  refine Gives.mk fun w => ?_
  go_enter Try.func26, Try.ntmps26
  go_wp2_with (first | (go_at_call 31; first | ((with_reducible refine (ln.at_ _).mono ?_); rintro e w' ⟨rfl, xg, rfl⟩)) | (go_at_call 32; first | ((with_reducible refine (wa.at_ _).mono ?_); rintro e w' ⟨rfl, xg, rfl⟩) | ((with_reducible refine (wb.at_ _).mono ?_); rintro e w' ⟨rfl, xg, rfl⟩) | ((with_reducible refine (wc.at_ _).mono ?_); rintro e w' ⟨rfl, xg, rfl⟩)) | (go_at_call 54; first | ((with_reducible refine (p1.at_ _).mono ?_); rintro e w' ⟨rfl, xg, rfl⟩)))
  refine bodyPost_ret (v := .tuple #[.agg #[.int .i64 (0), .int .i64 (0), .bool (false), .int .i64 0, .int .i64 0], .bool (false), .int .i64 (0)]) (by simp [results, Try.results26, go_sem]) rfl ⟨rfl, (by repeat (first | exact Below.refl _ _ | refine bel_then ?_ _ | refine bel_grow ?_ _ | refine bel_alloc ?_ _ | refine bel_drew ?_ | refine bel_set ?_ (by simp) _ | refine bel_setRow ?_ (by first | omega | simp; done | exact Nat.le_trans (by simp) (top_le _ _)) _))⟩
set_option maxRecDepth 100000 in
set_option maxHeartbeats 2000000 in
theorem rMeet_1 (o d a b c : P3) (s1 s2 s0 fa st : Int) (ln : Gives Try.prog 31 #[.agg #[.int .i64 o.x, .int .i64 o.y, .int .i64 o.z], .agg #[.int .i64 d.x, .int .i64 d.y, .int .i64 d.z]] (.bool true)) (wa : Gives Try.prog 32 #[.agg #[.int .i64 a.x, .int .i64 a.y, .int .i64 a.z], .int .i64 65536] (.bool true)) (wb : Gives Try.prog 32 #[.agg #[.int .i64 b.x, .int .i64 b.y, .int .i64 b.z], .int .i64 65536] (.bool true)) (wc : Gives Try.prog 32 #[.agg #[.int .i64 c.x, .int .i64 c.y, .int .i64 c.z], .int .i64 65536] (.bool true)) (p1 : Gives Try.prog 54 #[.agg #[.int .i64 o.x, .int .i64 o.y, .int .i64 o.z], .agg #[.int .i64 d.x, .int .i64 d.y, .int .i64 d.z], .agg #[.int .i64 a.x, .int .i64 a.y, .int .i64 a.z], .agg #[.int .i64 b.x, .int .i64 b.y, .int .i64 b.z]] (.int .i64 s1)) (p2 : Gives Try.prog 54 #[.agg #[.int .i64 o.x, .int .i64 o.y, .int .i64 o.z], .agg #[.int .i64 d.x, .int .i64 d.y, .int .i64 d.z], .agg #[.int .i64 b.x, .int .i64 b.y, .int .i64 b.z], .agg #[.int .i64 c.x, .int .i64 c.y, .int .i64 c.z]] (.int .i64 s2)) (h1 : s1 ≠ 0) (h2 : s2 ≠ s1) : Gives Try.prog 26 #[.agg #[.int .i64 o.x, .int .i64 o.y, .int .i64 o.z], .agg #[.int .i64 d.x, .int .i64 d.y, .int .i64 d.z], .agg #[.int .i64 a.x, .int .i64 a.y, .int .i64 a.z, .int .i64 b.x, .int .i64 b.y, .int .i64 b.z, .int .i64 c.x, .int .i64 c.y, .int .i64 c.z]] (.tuple #[.agg #[.int .i64 (0), .int .i64 (0), .bool (false), .int .i64 0, .int .i64 0], .bool (false), .int .i64 (0)]) := by
  refine Gives.mk fun w => ?_
  have g1 : (s1 == 0) = false := by simpa using h1
  have g2 : (s2 != s1) = true := by simpa using h2
  have g3 : (s2 == s1) = false := by simpa using h2
  clear h1 h2
  go_enter Try.func26, Try.ntmps26
  go_wp2_with (first | (go_at_call 31; first | ((with_reducible refine (ln.at_ _).mono ?_); rintro e w' ⟨rfl, xg, rfl⟩)) | (go_at_call 32; first | ((with_reducible refine (wa.at_ _).mono ?_); rintro e w' ⟨rfl, xg, rfl⟩) | ((with_reducible refine (wb.at_ _).mono ?_); rintro e w' ⟨rfl, xg, rfl⟩) | ((with_reducible refine (wc.at_ _).mono ?_); rintro e w' ⟨rfl, xg, rfl⟩)) | (go_at_call 54; first | ((with_reducible refine (p1.at_ _).mono ?_); rintro e w' ⟨rfl, xg, rfl⟩) | ((with_reducible refine (p2.at_ _).mono ?_); rintro e w' ⟨rfl, xg, rfl⟩)))
  refine bodyPost_ret (v := .tuple #[.agg #[.int .i64 (0), .int .i64 (0), .bool (false), .int .i64 0, .int .i64 0], .bool (false), .int .i64 (0)]) (by simp [results, Try.results26, go_sem]) rfl ⟨rfl, (by repeat (first | exact Below.refl _ _ | refine bel_then ?_ _ | refine bel_grow ?_ _ | refine bel_alloc ?_ _ | refine bel_drew ?_ | refine bel_set ?_ (by simp) _ | refine bel_setRow ?_ (by first | omega | simp; done | exact Nat.le_trans (by simp) (top_le _ _)) _))⟩
set_option maxRecDepth 100000 in
set_option maxHeartbeats 2000000 in
theorem rMeet_2 (o d a b c : P3) (s1 s2 s0 fa st : Int) (ln : Gives Try.prog 31 #[.agg #[.int .i64 o.x, .int .i64 o.y, .int .i64 o.z], .agg #[.int .i64 d.x, .int .i64 d.y, .int .i64 d.z]] (.bool true)) (wa : Gives Try.prog 32 #[.agg #[.int .i64 a.x, .int .i64 a.y, .int .i64 a.z], .int .i64 65536] (.bool true)) (wb : Gives Try.prog 32 #[.agg #[.int .i64 b.x, .int .i64 b.y, .int .i64 b.z], .int .i64 65536] (.bool true)) (wc : Gives Try.prog 32 #[.agg #[.int .i64 c.x, .int .i64 c.y, .int .i64 c.z], .int .i64 65536] (.bool true)) (p1 : Gives Try.prog 54 #[.agg #[.int .i64 o.x, .int .i64 o.y, .int .i64 o.z], .agg #[.int .i64 d.x, .int .i64 d.y, .int .i64 d.z], .agg #[.int .i64 a.x, .int .i64 a.y, .int .i64 a.z], .agg #[.int .i64 b.x, .int .i64 b.y, .int .i64 b.z]] (.int .i64 s1)) (p2 : Gives Try.prog 54 #[.agg #[.int .i64 o.x, .int .i64 o.y, .int .i64 o.z], .agg #[.int .i64 d.x, .int .i64 d.y, .int .i64 d.z], .agg #[.int .i64 b.x, .int .i64 b.y, .int .i64 b.z], .agg #[.int .i64 c.x, .int .i64 c.y, .int .i64 c.z]] (.int .i64 s1)) (p3 : Gives Try.prog 54 #[.agg #[.int .i64 o.x, .int .i64 o.y, .int .i64 o.z], .agg #[.int .i64 d.x, .int .i64 d.y, .int .i64 d.z], .agg #[.int .i64 c.x, .int .i64 c.y, .int .i64 c.z], .agg #[.int .i64 a.x, .int .i64 a.y, .int .i64 a.z]] (.int .i64 s0)) (h1 : s1 ≠ 0) (h2 : s0 ≠ s1) : Gives Try.prog 26 #[.agg #[.int .i64 o.x, .int .i64 o.y, .int .i64 o.z], .agg #[.int .i64 d.x, .int .i64 d.y, .int .i64 d.z], .agg #[.int .i64 a.x, .int .i64 a.y, .int .i64 a.z, .int .i64 b.x, .int .i64 b.y, .int .i64 b.z, .int .i64 c.x, .int .i64 c.y, .int .i64 c.z]] (.tuple #[.agg #[.int .i64 (0), .int .i64 (0), .bool (false), .int .i64 0, .int .i64 0], .bool (false), .int .i64 (0)]) := by
  refine Gives.mk fun w => ?_
  have g1 : (s1 == 0) = false := by simpa using h1
  have g2 : (s0 != s1) = true := by simpa using h2
  have g3 : (s0 == s1) = false := by simpa using h2
  clear h1 h2
  go_enter Try.func26, Try.ntmps26
  go_wp2_with (first | (go_at_call 31; first | ((with_reducible refine (ln.at_ _).mono ?_); rintro e w' ⟨rfl, xg, rfl⟩)) | (go_at_call 32; first | ((with_reducible refine (wa.at_ _).mono ?_); rintro e w' ⟨rfl, xg, rfl⟩) | ((with_reducible refine (wb.at_ _).mono ?_); rintro e w' ⟨rfl, xg, rfl⟩) | ((with_reducible refine (wc.at_ _).mono ?_); rintro e w' ⟨rfl, xg, rfl⟩)) | (go_at_call 54; first | ((with_reducible refine (p1.at_ _).mono ?_); rintro e w' ⟨rfl, xg, rfl⟩) | ((with_reducible refine (p2.at_ _).mono ?_); rintro e w' ⟨rfl, xg, rfl⟩) | ((with_reducible refine (p3.at_ _).mono ?_); rintro e w' ⟨rfl, xg, rfl⟩)))
  refine bodyPost_ret (v := .tuple #[.agg #[.int .i64 (0), .int .i64 (0), .bool (false), .int .i64 0, .int .i64 0], .bool (false), .int .i64 (0)]) (by simp [results, Try.results26, go_sem]) rfl ⟨rfl, (by repeat (first | exact Below.refl _ _ | refine bel_then ?_ _ | refine bel_grow ?_ _ | refine bel_alloc ?_ _ | refine bel_drew ?_ | refine bel_set ?_ (by simp) _ | refine bel_setRow ?_ (by first | omega | simp; done | exact Nat.le_trans (by simp) (top_le _ _)) _))⟩
set_option maxRecDepth 100000 in
set_option maxHeartbeats 2000000 in
theorem rMeet_low (o d a b c : P3) (s1 s2 s0 fa st : Int) (ln : Gives Try.prog 31 #[.agg #[.int .i64 o.x, .int .i64 o.y, .int .i64 o.z], .agg #[.int .i64 d.x, .int .i64 d.y, .int .i64 d.z]] (.bool true)) (wa : Gives Try.prog 32 #[.agg #[.int .i64 a.x, .int .i64 a.y, .int .i64 a.z], .int .i64 65536] (.bool true)) (wb : Gives Try.prog 32 #[.agg #[.int .i64 b.x, .int .i64 b.y, .int .i64 b.z], .int .i64 65536] (.bool true)) (wc : Gives Try.prog 32 #[.agg #[.int .i64 c.x, .int .i64 c.y, .int .i64 c.z], .int .i64 65536] (.bool true)) (p1 : Gives Try.prog 54 #[.agg #[.int .i64 o.x, .int .i64 o.y, .int .i64 o.z], .agg #[.int .i64 d.x, .int .i64 d.y, .int .i64 d.z], .agg #[.int .i64 a.x, .int .i64 a.y, .int .i64 a.z], .agg #[.int .i64 b.x, .int .i64 b.y, .int .i64 b.z]] (.int .i64 s1)) (p2 : Gives Try.prog 54 #[.agg #[.int .i64 o.x, .int .i64 o.y, .int .i64 o.z], .agg #[.int .i64 d.x, .int .i64 d.y, .int .i64 d.z], .agg #[.int .i64 b.x, .int .i64 b.y, .int .i64 b.z], .agg #[.int .i64 c.x, .int .i64 c.y, .int .i64 c.z]] (.int .i64 s1)) (p3 : Gives Try.prog 54 #[.agg #[.int .i64 o.x, .int .i64 o.y, .int .i64 o.z], .agg #[.int .i64 d.x, .int .i64 d.y, .int .i64 d.z], .agg #[.int .i64 c.x, .int .i64 c.y, .int .i64 c.z], .agg #[.int .i64 a.x, .int .i64 a.y, .int .i64 a.z]] (.int .i64 s1)) (h1 : s1 ≠ 0) (nm : Gives Try.prog 30 #[.agg #[.int .i64 a.x, .int .i64 a.y, .int .i64 a.z, .int .i64 b.x, .int .i64 b.y, .int .i64 b.z, .int .i64 c.x, .int .i64 c.y, .int .i64 c.z]] (.agg #[.int .i64 (nrm a b c).x, .int .i64 (nrm a b c).y, .int .i64 (nrm a b c).z])) (u1 : Gives Try.prog 33 #[.agg #[.int .i64 a.x, .int .i64 a.y, .int .i64 a.z], .agg #[.int .i64 o.x, .int .i64 o.y, .int .i64 o.z]] (.agg #[.int .i64 (sb a o).x, .int .i64 (sb a o).y, .int .i64 (sb a o).z])) (d1 : Gives Try.prog 35 #[.agg #[.int .i64 (nrm a b c).x, .int .i64 (nrm a b c).y, .int .i64 (nrm a b c).z], .agg #[.int .i64 (sb a o).x, .int .i64 (sb a o).y, .int .i64 (sb a o).z]] (.int .i64 fa)) (d2 : Gives Try.prog 35 #[.agg #[.int .i64 (nrm a b c).x, .int .i64 (nrm a b c).y, .int .i64 (nrm a b c).z], .agg #[.int .i64 d.x, .int .i64 d.y, .int .i64 d.z]] (.int .i64 st)) (f0 : -13510798882111488 ≤ fa) (f1 : fa ≤ 13510798882111488) (t0 : -13510798882111488 ≤ st) (t1 : st ≤ 13510798882111488) (h : st < 0) : Gives Try.prog 26 #[.agg #[.int .i64 o.x, .int .i64 o.y, .int .i64 o.z], .agg #[.int .i64 d.x, .int .i64 d.y, .int .i64 d.z], .agg #[.int .i64 a.x, .int .i64 a.y, .int .i64 a.z, .int .i64 b.x, .int .i64 b.y, .int .i64 b.z, .int .i64 c.x, .int .i64 c.y, .int .i64 c.z]] (.tuple #[.agg #[.int .i64 (-fa), .int .i64 (-st), .bool (decide (s1 < 0)), .int .i64 0, .int .i64 0], .bool (true), .int .i64 (0)]) := by
  refine Gives.mk fun w => ?_
  have g1 : (s1 == 0) = false := by simpa using h1
  clear h1
  have g2 : (st == 0) = false := by simp; omega
  have g3 : decide (st < 0) = true := by simpa using h
  go_enter Try.func26, Try.ntmps26
  go_wp2_with (first | (go_at_call 31; first | ((with_reducible refine (ln.at_ _).mono ?_); rintro e w' ⟨rfl, xg, rfl⟩)) | (go_at_call 32; first | ((with_reducible refine (wa.at_ _).mono ?_); rintro e w' ⟨rfl, xg, rfl⟩) | ((with_reducible refine (wb.at_ _).mono ?_); rintro e w' ⟨rfl, xg, rfl⟩) | ((with_reducible refine (wc.at_ _).mono ?_); rintro e w' ⟨rfl, xg, rfl⟩)) | (go_at_call 54; first | ((with_reducible refine (p1.at_ _).mono ?_); rintro e w' ⟨rfl, xg, rfl⟩) | ((with_reducible refine (p2.at_ _).mono ?_); rintro e w' ⟨rfl, xg, rfl⟩) | ((with_reducible refine (p3.at_ _).mono ?_); rintro e w' ⟨rfl, xg, rfl⟩)) | (go_at_call 30; first | ((with_reducible refine (nm.at_ _).mono ?_); rintro e w' ⟨rfl, xg, rfl⟩)))
  refine wp_region_grow (by kernel_rfl) (by kernel_rfl) ?_
  repeat (go_big_quiet_step (((first | with_reducible exact u1.quiet _ | with_reducible exact u1.quiet2 _ _ | with_reducible exact d1.quiet _ | with_reducible exact d1.quiet2 _ _))))
  refine wpQuiet_nil ?_
  rintro _ ⟨xg, rfl⟩
  go_wp2_with (first | (go_at_call 35; first | ((with_reducible refine (d2.at_ _).mono ?_); rintro e w' ⟨rfl, xg, rfl⟩)))
  refine bodyPost_ret (v := .tuple #[.agg #[.int .i64 (-fa), .int .i64 (-st), .bool (decide (s1 < 0)), .int .i64 0, .int .i64 0], .bool (true), .int .i64 (0)]) (by simp [results, Try.results26, go_sem]) rfl ⟨rfl, (by repeat (first | exact Below.refl _ _ | refine bel_then ?_ _ | refine bel_grow ?_ _ | refine bel_alloc ?_ _ | refine bel_drew ?_ | refine bel_set ?_ (by simp) _ | refine bel_setRow ?_ (by first | omega | simp; done | exact Nat.le_trans (by simp) (top_le _ _)) _))⟩
set_option maxRecDepth 100000 in
set_option maxHeartbeats 2000000 in
theorem rMeet_high (o d a b c : P3) (s1 s2 s0 fa st : Int) (ln : Gives Try.prog 31 #[.agg #[.int .i64 o.x, .int .i64 o.y, .int .i64 o.z], .agg #[.int .i64 d.x, .int .i64 d.y, .int .i64 d.z]] (.bool true)) (wa : Gives Try.prog 32 #[.agg #[.int .i64 a.x, .int .i64 a.y, .int .i64 a.z], .int .i64 65536] (.bool true)) (wb : Gives Try.prog 32 #[.agg #[.int .i64 b.x, .int .i64 b.y, .int .i64 b.z], .int .i64 65536] (.bool true)) (wc : Gives Try.prog 32 #[.agg #[.int .i64 c.x, .int .i64 c.y, .int .i64 c.z], .int .i64 65536] (.bool true)) (p1 : Gives Try.prog 54 #[.agg #[.int .i64 o.x, .int .i64 o.y, .int .i64 o.z], .agg #[.int .i64 d.x, .int .i64 d.y, .int .i64 d.z], .agg #[.int .i64 a.x, .int .i64 a.y, .int .i64 a.z], .agg #[.int .i64 b.x, .int .i64 b.y, .int .i64 b.z]] (.int .i64 s1)) (p2 : Gives Try.prog 54 #[.agg #[.int .i64 o.x, .int .i64 o.y, .int .i64 o.z], .agg #[.int .i64 d.x, .int .i64 d.y, .int .i64 d.z], .agg #[.int .i64 b.x, .int .i64 b.y, .int .i64 b.z], .agg #[.int .i64 c.x, .int .i64 c.y, .int .i64 c.z]] (.int .i64 s1)) (p3 : Gives Try.prog 54 #[.agg #[.int .i64 o.x, .int .i64 o.y, .int .i64 o.z], .agg #[.int .i64 d.x, .int .i64 d.y, .int .i64 d.z], .agg #[.int .i64 c.x, .int .i64 c.y, .int .i64 c.z], .agg #[.int .i64 a.x, .int .i64 a.y, .int .i64 a.z]] (.int .i64 s1)) (h1 : s1 ≠ 0) (nm : Gives Try.prog 30 #[.agg #[.int .i64 a.x, .int .i64 a.y, .int .i64 a.z, .int .i64 b.x, .int .i64 b.y, .int .i64 b.z, .int .i64 c.x, .int .i64 c.y, .int .i64 c.z]] (.agg #[.int .i64 (nrm a b c).x, .int .i64 (nrm a b c).y, .int .i64 (nrm a b c).z])) (u1 : Gives Try.prog 33 #[.agg #[.int .i64 a.x, .int .i64 a.y, .int .i64 a.z], .agg #[.int .i64 o.x, .int .i64 o.y, .int .i64 o.z]] (.agg #[.int .i64 (sb a o).x, .int .i64 (sb a o).y, .int .i64 (sb a o).z])) (d1 : Gives Try.prog 35 #[.agg #[.int .i64 (nrm a b c).x, .int .i64 (nrm a b c).y, .int .i64 (nrm a b c).z], .agg #[.int .i64 (sb a o).x, .int .i64 (sb a o).y, .int .i64 (sb a o).z]] (.int .i64 fa)) (d2 : Gives Try.prog 35 #[.agg #[.int .i64 (nrm a b c).x, .int .i64 (nrm a b c).y, .int .i64 (nrm a b c).z], .agg #[.int .i64 d.x, .int .i64 d.y, .int .i64 d.z]] (.int .i64 st)) (f0 : -13510798882111488 ≤ fa) (f1 : fa ≤ 13510798882111488) (t0 : -13510798882111488 ≤ st) (t1 : st ≤ 13510798882111488) (h : 0 < st) : Gives Try.prog 26 #[.agg #[.int .i64 o.x, .int .i64 o.y, .int .i64 o.z], .agg #[.int .i64 d.x, .int .i64 d.y, .int .i64 d.z], .agg #[.int .i64 a.x, .int .i64 a.y, .int .i64 a.z, .int .i64 b.x, .int .i64 b.y, .int .i64 b.z, .int .i64 c.x, .int .i64 c.y, .int .i64 c.z]] (.tuple #[.agg #[.int .i64 (fa), .int .i64 (st), .bool (decide (s1 < 0)), .int .i64 0, .int .i64 0], .bool (true), .int .i64 (0)]) := by
  refine Gives.mk fun w => ?_
  have g1 : (s1 == 0) = false := by simpa using h1
  clear h1
  have g2 : (st == 0) = false := by simp; omega
  have g3 : decide (st < 0) = false := by simp; omega
  go_enter Try.func26, Try.ntmps26
  go_wp2_with (first | (go_at_call 31; first | ((with_reducible refine (ln.at_ _).mono ?_); rintro e w' ⟨rfl, xg, rfl⟩)) | (go_at_call 32; first | ((with_reducible refine (wa.at_ _).mono ?_); rintro e w' ⟨rfl, xg, rfl⟩) | ((with_reducible refine (wb.at_ _).mono ?_); rintro e w' ⟨rfl, xg, rfl⟩) | ((with_reducible refine (wc.at_ _).mono ?_); rintro e w' ⟨rfl, xg, rfl⟩)) | (go_at_call 54; first | ((with_reducible refine (p1.at_ _).mono ?_); rintro e w' ⟨rfl, xg, rfl⟩) | ((with_reducible refine (p2.at_ _).mono ?_); rintro e w' ⟨rfl, xg, rfl⟩) | ((with_reducible refine (p3.at_ _).mono ?_); rintro e w' ⟨rfl, xg, rfl⟩)) | (go_at_call 30; first | ((with_reducible refine (nm.at_ _).mono ?_); rintro e w' ⟨rfl, xg, rfl⟩)))
  refine wp_region_grow (by kernel_rfl) (by kernel_rfl) ?_
  repeat (go_big_quiet_step (((first | with_reducible exact u1.quiet _ | with_reducible exact u1.quiet2 _ _ | with_reducible exact d1.quiet _ | with_reducible exact d1.quiet2 _ _))))
  refine wpQuiet_nil ?_
  rintro _ ⟨xg, rfl⟩
  go_wp2_with (first | (go_at_call 35; first | ((with_reducible refine (d2.at_ _).mono ?_); rintro e w' ⟨rfl, xg, rfl⟩)))
  refine bodyPost_ret (v := .tuple #[.agg #[.int .i64 (fa), .int .i64 (st), .bool (decide (s1 < 0)), .int .i64 0, .int .i64 0], .bool (true), .int .i64 (0)]) (by simp [results, Try.results26, go_sem]) rfl ⟨rfl, (by repeat (first | exact Below.refl _ _ | refine bel_then ?_ _ | refine bel_grow ?_ _ | refine bel_alloc ?_ _ | refine bel_drew ?_ | refine bel_set ?_ (by simp) _ | refine bel_setRow ?_ (by first | omega | simp; done | exact Nat.le_trans (by simp) (top_le _ _)) _))⟩
theorem rMeet_any (o d a b c : P3) : Gives Try.prog 26 #[.agg #[.int .i64 o.x, .int .i64 o.y, .int .i64 o.z], .agg #[.int .i64 d.x, .int .i64 d.y, .int .i64 d.z], .agg #[.int .i64 a.x, .int .i64 a.y, .int .i64 a.z, .int .i64 b.x, .int .i64 b.y, .int .i64 b.z, .int .i64 c.x, .int .i64 c.y, .int .i64 c.z]] (.tuple #[.agg #[.int .i64 (hN o d a b c), .int .i64 (hD o d a b c), .bool (hF o d a b c), .int .i64 0, .int .i64 0], .bool (hK o d a b c), .int .i64 (hE o d a b c)]) := by
  have ln := rLine_any o d
  have wa := uWithin_any a.x a.y a.z 65536 (by omega) (by omega)
  have wb := uWithin_any b.x b.y b.z 65536 (by omega) (by omega)
  have wc := uWithin_any c.x c.y c.z 65536 (by omega) (by omega)
  have ea : wiB a.x a.y a.z 65536 = inB3 a := rfl
  have eb : wiB b.x b.y b.z 65536 = inB3 b := rfl
  have ec : wiB c.x c.y c.z 65536 = inB3 c := rfl
  rw [ea] at wa
  rw [eb] at wb
  rw [ec] at wc
  by_cases hB : bdB o d a b c = true
  · obtain ⟨ho, hd, ha, hb, hc⟩ := bdB_in hB
    have hl : lnB o d = true := by unfold bdB at hB; simp only [Bool.and_eq_true] at hB; exact hB.1
    rw [hl] at ln
    rw [inB3_sp.2 ha] at wa
    rw [inB3_sp.2 hb] at wb
    rw [inB3_sp.2 hc] at wc
    obtain ⟨e1, e2, e3, e4, e5⟩ := h_in hB
    rw [e1, e2, e3, e4, e5]
    have p1 := rPass_any o d a b ho hd ha hb
    have p2 := rPass_any o d b c ho hd hb hc
    have p3 := rPass_any o d c a ho hd hc ha
    by_cases hs : allS o d a b c = 0
    · obtain ⟨q1, q2, q3, q4⟩ := m_none (fa := far o a b c) (st := stp d a b c) (.inr hs)
      rw [q1, q2, q3, q4]
      have hs' : sd3 (pS o d c a) (pS o d a b) (pS o d b c) = 0 := hs
      unfold sd3 at hs'
      by_cases h1 : pS o d a b = 0
      · rw [h1] at p1
        exact rMeet_0 o d a b c 0 0 0 0 0 ln wa wb wc p1
      · by_cases h2 : pS o d b c = pS o d a b
        · rw [h2] at p2
          have h3 : pS o d c a ≠ pS o d a b := fun h3 => by rw [if_pos (by omega)] at hs'; omega
          exact rMeet_2 o d a b c _ 0 _ 0 0 ln wa wb wc p1 p2 p3 h1 h3
        · exact rMeet_1 o d a b c _ _ 0 0 0 ln wa wb wc p1 p2 h1 h2
    · obtain ⟨g1, g2, g3⟩ := allS_sd hs
      have hq := allS_stp ho hd ha hb hc hs
      have hq0 := sgn_cases (stp d a b c)
      rw [g1] at p1
      rw [g2] at p2
      rw [g3] at p3
      have nm := rNormal_any a b c ha hb hc
      have s1 := rSub_P a o (by have := sb_in ha ho; unfold InP at *; omega)
      have d1 : Gives Try.prog 35 #[.agg #[.int .i64 (nrm a b c).x, .int .i64 (nrm a b c).y, .int .i64 (nrm a b c).z], .agg #[.int .i64 (sb a o).x, .int .i64 (sb a o).y, .int .i64 (sb a o).z]] (.int .i64 (far o a b c)) := rDot_P _ _ _ _ (nrm_in ha hb hc) (sb_in ha ho) (by decide)
      have d2 : Gives Try.prog 35 #[.agg #[.int .i64 (nrm a b c).x, .int .i64 (nrm a b c).y, .int .i64 (nrm a b c).z], .agg #[.int .i64 d.x, .int .i64 d.y, .int .i64 d.z]] (.int .i64 (stp d a b c)) := rDot_P _ _ _ _ (nrm_in ha hb hc) hd (by decide)
      have f' : -13510798882111488 ≤ far o a b c ∧ far o a b c ≤ 13510798882111488 := far_in ho ha hb hc
      have t' : -3377699720527872 ≤ stp d a b c ∧ stp d a b c ≤ 3377699720527872 := step_in hd ha hb hc
      rcases Int.lt_or_gt_of_ne (show stp d a b c ≠ 0 by omega) with h2 | h2
      · obtain ⟨q1, q2, q3, q4⟩ := m_low (fa := far o a b c) h2 hs
        rw [q1, q2, q3, q4]
        exact rMeet_low o d a b c _ 0 0 _ _ ln wa wb wc p1 p2 p3 hs nm s1 d1 d2 f'.1 f'.2 (by omega) (by omega) h2
      · obtain ⟨q1, q2, q3, q4⟩ := m_high (fa := far o a b c) h2 hs
        rw [q1, q2, q3, q4]
        exact rMeet_high o d a b c _ 0 0 _ _ ln wa wb wc p1 p2 p3 hs nm s1 d1 d2 f'.1 f'.2 (by omega) (by omega) h2
  · have hB : bdB o d a b c = false := by simpa using hB
    obtain ⟨e1, e2, e3, e4, e5⟩ := h_out hB
    rw [e1, e2, e3, e4, e5]
    by_cases hl : lnB o d = true
    · rw [hl] at ln
      by_cases ha : inB3 a = true
      · rw [ha] at wa
        by_cases hb : inB3 b = true
        · rw [hb] at wb
          have hc : inB3 c = false := by
            unfold bdB at hB; rw [hl, ha, hb] at hB; simpa using hB
          rw [hc] at wc
          exact rMeet_c o d a b c 0 0 0 0 0 ln wa wb wc
        · have hb : inB3 b = false := by simpa using hb
          rw [hb] at wb
          exact rMeet_b o d a b c 0 0 0 0 0 ln wa wb
      · have ha : inB3 a = false := by simpa using ha
        rw [ha] at wa
        exact rMeet_a o d a b c 0 0 0 0 0 ln wa
    · have hl : lnB o d = false := by simpa using hl
      rw [hl] at ln
      exact rMeet_l o d a b c 0 0 0 0 0 ln
end Go.Proofs.Ytgfgaaecpdbgeaa

/- Contracts of At, and of Normal whatever the numbers. -/
namespace Go.Proofs.Ytgfgaaecpdbgeaa
open Go.RowKit
set_option linter.unusedVariables false
set_option linter.unusedSimpArgs false
theorem wDiv_any (n d : Int) (hn : InW n) (h0 : 1 ≤ d) (h1 : d ≤ 9223372036854775807) : Gives Try.prog 14 #[.agg #[.int .i64 (hiOf (n)), .int .u64 (loOf (n))], .int .i64 d] (.tuple #[.agg #[.int .i64 (hiOf (n / d)), .int .u64 (loOf (n / d))], .int .i64 (n % d), .bool true]) := by
  by_cases h : 0 ≤ n
  · exact div_pos n d hn h h0 h1
  · exact div_neg n d hn (by omega) h0 h1
theorem q_bd {n d q : Int} (hn : -9223372036854775808 ≤ n ∧ n ≤ 9223372036854775807) (hd : -32768 ≤ d ∧ d ≤ 32768) (hq : 1 ≤ q) : (-302231454903657293676544 ≤ n * d ∧ n * d ≤ 302231454903657293676544) ∧ -302231454903657293676544 ≤ n * d / q ∧ n * d / q ≤ 302231454903657293676544 := by
  have h := mul_bd (m := 9223372036854775808) (n := 32768) (a := n) (b := d) (by omega) (by omega)
  refine ⟨by omega, ?_, ?_⟩
  · exact (Int.le_ediv_iff_mul_le (by omega)).2 (by
      have : -302231454903657293676544 * q ≤ -302231454903657293676544 * 1 := by omega
      omega)
  · have h2 : n * d / q ≤ 302231454903657293676544 / 1 := by
      rcases Int.le_total 0 (n * d) with h3 | h3
      · have := Int.ediv_le_self q h3
        omega
      · have : n * d / q ≤ 0 := by
          have := Int.ediv_le_ediv (show 0 < q by omega) h3
          simpa using this
        omega
    simpa using h2
set_option maxRecDepth 100000 in
set_option maxHeartbeats 2000000 in
theorem along_core (o d n q h1 l1 h2 l2 h3 l3 h4 l4 rr v : Int) (ok1 : Bool) (m : Gives Try.prog 20 #[.int .i64 n, .int .i64 d] (.agg #[.int .i64 h1, .int .u64 l1])) (dv : Gives Try.prog 14 #[.agg #[.int .i64 h1, .int .u64 l1], .int .i64 q] (.tuple #[.agg #[.int .i64 h2, .int .u64 l2], .int .i64 rr, .bool true]))
    (f : Gives Try.prog 38 #[.int .i64 o] (.agg #[.int .i64 h3, .int .u64 l3])) (s : Gives Try.prog 70 #[.agg #[.int .i64 h3, .int .u64 l3], .agg #[.int .i64 h2, .int .u64 l2]] (.tuple #[.agg #[.int .i64 h4, .int .u64 l4], .bool true])) (t : Gives Try.prog 71 #[.agg #[.int .i64 h4, .int .u64 l4]] (.tuple #[.int .i64 v, .bool ok1])) :
    Gives Try.prog 58 #[.int .i64 o, .int .i64 d, .agg #[.int .i64 n, .int .i64 q]] (.tuple #[.int .i64 v, .bool ok1]) := by
  refine Gives.mk fun w => ?_
  go_enter Try.func58, Try.ntmps58
  go_wp2_with fail
  refine wp_region_mid 11 ?_ 8 (.cells #[.int .i64 0, .int .u64 0] 24) (.cells #[.int .i64 h2, .int .u64 l2] 24) (by kernel_rfl) (by kernel_rfl) (by kernel_rfl) (fun d hd => by cases hd; exact ⟨_, rfl, rfl, rfl, fun A u => alloc_wide3 A _ rfl u⟩) (fun pp => ?_) (fun pp => ?_) (fun pp => ⟨?_, ?_, fun x => ?_, fun qq => ?_⟩)
  rotate_left
  · simp only [List.take_succ_cons, List.take_zero]
    repeat (go_big_quiet_step (((first | with_reducible exact m.quiet _ | with_reducible exact m.quiet2 _ _ | with_reducible exact dv.quiet _ | with_reducible exact dv.quiet2 _ _))))
    refine wpQuiet_nil ?_
    exact rfl
  · exact ⟨_, rfl, storeAt_row 24 _ _ _ _ rfl rfl rfl rfl rfl (by kernel_rfl) rfl (by first | kernel_rfl | simp [Value.oneCell'] | (simp only [List.all_toArray, Array.all]; rfl))⟩
  rotate_left
  · kernel_rfl
  · simp only [List.drop_succ_cons, List.drop_zero]
    try simp only [Act.put, List.setIfInBounds_toArray, List.set_cons_succ, List.set_cons_zero]
    repeat (go_big_quiet_step ((fail)))
    refine wpQuiet_nil ?_
    exact rfl
  go_wp2_with fail
  refine wp_region_mid 7 ?_ 11 (.cells #[.int .i64 0, .int .u64 0] 24) (.cells #[.int .i64 h4, .int .u64 l4] 24) (by kernel_rfl) (by kernel_rfl) (by kernel_rfl) (fun d hd => by cases hd; exact ⟨_, rfl, rfl, rfl, fun A u => alloc_wide3 A _ rfl u⟩) (fun pp => ?_) (fun pp => ?_) (fun pp => ⟨?_, ?_, fun x => ?_, fun qq => ?_⟩)
  rotate_left
  · simp only [List.take_succ_cons, List.take_zero]
    repeat (go_big_quiet_step (((first | with_reducible exact f.quiet _ | with_reducible exact f.quiet2 _ _ | with_reducible exact s.quiet _ | with_reducible exact s.quiet2 _ _))))
    refine wpQuiet_nil ?_
    exact rfl
  · exact ⟨_, rfl, storeAt_row 24 _ _ _ _ rfl rfl rfl rfl rfl (by kernel_rfl) rfl (by first | kernel_rfl | simp [Value.oneCell'] | (simp only [List.all_toArray, Array.all]; rfl))⟩
  rotate_left
  · kernel_rfl
  · simp only [List.drop_succ_cons, List.drop_zero]
    try simp only [Act.put, List.setIfInBounds_toArray, List.set_cons_succ, List.set_cons_zero]
    repeat (go_big_quiet_step ((fail)))
    refine wpQuiet_nil ?_
    exact rfl
  go_wp2_with (first | (go_at_call 71; first | ((with_reducible refine (t.at_ _).mono ?_); rintro e w' ⟨rfl, xg, rfl⟩)))
  go_ret2
  exact ⟨rfl, (by repeat (first | exact Below.refl _ _ | refine bel_then ?_ _ | refine bel_grow ?_ _ | refine bel_alloc ?_ _ | refine bel_drew ?_ | refine bel_set ?_ (by simp) _ | refine bel_setRow ?_ (by first | omega | (simp; done) | (refine Nat.le_trans ?_ (top_le _ _); simp; done) | (refine Nat.le_succ_of_le (Nat.le_trans ?_ (top_le _ _)); simp; done) | (refine Nat.le_trans ?_ (top_le _ _); simp only [World.size_alloc]; refine Nat.le_succ_of_le (Nat.le_trans ?_ (top_le _ _)); simp; done)) _))⟩
theorem along_any (o d n q : Int) (ho : -65536 ≤ o ∧ o ≤ 65536) (hd : -32768 ≤ d ∧ d ≤ 32768) (hn : -9223372036854775808 ≤ n ∧ n ≤ 9223372036854775807) (hq : 1 ≤ q ∧ q ≤ 9223372036854775807) (v : Int) (k : Bool) (t : Gives Try.prog 71 #[.agg #[.int .i64 (hiOf (o + n * d / q)), .int .u64 (loOf (o + n * d / q))]] (.tuple #[.int .i64 v, .bool k])) : Gives Try.prog 58 #[.int .i64 o, .int .i64 d, .agg #[.int .i64 n, .int .i64 q]] (.tuple #[.int .i64 v, .bool k]) := by
  obtain ⟨b1, b2⟩ := q_bd hn hd hq.1
  have w1 : InW (n * d) := by unfold InW; omega
  have w2 : InW (n * d / q) := by unfold InW; omega
  have w3 : InW o := by unfold InW; omega
  have w4 : InW (o + n * d / q) := by unfold InW; omega
  exact along_core o d n q _ _ _ _ _ _ _ _ _ v k (mul_any n d hn.1 hn.2 (by omega) (by omega)) (wDiv_any (n * d) q w1 hq.1 hq.2) (of_any o (by omega) (by omega)) (add_yes o (n * d / q) w3 w2 w4) t
theorem along_yes (o d n q : Int) (ho : -65536 ≤ o ∧ o ≤ 65536) (hd : -32768 ≤ d ∧ d ≤ 32768) (hn : -9223372036854775808 ≤ n ∧ n ≤ 9223372036854775807) (hq : 1 ≤ q ∧ q ≤ 9223372036854775807) (h : -9223372036854775808 ≤ (o + n * d / q) ∧ (o + n * d / q) ≤ 9223372036854775807) : Gives Try.prog 58 #[.int .i64 o, .int .i64 d, .agg #[.int .i64 n, .int .i64 q]] (.tuple #[.int .i64 (o + n * d / q), .bool true]) :=
  along_any o d n q ho hd hn hq _ _ (int_yes _ h.1 h.2)
theorem along_no (o d n q : Int) (ho : -65536 ≤ o ∧ o ≤ 65536) (hd : -32768 ≤ d ∧ d ≤ 32768) (hn : -9223372036854775808 ≤ n ∧ n ≤ 9223372036854775807) (hq : 1 ≤ q ∧ q ≤ 9223372036854775807) (h : ¬ (-9223372036854775808 ≤ (o + n * d / q) ∧ (o + n * d / q) ≤ 9223372036854775807)) : Gives Try.prog 58 #[.int .i64 o, .int .i64 d, .agg #[.int .i64 n, .int .i64 q]] (.tuple #[.int .i64 0, .bool false]) := by
  obtain ⟨b1, b2⟩ := q_bd hn hd hq.1
  exact along_any o d n q ho hd hn hq _ _ (int_no _ (by unfold InW; omega) (by omega))
set_option maxRecDepth 100000 in
set_option maxHeartbeats 2000000 in
theorem floor_far (o d n q h1 l1 h2 l2 rr v : Int) (ho : -65536 ≤ o ∧ o ≤ 65536) (m : Gives Try.prog 21 #[.int .i64 d, .int .i64 n] (.agg #[.int .i64 h1, .int .u64 l1])) (dv : Gives Try.prog 15 #[.agg #[.int .i64 h1, .int .u64 l1], .int .i64 q] (.tuple #[.agg #[.int .i64 h2, .int .u64 l2], .int .i64 rr, .bool true]))
    (t : Gives Try.prog 73 #[.agg #[.int .i64 h2, .int .u64 l2]] (.tuple #[.int .i64 v, .bool false])) : Gives Try.prog 60 #[.int .i64 o, .int .i64 d, .agg #[.int .i64 n, .int .i64 q]] (.tuple #[.int .i64 0, .bool false]) := by
  refine Gives.mk fun w => ?_
  obtain ⟨o0, o1⟩ := ho
  go_enter Try.func60, Try.ntmps60
  go_wp2_with fail
  refine wp_region_mid 11 ?_ 8 (.cells #[.int .i64 0, .int .u64 0] 24) (.cells #[.int .i64 h2, .int .u64 l2] 24) (by kernel_rfl) (by kernel_rfl) (by kernel_rfl) (fun d hd => by cases hd; exact ⟨_, rfl, rfl, rfl, fun A u => alloc_wide3 A _ rfl u⟩) (fun pp => ?_) (fun pp => ?_) (fun pp => ⟨?_, ?_, fun x => ?_, fun qq => ?_⟩)
  rotate_left
  · simp only [List.take_succ_cons, List.take_zero]
    repeat (go_big_quiet_step (((first | with_reducible exact m.quiet _ | with_reducible exact m.quiet2 _ _ | with_reducible exact dv.quiet _ | with_reducible exact dv.quiet2 _ _))))
    refine wpQuiet_nil ?_
    exact rfl
  · exact ⟨_, rfl, storeAt_row 24 _ _ _ _ rfl rfl rfl rfl rfl (by kernel_rfl) rfl (by first | kernel_rfl | simp [Value.oneCell'] | (simp only [List.all_toArray, Array.all]; rfl))⟩
  rotate_left
  · kernel_rfl
  · simp only [List.drop_succ_cons, List.drop_zero]
    try simp only [Act.put, List.setIfInBounds_toArray, List.set_cons_succ, List.set_cons_zero]
    repeat (go_big_quiet_step ((fail)))
    refine wpQuiet_nil ?_
    exact rfl
  go_wp2_with (first | (go_at_call 73; first | ((with_reducible refine (t.at_ _).mono ?_); rintro e w' ⟨rfl, xg, rfl⟩)))
  go_ret2
  exact ⟨rfl, (by repeat (first | exact Below.refl _ _ | refine bel_then ?_ _ | refine bel_grow ?_ _ | refine bel_alloc ?_ _ | refine bel_drew ?_ | refine bel_set ?_ (by simp) _ | refine bel_setRow ?_ (by first | omega | (simp; done) | (refine Nat.le_trans ?_ (top_le _ _); simp; done) | (refine Nat.le_succ_of_le (Nat.le_trans ?_ (top_le _ _)); simp; done) | (refine Nat.le_trans ?_ (top_le _ _); simp only [World.size_alloc]; refine Nat.le_succ_of_le (Nat.le_trans ?_ (top_le _ _)); simp; done)) _))⟩
set_option maxRecDepth 100000 in
set_option maxHeartbeats 2000000 in
theorem floor_low (o d n q h1 l1 h2 l2 rr v : Int) (ho : -65536 ≤ o ∧ o ≤ 65536) (m : Gives Try.prog 21 #[.int .i64 d, .int .i64 n] (.agg #[.int .i64 h1, .int .u64 l1])) (dv : Gives Try.prog 15 #[.agg #[.int .i64 h1, .int .u64 l1], .int .i64 q] (.tuple #[.agg #[.int .i64 h2, .int .u64 l2], .int .i64 rr, .bool true]))
    (t : Gives Try.prog 73 #[.agg #[.int .i64 h2, .int .u64 l2]] (.tuple #[.int .i64 v, .bool true])) (h : v < -2199023255552) : Gives Try.prog 60 #[.int .i64 o, .int .i64 d, .agg #[.int .i64 n, .int .i64 q]] (.tuple #[.int .i64 0, .bool false]) := by
  refine Gives.mk fun w => ?_
  obtain ⟨o0, o1⟩ := ho
  go_enter Try.func60, Try.ntmps60
  go_wp2_with fail
  refine wp_region_mid 11 ?_ 8 (.cells #[.int .i64 0, .int .u64 0] 24) (.cells #[.int .i64 h2, .int .u64 l2] 24) (by kernel_rfl) (by kernel_rfl) (by kernel_rfl) (fun d hd => by cases hd; exact ⟨_, rfl, rfl, rfl, fun A u => alloc_wide3 A _ rfl u⟩) (fun pp => ?_) (fun pp => ?_) (fun pp => ⟨?_, ?_, fun x => ?_, fun qq => ?_⟩)
  rotate_left
  · simp only [List.take_succ_cons, List.take_zero]
    repeat (go_big_quiet_step (((first | with_reducible exact m.quiet _ | with_reducible exact m.quiet2 _ _ | with_reducible exact dv.quiet _ | with_reducible exact dv.quiet2 _ _))))
    refine wpQuiet_nil ?_
    exact rfl
  · exact ⟨_, rfl, storeAt_row 24 _ _ _ _ rfl rfl rfl rfl rfl (by kernel_rfl) rfl (by first | kernel_rfl | simp [Value.oneCell'] | (simp only [List.all_toArray, Array.all]; rfl))⟩
  rotate_left
  · kernel_rfl
  · simp only [List.drop_succ_cons, List.drop_zero]
    try simp only [Act.put, List.setIfInBounds_toArray, List.set_cons_succ, List.set_cons_zero]
    repeat (go_big_quiet_step ((fail)))
    refine wpQuiet_nil ?_
    exact rfl
  go_wp2_with (first | (go_at_call 73; first | ((with_reducible refine (t.at_ _).mono ?_); rintro e w' ⟨rfl, xg, rfl⟩)))
  go_ret2
  exact ⟨rfl, (by repeat (first | exact Below.refl _ _ | refine bel_then ?_ _ | refine bel_grow ?_ _ | refine bel_alloc ?_ _ | refine bel_drew ?_ | refine bel_set ?_ (by simp) _ | refine bel_setRow ?_ (by first | omega | (simp; done) | (refine Nat.le_trans ?_ (top_le _ _); simp; done) | (refine Nat.le_succ_of_le (Nat.le_trans ?_ (top_le _ _)); simp; done) | (refine Nat.le_trans ?_ (top_le _ _); simp only [World.size_alloc]; refine Nat.le_succ_of_le (Nat.le_trans ?_ (top_le _ _)); simp; done)) _))⟩
set_option maxRecDepth 100000 in
set_option maxHeartbeats 2000000 in
theorem floor_high (o d n q h1 l1 h2 l2 rr v : Int) (ho : -65536 ≤ o ∧ o ≤ 65536) (m : Gives Try.prog 21 #[.int .i64 d, .int .i64 n] (.agg #[.int .i64 h1, .int .u64 l1])) (dv : Gives Try.prog 15 #[.agg #[.int .i64 h1, .int .u64 l1], .int .i64 q] (.tuple #[.agg #[.int .i64 h2, .int .u64 l2], .int .i64 rr, .bool true]))
    (t : Gives Try.prog 73 #[.agg #[.int .i64 h2, .int .u64 l2]] (.tuple #[.int .i64 v, .bool true])) (g : -2199023255552 ≤ v) (h : 2199023255552 < v) : Gives Try.prog 60 #[.int .i64 o, .int .i64 d, .agg #[.int .i64 n, .int .i64 q]] (.tuple #[.int .i64 0, .bool false]) := by
  refine Gives.mk fun w => ?_
  obtain ⟨o0, o1⟩ := ho
  go_enter Try.func60, Try.ntmps60
  go_wp2_with fail
  refine wp_region_mid 11 ?_ 8 (.cells #[.int .i64 0, .int .u64 0] 24) (.cells #[.int .i64 h2, .int .u64 l2] 24) (by kernel_rfl) (by kernel_rfl) (by kernel_rfl) (fun d hd => by cases hd; exact ⟨_, rfl, rfl, rfl, fun A u => alloc_wide3 A _ rfl u⟩) (fun pp => ?_) (fun pp => ?_) (fun pp => ⟨?_, ?_, fun x => ?_, fun qq => ?_⟩)
  rotate_left
  · simp only [List.take_succ_cons, List.take_zero]
    repeat (go_big_quiet_step (((first | with_reducible exact m.quiet _ | with_reducible exact m.quiet2 _ _ | with_reducible exact dv.quiet _ | with_reducible exact dv.quiet2 _ _))))
    refine wpQuiet_nil ?_
    exact rfl
  · exact ⟨_, rfl, storeAt_row 24 _ _ _ _ rfl rfl rfl rfl rfl (by kernel_rfl) rfl (by first | kernel_rfl | simp [Value.oneCell'] | (simp only [List.all_toArray, Array.all]; rfl))⟩
  rotate_left
  · kernel_rfl
  · simp only [List.drop_succ_cons, List.drop_zero]
    try simp only [Act.put, List.setIfInBounds_toArray, List.set_cons_succ, List.set_cons_zero]
    repeat (go_big_quiet_step ((fail)))
    refine wpQuiet_nil ?_
    exact rfl
  go_wp2_with (first | (go_at_call 73; first | ((with_reducible refine (t.at_ _).mono ?_); rintro e w' ⟨rfl, xg, rfl⟩)))
  go_ret2
  exact ⟨rfl, (by repeat (first | exact Below.refl _ _ | refine bel_then ?_ _ | refine bel_grow ?_ _ | refine bel_alloc ?_ _ | refine bel_drew ?_ | refine bel_set ?_ (by simp) _ | refine bel_setRow ?_ (by first | omega | (simp; done) | (refine Nat.le_trans ?_ (top_le _ _); simp; done) | (refine Nat.le_succ_of_le (Nat.le_trans ?_ (top_le _ _)); simp; done) | (refine Nat.le_trans ?_ (top_le _ _); simp only [World.size_alloc]; refine Nat.le_succ_of_le (Nat.le_trans ?_ (top_le _ _)); simp; done)) _))⟩
set_option maxRecDepth 100000 in
set_option maxHeartbeats 2000000 in
theorem floor_under (o d n q h1 l1 h2 l2 rr v : Int) (ho : -65536 ≤ o ∧ o ≤ 65536) (m : Gives Try.prog 21 #[.int .i64 d, .int .i64 n] (.agg #[.int .i64 h1, .int .u64 l1])) (dv : Gives Try.prog 15 #[.agg #[.int .i64 h1, .int .u64 l1], .int .i64 q] (.tuple #[.agg #[.int .i64 h2, .int .u64 l2], .int .i64 rr, .bool true]))
    (t : Gives Try.prog 73 #[.agg #[.int .i64 h2, .int .u64 l2]] (.tuple #[.int .i64 v, .bool true])) (g : -2199023255552 ≤ v) (h : v ≤ 2199023255552) (k : v + o < -1099511627776) : Gives Try.prog 60 #[.int .i64 o, .int .i64 d, .agg #[.int .i64 n, .int .i64 q]] (.tuple #[.int .i64 0, .bool false]) := by
  refine Gives.mk fun w => ?_
  obtain ⟨o0, o1⟩ := ho
  go_enter Try.func60, Try.ntmps60
  go_wp2_with fail
  refine wp_region_mid 11 ?_ 8 (.cells #[.int .i64 0, .int .u64 0] 24) (.cells #[.int .i64 h2, .int .u64 l2] 24) (by kernel_rfl) (by kernel_rfl) (by kernel_rfl) (fun d hd => by cases hd; exact ⟨_, rfl, rfl, rfl, fun A u => alloc_wide3 A _ rfl u⟩) (fun pp => ?_) (fun pp => ?_) (fun pp => ⟨?_, ?_, fun x => ?_, fun qq => ?_⟩)
  rotate_left
  · simp only [List.take_succ_cons, List.take_zero]
    repeat (go_big_quiet_step (((first | with_reducible exact m.quiet _ | with_reducible exact m.quiet2 _ _ | with_reducible exact dv.quiet _ | with_reducible exact dv.quiet2 _ _))))
    refine wpQuiet_nil ?_
    exact rfl
  · exact ⟨_, rfl, storeAt_row 24 _ _ _ _ rfl rfl rfl rfl rfl (by kernel_rfl) rfl (by first | kernel_rfl | simp [Value.oneCell'] | (simp only [List.all_toArray, Array.all]; rfl))⟩
  rotate_left
  · kernel_rfl
  · simp only [List.drop_succ_cons, List.drop_zero]
    try simp only [Act.put, List.setIfInBounds_toArray, List.set_cons_succ, List.set_cons_zero]
    repeat (go_big_quiet_step ((fail)))
    refine wpQuiet_nil ?_
    exact rfl
  go_wp2_with (first | (go_at_call 73; first | ((with_reducible refine (t.at_ _).mono ?_); rintro e w' ⟨rfl, xg, rfl⟩)))
  go_ret2
  exact ⟨rfl, (by repeat (first | exact Below.refl _ _ | refine bel_then ?_ _ | refine bel_grow ?_ _ | refine bel_alloc ?_ _ | refine bel_drew ?_ | refine bel_set ?_ (by simp) _ | refine bel_setRow ?_ (by first | omega | (simp; done) | (refine Nat.le_trans ?_ (top_le _ _); simp; done) | (refine Nat.le_succ_of_le (Nat.le_trans ?_ (top_le _ _)); simp; done) | (refine Nat.le_trans ?_ (top_le _ _); simp only [World.size_alloc]; refine Nat.le_succ_of_le (Nat.le_trans ?_ (top_le _ _)); simp; done)) _))⟩
set_option maxRecDepth 100000 in
set_option maxHeartbeats 2000000 in
theorem floor_over (o d n q h1 l1 h2 l2 rr v : Int) (ho : -65536 ≤ o ∧ o ≤ 65536) (m : Gives Try.prog 21 #[.int .i64 d, .int .i64 n] (.agg #[.int .i64 h1, .int .u64 l1])) (dv : Gives Try.prog 15 #[.agg #[.int .i64 h1, .int .u64 l1], .int .i64 q] (.tuple #[.agg #[.int .i64 h2, .int .u64 l2], .int .i64 rr, .bool true]))
    (t : Gives Try.prog 73 #[.agg #[.int .i64 h2, .int .u64 l2]] (.tuple #[.int .i64 v, .bool true])) (g : -2199023255552 ≤ v) (h : v ≤ 2199023255552) (k : -1099511627776 ≤ v + o) (l : 1099511627776 < v + o) : Gives Try.prog 60 #[.int .i64 o, .int .i64 d, .agg #[.int .i64 n, .int .i64 q]] (.tuple #[.int .i64 0, .bool false]) := by
  refine Gives.mk fun w => ?_
  obtain ⟨o0, o1⟩ := ho
  go_enter Try.func60, Try.ntmps60
  go_wp2_with fail
  refine wp_region_mid 11 ?_ 8 (.cells #[.int .i64 0, .int .u64 0] 24) (.cells #[.int .i64 h2, .int .u64 l2] 24) (by kernel_rfl) (by kernel_rfl) (by kernel_rfl) (fun d hd => by cases hd; exact ⟨_, rfl, rfl, rfl, fun A u => alloc_wide3 A _ rfl u⟩) (fun pp => ?_) (fun pp => ?_) (fun pp => ⟨?_, ?_, fun x => ?_, fun qq => ?_⟩)
  rotate_left
  · simp only [List.take_succ_cons, List.take_zero]
    repeat (go_big_quiet_step (((first | with_reducible exact m.quiet _ | with_reducible exact m.quiet2 _ _ | with_reducible exact dv.quiet _ | with_reducible exact dv.quiet2 _ _))))
    refine wpQuiet_nil ?_
    exact rfl
  · exact ⟨_, rfl, storeAt_row 24 _ _ _ _ rfl rfl rfl rfl rfl (by kernel_rfl) rfl (by first | kernel_rfl | simp [Value.oneCell'] | (simp only [List.all_toArray, Array.all]; rfl))⟩
  rotate_left
  · kernel_rfl
  · simp only [List.drop_succ_cons, List.drop_zero]
    try simp only [Act.put, List.setIfInBounds_toArray, List.set_cons_succ, List.set_cons_zero]
    repeat (go_big_quiet_step ((fail)))
    refine wpQuiet_nil ?_
    exact rfl
  go_wp2_with (first | (go_at_call 73; first | ((with_reducible refine (t.at_ _).mono ?_); rintro e w' ⟨rfl, xg, rfl⟩)))
  go_ret2
  exact ⟨rfl, (by repeat (first | exact Below.refl _ _ | refine bel_then ?_ _ | refine bel_grow ?_ _ | refine bel_alloc ?_ _ | refine bel_drew ?_ | refine bel_set ?_ (by simp) _ | refine bel_setRow ?_ (by first | omega | (simp; done) | (refine Nat.le_trans ?_ (top_le _ _); simp; done) | (refine Nat.le_succ_of_le (Nat.le_trans ?_ (top_le _ _)); simp; done) | (refine Nat.le_trans ?_ (top_le _ _); simp only [World.size_alloc]; refine Nat.le_succ_of_le (Nat.le_trans ?_ (top_le _ _)); simp; done)) _))⟩
set_option maxRecDepth 100000 in
set_option maxHeartbeats 2000000 in
theorem floor_in (o d n q h1 l1 h2 l2 rr v : Int) (ho : -65536 ≤ o ∧ o ≤ 65536) (m : Gives Try.prog 21 #[.int .i64 d, .int .i64 n] (.agg #[.int .i64 h1, .int .u64 l1])) (dv : Gives Try.prog 15 #[.agg #[.int .i64 h1, .int .u64 l1], .int .i64 q] (.tuple #[.agg #[.int .i64 h2, .int .u64 l2], .int .i64 rr, .bool true]))
    (t : Gives Try.prog 73 #[.agg #[.int .i64 h2, .int .u64 l2]] (.tuple #[.int .i64 v, .bool true])) (g : -2199023255552 ≤ v) (h : v ≤ 2199023255552) (k : -1099511627776 ≤ v + o) (l : v + o ≤ 1099511627776) : Gives Try.prog 60 #[.int .i64 o, .int .i64 d, .agg #[.int .i64 n, .int .i64 q]] (.tuple #[.int .i64 (v + o), .bool true]) := by
  refine Gives.mk fun w => ?_
  obtain ⟨o0, o1⟩ := ho
  go_enter Try.func60, Try.ntmps60
  go_wp2_with fail
  refine wp_region_mid 11 ?_ 8 (.cells #[.int .i64 0, .int .u64 0] 24) (.cells #[.int .i64 h2, .int .u64 l2] 24) (by kernel_rfl) (by kernel_rfl) (by kernel_rfl) (fun d hd => by cases hd; exact ⟨_, rfl, rfl, rfl, fun A u => alloc_wide3 A _ rfl u⟩) (fun pp => ?_) (fun pp => ?_) (fun pp => ⟨?_, ?_, fun x => ?_, fun qq => ?_⟩)
  rotate_left
  · simp only [List.take_succ_cons, List.take_zero]
    repeat (go_big_quiet_step (((first | with_reducible exact m.quiet _ | with_reducible exact m.quiet2 _ _ | with_reducible exact dv.quiet _ | with_reducible exact dv.quiet2 _ _))))
    refine wpQuiet_nil ?_
    exact rfl
  · exact ⟨_, rfl, storeAt_row 24 _ _ _ _ rfl rfl rfl rfl rfl (by kernel_rfl) rfl (by first | kernel_rfl | simp [Value.oneCell'] | (simp only [List.all_toArray, Array.all]; rfl))⟩
  rotate_left
  · kernel_rfl
  · simp only [List.drop_succ_cons, List.drop_zero]
    try simp only [Act.put, List.setIfInBounds_toArray, List.set_cons_succ, List.set_cons_zero]
    repeat (go_big_quiet_step ((fail)))
    refine wpQuiet_nil ?_
    exact rfl
  go_wp2_with (first | (go_at_call 73; first | ((with_reducible refine (t.at_ _).mono ?_); rintro e w' ⟨rfl, xg, rfl⟩)))
  go_ret2
  exact ⟨rfl, (by repeat (first | exact Below.refl _ _ | refine bel_then ?_ _ | refine bel_grow ?_ _ | refine bel_alloc ?_ _ | refine bel_drew ?_ | refine bel_set ?_ (by simp) _ | refine bel_setRow ?_ (by first | omega | (simp; done) | (refine Nat.le_trans ?_ (top_le _ _); simp; done) | (refine Nat.le_succ_of_le (Nat.le_trans ?_ (top_le _ _)); simp; done) | (refine Nat.le_trans ?_ (top_le _ _); simp only [World.size_alloc]; refine Nat.le_succ_of_le (Nat.le_trans ?_ (top_le _ _)); simp; done)) _))⟩
theorem floor_yes (o d n q : Int) (ho : -65536 ≤ o ∧ o ≤ 65536) (hd : -32768 ≤ d ∧ d ≤ 32768) (hn : -9223372036854775808 ≤ n ∧ n ≤ 9223372036854775807) (hq : 1 ≤ q ∧ q ≤ 9223372036854775807) (h : -1099511627776 ≤ o + n * d / q ∧ o + n * d / q ≤ 1099511627776) : Gives Try.prog 60 #[.int .i64 o, .int .i64 d, .agg #[.int .i64 n, .int .i64 q]] (.tuple #[.int .i64 (o + n * d / q), .bool true]) := by
  obtain ⟨b1, b2⟩ := q_bd hn hd hq.1
  have w1 : InW (d * n) := by rw [Int.mul_comm]; unfold InW; omega
  have m := rMul_any d n (by omega) hn
  have dv := rDiv_any (d * n) q w1 hq.1 hq.2
  have e : d * n = n * d := Int.mul_comm _ _
  rw [e] at m dv
  have w2 : InW (n * d / q) := by unfold InW; omega
  rw [Int.add_comm o]
  exact floor_in o d n q _ _ _ _ _ _ ho m dv (rInt_yes _ w2 (by omega)) (by omega) (by omega) (by omega) (by omega)
theorem floor_no (o d n q : Int) (ho : -65536 ≤ o ∧ o ≤ 65536) (hd : -32768 ≤ d ∧ d ≤ 32768) (hn : -9223372036854775808 ≤ n ∧ n ≤ 9223372036854775807) (hq : 1 ≤ q ∧ q ≤ 9223372036854775807) (h : ¬ (-1099511627776 ≤ o + n * d / q ∧ o + n * d / q ≤ 1099511627776)) : Gives Try.prog 60 #[.int .i64 o, .int .i64 d, .agg #[.int .i64 n, .int .i64 q]] (.tuple #[.int .i64 0, .bool false]) := by
  obtain ⟨b1, b2⟩ := q_bd hn hd hq.1
  have w1 : InW (d * n) := by rw [Int.mul_comm]; unfold InW; omega
  have m := rMul_any d n (by omega) hn
  have dv := rDiv_any (d * n) q w1 hq.1 hq.2
  have e : d * n = n * d := Int.mul_comm _ _
  rw [e] at m dv
  have w2 : InW (n * d / q) := by unfold InW; omega
  generalize hx : n * d / q = x at *
  by_cases c1 : x < -9223372036854775808
  · exact floor_far o d n q _ _ _ _ _ _ ho m dv (rInt_low _ w2 c1)
  · by_cases c2 : 9223372036854775807 < x
    · exact floor_far o d n q _ _ _ _ _ _ ho m dv (rInt_high _ w2 c2)
    · have t := rInt_yes _ w2 ⟨by omega, by omega⟩
      by_cases c3 : x < -2199023255552
      · exact floor_low o d n q _ _ _ _ _ _ ho m dv t c3
      · by_cases c4 : 2199023255552 < x
        · exact floor_high o d n q _ _ _ _ _ _ ho m dv t (by omega) c4
        · by_cases c5 : x + o < -1099511627776
          · exact floor_under o d n q _ _ _ _ _ _ ho m dv t (by omega) (by omega) c5
          · exact floor_over o d n q _ _ _ _ _ _ ho m dv t (by omega) (by omega) (by omega) (by omega)
theorem bounded0 (o d : P3) : Gives Try.prog 52 #[.agg #[.int .i64 o.x, .int .i64 o.y, .int .i64 o.z], .agg #[.int .i64 d.x, .int .i64 d.y, .int .i64 d.z], .slice none 0 0] (.bool (lnB o d)) := fun w => by
  have k := bounded_any w o d none 0 0 (fun _ => (0, 0, 0)) (VF.zero _ _ _) (by omega) (by omega)
  have e : (lnB o d && insF (fun _ => (0, 0, 0)) 0) = lnB o d := by unfold insF; simp
  rw [e] at k
  exact k
set_option maxRecDepth 100000 in
set_option maxHeartbeats 2000000 in
theorem vAt_1 (o d : P3) (n q x y z : Int) (b : Gives Try.prog 52 #[.agg #[.int .i64 o.x, .int .i64 o.y, .int .i64 o.z], .agg #[.int .i64 d.x, .int .i64 d.y, .int .i64 d.z], .slice none 0 0] (.bool false)) : Gives Try.prog 27 #[.agg #[.int .i64 o.x, .int .i64 o.y, .int .i64 o.z], .agg #[.int .i64 d.x, .int .i64 d.y, .int .i64 d.z], .agg #[.int .i64 n, .int .i64 q]] (.tuple #[.agg #[.int .i64 0, .int .i64 0, .int .i64 0], .bool false]) := by
  refine Gives.mk fun w => ?_
  go_enter Try.func27, Try.ntmps27
  go_wp2_with (first | (go_at_call 52; first | ((with_reducible refine (b.at_ _).mono ?_); rintro e w' ⟨rfl, xg, rfl⟩)))
  refine bodyPost_ret (v := .tuple #[.agg #[.int .i64 0, .int .i64 0, .int .i64 0], .bool false]) (by simp [results, Try.results27, go_sem]) rfl ⟨rfl, (by repeat (first | exact Below.refl _ _ | refine bel_then ?_ _ | refine bel_grow ?_ _ | refine bel_alloc ?_ _ | refine bel_drew ?_ | refine bel_set ?_ (by simp) _ | refine bel_setRow ?_ (by first | omega | (simp; done) | (refine Nat.le_trans ?_ (top_le _ _); simp; done) | (refine Nat.le_succ_of_le (Nat.le_trans ?_ (top_le _ _)); simp; done) | (refine Nat.le_trans ?_ (top_le _ _); simp only [World.size_alloc]; refine Nat.le_succ_of_le (Nat.le_trans ?_ (top_le _ _)); simp; done)) _))⟩
set_option maxRecDepth 100000 in
set_option maxHeartbeats 2000000 in
theorem vAt_2 (o d : P3) (n q x y z : Int) (b : Gives Try.prog 52 #[.agg #[.int .i64 o.x, .int .i64 o.y, .int .i64 o.z], .agg #[.int .i64 d.x, .int .i64 d.y, .int .i64 d.z], .slice none 0 0] (.bool true)) (h : q < 1) : Gives Try.prog 27 #[.agg #[.int .i64 o.x, .int .i64 o.y, .int .i64 o.z], .agg #[.int .i64 d.x, .int .i64 d.y, .int .i64 d.z], .agg #[.int .i64 n, .int .i64 q]] (.tuple #[.agg #[.int .i64 0, .int .i64 0, .int .i64 0], .bool false]) := by
  refine Gives.mk fun w => ?_
  go_enter Try.func27, Try.ntmps27
  go_wp2_with (first | (go_at_call 52; first | ((with_reducible refine (b.at_ _).mono ?_); rintro e w' ⟨rfl, xg, rfl⟩)))
  refine bodyPost_ret (v := .tuple #[.agg #[.int .i64 0, .int .i64 0, .int .i64 0], .bool false]) (by simp [results, Try.results27, go_sem]) rfl ⟨rfl, (by repeat (first | exact Below.refl _ _ | refine bel_then ?_ _ | refine bel_grow ?_ _ | refine bel_alloc ?_ _ | refine bel_drew ?_ | refine bel_set ?_ (by simp) _ | refine bel_setRow ?_ (by first | omega | (simp; done) | (refine Nat.le_trans ?_ (top_le _ _); simp; done) | (refine Nat.le_succ_of_le (Nat.le_trans ?_ (top_le _ _)); simp; done) | (refine Nat.le_trans ?_ (top_le _ _); simp only [World.size_alloc]; refine Nat.le_succ_of_le (Nat.le_trans ?_ (top_le _ _)); simp; done)) _))⟩
set_option maxRecDepth 100000 in
set_option maxHeartbeats 2000000 in
theorem vAt_3 (o d : P3) (n q x y z : Int) (ky kz : Bool) (b : Gives Try.prog 52 #[.agg #[.int .i64 o.x, .int .i64 o.y, .int .i64 o.z], .agg #[.int .i64 d.x, .int .i64 d.y, .int .i64 d.z], .slice none 0 0] (.bool true)) (h : 1 ≤ q) (ax : Gives Try.prog 58 #[.int .i64 o.x, .int .i64 d.x, .agg #[.int .i64 n, .int .i64 q]] (.tuple #[.int .i64 x, .bool false])) (ay : Gives Try.prog 58 #[.int .i64 o.y, .int .i64 d.y, .agg #[.int .i64 n, .int .i64 q]] (.tuple #[.int .i64 y, .bool ky])) (az : Gives Try.prog 58 #[.int .i64 o.z, .int .i64 d.z, .agg #[.int .i64 n, .int .i64 q]] (.tuple #[.int .i64 z, .bool kz])) : Gives Try.prog 27 #[.agg #[.int .i64 o.x, .int .i64 o.y, .int .i64 o.z], .agg #[.int .i64 d.x, .int .i64 d.y, .int .i64 d.z], .agg #[.int .i64 n, .int .i64 q]] (.tuple #[.agg #[.int .i64 0, .int .i64 0, .int .i64 0], .bool false]) := by
  refine Gives.mk fun w => ?_
  go_enter Try.func27, Try.ntmps27
  go_wp2_with (first | (go_at_call 52; first | ((with_reducible refine (b.at_ _).mono ?_); rintro e w' ⟨rfl, xg, rfl⟩)) | (go_at_call 58; first | ((with_reducible refine (ax.at_ _).mono ?_); rintro e w' ⟨rfl, xg, rfl⟩) | ((with_reducible refine (ay.at_ _).mono ?_); rintro e w' ⟨rfl, xg, rfl⟩) | ((with_reducible refine (az.at_ _).mono ?_); rintro e w' ⟨rfl, xg, rfl⟩)))
  refine bodyPost_ret (v := .tuple #[.agg #[.int .i64 0, .int .i64 0, .int .i64 0], .bool false]) (by simp [results, Try.results27, go_sem]) rfl ⟨rfl, (by repeat (first | exact Below.refl _ _ | refine bel_then ?_ _ | refine bel_grow ?_ _ | refine bel_alloc ?_ _ | refine bel_drew ?_ | refine bel_set ?_ (by simp) _ | refine bel_setRow ?_ (by first | omega | (simp; done) | (refine Nat.le_trans ?_ (top_le _ _); simp; done) | (refine Nat.le_succ_of_le (Nat.le_trans ?_ (top_le _ _)); simp; done) | (refine Nat.le_trans ?_ (top_le _ _); simp only [World.size_alloc]; refine Nat.le_succ_of_le (Nat.le_trans ?_ (top_le _ _)); simp; done)) _))⟩
set_option maxRecDepth 100000 in
set_option maxHeartbeats 2000000 in
theorem vAt_4 (o d : P3) (n q x y z : Int) (kz : Bool) (b : Gives Try.prog 52 #[.agg #[.int .i64 o.x, .int .i64 o.y, .int .i64 o.z], .agg #[.int .i64 d.x, .int .i64 d.y, .int .i64 d.z], .slice none 0 0] (.bool true)) (h : 1 ≤ q) (ax : Gives Try.prog 58 #[.int .i64 o.x, .int .i64 d.x, .agg #[.int .i64 n, .int .i64 q]] (.tuple #[.int .i64 x, .bool true])) (ay : Gives Try.prog 58 #[.int .i64 o.y, .int .i64 d.y, .agg #[.int .i64 n, .int .i64 q]] (.tuple #[.int .i64 y, .bool false])) (az : Gives Try.prog 58 #[.int .i64 o.z, .int .i64 d.z, .agg #[.int .i64 n, .int .i64 q]] (.tuple #[.int .i64 z, .bool kz])) : Gives Try.prog 27 #[.agg #[.int .i64 o.x, .int .i64 o.y, .int .i64 o.z], .agg #[.int .i64 d.x, .int .i64 d.y, .int .i64 d.z], .agg #[.int .i64 n, .int .i64 q]] (.tuple #[.agg #[.int .i64 0, .int .i64 0, .int .i64 0], .bool false]) := by
  refine Gives.mk fun w => ?_
  go_enter Try.func27, Try.ntmps27
  go_wp2_with (first | (go_at_call 52; first | ((with_reducible refine (b.at_ _).mono ?_); rintro e w' ⟨rfl, xg, rfl⟩)) | (go_at_call 58; first | ((with_reducible refine (ax.at_ _).mono ?_); rintro e w' ⟨rfl, xg, rfl⟩) | ((with_reducible refine (ay.at_ _).mono ?_); rintro e w' ⟨rfl, xg, rfl⟩) | ((with_reducible refine (az.at_ _).mono ?_); rintro e w' ⟨rfl, xg, rfl⟩)))
  refine bodyPost_ret (v := .tuple #[.agg #[.int .i64 0, .int .i64 0, .int .i64 0], .bool false]) (by simp [results, Try.results27, go_sem]) rfl ⟨rfl, (by repeat (first | exact Below.refl _ _ | refine bel_then ?_ _ | refine bel_grow ?_ _ | refine bel_alloc ?_ _ | refine bel_drew ?_ | refine bel_set ?_ (by simp) _ | refine bel_setRow ?_ (by first | omega | (simp; done) | (refine Nat.le_trans ?_ (top_le _ _); simp; done) | (refine Nat.le_succ_of_le (Nat.le_trans ?_ (top_le _ _)); simp; done) | (refine Nat.le_trans ?_ (top_le _ _); simp only [World.size_alloc]; refine Nat.le_succ_of_le (Nat.le_trans ?_ (top_le _ _)); simp; done)) _))⟩
set_option maxRecDepth 100000 in
set_option maxHeartbeats 2000000 in
theorem vAt_5 (o d : P3) (n q x y z : Int) (b : Gives Try.prog 52 #[.agg #[.int .i64 o.x, .int .i64 o.y, .int .i64 o.z], .agg #[.int .i64 d.x, .int .i64 d.y, .int .i64 d.z], .slice none 0 0] (.bool true)) (h : 1 ≤ q) (ax : Gives Try.prog 58 #[.int .i64 o.x, .int .i64 d.x, .agg #[.int .i64 n, .int .i64 q]] (.tuple #[.int .i64 x, .bool true])) (ay : Gives Try.prog 58 #[.int .i64 o.y, .int .i64 d.y, .agg #[.int .i64 n, .int .i64 q]] (.tuple #[.int .i64 y, .bool true])) (az : Gives Try.prog 58 #[.int .i64 o.z, .int .i64 d.z, .agg #[.int .i64 n, .int .i64 q]] (.tuple #[.int .i64 z, .bool false])) : Gives Try.prog 27 #[.agg #[.int .i64 o.x, .int .i64 o.y, .int .i64 o.z], .agg #[.int .i64 d.x, .int .i64 d.y, .int .i64 d.z], .agg #[.int .i64 n, .int .i64 q]] (.tuple #[.agg #[.int .i64 0, .int .i64 0, .int .i64 0], .bool false]) := by
  refine Gives.mk fun w => ?_
  go_enter Try.func27, Try.ntmps27
  go_wp2_with (first | (go_at_call 52; first | ((with_reducible refine (b.at_ _).mono ?_); rintro e w' ⟨rfl, xg, rfl⟩)) | (go_at_call 58; first | ((with_reducible refine (ax.at_ _).mono ?_); rintro e w' ⟨rfl, xg, rfl⟩) | ((with_reducible refine (ay.at_ _).mono ?_); rintro e w' ⟨rfl, xg, rfl⟩) | ((with_reducible refine (az.at_ _).mono ?_); rintro e w' ⟨rfl, xg, rfl⟩)))
  refine bodyPost_ret (v := .tuple #[.agg #[.int .i64 0, .int .i64 0, .int .i64 0], .bool false]) (by simp [results, Try.results27, go_sem]) rfl ⟨rfl, (by repeat (first | exact Below.refl _ _ | refine bel_then ?_ _ | refine bel_grow ?_ _ | refine bel_alloc ?_ _ | refine bel_drew ?_ | refine bel_set ?_ (by simp) _ | refine bel_setRow ?_ (by first | omega | (simp; done) | (refine Nat.le_trans ?_ (top_le _ _); simp; done) | (refine Nat.le_succ_of_le (Nat.le_trans ?_ (top_le _ _)); simp; done) | (refine Nat.le_trans ?_ (top_le _ _); simp only [World.size_alloc]; refine Nat.le_succ_of_le (Nat.le_trans ?_ (top_le _ _)); simp; done)) _))⟩
set_option maxRecDepth 100000 in
set_option maxHeartbeats 2000000 in
theorem vAt_6 (o d : P3) (n q x y z : Int) (b : Gives Try.prog 52 #[.agg #[.int .i64 o.x, .int .i64 o.y, .int .i64 o.z], .agg #[.int .i64 d.x, .int .i64 d.y, .int .i64 d.z], .slice none 0 0] (.bool true)) (h : 1 ≤ q) (ax : Gives Try.prog 58 #[.int .i64 o.x, .int .i64 d.x, .agg #[.int .i64 n, .int .i64 q]] (.tuple #[.int .i64 x, .bool true])) (ay : Gives Try.prog 58 #[.int .i64 o.y, .int .i64 d.y, .agg #[.int .i64 n, .int .i64 q]] (.tuple #[.int .i64 y, .bool true])) (az : Gives Try.prog 58 #[.int .i64 o.z, .int .i64 d.z, .agg #[.int .i64 n, .int .i64 q]] (.tuple #[.int .i64 z, .bool true])) (wi : Gives Try.prog 59 #[.agg #[.int .i64 x, .int .i64 y, .int .i64 z], .int .i64 1099511627776] (.bool false)) : Gives Try.prog 27 #[.agg #[.int .i64 o.x, .int .i64 o.y, .int .i64 o.z], .agg #[.int .i64 d.x, .int .i64 d.y, .int .i64 d.z], .agg #[.int .i64 n, .int .i64 q]] (.tuple #[.agg #[.int .i64 0, .int .i64 0, .int .i64 0], .bool false]) := by
  refine Gives.mk fun w => ?_
  go_enter Try.func27, Try.ntmps27
  go_wp2_with (first | (go_at_call 52; first | ((with_reducible refine (b.at_ _).mono ?_); rintro e w' ⟨rfl, xg, rfl⟩)) | (go_at_call 58; first | ((with_reducible refine (ax.at_ _).mono ?_); rintro e w' ⟨rfl, xg, rfl⟩) | ((with_reducible refine (ay.at_ _).mono ?_); rintro e w' ⟨rfl, xg, rfl⟩) | ((with_reducible refine (az.at_ _).mono ?_); rintro e w' ⟨rfl, xg, rfl⟩)) | (go_at_call 59; first | ((with_reducible refine (wi.at_ _).mono ?_); rintro e w' ⟨rfl, xg, rfl⟩)))
  refine bodyPost_ret (v := .tuple #[.agg #[.int .i64 0, .int .i64 0, .int .i64 0], .bool false]) (by simp [results, Try.results27, go_sem]) rfl ⟨rfl, (by repeat (first | exact Below.refl _ _ | refine bel_then ?_ _ | refine bel_grow ?_ _ | refine bel_alloc ?_ _ | refine bel_drew ?_ | refine bel_set ?_ (by simp) _ | refine bel_setRow ?_ (by first | omega | (simp; done) | (refine Nat.le_trans ?_ (top_le _ _); simp; done) | (refine Nat.le_succ_of_le (Nat.le_trans ?_ (top_le _ _)); simp; done) | (refine Nat.le_trans ?_ (top_le _ _); simp only [World.size_alloc]; refine Nat.le_succ_of_le (Nat.le_trans ?_ (top_le _ _)); simp; done)) _))⟩
set_option maxRecDepth 100000 in
set_option maxHeartbeats 2000000 in
theorem vAt_7 (o d : P3) (n q x y z : Int) (b : Gives Try.prog 52 #[.agg #[.int .i64 o.x, .int .i64 o.y, .int .i64 o.z], .agg #[.int .i64 d.x, .int .i64 d.y, .int .i64 d.z], .slice none 0 0] (.bool true)) (h : 1 ≤ q) (ax : Gives Try.prog 58 #[.int .i64 o.x, .int .i64 d.x, .agg #[.int .i64 n, .int .i64 q]] (.tuple #[.int .i64 x, .bool true])) (ay : Gives Try.prog 58 #[.int .i64 o.y, .int .i64 d.y, .agg #[.int .i64 n, .int .i64 q]] (.tuple #[.int .i64 y, .bool true])) (az : Gives Try.prog 58 #[.int .i64 o.z, .int .i64 d.z, .agg #[.int .i64 n, .int .i64 q]] (.tuple #[.int .i64 z, .bool true])) (wi : Gives Try.prog 59 #[.agg #[.int .i64 x, .int .i64 y, .int .i64 z], .int .i64 1099511627776] (.bool true)) : Gives Try.prog 27 #[.agg #[.int .i64 o.x, .int .i64 o.y, .int .i64 o.z], .agg #[.int .i64 d.x, .int .i64 d.y, .int .i64 d.z], .agg #[.int .i64 n, .int .i64 q]] (.tuple #[.agg #[.int .i64 x, .int .i64 y, .int .i64 z], .bool true]) := by
  refine Gives.mk fun w => ?_
  go_enter Try.func27, Try.ntmps27
  go_wp2_with (first | (go_at_call 52; first | ((with_reducible refine (b.at_ _).mono ?_); rintro e w' ⟨rfl, xg, rfl⟩)) | (go_at_call 58; first | ((with_reducible refine (ax.at_ _).mono ?_); rintro e w' ⟨rfl, xg, rfl⟩) | ((with_reducible refine (ay.at_ _).mono ?_); rintro e w' ⟨rfl, xg, rfl⟩) | ((with_reducible refine (az.at_ _).mono ?_); rintro e w' ⟨rfl, xg, rfl⟩)) | (go_at_call 59; first | ((with_reducible refine (wi.at_ _).mono ?_); rintro e w' ⟨rfl, xg, rfl⟩)))
  refine bodyPost_ret (v := .tuple #[.agg #[.int .i64 x, .int .i64 y, .int .i64 z], .bool true]) (by simp [results, Try.results27, go_sem]) rfl ⟨rfl, (by repeat (first | exact Below.refl _ _ | refine bel_then ?_ _ | refine bel_grow ?_ _ | refine bel_alloc ?_ _ | refine bel_drew ?_ | refine bel_set ?_ (by simp) _ | refine bel_setRow ?_ (by first | omega | (simp; done) | (refine Nat.le_trans ?_ (top_le _ _); simp; done) | (refine Nat.le_succ_of_le (Nat.le_trans ?_ (top_le _ _)); simp; done) | (refine Nat.le_trans ?_ (top_le _ _); simp only [World.size_alloc]; refine Nat.le_succ_of_le (Nat.le_trans ?_ (top_le _ _)); simp; done)) _))⟩
set_option maxRecDepth 100000 in
set_option maxHeartbeats 2000000 in
theorem rAt_1 (o d : P3) (n q x y z : Int) (b : Gives Try.prog 31 #[.agg #[.int .i64 o.x, .int .i64 o.y, .int .i64 o.z], .agg #[.int .i64 d.x, .int .i64 d.y, .int .i64 d.z]] (.bool false)) : Gives Try.prog 28 #[.agg #[.int .i64 o.x, .int .i64 o.y, .int .i64 o.z], .agg #[.int .i64 d.x, .int .i64 d.y, .int .i64 d.z], .agg #[.int .i64 n, .int .i64 q]] (.tuple #[.agg #[.int .i64 0, .int .i64 0, .int .i64 0], .bool false]) := by
  refine Gives.mk fun w => ?_
  go_enter Try.func28, Try.ntmps28
  go_wp2_with (first | (go_at_call 31; first | ((with_reducible refine (b.at_ _).mono ?_); rintro e w' ⟨rfl, xg, rfl⟩)))
  refine bodyPost_ret (v := .tuple #[.agg #[.int .i64 0, .int .i64 0, .int .i64 0], .bool false]) (by simp [results, Try.results28, go_sem]) rfl ⟨rfl, (by repeat (first | exact Below.refl _ _ | refine bel_then ?_ _ | refine bel_grow ?_ _ | refine bel_alloc ?_ _ | refine bel_drew ?_ | refine bel_set ?_ (by simp) _ | refine bel_setRow ?_ (by first | omega | (simp; done) | (refine Nat.le_trans ?_ (top_le _ _); simp; done) | (refine Nat.le_succ_of_le (Nat.le_trans ?_ (top_le _ _)); simp; done) | (refine Nat.le_trans ?_ (top_le _ _); simp only [World.size_alloc]; refine Nat.le_succ_of_le (Nat.le_trans ?_ (top_le _ _)); simp; done)) _))⟩
set_option maxRecDepth 100000 in
set_option maxHeartbeats 2000000 in
theorem rAt_2 (o d : P3) (n q x y z : Int) (b : Gives Try.prog 31 #[.agg #[.int .i64 o.x, .int .i64 o.y, .int .i64 o.z], .agg #[.int .i64 d.x, .int .i64 d.y, .int .i64 d.z]] (.bool true)) (h : q < 1) : Gives Try.prog 28 #[.agg #[.int .i64 o.x, .int .i64 o.y, .int .i64 o.z], .agg #[.int .i64 d.x, .int .i64 d.y, .int .i64 d.z], .agg #[.int .i64 n, .int .i64 q]] (.tuple #[.agg #[.int .i64 0, .int .i64 0, .int .i64 0], .bool false]) := by
  refine Gives.mk fun w => ?_
  go_enter Try.func28, Try.ntmps28
  go_wp2_with (first | (go_at_call 31; first | ((with_reducible refine (b.at_ _).mono ?_); rintro e w' ⟨rfl, xg, rfl⟩)))
  refine bodyPost_ret (v := .tuple #[.agg #[.int .i64 0, .int .i64 0, .int .i64 0], .bool false]) (by simp [results, Try.results28, go_sem]) rfl ⟨rfl, (by repeat (first | exact Below.refl _ _ | refine bel_then ?_ _ | refine bel_grow ?_ _ | refine bel_alloc ?_ _ | refine bel_drew ?_ | refine bel_set ?_ (by simp) _ | refine bel_setRow ?_ (by first | omega | (simp; done) | (refine Nat.le_trans ?_ (top_le _ _); simp; done) | (refine Nat.le_succ_of_le (Nat.le_trans ?_ (top_le _ _)); simp; done) | (refine Nat.le_trans ?_ (top_le _ _); simp only [World.size_alloc]; refine Nat.le_succ_of_le (Nat.le_trans ?_ (top_le _ _)); simp; done)) _))⟩
set_option maxRecDepth 100000 in
set_option maxHeartbeats 2000000 in
theorem rAt_3 (o d : P3) (n q x y z : Int) (ky kz : Bool) (b : Gives Try.prog 31 #[.agg #[.int .i64 o.x, .int .i64 o.y, .int .i64 o.z], .agg #[.int .i64 d.x, .int .i64 d.y, .int .i64 d.z]] (.bool true)) (h : 1 ≤ q) (ax : Gives Try.prog 60 #[.int .i64 o.x, .int .i64 d.x, .agg #[.int .i64 n, .int .i64 q]] (.tuple #[.int .i64 x, .bool false])) (ay : Gives Try.prog 60 #[.int .i64 o.y, .int .i64 d.y, .agg #[.int .i64 n, .int .i64 q]] (.tuple #[.int .i64 y, .bool ky])) (az : Gives Try.prog 60 #[.int .i64 o.z, .int .i64 d.z, .agg #[.int .i64 n, .int .i64 q]] (.tuple #[.int .i64 z, .bool kz])) : Gives Try.prog 28 #[.agg #[.int .i64 o.x, .int .i64 o.y, .int .i64 o.z], .agg #[.int .i64 d.x, .int .i64 d.y, .int .i64 d.z], .agg #[.int .i64 n, .int .i64 q]] (.tuple #[.agg #[.int .i64 0, .int .i64 0, .int .i64 0], .bool false]) := by
  refine Gives.mk fun w => ?_
  go_enter Try.func28, Try.ntmps28
  go_wp2_with (first | (go_at_call 31; first | ((with_reducible refine (b.at_ _).mono ?_); rintro e w' ⟨rfl, xg, rfl⟩)) | (go_at_call 60; first | ((with_reducible refine (ax.at_ _).mono ?_); rintro e w' ⟨rfl, xg, rfl⟩) | ((with_reducible refine (ay.at_ _).mono ?_); rintro e w' ⟨rfl, xg, rfl⟩) | ((with_reducible refine (az.at_ _).mono ?_); rintro e w' ⟨rfl, xg, rfl⟩)))
  refine bodyPost_ret (v := .tuple #[.agg #[.int .i64 0, .int .i64 0, .int .i64 0], .bool false]) (by simp [results, Try.results28, go_sem]) rfl ⟨rfl, (by repeat (first | exact Below.refl _ _ | refine bel_then ?_ _ | refine bel_grow ?_ _ | refine bel_alloc ?_ _ | refine bel_drew ?_ | refine bel_set ?_ (by simp) _ | refine bel_setRow ?_ (by first | omega | (simp; done) | (refine Nat.le_trans ?_ (top_le _ _); simp; done) | (refine Nat.le_succ_of_le (Nat.le_trans ?_ (top_le _ _)); simp; done) | (refine Nat.le_trans ?_ (top_le _ _); simp only [World.size_alloc]; refine Nat.le_succ_of_le (Nat.le_trans ?_ (top_le _ _)); simp; done)) _))⟩
set_option maxRecDepth 100000 in
set_option maxHeartbeats 2000000 in
theorem rAt_4 (o d : P3) (n q x y z : Int) (kz : Bool) (b : Gives Try.prog 31 #[.agg #[.int .i64 o.x, .int .i64 o.y, .int .i64 o.z], .agg #[.int .i64 d.x, .int .i64 d.y, .int .i64 d.z]] (.bool true)) (h : 1 ≤ q) (ax : Gives Try.prog 60 #[.int .i64 o.x, .int .i64 d.x, .agg #[.int .i64 n, .int .i64 q]] (.tuple #[.int .i64 x, .bool true])) (ay : Gives Try.prog 60 #[.int .i64 o.y, .int .i64 d.y, .agg #[.int .i64 n, .int .i64 q]] (.tuple #[.int .i64 y, .bool false])) (az : Gives Try.prog 60 #[.int .i64 o.z, .int .i64 d.z, .agg #[.int .i64 n, .int .i64 q]] (.tuple #[.int .i64 z, .bool kz])) : Gives Try.prog 28 #[.agg #[.int .i64 o.x, .int .i64 o.y, .int .i64 o.z], .agg #[.int .i64 d.x, .int .i64 d.y, .int .i64 d.z], .agg #[.int .i64 n, .int .i64 q]] (.tuple #[.agg #[.int .i64 0, .int .i64 0, .int .i64 0], .bool false]) := by
  refine Gives.mk fun w => ?_
  go_enter Try.func28, Try.ntmps28
  go_wp2_with (first | (go_at_call 31; first | ((with_reducible refine (b.at_ _).mono ?_); rintro e w' ⟨rfl, xg, rfl⟩)) | (go_at_call 60; first | ((with_reducible refine (ax.at_ _).mono ?_); rintro e w' ⟨rfl, xg, rfl⟩) | ((with_reducible refine (ay.at_ _).mono ?_); rintro e w' ⟨rfl, xg, rfl⟩) | ((with_reducible refine (az.at_ _).mono ?_); rintro e w' ⟨rfl, xg, rfl⟩)))
  refine bodyPost_ret (v := .tuple #[.agg #[.int .i64 0, .int .i64 0, .int .i64 0], .bool false]) (by simp [results, Try.results28, go_sem]) rfl ⟨rfl, (by repeat (first | exact Below.refl _ _ | refine bel_then ?_ _ | refine bel_grow ?_ _ | refine bel_alloc ?_ _ | refine bel_drew ?_ | refine bel_set ?_ (by simp) _ | refine bel_setRow ?_ (by first | omega | (simp; done) | (refine Nat.le_trans ?_ (top_le _ _); simp; done) | (refine Nat.le_succ_of_le (Nat.le_trans ?_ (top_le _ _)); simp; done) | (refine Nat.le_trans ?_ (top_le _ _); simp only [World.size_alloc]; refine Nat.le_succ_of_le (Nat.le_trans ?_ (top_le _ _)); simp; done)) _))⟩
set_option maxRecDepth 100000 in
set_option maxHeartbeats 2000000 in
theorem rAt_5 (o d : P3) (n q x y z : Int) (b : Gives Try.prog 31 #[.agg #[.int .i64 o.x, .int .i64 o.y, .int .i64 o.z], .agg #[.int .i64 d.x, .int .i64 d.y, .int .i64 d.z]] (.bool true)) (h : 1 ≤ q) (ax : Gives Try.prog 60 #[.int .i64 o.x, .int .i64 d.x, .agg #[.int .i64 n, .int .i64 q]] (.tuple #[.int .i64 x, .bool true])) (ay : Gives Try.prog 60 #[.int .i64 o.y, .int .i64 d.y, .agg #[.int .i64 n, .int .i64 q]] (.tuple #[.int .i64 y, .bool true])) (az : Gives Try.prog 60 #[.int .i64 o.z, .int .i64 d.z, .agg #[.int .i64 n, .int .i64 q]] (.tuple #[.int .i64 z, .bool false])) : Gives Try.prog 28 #[.agg #[.int .i64 o.x, .int .i64 o.y, .int .i64 o.z], .agg #[.int .i64 d.x, .int .i64 d.y, .int .i64 d.z], .agg #[.int .i64 n, .int .i64 q]] (.tuple #[.agg #[.int .i64 0, .int .i64 0, .int .i64 0], .bool false]) := by
  refine Gives.mk fun w => ?_
  go_enter Try.func28, Try.ntmps28
  go_wp2_with (first | (go_at_call 31; first | ((with_reducible refine (b.at_ _).mono ?_); rintro e w' ⟨rfl, xg, rfl⟩)) | (go_at_call 60; first | ((with_reducible refine (ax.at_ _).mono ?_); rintro e w' ⟨rfl, xg, rfl⟩) | ((with_reducible refine (ay.at_ _).mono ?_); rintro e w' ⟨rfl, xg, rfl⟩) | ((with_reducible refine (az.at_ _).mono ?_); rintro e w' ⟨rfl, xg, rfl⟩)))
  refine bodyPost_ret (v := .tuple #[.agg #[.int .i64 0, .int .i64 0, .int .i64 0], .bool false]) (by simp [results, Try.results28, go_sem]) rfl ⟨rfl, (by repeat (first | exact Below.refl _ _ | refine bel_then ?_ _ | refine bel_grow ?_ _ | refine bel_alloc ?_ _ | refine bel_drew ?_ | refine bel_set ?_ (by simp) _ | refine bel_setRow ?_ (by first | omega | (simp; done) | (refine Nat.le_trans ?_ (top_le _ _); simp; done) | (refine Nat.le_succ_of_le (Nat.le_trans ?_ (top_le _ _)); simp; done) | (refine Nat.le_trans ?_ (top_le _ _); simp only [World.size_alloc]; refine Nat.le_succ_of_le (Nat.le_trans ?_ (top_le _ _)); simp; done)) _))⟩
set_option maxRecDepth 100000 in
set_option maxHeartbeats 2000000 in
theorem rAt_6 (o d : P3) (n q x y z : Int) (b : Gives Try.prog 31 #[.agg #[.int .i64 o.x, .int .i64 o.y, .int .i64 o.z], .agg #[.int .i64 d.x, .int .i64 d.y, .int .i64 d.z]] (.bool true)) (h : 1 ≤ q) (ax : Gives Try.prog 60 #[.int .i64 o.x, .int .i64 d.x, .agg #[.int .i64 n, .int .i64 q]] (.tuple #[.int .i64 x, .bool true])) (ay : Gives Try.prog 60 #[.int .i64 o.y, .int .i64 d.y, .agg #[.int .i64 n, .int .i64 q]] (.tuple #[.int .i64 y, .bool true])) (az : Gives Try.prog 60 #[.int .i64 o.z, .int .i64 d.z, .agg #[.int .i64 n, .int .i64 q]] (.tuple #[.int .i64 z, .bool true])) : Gives Try.prog 28 #[.agg #[.int .i64 o.x, .int .i64 o.y, .int .i64 o.z], .agg #[.int .i64 d.x, .int .i64 d.y, .int .i64 d.z], .agg #[.int .i64 n, .int .i64 q]] (.tuple #[.agg #[.int .i64 x, .int .i64 y, .int .i64 z], .bool true]) := by
  refine Gives.mk fun w => ?_
  go_enter Try.func28, Try.ntmps28
  go_wp2_with (first | (go_at_call 31; first | ((with_reducible refine (b.at_ _).mono ?_); rintro e w' ⟨rfl, xg, rfl⟩)) | (go_at_call 60; first | ((with_reducible refine (ax.at_ _).mono ?_); rintro e w' ⟨rfl, xg, rfl⟩) | ((with_reducible refine (ay.at_ _).mono ?_); rintro e w' ⟨rfl, xg, rfl⟩) | ((with_reducible refine (az.at_ _).mono ?_); rintro e w' ⟨rfl, xg, rfl⟩)))
  refine bodyPost_ret (v := .tuple #[.agg #[.int .i64 x, .int .i64 y, .int .i64 z], .bool true]) (by simp [results, Try.results28, go_sem]) rfl ⟨rfl, (by repeat (first | exact Below.refl _ _ | refine bel_then ?_ _ | refine bel_grow ?_ _ | refine bel_alloc ?_ _ | refine bel_drew ?_ | refine bel_set ?_ (by simp) _ | refine bel_setRow ?_ (by first | omega | (simp; done) | (refine Nat.le_trans ?_ (top_le _ _); simp; done) | (refine Nat.le_succ_of_le (Nat.le_trans ?_ (top_le _ _)); simp; done) | (refine Nat.le_trans ?_ (top_le _ _); simp only [World.size_alloc]; refine Nat.le_succ_of_le (Nat.le_trans ?_ (top_le _ _)); simp; done)) _))⟩
/-- Both answer alike, whatever the line and the fraction. -/
theorem at_both (o d : P3) (n q : Int) (hn : -9223372036854775808 ≤ n ∧ n ≤ 9223372036854775807) (hq : -9223372036854775808 ≤ q ∧ q ≤ 9223372036854775807) : ∃ (x y z : Int) (k : Bool), (Gives Try.prog 27 #[.agg #[.int .i64 o.x, .int .i64 o.y, .int .i64 o.z], .agg #[.int .i64 d.x, .int .i64 d.y, .int .i64 d.z], .agg #[.int .i64 n, .int .i64 q]] (.tuple #[.agg #[.int .i64 x, .int .i64 y, .int .i64 z], .bool k])) ∧ Gives Try.prog 28 #[.agg #[.int .i64 o.x, .int .i64 o.y, .int .i64 o.z], .agg #[.int .i64 d.x, .int .i64 d.y, .int .i64 d.z], .agg #[.int .i64 n, .int .i64 q]] (.tuple #[.agg #[.int .i64 x, .int .i64 y, .int .i64 z], .bool k]) := by
  have b := bounded0 o d
  have l := rLine_any o d
  by_cases hl : lnB o d = true
  · rw [hl] at b l
    by_cases h1 : q < 1
    · exact ⟨_, _, _, _, vAt_2 o d n q 0 0 0 b h1, rAt_2 o d n q 0 0 0 l h1⟩
    · have hq' : 1 ≤ q ∧ q ≤ 9223372036854775807 := by omega
      obtain ⟨⟨ox, oy, oz⟩, dx, dy, dz⟩ := lnB_in hl
      have fx : ∃ v k, (Gives Try.prog 60 #[.int .i64 o.x, .int .i64 d.x, .agg #[.int .i64 n, .int .i64 q]] (.tuple #[.int .i64 v, .bool k])) ∧ ((k = true ∧ v = o.x + n * d.x / q ∧ -1099511627776 ≤ o.x + n * d.x / q ∧ o.x + n * d.x / q ≤ 1099511627776) ∨ (k = false ∧ ¬ (-1099511627776 ≤ o.x + n * d.x / q ∧ o.x + n * d.x / q ≤ 1099511627776))) := by
        by_cases c : -1099511627776 ≤ o.x + n * d.x / q ∧ o.x + n * d.x / q ≤ 1099511627776
        · exact ⟨_, _, floor_yes o.x d.x n q ox dx hn hq' c, .inl ⟨rfl, rfl, c⟩⟩
        · exact ⟨_, _, floor_no o.x d.x n q ox dx hn hq' c, .inr ⟨rfl, c⟩⟩
      have fy : ∃ v k, (Gives Try.prog 60 #[.int .i64 o.y, .int .i64 d.y, .agg #[.int .i64 n, .int .i64 q]] (.tuple #[.int .i64 v, .bool k])) ∧ ((k = true ∧ v = o.y + n * d.y / q ∧ -1099511627776 ≤ o.y + n * d.y / q ∧ o.y + n * d.y / q ≤ 1099511627776) ∨ (k = false ∧ ¬ (-1099511627776 ≤ o.y + n * d.y / q ∧ o.y + n * d.y / q ≤ 1099511627776))) := by
        by_cases c : -1099511627776 ≤ o.y + n * d.y / q ∧ o.y + n * d.y / q ≤ 1099511627776
        · exact ⟨_, _, floor_yes o.y d.y n q oy dy hn hq' c, .inl ⟨rfl, rfl, c⟩⟩
        · exact ⟨_, _, floor_no o.y d.y n q oy dy hn hq' c, .inr ⟨rfl, c⟩⟩
      have fz : ∃ v k, (Gives Try.prog 60 #[.int .i64 o.z, .int .i64 d.z, .agg #[.int .i64 n, .int .i64 q]] (.tuple #[.int .i64 v, .bool k])) ∧ ((k = true ∧ v = o.z + n * d.z / q ∧ -1099511627776 ≤ o.z + n * d.z / q ∧ o.z + n * d.z / q ≤ 1099511627776) ∨ (k = false ∧ ¬ (-1099511627776 ≤ o.z + n * d.z / q ∧ o.z + n * d.z / q ≤ 1099511627776))) := by
        by_cases c : -1099511627776 ≤ o.z + n * d.z / q ∧ o.z + n * d.z / q ≤ 1099511627776
        · exact ⟨_, _, floor_yes o.z d.z n q oz dz hn hq' c, .inl ⟨rfl, rfl, c⟩⟩
        · exact ⟨_, _, floor_no o.z d.z n q oz dz hn hq' c, .inr ⟨rfl, c⟩⟩
      have ax : ∃ v k, (Gives Try.prog 58 #[.int .i64 o.x, .int .i64 d.x, .agg #[.int .i64 n, .int .i64 q]] (.tuple #[.int .i64 v, .bool k])) ∧ ((k = true ∧ v = o.x + n * d.x / q) ∨ (k = false ∧ ¬ (-1099511627776 ≤ o.x + n * d.x / q ∧ o.x + n * d.x / q ≤ 1099511627776))) := by
        by_cases c : -9223372036854775808 ≤ (o.x + n * d.x / q) ∧ (o.x + n * d.x / q) ≤ 9223372036854775807
        · exact ⟨_, _, along_yes o.x d.x n q ox dx hn hq' c, .inl ⟨rfl, rfl⟩⟩
        · exact ⟨_, _, along_no o.x d.x n q ox dx hn hq' c, .inr ⟨rfl, by omega⟩⟩
      have ay : ∃ v k, (Gives Try.prog 58 #[.int .i64 o.y, .int .i64 d.y, .agg #[.int .i64 n, .int .i64 q]] (.tuple #[.int .i64 v, .bool k])) ∧ ((k = true ∧ v = o.y + n * d.y / q) ∨ (k = false ∧ ¬ (-1099511627776 ≤ o.y + n * d.y / q ∧ o.y + n * d.y / q ≤ 1099511627776))) := by
        by_cases c : -9223372036854775808 ≤ (o.y + n * d.y / q) ∧ (o.y + n * d.y / q) ≤ 9223372036854775807
        · exact ⟨_, _, along_yes o.y d.y n q oy dy hn hq' c, .inl ⟨rfl, rfl⟩⟩
        · exact ⟨_, _, along_no o.y d.y n q oy dy hn hq' c, .inr ⟨rfl, by omega⟩⟩
      have az : ∃ v k, (Gives Try.prog 58 #[.int .i64 o.z, .int .i64 d.z, .agg #[.int .i64 n, .int .i64 q]] (.tuple #[.int .i64 v, .bool k])) ∧ ((k = true ∧ v = o.z + n * d.z / q) ∨ (k = false ∧ ¬ (-1099511627776 ≤ o.z + n * d.z / q ∧ o.z + n * d.z / q ≤ 1099511627776))) := by
        by_cases c : -9223372036854775808 ≤ (o.z + n * d.z / q) ∧ (o.z + n * d.z / q) ≤ 9223372036854775807
        · exact ⟨_, _, along_yes o.z d.z n q oz dz hn hq' c, .inl ⟨rfl, rfl⟩⟩
        · exact ⟨_, _, along_no o.z d.z n q oz dz hn hq' c, .inr ⟨rfl, by omega⟩⟩
      obtain ⟨ux, kx, fx, ex⟩ := fx
      obtain ⟨uy, ky, fy, ey⟩ := fy
      obtain ⟨uz, kz, fz, ez⟩ := fz
      obtain ⟨vx, jx, ax, gx⟩ := ax
      obtain ⟨vy, jy, ay, gy⟩ := ay
      obtain ⟨vz, jz, az, gz⟩ := az
      have hq1 : 1 ≤ q := hq'.1
      have wi := vWithin_any vx vy vz 1099511627776 (by omega)
      -- the document's
      have rr : (kx = true ∧ ky = true ∧ kz = true) ∨ Gives Try.prog 28 #[.agg #[.int .i64 o.x, .int .i64 o.y, .int .i64 o.z], .agg #[.int .i64 d.x, .int .i64 d.y, .int .i64 d.z], .agg #[.int .i64 n, .int .i64 q]] (.tuple #[.agg #[.int .i64 0, .int .i64 0, .int .i64 0], .bool false]) := by
        cases kx
        · exact .inr (rAt_3 o d n q _ _ _ _ _ l hq1 fx fy fz)
        · cases ky
          · exact .inr (rAt_4 o d n q _ _ _ _ l hq1 fx fy fz)
          · cases kz
            · exact .inr (rAt_5 o d n q _ _ _ l hq1 fx fy fz)
            · exact .inl ⟨rfl, rfl, rfl⟩
      have vv : (jx = true ∧ jy = true ∧ jz = true ∧ wiB vx vy vz 1099511627776 = true) ∨ Gives Try.prog 27 #[.agg #[.int .i64 o.x, .int .i64 o.y, .int .i64 o.z], .agg #[.int .i64 d.x, .int .i64 d.y, .int .i64 d.z], .agg #[.int .i64 n, .int .i64 q]] (.tuple #[.agg #[.int .i64 0, .int .i64 0, .int .i64 0], .bool false]) := by
        cases jx
        · exact .inr (vAt_3 o d n q _ _ _ _ _ b hq1 ax ay az)
        · cases jy
          · exact .inr (vAt_4 o d n q _ _ _ _ b hq1 ax ay az)
          · cases jz
            · exact .inr (vAt_5 o d n q _ _ _ b hq1 ax ay az)
            · by_cases hw : wiB vx vy vz 1099511627776 = true
              · exact .inl ⟨rfl, rfl, rfl, hw⟩
              · have hw : wiB vx vy vz 1099511627776 = false := by simpa using hw
                rw [hw] at wi
                exact .inr (vAt_6 o d n q _ _ _ b hq1 ax ay az wi)
      by_cases all : (-1099511627776 ≤ o.x + n * d.x / q ∧ o.x + n * d.x / q ≤ 1099511627776) ∧ (-1099511627776 ≤ o.y + n * d.y / q ∧ o.y + n * d.y / q ≤ 1099511627776) ∧ (-1099511627776 ≤ o.z + n * d.z / q ∧ o.z + n * d.z / q ≤ 1099511627776)
      · obtain ⟨c1, c2, c3⟩ := all
        rcases ex with ⟨rfl, rfl, _⟩ | ⟨_, ex⟩
        · rcases ey with ⟨rfl, rfl, _⟩ | ⟨_, ey⟩
          · rcases ez with ⟨rfl, rfl, _⟩ | ⟨_, ez⟩
            · rcases gx with ⟨rfl, rfl⟩ | ⟨_, gx⟩
              · rcases gy with ⟨rfl, rfl⟩ | ⟨_, gy⟩
                · rcases gz with ⟨rfl, rfl⟩ | ⟨_, gz⟩
                  · have hw : wiB (o.x + n * d.x / q) (o.y + n * d.y / q) (o.z + n * d.z / q) 1099511627776 = true := (wiB_iff _ _ _ _).2 ⟨by omega, c1, c2, c3⟩
                    rw [hw] at wi
                    exact ⟨_, _, _, _, vAt_7 o d n q _ _ _ b hq1 ax ay az wi, rAt_6 o d n q _ _ _ l hq1 fx fy fz⟩
                  · exact absurd c3 gz
                · exact absurd c2 gy
              · exact absurd c1 gx
            · exact absurd c3 ez
          · exact absurd c2 ey
        · exact absurd c1 ex
      · refine ⟨0, 0, 0, false, ?_, ?_⟩
        · rcases vv with ⟨rfl, rfl, rfl, hw⟩ | vv
          · rw [wiB_iff] at hw
            rcases gx with ⟨_, rfl⟩ | ⟨h, _⟩
            · rcases gy with ⟨_, rfl⟩ | ⟨h, _⟩
              · rcases gz with ⟨_, rfl⟩ | ⟨h, _⟩
                · exact absurd ⟨hw.2.1, hw.2.2.1, hw.2.2.2⟩ all
                · cases h
              · cases h
            · cases h
          · exact vv
        · rcases rr with ⟨rfl, rfl, rfl⟩ | rr
          · rcases ex with ⟨_, _, c1⟩ | ⟨h, _⟩
            · rcases ey with ⟨_, _, c2⟩ | ⟨h, _⟩
              · rcases ez with ⟨_, _, c3⟩ | ⟨h, _⟩
                · exact absurd ⟨c1, c2, c3⟩ all
                · cases h
              · cases h
            · cases h
          · exact rr
  · have hl : lnB o d = false := by simpa using hl
    rw [hl] at b l
    exact ⟨_, _, _, _, vAt_1 o d n q 0 0 0 b, rAt_1 o d n q 0 0 0 l⟩
set_option maxHeartbeats 1000000 in
theorem vNormal_w (a b c u v N : P3) (s1 : Gives Try.prog 56 #[.agg #[.int .i64 b.x, .int .i64 b.y, .int .i64 b.z], .agg #[.int .i64 a.x, .int .i64 a.y, .int .i64 a.z]] (.agg #[.int .i64 u.x, .int .i64 u.y, .int .i64 u.z])) (s2 : Gives Try.prog 56 #[.agg #[.int .i64 c.x, .int .i64 c.y, .int .i64 c.z], .agg #[.int .i64 a.x, .int .i64 a.y, .int .i64 a.z]] (.agg #[.int .i64 v.x, .int .i64 v.y, .int .i64 v.z])) (c1 : Gives Try.prog 61 #[.agg #[.int .i64 u.x, .int .i64 u.y, .int .i64 u.z], .agg #[.int .i64 v.x, .int .i64 v.y, .int .i64 v.z]] (.agg #[.int .i64 N.x, .int .i64 N.y, .int .i64 N.z])) : Gives Try.prog 29 #[.agg #[.int .i64 a.x, .int .i64 a.y, .int .i64 a.z, .int .i64 b.x, .int .i64 b.y, .int .i64 b.z, .int .i64 c.x, .int .i64 c.y, .int .i64 c.z]] (.agg #[.int .i64 N.x, .int .i64 N.y, .int .i64 N.z]) := by
  refine Gives.mk fun w => ?_
  go_enter Try.func29, Try.ntmps29
  go_wp2_with fail
  refine wp_region_tail 11 ?_ (by kernel_rfl) (by kernel_rfl) (by kernel_rfl) (fun x => ?_) (fun x => ?_)
  rotate_left
  · simp only [List.take_succ_cons, List.take_zero]
    repeat (go_big_quiet_step (((first | with_reducible exact s1.quiet _ | with_reducible exact s1.quiet2 _ _ | with_reducible exact s2.quiet _ | with_reducible exact s2.quiet2 _ _ | with_reducible exact c1.quiet _ | with_reducible exact c1.quiet2 _ _))))
    refine wpQuiet_nil ?_
    exact rfl
  simp only [List.drop_succ_cons, List.drop_zero]
  try simp only [Act.put, List.setIfInBounds_toArray, List.set_cons_succ, List.set_cons_zero]
  go_wp2_with fail
  refine bodyPost_ret (v := .agg #[.int .i64 N.x, .int .i64 N.y, .int .i64 N.z]) (by simp [results, Try.results29, go_sem]) rfl ⟨rfl, (by repeat (first | exact Below.refl _ _ | refine bel_then ?_ _ | refine bel_grow ?_ _ | refine bel_alloc ?_ _ | refine bel_drew ?_ | refine bel_set ?_ (by simp) _ | refine bel_setRow ?_ (by first | omega | (simp; done) | (refine Nat.le_trans ?_ (top_le _ _); simp; done) | (refine Nat.le_succ_of_le (Nat.le_trans ?_ (top_le _ _)); simp; done) | (refine Nat.le_trans ?_ (top_le _ _); simp only [World.size_alloc]; refine Nat.le_succ_of_le (Nat.le_trans ?_ (top_le _ _)); simp; done)) _))⟩
set_option maxHeartbeats 1000000 in
theorem rNormal_w (a b c u v N : P3) (s1 : Gives Try.prog 33 #[.agg #[.int .i64 b.x, .int .i64 b.y, .int .i64 b.z], .agg #[.int .i64 a.x, .int .i64 a.y, .int .i64 a.z]] (.agg #[.int .i64 u.x, .int .i64 u.y, .int .i64 u.z])) (s2 : Gives Try.prog 33 #[.agg #[.int .i64 c.x, .int .i64 c.y, .int .i64 c.z], .agg #[.int .i64 a.x, .int .i64 a.y, .int .i64 a.z]] (.agg #[.int .i64 v.x, .int .i64 v.y, .int .i64 v.z])) (c1 : Gives Try.prog 36 #[.agg #[.int .i64 u.x, .int .i64 u.y, .int .i64 u.z], .agg #[.int .i64 v.x, .int .i64 v.y, .int .i64 v.z]] (.agg #[.int .i64 N.x, .int .i64 N.y, .int .i64 N.z])) : Gives Try.prog 30 #[.agg #[.int .i64 a.x, .int .i64 a.y, .int .i64 a.z, .int .i64 b.x, .int .i64 b.y, .int .i64 b.z, .int .i64 c.x, .int .i64 c.y, .int .i64 c.z]] (.agg #[.int .i64 N.x, .int .i64 N.y, .int .i64 N.z]) := by
  refine Gives.mk fun w => ?_
  go_enter Try.func30, Try.ntmps30
  go_wp2_with fail
  refine wp_region_tail 11 ?_ (by kernel_rfl) (by kernel_rfl) (by kernel_rfl) (fun x => ?_) (fun x => ?_)
  rotate_left
  · simp only [List.take_succ_cons, List.take_zero]
    repeat (go_big_quiet_step (((first | with_reducible exact s1.quiet _ | with_reducible exact s1.quiet2 _ _ | with_reducible exact s2.quiet _ | with_reducible exact s2.quiet2 _ _ | with_reducible exact c1.quiet _ | with_reducible exact c1.quiet2 _ _))))
    refine wpQuiet_nil ?_
    exact rfl
  simp only [List.drop_succ_cons, List.drop_zero]
  try simp only [Act.put, List.setIfInBounds_toArray, List.set_cons_succ, List.set_cons_zero]
  go_wp2_with fail
  refine bodyPost_ret (v := .agg #[.int .i64 N.x, .int .i64 N.y, .int .i64 N.z]) (by simp [results, Try.results30, go_sem]) rfl ⟨rfl, (by repeat (first | exact Below.refl _ _ | refine bel_then ?_ _ | refine bel_grow ?_ _ | refine bel_alloc ?_ _ | refine bel_drew ?_ | refine bel_set ?_ (by simp) _ | refine bel_setRow ?_ (by first | omega | (simp; done) | (refine Nat.le_trans ?_ (top_le _ _); simp; done) | (refine Nat.le_succ_of_le (Nat.le_trans ?_ (top_le _ _)); simp; done) | (refine Nat.le_trans ?_ (top_le _ _); simp only [World.size_alloc]; refine Nat.le_succ_of_le (Nat.le_trans ?_ (top_le _ _)); simp; done)) _))⟩
theorem normal_both (a b c : P3) : ∃ N : P3, (Gives Try.prog 29 #[.agg #[.int .i64 a.x, .int .i64 a.y, .int .i64 a.z, .int .i64 b.x, .int .i64 b.y, .int .i64 b.z, .int .i64 c.x, .int .i64 c.y, .int .i64 c.z]] (.agg #[.int .i64 N.x, .int .i64 N.y, .int .i64 N.z])) ∧ Gives Try.prog 30 #[.agg #[.int .i64 a.x, .int .i64 a.y, .int .i64 a.z, .int .i64 b.x, .int .i64 b.y, .int .i64 b.z, .int .i64 c.x, .int .i64 c.y, .int .i64 c.z]] (.agg #[.int .i64 N.x, .int .i64 N.y, .int .i64 N.z]) :=
  ⟨⟨_, _, _⟩, vNormal_w a b c ⟨_, _, _⟩ ⟨_, _, _⟩ ⟨_, _, _⟩ (vSub_any _ _ _ _ _ _) (vSub_any _ _ _ _ _ _) (vCross_any _ _ _ _ _ _), rNormal_w a b c ⟨_, _, _⟩ ⟨_, _, _⟩ ⟨_, _, _⟩ (rSub_any _ _ _ _ _ _) (rSub_any _ _ _ _ _ _) (rCross_any _ _ _ _ _ _)⟩
end Go.Proofs.Ytgfgaaecpdbgeaa
