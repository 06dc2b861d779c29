/- Contracts of sums and products within bounds, and of the side on which a line passes an edge. -/
import Derived.Test.YtgfgaaecpdbgeaaShelf
import Derived.Test.YtgfgaaecpdbgeaaVec5
import Derived.Test.YtgfgaaecpdbgeaaKeep
import Derived.Test.YtgfgaaecpdbgeaaSideM
namespace Go.Proofs.Ytgfgaaecpdbgeaa
open Go.RowKit
set_option linter.unusedVariables false
set_option linter.unusedSimpArgs false
theorem wrap_in {x : Int} (h : -4611686018427387904 ≤ x ∧ x ≤ 4611686018427387904) : wrap64 x = x := by unfold wrap64; omega
theorem vSub_P (a b : P3) (h : InP 4611686018427387904 (sb a b)) : Gives Try.prog 56 #[.agg #[.int .i64 a.x, .int .i64 a.y, .int .i64 a.z], .agg #[.int .i64 b.x, .int .i64 b.y, .int .i64 b.z]] (.agg #[.int .i64 (sb a b).x, .int .i64 (sb a b).y, .int .i64 (sb a b).z]) := by
  have k := vSub_any a.x a.y a.z b.x b.y b.z
  obtain ⟨h1, h2, h3⟩ := h
  rw [show wrap64 (a.x - b.x) = (sb a b).x from wrap_in h1, show wrap64 (a.y - b.y) = (sb a b).y from wrap_in h2, show wrap64 (a.z - b.z) = (sb a b).z from wrap_in h3] at k
  exact k
theorem rSub_P (a b : P3) (h : InP 4611686018427387904 (sb a b)) : Gives Try.prog 33 #[.agg #[.int .i64 a.x, .int .i64 a.y, .int .i64 a.z], .agg #[.int .i64 b.x, .int .i64 b.y, .int .i64 b.z]] (.agg #[.int .i64 (sb a b).x, .int .i64 (sb a b).y, .int .i64 (sb a b).z]) := by
  have k := rSub_any a.x a.y a.z b.x b.y b.z
  obtain ⟨h1, h2, h3⟩ := h
  rw [show wrap64 (a.x - b.x) = (sb a b).x from wrap_in h1, show wrap64 (a.y - b.y) = (sb a b).y from wrap_in h2, show wrap64 (a.z - b.z) = (sb a b).z from wrap_in h3] at k
  exact k
theorem vDot_P (a b : P3) (m n : Int) (ha : InP m a) (hb : InP n b) (h : m * n ≤ 1152921504606846976) : Gives Try.prog 55 #[.agg #[.int .i64 a.x, .int .i64 a.y, .int .i64 a.z], .agg #[.int .i64 b.x, .int .i64 b.y, .int .i64 b.z]] (.int .i64 (dt a b)) := by
  have k := vDot_any a.x a.y a.z b.x b.y b.z
  obtain ⟨a1, a2, a3⟩ := ha
  obtain ⟨b1, b2, b3⟩ := hb
  have p1 := mul_bd a1 b1
  have p2 := mul_bd a2 b2
  have p3 := mul_bd a3 b3
  rw [wrap_in (x := a.x * b.x) (by omega), wrap_in (x := a.y * b.y) (by omega), wrap_in (x := a.z * b.z) (by omega), wrap_in (x := a.x * b.x + a.y * b.y) (by omega), wrap_in (x := a.x * b.x + a.y * b.y + a.z * b.z) (by omega)] at k
  exact k
theorem rDot_P (a b : P3) (m n : Int) (ha : InP m a) (hb : InP n b) (h : m * n ≤ 1152921504606846976) : Gives Try.prog 35 #[.agg #[.int .i64 a.x, .int .i64 a.y, .int .i64 a.z], .agg #[.int .i64 b.x, .int .i64 b.y, .int .i64 b.z]] (.int .i64 (dt a b)) := by
  have k := rDot_any a.x a.y a.z b.x b.y b.z
  obtain ⟨a1, a2, a3⟩ := ha
  obtain ⟨b1, b2, b3⟩ := hb
  have p1 := mul_bd a1 b1
  have p2 := mul_bd a2 b2
  have p3 := mul_bd a3 b3
  rw [wrap_in (x := a.x * b.x) (by omega), wrap_in (x := a.y * b.y) (by omega), wrap_in (x := a.z * b.z) (by omega), wrap_in (x := a.x * b.x + a.y * b.y) (by omega), wrap_in (x := a.x * b.x + a.y * b.y + a.z * b.z) (by omega)] at k
  exact k
theorem vCross_P (a b : P3) (m n : Int) (ha : InP m a) (hb : InP n b) (h : m * n ≤ 1152921504606846976) : Gives Try.prog 61 #[.agg #[.int .i64 a.x, .int .i64 a.y, .int .i64 a.z], .agg #[.int .i64 b.x, .int .i64 b.y, .int .i64 b.z]] (.agg #[.int .i64 (cr a b).x, .int .i64 (cr a b).y, .int .i64 (cr a b).z]) := by
  have k := vCross_any a.x a.y a.z b.x b.y b.z
  obtain ⟨a1, a2, a3⟩ := ha
  obtain ⟨b1, b2, b3⟩ := hb
  have p1 := mul_bd a2 b3
  have p2 := mul_bd a3 b2
  have p3 := mul_bd a3 b1
  have p4 := mul_bd a1 b3
  have p5 := mul_bd a1 b2
  have p6 := mul_bd a2 b1
  rw [wrap_in (x := a.y * b.z) (by omega), wrap_in (x := a.z * b.y) (by omega), wrap_in (x := a.z * b.x) (by omega), wrap_in (x := a.x * b.z) (by omega), wrap_in (x := a.x * b.y) (by omega), wrap_in (x := a.y * b.x) (by omega)] at k
  rw [show wrap64 (a.y * b.z - a.z * b.y) = (cr a b).x from wrap_in (by omega), show wrap64 (a.z * b.x - a.x * b.z) = (cr a b).y from wrap_in (by omega), show wrap64 (a.x * b.y - a.y * b.x) = (cr a b).z from wrap_in (by omega)] at k
  exact k
theorem rCross_P (a b : P3) (m n : Int) (ha : InP m a) (hb : InP n b) (h : m * n ≤ 1152921504606846976) : Gives Try.prog 36 #[.agg #[.int .i64 a.x, .int .i64 a.y, .int .i64 a.z], .agg #[.int .i64 b.x, .int .i64 b.y, .int .i64 b.z]] (.agg #[.int .i64 (cr a b).x, .int .i64 (cr a b).y, .int .i64 (cr a b).z]) := by
  have k := rCross_any a.x a.y a.z b.x b.y b.z
  obtain ⟨a1, a2, a3⟩ := ha
  obtain ⟨b1, b2, b3⟩ := hb
  have p1 := mul_bd a2 b3
  have p2 := mul_bd a3 b2
  have p3 := mul_bd a3 b1
  have p4 := mul_bd a1 b3
  have p5 := mul_bd a1 b2
  have p6 := mul_bd a2 b1
  rw [wrap_in (x := a.y * b.z) (by omega), wrap_in (x := a.z * b.y) (by omega), wrap_in (x := a.z * b.x) (by omega), wrap_in (x := a.x * b.z) (by omega), wrap_in (x := a.x * b.y) (by omega), wrap_in (x := a.y * b.x) (by omega)] at k
  rw [show wrap64 (a.y * b.z - a.z * b.y) = (cr a b).x from wrap_in (by omega), show wrap64 (a.z * b.x - a.x * b.z) = (cr a b).y from wrap_in (by omega), show wrap64 (a.x * b.y - a.y * b.x) = (cr a b).z from wrap_in (by omega)] at k
  exact k
theorem cmp0_any (x : Int) : Gives Try.prog 67 #[.int .i64 x, .int .i64 0] (.int .i64 (sgn x)) := by
  intro w
  refine (Try.cmp_Compare_int x 0 w).mono ?_
  rintro e w' ⟨rfl, rfl⟩
  refine ⟨?_, grow_of (Below.refl _ _)⟩
  have : Lib.compareInt x 0 = sgn x := by unfold Lib.compareInt sgn; (repeat' split) <;> omega
  rw [this]
theorem orI_0 {t x y z : Int} (h : t ≠ 0) : orI t x y z = t := by unfold orI; simp [h]
theorem orI_1 {x y z : Int} (h : x ≠ 0) : orI 0 x y z = x := by unfold orI; simp [h]
theorem orI_2 {y z : Int} (h : y ≠ 0) : orI 0 0 y z = y := by unfold orI; simp [h]
theorem orI_3 {z : Int} : orI 0 0 0 z = z := by unfold orI; simp
def orR (t x y z : Int) (i : Value) : Prop := i = .int .i64 0 ∨ (i = .int .i64 1 ∧ t = 0) ∨ (i = .int .i64 2 ∧ t = 0 ∧ x = 0) ∨ (i = .int .i64 3 ∧ t = 0 ∧ x = 0 ∧ y = 0) ∨ (i = .int .i64 4 ∧ t = 0 ∧ x = 0 ∧ y = 0 ∧ z = 0)
set_option maxHeartbeats 1000000 in
theorem or_any (w : World) (b : Nat) (t x y z : Int) (c0 : w.cell? ⟨b, 0, none⟩ = some (.int .i64 t)) (c1 : w.cell? ⟨b, 1, none⟩ = some (.int .i64 x)) (c2 : w.cell? ⟨b, 2, none⟩ = some (.int .i64 y)) (c3 : w.cell? ⟨b, 3, none⟩ = some (.int .i64 z)) :
    Calls Try.prog 68 #[.slice (some ⟨b, 0, none⟩) 4 4] w fun e w' => e = .returned (.int .i64 (orI t x y z)) ∧ w' = w := by
  go_enter Try.func68, Try.ntmps68
  go_wp2
  go_loop [8] (fun i => orR t x y z i) (fun i => (4 - intOf i).toNat)
  case atStart => exact .inl rfl
  case round =>
    unfold orR at hrel
    rcases hrel with rfl | ⟨rfl, rfl⟩ | ⟨rfl, rfl, rfl⟩ | ⟨rfl, rfl, rfl, rfl⟩ | ⟨rfl, rfl, rfl, rfl, rfl⟩
    · by_cases h : t = 0
      · subst h
        go_wp2
        go_round
        case rel => exact .inr (.inl ⟨rfl, rfl⟩)
        case measure => simp [intOf]
      · have h1 : (t != 0) = true := by simpa using h
        go_wp2
        go_ret
        exact ⟨by rw [orI_0 h]; rfl, rfl⟩
    · by_cases h : x = 0
      · subst h
        go_wp2
        go_round
        case rel => exact .inr (.inr (.inl ⟨rfl, rfl, rfl⟩))
        case measure => simp [intOf]
      · have h1 : (x != 0) = true := by simpa using h
        go_wp2
        go_ret
        exact ⟨by rw [orI_1 h]; rfl, rfl⟩
    · by_cases h : y = 0
      · subst h
        go_wp2
        go_round
        case rel => exact .inr (.inr (.inr (.inl ⟨rfl, rfl, rfl, rfl⟩)))
        case measure => simp [intOf]
      · have h1 : (y != 0) = true := by simpa using h
        go_wp2
        go_ret
        exact ⟨by rw [orI_2 h]; rfl, rfl⟩
    · by_cases h : z = 0
      · subst h
        go_wp2
        go_round
        case rel => exact .inr (.inr (.inr (.inr ⟨rfl, rfl, rfl, rfl, rfl⟩)))
        case measure => simp [intOf]
      · have h1 : (z != 0) = true := by simpa using h
        go_wp2
        go_ret
        exact ⟨by rw [orI_3]; rfl, rfl⟩
    · go_wp2
      go_ret
      exact ⟨by rw [orI_3]; rfl, rfl⟩
theorem or_at (W : World) (t x y z : Int) : Calls Try.prog 68 #[.slice (some ⟨W.heap.size, 0, none⟩) 4 4] (W.alloc (.cells #[.int .i64 t, .int .i64 x, .int .i64 y, .int .i64 z] 3)) fun e w' => e = .returned (.int .i64 (orI t x y z)) ∧ w' = W.alloc (.cells #[.int .i64 t, .int .i64 x, .int .i64 y, .int .i64 z] 3) :=
  or_any _ _ t x y z (by simp [go_sem]) (by simp [go_sem]) (by simp [go_sem]) (by simp [go_sem])
theorem alloc_V (a : Act) (o : Oper) (ho : o.op = .alloc 36) (w : World) : (execOp a.eval o).run Try.prog w = .ok (.value (.pointer (some ⟨w.heap.size, 0, none⟩))) (w.alloc (.cells #[.int .i64 0, .int .i64 0, .int .i64 0] 36)) := by
  unfold execOp
  rw [ho]
  kernel_rfl
set_option maxRecDepth 100000 in
set_option maxHeartbeats 1000000 in
theorem pass_any (o d a b : P3) (ho : Sp o) (hd : Dr d) (ha : Sp a) (hb : Sp b) : Gives Try.prog 53 #[.agg #[.int .i64 o.x, .int .i64 o.y, .int .i64 o.z], .agg #[.int .i64 d.x, .int .i64 d.y, .int .i64 d.z], .agg #[.int .i64 a.x, .int .i64 a.y, .int .i64 a.z], .agg #[.int .i64 b.x, .int .i64 b.y, .int .i64 b.z]] (.int .i64 (pS o d a b)) := by
  refine Gives.mk fun w => ?_
  have i1 := sb_in ha ho
  have i2 := sb_in hb ho
  have i3 := sb_in ha hb
  have s1 := vSub_P a o (by unfold InP at *; omega)
  have s2 := vSub_P b o (by unfold InP at *; omega)
  have s3 := vSub_P a b (by unfold InP at *; omega)
  have c1 := vCross_P (sb a o) (sb b o) _ _ i1 i2 (by decide)
  have d1 : Gives Try.prog 55 #[.agg #[.int .i64 d.x, .int .i64 d.y, .int .i64 d.z], .agg #[.int .i64 (cr (sb a o) (sb b o)).x, .int .i64 (cr (sb a o) (sb b o)).y, .int .i64 (cr (sb a o) (sb b o)).z]] (.int .i64 (turn o d a b)) := vDot_P d _ _ _ hd (cr_in i1 i2) (by decide)
  have c2 : Gives Try.prog 61 #[.agg #[.int .i64 (sb a b).x, .int .i64 (sb a b).y, .int .i64 (sb a b).z], .agg #[.int .i64 d.x, .int .i64 d.y, .int .i64 d.z]] (.agg #[.int .i64 (grw d a b).x, .int .i64 (grw d a b).y, .int .i64 (grw d a b).z]) := vCross_P (sb a b) d _ _ i3 hd (by decide)
  have k := cmp0_any (orI (turn o d a b) (grw d a b).x (grw d a b).y (grw d a b).z)
  have hp : sgn (orI (turn o d a b) (grw d a b).x (grw d a b).y (grw d a b).z) = pS o d a b := rfl
  rw [hp] at k
  clear hp i1 i2 i3 ho hd ha hb
  go_enter Try.func53, Try.ntmps53
  go_wp2_with fail
  refine wp_region_grow (by kernel_rfl) (by kernel_rfl) ?_
  repeat (go_big_quiet_step (((first | with_reducible exact s1.quiet _ | with_reducible exact s1.quiet2 _ _ | with_reducible exact s2.quiet _ | with_reducible exact s2.quiet2 _ _ | with_reducible exact c1.quiet _ | with_reducible exact c1.quiet2 _ _ | with_reducible exact d1.quiet _ | with_reducible exact d1.quiet2 _ _))))
  refine wpQuiet_nil ?_
  rintro _ ⟨xg, rfl⟩
  go_wp2_with fail
  refine wp_region_make 5 ?_ 10 (.cells #[.int .i64 0, .int .i64 0, .int .i64 0] 36) (by kernel_rfl) (by kernel_rfl) (by kernel_rfl) (fun d hd => by cases hd; exact ⟨_, rfl, rfl, rfl, fun A u => alloc_V A _ rfl u⟩) (fun p => ?_) (fun p q => ?_)
  rotate_left
  · simp only [List.take_succ_cons, List.take_zero]
    repeat (go_big_quiet_step (((first | with_reducible exact s3.quiet _ | with_reducible exact s3.quiet2 _ _ | with_reducible exact c2.quiet _ | with_reducible exact c2.quiet2 _ _))))
    refine wpQuiet_nil ?_
    exact rfl
  simp only [List.drop_succ_cons, List.drop_zero]
  simp only [Act.put, List.setIfInBounds_toArray, List.set_cons_succ, List.set_cons_zero]
  go_wp2_with (first | (go_at_call 68; ((with_reducible refine (or_at _ _ _ _ _).mono ?_); rintro e w' ⟨rfl, rfl⟩)) | (go_at_call 67; first | ((with_reducible refine (k.at_ _).mono ?_); rintro e w' ⟨rfl, xg, rfl⟩)))
  go_ret
  exact ⟨rfl, (by repeat (first | exact Below.refl _ _ | refine bel_then ?_ _ | refine bel_grow ?_ _ | refine bel_alloc ?_ _ | refine bel_drew ?_ | refine bel_set ?_ (by simp) _ | refine bel_setRow ?_ (by first | omega | simp; done | exact Nat.le_trans (by simp) (top_le _ _)) _))⟩
end Go.Proofs.Ytgfgaaecpdbgeaa
