/- Contracts of sums and products within bounds, and of the side on which a line passes an edge. -/
import Derived.Test.YtngkimcnolmmoaaShelf
import Derived.Test.YtngkimcnolmmoaaMVecB
import Derived.Test.YtngkimcnolmmoaaMRegion
import Derived.Test.YtngkimcnolmmoaaSideM
namespace Go.Proofs.Ytngkimcnolmmoaa
open Go.RowKit
set_option linter.unusedVariables false
set_option linter.unusedSimpArgs false
theorem wrap_in {x : Int} (h : -4611686018427387904 ≤ x ∧ x ≤ 4611686018427387904) : wrap64 x = x := by unfold wrap64; omega
theorem vSub_P (a b : P3) (h : InP 4611686018427387904 (sb a b)) : Gives Try.prog 30 #[.agg #[.int .i64 a.x, .int .i64 a.y, .int .i64 a.z], .agg #[.int .i64 b.x, .int .i64 b.y, .int .i64 b.z]] (.agg #[.int .i64 (sb a b).x, .int .i64 (sb a b).y, .int .i64 (sb a b).z]) := by
  have k := vSub_any a.x a.y a.z b.x b.y b.z
  obtain ⟨h1, h2, h3⟩ := h
  rw [show wrap64 (a.x - b.x) = (sb a b).x from wrap_in h1, show wrap64 (a.y - b.y) = (sb a b).y from wrap_in h2, show wrap64 (a.z - b.z) = (sb a b).z from wrap_in h3] at k
  exact k
theorem vDot_P (a b : P3) (m n : Int) (ha : InP m a) (hb : InP n b) (h : m * n ≤ 1152921504606846976) : Gives Try.prog 29 #[.agg #[.int .i64 a.x, .int .i64 a.y, .int .i64 a.z], .agg #[.int .i64 b.x, .int .i64 b.y, .int .i64 b.z]] (.int .i64 (dt a b)) := by
  have k := vDot_any a.x a.y a.z b.x b.y b.z
  obtain ⟨a1, a2, a3⟩ := ha
  obtain ⟨b1, b2, b3⟩ := hb
  have p1 := mul_bd a1 b1
  have p2 := mul_bd a2 b2
  have p3 := mul_bd a3 b3
  rw [wrap_in (x := a.x * b.x) (by omega), wrap_in (x := a.y * b.y) (by omega), wrap_in (x := a.z * b.z) (by omega), wrap_in (x := a.x * b.x + a.y * b.y) (by omega), wrap_in (x := a.x * b.x + a.y * b.y + a.z * b.z) (by omega)] at k
  exact k
theorem vCross_P (a b : P3) (m n : Int) (ha : InP m a) (hb : InP n b) (h : m * n ≤ 1152921504606846976) : Gives Try.prog 37 #[.agg #[.int .i64 a.x, .int .i64 a.y, .int .i64 a.z], .agg #[.int .i64 b.x, .int .i64 b.y, .int .i64 b.z]] (.agg #[.int .i64 (cr a b).x, .int .i64 (cr a b).y, .int .i64 (cr a b).z]) := by
  have k := vCross_any a.x a.y a.z b.x b.y b.z
  obtain ⟨a1, a2, a3⟩ := ha
  obtain ⟨b1, b2, b3⟩ := hb
  have p1 := mul_bd a2 b3
  have p2 := mul_bd a3 b2
  have p3 := mul_bd a3 b1
  have p4 := mul_bd a1 b3
  have p5 := mul_bd a1 b2
  have p6 := mul_bd a2 b1
  rw [wrap_in (x := a.y * b.z) (by omega), wrap_in (x := a.z * b.y) (by omega), wrap_in (x := a.z * b.x) (by omega), wrap_in (x := a.x * b.z) (by omega), wrap_in (x := a.x * b.y) (by omega), wrap_in (x := a.y * b.x) (by omega)] at k
  rw [show wrap64 (a.y * b.z - a.z * b.y) = (cr a b).x from wrap_in (by omega), show wrap64 (a.z * b.x - a.x * b.z) = (cr a b).y from wrap_in (by omega), show wrap64 (a.x * b.y - a.y * b.x) = (cr a b).z from wrap_in (by omega)] at k
  exact k
theorem cmp0_any (x : Int) : Gives Try.prog 44 #[.int .i64 x, .int .i64 0] (.int .i64 (sgn x)) := by
  intro w
  refine (Try.cmp_Compare_int x 0 w).mono ?_
  rintro e w' ⟨rfl, rfl⟩
  refine ⟨?_, grow_of (Below.refl _ _)⟩
  have : Lib.compareInt x 0 = sgn x := by unfold Lib.compareInt sgn; (repeat' split) <;> omega
  rw [this]
theorem orI_0 {t x y z : Int} (h : t ≠ 0) : orI t x y z = t := by unfold orI; simp [h]
theorem orI_1 {x y z : Int} (h : x ≠ 0) : orI 0 x y z = x := by unfold orI; simp [h]
theorem orI_2 {y z : Int} (h : y ≠ 0) : orI 0 0 y z = y := by unfold orI; simp [h]
theorem orI_3 {z : Int} : orI 0 0 0 z = z := by unfold orI; simp
def orR (t x y z : Int) (i : Value) : Prop := i = .int .i64 0 ∨ (i = .int .i64 1 ∧ t = 0) ∨ (i = .int .i64 2 ∧ t = 0 ∧ x = 0) ∨ (i = .int .i64 3 ∧ t = 0 ∧ x = 0 ∧ y = 0) ∨ (i = .int .i64 4 ∧ t = 0 ∧ x = 0 ∧ y = 0 ∧ z = 0)
set_option maxHeartbeats 1000000 in
theorem or_any (w : World) (b : Nat) (t x y z : Int) (c0 : w.cell? ⟨b, 0, none⟩ = some (.int .i64 t)) (c1 : w.cell? ⟨b, 1, none⟩ = some (.int .i64 x)) (c2 : w.cell? ⟨b, 2, none⟩ = some (.int .i64 y)) (c3 : w.cell? ⟨b, 3, none⟩ = some (.int .i64 z)) :
    Calls Try.prog 45 #[.slice (some ⟨b, 0, none⟩) 4 4] w fun e w' => e = .returned (.int .i64 (orI t x y z)) ∧ w' = w := by
  go_enter Try.func45, Try.ntmps45
  go_wp2
  go_loop [8] (fun i => orR t x y z i) (fun i => (4 - intOf i).toNat)
  case atStart => exact .inl rfl
  case round =>
    unfold orR at hrel
    rcases hrel with rfl | ⟨rfl, rfl⟩ | ⟨rfl, rfl, rfl⟩ | ⟨rfl, rfl, rfl, rfl⟩ | ⟨rfl, rfl, rfl, rfl, rfl⟩
    · by_cases h : t = 0
      · subst h
        go_wp2
        go_round
        case rel => exact .inr (.inl ⟨rfl, rfl⟩)
        case measure => simp [intOf]
      · have h1 : (t != 0) = true := by simpa using h
        go_wp2
        go_ret
        exact ⟨by rw [orI_0 h]; rfl, rfl⟩
    · by_cases h : x = 0
      · subst h
        go_wp2
        go_round
        case rel => exact .inr (.inr (.inl ⟨rfl, rfl, rfl⟩))
        case measure => simp [intOf]
      · have h1 : (x != 0) = true := by simpa using h
        go_wp2
        go_ret
        exact ⟨by rw [orI_1 h]; rfl, rfl⟩
    · by_cases h : y = 0
      · subst h
        go_wp2
        go_round
        case rel => exact .inr (.inr (.inr (.inl ⟨rfl, rfl, rfl, rfl⟩)))
        case measure => simp [intOf]
      · have h1 : (y != 0) = true := by simpa using h
        go_wp2
        go_ret
        exact ⟨by rw [orI_2 h]; rfl, rfl⟩
    · by_cases h : z = 0
      · subst h
        go_wp2
        go_round
        case rel => exact .inr (.inr (.inr (.inr ⟨rfl, rfl, rfl, rfl, rfl⟩)))
        case measure => simp [intOf]
      · have h1 : (z != 0) = true := by simpa using h
        go_wp2
        go_ret
        exact ⟨by rw [orI_3]; rfl, rfl⟩
    · go_wp2
      go_ret
      exact ⟨by rw [orI_3]; rfl, rfl⟩
theorem or_at (W : World) (t x y z : Int) : Calls Try.prog 45 #[.slice (some ⟨W.heap.size, 0, none⟩) 4 4] (W.alloc (.cells #[.int .i64 t, .int .i64 x, .int .i64 y, .int .i64 z] 3)) fun e w' => e = .returned (.int .i64 (orI t x y z)) ∧ w' = W.alloc (.cells #[.int .i64 t, .int .i64 x, .int .i64 y, .int .i64 z] 3) :=
  or_any _ _ t x y z (by simp [go_sem]) (by simp [go_sem]) (by simp [go_sem]) (by simp [go_sem])
theorem alloc_V (a : Act) (o : Oper) (ho : o.op = .alloc 23) (w : World) : (execOp a.eval o).run Try.prog w = .ok (.value (.pointer (some ⟨w.heap.size, 0, none⟩))) (w.alloc (.cells #[.int .i64 0, .int .i64 0, .int .i64 0] 23)) := by
  unfold execOp
  rw [ho]
  kernel_rfl
set_option maxRecDepth 100000 in
set_option maxHeartbeats 1000000 in
theorem pass_any (o d a b : P3) (ho : Sp o) (hd : Dr d) (ha : Sp a) (hb : Sp b) : Gives Try.prog 38 #[.agg #[.int .i64 o.x, .int .i64 o.y, .int .i64 o.z], .agg #[.int .i64 d.x, .int .i64 d.y, .int .i64 d.z], .agg #[.int .i64 a.x, .int .i64 a.y, .int .i64 a.z], .agg #[.int .i64 b.x, .int .i64 b.y, .int .i64 b.z]] (.int .i64 (pS o d a b)) := by
  refine Gives.mk fun w => ?_
  have i1 := sb_in ha ho
  have i2 := sb_in hb ho
  have i3 := sb_in ha hb
  have s1 := vSub_P a o (by unfold InP at *; omega)
  have s2 := vSub_P b o (by unfold InP at *; omega)
  have s3 := vSub_P a b (by unfold InP at *; omega)
  have c1 := vCross_P (sb a o) (sb b o) _ _ i1 i2 (by decide)
  have d1 : Gives Try.prog 29 #[.agg #[.int .i64 d.x, .int .i64 d.y, .int .i64 d.z], .agg #[.int .i64 (cr (sb a o) (sb b o)).x, .int .i64 (cr (sb a o) (sb b o)).y, .int .i64 (cr (sb a o) (sb b o)).z]] (.int .i64 (turn o d a b)) := vDot_P d _ _ _ hd (cr_in i1 i2) (by decide)
  have c2 : Gives Try.prog 37 #[.agg #[.int .i64 (sb a b).x, .int .i64 (sb a b).y, .int .i64 (sb a b).z], .agg #[.int .i64 d.x, .int .i64 d.y, .int .i64 d.z]] (.agg #[.int .i64 (grw d a b).x, .int .i64 (grw d a b).y, .int .i64 (grw d a b).z]) := vCross_P (sb a b) d _ _ i3 hd (by decide)
  have k := cmp0_any (orI (turn o d a b) (grw d a b).x (grw d a b).y (grw d a b).z)
  have hp : sgn (orI (turn o d a b) (grw d a b).x (grw d a b).y (grw d a b).z) = pS o d a b := rfl
  rw [hp] at k
  clear hp i1 i2 i3 ho hd ha hb
  go_enter Try.func38, Try.ntmps38
  go_wp2_with fail
  refine wp_region_grow (by kernel_rfl) (by kernel_rfl) ?_
  repeat (go_big_quiet_step (((first | with_reducible exact s1.quiet _ | with_reducible exact s1.quiet2 _ _ | with_reducible exact s2.quiet _ | with_reducible exact s2.quiet2 _ _ | with_reducible exact c1.quiet _ | with_reducible exact c1.quiet2 _ _ | with_reducible exact d1.quiet _ | with_reducible exact d1.quiet2 _ _))))
  refine wpQuiet_nil ?_
  rintro _ ⟨xg, rfl⟩
  go_wp2_with fail
  refine wp_region_make 5 ?_ 10 (.cells #[.int .i64 0, .int .i64 0, .int .i64 0] 23) (by kernel_rfl) (by kernel_rfl) (by kernel_rfl) (fun d hd => by cases hd; exact ⟨_, rfl, rfl, rfl, fun A u => alloc_V A _ rfl u⟩) (fun p => ?_) (fun p q => ?_)
  rotate_left
  · simp only [List.take_succ_cons, List.take_zero]
    repeat (go_big_quiet_step (((first | with_reducible exact s3.quiet _ | with_reducible exact s3.quiet2 _ _ | with_reducible exact c2.quiet _ | with_reducible exact c2.quiet2 _ _))))
    refine wpQuiet_nil ?_
    exact rfl
  simp only [List.drop_succ_cons, List.drop_zero]
  simp only [Act.put, List.setIfInBounds_toArray, List.set_cons_succ, List.set_cons_zero]
  go_wp2_with (first | (go_at_call 45; ((with_reducible refine (or_at _ _ _ _ _).mono ?_); rintro e w' ⟨rfl, rfl⟩)) | (go_at_call 44; first | ((with_reducible refine (k.at_ _).mono ?_); rintro e w' ⟨rfl, xg, rfl⟩)))
  go_ret
  exact ⟨rfl, (by repeat (first | exact Below.refl _ _ | refine bel_then ?_ _ | refine bel_grow ?_ _ | refine bel_alloc ?_ _ | refine bel_drew ?_ | refine bel_set ?_ (by simp) _ | refine bel_setRow ?_ (by first | omega | simp; done | exact Nat.le_trans (by simp) (top_le _ _)) _))⟩
end Go.Proofs.Ytngkimcnolmmoaa

/- Contracts of the bounds of a line and of points. -/
namespace Go.Proofs.Ytngkimcnolmmoaa
open Go.RowKit
set_option linter.unusedVariables false
set_option linter.unusedSimpArgs false
/-- May a line be reckoned with? -/
def nz (d : P3) : Bool := !(d.x == 0 && d.y == 0 && d.z == 0)
def lnB (o d : P3) : Bool := nz d && wiB d.x d.y d.z 32768 && wiB o.x o.y o.z 65536
def inB3 (a : P3) : Bool := wiB a.x a.y a.z 65536
def insF (p : Nat → Int × Int × Int) : Nat → Bool
  | 0 => true
  | k + 1 => insF p k && wiB (p k).1 (p k).2.1 (p k).2.2 65536
theorem insF_no (p : Nat → Int × Int × Int) (k : Nat) (h : wiB (p k).1 (p k).2.1 (p k).2.2 65536 = false) : ∀ n, k < n → insF p n = false
  | 0, hn => by omega
  | n + 1, hn => by
    unfold insF
    by_cases e : k = n
    · subst e; rw [h]; simp
    · rw [insF_no p k h n (by omega)]; rfl
theorem nz_cases {dx dy dz : Int} (h : nz ⟨dx, dy, dz⟩ = true) : dx ≠ 0 ∨ (dx = 0 ∧ dy ≠ 0) ∨ dx = 0 ∧ dy = 0 ∧ dz ≠ 0 := by
  unfold nz at h; simp at h; omega
theorem bl_z (o : P3) (A : Option Addr) (n c : Nat) : Gives Try.prog 27 #[.agg #[.int .i64 o.x, .int .i64 o.y, .int .i64 o.z], .agg #[.int .i64 0, .int .i64 0, .int .i64 0], .slice A n c] (.bool false) := by
  refine Gives.mk fun w => ?_
  go_enter Try.func27, Try.ntmps27
  go_wp2
  go_ret
  exact ⟨rfl, (by repeat (first | exact Below.refl _ _ | refine bel_then ?_ _ | refine bel_grow ?_ _ | refine bel_alloc ?_ _ | refine bel_drew ?_ | refine bel_set ?_ (by simp) _ | refine bel_setRow ?_ (by first | omega | simp; done | exact Nat.le_trans (by simp) (top_le _ _)) _))⟩
theorem bl_d (o : P3) (dx dy dz : Int) (A : Option Addr) (n c : Nat) (hz : nz ⟨dx, dy, dz⟩ = true) (h1 : wiB dx dy dz 32768 = false) : Gives Try.prog 27 #[.agg #[.int .i64 o.x, .int .i64 o.y, .int .i64 o.z], .agg #[.int .i64 dx, .int .i64 dy, .int .i64 dz], .slice A n c] (.bool false) := by
  refine Gives.mk fun w => ?_
  have k1 := vWithin_any dx dy dz 32768 (by omega)
  rw [h1] at k1
  clear h1
  rcases nz_cases hz with h | ⟨rfl, h⟩ | ⟨rfl, rfl, h⟩
  all_goals
    go_enter Try.func27, Try.ntmps27
    go_wp2_with (first | (go_at_call 18; first | ((with_reducible refine (k1.at_ _).mono ?_); rintro e w' ⟨rfl, xg, rfl⟩)))
    go_ret
    exact ⟨rfl, (by repeat (first | exact Below.refl _ _ | refine bel_then ?_ _ | refine bel_grow ?_ _ | refine bel_alloc ?_ _ | refine bel_drew ?_ | refine bel_set ?_ (by simp) _ | refine bel_setRow ?_ (by first | omega | simp; done | exact Nat.le_trans (by simp) (top_le _ _)) _))⟩
theorem bl_o (o : P3) (dx dy dz : Int) (A : Option Addr) (n c : Nat) (hz : nz ⟨dx, dy, dz⟩ = true) (h1 : wiB dx dy dz 32768 = true) (h2 : wiB o.x o.y o.z 65536 = false) : Gives Try.prog 27 #[.agg #[.int .i64 o.x, .int .i64 o.y, .int .i64 o.z], .agg #[.int .i64 dx, .int .i64 dy, .int .i64 dz], .slice A n c] (.bool false) := by
  refine Gives.mk fun w => ?_
  have k1 := vWithin_any dx dy dz 32768 (by omega)
  have k2 := vWithin_any o.x o.y o.z 65536 (by omega)
  rw [h1] at k1
  rw [h2] at k2
  clear h1 h2
  rcases nz_cases hz with h | ⟨rfl, h⟩ | ⟨rfl, rfl, h⟩
  all_goals
    go_enter Try.func27, Try.ntmps27
    go_wp2_with (first | (go_at_call 18; first | ((with_reducible refine (k1.at_ _).mono ?_); rintro e w' ⟨rfl, xg, rfl⟩) | ((with_reducible refine (k2.at_ _).mono ?_); rintro e w' ⟨rfl, xg, rfl⟩)))
    go_ret
    exact ⟨rfl, (by repeat (first | exact Below.refl _ _ | refine bel_then ?_ _ | refine bel_grow ?_ _ | refine bel_alloc ?_ _ | refine bel_drew ?_ | refine bel_set ?_ (by simp) _ | refine bel_setRow ?_ (by first | omega | simp; done | exact Nat.le_trans (by simp) (top_le _ _)) _))⟩
set_option maxHeartbeats 2000000 in
theorem bl_yes (w : World) (o : P3) (dx dy dz : Int) (A : Option Addr) (n c : Nat) (p : Nat → Int × Int × Int) (hv : VF w A n p) (hn : n ≤ 2147483647) (hc : n ≤ c) (hz : nz ⟨dx, dy, dz⟩ = true) (h1 : wiB dx dy dz 32768 = true) (h2 : wiB o.x o.y o.z 65536 = true) :
    Calls Try.prog 27 #[.agg #[.int .i64 o.x, .int .i64 o.y, .int .i64 o.z], .agg #[.int .i64 dx, .int .i64 dy, .int .i64 dz], .slice A n c] w fun e w' => e = .returned (.bool (insF p n)) ∧ ∃ x, w' = grow w x := by
  have k1 := vWithin_any dx dy dz 32768 (by omega)
  have k2 := vWithin_any o.x o.y o.z 65536 (by omega)
  rw [h1] at k1
  rw [h2] at k2
  clear h1 h2
  rcases nz_cases hz with h | ⟨rfl, h⟩ | ⟨rfl, rfl, h⟩
  · clear hz
    go_enter Try.func27, Try.ntmps27
    go_wp2_with (first | (go_at_call 18; first | ((with_reducible refine (k1.at_ _).mono ?_); rintro e w' ⟨rfl, xg, rfl⟩) | ((with_reducible refine (k2.at_ _).mono ?_); rintro e w' ⟨rfl, xg, rfl⟩)))
    clear k1 k2
    go_loopw [24] (fun i wr => ∃ k : Nat, i = .int .i64 k ∧ k ≤ n ∧ insF p k = true ∧ ∃ x, wr = grow ((w.alloc (.cells #[.int .i64 o.x, .int .i64 o.y, .int .i64 o.z] 23)).alloc (.cells #[.int .i64 dx, .int .i64 dy, .int .i64 dz] 23)) x) (fun i _ => (n - intOf i).toNat)
    case atStart => exact ⟨0, rfl, by omega, rfl, grow_of (by repeat (first | exact Below.refl _ _ | refine bel_then ?_ _ | refine bel_grow ?_ _ | refine bel_alloc ?_ _ | refine bel_drew ?_ | refine bel_set ?_ (by simp) _ | refine bel_setRow ?_ (by first | omega | simp; done | exact Nat.le_trans (by simp) (top_le _ _)) _))⟩
    case round =>
      obtain ⟨k, rfl, hk, hins, xx, rfl⟩ := hrel
      by_cases hlt : k < n
      · obtain ⟨b, off, rfl, hb, hcell⟩ := hv (by omega)
        have hb1 : b < w.heap.size + 1 := by omega
        have hb2 : b < w.heap.size + 1 + 1 := by omega
        obtain ⟨c1, c2, c3⟩ := hcell k hlt
        clear hcell hv
        have kp := vWithin_any (p k).1 (p k).2.1 (p k).2.2 65536 (by omega)
        by_cases hw : wiB (p k).1 (p k).2.1 (p k).2.2 65536 = true
        · rw [hw] at kp
          have hn' : insF p (k + 1) = true := by unfold insF; rw [hins, hw]; rfl
          have HN := Lib.hid hn'
          clear hw hins hn'
          go_wp2_with (first | (go_at_call 18; first | ((with_reducible refine (kp.at_ _).mono ?_); rintro e w' ⟨rfl, xg, rfl⟩)))
          go_roundw
          case rel => exact ⟨k + 1, by go_num, by omega, HN.out, grow_of (by repeat (first | exact Below.refl _ _ | refine bel_then ?_ _ | refine bel_grow ?_ _ | refine bel_alloc ?_ _ | refine bel_drew ?_ | refine bel_set ?_ (by simp) _ | refine bel_setRow ?_ (by first | omega | simp; done | exact Nat.le_trans (by simp) (top_le _ _)) _))⟩
          case measure => simp [intOf] <;> omega
        · have hw' : wiB (p k).1 (p k).2.1 (p k).2.2 65536 = false := by simpa using hw
          have hn' := insF_no p k hw' n hlt
          rw [hw'] at kp
          have HN := Lib.hid hn'
          clear hw hw' hins hn'
          go_wp2_with (first | (go_at_call 18; first | ((with_reducible refine (kp.at_ _).mono ?_); rintro e w' ⟨rfl, xg, rfl⟩)))
          go_ret
          exact ⟨by rw [HN.out]; rfl, grow_of (by repeat (first | exact Below.refl _ _ | refine bel_then ?_ _ | refine bel_grow ?_ _ | refine bel_alloc ?_ _ | refine bel_drew ?_ | refine bel_set ?_ (by simp) _ | refine bel_setRow ?_ (by first | omega | simp; done | exact Nat.le_trans (by simp) (top_le _ _)) _))⟩
      · obtain rfl : k = n := by omega
        have HN := Lib.hid hins
        clear hins hv
        go_wp2
        go_ret
        exact ⟨by rw [HN.out]; rfl, grow_of (by repeat (first | exact Below.refl _ _ | refine bel_then ?_ _ | refine bel_grow ?_ _ | refine bel_alloc ?_ _ | refine bel_drew ?_ | refine bel_set ?_ (by simp) _ | refine bel_setRow ?_ (by first | omega | simp; done | exact Nat.le_trans (by simp) (top_le _ _)) _))⟩
  · clear hz
    go_enter Try.func27, Try.ntmps27
    go_wp2_with (first | (go_at_call 18; first | ((with_reducible refine (k1.at_ _).mono ?_); rintro e w' ⟨rfl, xg, rfl⟩) | ((with_reducible refine (k2.at_ _).mono ?_); rintro e w' ⟨rfl, xg, rfl⟩)))
    clear k1 k2
    go_loopw [24] (fun i wr => ∃ k : Nat, i = .int .i64 k ∧ k ≤ n ∧ insF p k = true ∧ ∃ x, wr = grow ((w.alloc (.cells #[.int .i64 o.x, .int .i64 o.y, .int .i64 o.z] 23)).alloc (.cells #[.int .i64 0, .int .i64 dy, .int .i64 dz] 23)) x) (fun i _ => (n - intOf i).toNat)
    case atStart => exact ⟨0, rfl, by omega, rfl, grow_of (by repeat (first | exact Below.refl _ _ | refine bel_then ?_ _ | refine bel_grow ?_ _ | refine bel_alloc ?_ _ | refine bel_drew ?_ | refine bel_set ?_ (by simp) _ | refine bel_setRow ?_ (by first | omega | simp; done | exact Nat.le_trans (by simp) (top_le _ _)) _))⟩
    case round =>
      obtain ⟨k, rfl, hk, hins, xx, rfl⟩ := hrel
      by_cases hlt : k < n
      · obtain ⟨b, off, rfl, hb, hcell⟩ := hv (by omega)
        have hb1 : b < w.heap.size + 1 := by omega
        have hb2 : b < w.heap.size + 1 + 1 := by omega
        obtain ⟨c1, c2, c3⟩ := hcell k hlt
        clear hcell hv
        have kp := vWithin_any (p k).1 (p k).2.1 (p k).2.2 65536 (by omega)
        by_cases hw : wiB (p k).1 (p k).2.1 (p k).2.2 65536 = true
        · rw [hw] at kp
          have hn' : insF p (k + 1) = true := by unfold insF; rw [hins, hw]; rfl
          have HN := Lib.hid hn'
          clear hw hins hn'
          go_wp2_with (first | (go_at_call 18; first | ((with_reducible refine (kp.at_ _).mono ?_); rintro e w' ⟨rfl, xg, rfl⟩)))
          go_roundw
          case rel => exact ⟨k + 1, by go_num, by omega, HN.out, grow_of (by repeat (first | exact Below.refl _ _ | refine bel_then ?_ _ | refine bel_grow ?_ _ | refine bel_alloc ?_ _ | refine bel_drew ?_ | refine bel_set ?_ (by simp) _ | refine bel_setRow ?_ (by first | omega | simp; done | exact Nat.le_trans (by simp) (top_le _ _)) _))⟩
          case measure => simp [intOf] <;> omega
        · have hw' : wiB (p k).1 (p k).2.1 (p k).2.2 65536 = false := by simpa using hw
          have hn' := insF_no p k hw' n hlt
          rw [hw'] at kp
          have HN := Lib.hid hn'
          clear hw hw' hins hn'
          go_wp2_with (first | (go_at_call 18; first | ((with_reducible refine (kp.at_ _).mono ?_); rintro e w' ⟨rfl, xg, rfl⟩)))
          go_ret
          exact ⟨by rw [HN.out]; rfl, grow_of (by repeat (first | exact Below.refl _ _ | refine bel_then ?_ _ | refine bel_grow ?_ _ | refine bel_alloc ?_ _ | refine bel_drew ?_ | refine bel_set ?_ (by simp) _ | refine bel_setRow ?_ (by first | omega | simp; done | exact Nat.le_trans (by simp) (top_le _ _)) _))⟩
      · obtain rfl : k = n := by omega
        have HN := Lib.hid hins
        clear hins hv
        go_wp2
        go_ret
        exact ⟨by rw [HN.out]; rfl, grow_of (by repeat (first | exact Below.refl _ _ | refine bel_then ?_ _ | refine bel_grow ?_ _ | refine bel_alloc ?_ _ | refine bel_drew ?_ | refine bel_set ?_ (by simp) _ | refine bel_setRow ?_ (by first | omega | simp; done | exact Nat.le_trans (by simp) (top_le _ _)) _))⟩
  · clear hz
    go_enter Try.func27, Try.ntmps27
    go_wp2_with (first | (go_at_call 18; first | ((with_reducible refine (k1.at_ _).mono ?_); rintro e w' ⟨rfl, xg, rfl⟩) | ((with_reducible refine (k2.at_ _).mono ?_); rintro e w' ⟨rfl, xg, rfl⟩)))
    clear k1 k2
    go_loopw [24] (fun i wr => ∃ k : Nat, i = .int .i64 k ∧ k ≤ n ∧ insF p k = true ∧ ∃ x, wr = grow ((w.alloc (.cells #[.int .i64 o.x, .int .i64 o.y, .int .i64 o.z] 23)).alloc (.cells #[.int .i64 0, .int .i64 0, .int .i64 dz] 23)) x) (fun i _ => (n - intOf i).toNat)
    case atStart => exact ⟨0, rfl, by omega, rfl, grow_of (by repeat (first | exact Below.refl _ _ | refine bel_then ?_ _ | refine bel_grow ?_ _ | refine bel_alloc ?_ _ | refine bel_drew ?_ | refine bel_set ?_ (by simp) _ | refine bel_setRow ?_ (by first | omega | simp; done | exact Nat.le_trans (by simp) (top_le _ _)) _))⟩
    case round =>
      obtain ⟨k, rfl, hk, hins, xx, rfl⟩ := hrel
      by_cases hlt : k < n
      · obtain ⟨b, off, rfl, hb, hcell⟩ := hv (by omega)
        have hb1 : b < w.heap.size + 1 := by omega
        have hb2 : b < w.heap.size + 1 + 1 := by omega
        obtain ⟨c1, c2, c3⟩ := hcell k hlt
        clear hcell hv
        have kp := vWithin_any (p k).1 (p k).2.1 (p k).2.2 65536 (by omega)
        by_cases hw : wiB (p k).1 (p k).2.1 (p k).2.2 65536 = true
        · rw [hw] at kp
          have hn' : insF p (k + 1) = true := by unfold insF; rw [hins, hw]; rfl
          have HN := Lib.hid hn'
          clear hw hins hn'
          go_wp2_with (first | (go_at_call 18; first | ((with_reducible refine (kp.at_ _).mono ?_); rintro e w' ⟨rfl, xg, rfl⟩)))
          go_roundw
          case rel => exact ⟨k + 1, by go_num, by omega, HN.out, grow_of (by repeat (first | exact Below.refl _ _ | refine bel_then ?_ _ | refine bel_grow ?_ _ | refine bel_alloc ?_ _ | refine bel_drew ?_ | refine bel_set ?_ (by simp) _ | refine bel_setRow ?_ (by first | omega | simp; done | exact Nat.le_trans (by simp) (top_le _ _)) _))⟩
          case measure => simp [intOf] <;> omega
        · have hw' : wiB (p k).1 (p k).2.1 (p k).2.2 65536 = false := by simpa using hw
          have hn' := insF_no p k hw' n hlt
          rw [hw'] at kp
          have HN := Lib.hid hn'
          clear hw hw' hins hn'
          go_wp2_with (first | (go_at_call 18; first | ((with_reducible refine (kp.at_ _).mono ?_); rintro e w' ⟨rfl, xg, rfl⟩)))
          go_ret
          exact ⟨by rw [HN.out]; rfl, grow_of (by repeat (first | exact Below.refl _ _ | refine bel_then ?_ _ | refine bel_grow ?_ _ | refine bel_alloc ?_ _ | refine bel_drew ?_ | refine bel_set ?_ (by simp) _ | refine bel_setRow ?_ (by first | omega | simp; done | exact Nat.le_trans (by simp) (top_le _ _)) _))⟩
      · obtain rfl : k = n := by omega
        have HN := Lib.hid hins
        clear hins hv
        go_wp2
        go_ret
        exact ⟨by rw [HN.out]; rfl, grow_of (by repeat (first | exact Below.refl _ _ | refine bel_then ?_ _ | refine bel_grow ?_ _ | refine bel_alloc ?_ _ | refine bel_drew ?_ | refine bel_set ?_ (by simp) _ | refine bel_setRow ?_ (by first | omega | simp; done | exact Nat.le_trans (by simp) (top_le _ _)) _))⟩
end Go.Proofs.Ytngkimcnolmmoaa

/- Contracts of Normal, of the side of all three edges, and of Side. -/
namespace Go.Proofs.Ytngkimcnolmmoaa
open Go.RowKit
set_option linter.unusedVariables false
set_option linter.unusedSimpArgs false
theorem bounded_any (w : World) (o d : P3) (A : Option Addr) (n c : Nat) (p : Nat → Int × Int × Int) (hv : VF w A n p) (hn : n ≤ 2147483647) (hc : n ≤ c) :
    Calls Try.prog 27 #[.agg #[.int .i64 o.x, .int .i64 o.y, .int .i64 o.z], .agg #[.int .i64 d.x, .int .i64 d.y, .int .i64 d.z], .slice A n c] w fun e w' => e = .returned (.bool (lnB o d && insF p n)) ∧ ∃ x, w' = grow w x := by
  obtain ⟨dx, dy, dz⟩ := d
  unfold lnB
  by_cases h0 : nz ⟨dx, dy, dz⟩ = true
  · by_cases h1 : wiB dx dy dz 32768 = true
    · by_cases h2 : wiB o.x o.y o.z 65536 = true
      · have k := bl_yes w o dx dy dz A n c p hv hn hc h0 h1 h2
        simp only [h0, h1, h2, Bool.true_and]
        exact k
      · have h2 : wiB o.x o.y o.z 65536 = false := by simpa using h2
        have k := bl_o o dx dy dz A n c h0 h1 h2 w
        simp only [h0, h1, h2, Bool.true_and, Bool.false_and, Bool.and_false]
        exact k
    · have h1 : wiB dx dy dz 32768 = false := by simpa using h1
      have k := bl_d o dx dy dz A n c h0 h1 w
      simp only [h0, h1, Bool.true_and, Bool.false_and, Bool.and_false]
      exact k
  · have h0 : nz ⟨dx, dy, dz⟩ = false := by simpa using h0
    have e : dx = 0 ∧ dy = 0 ∧ dz = 0 := by unfold nz at h0; simp at h0; omega
    obtain ⟨rfl, rfl, rfl⟩ := e
    have k := bl_z o A n c w
    simp only [h0, Bool.true_and, Bool.false_and, Bool.and_false]
    exact k
/-- Points one after another. -/
def row2 (a b : P3) (i : Nat) : Int × Int × Int := if i = 0 then (a.x, a.y, a.z) else (b.x, b.y, b.z)
def row3 (a b c : P3) (i : Nat) : Int × Int × Int := if i = 0 then (a.x, a.y, a.z) else if i = 1 then (b.x, b.y, b.z) else (c.x, c.y, c.z)
theorem ins2 (a b : P3) : insF (row2 a b) 2 = (inB3 a && inB3 b) := by
  unfold insF insF insF row2 inB3; simp
theorem ins3 (a b c : P3) : insF (row3 a b c) 3 = (inB3 a && inB3 b && inB3 c) := by
  unfold insF insF insF insF row3 inB3; simp
theorem VF2 (w : World) (N : Nat) (hN : N = w.heap.size) (t : TypeId) (a b : P3) : VF (w.alloc (.cells #[.int .i64 a.x, .int .i64 a.y, .int .i64 a.z, .int .i64 b.x, .int .i64 b.y, .int .i64 b.z] t)) (some ⟨N, 0, none⟩) 2 (row2 a b) := fun _ => by
  subst hN
  refine ⟨_, 0, rfl, by simp, fun i hi => ?_⟩
  match i, hi with
  | 0, _ => exact ⟨by simp [go_sem, row2], by simp [go_sem, row2], by simp [go_sem, row2]⟩
  | 1, _ => exact ⟨by simp [go_sem, row2], by simp [go_sem, row2], by simp [go_sem, row2]⟩
theorem VF3 (w : World) (N : Nat) (hN : N = w.heap.size) (t : TypeId) (a b c : P3) : VF (w.alloc (.cells #[.int .i64 a.x, .int .i64 a.y, .int .i64 a.z, .int .i64 b.x, .int .i64 b.y, .int .i64 b.z, .int .i64 c.x, .int .i64 c.y, .int .i64 c.z] t)) (some ⟨N, 0, none⟩) 3 (row3 a b c) := fun _ => by
  subst hN
  refine ⟨_, 0, rfl, by simp, fun i hi => ?_⟩
  match i, hi with
  | 0, _ => exact ⟨by simp [go_sem, row3], by simp [go_sem, row3], by simp [go_sem, row3]⟩
  | 1, _ => exact ⟨by simp [go_sem, row3], by simp [go_sem, row3], by simp [go_sem, row3]⟩
  | 2, _ => exact ⟨by simp [go_sem, row3], by simp [go_sem, row3], by simp [go_sem, row3]⟩
theorem inB3_sp {a : P3} : inB3 a = true ↔ Sp a := by
  unfold inB3 Sp InP; rw [wiB_iff]; simp
theorem lnB_in {o d : P3} (h : lnB o d = true) : Sp o ∧ Dr d := by
  unfold lnB at h
  simp only [Bool.and_eq_true] at h
  obtain ⟨⟨_, h1⟩, h2⟩ := h
  rw [wiB_iff] at h1 h2
  exact ⟨h2.2, h1.2⟩
/-- A line and a triangle within their bounds. -/
def bdB (o d a b c : P3) : Bool := lnB o d && (inB3 a && inB3 b && inB3 c)
theorem bdB_in {o d a b c : P3} (h : bdB o d a b c = true) : Sp o ∧ Dr d ∧ Sp a ∧ Sp b ∧ Sp c := by
  unfold bdB at h
  simp only [Bool.and_eq_true, inB3_sp] at h
  obtain ⟨h1, ⟨h2, h3⟩, h4⟩ := h
  exact ⟨(lnB_in h1).1, (lnB_in h1).2, h2, h3, h4⟩
set_option maxHeartbeats 1000000 in
theorem vNormal_any (a b c : P3) (ha : Sp a) (hb : Sp b) (hc : Sp c) : Gives Try.prog 28 #[.agg #[.int .i64 a.x, .int .i64 a.y, .int .i64 a.z, .int .i64 b.x, .int .i64 b.y, .int .i64 b.z, .int .i64 c.x, .int .i64 c.y, .int .i64 c.z]] (.agg #[.int .i64 (nrm a b c).x, .int .i64 (nrm a b c).y, .int .i64 (nrm a b c).z]) := by
  refine Gives.mk fun w => ?_
  have i1 := sb_in hb ha
  have i2 := sb_in hc ha
  have s1 := vSub_P b a (by unfold InP at *; omega)
  have s2 := vSub_P c a (by unfold InP at *; omega)
  have c1 : Gives Try.prog 37 #[.agg #[.int .i64 (sb b a).x, .int .i64 (sb b a).y, .int .i64 (sb b a).z], .agg #[.int .i64 (sb c a).x, .int .i64 (sb c a).y, .int .i64 (sb c a).z]] (.agg #[.int .i64 (nrm a b c).x, .int .i64 (nrm a b c).y, .int .i64 (nrm a b c).z]) := vCross_P _ _ _ _ i1 i2 (by decide)
  clear i1 i2 ha hb hc
  go_enter Try.func28, Try.ntmps28
  go_wp2_with fail
  refine wp_region_tail 11 ?_ (by kernel_rfl) (by kernel_rfl) (by kernel_rfl) (fun x => ?_) (fun x => ?_)
  rotate_left
  · simp only [List.take_succ_cons, List.take_zero]
    repeat (go_big_quiet_step (((first | with_reducible exact s1.quiet _ | with_reducible exact s1.quiet2 _ _ | with_reducible exact s2.quiet _ | with_reducible exact s2.quiet2 _ _ | with_reducible exact c1.quiet _ | with_reducible exact c1.quiet2 _ _))))
    refine wpQuiet_nil ?_
    exact rfl
  simp only [List.drop_succ_cons, List.drop_zero]
  try simp only [Act.put, List.setIfInBounds_toArray, List.set_cons_succ, List.set_cons_zero]
  go_wp2_with fail
  refine bodyPost_ret (v := .agg #[.int .i64 (nrm a b c).x, .int .i64 (nrm a b c).y, .int .i64 (nrm a b c).z]) (by simp [results, Try.results28, go_sem]) rfl ⟨rfl, (by repeat (first | exact Below.refl _ _ | refine bel_then ?_ _ | refine bel_grow ?_ _ | refine bel_alloc ?_ _ | refine bel_drew ?_ | refine bel_set ?_ (by simp) _ | refine bel_setRow ?_ (by first | omega | simp; done | exact Nat.le_trans (by simp) (top_le _ _)) _))⟩
def paR (s0 s1 s2 : Int) (i : Value) : Prop := i = .int .i64 0 ∨ (i = .int .i64 1 ∧ s1 = s0) ∨ (i = .int .i64 2 ∧ s1 = s0 ∧ s2 = s0)
/-- The side of all three edges; 0, if there is none. -/
def sd3 (s0 s1 s2 : Int) : Int := if s1 = s0 ∧ s2 = s0 then s0 else 0
set_option maxRecDepth 100000 in
set_option maxHeartbeats 2000000 in
theorem passAll_core (o d a b c : P3) (s0 s1 s2 : Int) (p0 : Gives Try.prog 38 #[.agg #[.int .i64 o.x, .int .i64 o.y, .int .i64 o.z], .agg #[.int .i64 d.x, .int .i64 d.y, .int .i64 d.z], .agg #[.int .i64 c.x, .int .i64 c.y, .int .i64 c.z], .agg #[.int .i64 a.x, .int .i64 a.y, .int .i64 a.z]] (.int .i64 s0)) (p1 : Gives Try.prog 38 #[.agg #[.int .i64 o.x, .int .i64 o.y, .int .i64 o.z], .agg #[.int .i64 d.x, .int .i64 d.y, .int .i64 d.z], .agg #[.int .i64 a.x, .int .i64 a.y, .int .i64 a.z], .agg #[.int .i64 b.x, .int .i64 b.y, .int .i64 b.z]] (.int .i64 s1)) (p2 : Gives Try.prog 38 #[.agg #[.int .i64 o.x, .int .i64 o.y, .int .i64 o.z], .agg #[.int .i64 d.x, .int .i64 d.y, .int .i64 d.z], .agg #[.int .i64 b.x, .int .i64 b.y, .int .i64 b.z], .agg #[.int .i64 c.x, .int .i64 c.y, .int .i64 c.z]] (.int .i64 s2)) :
    Gives Try.prog 31 #[.agg #[.int .i64 o.x, .int .i64 o.y, .int .i64 o.z], .agg #[.int .i64 d.x, .int .i64 d.y, .int .i64 d.z], .agg #[.int .i64 a.x, .int .i64 a.y, .int .i64 a.z, .int .i64 b.x, .int .i64 b.y, .int .i64 b.z, .int .i64 c.x, .int .i64 c.y, .int .i64 c.z]] (.int .i64 (sd3 s0 s1 s2)) := by
  refine Gives.mk fun w => ?_
  go_enter Try.func31, Try.ntmps31
  go_wp2_with (first | (go_at_call 38; first | ((with_reducible refine (p0.at_ _).mono ?_); rintro e w' ⟨rfl, xg, rfl⟩)))
  go_loopw [16] (fun i wr => paR s0 s1 s2 i ∧ ∃ x, wr = grow ((((w.alloc (.cells #[.int .i64 o.x, .int .i64 o.y, .int .i64 o.z] 23)).alloc (.cells #[.int .i64 d.x, .int .i64 d.y, .int .i64 d.z] 23)).alloc (.cells #[.int .i64 a.x, .int .i64 a.y, .int .i64 a.z, .int .i64 b.x, .int .i64 b.y, .int .i64 b.z, .int .i64 c.x, .int .i64 c.y, .int .i64 c.z] 61))) x) (fun i _ => (2 - intOf i).toNat)
  case atStart => exact ⟨.inl rfl, grow_of (by repeat (first | exact Below.refl _ _ | refine bel_then ?_ _ | refine bel_grow ?_ _ | refine bel_alloc ?_ _ | refine bel_drew ?_ | refine bel_set ?_ (by simp) _ | refine bel_setRow ?_ (by first | omega | simp; done | exact Nat.le_trans (by simp) (top_le _ _)) _))⟩
  case round =>
    obtain ⟨hr, xx, rfl⟩ := hrel
    unfold paR at hr
    rcases hr with rfl | ⟨rfl, rfl⟩ | ⟨rfl, rfl, rfl⟩
    · by_cases h : s1 = s0
      · subst h
        go_wp2_with fail
        refine wp_region_grow (by kernel_rfl) (by kernel_rfl) ?_
        repeat (go_big_quiet_step (((first | with_reducible exact p1.quiet _ | with_reducible exact p1.quiet2 _ _))))
        refine wpQuiet_nil ?_
        rintro _ ⟨xg, rfl⟩
        go_wp2_with fail
        go_roundw
        case rel => exact ⟨.inr (.inl ⟨rfl, rfl⟩), grow_of (by repeat (first | exact Below.refl _ _ | refine bel_then ?_ _ | refine bel_grow ?_ _ | refine bel_alloc ?_ _ | refine bel_drew ?_ | refine bel_set ?_ (by simp) _ | refine bel_setRow ?_ (by first | omega | simp; done | exact Nat.le_trans (by simp) (top_le _ _)) _))⟩
        case measure => simp [intOf]
      · have h1 : (s1 != s0) = true := by simpa using h
        have h2 : (s1 == s0) = false := by simpa using h
        have HE := Lib.hid (show sd3 s0 s1 s2 = 0 by unfold sd3; rw [if_neg (by omega)])
        clear h
        go_wp2_with fail
        refine wp_region_grow (by kernel_rfl) (by kernel_rfl) ?_
        repeat (go_big_quiet_step (((first | with_reducible exact p1.quiet _ | with_reducible exact p1.quiet2 _ _))))
        refine wpQuiet_nil ?_
        rintro _ ⟨xg, rfl⟩
        go_wp2_with fail
        go_ret
        exact ⟨by rw [HE.out]; rfl, (by repeat (first | exact Below.refl _ _ | refine bel_then ?_ _ | refine bel_grow ?_ _ | refine bel_alloc ?_ _ | refine bel_drew ?_ | refine bel_set ?_ (by simp) _ | refine bel_setRow ?_ (by first | omega | simp; done | exact Nat.le_trans (by simp) (top_le _ _)) _))⟩
    · by_cases h : s2 = s1
      · subst h
        go_wp2_with fail
        refine wp_region_grow (by kernel_rfl) (by kernel_rfl) ?_
        repeat (go_big_quiet_step (((first | with_reducible exact p2.quiet _ | with_reducible exact p2.quiet2 _ _))))
        refine wpQuiet_nil ?_
        rintro _ ⟨xg, rfl⟩
        go_wp2_with fail
        go_roundw
        case rel => exact ⟨.inr (.inr ⟨rfl, rfl, rfl⟩), grow_of (by repeat (first | exact Below.refl _ _ | refine bel_then ?_ _ | refine bel_grow ?_ _ | refine bel_alloc ?_ _ | refine bel_drew ?_ | refine bel_set ?_ (by simp) _ | refine bel_setRow ?_ (by first | omega | simp; done | exact Nat.le_trans (by simp) (top_le _ _)) _))⟩
        case measure => simp [intOf]
      · have h1 : (s2 != s1) = true := by simpa using h
        have h2 : (s2 == s1) = false := by simpa using h
        have HE := Lib.hid (show sd3 s1 s1 s2 = 0 by unfold sd3; rw [if_neg (by omega)])
        clear h
        go_wp2_with fail
        refine wp_region_grow (by kernel_rfl) (by kernel_rfl) ?_
        repeat (go_big_quiet_step (((first | with_reducible exact p2.quiet _ | with_reducible exact p2.quiet2 _ _))))
        refine wpQuiet_nil ?_
        rintro _ ⟨xg, rfl⟩
        go_wp2_with fail
        go_ret
        exact ⟨by rw [HE.out]; rfl, (by repeat (first | exact Below.refl _ _ | refine bel_then ?_ _ | refine bel_grow ?_ _ | refine bel_alloc ?_ _ | refine bel_drew ?_ | refine bel_set ?_ (by simp) _ | refine bel_setRow ?_ (by first | omega | simp; done | exact Nat.le_trans (by simp) (top_le _ _)) _))⟩
    · have HE := Lib.hid (show sd3 s2 s2 s2 = s2 by unfold sd3; rw [if_pos ⟨rfl, rfl⟩])
      go_wp2_with fail
      go_ret
      exact ⟨by rw [HE.out]; rfl, (by repeat (first | exact Below.refl _ _ | refine bel_then ?_ _ | refine bel_grow ?_ _ | refine bel_alloc ?_ _ | refine bel_drew ?_ | refine bel_set ?_ (by simp) _ | refine bel_setRow ?_ (by first | omega | simp; done | exact Nat.le_trans (by simp) (top_le _ _)) _))⟩
def allS (o d a b c : P3) : Int := sd3 (pS o d c a) (pS o d a b) (pS o d b c)
theorem passAll_any (o d a b c : P3) (ho : Sp o) (hd : Dr d) (ha : Sp a) (hb : Sp b) (hc : Sp c) : Gives Try.prog 31 #[.agg #[.int .i64 o.x, .int .i64 o.y, .int .i64 o.z], .agg #[.int .i64 d.x, .int .i64 d.y, .int .i64 d.z], .agg #[.int .i64 a.x, .int .i64 a.y, .int .i64 a.z, .int .i64 b.x, .int .i64 b.y, .int .i64 b.z, .int .i64 c.x, .int .i64 c.y, .int .i64 c.z]] (.int .i64 (allS o d a b c)) :=
  passAll_core o d a b c _ _ _ (pass_any o d c a ho hd hc ha) (pass_any o d a b ho hd ha hb) (pass_any o d b c ho hd hb hc)
/-- What Side answers. -/
def siB (o d a b : P3) : Bool := lnB o d && (inB3 a && inB3 b)
def siV (o d a b : P3) : Int := if siB o d a b then pS o d a b else 0
def siE (o d a b : P3) : Int := if siB o d a b then 0 else 21
end Go.Proofs.Ytngkimcnolmmoaa
