/- Contracts of Normal, of the side of all three edges, and of Side. -/
import Derived.Test.YtgfgaaecpdbgeaaSide2
namespace Go.Proofs.Ytgfgaaecpdbgeaa
open Go.RowKit
set_option linter.unusedVariables false
set_option linter.unusedSimpArgs false
theorem bounded_any (w : World) (o d : P3) (A : Option Addr) (n c : Nat) (p : Nat → Int × Int × Int) (hv : VF w A n p) (hn : n ≤ 2147483647) (hc : n ≤ c) :
    Calls Try.prog 52 #[.agg #[.int .i64 o.x, .int .i64 o.y, .int .i64 o.z], .agg #[.int .i64 d.x, .int .i64 d.y, .int .i64 d.z], .slice A n c] w fun e w' => e = .returned (.bool (lnB o d && insF p n)) ∧ ∃ x, w' = grow w x := by
  obtain ⟨dx, dy, dz⟩ := d
  unfold lnB
  by_cases h0 : nz ⟨dx, dy, dz⟩ = true
  · by_cases h1 : wiB dx dy dz 32768 = true
    · by_cases h2 : wiB o.x o.y o.z 65536 = true
      · have k := bl_yes w o dx dy dz A n c p hv hn hc h0 h1 h2
        simp only [h0, h1, h2, Bool.true_and]
        exact k
      · have h2 : wiB o.x o.y o.z 65536 = false := by simpa using h2
        have k := bl_o o dx dy dz A n c h0 h1 h2 w
        simp only [h0, h1, h2, Bool.true_and, Bool.false_and, Bool.and_false]
        exact k
    · have h1 : wiB dx dy dz 32768 = false := by simpa using h1
      have k := bl_d o dx dy dz A n c h0 h1 w
      simp only [h0, h1, Bool.true_and, Bool.false_and, Bool.and_false]
      exact k
  · have h0 : nz ⟨dx, dy, dz⟩ = false := by simpa using h0
    have e : dx = 0 ∧ dy = 0 ∧ dz = 0 := by unfold nz at h0; simp at h0; omega
    obtain ⟨rfl, rfl, rfl⟩ := e
    have k := bl_z o A n c w
    simp only [h0, Bool.true_and, Bool.false_and, Bool.and_false]
    exact k
/-- Points one after another. -/
def row2 (a b : P3) (i : Nat) : Int × Int × Int := if i = 0 then (a.x, a.y, a.z) else (b.x, b.y, b.z)
def row3 (a b c : P3) (i : Nat) : Int × Int × Int := if i = 0 then (a.x, a.y, a.z) else if i = 1 then (b.x, b.y, b.z) else (c.x, c.y, c.z)
theorem ins2 (a b : P3) : insF (row2 a b) 2 = (inB3 a && inB3 b) := by
  unfold insF insF insF row2 inB3; simp
theorem ins3 (a b c : P3) : insF (row3 a b c) 3 = (inB3 a && inB3 b && inB3 c) := by
  unfold insF insF insF insF row3 inB3; simp
theorem VF2 (w : World) (N : Nat) (hN : N = w.heap.size) (t : TypeId) (a b : P3) : VF (w.alloc (.cells #[.int .i64 a.x, .int .i64 a.y, .int .i64 a.z, .int .i64 b.x, .int .i64 b.y, .int .i64 b.z] t)) (some ⟨N, 0, none⟩) 2 (row2 a b) := fun _ => by
  subst hN
  refine ⟨_, 0, rfl, by simp, fun i hi => ?_⟩
  match i, hi with
  | 0, _ => exact ⟨by simp [go_sem, row2], by simp [go_sem, row2], by simp [go_sem, row2]⟩
  | 1, _ => exact ⟨by simp [go_sem, row2], by simp [go_sem, row2], by simp [go_sem, row2]⟩
theorem VF3 (w : World) (N : Nat) (hN : N = w.heap.size) (t : TypeId) (a b c : P3) : VF (w.alloc (.cells #[.int .i64 a.x, .int .i64 a.y, .int .i64 a.z, .int .i64 b.x, .int .i64 b.y, .int .i64 b.z, .int .i64 c.x, .int .i64 c.y, .int .i64 c.z] t)) (some ⟨N, 0, none⟩) 3 (row3 a b c) := fun _ => by
  subst hN
  refine ⟨_, 0, rfl, by simp, fun i hi => ?_⟩
  match i, hi with
  | 0, _ => exact ⟨by simp [go_sem, row3], by simp [go_sem, row3], by simp [go_sem, row3]⟩
  | 1, _ => exact ⟨by simp [go_sem, row3], by simp [go_sem, row3], by simp [go_sem, row3]⟩
  | 2, _ => exact ⟨by simp [go_sem, row3], by simp [go_sem, row3], by simp [go_sem, row3]⟩
theorem inB3_sp {a : P3} : inB3 a = true ↔ Sp a := by
  unfold inB3 Sp InP; rw [wiB_iff]; simp
theorem lnB_in {o d : P3} (h : lnB o d = true) : Sp o ∧ Dr d := by
  unfold lnB at h
  simp only [Bool.and_eq_true] at h
  obtain ⟨⟨_, h1⟩, h2⟩ := h
  rw [wiB_iff] at h1 h2
  exact ⟨h2.2, h1.2⟩
/-- A line and a triangle within their bounds. -/
def bdB (o d a b c : P3) : Bool := lnB o d && (inB3 a && inB3 b && inB3 c)
theorem bdB_in {o d a b c : P3} (h : bdB o d a b c = true) : Sp o ∧ Dr d ∧ Sp a ∧ Sp b ∧ Sp c := by
  unfold bdB at h
  simp only [Bool.and_eq_true, inB3_sp] at h
  obtain ⟨h1, ⟨h2, h3⟩, h4⟩ := h
  exact ⟨(lnB_in h1).1, (lnB_in h1).2, h2, h3, h4⟩
set_option maxHeartbeats 1000000 in
theorem vNormal_any (a b c : P3) (ha : Sp a) (hb : Sp b) (hc : Sp c) : Gives Try.prog 29 #[.agg #[.int .i64 a.x, .int .i64 a.y, .int .i64 a.z, .int .i64 b.x, .int .i64 b.y, .int .i64 b.z, .int .i64 c.x, .int .i64 c.y, .int .i64 c.z]] (.agg #[.int .i64 (nrm a b c).x, .int .i64 (nrm a b c).y, .int .i64 (nrm a b c).z]) := by
  refine Gives.mk fun w => ?_
  have i1 := sb_in hb ha
  have i2 := sb_in hc ha
  have s1 := vSub_P b a (by unfold InP at *; omega)
  have s2 := vSub_P c a (by unfold InP at *; omega)
  have c1 : Gives Try.prog 61 #[.agg #[.int .i64 (sb b a).x, .int .i64 (sb b a).y, .int .i64 (sb b a).z], .agg #[.int .i64 (sb c a).x, .int .i64 (sb c a).y, .int .i64 (sb c a).z]] (.agg #[.int .i64 (nrm a b c).x, .int .i64 (nrm a b c).y, .int .i64 (nrm a b c).z]) := vCross_P _ _ _ _ i1 i2 (by decide)
  clear i1 i2 ha hb hc
  go_enter Try.func29, Try.ntmps29
  go_wp2_with fail
  refine wp_region_tail 11 ?_ (by kernel_rfl) (by kernel_rfl) (by kernel_rfl) (fun x => ?_) (fun x => ?_)
  rotate_left
  · simp only [List.take_succ_cons, List.take_zero]
    repeat (go_big_quiet_step (((first | with_reducible exact s1.quiet _ | with_reducible exact s1.quiet2 _ _ | with_reducible exact s2.quiet _ | with_reducible exact s2.quiet2 _ _ | with_reducible exact c1.quiet _ | with_reducible exact c1.quiet2 _ _))))
    refine wpQuiet_nil ?_
    exact rfl
  simp only [List.drop_succ_cons, List.drop_zero]
  try simp only [Act.put, List.setIfInBounds_toArray, List.set_cons_succ, List.set_cons_zero]
  go_wp2_with fail
  refine bodyPost_ret (v := .agg #[.int .i64 (nrm a b c).x, .int .i64 (nrm a b c).y, .int .i64 (nrm a b c).z]) (by simp [results, Try.results29, go_sem]) rfl ⟨rfl, (by repeat (first | exact Below.refl _ _ | refine bel_then ?_ _ | refine bel_grow ?_ _ | refine bel_alloc ?_ _ | refine bel_drew ?_ | refine bel_set ?_ (by simp) _ | refine bel_setRow ?_ (by first | omega | simp; done | exact Nat.le_trans (by simp) (top_le _ _)) _))⟩
set_option maxHeartbeats 1000000 in
theorem rNormal_any (a b c : P3) (ha : Sp a) (hb : Sp b) (hc : Sp c) : Gives Try.prog 30 #[.agg #[.int .i64 a.x, .int .i64 a.y, .int .i64 a.z, .int .i64 b.x, .int .i64 b.y, .int .i64 b.z, .int .i64 c.x, .int .i64 c.y, .int .i64 c.z]] (.agg #[.int .i64 (nrm a b c).x, .int .i64 (nrm a b c).y, .int .i64 (nrm a b c).z]) := by
  refine Gives.mk fun w => ?_
  have i1 := sb_in hb ha
  have i2 := sb_in hc ha
  have s1 := rSub_P b a (by unfold InP at *; omega)
  have s2 := rSub_P c a (by unfold InP at *; omega)
  have c1 : Gives Try.prog 36 #[.agg #[.int .i64 (sb b a).x, .int .i64 (sb b a).y, .int .i64 (sb b a).z], .agg #[.int .i64 (sb c a).x, .int .i64 (sb c a).y, .int .i64 (sb c a).z]] (.agg #[.int .i64 (nrm a b c).x, .int .i64 (nrm a b c).y, .int .i64 (nrm a b c).z]) := rCross_P _ _ _ _ i1 i2 (by decide)
  clear i1 i2 ha hb hc
  go_enter Try.func30, Try.ntmps30
  go_wp2_with fail
  refine wp_region_tail 11 ?_ (by kernel_rfl) (by kernel_rfl) (by kernel_rfl) (fun x => ?_) (fun x => ?_)
  rotate_left
  · simp only [List.take_succ_cons, List.take_zero]
    repeat (go_big_quiet_step (((first | with_reducible exact s1.quiet _ | with_reducible exact s1.quiet2 _ _ | with_reducible exact s2.quiet _ | with_reducible exact s2.quiet2 _ _ | with_reducible exact c1.quiet _ | with_reducible exact c1.quiet2 _ _))))
    refine wpQuiet_nil ?_
    exact rfl
  simp only [List.drop_succ_cons, List.drop_zero]
  try simp only [Act.put, List.setIfInBounds_toArray, List.set_cons_succ, List.set_cons_zero]
  go_wp2_with fail
  refine bodyPost_ret (v := .agg #[.int .i64 (nrm a b c).x, .int .i64 (nrm a b c).y, .int .i64 (nrm a b c).z]) (by simp [results, Try.results30, go_sem]) rfl ⟨rfl, (by repeat (first | exact Below.refl _ _ | refine bel_then ?_ _ | refine bel_grow ?_ _ | refine bel_alloc ?_ _ | refine bel_drew ?_ | refine bel_set ?_ (by simp) _ | refine bel_setRow ?_ (by first | omega | simp; done | exact Nat.le_trans (by simp) (top_le _ _)) _))⟩
def paR (s0 s1 s2 : Int) (i : Value) : Prop := i = .int .i64 0 ∨ (i = .int .i64 1 ∧ s1 = s0) ∨ (i = .int .i64 2 ∧ s1 = s0 ∧ s2 = s0)
/-- The side of all three edges; 0, if there is none. -/
def sd3 (s0 s1 s2 : Int) : Int := if s1 = s0 ∧ s2 = s0 then s0 else 0
set_option maxRecDepth 100000 in
set_option maxHeartbeats 2000000 in
theorem passAll_core (o d a b c : P3) (s0 s1 s2 : Int) (p0 : Gives Try.prog 53 #[.agg #[.int .i64 o.x, .int .i64 o.y, .int .i64 o.z], .agg #[.int .i64 d.x, .int .i64 d.y, .int .i64 d.z], .agg #[.int .i64 c.x, .int .i64 c.y, .int .i64 c.z], .agg #[.int .i64 a.x, .int .i64 a.y, .int .i64 a.z]] (.int .i64 s0)) (p1 : Gives Try.prog 53 #[.agg #[.int .i64 o.x, .int .i64 o.y, .int .i64 o.z], .agg #[.int .i64 d.x, .int .i64 d.y, .int .i64 d.z], .agg #[.int .i64 a.x, .int .i64 a.y, .int .i64 a.z], .agg #[.int .i64 b.x, .int .i64 b.y, .int .i64 b.z]] (.int .i64 s1)) (p2 : Gives Try.prog 53 #[.agg #[.int .i64 o.x, .int .i64 o.y, .int .i64 o.z], .agg #[.int .i64 d.x, .int .i64 d.y, .int .i64 d.z], .agg #[.int .i64 b.x, .int .i64 b.y, .int .i64 b.z], .agg #[.int .i64 c.x, .int .i64 c.y, .int .i64 c.z]] (.int .i64 s2)) :
    Gives Try.prog 57 #[.agg #[.int .i64 o.x, .int .i64 o.y, .int .i64 o.z], .agg #[.int .i64 d.x, .int .i64 d.y, .int .i64 d.z], .agg #[.int .i64 a.x, .int .i64 a.y, .int .i64 a.z, .int .i64 b.x, .int .i64 b.y, .int .i64 b.z, .int .i64 c.x, .int .i64 c.y, .int .i64 c.z]] (.int .i64 (sd3 s0 s1 s2)) := by
  refine Gives.mk fun w => ?_
  go_enter Try.func57, Try.ntmps57
  go_wp2_with (first | (go_at_call 53; first | ((with_reducible refine (p0.at_ _).mono ?_); rintro e w' ⟨rfl, xg, rfl⟩)))
  go_loopw [16] (fun i wr => paR s0 s1 s2 i ∧ ∃ x, wr = grow ((((w.alloc (.cells #[.int .i64 o.x, .int .i64 o.y, .int .i64 o.z] 36)).alloc (.cells #[.int .i64 d.x, .int .i64 d.y, .int .i64 d.z] 36)).alloc (.cells #[.int .i64 a.x, .int .i64 a.y, .int .i64 a.z, .int .i64 b.x, .int .i64 b.y, .int .i64 b.z, .int .i64 c.x, .int .i64 c.y, .int .i64 c.z] 57))) x) (fun i _ => (2 - intOf i).toNat)
  case atStart => exact ⟨.inl rfl, grow_of (by repeat (first | exact Below.refl _ _ | refine bel_then ?_ _ | refine bel_grow ?_ _ | refine bel_alloc ?_ _ | refine bel_drew ?_ | refine bel_set ?_ (by simp) _ | refine bel_setRow ?_ (by first | omega | simp; done | exact Nat.le_trans (by simp) (top_le _ _)) _))⟩
  case round =>
    obtain ⟨hr, xx, rfl⟩ := hrel
    unfold paR at hr
    rcases hr with rfl | ⟨rfl, rfl⟩ | ⟨rfl, rfl, rfl⟩
    · by_cases h : s1 = s0
      · subst h
        go_wp2_with fail
        refine wp_region_grow (by kernel_rfl) (by kernel_rfl) ?_
        repeat (go_big_quiet_step (((first | with_reducible exact p1.quiet _ | with_reducible exact p1.quiet2 _ _))))
        refine wpQuiet_nil ?_
        rintro _ ⟨xg, rfl⟩
        go_wp2_with fail
        go_roundw
        case rel => exact ⟨.inr (.inl ⟨rfl, rfl⟩), grow_of (by repeat (first | exact Below.refl _ _ | refine bel_then ?_ _ | refine bel_grow ?_ _ | refine bel_alloc ?_ _ | refine bel_drew ?_ | refine bel_set ?_ (by simp) _ | refine bel_setRow ?_ (by first | omega | simp; done | exact Nat.le_trans (by simp) (top_le _ _)) _))⟩
        case measure => simp [intOf]
      · have h1 : (s1 != s0) = true := by simpa using h
        have h2 : (s1 == s0) = false := by simpa using h
        have HE := Lib.hid (show sd3 s0 s1 s2 = 0 by unfold sd3; rw [if_neg (by omega)])
        clear h
        go_wp2_with fail
        refine wp_region_grow (by kernel_rfl) (by kernel_rfl) ?_
        repeat (go_big_quiet_step (((first | with_reducible exact p1.quiet _ | with_reducible exact p1.quiet2 _ _))))
        refine wpQuiet_nil ?_
        rintro _ ⟨xg, rfl⟩
        go_wp2_with fail
        go_ret
        exact ⟨by rw [HE.out]; rfl, (by repeat (first | exact Below.refl _ _ | refine bel_then ?_ _ | refine bel_grow ?_ _ | refine bel_alloc ?_ _ | refine bel_drew ?_ | refine bel_set ?_ (by simp) _ | refine bel_setRow ?_ (by first | omega | simp; done | exact Nat.le_trans (by simp) (top_le _ _)) _))⟩
    · by_cases h : s2 = s1
      · subst h
        go_wp2_with fail
        refine wp_region_grow (by kernel_rfl) (by kernel_rfl) ?_
        repeat (go_big_quiet_step (((first | with_reducible exact p2.quiet _ | with_reducible exact p2.quiet2 _ _))))
        refine wpQuiet_nil ?_
        rintro _ ⟨xg, rfl⟩
        go_wp2_with fail
        go_roundw
        case rel => exact ⟨.inr (.inr ⟨rfl, rfl, rfl⟩), grow_of (by repeat (first | exact Below.refl _ _ | refine bel_then ?_ _ | refine bel_grow ?_ _ | refine bel_alloc ?_ _ | refine bel_drew ?_ | refine bel_set ?_ (by simp) _ | refine bel_setRow ?_ (by first | omega | simp; done | exact Nat.le_trans (by simp) (top_le _ _)) _))⟩
        case measure => simp [intOf]
      · have h1 : (s2 != s1) = true := by simpa using h
        have h2 : (s2 == s1) = false := by simpa using h
        have HE := Lib.hid (show sd3 s1 s1 s2 = 0 by unfold sd3; rw [if_neg (by omega)])
        clear h
        go_wp2_with fail
        refine wp_region_grow (by kernel_rfl) (by kernel_rfl) ?_
        repeat (go_big_quiet_step (((first | with_reducible exact p2.quiet _ | with_reducible exact p2.quiet2 _ _))))
        refine wpQuiet_nil ?_
        rintro _ ⟨xg, rfl⟩
        go_wp2_with fail
        go_ret
        exact ⟨by rw [HE.out]; rfl, (by repeat (first | exact Below.refl _ _ | refine bel_then ?_ _ | refine bel_grow ?_ _ | refine bel_alloc ?_ _ | refine bel_drew ?_ | refine bel_set ?_ (by simp) _ | refine bel_setRow ?_ (by first | omega | simp; done | exact Nat.le_trans (by simp) (top_le _ _)) _))⟩
    · have HE := Lib.hid (show sd3 s2 s2 s2 = s2 by unfold sd3; rw [if_pos ⟨rfl, rfl⟩])
      go_wp2_with fail
      go_ret
      exact ⟨by rw [HE.out]; rfl, (by repeat (first | exact Below.refl _ _ | refine bel_then ?_ _ | refine bel_grow ?_ _ | refine bel_alloc ?_ _ | refine bel_drew ?_ | refine bel_set ?_ (by simp) _ | refine bel_setRow ?_ (by first | omega | simp; done | exact Nat.le_trans (by simp) (top_le _ _)) _))⟩
def allS (o d a b c : P3) : Int := sd3 (pS o d c a) (pS o d a b) (pS o d b c)
theorem passAll_any (o d a b c : P3) (ho : Sp o) (hd : Dr d) (ha : Sp a) (hb : Sp b) (hc : Sp c) : Gives Try.prog 57 #[.agg #[.int .i64 o.x, .int .i64 o.y, .int .i64 o.z], .agg #[.int .i64 d.x, .int .i64 d.y, .int .i64 d.z], .agg #[.int .i64 a.x, .int .i64 a.y, .int .i64 a.z, .int .i64 b.x, .int .i64 b.y, .int .i64 b.z, .int .i64 c.x, .int .i64 c.y, .int .i64 c.z]] (.int .i64 (allS o d a b c)) :=
  passAll_core o d a b c _ _ _ (pass_any o d c a ho hd hc ha) (pass_any o d a b ho hd ha hb) (pass_any o d b c ho hd hb hc)
/-- What Side answers. -/
def siB (o d a b : P3) : Bool := lnB o d && (inB3 a && inB3 b)
def siV (o d a b : P3) : Int := if siB o d a b then pS o d a b else 0
def siE (o d a b : P3) : Int := if siB o d a b then 0 else 21
theorem vSide_any (o d a b : P3) : Gives Try.prog 23 #[.agg #[.int .i64 o.x, .int .i64 o.y, .int .i64 o.z], .agg #[.int .i64 d.x, .int .i64 d.y, .int .i64 d.z], .agg #[.int .i64 a.x, .int .i64 a.y, .int .i64 a.z], .agg #[.int .i64 b.x, .int .i64 b.y, .int .i64 b.z]] (.tuple #[.int .i64 (siV o d a b), .int .i64 (siE o d a b)]) := by
  refine Gives.mk fun w => ?_
  have k := fun W N hN => bounded_any _ o d _ 2 2 (row2 a b) (VF2 W N hN 36 a b) (by omega) (by omega)
  simp only [ins2] at k
  have hs : (lnB o d && (inB3 a && inB3 b)) = siB o d a b := rfl
  simp only [hs] at k
  by_cases h : siB o d a b = true
  · have e1 : siV o d a b = pS o d a b := by unfold siV; rw [if_pos h]
    have e2 : siE o d a b = 0 := by unfold siE; rw [if_pos h]
    rw [e1, e2]
    simp only [h] at k
    have hb := h
    unfold siB at hb
    simp only [Bool.and_eq_true, inB3_sp] at hb
    have p1 := pass_any o d a b (lnB_in hb.1).1 (lnB_in hb.1).2 hb.2.1 hb.2.2
    clear e1 e2 hs h hb
    go_enter Try.func23, Try.ntmps23
    go_wp2_with (first | (go_at_call 52; ((with_reducible refine (k _ _ (by simp only [World.size_alloc])).mono ?_); rintro e w' ⟨rfl, xb, rfl⟩)) | (go_at_call 53; first | ((with_reducible refine (p1.at_ _).mono ?_); rintro e w' ⟨rfl, xg, rfl⟩)))
    go_ret2
    exact ⟨rfl, (by repeat (first | exact Below.refl _ _ | refine bel_then ?_ _ | refine bel_grow ?_ _ | refine bel_alloc ?_ _ | refine bel_drew ?_ | refine bel_set ?_ (by simp) _ | refine bel_setRow ?_ (by first | omega | simp; done | exact Nat.le_trans (by simp) (top_le _ _)) _))⟩
  · have h : siB o d a b = false := by simpa using h
    have e1 : siV o d a b = 0 := by unfold siV; rw [h]; rfl
    have e2 : siE o d a b = 21 := by unfold siE; rw [h]; rfl
    rw [e1, e2]
    simp only [h] at k
    clear e1 e2 hs h
    go_enter Try.func23, Try.ntmps23
    go_wp2_with (first | (go_at_call 52; ((with_reducible refine (k _ _ (by simp only [World.size_alloc])).mono ?_); rintro e w' ⟨rfl, xb, rfl⟩)))
    go_ret2
    exact ⟨rfl, (by repeat (first | exact Below.refl _ _ | refine bel_then ?_ _ | refine bel_grow ?_ _ | refine bel_alloc ?_ _ | refine bel_drew ?_ | refine bel_set ?_ (by simp) _ | refine bel_setRow ?_ (by first | omega | simp; done | exact Nat.le_trans (by simp) (top_le _ _)) _))⟩
end Go.Proofs.Ytgfgaaecpdbgeaa
