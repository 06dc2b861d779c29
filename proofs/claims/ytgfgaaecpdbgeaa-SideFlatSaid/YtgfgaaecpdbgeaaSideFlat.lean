/- SideFlat holds for every input: the row, out of the walk. No condition. -/
import Derived.Test.YtgfgaaecpdbgeaaRows
import Derived.Test.YtgfgaaecpdbgeaaAlive3
import Derived.Test.YtgfgaaecpdbgeaaOpenT
import Derived.Test.YtgfgaaecpdbgeaaSide6
import Derived.Test.YtgfgaaecpdbgeaaMid
import Derived.Test.YtgfgaaecpdbgeaaPost
namespace Go.Proofs.Ytgfgaaecpdbgeaa.sideFlat
open Go.ChangeShapes Go.WideShapes Go.ChangeAt Go.RowKit
set_option linter.unusedVariables false
set_option linter.unusedSimpArgs false
theorem mK_flat {sd : Int} : mK 0 sd = false := by unfold mK; simp
theorem hK_stp {o d a b c : P3} (h : bdB o d a b c = true → stp d a b c = 0) : hK o d a b c = false := by
  by_cases hb : bdB o d a b c = true
  · unfold hK; rw [h hb, mK_flat]; simp
  · unfold hK; simp at hb; rw [hb]; rfl
theorem pS_point (o d a : P3) : pS o d a a = 0 := by have := pS_turned o d a a; omega
theorem hK_thin (o d a c : P3) : hK o d a a c = false := by
  have e : allS o d a a c = 0 := by
    unfold allS sd3
    rw [pS_point]
    split <;> omega
  unfold hK mK
  rw [e]; simp
def wsub (a b : P3) : P3 := ⟨wrap64 (a.x - b.x), wrap64 (a.y - b.y), wrap64 (a.z - b.z)⟩
def wadd (a b : P3) : P3 := ⟨wrap64 (a.x + b.x), wrap64 (a.y + b.y), wrap64 (a.z + b.z)⟩
def wsc (a : P3) (k : Int) : P3 := ⟨wrap64 (a.x * k), wrap64 (a.y * k), wrap64 (a.z * k)⟩
theorem wsub_in {a b : P3} (ha : Sp a) (hb : Sp b) : wsub a b = sb a b := by
  unfold Sp InP at *; unfold wsub sb
  rw [wrap_in (by omega), wrap_in (by omega), wrap_in (by omega)]
theorem wsc_in {a : P3} {k : Int} (ha : InP 131072 a) (hk : -100 ≤ k ∧ k ≤ 100) : wsc a k = sc a k ∧ InP 13107200 (sc a k) := by
  obtain ⟨h1, h2, h3⟩ := ha
  have m1 := mul_bd h1 hk
  have m2 := mul_bd h2 hk
  have m3 := mul_bd h3 hk
  unfold wsc sc InP
  rw [wrap_in (by omega), wrap_in (by omega), wrap_in (by omega)]
  exact ⟨rfl, by simp only; omega⟩
theorem wadd_in {a b : P3} (ha : InP 13107200 a) (hb : InP 13107200 b) : wadd a b = ad a b := by
  unfold InP at *; unfold wadd ad
  rw [wrap_in (by omega), wrap_in (by omega), wrap_in (by omega)]
theorem flat_no (o a b c : P3) (x y : Int) (hx : -100 ≤ x ∧ x ≤ 100) (hy : -100 ≤ y ∧ y ≤ 100) :
    hK o (wadd (wsc (wsub b a) x) (wsc (wsub c a) y)) a b c = false := by
  refine hK_stp fun h => ?_
  obtain ⟨_, _, ha, hb, hc⟩ := bdB_in h
  rw [wsub_in hb ha, wsub_in hc ha]
  obtain ⟨e1, i1⟩ := wsc_in (sb_in hb ha) hx
  obtain ⟨e2, i2⟩ := wsc_in (sb_in hc ha) hy
  rw [e1, e2, wadd_in i1 i2]
  unfold stp nrm dt cr ad sc sb; simp only; grind
def flR (k0 k1 k2 k3 : Int) (i : Value) : Prop := i = .int .i64 0 ∨ (i = .int .i64 1 ∧ -100 ≤ k0 ∧ k0 ≤ 100) ∨ (i = .int .i64 2 ∧ (-100 ≤ k0 ∧ k0 ≤ 100) ∧ -100 ≤ k1 ∧ k1 ≤ 100) ∨ (i = .int .i64 3 ∧ (-100 ≤ k0 ∧ k0 ≤ 100) ∧ (-100 ≤ k1 ∧ k1 ≤ 100) ∧ -100 ≤ k2 ∧ k2 ≤ 100) ∨ (i = .int .i64 4 ∧ (-100 ≤ k0 ∧ k0 ≤ 100) ∧ (-100 ≤ k1 ∧ k1 ≤ 100) ∧ (-100 ≤ k2 ∧ k2 ≤ 100) ∧ -100 ≤ k3 ∧ k3 ≤ 100)
theorem rSub_w (a b : P3) : Gives Try.prog 33 #[.agg #[.int .i64 a.x, .int .i64 a.y, .int .i64 a.z], .agg #[.int .i64 b.x, .int .i64 b.y, .int .i64 b.z]] (.agg #[.int .i64 (wsub a b).x, .int .i64 (wsub a b).y, .int .i64 (wsub a b).z]) := rSub_any _ _ _ _ _ _
theorem rAdd_w (a b : P3) : Gives Try.prog 34 #[.agg #[.int .i64 a.x, .int .i64 a.y, .int .i64 a.z], .agg #[.int .i64 b.x, .int .i64 b.y, .int .i64 b.z]] (.agg #[.int .i64 (wadd a b).x, .int .i64 (wadd a b).y, .int .i64 (wadd a b).z]) := rAdd_any _ _ _ _ _ _
theorem rScale_w (a : P3) (k : Int) : Gives Try.prog 37 #[.agg #[.int .i64 a.x, .int .i64 a.y, .int .i64 a.z], .int .i64 k] (.agg #[.int .i64 (wsc a k).x, .int .i64 (wsc a k).y, .int .i64 (wsc a k).z]) := rScale_any _ _ _ _
set_option maxRecDepth 100000 in
set_option maxHeartbeats 4000000 in
theorem core (w : World) (a b c : P3) (k0 k1 k2 k3 : Int)
    (u v p1 p2 p3 p4 p5 o d : P3) (n1 e1 n2 e2 g1 g2 : Int) (f1 f2 : Bool)
    (s1 : Gives Try.prog 33 #[.agg #[.int .i64 b.x, .int .i64 b.y, .int .i64 b.z], .agg #[.int .i64 a.x, .int .i64 a.y, .int .i64 a.z]] (.agg #[.int .i64 u.x, .int .i64 u.y, .int .i64 u.z])) (s2 : Gives Try.prog 33 #[.agg #[.int .i64 c.x, .int .i64 c.y, .int .i64 c.z], .agg #[.int .i64 a.x, .int .i64 a.y, .int .i64 a.z]] (.agg #[.int .i64 v.x, .int .i64 v.y, .int .i64 v.z])) (c1 : Gives Try.prog 37 #[.agg #[.int .i64 u.x, .int .i64 u.y, .int .i64 u.z], .int .i64 k0] (.agg #[.int .i64 p1.x, .int .i64 p1.y, .int .i64 p1.z])) (c2 : Gives Try.prog 37 #[.agg #[.int .i64 v.x, .int .i64 v.y, .int .i64 v.z], .int .i64 k1] (.agg #[.int .i64 p2.x, .int .i64 p2.y, .int .i64 p2.z]))
    (t1 : Gives Try.prog 34 #[.agg #[.int .i64 p1.x, .int .i64 p1.y, .int .i64 p1.z], .agg #[.int .i64 p2.x, .int .i64 p2.y, .int .i64 p2.z]] (.agg #[.int .i64 p3.x, .int .i64 p3.y, .int .i64 p3.z])) (t2 : Gives Try.prog 34 #[.agg #[.int .i64 a.x, .int .i64 a.y, .int .i64 a.z], .agg #[.int .i64 p3.x, .int .i64 p3.y, .int .i64 p3.z]] (.agg #[.int .i64 o.x, .int .i64 o.y, .int .i64 o.z])) (c3 : Gives Try.prog 37 #[.agg #[.int .i64 u.x, .int .i64 u.y, .int .i64 u.z], .int .i64 k2] (.agg #[.int .i64 p4.x, .int .i64 p4.y, .int .i64 p4.z])) (c4 : Gives Try.prog 37 #[.agg #[.int .i64 v.x, .int .i64 v.y, .int .i64 v.z], .int .i64 k3] (.agg #[.int .i64 p5.x, .int .i64 p5.y, .int .i64 p5.z])) (t3 : Gives Try.prog 34 #[.agg #[.int .i64 p4.x, .int .i64 p4.y, .int .i64 p4.z], .agg #[.int .i64 p5.x, .int .i64 p5.y, .int .i64 p5.z]] (.agg #[.int .i64 d.x, .int .i64 d.y, .int .i64 d.z]))
    (m1 : (-100 ≤ k2 ∧ k2 ≤ 100) → (-100 ≤ k3 ∧ k3 ≤ 100) → Gives Try.prog 25 #[.agg #[.int .i64 o.x, .int .i64 o.y, .int .i64 o.z], .agg #[.int .i64 d.x, .int .i64 d.y, .int .i64 d.z], .agg #[.int .i64 a.x, .int .i64 a.y, .int .i64 a.z, .int .i64 b.x, .int .i64 b.y, .int .i64 b.z, .int .i64 c.x, .int .i64 c.y, .int .i64 c.z]] (.tuple #[.agg #[.int .i64 (n1), .int .i64 (e1), .bool (f1), .int .i64 0, .int .i64 0], .bool (false), .int .i64 (g1)])) (m2 : Gives Try.prog 25 #[.agg #[.int .i64 a.x, .int .i64 a.y, .int .i64 a.z], .agg #[.int .i64 1, .int .i64 2, .int .i64 3], .agg #[.int .i64 a.x, .int .i64 a.y, .int .i64 a.z, .int .i64 a.x, .int .i64 a.y, .int .i64 a.z, .int .i64 c.x, .int .i64 c.y, .int .i64 c.z]] (.tuple #[.agg #[.int .i64 (n2), .int .i64 (e2), .bool (f2), .int .i64 0, .int .i64 0], .bool (false), .int .i64 (g2)])) :
    Calls Try.prog 12 #[.agg #[.int .i64 a.x, .int .i64 a.y, .int .i64 a.z, .int .i64 b.x, .int .i64 b.y, .int .i64 b.z, .int .i64 c.x, .int .i64 c.y, .int .i64 c.z], .int .i64 k0, .int .i64 k1, .int .i64 k2, .int .i64 k3] w fun e w' => e = .returned (.bool true) ∧ Below w.heap.size w w' := by
  have al := alive3_any
  go_enter Try.func12, Try.ntmps12
  go_wp2_with (first | (go_at_call 22; first | ((with_reducible refine (al.at_ _).mono ?_); rintro e w' ⟨rfl, xg, rfl⟩)))
  go_loop [31] (fun i => flR k0 k1 k2 k3 i) (fun i => (4 - intOf i).toNat)
  case atStart => exact .inl rfl
  case round =>
    unfold flR at hrel
    rcases hrel with rfl | ⟨rfl, h0⟩ | ⟨rfl, h0, h1⟩ | ⟨rfl, h0, h1, h2⟩ | ⟨rfl, h0, h1, h2, h3⟩
    · by_cases l : k0 < -100
      · go_wp2
        go_ret
        exact ⟨rfl, (by repeat (first | exact Below.refl _ _ | refine bel_then ?_ _ | refine bel_grow ?_ _ | refine bel_alloc ?_ _ | refine bel_drew ?_ | refine bel_set ?_ (by simp) _ | refine bel_setRow ?_ (by first | omega | simp; done | exact Nat.le_trans (by simp) (top_le _ _)) _))⟩
      · by_cases h : 100 < k0
        · go_wp2
          go_ret
          exact ⟨rfl, (by repeat (first | exact Below.refl _ _ | refine bel_then ?_ _ | refine bel_grow ?_ _ | refine bel_alloc ?_ _ | refine bel_drew ?_ | refine bel_set ?_ (by simp) _ | refine bel_setRow ?_ (by first | omega | simp; done | exact Nat.le_trans (by simp) (top_le _ _)) _))⟩
        · have h0 : -100 ≤ k0 ∧ k0 ≤ 100 := by omega
          clear l
          go_wp2
          go_round
          case rel => exact .inr (.inl ⟨rfl, h0⟩)
          case measure => simp [intOf]
    · by_cases l : k1 < -100
      · go_wp2
        go_ret
        exact ⟨rfl, (by repeat (first | exact Below.refl _ _ | refine bel_then ?_ _ | refine bel_grow ?_ _ | refine bel_alloc ?_ _ | refine bel_drew ?_ | refine bel_set ?_ (by simp) _ | refine bel_setRow ?_ (by first | omega | simp; done | exact Nat.le_trans (by simp) (top_le _ _)) _))⟩
      · by_cases h : 100 < k1
        · go_wp2
          go_ret
          exact ⟨rfl, (by repeat (first | exact Below.refl _ _ | refine bel_then ?_ _ | refine bel_grow ?_ _ | refine bel_alloc ?_ _ | refine bel_drew ?_ | refine bel_set ?_ (by simp) _ | refine bel_setRow ?_ (by first | omega | simp; done | exact Nat.le_trans (by simp) (top_le _ _)) _))⟩
        · have h1 : -100 ≤ k1 ∧ k1 ≤ 100 := by omega
          clear l
          go_wp2
          go_round
          case rel => exact .inr (.inr (.inl ⟨rfl, h0, h1⟩))
          case measure => simp [intOf]
    · by_cases l : k2 < -100
      · go_wp2
        go_ret
        exact ⟨rfl, (by repeat (first | exact Below.refl _ _ | refine bel_then ?_ _ | refine bel_grow ?_ _ | refine bel_alloc ?_ _ | refine bel_drew ?_ | refine bel_set ?_ (by simp) _ | refine bel_setRow ?_ (by first | omega | simp; done | exact Nat.le_trans (by simp) (top_le _ _)) _))⟩
      · by_cases h : 100 < k2
        · go_wp2
          go_ret
          exact ⟨rfl, (by repeat (first | exact Below.refl _ _ | refine bel_then ?_ _ | refine bel_grow ?_ _ | refine bel_alloc ?_ _ | refine bel_drew ?_ | refine bel_set ?_ (by simp) _ | refine bel_setRow ?_ (by first | omega | simp; done | exact Nat.le_trans (by simp) (top_le _ _)) _))⟩
        · have h2 : -100 ≤ k2 ∧ k2 ≤ 100 := by omega
          clear l
          go_wp2
          go_round
          case rel => exact .inr (.inr (.inr (.inl ⟨rfl, h0, h1, h2⟩)))
          case measure => simp [intOf]
    · by_cases l : k3 < -100
      · go_wp2
        go_ret
        exact ⟨rfl, (by repeat (first | exact Below.refl _ _ | refine bel_then ?_ _ | refine bel_grow ?_ _ | refine bel_alloc ?_ _ | refine bel_drew ?_ | refine bel_set ?_ (by simp) _ | refine bel_setRow ?_ (by first | omega | simp; done | exact Nat.le_trans (by simp) (top_le _ _)) _))⟩
      · by_cases h : 100 < k3
        · go_wp2
          go_ret
          exact ⟨rfl, (by repeat (first | exact Below.refl _ _ | refine bel_then ?_ _ | refine bel_grow ?_ _ | refine bel_alloc ?_ _ | refine bel_drew ?_ | refine bel_set ?_ (by simp) _ | refine bel_setRow ?_ (by first | omega | simp; done | exact Nat.le_trans (by simp) (top_le _ _)) _))⟩
        · have h3 : -100 ≤ k3 ∧ k3 ≤ 100 := by omega
          clear l
          go_wp2
          go_round
          case rel => exact .inr (.inr (.inr (.inr ⟨rfl, h0, h1, h2, h3⟩)))
          case measure => simp [intOf]
    · have m1 := m1 h2 h3
      clear h0 h1 h2 h3
      go_wp2_with (first | (go_at_call 33; first | ((with_reducible refine (s1.at_ _).mono ?_); rintro e w' ⟨rfl, xg, rfl⟩) | ((with_reducible refine (s2.at_ _).mono ?_); rintro e w' ⟨rfl, xg, rfl⟩)))
      refine wp_region_make 10 ?_ 15 (.cells #[.int .i64 0, .int .i64 0, .int .i64 0] 36) (by kernel_rfl) (by kernel_rfl) (by kernel_rfl) (fun d hd => by cases hd; exact ⟨_, rfl, rfl, rfl, fun A u => alloc_V A _ rfl u⟩) (fun pp => ?_) (fun pp qq => ?_)
      rotate_left
      · simp only [List.take_succ_cons, List.take_zero]
        repeat (go_big_quiet_step (((first | with_reducible exact c1.quiet _ | with_reducible exact c1.quiet2 _ _ | with_reducible exact c2.quiet _ | with_reducible exact c2.quiet2 _ _ | with_reducible exact t1.quiet _ | with_reducible exact t1.quiet2 _ _ | with_reducible exact t2.quiet _ | with_reducible exact t2.quiet2 _ _))))
        refine wpQuiet_nil ?_
        exact rfl
      simp only [List.drop_succ_cons, List.drop_zero]
      try simp only [Act.put, List.setIfInBounds_toArray, List.set_cons_succ, List.set_cons_zero]
      go_wp2_with fail
      refine wp_region_make 7 ?_ 16 (.cells #[.int .i64 0, .int .i64 0, .int .i64 0] 36) (by kernel_rfl) (by kernel_rfl) (by kernel_rfl) (fun d hd => by cases hd; exact ⟨_, rfl, rfl, rfl, fun A u => alloc_V A _ rfl u⟩) (fun pp => ?_) (fun pp qq => ?_)
      rotate_left
      · simp only [List.take_succ_cons, List.take_zero]
        repeat (go_big_quiet_step (((first | with_reducible exact c3.quiet _ | with_reducible exact c3.quiet2 _ _ | with_reducible exact c4.quiet _ | with_reducible exact c4.quiet2 _ _ | with_reducible exact t3.quiet _ | with_reducible exact t3.quiet2 _ _))))
        refine wpQuiet_nil ?_
        exact rfl
      simp only [List.drop_succ_cons, List.drop_zero]
      try simp only [Act.put, List.setIfInBounds_toArray, List.set_cons_succ, List.set_cons_zero]
      go_wp2_with (first | (go_at_call 25; first | ((with_reducible refine (m1.at_ _).mono ?_); rintro e w' ⟨rfl, xg, rfl⟩) | ((with_reducible refine (m2.at_ _).mono ?_); rintro e w' ⟨rfl, xg, rfl⟩)))
      go_ret
      exact ⟨rfl, (by repeat (first | exact Below.refl _ _ | refine bel_then ?_ _ | refine bel_grow ?_ _ | refine bel_alloc ?_ _ | refine bel_drew ?_ | refine bel_set ?_ (by simp) _ | refine bel_setRow ?_ (by first | omega | simp; done | exact Nat.le_trans (by simp) (top_le _ _)) _))⟩
theorem walk (w : World) (a b c : P3) (kt : In3 a ∧ In3 b ∧ In3 c) (k0 : Int) (h0 : In64 k0) (k1 : Int) (h1 : In64 k1) (k2 : Int) (h2 : In64 k2) (k3 : Int) (h3 : In64 k3) :
    Calls Try.prog 12 #[.agg #[.int .i64 a.x, .int .i64 a.y, .int .i64 a.z, .int .i64 b.x, .int .i64 b.y, .int .i64 b.z, .int .i64 c.x, .int .i64 c.y, .int .i64 c.z], .int .i64 k0, .int .i64 k1, .int .i64 k2, .int .i64 k3] w fun e w' => e = .returned (.bool true) ∧ Below w.heap.size w w' := by
  have m2 := vMeet_any a ⟨1, 2, 3⟩ a a c
  rw [hK_thin] at m2
  have m1 : (-100 ≤ k2 ∧ k2 ≤ 100) → (-100 ≤ k3 ∧ k3 ≤ 100) → Gives Try.prog 25 #[.agg #[.int .i64 (wadd a (wadd (wsc (wsub b a) k0) (wsc (wsub c a) k1))).x, .int .i64 (wadd a (wadd (wsc (wsub b a) k0) (wsc (wsub c a) k1))).y, .int .i64 (wadd a (wadd (wsc (wsub b a) k0) (wsc (wsub c a) k1))).z], .agg #[.int .i64 (wadd (wsc (wsub b a) k2) (wsc (wsub c a) k3)).x, .int .i64 (wadd (wsc (wsub b a) k2) (wsc (wsub c a) k3)).y, .int .i64 (wadd (wsc (wsub b a) k2) (wsc (wsub c a) k3)).z], .agg #[.int .i64 a.x, .int .i64 a.y, .int .i64 a.z, .int .i64 b.x, .int .i64 b.y, .int .i64 b.z, .int .i64 c.x, .int .i64 c.y, .int .i64 c.z]] (.tuple #[.agg #[.int .i64 (hN (wadd a (wadd (wsc (wsub b a) k0) (wsc (wsub c a) k1))) (wadd (wsc (wsub b a) k2) (wsc (wsub c a) k3)) a b c), .int .i64 (hD (wadd a (wadd (wsc (wsub b a) k0) (wsc (wsub c a) k1))) (wadd (wsc (wsub b a) k2) (wsc (wsub c a) k3)) a b c), .bool (hF (wadd a (wadd (wsc (wsub b a) k0) (wsc (wsub c a) k1))) (wadd (wsc (wsub b a) k2) (wsc (wsub c a) k3)) a b c), .int .i64 0, .int .i64 0], .bool (false), .int .i64 (hE (wadd a (wadd (wsc (wsub b a) k0) (wsc (wsub c a) k1))) (wadd (wsc (wsub b a) k2) (wsc (wsub c a) k3)) a b c)]) := fun hx hy => by
    have k := vMeet_any (wadd a (wadd (wsc (wsub b a) k0) (wsc (wsub c a) k1))) (wadd (wsc (wsub b a) k2) (wsc (wsub c a) k3)) a b c
    rw [flat_no _ a b c k2 k3 hx hy] at k
    exact k
  exact core w a b c k0 k1 k2 k3 _ _ _ _ _ _ _ _ _ _ _ _ _ _ _ _ _ (rSub_w b a) (rSub_w c a) (rScale_w _ _) (rScale_w _ _) (rAdd_w _ _) (rAdd_w _ _) (rScale_w _ _) (rScale_w _ _) (rAdd_w _ _) m1 m2

theorem own : ownKnob Try.prog.godebug = none := by kernel_rfl
set_option maxRecDepth 100000 in
theorem lifted (os : Os) (started : os.Started) (H : Type) (enc : TypeId × Value → H) :
    ReturnsInHanded {} Try.checked os 12 .any (Rows.sideFlatSpec.pre6 enc Try.prog Try.f12 Rows.sideFlatRow.domain false) (Rows.sideFlatSpec.post enc Try.prog Try.f12 false true false false) := by
  refine returnsInHanded_of_change (C := Try.checked) own started (by kernel_rfl) Try.func12
    (ChangeSpec.witness6 (enc := enc) (C := Try.checked) false ⟨#[], #[.agg #[.int .i64 0, .int .i64 0, .int .i64 0, .int .i64 0, .int .i64 0, .int .i64 0, .int .i64 0, .int .i64 0, .int .i64 0], .int .i64 0, .int .i64 0, .int .i64 0, .int .i64 0], []⟩ 12 (by kernel_rfl) (by kernel_rfl) (by kernel_rfl) (by kernel_rfl)) ?_
  intro W base args ds gs before hval0 hW hcnd _
  have hval : ∀ (j : Nat) t v, Try.f12.params[j]? = some t → args[j]? = some v → Value.okWide Try.prog W .any base t v := hval0
  have hW' := hW
  obtain ⟨p, q, hA0, hV, rfl, hfz, hnd⟩ := hW
  have hA : DataW.TrodAll enc Try.prog W 0 (fun _ => true) true Try.f12.params.toList args.toList ds p := hA0
  rw [Try.params12] at hA hval
  obtain ⟨v0, vs0, d0, ds0, p0, q0, hargs, rfl, rfl, h0, r0⟩ := trodAll_cons hA
  obtain ⟨v1, vs1, d1, ds1, p1, q1, rfl, rfl, rfl, h1, r1⟩ := trodAll_cons r0
  obtain ⟨v2, vs2, d2, ds2, p2, q2, rfl, rfl, rfl, h2, r2⟩ := trodAll_cons r1
  obtain ⟨v3, vs3, d3, ds3, p3, q3, rfl, rfl, rfl, h3, r3⟩ := trodAll_cons r2
  obtain ⟨v4, vs4, d4, ds4, p4, q4, rfl, rfl, rfl, h4, r4⟩ := trodAll_cons r3
  obtain ⟨rfl, rfl, rfl⟩ := trodAll_nil r4
  obtain rfl : args = #[v0, v1, v2, v3, v4] := by cases args; simp_all
  obtain ⟨a0, b0, c0, rfl, k0⟩ := open_T3 (hval 0 38 v0 rfl rfl) h0
  obtain ⟨a1, rfl, b1⟩ := open_int64 (hval 1 3 v1 rfl rfl) h1
  obtain ⟨a2, rfl, b2⟩ := open_int64 (hval 2 3 v2 rfl rfl) h2
  obtain ⟨a3, rfl, b3⟩ := open_int64 (hval 3 3 v3 rfl rfl) h3
  obtain ⟨a4, rfl, b4⟩ := open_int64 (hval 4 3 v4 rfl rfl) h4
  refine (walk W a0 b0 c0 k0 a1 b1 a2 b2 a3 b3 a4 b4).mono fun e W' ⟨he, hb⟩ => ?_
  subst he
  exact ⟨_, rfl, law_post (tb := 4) (by kernel_rfl) (by kernel_rfl) rfl rfl Try.underlying4 rfl rfl rfl hW' hb⟩

theorem over : Rows.sideFlatRow.holds Try.pinned (OpenSpec.ofChange Rows.sideFlatSpec) :=
  OpenClaim.holds_of_wide 12 Try.f12 rfl rfl rfl rfl rfl rfl rfl ⟨rfl, rfl, rfl, rfl, rfl⟩ rfl rfl rfl rfl rfl (by kernel_rfl) Try.func12 (by kernel_rfl)
    (of_decide_eq_true (by kernel_rfl)) (by unfold Func.isWrapper; first | (rw [if_pos (by decide +kernel)]; kernel_rfl) | (rw [if_neg (by decide +kernel)]; exact ⟨rfl, rfl⟩))
    (fun os started H enc _ => lifted os started H enc)

theorem proved : Rows.SideFlatSaid :=
  over
#print axioms proved
end Go.Proofs.Ytgfgaaecpdbgeaa.sideFlat
