/- SideWithin holds for every input: the row, out of the walk. No condition. -/
import Derived.Test.YtgfgaaecpdbgeaaRows
import Derived.Test.YtgfgaaecpdbgeaaAlive3
import Derived.Test.YtgfgaaecpdbgeaaOpenT
import Derived.Test.YtgfgaaecpdbgeaaSide6
import Derived.Test.YtgfgaaecpdbgeaaSide7
import Derived.Test.YtgfgaaecpdbgeaaSideC
import Derived.Test.YtgfgaaecpdbgeaaMid
import Derived.Test.YtgfgaaecpdbgeaaPost
namespace Go.Proofs.Ytgfgaaecpdbgeaa.sideWithin
open Go.ChangeShapes Go.WideShapes Go.ChangeAt Go.RowKit
set_option linter.unusedVariables false
set_option linter.unusedSimpArgs false
set_option maxRecDepth 100000 in
set_option maxHeartbeats 4000000 in
theorem far0 (w : World) (o d a b c : P3) (m1 : Gives Try.prog 25 #[.agg #[.int .i64 o.x, .int .i64 o.y, .int .i64 o.z], .agg #[.int .i64 d.x, .int .i64 d.y, .int .i64 d.z], .agg #[.int .i64 a.x, .int .i64 a.y, .int .i64 a.z, .int .i64 b.x, .int .i64 b.y, .int .i64 b.z, .int .i64 c.x, .int .i64 c.y, .int .i64 c.z]] (.tuple #[.agg #[.int .i64 (0), .int .i64 (0), .bool (false), .int .i64 0, .int .i64 0], .bool (false), .int .i64 (21)])) :
    Calls Try.prog 9 #[.agg #[.int .i64 o.x, .int .i64 o.y, .int .i64 o.z], .agg #[.int .i64 d.x, .int .i64 d.y, .int .i64 d.z], .agg #[.int .i64 a.x, .int .i64 a.y, .int .i64 a.z, .int .i64 b.x, .int .i64 b.y, .int .i64 b.z, .int .i64 c.x, .int .i64 c.y, .int .i64 c.z]] w fun e w' => e = .returned (.bool true) ∧ Below w.heap.size w w' := by
  have al := alive3_any
  go_enter Try.func9, Try.ntmps9
  go_wp2_with (first | (go_at_call 22; first | ((with_reducible refine (al.at_ _).mono ?_); rintro e w' ⟨rfl, xa, rfl⟩)) | (go_at_call 25; first | ((with_reducible refine (m1.at_ _).mono ?_); rintro e w' ⟨rfl, xm, rfl⟩)))
  go_ret
  exact ⟨rfl, (by repeat (first | exact Below.refl _ _ | refine bel_then ?_ _ | refine bel_grow ?_ _ | refine bel_alloc ?_ _ | refine bel_drew ?_ | refine bel_set ?_ (by simp) _ | refine bel_setRow ?_ (by first | omega | simp; done | exact Nat.le_trans (by simp) (top_le _ _)) _))⟩
set_option maxRecDepth 100000 in
set_option maxHeartbeats 4000000 in
theorem none_ (w : World) (o d a b c : P3) (n e : Int) (f : Bool) (m1 : Gives Try.prog 25 #[.agg #[.int .i64 o.x, .int .i64 o.y, .int .i64 o.z], .agg #[.int .i64 d.x, .int .i64 d.y, .int .i64 d.z], .agg #[.int .i64 a.x, .int .i64 a.y, .int .i64 a.z, .int .i64 b.x, .int .i64 b.y, .int .i64 b.z, .int .i64 c.x, .int .i64 c.y, .int .i64 c.z]] (.tuple #[.agg #[.int .i64 (n), .int .i64 (e), .bool (f), .int .i64 0, .int .i64 0], .bool (false), .int .i64 (0)])) :
    Calls Try.prog 9 #[.agg #[.int .i64 o.x, .int .i64 o.y, .int .i64 o.z], .agg #[.int .i64 d.x, .int .i64 d.y, .int .i64 d.z], .agg #[.int .i64 a.x, .int .i64 a.y, .int .i64 a.z, .int .i64 b.x, .int .i64 b.y, .int .i64 b.z, .int .i64 c.x, .int .i64 c.y, .int .i64 c.z]] w fun e w' => e = .returned (.bool true) ∧ Below w.heap.size w w' := by
  have al := alive3_any
  go_enter Try.func9, Try.ntmps9
  go_wp2_with (first | (go_at_call 22; first | ((with_reducible refine (al.at_ _).mono ?_); rintro e w' ⟨rfl, xa, rfl⟩)) | (go_at_call 25; first | ((with_reducible refine (m1.at_ _).mono ?_); rintro e w' ⟨rfl, xm, rfl⟩)))
  go_ret
  exact ⟨rfl, (by repeat (first | exact Below.refl _ _ | refine bel_then ?_ _ | refine bel_grow ?_ _ | refine bel_alloc ?_ _ | refine bel_drew ?_ | refine bel_set ?_ (by simp) _ | refine bel_setRow ?_ (by first | omega | simp; done | exact Nat.le_trans (by simp) (top_le _ _)) _))⟩
def wi_pos (i : Int) (l h : Value) (k : Value) : Prop := k = .int .i64 i ∧ l = .int .i64 0 ∧ ∃ v : Int, h = .int .i64 v
set_option maxRecDepth 100000 in
set_option maxHeartbeats 4000000 in
theorem pos (w : World) (o d a b c N : P3) (n e t0 t1 t2 st fa u1 u2 : Int) (f : Bool) (he : 0 < e) (p0 : 0 ≤ t0) (p1 : 0 ≤ t1) (p2 : 0 ≤ t2)
    (m1 : Gives Try.prog 25 #[.agg #[.int .i64 o.x, .int .i64 o.y, .int .i64 o.z], .agg #[.int .i64 d.x, .int .i64 d.y, .int .i64 d.z], .agg #[.int .i64 a.x, .int .i64 a.y, .int .i64 a.z, .int .i64 b.x, .int .i64 b.y, .int .i64 b.z, .int .i64 c.x, .int .i64 c.y, .int .i64 c.z]] (.tuple #[.agg #[.int .i64 (n), .int .i64 (e), .bool (f), .int .i64 0, .int .i64 0], .bool (true), .int .i64 (0)]))
    (za : Gives Try.prog 33 #[.agg #[.int .i64 a.x, .int .i64 a.y, .int .i64 a.z], .agg #[.int .i64 o.x, .int .i64 o.y, .int .i64 o.z]] (.agg #[.int .i64 (sb a o).x, .int .i64 (sb a o).y, .int .i64 (sb a o).z])) (zb : Gives Try.prog 33 #[.agg #[.int .i64 b.x, .int .i64 b.y, .int .i64 b.z], .agg #[.int .i64 o.x, .int .i64 o.y, .int .i64 o.z]] (.agg #[.int .i64 (sb b o).x, .int .i64 (sb b o).y, .int .i64 (sb b o).z])) (zc : Gives Try.prog 33 #[.agg #[.int .i64 c.x, .int .i64 c.y, .int .i64 c.z], .agg #[.int .i64 o.x, .int .i64 o.y, .int .i64 o.z]] (.agg #[.int .i64 (sb c o).x, .int .i64 (sb c o).y, .int .i64 (sb c o).z]))
    (c0 : Gives Try.prog 36 #[.agg #[.int .i64 (sb a o).x, .int .i64 (sb a o).y, .int .i64 (sb a o).z], .agg #[.int .i64 (sb b o).x, .int .i64 (sb b o).y, .int .i64 (sb b o).z]] (.agg #[.int .i64 (cr (sb a o) (sb b o)).x, .int .i64 (cr (sb a o) (sb b o)).y, .int .i64 (cr (sb a o) (sb b o)).z])) (d0 : Gives Try.prog 35 #[.agg #[.int .i64 d.x, .int .i64 d.y, .int .i64 d.z], .agg #[.int .i64 (cr (sb a o) (sb b o)).x, .int .i64 (cr (sb a o) (sb b o)).y, .int .i64 (cr (sb a o) (sb b o)).z]] (.int .i64 t0)) (c1 : Gives Try.prog 36 #[.agg #[.int .i64 (sb b o).x, .int .i64 (sb b o).y, .int .i64 (sb b o).z], .agg #[.int .i64 (sb c o).x, .int .i64 (sb c o).y, .int .i64 (sb c o).z]] (.agg #[.int .i64 (cr (sb b o) (sb c o)).x, .int .i64 (cr (sb b o) (sb c o)).y, .int .i64 (cr (sb b o) (sb c o)).z])) (d1 : Gives Try.prog 35 #[.agg #[.int .i64 d.x, .int .i64 d.y, .int .i64 d.z], .agg #[.int .i64 (cr (sb b o) (sb c o)).x, .int .i64 (cr (sb b o) (sb c o)).y, .int .i64 (cr (sb b o) (sb c o)).z]] (.int .i64 t1)) (c2 : Gives Try.prog 36 #[.agg #[.int .i64 (sb c o).x, .int .i64 (sb c o).y, .int .i64 (sb c o).z], .agg #[.int .i64 (sb a o).x, .int .i64 (sb a o).y, .int .i64 (sb a o).z]] (.agg #[.int .i64 (cr (sb c o) (sb a o)).x, .int .i64 (cr (sb c o) (sb a o)).y, .int .i64 (cr (sb c o) (sb a o)).z])) (d2 : Gives Try.prog 35 #[.agg #[.int .i64 d.x, .int .i64 d.y, .int .i64 d.z], .agg #[.int .i64 (cr (sb c o) (sb a o)).x, .int .i64 (cr (sb c o) (sb a o)).y, .int .i64 (cr (sb c o) (sb a o)).z]] (.int .i64 t2))
    (nr : Gives Try.prog 30 #[.agg #[.int .i64 a.x, .int .i64 a.y, .int .i64 a.z, .int .i64 b.x, .int .i64 b.y, .int .i64 b.z, .int .i64 c.x, .int .i64 c.y, .int .i64 c.z]] (.agg #[.int .i64 N.x, .int .i64 N.y, .int .i64 N.z])) (e1 : Gives Try.prog 35 #[.agg #[.int .i64 N.x, .int .i64 N.y, .int .i64 N.z], .agg #[.int .i64 d.x, .int .i64 d.y, .int .i64 d.z]] (.int .i64 st)) (e2 : Gives Try.prog 35 #[.agg #[.int .i64 N.x, .int .i64 N.y, .int .i64 N.z], .agg #[.int .i64 (sb a o).x, .int .i64 (sb a o).y, .int .i64 (sb a o).z]] (.int .i64 fa))
    (x1 : Gives Try.prog 21 #[.int .i64 st, .int .i64 n] (.agg #[.int .i64 u1, .int .u64 u2])) (x2 : Gives Try.prog 21 #[.int .i64 fa, .int .i64 e] (.agg #[.int .i64 u1, .int .u64 u2])) :
    Calls Try.prog 9 #[.agg #[.int .i64 o.x, .int .i64 o.y, .int .i64 o.z], .agg #[.int .i64 d.x, .int .i64 d.y, .int .i64 d.z], .agg #[.int .i64 a.x, .int .i64 a.y, .int .i64 a.z, .int .i64 b.x, .int .i64 b.y, .int .i64 b.z, .int .i64 c.x, .int .i64 c.y, .int .i64 c.z]] w fun e w' => e = .returned (.bool true) ∧ Below w.heap.size w w' := by
  have al := alive3_any
  go_enter Try.func9, Try.ntmps9
  go_wp2_with (first | (go_at_call 22; first | ((with_reducible refine (al.at_ _).mono ?_); rintro e w' ⟨rfl, xa, rfl⟩)) | (go_at_call 25; first | ((with_reducible refine (m1.at_ _).mono ?_); rintro e w' ⟨rfl, xm, rfl⟩)))
  go_loopw [13, 11, 12] (fun k l h wr => (wi_pos 0 l h k ∨ wi_pos 1 l h k ∨ wi_pos 2 l h k ∨ wi_pos 3 l h k) ∧ ∃ x, wr = grow (((grow (((w.alloc (.cells #[.int .i64 o.x, .int .i64 o.y, .int .i64 o.z] 36)).alloc (.cells #[.int .i64 d.x, .int .i64 d.y, .int .i64 d.z] 36)).alloc (.cells #[.int .i64 a.x, .int .i64 a.y, .int .i64 a.z, .int .i64 b.x, .int .i64 b.y, .int .i64 b.z, .int .i64 c.x, .int .i64 c.y, .int .i64 c.z] 38)) (xa.then xm)).alloc (.cells #[.int .i64 (n), .int .i64 (e), .bool (f), .int .i64 0, .int .i64 0] 43)).alloc (.cells #[.int .i64 a.x, .int .i64 a.y, .int .i64 a.z, .int .i64 b.x, .int .i64 b.y, .int .i64 b.z, .int .i64 c.x, .int .i64 c.y, .int .i64 c.z] 57)) x) (fun k _ _ _ => (3 - intOf k).toNat)
  case atStart => exact ⟨.inl ⟨rfl, rfl, 0, rfl⟩, grow_of (by repeat (first | exact Below.refl _ _ | refine bel_then ?_ _ | refine bel_grow ?_ _ | refine bel_alloc ?_ _ | refine bel_drew ?_ | refine bel_set ?_ (by simp) _ | refine bel_setRow ?_ (by first | omega | simp; done | exact Nat.le_trans (by simp) (top_le _ _)) _))⟩
  case round =>
    obtain ⟨hr, xx, rfl⟩ := hrel
    unfold wi_pos at hr
    rcases hr with ⟨rfl, rfl, v, rfl⟩ | ⟨rfl, rfl, v, rfl⟩ | ⟨rfl, rfl, v, rfl⟩ | ⟨rfl, rfl, v, rfl⟩
    · go_wp2_with fail
      refine wp_region_grow (by kernel_rfl) (by kernel_rfl) ?_
      repeat (go_big_quiet_step (((first | with_reducible exact za.quiet _ | with_reducible exact za.quiet2 _ _ | with_reducible exact zb.quiet _ | with_reducible exact zb.quiet2 _ _ | with_reducible exact c0.quiet _ | with_reducible exact c0.quiet2 _ _ | with_reducible exact d0.quiet _ | with_reducible exact d0.quiet2 _ _))))
      refine wpQuiet_nil ?_
      rintro _ ⟨xg, rfl⟩
      go_wp2_with fail
      go_roundw
      case rel => exact ⟨.inr (.inl ⟨rfl, congrArg (Value.int .i64) (by omega), _, rfl⟩), grow_of (by repeat (first | exact Below.refl _ _ | refine bel_then ?_ _ | refine bel_grow ?_ _ | refine bel_alloc ?_ _ | refine bel_drew ?_ | refine bel_set ?_ (by simp) _ | refine bel_setRow ?_ (by first | omega | simp; done | exact Nat.le_trans (by simp) (top_le _ _)) _))⟩
      case measure => simp [intOf]
    · go_wp2_with fail
      refine wp_region_grow (by kernel_rfl) (by kernel_rfl) ?_
      repeat (go_big_quiet_step (((first | with_reducible exact zb.quiet _ | with_reducible exact zb.quiet2 _ _ | with_reducible exact zc.quiet _ | with_reducible exact zc.quiet2 _ _ | with_reducible exact c1.quiet _ | with_reducible exact c1.quiet2 _ _ | with_reducible exact d1.quiet _ | with_reducible exact d1.quiet2 _ _))))
      refine wpQuiet_nil ?_
      rintro _ ⟨xg, rfl⟩
      go_wp2_with fail
      go_roundw
      case rel => exact ⟨.inr (.inr (.inl ⟨rfl, congrArg (Value.int .i64) (by omega), _, rfl⟩)), grow_of (by repeat (first | exact Below.refl _ _ | refine bel_then ?_ _ | refine bel_grow ?_ _ | refine bel_alloc ?_ _ | refine bel_drew ?_ | refine bel_set ?_ (by simp) _ | refine bel_setRow ?_ (by first | omega | simp; done | exact Nat.le_trans (by simp) (top_le _ _)) _))⟩
      case measure => simp [intOf]
    · go_wp2_with fail
      refine wp_region_grow (by kernel_rfl) (by kernel_rfl) ?_
      repeat (go_big_quiet_step (((first | with_reducible exact zc.quiet _ | with_reducible exact zc.quiet2 _ _ | with_reducible exact za.quiet _ | with_reducible exact za.quiet2 _ _ | with_reducible exact c2.quiet _ | with_reducible exact c2.quiet2 _ _ | with_reducible exact d2.quiet _ | with_reducible exact d2.quiet2 _ _))))
      refine wpQuiet_nil ?_
      rintro _ ⟨xg, rfl⟩
      go_wp2_with fail
      go_roundw
      case rel => exact ⟨.inr (.inr (.inr (⟨rfl, congrArg (Value.int .i64) (by omega), _, rfl⟩))), grow_of (by repeat (first | exact Below.refl _ _ | refine bel_then ?_ _ | refine bel_grow ?_ _ | refine bel_alloc ?_ _ | refine bel_drew ?_ | refine bel_set ?_ (by simp) _ | refine bel_setRow ?_ (by first | omega | simp; done | exact Nat.le_trans (by simp) (top_le _ _)) _))⟩
      case measure => simp [intOf]
    · clear p0 p1 p2
      go_wp2_with (first | (go_at_call 30; first | ((with_reducible refine (nr.at_ _).mono ?_); rintro e w' ⟨rfl, xn, rfl⟩)))
      refine wp_region_make 7 ?_ 16 (.cells #[.int .i64 0, .int .u64 0] 24) (by kernel_rfl) (by kernel_rfl) (by kernel_rfl) (fun d hd => by cases hd; exact ⟨_, rfl, rfl, rfl, fun A u => alloc_wide3 A _ rfl u⟩) (fun pp => ?_) (fun pp qq => ?_)
      rotate_left
      · simp only [List.take_succ_cons, List.take_zero]
        repeat (go_big_quiet_step (((first | with_reducible exact e1.quiet _ | with_reducible exact e1.quiet2 _ _ | with_reducible exact x1.quiet _ | with_reducible exact x1.quiet2 _ _))))
        refine wpQuiet_nil ?_
        exact rfl
      simp only [List.drop_succ_cons, List.drop_zero]
      try simp only [Act.put, List.setIfInBounds_toArray, List.set_cons_succ, List.set_cons_zero]
      go_wp2_with fail
      refine wp_region_make 10 ?_ 17 (.cells #[.int .i64 0, .int .u64 0] 24) (by kernel_rfl) (by kernel_rfl) (by kernel_rfl) (fun d hd => by cases hd; exact ⟨_, rfl, rfl, rfl, fun A u => alloc_wide3 A _ rfl u⟩) (fun pp => ?_) (fun pp qq => ?_)
      rotate_left
      · simp only [List.take_succ_cons, List.take_zero]
        repeat (go_big_quiet_step (((first | with_reducible exact za.quiet _ | with_reducible exact za.quiet2 _ _ | with_reducible exact e2.quiet _ | with_reducible exact e2.quiet2 _ _ | with_reducible exact x2.quiet _ | with_reducible exact x2.quiet2 _ _))))
        refine wpQuiet_nil ?_
        exact rfl
      simp only [List.drop_succ_cons, List.drop_zero]
      try simp only [Act.put, List.setIfInBounds_toArray, List.set_cons_succ, List.set_cons_zero]
      go_wp2_with fail
      all_goals
        go_ret
        exact ⟨rfl, (by repeat (first | exact Below.refl _ _ | refine bel_then ?_ _ | refine bel_grow ?_ _ | refine bel_alloc ?_ _ | refine bel_drew ?_ | refine bel_set ?_ (by simp) _ | refine bel_setRow ?_ (by first | omega | simp; done | exact Nat.le_trans (by simp) (top_le _ _)) _))⟩
def wi_neg (i : Int) (l h : Value) (k : Value) : Prop := k = .int .i64 i ∧ h = .int .i64 0 ∧ ∃ v : Int, l = .int .i64 v
set_option maxRecDepth 100000 in
set_option maxHeartbeats 4000000 in
theorem neg (w : World) (o d a b c N : P3) (n e t0 t1 t2 st fa u1 u2 : Int) (f : Bool) (he : 0 < e) (p0 : t0 ≤ 0) (p1 : t1 ≤ 0) (p2 : t2 ≤ 0)
    (m1 : Gives Try.prog 25 #[.agg #[.int .i64 o.x, .int .i64 o.y, .int .i64 o.z], .agg #[.int .i64 d.x, .int .i64 d.y, .int .i64 d.z], .agg #[.int .i64 a.x, .int .i64 a.y, .int .i64 a.z, .int .i64 b.x, .int .i64 b.y, .int .i64 b.z, .int .i64 c.x, .int .i64 c.y, .int .i64 c.z]] (.tuple #[.agg #[.int .i64 (n), .int .i64 (e), .bool (f), .int .i64 0, .int .i64 0], .bool (true), .int .i64 (0)]))
    (za : Gives Try.prog 33 #[.agg #[.int .i64 a.x, .int .i64 a.y, .int .i64 a.z], .agg #[.int .i64 o.x, .int .i64 o.y, .int .i64 o.z]] (.agg #[.int .i64 (sb a o).x, .int .i64 (sb a o).y, .int .i64 (sb a o).z])) (zb : Gives Try.prog 33 #[.agg #[.int .i64 b.x, .int .i64 b.y, .int .i64 b.z], .agg #[.int .i64 o.x, .int .i64 o.y, .int .i64 o.z]] (.agg #[.int .i64 (sb b o).x, .int .i64 (sb b o).y, .int .i64 (sb b o).z])) (zc : Gives Try.prog 33 #[.agg #[.int .i64 c.x, .int .i64 c.y, .int .i64 c.z], .agg #[.int .i64 o.x, .int .i64 o.y, .int .i64 o.z]] (.agg #[.int .i64 (sb c o).x, .int .i64 (sb c o).y, .int .i64 (sb c o).z]))
    (c0 : Gives Try.prog 36 #[.agg #[.int .i64 (sb a o).x, .int .i64 (sb a o).y, .int .i64 (sb a o).z], .agg #[.int .i64 (sb b o).x, .int .i64 (sb b o).y, .int .i64 (sb b o).z]] (.agg #[.int .i64 (cr (sb a o) (sb b o)).x, .int .i64 (cr (sb a o) (sb b o)).y, .int .i64 (cr (sb a o) (sb b o)).z])) (d0 : Gives Try.prog 35 #[.agg #[.int .i64 d.x, .int .i64 d.y, .int .i64 d.z], .agg #[.int .i64 (cr (sb a o) (sb b o)).x, .int .i64 (cr (sb a o) (sb b o)).y, .int .i64 (cr (sb a o) (sb b o)).z]] (.int .i64 t0)) (c1 : Gives Try.prog 36 #[.agg #[.int .i64 (sb b o).x, .int .i64 (sb b o).y, .int .i64 (sb b o).z], .agg #[.int .i64 (sb c o).x, .int .i64 (sb c o).y, .int .i64 (sb c o).z]] (.agg #[.int .i64 (cr (sb b o) (sb c o)).x, .int .i64 (cr (sb b o) (sb c o)).y, .int .i64 (cr (sb b o) (sb c o)).z])) (d1 : Gives Try.prog 35 #[.agg #[.int .i64 d.x, .int .i64 d.y, .int .i64 d.z], .agg #[.int .i64 (cr (sb b o) (sb c o)).x, .int .i64 (cr (sb b o) (sb c o)).y, .int .i64 (cr (sb b o) (sb c o)).z]] (.int .i64 t1)) (c2 : Gives Try.prog 36 #[.agg #[.int .i64 (sb c o).x, .int .i64 (sb c o).y, .int .i64 (sb c o).z], .agg #[.int .i64 (sb a o).x, .int .i64 (sb a o).y, .int .i64 (sb a o).z]] (.agg #[.int .i64 (cr (sb c o) (sb a o)).x, .int .i64 (cr (sb c o) (sb a o)).y, .int .i64 (cr (sb c o) (sb a o)).z])) (d2 : Gives Try.prog 35 #[.agg #[.int .i64 d.x, .int .i64 d.y, .int .i64 d.z], .agg #[.int .i64 (cr (sb c o) (sb a o)).x, .int .i64 (cr (sb c o) (sb a o)).y, .int .i64 (cr (sb c o) (sb a o)).z]] (.int .i64 t2))
    (nr : Gives Try.prog 30 #[.agg #[.int .i64 a.x, .int .i64 a.y, .int .i64 a.z, .int .i64 b.x, .int .i64 b.y, .int .i64 b.z, .int .i64 c.x, .int .i64 c.y, .int .i64 c.z]] (.agg #[.int .i64 N.x, .int .i64 N.y, .int .i64 N.z])) (e1 : Gives Try.prog 35 #[.agg #[.int .i64 N.x, .int .i64 N.y, .int .i64 N.z], .agg #[.int .i64 d.x, .int .i64 d.y, .int .i64 d.z]] (.int .i64 st)) (e2 : Gives Try.prog 35 #[.agg #[.int .i64 N.x, .int .i64 N.y, .int .i64 N.z], .agg #[.int .i64 (sb a o).x, .int .i64 (sb a o).y, .int .i64 (sb a o).z]] (.int .i64 fa))
    (x1 : Gives Try.prog 21 #[.int .i64 st, .int .i64 n] (.agg #[.int .i64 u1, .int .u64 u2])) (x2 : Gives Try.prog 21 #[.int .i64 fa, .int .i64 e] (.agg #[.int .i64 u1, .int .u64 u2])) :
    Calls Try.prog 9 #[.agg #[.int .i64 o.x, .int .i64 o.y, .int .i64 o.z], .agg #[.int .i64 d.x, .int .i64 d.y, .int .i64 d.z], .agg #[.int .i64 a.x, .int .i64 a.y, .int .i64 a.z, .int .i64 b.x, .int .i64 b.y, .int .i64 b.z, .int .i64 c.x, .int .i64 c.y, .int .i64 c.z]] w fun e w' => e = .returned (.bool true) ∧ Below w.heap.size w w' := by
  have al := alive3_any
  go_enter Try.func9, Try.ntmps9
  go_wp2_with (first | (go_at_call 22; first | ((with_reducible refine (al.at_ _).mono ?_); rintro e w' ⟨rfl, xa, rfl⟩)) | (go_at_call 25; first | ((with_reducible refine (m1.at_ _).mono ?_); rintro e w' ⟨rfl, xm, rfl⟩)))
  go_loopw [13, 11, 12] (fun k l h wr => (wi_neg 0 l h k ∨ wi_neg 1 l h k ∨ wi_neg 2 l h k ∨ wi_neg 3 l h k) ∧ ∃ x, wr = grow (((grow (((w.alloc (.cells #[.int .i64 o.x, .int .i64 o.y, .int .i64 o.z] 36)).alloc (.cells #[.int .i64 d.x, .int .i64 d.y, .int .i64 d.z] 36)).alloc (.cells #[.int .i64 a.x, .int .i64 a.y, .int .i64 a.z, .int .i64 b.x, .int .i64 b.y, .int .i64 b.z, .int .i64 c.x, .int .i64 c.y, .int .i64 c.z] 38)) (xa.then xm)).alloc (.cells #[.int .i64 (n), .int .i64 (e), .bool (f), .int .i64 0, .int .i64 0] 43)).alloc (.cells #[.int .i64 a.x, .int .i64 a.y, .int .i64 a.z, .int .i64 b.x, .int .i64 b.y, .int .i64 b.z, .int .i64 c.x, .int .i64 c.y, .int .i64 c.z] 57)) x) (fun k _ _ _ => (3 - intOf k).toNat)
  case atStart => exact ⟨.inl ⟨rfl, rfl, 0, rfl⟩, grow_of (by repeat (first | exact Below.refl _ _ | refine bel_then ?_ _ | refine bel_grow ?_ _ | refine bel_alloc ?_ _ | refine bel_drew ?_ | refine bel_set ?_ (by simp) _ | refine bel_setRow ?_ (by first | omega | simp; done | exact Nat.le_trans (by simp) (top_le _ _)) _))⟩
  case round =>
    obtain ⟨hr, xx, rfl⟩ := hrel
    unfold wi_neg at hr
    rcases hr with ⟨rfl, rfl, v, rfl⟩ | ⟨rfl, rfl, v, rfl⟩ | ⟨rfl, rfl, v, rfl⟩ | ⟨rfl, rfl, v, rfl⟩
    · go_wp2_with fail
      refine wp_region_grow (by kernel_rfl) (by kernel_rfl) ?_
      repeat (go_big_quiet_step (((first | with_reducible exact za.quiet _ | with_reducible exact za.quiet2 _ _ | with_reducible exact zb.quiet _ | with_reducible exact zb.quiet2 _ _ | with_reducible exact c0.quiet _ | with_reducible exact c0.quiet2 _ _ | with_reducible exact d0.quiet _ | with_reducible exact d0.quiet2 _ _))))
      refine wpQuiet_nil ?_
      rintro _ ⟨xg, rfl⟩
      go_wp2_with fail
      go_roundw
      case rel => exact ⟨.inr (.inl ⟨rfl, congrArg (Value.int .i64) (by omega), _, rfl⟩), grow_of (by repeat (first | exact Below.refl _ _ | refine bel_then ?_ _ | refine bel_grow ?_ _ | refine bel_alloc ?_ _ | refine bel_drew ?_ | refine bel_set ?_ (by simp) _ | refine bel_setRow ?_ (by first | omega | simp; done | exact Nat.le_trans (by simp) (top_le _ _)) _))⟩
      case measure => simp [intOf]
    · go_wp2_with fail
      refine wp_region_grow (by kernel_rfl) (by kernel_rfl) ?_
      repeat (go_big_quiet_step (((first | with_reducible exact zb.quiet _ | with_reducible exact zb.quiet2 _ _ | with_reducible exact zc.quiet _ | with_reducible exact zc.quiet2 _ _ | with_reducible exact c1.quiet _ | with_reducible exact c1.quiet2 _ _ | with_reducible exact d1.quiet _ | with_reducible exact d1.quiet2 _ _))))
      refine wpQuiet_nil ?_
      rintro _ ⟨xg, rfl⟩
      go_wp2_with fail
      go_roundw
      case rel => exact ⟨.inr (.inr (.inl ⟨rfl, congrArg (Value.int .i64) (by omega), _, rfl⟩)), grow_of (by repeat (first | exact Below.refl _ _ | refine bel_then ?_ _ | refine bel_grow ?_ _ | refine bel_alloc ?_ _ | refine bel_drew ?_ | refine bel_set ?_ (by simp) _ | refine bel_setRow ?_ (by first | omega | simp; done | exact Nat.le_trans (by simp) (top_le _ _)) _))⟩
      case measure => simp [intOf]
    · go_wp2_with fail
      refine wp_region_grow (by kernel_rfl) (by kernel_rfl) ?_
      repeat (go_big_quiet_step (((first | with_reducible exact zc.quiet _ | with_reducible exact zc.quiet2 _ _ | with_reducible exact za.quiet _ | with_reducible exact za.quiet2 _ _ | with_reducible exact c2.quiet _ | with_reducible exact c2.quiet2 _ _ | with_reducible exact d2.quiet _ | with_reducible exact d2.quiet2 _ _))))
      refine wpQuiet_nil ?_
      rintro _ ⟨xg, rfl⟩
      go_wp2_with fail
      go_roundw
      case rel => exact ⟨.inr (.inr (.inr (⟨rfl, congrArg (Value.int .i64) (by omega), _, rfl⟩))), grow_of (by repeat (first | exact Below.refl _ _ | refine bel_then ?_ _ | refine bel_grow ?_ _ | refine bel_alloc ?_ _ | refine bel_drew ?_ | refine bel_set ?_ (by simp) _ | refine bel_setRow ?_ (by first | omega | simp; done | exact Nat.le_trans (by simp) (top_le _ _)) _))⟩
      case measure => simp [intOf]
    · clear p0 p1 p2
      go_wp2_with (first | (go_at_call 30; first | ((with_reducible refine (nr.at_ _).mono ?_); rintro e w' ⟨rfl, xn, rfl⟩)))
      refine wp_region_make 7 ?_ 16 (.cells #[.int .i64 0, .int .u64 0] 24) (by kernel_rfl) (by kernel_rfl) (by kernel_rfl) (fun d hd => by cases hd; exact ⟨_, rfl, rfl, rfl, fun A u => alloc_wide3 A _ rfl u⟩) (fun pp => ?_) (fun pp qq => ?_)
      rotate_left
      · simp only [List.take_succ_cons, List.take_zero]
        repeat (go_big_quiet_step (((first | with_reducible exact e1.quiet _ | with_reducible exact e1.quiet2 _ _ | with_reducible exact x1.quiet _ | with_reducible exact x1.quiet2 _ _))))
        refine wpQuiet_nil ?_
        exact rfl
      simp only [List.drop_succ_cons, List.drop_zero]
      try simp only [Act.put, List.setIfInBounds_toArray, List.set_cons_succ, List.set_cons_zero]
      go_wp2_with fail
      refine wp_region_make 10 ?_ 17 (.cells #[.int .i64 0, .int .u64 0] 24) (by kernel_rfl) (by kernel_rfl) (by kernel_rfl) (fun d hd => by cases hd; exact ⟨_, rfl, rfl, rfl, fun A u => alloc_wide3 A _ rfl u⟩) (fun pp => ?_) (fun pp qq => ?_)
      rotate_left
      · simp only [List.take_succ_cons, List.take_zero]
        repeat (go_big_quiet_step (((first | with_reducible exact za.quiet _ | with_reducible exact za.quiet2 _ _ | with_reducible exact e2.quiet _ | with_reducible exact e2.quiet2 _ _ | with_reducible exact x2.quiet _ | with_reducible exact x2.quiet2 _ _))))
        refine wpQuiet_nil ?_
        exact rfl
      simp only [List.drop_succ_cons, List.drop_zero]
      try simp only [Act.put, List.setIfInBounds_toArray, List.set_cons_succ, List.set_cons_zero]
      go_wp2_with fail
      all_goals
        go_ret
        exact ⟨rfl, (by repeat (first | exact Below.refl _ _ | refine bel_then ?_ _ | refine bel_grow ?_ _ | refine bel_alloc ?_ _ | refine bel_drew ?_ | refine bel_set ?_ (by simp) _ | refine bel_setRow ?_ (by first | omega | simp; done | exact Nat.le_trans (by simp) (top_le _ _)) _))⟩
theorem rNormal_P (a b c : P3) (ha : Sp a) (hb : Sp b) (hc : Sp c) : Gives Try.prog 30 #[.agg #[.int .i64 a.x, .int .i64 a.y, .int .i64 a.z, .int .i64 b.x, .int .i64 b.y, .int .i64 b.z, .int .i64 c.x, .int .i64 c.y, .int .i64 c.z]] (.agg #[.int .i64 (nrm a b c).x, .int .i64 (nrm a b c).y, .int .i64 (nrm a b c).z]) := rNormal_any a b c ha hb hc
theorem walk (w : World) (o : P3) (ko : In3 o) (d : P3) (kd : In3 d) (a b c : P3) (kt : In3 a ∧ In3 b ∧ In3 c) :
    Calls Try.prog 9 #[.agg #[.int .i64 o.x, .int .i64 o.y, .int .i64 o.z], .agg #[.int .i64 d.x, .int .i64 d.y, .int .i64 d.z], .agg #[.int .i64 a.x, .int .i64 a.y, .int .i64 a.z, .int .i64 b.x, .int .i64 b.y, .int .i64 b.z, .int .i64 c.x, .int .i64 c.y, .int .i64 c.z]] w fun e w' => e = .returned (.bool true) ∧ Below w.heap.size w w' := by
  have m1 := vMeet_any o d a b c
  by_cases hb : bdB o d a b c = true
  · rw [(h_in hb).2.2.2.2] at m1
    by_cases hk : hK o d a b c = true
    · rw [hk] at m1
      obtain ⟨ho, hd, ha, hb', hc⟩ := bdB_in hb
      have ia := sb_in ha ho
      have ib := sb_in hb' ho
      have ic := sb_in hc ho
      have sa := rSub_P a o (by unfold InP at *; omega)
      have sb_ := rSub_P b o (by unfold InP at *; omega)
      have sc_ := rSub_P c o (by unfold InP at *; omega)
      have c0 := rCross_P _ _ _ _ ia ib (by decide)
      have c1 := rCross_P _ _ _ _ ib ic (by decide)
      have c2 := rCross_P _ _ _ _ ic ia (by decide)
      have d0 : Gives Try.prog 35 #[.agg #[.int .i64 d.x, .int .i64 d.y, .int .i64 d.z], .agg #[.int .i64 (cr (sb a o) (sb b o)).x, .int .i64 (cr (sb a o) (sb b o)).y, .int .i64 (cr (sb a o) (sb b o)).z]] (.int .i64 (turn o d a b)) := rDot_P d _ _ _ hd (cr_in ia ib) (by decide)
      have d1 : Gives Try.prog 35 #[.agg #[.int .i64 d.x, .int .i64 d.y, .int .i64 d.z], .agg #[.int .i64 (cr (sb b o) (sb c o)).x, .int .i64 (cr (sb b o) (sb c o)).y, .int .i64 (cr (sb b o) (sb c o)).z]] (.int .i64 (turn o d b c)) := rDot_P d _ _ _ hd (cr_in ib ic) (by decide)
      have d2 : Gives Try.prog 35 #[.agg #[.int .i64 d.x, .int .i64 d.y, .int .i64 d.z], .agg #[.int .i64 (cr (sb c o) (sb a o)).x, .int .i64 (cr (sb c o) (sb a o)).y, .int .i64 (cr (sb c o) (sb a o)).z]] (.int .i64 (turn o d c a)) := rDot_P d _ _ _ hd (cr_in ic ia) (by decide)
      have nr := rNormal_any a b c ha hb' hc
      have e1 : Gives Try.prog 35 #[.agg #[.int .i64 (nrm a b c).x, .int .i64 (nrm a b c).y, .int .i64 (nrm a b c).z], .agg #[.int .i64 d.x, .int .i64 d.y, .int .i64 d.z]] (.int .i64 (stp d a b c)) := rDot_P _ _ _ _ (nrm_in ha hb' hc) hd (by decide)
      have e2 : Gives Try.prog 35 #[.agg #[.int .i64 (nrm a b c).x, .int .i64 (nrm a b c).y, .int .i64 (nrm a b c).z], .agg #[.int .i64 (sb a o).x, .int .i64 (sb a o).y, .int .i64 (sb a o).z]] (.int .i64 (far o a b c)) := rDot_P _ _ _ _ (nrm_in ha hb' hc) ia (by decide)
      have f' : -13510798882111488 ≤ far o a b c ∧ far o a b c ≤ 13510798882111488 := far_in ho ha hb' hc
      have t' : -3377699720527872 ≤ stp d a b c ∧ stp d a b c ≤ 3377699720527872 := step_in hd ha hb' hc
      obtain ⟨n1, n2, _⟩ := h_in hb
      have hs := hK_sd hb
      rw [hk] at hs
      have hs : allS o d a b c ≠ 0 := of_decide_eq_true hs.symm
      have hq := allS_stp ho hd ha hb' hc hs
      have hq0 := sgn_cases (stp d a b c)
      have key : 0 < hD o d a b c ∧ (-3377699720527872 ≤ hD o d a b c ∧ hD o d a b c ≤ 3377699720527872) ∧ (-13510798882111488 ≤ hN o d a b c ∧ hN o d a b c ≤ 13510798882111488) ∧ stp d a b c * hN o d a b c = far o a b c * hD o d a b c := by
        rw [n1, n2]
        rcases Int.lt_or_gt_of_ne (show stp d a b c ≠ 0 by omega) with q1 | q1
        · obtain ⟨a1, a2, _⟩ := m_low (fa := far o a b c) q1 hs
          rw [a1, a2]
          exact ⟨by omega, by omega, by omega, by grind⟩
        · obtain ⟨a1, a2, _⟩ := m_high (fa := far o a b c) q1 hs
          rw [a1, a2]
          exact ⟨by omega, by omega, by omega, by grind⟩
      obtain ⟨k1, k2, k3, k4⟩ := key
      have x1 := rMul_any (stp d a b c) (hN o d a b c) (by omega) (by omega)
      have x2 := rMul_any (far o a b c) (hD o d a b c) (by omega) (by omega)
      rw [k4] at x1
      obtain ⟨g1, g2, g3⟩ := allS_sd hs
      have hz : ∀ t x y z : Int, sgn (orI t x y z) = 1 → 0 ≤ t := fun t x y z h => by
        unfold orI at h
        split at h
        · have := sgn_cases t; omega
        · omega
      have hz' : ∀ t x y z : Int, sgn (orI t x y z) = -1 → t ≤ 0 := fun t x y z h => by
        unfold orI at h
        split at h
        · have := sgn_cases t; omega
        · omega
      rcases allS_three o d a b c with q | q | q
      · rw [q] at g1 g2 g3
        exact neg w o d a b c _ _ _ _ _ _ _ _ _ _ _ k1 (hz' _ _ _ _ g1) (hz' _ _ _ _ g2) (hz' _ _ _ _ g3) m1 sa sb_ sc_ c0 d0 c1 d1 c2 d2 nr e1 e2 x1 x2
      · exact absurd q hs
      · rw [q] at g1 g2 g3
        exact pos w o d a b c _ _ _ _ _ _ _ _ _ _ _ k1 (hz _ _ _ _ g1) (hz _ _ _ _ g2) (hz _ _ _ _ g3) m1 sa sb_ sc_ c0 d0 c1 d1 c2 d2 nr e1 e2 x1 x2
    · have hk : hK o d a b c = false := by simpa using hk
      rw [hk] at m1
      exact none_ w o d a b c _ _ _ m1
  · have hb : bdB o d a b c = false := by simpa using hb
    obtain ⟨q1, q2, q3, q4, q5⟩ := h_out hb
    rw [q1, q2, q3, q4, q5] at m1
    exact far0 w o d a b c m1

theorem own : ownKnob Try.prog.godebug = none := by kernel_rfl
set_option maxRecDepth 100000 in
theorem lifted (os : Os) (started : os.Started) (H : Type) (enc : TypeId × Value → H) :
    ReturnsInHanded {} Try.checked os 9 .any (Rows.sideWithinSpec.pre6 enc Try.prog Try.f9 Rows.sideWithinRow.domain false) (Rows.sideWithinSpec.post enc Try.prog Try.f9 false true false false) := by
  refine returnsInHanded_of_change (C := Try.checked) own started (by kernel_rfl) Try.func9
    (ChangeSpec.witness6 (enc := enc) (C := Try.checked) false ⟨#[], #[.agg #[.int .i64 0, .int .i64 0, .int .i64 0], .agg #[.int .i64 0, .int .i64 0, .int .i64 0], .agg #[.int .i64 0, .int .i64 0, .int .i64 0, .int .i64 0, .int .i64 0, .int .i64 0, .int .i64 0, .int .i64 0, .int .i64 0]], []⟩ 12 (by kernel_rfl) (by kernel_rfl) (by kernel_rfl) (by kernel_rfl)) ?_
  intro W base args ds gs before hval0 hW hcnd _
  have hval : ∀ (j : Nat) t v, Try.f9.params[j]? = some t → args[j]? = some v → Value.okWide Try.prog W .any base t v := hval0
  have hW' := hW
  obtain ⟨p, q, hA0, hV, rfl, hfz, hnd⟩ := hW
  have hA : DataW.TrodAll enc Try.prog W 0 (fun _ => true) true Try.f9.params.toList args.toList ds p := hA0
  rw [Try.params9] at hA hval
  obtain ⟨v0, vs0, d0, ds0, p0, q0, hargs, rfl, rfl, h0, r0⟩ := trodAll_cons hA
  obtain ⟨v1, vs1, d1, ds1, p1, q1, rfl, rfl, rfl, h1, r1⟩ := trodAll_cons r0
  obtain ⟨v2, vs2, d2, ds2, p2, q2, rfl, rfl, rfl, h2, r2⟩ := trodAll_cons r1
  obtain ⟨rfl, rfl, rfl⟩ := trodAll_nil r2
  obtain rfl : args = #[v0, v1, v2] := by cases args; simp_all
  obtain ⟨a0, rfl, k0⟩ := open_V3 (hval 0 36 v0 rfl rfl) h0
  obtain ⟨a1, rfl, k1⟩ := open_V3 (hval 1 36 v1 rfl rfl) h1
  obtain ⟨a2, b2, c2, rfl, k2⟩ := open_T3 (hval 2 38 v2 rfl rfl) h2
  refine (walk W a0 k0 a1 k1 a2 b2 c2 k2).mono fun e W' ⟨he, hb⟩ => ?_
  subst he
  exact ⟨_, rfl, law_post (tb := 4) (by kernel_rfl) (by kernel_rfl) rfl rfl Try.underlying4 rfl rfl rfl hW' hb⟩

theorem over : Rows.sideWithinRow.holds Try.pinned (OpenSpec.ofChange Rows.sideWithinSpec) :=
  OpenClaim.holds_of_wide 9 Try.f9 rfl rfl rfl rfl rfl rfl rfl ⟨rfl, rfl, rfl, rfl, rfl⟩ rfl rfl rfl rfl rfl (by kernel_rfl) Try.func9 (by kernel_rfl)
    (of_decide_eq_true (by kernel_rfl)) (by unfold Func.isWrapper; first | (rw [if_pos (by decide +kernel)]; kernel_rfl) | (rw [if_neg (by decide +kernel)]; exact ⟨rfl, rfl⟩))
    (fun os started H enc _ => lifted os started H enc)

theorem proved : Rows.SideWithinSaid :=
  over
#print axioms proved
end Go.Proofs.Ytgfgaaecpdbgeaa.sideWithin
