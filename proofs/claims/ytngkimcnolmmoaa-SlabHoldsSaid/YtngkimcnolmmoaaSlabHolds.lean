/- SlabHolds holds for every input: the row, out of the walk. No condition. -/
import Derived.Test.YtngkimcnolmmoaaRows
import Derived.Test.YtngkimcnolmmoaaSlab4
import Derived.Test.YtngkimcnolmmoaaMRegion
import Derived.Test.YtngkimcnolmmoaaSlabN
import Derived.Test.YtngkimcnolmmoaaSideC
import Derived.Test.YtngkimcnolmmoaaMVecB
import Derived.Test.YtngkimcnolmmoaaPost
namespace Go.Proofs.Ytngkimcnolmmoaa.slabHolds
open Go.ChangeShapes Go.WideShapes Go.ChangeAt Go.RowKit
set_option linter.unusedVariables false
set_option linter.unusedSimpArgs false
theorem bound3 (W : World) (N : Nat) (hN : N = W.heap.size) (t : TypeId) (a b c : P3) :
    Calls Try.prog 14 #[.slice (some ⟨N, 0, none⟩) 3 3] (W.alloc (.cells #[.int .i64 a.x, .int .i64 a.y, .int .i64 a.z, .int .i64 b.x, .int .i64 b.y, .int .i64 b.z, .int .i64 c.x, .int .i64 c.y, .int .i64 c.z] t)) fun e w' => e = .returned (.tuple #[.agg #[.int .i64 (min (min a.x b.x) c.x), .int .i64 (min (min a.y b.y) c.y), .int .i64 (min (min a.z b.z) c.z), .int .i64 (max (max a.x b.x) c.x), .int .i64 (max (max a.y b.y) c.y), .int .i64 (max (max a.z b.z) c.z)], .bool true]) ∧ ∃ z, w' = grow (W.alloc (.cells #[.int .i64 a.x, .int .i64 a.y, .int .i64 a.z, .int .i64 b.x, .int .i64 b.y, .int .i64 b.z, .int .i64 c.x, .int .i64 c.y, .int .i64 c.z] t)) z :=
  vBound_some (W.alloc (.cells #[.int .i64 a.x, .int .i64 a.y, .int .i64 a.z, .int .i64 b.x, .int .i64 b.y, .int .i64 b.z, .int .i64 c.x, .int .i64 c.y, .int .i64 c.z] t)) _ 2 3 (row3 a b c) (VF3 W N hN t a b c) (by omega) (by omega)
theorem bound4 (W : World) (N : Nat) (hN : N = W.heap.size) (t : TypeId) (a b c mn mx : P3) (e1 : (⟨min (min a.x b.x) c.x, min (min a.y b.y) c.y, min (min a.z b.z) c.z⟩ : P3) = mn) (e2 : (⟨max (max a.x b.x) c.x, max (max a.y b.y) c.y, max (max a.z b.z) c.z⟩ : P3) = mx) :
    Calls Try.prog 14 #[.slice (some ⟨N, 0, none⟩) 3 3] (W.alloc (.cells #[.int .i64 a.x, .int .i64 a.y, .int .i64 a.z, .int .i64 b.x, .int .i64 b.y, .int .i64 b.z, .int .i64 c.x, .int .i64 c.y, .int .i64 c.z] t)) fun e w' => e = .returned (.tuple #[.agg #[.int .i64 mn.x, .int .i64 mn.y, .int .i64 mn.z, .int .i64 mx.x, .int .i64 mx.y, .int .i64 mx.z], .bool true]) ∧ ∃ z, w' = grow (W.alloc (.cells #[.int .i64 a.x, .int .i64 a.y, .int .i64 a.z, .int .i64 b.x, .int .i64 b.y, .int .i64 b.z, .int .i64 c.x, .int .i64 c.y, .int .i64 c.z] t)) z := by
  subst e1 e2
  exact bound3 W N hN t a b c
set_option maxRecDepth 100000 in
set_option maxHeartbeats 4000000 in
theorem far0 (w : World) (o d a b c l h : P3) (m1 : Gives Try.prog 13 #[.agg #[.int .i64 o.x, .int .i64 o.y, .int .i64 o.z], .agg #[.int .i64 d.x, .int .i64 d.y, .int .i64 d.z], .agg #[.int .i64 a.x, .int .i64 a.y, .int .i64 a.z, .int .i64 b.x, .int .i64 b.y, .int .i64 b.z, .int .i64 c.x, .int .i64 c.y, .int .i64 c.z]] (.tuple #[.agg #[.int .i64 (0), .int .i64 (0), .bool (false), .int .i64 0, .int .i64 0], .bool (false), .int .i64 (21)])) :
    Calls Try.prog 4 #[.agg #[.int .i64 o.x, .int .i64 o.y, .int .i64 o.z], .agg #[.int .i64 d.x, .int .i64 d.y, .int .i64 d.z], .agg #[.int .i64 a.x, .int .i64 a.y, .int .i64 a.z, .int .i64 b.x, .int .i64 b.y, .int .i64 b.z, .int .i64 c.x, .int .i64 c.y, .int .i64 c.z], .agg #[.int .i64 l.x, .int .i64 l.y, .int .i64 l.z, .int .i64 h.x, .int .i64 h.y, .int .i64 h.z]] w fun e w' => e = .returned (.bool true) ∧ Below w.heap.size w w' := by
  have al := alive4_any
  go_enter Try.func4, Try.ntmps4
  go_wp2_with (first | (go_at_call 10; first | ((with_reducible refine (al.at_ _).mono ?_); rintro e w' ⟨rfl, xa, rfl⟩)) | (go_at_call 13; first | ((with_reducible refine (m1.at_ _).mono ?_); rintro e w' ⟨rfl, xm, rfl⟩)))
  all_goals
    go_ret
    exact ⟨rfl, (by repeat (first | with_reducible exact Below.refl _ _ | with_reducible refine bel_then ?_ _ | with_reducible refine bel_grow ?_ _ | with_reducible refine bel_alloc ?_ _ | with_reducible refine bel_drew ?_ | with_reducible refine bel_set ?_ (by simp) _ | with_reducible refine bel_setRow ?_ (by first | omega | (simp; done) | (refine Nat.le_trans ?_ (top_le _ _); simp; done) | (refine Nat.le_succ_of_le (Nat.le_trans ?_ (top_le _ _)); simp; done)) _))⟩
set_option maxRecDepth 100000 in
set_option maxHeartbeats 4000000 in
theorem none_ (w : World) (o d a b c l h : P3) (n e : Int) (f : Bool) (m1 : Gives Try.prog 13 #[.agg #[.int .i64 o.x, .int .i64 o.y, .int .i64 o.z], .agg #[.int .i64 d.x, .int .i64 d.y, .int .i64 d.z], .agg #[.int .i64 a.x, .int .i64 a.y, .int .i64 a.z, .int .i64 b.x, .int .i64 b.y, .int .i64 b.z, .int .i64 c.x, .int .i64 c.y, .int .i64 c.z]] (.tuple #[.agg #[.int .i64 (n), .int .i64 (e), .bool (f), .int .i64 0, .int .i64 0], .bool (false), .int .i64 (0)])) :
    Calls Try.prog 4 #[.agg #[.int .i64 o.x, .int .i64 o.y, .int .i64 o.z], .agg #[.int .i64 d.x, .int .i64 d.y, .int .i64 d.z], .agg #[.int .i64 a.x, .int .i64 a.y, .int .i64 a.z, .int .i64 b.x, .int .i64 b.y, .int .i64 b.z, .int .i64 c.x, .int .i64 c.y, .int .i64 c.z], .agg #[.int .i64 l.x, .int .i64 l.y, .int .i64 l.z, .int .i64 h.x, .int .i64 h.y, .int .i64 h.z]] w fun e w' => e = .returned (.bool true) ∧ Below w.heap.size w w' := by
  have al := alive4_any
  go_enter Try.func4, Try.ntmps4
  go_wp2_with (first | (go_at_call 10; first | ((with_reducible refine (al.at_ _).mono ?_); rintro e w' ⟨rfl, xa, rfl⟩)) | (go_at_call 13; first | ((with_reducible refine (m1.at_ _).mono ?_); rintro e w' ⟨rfl, xm, rfl⟩)))
  all_goals
    go_ret
    exact ⟨rfl, (by repeat (first | with_reducible exact Below.refl _ _ | with_reducible refine bel_then ?_ _ | with_reducible refine bel_grow ?_ _ | with_reducible refine bel_alloc ?_ _ | with_reducible refine bel_drew ?_ | with_reducible refine bel_set ?_ (by simp) _ | with_reducible refine bel_setRow ?_ (by first | omega | (simp; done) | (refine Nat.le_trans ?_ (top_le _ _); simp; done) | (refine Nat.le_succ_of_le (Nat.le_trans ?_ (top_le _ _)); simp; done)) _))⟩
set_option maxRecDepth 100000 in
set_option maxHeartbeats 4000000 in
theorem negT (w : World) (o d a b c l h : P3) (n e : Int) (f : Bool) (hn : n < 0) (m1 : Gives Try.prog 13 #[.agg #[.int .i64 o.x, .int .i64 o.y, .int .i64 o.z], .agg #[.int .i64 d.x, .int .i64 d.y, .int .i64 d.z], .agg #[.int .i64 a.x, .int .i64 a.y, .int .i64 a.z, .int .i64 b.x, .int .i64 b.y, .int .i64 b.z, .int .i64 c.x, .int .i64 c.y, .int .i64 c.z]] (.tuple #[.agg #[.int .i64 (n), .int .i64 (e), .bool (f), .int .i64 0, .int .i64 0], .bool (true), .int .i64 (0)])) :
    Calls Try.prog 4 #[.agg #[.int .i64 o.x, .int .i64 o.y, .int .i64 o.z], .agg #[.int .i64 d.x, .int .i64 d.y, .int .i64 d.z], .agg #[.int .i64 a.x, .int .i64 a.y, .int .i64 a.z, .int .i64 b.x, .int .i64 b.y, .int .i64 b.z, .int .i64 c.x, .int .i64 c.y, .int .i64 c.z], .agg #[.int .i64 l.x, .int .i64 l.y, .int .i64 l.z, .int .i64 h.x, .int .i64 h.y, .int .i64 h.z]] w fun e w' => e = .returned (.bool true) ∧ Below w.heap.size w w' := by
  have al := alive4_any
  go_enter Try.func4, Try.ntmps4
  go_wp2_with (first | (go_at_call 10; first | ((with_reducible refine (al.at_ _).mono ?_); rintro e w' ⟨rfl, xa, rfl⟩)) | (go_at_call 13; first | ((with_reducible refine (m1.at_ _).mono ?_); rintro e w' ⟨rfl, xm, rfl⟩)))
  all_goals
    go_ret
    exact ⟨rfl, (by repeat (first | with_reducible exact Below.refl _ _ | with_reducible refine bel_then ?_ _ | with_reducible refine bel_grow ?_ _ | with_reducible refine bel_alloc ?_ _ | with_reducible refine bel_drew ?_ | with_reducible refine bel_set ?_ (by simp) _ | with_reducible refine bel_setRow ?_ (by first | omega | (simp; done) | (refine Nat.le_trans ?_ (top_le _ _); simp; done) | (refine Nat.le_succ_of_le (Nat.le_trans ?_ (top_le _ _)); simp; done)) _))⟩
set_option maxRecDepth 100000 in
set_option maxHeartbeats 4000000 in
theorem jfar (w : World) (o d a b c l h mn mx j k : P3) (n e : Int) (f : Bool) (hn : 0 ≤ n) (em : (⟨min (min a.x b.x) c.x, min (min a.y b.y) c.y, min (min a.z b.z) c.z⟩ : P3) = mn) (ex : (⟨max (max a.x b.x) c.x, max (max a.y b.y) c.y, max (max a.z b.z) c.z⟩ : P3) = mx) (m1 : Gives Try.prog 13 #[.agg #[.int .i64 o.x, .int .i64 o.y, .int .i64 o.z], .agg #[.int .i64 d.x, .int .i64 d.y, .int .i64 d.z], .agg #[.int .i64 a.x, .int .i64 a.y, .int .i64 a.z, .int .i64 b.x, .int .i64 b.y, .int .i64 b.z, .int .i64 c.x, .int .i64 c.y, .int .i64 c.z]] (.tuple #[.agg #[.int .i64 (n), .int .i64 (e), .bool (f), .int .i64 0, .int .i64 0], .bool (true), .int .i64 (0)])) (kj : Gives Try.prog 15 #[.agg #[.int .i64 mn.x, .int .i64 mn.y, .int .i64 mn.z, .int .i64 mx.x, .int .i64 mx.y, .int .i64 mx.z], .agg #[.int .i64 l.x, .int .i64 l.y, .int .i64 l.z, .int .i64 h.x, .int .i64 h.y, .int .i64 h.z]] (.agg #[.int .i64 j.x, .int .i64 j.y, .int .i64 j.z, .int .i64 k.x, .int .i64 k.y, .int .i64 k.z])) (x y : Fr) (m2 : Gives Try.prog 11 #[.agg #[.int .i64 o.x, .int .i64 o.y, .int .i64 o.z], .agg #[.int .i64 d.x, .int .i64 d.y, .int .i64 d.z], .agg #[.int .i64 j.x, .int .i64 j.y, .int .i64 j.z, .int .i64 k.x, .int .i64 k.y, .int .i64 k.z]] (.tuple #[.agg #[.int .i64 x.n, .int .i64 x.d], .agg #[.int .i64 y.n, .int .i64 y.d], .bool false, .int .i64 21])) :
    Calls Try.prog 4 #[.agg #[.int .i64 o.x, .int .i64 o.y, .int .i64 o.z], .agg #[.int .i64 d.x, .int .i64 d.y, .int .i64 d.z], .agg #[.int .i64 a.x, .int .i64 a.y, .int .i64 a.z, .int .i64 b.x, .int .i64 b.y, .int .i64 b.z, .int .i64 c.x, .int .i64 c.y, .int .i64 c.z], .agg #[.int .i64 l.x, .int .i64 l.y, .int .i64 l.z, .int .i64 h.x, .int .i64 h.y, .int .i64 h.z]] w fun e w' => e = .returned (.bool true) ∧ Below w.heap.size w w' := by
  have al := alive4_any
  have EM := Lib.hid em
  have EX := Lib.hid ex
  clear em ex
  go_enter Try.func4, Try.ntmps4
  go_upto_region 7 with (first | (go_at_call 10; first | ((with_reducible refine (al.at_ _).mono ?_); rintro e w' ⟨rfl, xa, rfl⟩)) | (go_at_call 13; first | ((with_reducible refine (m1.at_ _).mono ?_); rintro e w' ⟨rfl, xm, rfl⟩)) | (go_at_call 14; ((with_reducible refine (bound4 _ _ (by simp only [World.size_alloc]) _ a b c mn mx EM.out EX.out).mono ?_); rintro e w' ⟨rfl, xb, rfl⟩)))
  refine wp_region_two 11 ?_ 14 15 28 #[.int .i64 0, .int .i64 0] #[.int .i64 x.n, .int .i64 x.d] #[.int .i64 y.n, .int .i64 y.d] (by kernel_rfl) (by kernel_rfl) (by kernel_rfl) (by decide) (fun d hd => by cases hd; exact ⟨_, rfl, rfl, rfl, fun A u => alloc_frac A _ rfl u⟩) (fun d hd => by cases hd; exact ⟨_, rfl, rfl, rfl, fun A u => alloc_frac A _ rfl u⟩) (fun pp => ?_) (fun ga gb => ?_) (fun ga gb => ?_) (fun ga gb => ⟨?_, ?_, fun x => ?_, fun u hu => ?_⟩)
  rotate_left
  · simp only [List.take_succ_cons, List.take_zero]
    repeat (go_big_quiet_step (((first | with_reducible exact kj.quiet _ | with_reducible exact kj.quiet2 _ _ | with_reducible exact m2.quiet _ | with_reducible exact m2.quiet2 _ _))))
    refine wpQuiet_nil ?_
    exact rfl
  · exact ⟨_, rfl, storeS_row 28 _ _ _ _ rfl rfl rfl rfl rfl infoF rfl (by simp [Value.oneCell'])⟩
  · exact ⟨_, rfl, storeS_row 28 _ _ _ _ rfl rfl rfl rfl rfl infoF rfl (by simp [Value.oneCell'])⟩
  rotate_left
  · kernel_rfl
  · simp only [List.drop_succ_cons, List.drop_zero]
    try simp only [Act.put, List.setIfInBounds_toArray, List.set_cons_succ, List.set_cons_zero]
    repeat (go_big_quiet_step ((fail)))
    refine wpQuiet_nil ?_
    exact rfl
  obtain ⟨hbel, hne, ⟨hga, hba⟩, hgb, hbb⟩ := hu
  have q1 : Blk ((grow (((grow ((((w.alloc (.cells #[.int .i64 o.x, .int .i64 o.y, .int .i64 o.z] 23)).alloc (.cells #[.int .i64 d.x, .int .i64 d.y, .int .i64 d.z] 23)).alloc (.cells #[.int .i64 a.x, .int .i64 a.y, .int .i64 a.z, .int .i64 b.x, .int .i64 b.y, .int .i64 b.z, .int .i64 c.x, .int .i64 c.y, .int .i64 c.z] 34)).alloc (.cells #[.int .i64 l.x, .int .i64 l.y, .int .i64 l.z, .int .i64 h.x, .int .i64 h.y, .int .i64 h.z] 25)) (xa.then xm)).alloc (.cells #[.int .i64 (n), .int .i64 (e), .bool (f), .int .i64 0, .int .i64 0] 36)).alloc (.cells #[.int .i64 a.x, .int .i64 a.y, .int .i64 a.z, .int .i64 b.x, .int .i64 b.y, .int .i64 b.z, .int .i64 c.x, .int .i64 c.y, .int .i64 c.z] 23)) xb).alloc (.cells #[.int .i64 mn.x, .int .i64 mn.y, .int .i64 mn.z, .int .i64 mx.x, .int .i64 mx.y, .int .i64 mx.z] 25)) ((grow ((((w.alloc (.cells #[.int .i64 o.x, .int .i64 o.y, .int .i64 o.z] 23)).alloc (.cells #[.int .i64 d.x, .int .i64 d.y, .int .i64 d.z] 23)).alloc (.cells #[.int .i64 a.x, .int .i64 a.y, .int .i64 a.z, .int .i64 b.x, .int .i64 b.y, .int .i64 b.z, .int .i64 c.x, .int .i64 c.y, .int .i64 c.z] 34)).alloc (.cells #[.int .i64 l.x, .int .i64 l.y, .int .i64 l.z, .int .i64 h.x, .int .i64 h.y, .int .i64 h.z] 25)) (xa.then xm)).heap.size) 36 #[.int .i64 (n), .int .i64 (e), .bool (f), .int .i64 0, .int .i64 0] := (((Blk.new _ _ _ _ rfl).alloc _).grow xb).alloc _
  have C1 := q1.below hbel
  have CB : Below w.heap.size w u := bel_trans (a := w) (w := ((grow (((grow ((((w.alloc (.cells #[.int .i64 o.x, .int .i64 o.y, .int .i64 o.z] 23)).alloc (.cells #[.int .i64 d.x, .int .i64 d.y, .int .i64 d.z] 23)).alloc (.cells #[.int .i64 a.x, .int .i64 a.y, .int .i64 a.z, .int .i64 b.x, .int .i64 b.y, .int .i64 b.z, .int .i64 c.x, .int .i64 c.y, .int .i64 c.z] 34)).alloc (.cells #[.int .i64 l.x, .int .i64 l.y, .int .i64 l.z, .int .i64 h.x, .int .i64 h.y, .int .i64 h.z] 25)) (xa.then xm)).alloc (.cells #[.int .i64 (n), .int .i64 (e), .bool (f), .int .i64 0, .int .i64 0] 36)).alloc (.cells #[.int .i64 a.x, .int .i64 a.y, .int .i64 a.z, .int .i64 b.x, .int .i64 b.y, .int .i64 b.z, .int .i64 c.x, .int .i64 c.y, .int .i64 c.z] 23)) xb).alloc (.cells #[.int .i64 mn.x, .int .i64 mn.y, .int .i64 mn.z, .int .i64 mx.x, .int .i64 mx.y, .int .i64 mx.z] 25))) (by repeat (first | with_reducible exact Below.refl _ _ | with_reducible refine bel_then ?_ _ | with_reducible refine bel_grow ?_ _ | with_reducible refine bel_alloc ?_ _ | with_reducible refine bel_drew ?_ | with_reducible refine bel_set ?_ (by simp) _ | with_reducible refine bel_setRow ?_ (by first | omega | (simp; done) | (refine Nat.le_trans ?_ (top_le _ _); simp; done) | (refine Nat.le_succ_of_le (Nat.le_trans ?_ (top_le _ _)); simp; done)) _)) hbel
  have m1_ : (grow ((((w.alloc (.cells #[.int .i64 o.x, .int .i64 o.y, .int .i64 o.z] 23)).alloc (.cells #[.int .i64 d.x, .int .i64 d.y, .int .i64 d.z] 23)).alloc (.cells #[.int .i64 a.x, .int .i64 a.y, .int .i64 a.z, .int .i64 b.x, .int .i64 b.y, .int .i64 b.z, .int .i64 c.x, .int .i64 c.y, .int .i64 c.z] 34)).alloc (.cells #[.int .i64 l.x, .int .i64 l.y, .int .i64 l.z, .int .i64 h.x, .int .i64 h.y, .int .i64 h.z] 25)) (xa.then xm)).heap.size ≠ ga := Nat.ne_of_lt (Nat.lt_of_lt_of_le q1.lt hga)
  have m2_ : (grow ((((w.alloc (.cells #[.int .i64 o.x, .int .i64 o.y, .int .i64 o.z] 23)).alloc (.cells #[.int .i64 d.x, .int .i64 d.y, .int .i64 d.z] 23)).alloc (.cells #[.int .i64 a.x, .int .i64 a.y, .int .i64 a.z, .int .i64 b.x, .int .i64 b.y, .int .i64 b.z, .int .i64 c.x, .int .i64 c.y, .int .i64 c.z] 34)).alloc (.cells #[.int .i64 l.x, .int .i64 l.y, .int .i64 l.z, .int .i64 h.x, .int .i64 h.y, .int .i64 h.z] 25)) (xa.then xm)).heap.size ≠ gb := Nat.ne_of_lt (Nat.lt_of_lt_of_le q1.lt hgb)
  clear q1 hbel hga hgb
  simp only [ptr]
  generalize (grow ((((w.alloc (.cells #[.int .i64 o.x, .int .i64 o.y, .int .i64 o.z] 23)).alloc (.cells #[.int .i64 d.x, .int .i64 d.y, .int .i64 d.z] 23)).alloc (.cells #[.int .i64 a.x, .int .i64 a.y, .int .i64 a.z, .int .i64 b.x, .int .i64 b.y, .int .i64 b.z, .int .i64 c.x, .int .i64 c.y, .int .i64 c.z] 34)).alloc (.cells #[.int .i64 l.x, .int .i64 l.y, .int .i64 l.z, .int .i64 h.x, .int .i64 h.y, .int .i64 h.z] 25)) (xa.then xm)).heap.size = g1 at *
  have l1 := C1.lt
  have c10 := C1.cell 0
  have c11 := C1.cell 1
  have l3 := hba.lt
  have c30 := hba.cell 0
  have c31 := hba.cell 1
  have l4 := hbb.lt
  have c40 := hbb.cell 0
  have c41 := hbb.cell 1
  simp at c10 c11 c30 c31 c40 c41
  clear C1 hba hbb
  go_wp2_with (first | fail)
  all_goals
    go_ret
    exact ⟨rfl, (by repeat (first | with_reducible exact CB | with_reducible refine bel_then ?_ _ | with_reducible refine bel_grow ?_ _ | with_reducible refine bel_alloc ?_ _ | with_reducible refine bel_drew ?_ | with_reducible refine bel_set ?_ (by simp) _ | with_reducible refine bel_setRow ?_ (by first | omega | (simp; done) | (refine Nat.le_trans ?_ (top_le _ _); simp; done) | (refine Nat.le_succ_of_le (Nat.le_trans ?_ (top_le _ _)); simp; done)) _))⟩
set_option maxRecDepth 100000 in
set_option maxHeartbeats 4000000 in
theorem jsome (w : World) (o d a b c l h mn mx j k : P3) (n e : Int) (f : Bool) (hn : 0 ≤ n) (em : (⟨min (min a.x b.x) c.x, min (min a.y b.y) c.y, min (min a.z b.z) c.z⟩ : P3) = mn) (ex : (⟨max (max a.x b.x) c.x, max (max a.y b.y) c.y, max (max a.z b.z) c.z⟩ : P3) = mx) (m1 : Gives Try.prog 13 #[.agg #[.int .i64 o.x, .int .i64 o.y, .int .i64 o.z], .agg #[.int .i64 d.x, .int .i64 d.y, .int .i64 d.z], .agg #[.int .i64 a.x, .int .i64 a.y, .int .i64 a.z, .int .i64 b.x, .int .i64 b.y, .int .i64 b.z, .int .i64 c.x, .int .i64 c.y, .int .i64 c.z]] (.tuple #[.agg #[.int .i64 (n), .int .i64 (e), .bool (f), .int .i64 0, .int .i64 0], .bool (true), .int .i64 (0)])) (kj : Gives Try.prog 15 #[.agg #[.int .i64 mn.x, .int .i64 mn.y, .int .i64 mn.z, .int .i64 mx.x, .int .i64 mx.y, .int .i64 mx.z], .agg #[.int .i64 l.x, .int .i64 l.y, .int .i64 l.z, .int .i64 h.x, .int .i64 h.y, .int .i64 h.z]] (.agg #[.int .i64 j.x, .int .i64 j.y, .int .i64 j.z, .int .i64 k.x, .int .i64 k.y, .int .i64 k.z])) (x y : Fr) (c1 c2 : Int) (hc1 : decide (c1 ≤ 0) = true) (hc2 : decide (c2 ≤ 0) = true) (m2 : Gives Try.prog 11 #[.agg #[.int .i64 o.x, .int .i64 o.y, .int .i64 o.z], .agg #[.int .i64 d.x, .int .i64 d.y, .int .i64 d.z], .agg #[.int .i64 j.x, .int .i64 j.y, .int .i64 j.z, .int .i64 k.x, .int .i64 k.y, .int .i64 k.z]] (.tuple #[.agg #[.int .i64 x.n, .int .i64 x.d], .agg #[.int .i64 y.n, .int .i64 y.d], .bool true, .int .i64 0])) (k1 : Gives Try.prog 16 #[.agg #[.int .i64 x.n, .int .i64 x.d], .agg #[.int .i64 (⟨n, e⟩ : Fr).n, .int .i64 (⟨n, e⟩ : Fr).d]] (.tuple #[.int .i64 c1, .bool true])) (k2 : Gives Try.prog 16 #[.agg #[.int .i64 (⟨n, e⟩ : Fr).n, .int .i64 (⟨n, e⟩ : Fr).d], .agg #[.int .i64 y.n, .int .i64 y.d]] (.tuple #[.int .i64 c2, .bool true])) :
    Calls Try.prog 4 #[.agg #[.int .i64 o.x, .int .i64 o.y, .int .i64 o.z], .agg #[.int .i64 d.x, .int .i64 d.y, .int .i64 d.z], .agg #[.int .i64 a.x, .int .i64 a.y, .int .i64 a.z, .int .i64 b.x, .int .i64 b.y, .int .i64 b.z, .int .i64 c.x, .int .i64 c.y, .int .i64 c.z], .agg #[.int .i64 l.x, .int .i64 l.y, .int .i64 l.z, .int .i64 h.x, .int .i64 h.y, .int .i64 h.z]] w fun e w' => e = .returned (.bool true) ∧ Below w.heap.size w w' := by
  have al := alive4_any
  have EM := Lib.hid em
  have EX := Lib.hid ex
  clear em ex
  simp only at k1 k2
  go_enter Try.func4, Try.ntmps4
  go_upto_region 7 with (first | (go_at_call 10; first | ((with_reducible refine (al.at_ _).mono ?_); rintro e w' ⟨rfl, xa, rfl⟩)) | (go_at_call 13; first | ((with_reducible refine (m1.at_ _).mono ?_); rintro e w' ⟨rfl, xm, rfl⟩)) | (go_at_call 14; ((with_reducible refine (bound4 _ _ (by simp only [World.size_alloc]) _ a b c mn mx EM.out EX.out).mono ?_); rintro e w' ⟨rfl, xb, rfl⟩)))
  refine wp_region_two 11 ?_ 14 15 28 #[.int .i64 0, .int .i64 0] #[.int .i64 x.n, .int .i64 x.d] #[.int .i64 y.n, .int .i64 y.d] (by kernel_rfl) (by kernel_rfl) (by kernel_rfl) (by decide) (fun d hd => by cases hd; exact ⟨_, rfl, rfl, rfl, fun A u => alloc_frac A _ rfl u⟩) (fun d hd => by cases hd; exact ⟨_, rfl, rfl, rfl, fun A u => alloc_frac A _ rfl u⟩) (fun pp => ?_) (fun ga gb => ?_) (fun ga gb => ?_) (fun ga gb => ⟨?_, ?_, fun x => ?_, fun u hu => ?_⟩)
  rotate_left
  · simp only [List.take_succ_cons, List.take_zero]
    repeat (go_big_quiet_step (((first | with_reducible exact kj.quiet _ | with_reducible exact kj.quiet2 _ _ | with_reducible exact m2.quiet _ | with_reducible exact m2.quiet2 _ _))))
    refine wpQuiet_nil ?_
    exact rfl
  · exact ⟨_, rfl, storeS_row 28 _ _ _ _ rfl rfl rfl rfl rfl infoF rfl (by simp [Value.oneCell'])⟩
  · exact ⟨_, rfl, storeS_row 28 _ _ _ _ rfl rfl rfl rfl rfl infoF rfl (by simp [Value.oneCell'])⟩
  rotate_left
  · kernel_rfl
  · simp only [List.drop_succ_cons, List.drop_zero]
    try simp only [Act.put, List.setIfInBounds_toArray, List.set_cons_succ, List.set_cons_zero]
    repeat (go_big_quiet_step ((fail)))
    refine wpQuiet_nil ?_
    exact rfl
  obtain ⟨hbel, hne, ⟨hga, hba⟩, hgb, hbb⟩ := hu
  have q1 : Blk ((grow (((grow ((((w.alloc (.cells #[.int .i64 o.x, .int .i64 o.y, .int .i64 o.z] 23)).alloc (.cells #[.int .i64 d.x, .int .i64 d.y, .int .i64 d.z] 23)).alloc (.cells #[.int .i64 a.x, .int .i64 a.y, .int .i64 a.z, .int .i64 b.x, .int .i64 b.y, .int .i64 b.z, .int .i64 c.x, .int .i64 c.y, .int .i64 c.z] 34)).alloc (.cells #[.int .i64 l.x, .int .i64 l.y, .int .i64 l.z, .int .i64 h.x, .int .i64 h.y, .int .i64 h.z] 25)) (xa.then xm)).alloc (.cells #[.int .i64 (n), .int .i64 (e), .bool (f), .int .i64 0, .int .i64 0] 36)).alloc (.cells #[.int .i64 a.x, .int .i64 a.y, .int .i64 a.z, .int .i64 b.x, .int .i64 b.y, .int .i64 b.z, .int .i64 c.x, .int .i64 c.y, .int .i64 c.z] 23)) xb).alloc (.cells #[.int .i64 mn.x, .int .i64 mn.y, .int .i64 mn.z, .int .i64 mx.x, .int .i64 mx.y, .int .i64 mx.z] 25)) ((grow ((((w.alloc (.cells #[.int .i64 o.x, .int .i64 o.y, .int .i64 o.z] 23)).alloc (.cells #[.int .i64 d.x, .int .i64 d.y, .int .i64 d.z] 23)).alloc (.cells #[.int .i64 a.x, .int .i64 a.y, .int .i64 a.z, .int .i64 b.x, .int .i64 b.y, .int .i64 b.z, .int .i64 c.x, .int .i64 c.y, .int .i64 c.z] 34)).alloc (.cells #[.int .i64 l.x, .int .i64 l.y, .int .i64 l.z, .int .i64 h.x, .int .i64 h.y, .int .i64 h.z] 25)) (xa.then xm)).heap.size) 36 #[.int .i64 (n), .int .i64 (e), .bool (f), .int .i64 0, .int .i64 0] := (((Blk.new _ _ _ _ rfl).alloc _).grow xb).alloc _
  have C1 := q1.below hbel
  have CB : Below w.heap.size w u := bel_trans (a := w) (w := ((grow (((grow ((((w.alloc (.cells #[.int .i64 o.x, .int .i64 o.y, .int .i64 o.z] 23)).alloc (.cells #[.int .i64 d.x, .int .i64 d.y, .int .i64 d.z] 23)).alloc (.cells #[.int .i64 a.x, .int .i64 a.y, .int .i64 a.z, .int .i64 b.x, .int .i64 b.y, .int .i64 b.z, .int .i64 c.x, .int .i64 c.y, .int .i64 c.z] 34)).alloc (.cells #[.int .i64 l.x, .int .i64 l.y, .int .i64 l.z, .int .i64 h.x, .int .i64 h.y, .int .i64 h.z] 25)) (xa.then xm)).alloc (.cells #[.int .i64 (n), .int .i64 (e), .bool (f), .int .i64 0, .int .i64 0] 36)).alloc (.cells #[.int .i64 a.x, .int .i64 a.y, .int .i64 a.z, .int .i64 b.x, .int .i64 b.y, .int .i64 b.z, .int .i64 c.x, .int .i64 c.y, .int .i64 c.z] 23)) xb).alloc (.cells #[.int .i64 mn.x, .int .i64 mn.y, .int .i64 mn.z, .int .i64 mx.x, .int .i64 mx.y, .int .i64 mx.z] 25))) (by repeat (first | with_reducible exact Below.refl _ _ | with_reducible refine bel_then ?_ _ | with_reducible refine bel_grow ?_ _ | with_reducible refine bel_alloc ?_ _ | with_reducible refine bel_drew ?_ | with_reducible refine bel_set ?_ (by simp) _ | with_reducible refine bel_setRow ?_ (by first | omega | (simp; done) | (refine Nat.le_trans ?_ (top_le _ _); simp; done) | (refine Nat.le_succ_of_le (Nat.le_trans ?_ (top_le _ _)); simp; done)) _)) hbel
  have m1_ : (grow ((((w.alloc (.cells #[.int .i64 o.x, .int .i64 o.y, .int .i64 o.z] 23)).alloc (.cells #[.int .i64 d.x, .int .i64 d.y, .int .i64 d.z] 23)).alloc (.cells #[.int .i64 a.x, .int .i64 a.y, .int .i64 a.z, .int .i64 b.x, .int .i64 b.y, .int .i64 b.z, .int .i64 c.x, .int .i64 c.y, .int .i64 c.z] 34)).alloc (.cells #[.int .i64 l.x, .int .i64 l.y, .int .i64 l.z, .int .i64 h.x, .int .i64 h.y, .int .i64 h.z] 25)) (xa.then xm)).heap.size ≠ ga := Nat.ne_of_lt (Nat.lt_of_lt_of_le q1.lt hga)
  have m2_ : (grow ((((w.alloc (.cells #[.int .i64 o.x, .int .i64 o.y, .int .i64 o.z] 23)).alloc (.cells #[.int .i64 d.x, .int .i64 d.y, .int .i64 d.z] 23)).alloc (.cells #[.int .i64 a.x, .int .i64 a.y, .int .i64 a.z, .int .i64 b.x, .int .i64 b.y, .int .i64 b.z, .int .i64 c.x, .int .i64 c.y, .int .i64 c.z] 34)).alloc (.cells #[.int .i64 l.x, .int .i64 l.y, .int .i64 l.z, .int .i64 h.x, .int .i64 h.y, .int .i64 h.z] 25)) (xa.then xm)).heap.size ≠ gb := Nat.ne_of_lt (Nat.lt_of_lt_of_le q1.lt hgb)
  clear q1 hbel hga hgb
  simp only [ptr]
  generalize (grow ((((w.alloc (.cells #[.int .i64 o.x, .int .i64 o.y, .int .i64 o.z] 23)).alloc (.cells #[.int .i64 d.x, .int .i64 d.y, .int .i64 d.z] 23)).alloc (.cells #[.int .i64 a.x, .int .i64 a.y, .int .i64 a.z, .int .i64 b.x, .int .i64 b.y, .int .i64 b.z, .int .i64 c.x, .int .i64 c.y, .int .i64 c.z] 34)).alloc (.cells #[.int .i64 l.x, .int .i64 l.y, .int .i64 l.z, .int .i64 h.x, .int .i64 h.y, .int .i64 h.z] 25)) (xa.then xm)).heap.size = g1 at *
  have l1 := C1.lt
  have c10 := C1.cell 0
  have c11 := C1.cell 1
  have l3 := hba.lt
  have c30 := hba.cell 0
  have c31 := hba.cell 1
  have l4 := hbb.lt
  have c40 := hbb.cell 0
  have c41 := hbb.cell 1
  simp at c10 c11 c30 c31 c40 c41
  clear C1 hba hbb
  go_wp2_with (first | (go_at_call 16; first | ((with_reducible refine (k1.at_ _).mono ?_); rintro e w' ⟨rfl, xg, rfl⟩) | ((with_reducible refine (k2.at_ _).mono ?_); rintro e w' ⟨rfl, xg, rfl⟩)))
  all_goals
    go_ret
    exact ⟨rfl, (by repeat (first | with_reducible exact CB | with_reducible refine bel_then ?_ _ | with_reducible refine bel_grow ?_ _ | with_reducible refine bel_alloc ?_ _ | with_reducible refine bel_drew ?_ | with_reducible refine bel_set ?_ (by simp) _ | with_reducible refine bel_setRow ?_ (by first | omega | (simp; done) | (refine Nat.le_trans ?_ (top_le _ _); simp; done) | (refine Nat.le_succ_of_le (Nat.le_trans ?_ (top_le _ _)); simp; done)) _))⟩
theorem cmp_le {x y : Int} (h : x ≤ y) : decide (cmpOf x y ≤ 0) = true := by
  unfold cmpOf
  split
  · rfl
  · rw [if_pos (by omega)]; rfl
theorem walk (w : World) (o : P3) (ko : In3 o) (d : P3) (kd : In3 d) (a b c : P3) (kt : In3 a ∧ In3 b ∧ In3 c) (l h : P3) (kb : In3 l ∧ In3 h) :
    Calls Try.prog 4 #[.agg #[.int .i64 o.x, .int .i64 o.y, .int .i64 o.z], .agg #[.int .i64 d.x, .int .i64 d.y, .int .i64 d.z], .agg #[.int .i64 a.x, .int .i64 a.y, .int .i64 a.z, .int .i64 b.x, .int .i64 b.y, .int .i64 b.z, .int .i64 c.x, .int .i64 c.y, .int .i64 c.z], .agg #[.int .i64 l.x, .int .i64 l.y, .int .i64 l.z, .int .i64 h.x, .int .i64 h.y, .int .i64 h.z]] w fun e w' => e = .returned (.bool true) ∧ Below w.heap.size w w' := by
  have m1 := vMeet_any o d a b c
  by_cases hb : bdB o d a b c = true
  · rw [(h_in hb).2.2.2.2] at m1
    by_cases hk : hK o d a b c = true
    · rw [hk] at m1
      obtain ⟨ho, hd, ha, hb', hc⟩ := bdB_in hb
      have f' : -13510798882111488 ≤ far o a b c ∧ far o a b c ≤ 13510798882111488 := far_in ho ha hb' hc
      have t' : -3377699720527872 ≤ stp d a b c ∧ stp d a b c ≤ 3377699720527872 := step_in hd ha hb' hc
      obtain ⟨n1, n2, _⟩ := h_in hb
      have hs := hK_sd hb
      rw [hk] at hs
      have hs : allS o d a b c ≠ 0 := of_decide_eq_true hs.symm
      have hq := allS_stp ho hd ha hb' hc hs
      have hq0 := sgn_cases (stp d a b c)
      obtain ⟨g1, g2, g3⟩ := allS_sd hs
      have hz : ∀ t x y z : Int, sgn (orI t x y z) = 1 → 0 ≤ t := fun t x y z h => by
        unfold orI at h
        split at h
        · have := sgn_cases t; omega
        · omega
      have hz' : ∀ t x y z : Int, sgn (orI t x y z) = -1 → t ≤ 0 := fun t x y z h => by
        unfold orI at h
        split at h
        · have := sgn_cases t; omega
        · omega
      have ba : InBx (⟨min (⟨min (min a.x b.x) c.x, min (min a.y b.y) c.y, min (min a.z b.z) c.z⟩ : P3).x l.x, min (⟨min (min a.x b.x) c.x, min (min a.y b.y) c.y, min (min a.z b.z) c.z⟩ : P3).y l.y, min (⟨min (min a.x b.x) c.x, min (min a.y b.y) c.y, min (min a.z b.z) c.z⟩ : P3).z l.z⟩ : P3) (⟨max (⟨max (max a.x b.x) c.x, max (max a.y b.y) c.y, max (max a.z b.z) c.z⟩ : P3).x h.x, max (⟨max (max a.x b.x) c.x, max (max a.y b.y) c.y, max (max a.z b.z) c.z⟩ : P3).y h.y, max (⟨max (max a.x b.x) c.x, max (max a.y b.y) c.y, max (max a.z b.z) c.z⟩ : P3).z h.z⟩ : P3) a := by unfold InBx; simp only; omega
      have bb : InBx (⟨min (⟨min (min a.x b.x) c.x, min (min a.y b.y) c.y, min (min a.z b.z) c.z⟩ : P3).x l.x, min (⟨min (min a.x b.x) c.x, min (min a.y b.y) c.y, min (min a.z b.z) c.z⟩ : P3).y l.y, min (⟨min (min a.x b.x) c.x, min (min a.y b.y) c.y, min (min a.z b.z) c.z⟩ : P3).z l.z⟩ : P3) (⟨max (⟨max (max a.x b.x) c.x, max (max a.y b.y) c.y, max (max a.z b.z) c.z⟩ : P3).x h.x, max (⟨max (max a.x b.x) c.x, max (max a.y b.y) c.y, max (max a.z b.z) c.z⟩ : P3).y h.y, max (⟨max (max a.x b.x) c.x, max (max a.y b.y) c.y, max (max a.z b.z) c.z⟩ : P3).z h.z⟩ : P3) b := by unfold InBx; simp only; omega
      have bc : InBx (⟨min (⟨min (min a.x b.x) c.x, min (min a.y b.y) c.y, min (min a.z b.z) c.z⟩ : P3).x l.x, min (⟨min (min a.x b.x) c.x, min (min a.y b.y) c.y, min (min a.z b.z) c.z⟩ : P3).y l.y, min (⟨min (min a.x b.x) c.x, min (min a.y b.y) c.y, min (min a.z b.z) c.z⟩ : P3).z l.z⟩ : P3) (⟨max (⟨max (max a.x b.x) c.x, max (max a.y b.y) c.y, max (max a.z b.z) c.z⟩ : P3).x h.x, max (⟨max (max a.x b.x) c.x, max (max a.y b.y) c.y, max (max a.z b.z) c.z⟩ : P3).y h.y, max (⟨max (max a.x b.x) c.x, max (max a.y b.y) c.y, max (max a.z b.z) c.z⟩ : P3).z h.z⟩ : P3) c := by unfold InBx; simp only; omega
      have key : 0 < hD o d a b c ∧ (-3377699720527872 ≤ hD o d a b c ∧ hD o d a b c ≤ 3377699720527872) ∧ (-13510798882111488 ≤ hN o d a b c ∧ hN o d a b c ≤ 13510798882111488) ∧
          atP o.x d.x (⟨min (⟨min (min a.x b.x) c.x, min (min a.y b.y) c.y, min (min a.z b.z) c.z⟩ : P3).x l.x, min (⟨min (min a.x b.x) c.x, min (min a.y b.y) c.y, min (min a.z b.z) c.z⟩ : P3).y l.y, min (⟨min (min a.x b.x) c.x, min (min a.y b.y) c.y, min (min a.z b.z) c.z⟩ : P3).z l.z⟩ : P3).x (⟨max (⟨max (max a.x b.x) c.x, max (max a.y b.y) c.y, max (max a.z b.z) c.z⟩ : P3).x h.x, max (⟨max (max a.x b.x) c.x, max (max a.y b.y) c.y, max (max a.z b.z) c.z⟩ : P3).y h.y, max (⟨max (max a.x b.x) c.x, max (max a.y b.y) c.y, max (max a.z b.z) c.z⟩ : P3).z h.z⟩ : P3).x (hN o d a b c) (hD o d a b c) ∧ atP o.y d.y (⟨min (⟨min (min a.x b.x) c.x, min (min a.y b.y) c.y, min (min a.z b.z) c.z⟩ : P3).x l.x, min (⟨min (min a.x b.x) c.x, min (min a.y b.y) c.y, min (min a.z b.z) c.z⟩ : P3).y l.y, min (⟨min (min a.x b.x) c.x, min (min a.y b.y) c.y, min (min a.z b.z) c.z⟩ : P3).z l.z⟩ : P3).y (⟨max (⟨max (max a.x b.x) c.x, max (max a.y b.y) c.y, max (max a.z b.z) c.z⟩ : P3).x h.x, max (⟨max (max a.x b.x) c.x, max (max a.y b.y) c.y, max (max a.z b.z) c.z⟩ : P3).y h.y, max (⟨max (max a.x b.x) c.x, max (max a.y b.y) c.y, max (max a.z b.z) c.z⟩ : P3).z h.z⟩ : P3).y (hN o d a b c) (hD o d a b c) ∧ atP o.z d.z (⟨min (⟨min (min a.x b.x) c.x, min (min a.y b.y) c.y, min (min a.z b.z) c.z⟩ : P3).x l.x, min (⟨min (min a.x b.x) c.x, min (min a.y b.y) c.y, min (min a.z b.z) c.z⟩ : P3).y l.y, min (⟨min (min a.x b.x) c.x, min (min a.y b.y) c.y, min (min a.z b.z) c.z⟩ : P3).z l.z⟩ : P3).z (⟨max (⟨max (max a.x b.x) c.x, max (max a.y b.y) c.y, max (max a.z b.z) c.z⟩ : P3).x h.x, max (⟨max (max a.x b.x) c.x, max (max a.y b.y) c.y, max (max a.z b.z) c.z⟩ : P3).y h.y, max (⟨max (max a.x b.x) c.x, max (max a.y b.y) c.y, max (max a.z b.z) c.z⟩ : P3).z h.z⟩ : P3).z (hN o d a b c) (hD o d a b c) := by
        rw [n1, n2]
        rcases Int.lt_or_gt_of_ne (show stp d a b c ≠ 0 by omega) with q1 | q1
        · obtain ⟨a1, a2, _⟩ := m_low (fa := far o a b c) q1 hs
          rw [a1, a2]
          have q : allS o d a b c = -1 := by omega
          rw [q] at g1 g2 g3
          exact ⟨by omega, by omega, by omega, holds_neg (hz' _ _ _ _ g1) (hz' _ _ _ _ g2) (hz' _ _ _ _ g3) ba bb bc⟩
        · obtain ⟨a1, a2, _⟩ := m_high (fa := far o a b c) q1 hs
          rw [a1, a2]
          have q : allS o d a b c = 1 := by omega
          rw [q] at g1 g2 g3
          exact ⟨by omega, by omega, by omega, holds_pos (hz _ _ _ _ g1) (hz _ _ _ _ g2) (hz _ _ _ _ g3) ba bb bc⟩
      obtain ⟨k1, k2, k3, x1, x2, x3⟩ := key
      by_cases hn : hN o d a b c < 0
      · exact negT w o d a b c l h _ _ _ hn m1
      have hn : 0 ≤ hN o d a b c := by omega
      obtain ⟨r, hr, r1, r2, o1, o2⟩ := range_at hn k1 x1 x2 x3
      have m2 := slRange_any o d (⟨min (⟨min (min a.x b.x) c.x, min (min a.y b.y) c.y, min (min a.z b.z) c.z⟩ : P3).x l.x, min (⟨min (min a.x b.x) c.x, min (min a.y b.y) c.y, min (min a.z b.z) c.z⟩ : P3).y l.y, min (⟨min (min a.x b.x) c.x, min (min a.y b.y) c.y, min (min a.z b.z) c.z⟩ : P3).z l.z⟩ : P3) (⟨max (⟨max (max a.x b.x) c.x, max (max a.y b.y) c.y, max (max a.z b.z) c.z⟩ : P3).x h.x, max (⟨max (max a.x b.x) c.x, max (max a.y b.y) c.y, max (max a.z b.z) c.z⟩ : P3).y h.y, max (⟨max (max a.x b.x) c.x, max (max a.y b.y) c.y, max (max a.z b.z) c.z⟩ : P3).z h.z⟩ : P3)
      have kj := vJoin_any (⟨min (min a.x b.x) c.x, min (min a.y b.y) c.y, min (min a.z b.z) c.z⟩ : P3).x (⟨min (min a.x b.x) c.x, min (min a.y b.y) c.y, min (min a.z b.z) c.z⟩ : P3).y (⟨min (min a.x b.x) c.x, min (min a.y b.y) c.y, min (min a.z b.z) c.z⟩ : P3).z (⟨max (max a.x b.x) c.x, max (max a.y b.y) c.y, max (max a.z b.z) c.z⟩ : P3).x (⟨max (max a.x b.x) c.x, max (max a.y b.y) c.y, max (max a.z b.z) c.z⟩ : P3).y (⟨max (max a.x b.x) c.x, max (max a.y b.y) c.y, max (max a.z b.z) c.z⟩ : P3).z l.x l.y l.z h.x h.y h.z
      rcases rg_cases o d (⟨min (⟨min (min a.x b.x) c.x, min (min a.y b.y) c.y, min (min a.z b.z) c.z⟩ : P3).x l.x, min (⟨min (min a.x b.x) c.x, min (min a.y b.y) c.y, min (min a.z b.z) c.z⟩ : P3).y l.y, min (⟨min (min a.x b.x) c.x, min (min a.y b.y) c.y, min (min a.z b.z) c.z⟩ : P3).z l.z⟩ : P3) (⟨max (⟨max (max a.x b.x) c.x, max (max a.y b.y) c.y, max (max a.z b.z) c.z⟩ : P3).x h.x, max (⟨max (max a.x b.x) c.x, max (max a.y b.y) c.y, max (max a.z b.z) c.z⟩ : P3).y h.y, max (⟨max (max a.x b.x) c.x, max (max a.y b.y) c.y, max (max a.z b.z) c.z⟩ : P3).z h.z⟩ : P3) with ⟨_, e2⟩ | ⟨_, hx, e2⟩ | ⟨r', hb2, hr', e2⟩
      · rw [e2] at m2
        exact jfar w o d a b c l h (⟨min (min a.x b.x) c.x, min (min a.y b.y) c.y, min (min a.z b.z) c.z⟩ : P3) (⟨max (max a.x b.x) c.x, max (max a.y b.y) c.y, max (max a.z b.z) c.z⟩ : P3) (⟨min (⟨min (min a.x b.x) c.x, min (min a.y b.y) c.y, min (min a.z b.z) c.z⟩ : P3).x l.x, min (⟨min (min a.x b.x) c.x, min (min a.y b.y) c.y, min (min a.z b.z) c.z⟩ : P3).y l.y, min (⟨min (min a.x b.x) c.x, min (min a.y b.y) c.y, min (min a.z b.z) c.z⟩ : P3).z l.z⟩ : P3) (⟨max (⟨max (max a.x b.x) c.x, max (max a.y b.y) c.y, max (max a.z b.z) c.z⟩ : P3).x h.x, max (⟨max (max a.x b.x) c.x, max (max a.y b.y) c.y, max (max a.z b.z) c.z⟩ : P3).y h.y, max (⟨max (max a.x b.x) c.x, max (max a.y b.y) c.y, max (max a.z b.z) c.z⟩ : P3).z h.z⟩ : P3) _ _ _ hn rfl rfl m1 kj _ _ m2
      · rw [hr] at hx; cases hx
      · rw [e2] at m2
        obtain rfl : r = r' := by rw [hr] at hr'; injection hr'
        obtain ⟨s1, s2⟩ := range_small hb2 hr
        have i1 := smallF_in s1
        have i2 := smallF_in s2
        have y1 := order_yes r.1.n r.1.d (hN o d a b c) (hD o d a b c) i1.1.1 i1.1.2 i1.2.1 i1.2.2 (by omega) (by omega) (by omega) (by omega) (okLo_right o1) (.inl k1)
        have y2 := order_yes (hN o d a b c) (hD o d a b c) r.2.n r.2.d (by omega) (by omega) (by omega) (by omega) i2.1.1 i2.1.2 i2.2.1 i2.2.2 (.inl k1) (okHi_right o2)
        exact jsome w o d a b c l h (⟨min (min a.x b.x) c.x, min (min a.y b.y) c.y, min (min a.z b.z) c.z⟩ : P3) (⟨max (max a.x b.x) c.x, max (max a.y b.y) c.y, max (max a.z b.z) c.z⟩ : P3) (⟨min (⟨min (min a.x b.x) c.x, min (min a.y b.y) c.y, min (min a.z b.z) c.z⟩ : P3).x l.x, min (⟨min (min a.x b.x) c.x, min (min a.y b.y) c.y, min (min a.z b.z) c.z⟩ : P3).y l.y, min (⟨min (min a.x b.x) c.x, min (min a.y b.y) c.y, min (min a.z b.z) c.z⟩ : P3).z l.z⟩ : P3) (⟨max (⟨max (max a.x b.x) c.x, max (max a.y b.y) c.y, max (max a.z b.z) c.z⟩ : P3).x h.x, max (⟨max (max a.x b.x) c.x, max (max a.y b.y) c.y, max (max a.z b.z) c.z⟩ : P3).y h.y, max (⟨max (max a.x b.x) c.x, max (max a.y b.y) c.y, max (max a.z b.z) c.z⟩ : P3).z h.z⟩ : P3) _ _ _ hn rfl rfl m1 kj r.1 r.2 _ _ (cmp_le r1) (cmp_le r2) m2 y1 y2
    · have hk : hK o d a b c = false := by simpa using hk
      rw [hk] at m1
      exact none_ w o d a b c l h _ _ _ m1
  · have hb : bdB o d a b c = false := by simpa using hb
    obtain ⟨q1, q2, q3, q4, q5⟩ := h_out hb
    rw [q1, q2, q3, q4, q5] at m1
    exact far0 w o d a b c l h m1

theorem own : ownKnob Try.prog.godebug = none := by kernel_rfl
set_option maxRecDepth 100000 in
theorem lifted (os : Os) (started : os.Started) (H : Type) (enc : TypeId × Value → H) :
    ReturnsInHanded {} Try.checked os 4 .any (Rows.slabHoldsSpec.pre6 enc Try.prog Try.f4 Rows.slabHoldsRow.domain false) (Rows.slabHoldsSpec.post enc Try.prog Try.f4 false true false false) := by
  refine returnsInHanded_of_change (C := Try.checked) own started (by kernel_rfl) Try.func4
    (ChangeSpec.witness6 (enc := enc) (C := Try.checked) false ⟨#[], #[.agg #[.int .i64 0, .int .i64 0, .int .i64 0], .agg #[.int .i64 0, .int .i64 0, .int .i64 0], .agg #[.int .i64 0, .int .i64 0, .int .i64 0, .int .i64 0, .int .i64 0, .int .i64 0, .int .i64 0, .int .i64 0, .int .i64 0], .agg #[.int .i64 0, .int .i64 0, .int .i64 0, .int .i64 0, .int .i64 0, .int .i64 0]], []⟩ 12 (by kernel_rfl) (by kernel_rfl) (by kernel_rfl) (by kernel_rfl)) ?_
  intro W base args ds gs before hval0 hW hcnd _
  have hval : ∀ (j : Nat) t v, Try.f4.params[j]? = some t → args[j]? = some v → Value.okWide Try.prog W .any base t v := hval0
  have hW' := hW
  obtain ⟨p, q, hA0, hV, rfl, hfz, hnd⟩ := hW
  have hA : DataW.TrodAll enc Try.prog W 0 (fun _ => true) true Try.f4.params.toList args.toList ds p := hA0
  rw [Try.params4] at hA hval
  obtain ⟨v0, vs0, d0, ds0, p0, q0, hargs, rfl, rfl, h0, r0⟩ := trodAll_cons hA
  obtain ⟨v1, vs1, d1, ds1, p1, q1, rfl, rfl, rfl, h1, r1⟩ := trodAll_cons r0
  obtain ⟨v2, vs2, d2, ds2, p2, q2, rfl, rfl, rfl, h2, r2⟩ := trodAll_cons r1
  obtain ⟨v3, vs3, d3, ds3, p3, q3, rfl, rfl, rfl, h3, r3⟩ := trodAll_cons r2
  obtain ⟨rfl, rfl, rfl⟩ := trodAll_nil r3
  obtain rfl : args = #[v0, v1, v2, v3] := by cases args; simp_all
  obtain ⟨a0, rfl, k0⟩ := open_V3 (hval 0 23 v0 rfl rfl) h0
  obtain ⟨a1, rfl, k1⟩ := open_V3 (hval 1 23 v1 rfl rfl) h1
  obtain ⟨a2, b2, c2, rfl, k2⟩ := open_T3 (hval 2 34 v2 rfl rfl) h2
  obtain ⟨bl3, bh3, rfl, k3⟩ := open_B3 (hval 3 25 v3 rfl rfl) h3
  refine (walk W a0 k0 a1 k1 a2 b2 c2 k2 bl3 bh3 k3).mono fun e W' ⟨he, hb⟩ => ?_
  subst he
  exact ⟨_, rfl, law_post (tb := 4) (by kernel_rfl) (by kernel_rfl) rfl rfl Try.underlying4 rfl rfl rfl hW' hb⟩

theorem over : Rows.slabHoldsRow.holds Try.pinned (OpenSpec.ofChange Rows.slabHoldsSpec) :=
  OpenClaim.holds_of_wide 4 Try.f4 rfl rfl rfl rfl rfl rfl rfl ⟨rfl, rfl, rfl, rfl, rfl⟩ rfl rfl rfl rfl rfl (by kernel_rfl) Try.func4 (by kernel_rfl)
    (of_decide_eq_true (by kernel_rfl)) (by unfold Func.isWrapper; first | (rw [if_pos (by decide +kernel)]; kernel_rfl) | (rw [if_neg (by decide +kernel)]; exact ⟨rfl, rfl⟩))
    (fun os started H enc _ => lifted os started H enc)

theorem proved : Rows.SlabHoldsSaid :=
  over
#print axioms proved
end Go.Proofs.Ytngkimcnolmmoaa.slabHolds
