/- SlabMoved holds for every input: the row, out of the walk. No condition. -/
import Derived.Test.YtngkimcnolmmoaaRows
import Derived.Test.YtngkimcnolmmoaaSlab4
import Derived.Test.YtngkimcnolmmoaaMRegion
import Derived.Test.YtngkimcnolmmoaaMSideB
import Derived.Test.YtngkimcnolmmoaaPost
namespace Go.Proofs.Ytngkimcnolmmoaa.slabMoved
open Go.ChangeShapes Go.WideShapes Go.ChangeAt Go.RowKit
set_option linter.unusedVariables false
set_option linter.unusedSimpArgs false
set_option maxRecDepth 100000 in
set_option maxHeartbeats 4000000 in
theorem off0 (w : World) (o d l h v : P3) (w0 : Gives Try.prog 18 #[.agg #[.int .i64 v.x, .int .i64 v.y, .int .i64 v.z], .int .i64 1048576] (.bool false)) :
    Calls Try.prog 7 #[.agg #[.int .i64 o.x, .int .i64 o.y, .int .i64 o.z], .agg #[.int .i64 d.x, .int .i64 d.y, .int .i64 d.z], .agg #[.int .i64 l.x, .int .i64 l.y, .int .i64 l.z, .int .i64 h.x, .int .i64 h.y, .int .i64 h.z], .agg #[.int .i64 v.x, .int .i64 v.y, .int .i64 v.z]] w fun e w' => e = .returned (.bool true) ∧ Below w.heap.size w w' := by
  have al := alive4_any
  go_enter Try.func7, Try.ntmps7
  go_wp2_with (first | (go_at_call 10; first | ((with_reducible refine (al.at_ _).mono ?_); rintro e w' ⟨rfl, xa, rfl⟩)) | (go_at_call 18; first | ((with_reducible refine (w0.at_ _).mono ?_); rintro e w' ⟨rfl, xw0, rfl⟩)))
  all_goals
    go_ret
    exact ⟨rfl, (by repeat (first | with_reducible exact Below.refl _ _ | with_reducible refine bel_then ?_ _ | with_reducible refine bel_grow ?_ _ | with_reducible refine bel_alloc ?_ _ | with_reducible refine bel_drew ?_ | with_reducible refine bel_set ?_ (by simp) _ | with_reducible refine bel_setRow ?_ (by first | omega | (simp; done) | (refine Nat.le_trans ?_ (top_le _ _); simp; done) | (refine Nat.le_succ_of_le (Nat.le_trans ?_ (top_le _ _)); simp; done)) _))⟩
set_option maxRecDepth 100000 in
set_option maxHeartbeats 4000000 in
theorem off1 (w : World) (o d l h v : P3) (w0 : Gives Try.prog 18 #[.agg #[.int .i64 v.x, .int .i64 v.y, .int .i64 v.z], .int .i64 1048576] (.bool true)) (w1 : Gives Try.prog 18 #[.agg #[.int .i64 o.x, .int .i64 o.y, .int .i64 o.z], .int .i64 1048576] (.bool false)) :
    Calls Try.prog 7 #[.agg #[.int .i64 o.x, .int .i64 o.y, .int .i64 o.z], .agg #[.int .i64 d.x, .int .i64 d.y, .int .i64 d.z], .agg #[.int .i64 l.x, .int .i64 l.y, .int .i64 l.z, .int .i64 h.x, .int .i64 h.y, .int .i64 h.z], .agg #[.int .i64 v.x, .int .i64 v.y, .int .i64 v.z]] w fun e w' => e = .returned (.bool true) ∧ Below w.heap.size w w' := by
  have al := alive4_any
  go_enter Try.func7, Try.ntmps7
  go_wp2_with (first | (go_at_call 10; first | ((with_reducible refine (al.at_ _).mono ?_); rintro e w' ⟨rfl, xa, rfl⟩)) | (go_at_call 18; first | ((with_reducible refine (w0.at_ _).mono ?_); rintro e w' ⟨rfl, xw0, rfl⟩) | ((with_reducible refine (w1.at_ _).mono ?_); rintro e w' ⟨rfl, xw1, rfl⟩)))
  all_goals
    go_ret
    exact ⟨rfl, (by repeat (first | with_reducible exact Below.refl _ _ | with_reducible refine bel_then ?_ _ | with_reducible refine bel_grow ?_ _ | with_reducible refine bel_alloc ?_ _ | with_reducible refine bel_drew ?_ | with_reducible refine bel_set ?_ (by simp) _ | with_reducible refine bel_setRow ?_ (by first | omega | (simp; done) | (refine Nat.le_trans ?_ (top_le _ _); simp; done) | (refine Nat.le_succ_of_le (Nat.le_trans ?_ (top_le _ _)); simp; done)) _))⟩
set_option maxRecDepth 100000 in
set_option maxHeartbeats 4000000 in
theorem off2 (w : World) (o d l h v : P3) (w0 : Gives Try.prog 18 #[.agg #[.int .i64 v.x, .int .i64 v.y, .int .i64 v.z], .int .i64 1048576] (.bool true)) (w1 : Gives Try.prog 18 #[.agg #[.int .i64 o.x, .int .i64 o.y, .int .i64 o.z], .int .i64 1048576] (.bool true)) (w2 : Gives Try.prog 18 #[.agg #[.int .i64 l.x, .int .i64 l.y, .int .i64 l.z], .int .i64 1048576] (.bool false)) :
    Calls Try.prog 7 #[.agg #[.int .i64 o.x, .int .i64 o.y, .int .i64 o.z], .agg #[.int .i64 d.x, .int .i64 d.y, .int .i64 d.z], .agg #[.int .i64 l.x, .int .i64 l.y, .int .i64 l.z, .int .i64 h.x, .int .i64 h.y, .int .i64 h.z], .agg #[.int .i64 v.x, .int .i64 v.y, .int .i64 v.z]] w fun e w' => e = .returned (.bool true) ∧ Below w.heap.size w w' := by
  have al := alive4_any
  go_enter Try.func7, Try.ntmps7
  go_wp2_with (first | (go_at_call 10; first | ((with_reducible refine (al.at_ _).mono ?_); rintro e w' ⟨rfl, xa, rfl⟩)) | (go_at_call 18; first | ((with_reducible refine (w0.at_ _).mono ?_); rintro e w' ⟨rfl, xw0, rfl⟩) | ((with_reducible refine (w1.at_ _).mono ?_); rintro e w' ⟨rfl, xw1, rfl⟩) | ((with_reducible refine (w2.at_ _).mono ?_); rintro e w' ⟨rfl, xw2, rfl⟩)))
  all_goals
    go_ret
    exact ⟨rfl, (by repeat (first | with_reducible exact Below.refl _ _ | with_reducible refine bel_then ?_ _ | with_reducible refine bel_grow ?_ _ | with_reducible refine bel_alloc ?_ _ | with_reducible refine bel_drew ?_ | with_reducible refine bel_set ?_ (by simp) _ | with_reducible refine bel_setRow ?_ (by first | omega | (simp; done) | (refine Nat.le_trans ?_ (top_le _ _); simp; done) | (refine Nat.le_succ_of_le (Nat.le_trans ?_ (top_le _ _)); simp; done)) _))⟩
set_option maxRecDepth 100000 in
set_option maxHeartbeats 4000000 in
theorem off3 (w : World) (o d l h v : P3) (w0 : Gives Try.prog 18 #[.agg #[.int .i64 v.x, .int .i64 v.y, .int .i64 v.z], .int .i64 1048576] (.bool true)) (w1 : Gives Try.prog 18 #[.agg #[.int .i64 o.x, .int .i64 o.y, .int .i64 o.z], .int .i64 1048576] (.bool true)) (w2 : Gives Try.prog 18 #[.agg #[.int .i64 l.x, .int .i64 l.y, .int .i64 l.z], .int .i64 1048576] (.bool true)) (w3 : Gives Try.prog 18 #[.agg #[.int .i64 h.x, .int .i64 h.y, .int .i64 h.z], .int .i64 1048576] (.bool false)) :
    Calls Try.prog 7 #[.agg #[.int .i64 o.x, .int .i64 o.y, .int .i64 o.z], .agg #[.int .i64 d.x, .int .i64 d.y, .int .i64 d.z], .agg #[.int .i64 l.x, .int .i64 l.y, .int .i64 l.z, .int .i64 h.x, .int .i64 h.y, .int .i64 h.z], .agg #[.int .i64 v.x, .int .i64 v.y, .int .i64 v.z]] w fun e w' => e = .returned (.bool true) ∧ Below w.heap.size w w' := by
  have al := alive4_any
  go_enter Try.func7, Try.ntmps7
  go_wp2_with (first | (go_at_call 10; first | ((with_reducible refine (al.at_ _).mono ?_); rintro e w' ⟨rfl, xa, rfl⟩)) | (go_at_call 18; first | ((with_reducible refine (w0.at_ _).mono ?_); rintro e w' ⟨rfl, xw0, rfl⟩) | ((with_reducible refine (w1.at_ _).mono ?_); rintro e w' ⟨rfl, xw1, rfl⟩) | ((with_reducible refine (w2.at_ _).mono ?_); rintro e w' ⟨rfl, xw2, rfl⟩) | ((with_reducible refine (w3.at_ _).mono ?_); rintro e w' ⟨rfl, xw3, rfl⟩)))
  all_goals
    go_ret
    exact ⟨rfl, (by repeat (first | with_reducible exact Below.refl _ _ | with_reducible refine bel_then ?_ _ | with_reducible refine bel_grow ?_ _ | with_reducible refine bel_alloc ?_ _ | with_reducible refine bel_drew ?_ | with_reducible refine bel_set ?_ (by simp) _ | with_reducible refine bel_setRow ?_ (by first | omega | (simp; done) | (refine Nat.le_trans ?_ (top_le _ _); simp; done) | (refine Nat.le_succ_of_le (Nat.le_trans ?_ (top_le _ _)); simp; done)) _))⟩
set_option maxRecDepth 100000 in
set_option maxHeartbeats 4000000 in
theorem farA (w : World) (o d l h v o2 l2 h2 : P3) (a b : Fr) (x y : Fr) (is : Bool) (f : Int) (w0 : Gives Try.prog 18 #[.agg #[.int .i64 v.x, .int .i64 v.y, .int .i64 v.z], .int .i64 1048576] (.bool true)) (w1 : Gives Try.prog 18 #[.agg #[.int .i64 o.x, .int .i64 o.y, .int .i64 o.z], .int .i64 1048576] (.bool true)) (w2 : Gives Try.prog 18 #[.agg #[.int .i64 l.x, .int .i64 l.y, .int .i64 l.z], .int .i64 1048576] (.bool true)) (w3 : Gives Try.prog 18 #[.agg #[.int .i64 h.x, .int .i64 h.y, .int .i64 h.z], .int .i64 1048576] (.bool true)) (m1 : Gives Try.prog 11 #[.agg #[.int .i64 o.x, .int .i64 o.y, .int .i64 o.z], .agg #[.int .i64 d.x, .int .i64 d.y, .int .i64 d.z], .agg #[.int .i64 l.x, .int .i64 l.y, .int .i64 l.z, .int .i64 h.x, .int .i64 h.y, .int .i64 h.z]] (.tuple #[.agg #[.int .i64 a.n, .int .i64 a.d], .agg #[.int .i64 b.n, .int .i64 b.d], .bool false, .int .i64 21])) (ao : Gives Try.prog 19 #[.agg #[.int .i64 o.x, .int .i64 o.y, .int .i64 o.z], .agg #[.int .i64 v.x, .int .i64 v.y, .int .i64 v.z]] (.agg #[.int .i64 o2.x, .int .i64 o2.y, .int .i64 o2.z])) (al : Gives Try.prog 19 #[.agg #[.int .i64 l.x, .int .i64 l.y, .int .i64 l.z], .agg #[.int .i64 v.x, .int .i64 v.y, .int .i64 v.z]] (.agg #[.int .i64 l2.x, .int .i64 l2.y, .int .i64 l2.z])) (ah : Gives Try.prog 19 #[.agg #[.int .i64 h.x, .int .i64 h.y, .int .i64 h.z], .agg #[.int .i64 v.x, .int .i64 v.y, .int .i64 v.z]] (.agg #[.int .i64 h2.x, .int .i64 h2.y, .int .i64 h2.z])) (m2 : Gives Try.prog 11 #[.agg #[.int .i64 o2.x, .int .i64 o2.y, .int .i64 o2.z], .agg #[.int .i64 d.x, .int .i64 d.y, .int .i64 d.z], .agg #[.int .i64 l2.x, .int .i64 l2.y, .int .i64 l2.z, .int .i64 h2.x, .int .i64 h2.y, .int .i64 h2.z]] (.tuple #[.agg #[.int .i64 x.n, .int .i64 x.d], .agg #[.int .i64 y.n, .int .i64 y.d], .bool is, .int .i64 f])) :
    Calls Try.prog 7 #[.agg #[.int .i64 o.x, .int .i64 o.y, .int .i64 o.z], .agg #[.int .i64 d.x, .int .i64 d.y, .int .i64 d.z], .agg #[.int .i64 l.x, .int .i64 l.y, .int .i64 l.z, .int .i64 h.x, .int .i64 h.y, .int .i64 h.z], .agg #[.int .i64 v.x, .int .i64 v.y, .int .i64 v.z]] w fun e w' => e = .returned (.bool true) ∧ Below w.heap.size w w' := by
  have alv := alive4_any
  go_enter Try.func7, Try.ntmps7
  go_upto_region 6 with (first | (go_at_call 10; first | ((with_reducible refine (alv.at_ _).mono ?_); rintro e w' ⟨rfl, xa, rfl⟩)) | (go_at_call 18; first | ((with_reducible refine (w0.at_ _).mono ?_); rintro e w' ⟨rfl, xw0, rfl⟩) | ((with_reducible refine (w1.at_ _).mono ?_); rintro e w' ⟨rfl, xw1, rfl⟩) | ((with_reducible refine (w2.at_ _).mono ?_); rintro e w' ⟨rfl, xw2, rfl⟩) | ((with_reducible refine (w3.at_ _).mono ?_); rintro e w' ⟨rfl, xw3, rfl⟩)) | (go_at_call 11; first | ((with_reducible refine (m1.at_ _).mono ?_); rintro e w' ⟨rfl, xr, rfl⟩)))
  refine wp_region_two 19 ?_ 13 14 28 #[.int .i64 0, .int .i64 0] #[.int .i64 x.n, .int .i64 x.d] #[.int .i64 y.n, .int .i64 y.d] (by kernel_rfl) (by kernel_rfl) (by kernel_rfl) (by decide) (fun d hd => by cases hd; exact ⟨_, rfl, rfl, rfl, fun A u => alloc_frac A _ rfl u⟩) (fun d hd => by cases hd; exact ⟨_, rfl, rfl, rfl, fun A u => alloc_frac A _ rfl u⟩) (fun pp => ?_) (fun ga gb => ?_) (fun ga gb => ?_) (fun ga gb => ⟨?_, ?_, fun x => ?_, fun u hu => ?_⟩)
  rotate_left
  · simp only [List.take_succ_cons, List.take_zero]
    repeat (go_big_quiet_step (((first | with_reducible exact ao.quiet _ | with_reducible exact ao.quiet2 _ _ | with_reducible exact al.quiet _ | with_reducible exact al.quiet2 _ _ | with_reducible exact ah.quiet _ | with_reducible exact ah.quiet2 _ _ | with_reducible exact m2.quiet _ | with_reducible exact m2.quiet2 _ _))))
    refine wpQuiet_nil ?_
    exact rfl
  · exact ⟨_, rfl, storeS_row 28 _ _ _ _ rfl rfl rfl rfl rfl infoF rfl (by simp [Value.oneCell'])⟩
  · exact ⟨_, rfl, storeS_row 28 _ _ _ _ rfl rfl rfl rfl rfl infoF rfl (by simp [Value.oneCell'])⟩
  rotate_left
  · kernel_rfl
  · simp only [List.drop_succ_cons, List.drop_zero]
    try simp only [Act.put, List.setIfInBounds_toArray, List.set_cons_succ, List.set_cons_zero]
    repeat (go_big_quiet_step ((fail)))
    refine wpQuiet_nil ?_
    exact rfl
  obtain ⟨hbel, hne, ⟨hga, hba⟩, hgb, hbb⟩ := hu
  have q1 : Blk (((grow ((((w.alloc (.cells #[.int .i64 o.x, .int .i64 o.y, .int .i64 o.z] 23)).alloc (.cells #[.int .i64 d.x, .int .i64 d.y, .int .i64 d.z] 23)).alloc (.cells #[.int .i64 l.x, .int .i64 l.y, .int .i64 l.z, .int .i64 h.x, .int .i64 h.y, .int .i64 h.z] 25)).alloc (.cells #[.int .i64 v.x, .int .i64 v.y, .int .i64 v.z] 23)) (((((xa.then xw0).then xw1).then xw2).then xw3).then xr)).alloc (.cells #[.int .i64 a.n, .int .i64 a.d] 28)).alloc (.cells #[.int .i64 b.n, .int .i64 b.d] 28)) ((grow ((((w.alloc (.cells #[.int .i64 o.x, .int .i64 o.y, .int .i64 o.z] 23)).alloc (.cells #[.int .i64 d.x, .int .i64 d.y, .int .i64 d.z] 23)).alloc (.cells #[.int .i64 l.x, .int .i64 l.y, .int .i64 l.z, .int .i64 h.x, .int .i64 h.y, .int .i64 h.z] 25)).alloc (.cells #[.int .i64 v.x, .int .i64 v.y, .int .i64 v.z] 23)) (((((xa.then xw0).then xw1).then xw2).then xw3).then xr)).heap.size) 28 #[.int .i64 a.n, .int .i64 a.d] := (Blk.new _ _ _ _ rfl).alloc _
  have q2 : Blk (((grow ((((w.alloc (.cells #[.int .i64 o.x, .int .i64 o.y, .int .i64 o.z] 23)).alloc (.cells #[.int .i64 d.x, .int .i64 d.y, .int .i64 d.z] 23)).alloc (.cells #[.int .i64 l.x, .int .i64 l.y, .int .i64 l.z, .int .i64 h.x, .int .i64 h.y, .int .i64 h.z] 25)).alloc (.cells #[.int .i64 v.x, .int .i64 v.y, .int .i64 v.z] 23)) (((((xa.then xw0).then xw1).then xw2).then xw3).then xr)).alloc (.cells #[.int .i64 a.n, .int .i64 a.d] 28)).alloc (.cells #[.int .i64 b.n, .int .i64 b.d] 28)) ((grow ((((w.alloc (.cells #[.int .i64 o.x, .int .i64 o.y, .int .i64 o.z] 23)).alloc (.cells #[.int .i64 d.x, .int .i64 d.y, .int .i64 d.z] 23)).alloc (.cells #[.int .i64 l.x, .int .i64 l.y, .int .i64 l.z, .int .i64 h.x, .int .i64 h.y, .int .i64 h.z] 25)).alloc (.cells #[.int .i64 v.x, .int .i64 v.y, .int .i64 v.z] 23)) (((((xa.then xw0).then xw1).then xw2).then xw3).then xr)).heap.size + 1) 28 #[.int .i64 b.n, .int .i64 b.d] := Blk.new _ _ _ _ (by simp)
  have C1 := q1.below hbel
  have C2 := q2.below hbel
  have CB : Below w.heap.size w u := bel_trans (a := w) (w := (((grow ((((w.alloc (.cells #[.int .i64 o.x, .int .i64 o.y, .int .i64 o.z] 23)).alloc (.cells #[.int .i64 d.x, .int .i64 d.y, .int .i64 d.z] 23)).alloc (.cells #[.int .i64 l.x, .int .i64 l.y, .int .i64 l.z, .int .i64 h.x, .int .i64 h.y, .int .i64 h.z] 25)).alloc (.cells #[.int .i64 v.x, .int .i64 v.y, .int .i64 v.z] 23)) (((((xa.then xw0).then xw1).then xw2).then xw3).then xr)).alloc (.cells #[.int .i64 a.n, .int .i64 a.d] 28)).alloc (.cells #[.int .i64 b.n, .int .i64 b.d] 28))) (by repeat (first | with_reducible exact Below.refl _ _ | with_reducible refine bel_then ?_ _ | with_reducible refine bel_grow ?_ _ | with_reducible refine bel_alloc ?_ _ | with_reducible refine bel_drew ?_ | with_reducible refine bel_set ?_ (by simp) _ | with_reducible refine bel_setRow ?_ (by first | omega | (simp; done) | (refine Nat.le_trans ?_ (top_le _ _); simp; done) | (refine Nat.le_succ_of_le (Nat.le_trans ?_ (top_le _ _)); simp; done)) _)) hbel
  have m1_ : (grow ((((w.alloc (.cells #[.int .i64 o.x, .int .i64 o.y, .int .i64 o.z] 23)).alloc (.cells #[.int .i64 d.x, .int .i64 d.y, .int .i64 d.z] 23)).alloc (.cells #[.int .i64 l.x, .int .i64 l.y, .int .i64 l.z, .int .i64 h.x, .int .i64 h.y, .int .i64 h.z] 25)).alloc (.cells #[.int .i64 v.x, .int .i64 v.y, .int .i64 v.z] 23)) (((((xa.then xw0).then xw1).then xw2).then xw3).then xr)).heap.size ≠ ga := Nat.ne_of_lt (Nat.lt_of_lt_of_le q1.lt hga)
  have m2_ : (grow ((((w.alloc (.cells #[.int .i64 o.x, .int .i64 o.y, .int .i64 o.z] 23)).alloc (.cells #[.int .i64 d.x, .int .i64 d.y, .int .i64 d.z] 23)).alloc (.cells #[.int .i64 l.x, .int .i64 l.y, .int .i64 l.z, .int .i64 h.x, .int .i64 h.y, .int .i64 h.z] 25)).alloc (.cells #[.int .i64 v.x, .int .i64 v.y, .int .i64 v.z] 23)) (((((xa.then xw0).then xw1).then xw2).then xw3).then xr)).heap.size ≠ gb := Nat.ne_of_lt (Nat.lt_of_lt_of_le q1.lt hgb)
  have m3_ : (grow ((((w.alloc (.cells #[.int .i64 o.x, .int .i64 o.y, .int .i64 o.z] 23)).alloc (.cells #[.int .i64 d.x, .int .i64 d.y, .int .i64 d.z] 23)).alloc (.cells #[.int .i64 l.x, .int .i64 l.y, .int .i64 l.z, .int .i64 h.x, .int .i64 h.y, .int .i64 h.z] 25)).alloc (.cells #[.int .i64 v.x, .int .i64 v.y, .int .i64 v.z] 23)) (((((xa.then xw0).then xw1).then xw2).then xw3).then xr)).heap.size + 1 ≠ ga := Nat.ne_of_lt (Nat.lt_of_lt_of_le q2.lt hga)
  have m4_ : (grow ((((w.alloc (.cells #[.int .i64 o.x, .int .i64 o.y, .int .i64 o.z] 23)).alloc (.cells #[.int .i64 d.x, .int .i64 d.y, .int .i64 d.z] 23)).alloc (.cells #[.int .i64 l.x, .int .i64 l.y, .int .i64 l.z, .int .i64 h.x, .int .i64 h.y, .int .i64 h.z] 25)).alloc (.cells #[.int .i64 v.x, .int .i64 v.y, .int .i64 v.z] 23)) (((((xa.then xw0).then xw1).then xw2).then xw3).then xr)).heap.size + 1 ≠ gb := Nat.ne_of_lt (Nat.lt_of_lt_of_le q2.lt hgb)
  clear q1 q2 hbel hga hgb
  simp only [ptr]
  generalize (grow ((((w.alloc (.cells #[.int .i64 o.x, .int .i64 o.y, .int .i64 o.z] 23)).alloc (.cells #[.int .i64 d.x, .int .i64 d.y, .int .i64 d.z] 23)).alloc (.cells #[.int .i64 l.x, .int .i64 l.y, .int .i64 l.z, .int .i64 h.x, .int .i64 h.y, .int .i64 h.z] 25)).alloc (.cells #[.int .i64 v.x, .int .i64 v.y, .int .i64 v.z] 23)) (((((xa.then xw0).then xw1).then xw2).then xw3).then xr)).heap.size + 1 = g2 at *
  generalize (grow ((((w.alloc (.cells #[.int .i64 o.x, .int .i64 o.y, .int .i64 o.z] 23)).alloc (.cells #[.int .i64 d.x, .int .i64 d.y, .int .i64 d.z] 23)).alloc (.cells #[.int .i64 l.x, .int .i64 l.y, .int .i64 l.z, .int .i64 h.x, .int .i64 h.y, .int .i64 h.z] 25)).alloc (.cells #[.int .i64 v.x, .int .i64 v.y, .int .i64 v.z] 23)) (((((xa.then xw0).then xw1).then xw2).then xw3).then xr)).heap.size = g1 at *
  have l1 := C1.lt
  have c10 := C1.cell 0
  have c11 := C1.cell 1
  have l2 := C2.lt
  have c20 := C2.cell 0
  have c21 := C2.cell 1
  have l3 := hba.lt
  have c30 := hba.cell 0
  have c31 := hba.cell 1
  have l4 := hbb.lt
  have c40 := hbb.cell 0
  have c41 := hbb.cell 1
  simp at c10 c11 c20 c21 c30 c31 c40 c41
  clear C1 C2 hba hbb
  go_wp2_with fail
  all_goals
    go_ret
    exact ⟨rfl, (by repeat (first | with_reducible exact CB | with_reducible refine bel_then ?_ _ | with_reducible refine bel_grow ?_ _ | with_reducible refine bel_alloc ?_ _ | with_reducible refine bel_drew ?_ | with_reducible refine bel_set ?_ (by simp) _ | with_reducible refine bel_setRow ?_ (by first | omega | (simp; done) | (refine Nat.le_trans ?_ (top_le _ _); simp; done) | (refine Nat.le_succ_of_le (Nat.le_trans ?_ (top_le _ _)); simp; done)) _))⟩
set_option maxRecDepth 100000 in
set_option maxHeartbeats 4000000 in
theorem farB (w : World) (o d l h v o2 l2 h2 : P3) (a b : Fr) (x y : Fr) (ok is : Bool) (w0 : Gives Try.prog 18 #[.agg #[.int .i64 v.x, .int .i64 v.y, .int .i64 v.z], .int .i64 1048576] (.bool true)) (w1 : Gives Try.prog 18 #[.agg #[.int .i64 o.x, .int .i64 o.y, .int .i64 o.z], .int .i64 1048576] (.bool true)) (w2 : Gives Try.prog 18 #[.agg #[.int .i64 l.x, .int .i64 l.y, .int .i64 l.z], .int .i64 1048576] (.bool true)) (w3 : Gives Try.prog 18 #[.agg #[.int .i64 h.x, .int .i64 h.y, .int .i64 h.z], .int .i64 1048576] (.bool true)) (m1 : Gives Try.prog 11 #[.agg #[.int .i64 o.x, .int .i64 o.y, .int .i64 o.z], .agg #[.int .i64 d.x, .int .i64 d.y, .int .i64 d.z], .agg #[.int .i64 l.x, .int .i64 l.y, .int .i64 l.z, .int .i64 h.x, .int .i64 h.y, .int .i64 h.z]] (.tuple #[.agg #[.int .i64 a.n, .int .i64 a.d], .agg #[.int .i64 b.n, .int .i64 b.d], .bool ok, .int .i64 0])) (ao : Gives Try.prog 19 #[.agg #[.int .i64 o.x, .int .i64 o.y, .int .i64 o.z], .agg #[.int .i64 v.x, .int .i64 v.y, .int .i64 v.z]] (.agg #[.int .i64 o2.x, .int .i64 o2.y, .int .i64 o2.z])) (al : Gives Try.prog 19 #[.agg #[.int .i64 l.x, .int .i64 l.y, .int .i64 l.z], .agg #[.int .i64 v.x, .int .i64 v.y, .int .i64 v.z]] (.agg #[.int .i64 l2.x, .int .i64 l2.y, .int .i64 l2.z])) (ah : Gives Try.prog 19 #[.agg #[.int .i64 h.x, .int .i64 h.y, .int .i64 h.z], .agg #[.int .i64 v.x, .int .i64 v.y, .int .i64 v.z]] (.agg #[.int .i64 h2.x, .int .i64 h2.y, .int .i64 h2.z])) (m2 : Gives Try.prog 11 #[.agg #[.int .i64 o2.x, .int .i64 o2.y, .int .i64 o2.z], .agg #[.int .i64 d.x, .int .i64 d.y, .int .i64 d.z], .agg #[.int .i64 l2.x, .int .i64 l2.y, .int .i64 l2.z, .int .i64 h2.x, .int .i64 h2.y, .int .i64 h2.z]] (.tuple #[.agg #[.int .i64 x.n, .int .i64 x.d], .agg #[.int .i64 y.n, .int .i64 y.d], .bool is, .int .i64 21])) :
    Calls Try.prog 7 #[.agg #[.int .i64 o.x, .int .i64 o.y, .int .i64 o.z], .agg #[.int .i64 d.x, .int .i64 d.y, .int .i64 d.z], .agg #[.int .i64 l.x, .int .i64 l.y, .int .i64 l.z, .int .i64 h.x, .int .i64 h.y, .int .i64 h.z], .agg #[.int .i64 v.x, .int .i64 v.y, .int .i64 v.z]] w fun e w' => e = .returned (.bool true) ∧ Below w.heap.size w w' := by
  have alv := alive4_any
  go_enter Try.func7, Try.ntmps7
  go_upto_region 6 with (first | (go_at_call 10; first | ((with_reducible refine (alv.at_ _).mono ?_); rintro e w' ⟨rfl, xa, rfl⟩)) | (go_at_call 18; first | ((with_reducible refine (w0.at_ _).mono ?_); rintro e w' ⟨rfl, xw0, rfl⟩) | ((with_reducible refine (w1.at_ _).mono ?_); rintro e w' ⟨rfl, xw1, rfl⟩) | ((with_reducible refine (w2.at_ _).mono ?_); rintro e w' ⟨rfl, xw2, rfl⟩) | ((with_reducible refine (w3.at_ _).mono ?_); rintro e w' ⟨rfl, xw3, rfl⟩)) | (go_at_call 11; first | ((with_reducible refine (m1.at_ _).mono ?_); rintro e w' ⟨rfl, xr, rfl⟩)))
  refine wp_region_two 19 ?_ 13 14 28 #[.int .i64 0, .int .i64 0] #[.int .i64 x.n, .int .i64 x.d] #[.int .i64 y.n, .int .i64 y.d] (by kernel_rfl) (by kernel_rfl) (by kernel_rfl) (by decide) (fun d hd => by cases hd; exact ⟨_, rfl, rfl, rfl, fun A u => alloc_frac A _ rfl u⟩) (fun d hd => by cases hd; exact ⟨_, rfl, rfl, rfl, fun A u => alloc_frac A _ rfl u⟩) (fun pp => ?_) (fun ga gb => ?_) (fun ga gb => ?_) (fun ga gb => ⟨?_, ?_, fun x => ?_, fun u hu => ?_⟩)
  rotate_left
  · simp only [List.take_succ_cons, List.take_zero]
    repeat (go_big_quiet_step (((first | with_reducible exact ao.quiet _ | with_reducible exact ao.quiet2 _ _ | with_reducible exact al.quiet _ | with_reducible exact al.quiet2 _ _ | with_reducible exact ah.quiet _ | with_reducible exact ah.quiet2 _ _ | with_reducible exact m2.quiet _ | with_reducible exact m2.quiet2 _ _))))
    refine wpQuiet_nil ?_
    exact rfl
  · exact ⟨_, rfl, storeS_row 28 _ _ _ _ rfl rfl rfl rfl rfl infoF rfl (by simp [Value.oneCell'])⟩
  · exact ⟨_, rfl, storeS_row 28 _ _ _ _ rfl rfl rfl rfl rfl infoF rfl (by simp [Value.oneCell'])⟩
  rotate_left
  · kernel_rfl
  · simp only [List.drop_succ_cons, List.drop_zero]
    try simp only [Act.put, List.setIfInBounds_toArray, List.set_cons_succ, List.set_cons_zero]
    repeat (go_big_quiet_step ((fail)))
    refine wpQuiet_nil ?_
    exact rfl
  obtain ⟨hbel, hne, ⟨hga, hba⟩, hgb, hbb⟩ := hu
  have q1 : Blk (((grow ((((w.alloc (.cells #[.int .i64 o.x, .int .i64 o.y, .int .i64 o.z] 23)).alloc (.cells #[.int .i64 d.x, .int .i64 d.y, .int .i64 d.z] 23)).alloc (.cells #[.int .i64 l.x, .int .i64 l.y, .int .i64 l.z, .int .i64 h.x, .int .i64 h.y, .int .i64 h.z] 25)).alloc (.cells #[.int .i64 v.x, .int .i64 v.y, .int .i64 v.z] 23)) (((((xa.then xw0).then xw1).then xw2).then xw3).then xr)).alloc (.cells #[.int .i64 a.n, .int .i64 a.d] 28)).alloc (.cells #[.int .i64 b.n, .int .i64 b.d] 28)) ((grow ((((w.alloc (.cells #[.int .i64 o.x, .int .i64 o.y, .int .i64 o.z] 23)).alloc (.cells #[.int .i64 d.x, .int .i64 d.y, .int .i64 d.z] 23)).alloc (.cells #[.int .i64 l.x, .int .i64 l.y, .int .i64 l.z, .int .i64 h.x, .int .i64 h.y, .int .i64 h.z] 25)).alloc (.cells #[.int .i64 v.x, .int .i64 v.y, .int .i64 v.z] 23)) (((((xa.then xw0).then xw1).then xw2).then xw3).then xr)).heap.size) 28 #[.int .i64 a.n, .int .i64 a.d] := (Blk.new _ _ _ _ rfl).alloc _
  have q2 : Blk (((grow ((((w.alloc (.cells #[.int .i64 o.x, .int .i64 o.y, .int .i64 o.z] 23)).alloc (.cells #[.int .i64 d.x, .int .i64 d.y, .int .i64 d.z] 23)).alloc (.cells #[.int .i64 l.x, .int .i64 l.y, .int .i64 l.z, .int .i64 h.x, .int .i64 h.y, .int .i64 h.z] 25)).alloc (.cells #[.int .i64 v.x, .int .i64 v.y, .int .i64 v.z] 23)) (((((xa.then xw0).then xw1).then xw2).then xw3).then xr)).alloc (.cells #[.int .i64 a.n, .int .i64 a.d] 28)).alloc (.cells #[.int .i64 b.n, .int .i64 b.d] 28)) ((grow ((((w.alloc (.cells #[.int .i64 o.x, .int .i64 o.y, .int .i64 o.z] 23)).alloc (.cells #[.int .i64 d.x, .int .i64 d.y, .int .i64 d.z] 23)).alloc (.cells #[.int .i64 l.x, .int .i64 l.y, .int .i64 l.z, .int .i64 h.x, .int .i64 h.y, .int .i64 h.z] 25)).alloc (.cells #[.int .i64 v.x, .int .i64 v.y, .int .i64 v.z] 23)) (((((xa.then xw0).then xw1).then xw2).then xw3).then xr)).heap.size + 1) 28 #[.int .i64 b.n, .int .i64 b.d] := Blk.new _ _ _ _ (by simp)
  have C1 := q1.below hbel
  have C2 := q2.below hbel
  have CB : Below w.heap.size w u := bel_trans (a := w) (w := (((grow ((((w.alloc (.cells #[.int .i64 o.x, .int .i64 o.y, .int .i64 o.z] 23)).alloc (.cells #[.int .i64 d.x, .int .i64 d.y, .int .i64 d.z] 23)).alloc (.cells #[.int .i64 l.x, .int .i64 l.y, .int .i64 l.z, .int .i64 h.x, .int .i64 h.y, .int .i64 h.z] 25)).alloc (.cells #[.int .i64 v.x, .int .i64 v.y, .int .i64 v.z] 23)) (((((xa.then xw0).then xw1).then xw2).then xw3).then xr)).alloc (.cells #[.int .i64 a.n, .int .i64 a.d] 28)).alloc (.cells #[.int .i64 b.n, .int .i64 b.d] 28))) (by repeat (first | with_reducible exact Below.refl _ _ | with_reducible refine bel_then ?_ _ | with_reducible refine bel_grow ?_ _ | with_reducible refine bel_alloc ?_ _ | with_reducible refine bel_drew ?_ | with_reducible refine bel_set ?_ (by simp) _ | with_reducible refine bel_setRow ?_ (by first | omega | (simp; done) | (refine Nat.le_trans ?_ (top_le _ _); simp; done) | (refine Nat.le_succ_of_le (Nat.le_trans ?_ (top_le _ _)); simp; done)) _)) hbel
  have m1_ : (grow ((((w.alloc (.cells #[.int .i64 o.x, .int .i64 o.y, .int .i64 o.z] 23)).alloc (.cells #[.int .i64 d.x, .int .i64 d.y, .int .i64 d.z] 23)).alloc (.cells #[.int .i64 l.x, .int .i64 l.y, .int .i64 l.z, .int .i64 h.x, .int .i64 h.y, .int .i64 h.z] 25)).alloc (.cells #[.int .i64 v.x, .int .i64 v.y, .int .i64 v.z] 23)) (((((xa.then xw0).then xw1).then xw2).then xw3).then xr)).heap.size ≠ ga := Nat.ne_of_lt (Nat.lt_of_lt_of_le q1.lt hga)
  have m2_ : (grow ((((w.alloc (.cells #[.int .i64 o.x, .int .i64 o.y, .int .i64 o.z] 23)).alloc (.cells #[.int .i64 d.x, .int .i64 d.y, .int .i64 d.z] 23)).alloc (.cells #[.int .i64 l.x, .int .i64 l.y, .int .i64 l.z, .int .i64 h.x, .int .i64 h.y, .int .i64 h.z] 25)).alloc (.cells #[.int .i64 v.x, .int .i64 v.y, .int .i64 v.z] 23)) (((((xa.then xw0).then xw1).then xw2).then xw3).then xr)).heap.size ≠ gb := Nat.ne_of_lt (Nat.lt_of_lt_of_le q1.lt hgb)
  have m3_ : (grow ((((w.alloc (.cells #[.int .i64 o.x, .int .i64 o.y, .int .i64 o.z] 23)).alloc (.cells #[.int .i64 d.x, .int .i64 d.y, .int .i64 d.z] 23)).alloc (.cells #[.int .i64 l.x, .int .i64 l.y, .int .i64 l.z, .int .i64 h.x, .int .i64 h.y, .int .i64 h.z] 25)).alloc (.cells #[.int .i64 v.x, .int .i64 v.y, .int .i64 v.z] 23)) (((((xa.then xw0).then xw1).then xw2).then xw3).then xr)).heap.size + 1 ≠ ga := Nat.ne_of_lt (Nat.lt_of_lt_of_le q2.lt hga)
  have m4_ : (grow ((((w.alloc (.cells #[.int .i64 o.x, .int .i64 o.y, .int .i64 o.z] 23)).alloc (.cells #[.int .i64 d.x, .int .i64 d.y, .int .i64 d.z] 23)).alloc (.cells #[.int .i64 l.x, .int .i64 l.y, .int .i64 l.z, .int .i64 h.x, .int .i64 h.y, .int .i64 h.z] 25)).alloc (.cells #[.int .i64 v.x, .int .i64 v.y, .int .i64 v.z] 23)) (((((xa.then xw0).then xw1).then xw2).then xw3).then xr)).heap.size + 1 ≠ gb := Nat.ne_of_lt (Nat.lt_of_lt_of_le q2.lt hgb)
  clear q1 q2 hbel hga hgb
  simp only [ptr]
  generalize (grow ((((w.alloc (.cells #[.int .i64 o.x, .int .i64 o.y, .int .i64 o.z] 23)).alloc (.cells #[.int .i64 d.x, .int .i64 d.y, .int .i64 d.z] 23)).alloc (.cells #[.int .i64 l.x, .int .i64 l.y, .int .i64 l.z, .int .i64 h.x, .int .i64 h.y, .int .i64 h.z] 25)).alloc (.cells #[.int .i64 v.x, .int .i64 v.y, .int .i64 v.z] 23)) (((((xa.then xw0).then xw1).then xw2).then xw3).then xr)).heap.size + 1 = g2 at *
  generalize (grow ((((w.alloc (.cells #[.int .i64 o.x, .int .i64 o.y, .int .i64 o.z] 23)).alloc (.cells #[.int .i64 d.x, .int .i64 d.y, .int .i64 d.z] 23)).alloc (.cells #[.int .i64 l.x, .int .i64 l.y, .int .i64 l.z, .int .i64 h.x, .int .i64 h.y, .int .i64 h.z] 25)).alloc (.cells #[.int .i64 v.x, .int .i64 v.y, .int .i64 v.z] 23)) (((((xa.then xw0).then xw1).then xw2).then xw3).then xr)).heap.size = g1 at *
  have l1 := C1.lt
  have c10 := C1.cell 0
  have c11 := C1.cell 1
  have l2 := C2.lt
  have c20 := C2.cell 0
  have c21 := C2.cell 1
  have l3 := hba.lt
  have c30 := hba.cell 0
  have c31 := hba.cell 1
  have l4 := hbb.lt
  have c40 := hbb.cell 0
  have c41 := hbb.cell 1
  simp at c10 c11 c20 c21 c30 c31 c40 c41
  clear C1 C2 hba hbb
  go_wp2_with fail
  all_goals
    go_ret
    exact ⟨rfl, (by repeat (first | with_reducible exact CB | with_reducible refine bel_then ?_ _ | with_reducible refine bel_grow ?_ _ | with_reducible refine bel_alloc ?_ _ | with_reducible refine bel_drew ?_ | with_reducible refine bel_set ?_ (by simp) _ | with_reducible refine bel_setRow ?_ (by first | omega | (simp; done) | (refine Nat.le_trans ?_ (top_le _ _); simp; done) | (refine Nat.le_succ_of_le (Nat.le_trans ?_ (top_le _ _)); simp; done)) _))⟩
set_option maxRecDepth 100000 in
set_option maxHeartbeats 4000000 in
theorem same (w : World) (o d l h v o2 l2 h2 : P3) (a b : Fr) (ok : Bool) (w0 : Gives Try.prog 18 #[.agg #[.int .i64 v.x, .int .i64 v.y, .int .i64 v.z], .int .i64 1048576] (.bool true)) (w1 : Gives Try.prog 18 #[.agg #[.int .i64 o.x, .int .i64 o.y, .int .i64 o.z], .int .i64 1048576] (.bool true)) (w2 : Gives Try.prog 18 #[.agg #[.int .i64 l.x, .int .i64 l.y, .int .i64 l.z], .int .i64 1048576] (.bool true)) (w3 : Gives Try.prog 18 #[.agg #[.int .i64 h.x, .int .i64 h.y, .int .i64 h.z], .int .i64 1048576] (.bool true)) (m1 : Gives Try.prog 11 #[.agg #[.int .i64 o.x, .int .i64 o.y, .int .i64 o.z], .agg #[.int .i64 d.x, .int .i64 d.y, .int .i64 d.z], .agg #[.int .i64 l.x, .int .i64 l.y, .int .i64 l.z, .int .i64 h.x, .int .i64 h.y, .int .i64 h.z]] (.tuple #[.agg #[.int .i64 a.n, .int .i64 a.d], .agg #[.int .i64 b.n, .int .i64 b.d], .bool ok, .int .i64 0])) (ao : Gives Try.prog 19 #[.agg #[.int .i64 o.x, .int .i64 o.y, .int .i64 o.z], .agg #[.int .i64 v.x, .int .i64 v.y, .int .i64 v.z]] (.agg #[.int .i64 o2.x, .int .i64 o2.y, .int .i64 o2.z])) (al : Gives Try.prog 19 #[.agg #[.int .i64 l.x, .int .i64 l.y, .int .i64 l.z], .agg #[.int .i64 v.x, .int .i64 v.y, .int .i64 v.z]] (.agg #[.int .i64 l2.x, .int .i64 l2.y, .int .i64 l2.z])) (ah : Gives Try.prog 19 #[.agg #[.int .i64 h.x, .int .i64 h.y, .int .i64 h.z], .agg #[.int .i64 v.x, .int .i64 v.y, .int .i64 v.z]] (.agg #[.int .i64 h2.x, .int .i64 h2.y, .int .i64 h2.z])) (m2 : Gives Try.prog 11 #[.agg #[.int .i64 o2.x, .int .i64 o2.y, .int .i64 o2.z], .agg #[.int .i64 d.x, .int .i64 d.y, .int .i64 d.z], .agg #[.int .i64 l2.x, .int .i64 l2.y, .int .i64 l2.z, .int .i64 h2.x, .int .i64 h2.y, .int .i64 h2.z]] (.tuple #[.agg #[.int .i64 a.n, .int .i64 a.d], .agg #[.int .i64 b.n, .int .i64 b.d], .bool ok, .int .i64 0])) :
    Calls Try.prog 7 #[.agg #[.int .i64 o.x, .int .i64 o.y, .int .i64 o.z], .agg #[.int .i64 d.x, .int .i64 d.y, .int .i64 d.z], .agg #[.int .i64 l.x, .int .i64 l.y, .int .i64 l.z, .int .i64 h.x, .int .i64 h.y, .int .i64 h.z], .agg #[.int .i64 v.x, .int .i64 v.y, .int .i64 v.z]] w fun e w' => e = .returned (.bool true) ∧ Below w.heap.size w w' := by
  have alv := alive4_any
  go_enter Try.func7, Try.ntmps7
  go_upto_region 6 with (first | (go_at_call 10; first | ((with_reducible refine (alv.at_ _).mono ?_); rintro e w' ⟨rfl, xa, rfl⟩)) | (go_at_call 18; first | ((with_reducible refine (w0.at_ _).mono ?_); rintro e w' ⟨rfl, xw0, rfl⟩) | ((with_reducible refine (w1.at_ _).mono ?_); rintro e w' ⟨rfl, xw1, rfl⟩) | ((with_reducible refine (w2.at_ _).mono ?_); rintro e w' ⟨rfl, xw2, rfl⟩) | ((with_reducible refine (w3.at_ _).mono ?_); rintro e w' ⟨rfl, xw3, rfl⟩)) | (go_at_call 11; first | ((with_reducible refine (m1.at_ _).mono ?_); rintro e w' ⟨rfl, xr, rfl⟩)))
  refine wp_region_two 19 ?_ 13 14 28 #[.int .i64 0, .int .i64 0] #[.int .i64 a.n, .int .i64 a.d] #[.int .i64 b.n, .int .i64 b.d] (by kernel_rfl) (by kernel_rfl) (by kernel_rfl) (by decide) (fun d hd => by cases hd; exact ⟨_, rfl, rfl, rfl, fun A u => alloc_frac A _ rfl u⟩) (fun d hd => by cases hd; exact ⟨_, rfl, rfl, rfl, fun A u => alloc_frac A _ rfl u⟩) (fun pp => ?_) (fun ga gb => ?_) (fun ga gb => ?_) (fun ga gb => ⟨?_, ?_, fun x => ?_, fun u hu => ?_⟩)
  rotate_left
  · simp only [List.take_succ_cons, List.take_zero]
    repeat (go_big_quiet_step (((first | with_reducible exact ao.quiet _ | with_reducible exact ao.quiet2 _ _ | with_reducible exact al.quiet _ | with_reducible exact al.quiet2 _ _ | with_reducible exact ah.quiet _ | with_reducible exact ah.quiet2 _ _ | with_reducible exact m2.quiet _ | with_reducible exact m2.quiet2 _ _))))
    refine wpQuiet_nil ?_
    exact rfl
  · exact ⟨_, rfl, storeS_row 28 _ _ _ _ rfl rfl rfl rfl rfl infoF rfl (by simp [Value.oneCell'])⟩
  · exact ⟨_, rfl, storeS_row 28 _ _ _ _ rfl rfl rfl rfl rfl infoF rfl (by simp [Value.oneCell'])⟩
  rotate_left
  · kernel_rfl
  · simp only [List.drop_succ_cons, List.drop_zero]
    try simp only [Act.put, List.setIfInBounds_toArray, List.set_cons_succ, List.set_cons_zero]
    repeat (go_big_quiet_step ((fail)))
    refine wpQuiet_nil ?_
    exact rfl
  obtain ⟨hbel, hne, ⟨hga, hba⟩, hgb, hbb⟩ := hu
  have q1 : Blk (((grow ((((w.alloc (.cells #[.int .i64 o.x, .int .i64 o.y, .int .i64 o.z] 23)).alloc (.cells #[.int .i64 d.x, .int .i64 d.y, .int .i64 d.z] 23)).alloc (.cells #[.int .i64 l.x, .int .i64 l.y, .int .i64 l.z, .int .i64 h.x, .int .i64 h.y, .int .i64 h.z] 25)).alloc (.cells #[.int .i64 v.x, .int .i64 v.y, .int .i64 v.z] 23)) (((((xa.then xw0).then xw1).then xw2).then xw3).then xr)).alloc (.cells #[.int .i64 a.n, .int .i64 a.d] 28)).alloc (.cells #[.int .i64 b.n, .int .i64 b.d] 28)) ((grow ((((w.alloc (.cells #[.int .i64 o.x, .int .i64 o.y, .int .i64 o.z] 23)).alloc (.cells #[.int .i64 d.x, .int .i64 d.y, .int .i64 d.z] 23)).alloc (.cells #[.int .i64 l.x, .int .i64 l.y, .int .i64 l.z, .int .i64 h.x, .int .i64 h.y, .int .i64 h.z] 25)).alloc (.cells #[.int .i64 v.x, .int .i64 v.y, .int .i64 v.z] 23)) (((((xa.then xw0).then xw1).then xw2).then xw3).then xr)).heap.size) 28 #[.int .i64 a.n, .int .i64 a.d] := (Blk.new _ _ _ _ rfl).alloc _
  have q2 : Blk (((grow ((((w.alloc (.cells #[.int .i64 o.x, .int .i64 o.y, .int .i64 o.z] 23)).alloc (.cells #[.int .i64 d.x, .int .i64 d.y, .int .i64 d.z] 23)).alloc (.cells #[.int .i64 l.x, .int .i64 l.y, .int .i64 l.z, .int .i64 h.x, .int .i64 h.y, .int .i64 h.z] 25)).alloc (.cells #[.int .i64 v.x, .int .i64 v.y, .int .i64 v.z] 23)) (((((xa.then xw0).then xw1).then xw2).then xw3).then xr)).alloc (.cells #[.int .i64 a.n, .int .i64 a.d] 28)).alloc (.cells #[.int .i64 b.n, .int .i64 b.d] 28)) ((grow ((((w.alloc (.cells #[.int .i64 o.x, .int .i64 o.y, .int .i64 o.z] 23)).alloc (.cells #[.int .i64 d.x, .int .i64 d.y, .int .i64 d.z] 23)).alloc (.cells #[.int .i64 l.x, .int .i64 l.y, .int .i64 l.z, .int .i64 h.x, .int .i64 h.y, .int .i64 h.z] 25)).alloc (.cells #[.int .i64 v.x, .int .i64 v.y, .int .i64 v.z] 23)) (((((xa.then xw0).then xw1).then xw2).then xw3).then xr)).heap.size + 1) 28 #[.int .i64 b.n, .int .i64 b.d] := Blk.new _ _ _ _ (by simp)
  have C1 := q1.below hbel
  have C2 := q2.below hbel
  have CB : Below w.heap.size w u := bel_trans (a := w) (w := (((grow ((((w.alloc (.cells #[.int .i64 o.x, .int .i64 o.y, .int .i64 o.z] 23)).alloc (.cells #[.int .i64 d.x, .int .i64 d.y, .int .i64 d.z] 23)).alloc (.cells #[.int .i64 l.x, .int .i64 l.y, .int .i64 l.z, .int .i64 h.x, .int .i64 h.y, .int .i64 h.z] 25)).alloc (.cells #[.int .i64 v.x, .int .i64 v.y, .int .i64 v.z] 23)) (((((xa.then xw0).then xw1).then xw2).then xw3).then xr)).alloc (.cells #[.int .i64 a.n, .int .i64 a.d] 28)).alloc (.cells #[.int .i64 b.n, .int .i64 b.d] 28))) (by repeat (first | with_reducible exact Below.refl _ _ | with_reducible refine bel_then ?_ _ | with_reducible refine bel_grow ?_ _ | with_reducible refine bel_alloc ?_ _ | with_reducible refine bel_drew ?_ | with_reducible refine bel_set ?_ (by simp) _ | with_reducible refine bel_setRow ?_ (by first | omega | (simp; done) | (refine Nat.le_trans ?_ (top_le _ _); simp; done) | (refine Nat.le_succ_of_le (Nat.le_trans ?_ (top_le _ _)); simp; done)) _)) hbel
  have m1_ : (grow ((((w.alloc (.cells #[.int .i64 o.x, .int .i64 o.y, .int .i64 o.z] 23)).alloc (.cells #[.int .i64 d.x, .int .i64 d.y, .int .i64 d.z] 23)).alloc (.cells #[.int .i64 l.x, .int .i64 l.y, .int .i64 l.z, .int .i64 h.x, .int .i64 h.y, .int .i64 h.z] 25)).alloc (.cells #[.int .i64 v.x, .int .i64 v.y, .int .i64 v.z] 23)) (((((xa.then xw0).then xw1).then xw2).then xw3).then xr)).heap.size ≠ ga := Nat.ne_of_lt (Nat.lt_of_lt_of_le q1.lt hga)
  have m2_ : (grow ((((w.alloc (.cells #[.int .i64 o.x, .int .i64 o.y, .int .i64 o.z] 23)).alloc (.cells #[.int .i64 d.x, .int .i64 d.y, .int .i64 d.z] 23)).alloc (.cells #[.int .i64 l.x, .int .i64 l.y, .int .i64 l.z, .int .i64 h.x, .int .i64 h.y, .int .i64 h.z] 25)).alloc (.cells #[.int .i64 v.x, .int .i64 v.y, .int .i64 v.z] 23)) (((((xa.then xw0).then xw1).then xw2).then xw3).then xr)).heap.size ≠ gb := Nat.ne_of_lt (Nat.lt_of_lt_of_le q1.lt hgb)
  have m3_ : (grow ((((w.alloc (.cells #[.int .i64 o.x, .int .i64 o.y, .int .i64 o.z] 23)).alloc (.cells #[.int .i64 d.x, .int .i64 d.y, .int .i64 d.z] 23)).alloc (.cells #[.int .i64 l.x, .int .i64 l.y, .int .i64 l.z, .int .i64 h.x, .int .i64 h.y, .int .i64 h.z] 25)).alloc (.cells #[.int .i64 v.x, .int .i64 v.y, .int .i64 v.z] 23)) (((((xa.then xw0).then xw1).then xw2).then xw3).then xr)).heap.size + 1 ≠ ga := Nat.ne_of_lt (Nat.lt_of_lt_of_le q2.lt hga)
  have m4_ : (grow ((((w.alloc (.cells #[.int .i64 o.x, .int .i64 o.y, .int .i64 o.z] 23)).alloc (.cells #[.int .i64 d.x, .int .i64 d.y, .int .i64 d.z] 23)).alloc (.cells #[.int .i64 l.x, .int .i64 l.y, .int .i64 l.z, .int .i64 h.x, .int .i64 h.y, .int .i64 h.z] 25)).alloc (.cells #[.int .i64 v.x, .int .i64 v.y, .int .i64 v.z] 23)) (((((xa.then xw0).then xw1).then xw2).then xw3).then xr)).heap.size + 1 ≠ gb := Nat.ne_of_lt (Nat.lt_of_lt_of_le q2.lt hgb)
  clear q1 q2 hbel hga hgb
  simp only [ptr]
  generalize (grow ((((w.alloc (.cells #[.int .i64 o.x, .int .i64 o.y, .int .i64 o.z] 23)).alloc (.cells #[.int .i64 d.x, .int .i64 d.y, .int .i64 d.z] 23)).alloc (.cells #[.int .i64 l.x, .int .i64 l.y, .int .i64 l.z, .int .i64 h.x, .int .i64 h.y, .int .i64 h.z] 25)).alloc (.cells #[.int .i64 v.x, .int .i64 v.y, .int .i64 v.z] 23)) (((((xa.then xw0).then xw1).then xw2).then xw3).then xr)).heap.size + 1 = g2 at *
  generalize (grow ((((w.alloc (.cells #[.int .i64 o.x, .int .i64 o.y, .int .i64 o.z] 23)).alloc (.cells #[.int .i64 d.x, .int .i64 d.y, .int .i64 d.z] 23)).alloc (.cells #[.int .i64 l.x, .int .i64 l.y, .int .i64 l.z, .int .i64 h.x, .int .i64 h.y, .int .i64 h.z] 25)).alloc (.cells #[.int .i64 v.x, .int .i64 v.y, .int .i64 v.z] 23)) (((((xa.then xw0).then xw1).then xw2).then xw3).then xr)).heap.size = g1 at *
  have l1 := C1.lt
  have c10 := C1.cell 0
  have c11 := C1.cell 1
  have l2 := C2.lt
  have c20 := C2.cell 0
  have c21 := C2.cell 1
  have l3 := hba.lt
  have c30 := hba.cell 0
  have c31 := hba.cell 1
  have l4 := hbb.lt
  have c40 := hbb.cell 0
  have c41 := hbb.cell 1
  simp at c10 c11 c20 c21 c30 c31 c40 c41
  clear C1 C2 hba hbb
  go_wp2_with fail
  all_goals
    go_ret
    exact ⟨rfl, (by repeat (first | with_reducible exact CB | with_reducible refine bel_then ?_ _ | with_reducible refine bel_grow ?_ _ | with_reducible refine bel_alloc ?_ _ | with_reducible refine bel_drew ?_ | with_reducible refine bel_set ?_ (by simp) _ | with_reducible refine bel_setRow ?_ (by first | omega | (simp; done) | (refine Nat.le_trans ?_ (top_le _ _); simp; done) | (refine Nat.le_succ_of_le (Nat.le_trans ?_ (top_le _ _)); simp; done)) _))⟩
theorem range_moved (o d l h v : P3) : rangeM (ad o v) d (ad l v) (ad h v) = rangeM o d l h := by
  unfold rangeM ad
  simp only
  rw [part_moved, part_moved, part_moved]
theorem walk (w : World) (o : P3) (ko : In3 o) (d : P3) (kd : In3 d) (l h : P3) (kb : In3 l ∧ In3 h) (v : P3) (kv : In3 v) :
    Calls Try.prog 7 #[.agg #[.int .i64 o.x, .int .i64 o.y, .int .i64 o.z], .agg #[.int .i64 d.x, .int .i64 d.y, .int .i64 d.z], .agg #[.int .i64 l.x, .int .i64 l.y, .int .i64 l.z, .int .i64 h.x, .int .i64 h.y, .int .i64 h.z], .agg #[.int .i64 v.x, .int .i64 v.y, .int .i64 v.z]] w fun e w' => e = .returned (.bool true) ∧ Below w.heap.size w w' := by
  have w0 := vWithin_any v.x v.y v.z 1048576 (by omega)
  have w1 := vWithin_any o.x o.y o.z 1048576 (by omega)
  have w2 := vWithin_any l.x l.y l.z 1048576 (by omega)
  have w3 := vWithin_any h.x h.y h.z 1048576 (by omega)
  cases q0 : wiB v.x v.y v.z 1048576
  · rw [q0] at w0
    exact off0 w o d l h v w0
  cases q1 : wiB o.x o.y o.z 1048576
  · rw [q0] at w0
    rw [q1] at w1
    exact off1 w o d l h v w0 w1
  cases q2 : wiB l.x l.y l.z 1048576
  · rw [q0] at w0
    rw [q1] at w1
    rw [q2] at w2
    exact off2 w o d l h v w0 w1 w2
  cases q3 : wiB h.x h.y h.z 1048576
  · rw [q0] at w0
    rw [q1] at w1
    rw [q2] at w2
    rw [q3] at w3
    exact off3 w o d l h v w0 w1 w2 w3
  rw [q0] at w0
  rw [q1] at w1
  rw [q2] at w2
  rw [q3] at w3
  have b0 := ((wiB_iff _ _ _ _).1 q0).2
  have b1 := ((wiB_iff _ _ _ _).1 q1).2
  have b2 := ((wiB_iff _ _ _ _).1 q2).2
  have b3 := ((wiB_iff _ _ _ _).1 q3).2
  have small : ∀ p : P3, InP 1048576 p → InP 4611686018427387904 (ad p v) := fun p hp => by
    have hv : InP 1048576 v := b0
    unfold InP ad at *
    simp only
    omega
  have ao := rAdd_P o v (small o b1)
  have al := rAdd_P l v (small l b2)
  have ah := rAdd_P h v (small h b3)
  have m1 := slRange_any o d l h
  have m2 := slRange_any (ad o v) d (ad l v) (ad h v)
  have er := range_moved o d l h v
  rcases rg_cases o d l h with ⟨_, e⟩ | ⟨hb, hr, e⟩ | ⟨r, hb, hr, e⟩
  · rw [e] at m1
    exact farA w o d l h v _ _ _ _ _ _ _ _ _ w0 w1 w2 w3 m1 ao al ah m2
  all_goals
    rcases rg_cases (ad o v) d (ad l v) (ad h v) with ⟨_, e2⟩ | ⟨_, hr2, e2⟩ | ⟨r2, _, hr2, e2⟩
    · rw [e2] at m2
      rw [e] at m1
      exact farB w o d l h v _ _ _ _ _ _ _ _ _ w0 w1 w2 w3 m1 ao al ah m2
    · first
      | (rw [er, hr] at hr2; cases hr2; done)
      | (rw [e2, ← e] at m2
         rw [e] at m1 m2
         exact same w o d l h v _ _ _ _ _ _ w0 w1 w2 w3 m1 ao al ah m2)
    · first
      | (rw [er, hr] at hr2; cases hr2; done)
      | (rw [er, hr] at hr2
         obtain rfl : r = r2 := by injection hr2
         rw [e2] at m2
         rw [e] at m1
         exact same w o d l h v _ _ _ _ _ _ w0 w1 w2 w3 m1 ao al ah m2)

theorem own : ownKnob Try.prog.godebug = none := by kernel_rfl
set_option maxRecDepth 100000 in
theorem lifted (os : Os) (started : os.Started) (H : Type) (enc : TypeId × Value → H) :
    ReturnsInHanded {} Try.checked os 7 .any (Rows.slabMovedSpec.pre6 enc Try.prog Try.f7 Rows.slabMovedRow.domain false) (Rows.slabMovedSpec.post enc Try.prog Try.f7 false true false false) := by
  refine returnsInHanded_of_change (C := Try.checked) own started (by kernel_rfl) Try.func7
    (ChangeSpec.witness6 (enc := enc) (C := Try.checked) false ⟨#[], #[.agg #[.int .i64 0, .int .i64 0, .int .i64 0], .agg #[.int .i64 0, .int .i64 0, .int .i64 0], .agg #[.int .i64 0, .int .i64 0, .int .i64 0, .int .i64 0, .int .i64 0, .int .i64 0], .agg #[.int .i64 0, .int .i64 0, .int .i64 0]], []⟩ 12 (by kernel_rfl) (by kernel_rfl) (by kernel_rfl) (by kernel_rfl)) ?_
  intro W base args ds gs before hval0 hW hcnd _
  have hval : ∀ (j : Nat) t v, Try.f7.params[j]? = some t → args[j]? = some v → Value.okWide Try.prog W .any base t v := hval0
  have hW' := hW
  obtain ⟨p, q, hA0, hV, rfl, hfz, hnd⟩ := hW
  have hA : DataW.TrodAll enc Try.prog W 0 (fun _ => true) true Try.f7.params.toList args.toList ds p := hA0
  rw [Try.params7] at hA hval
  obtain ⟨v0, vs0, d0, ds0, p0, q0, hargs, rfl, rfl, h0, r0⟩ := trodAll_cons hA
  obtain ⟨v1, vs1, d1, ds1, p1, q1, rfl, rfl, rfl, h1, r1⟩ := trodAll_cons r0
  obtain ⟨v2, vs2, d2, ds2, p2, q2, rfl, rfl, rfl, h2, r2⟩ := trodAll_cons r1
  obtain ⟨v3, vs3, d3, ds3, p3, q3, rfl, rfl, rfl, h3, r3⟩ := trodAll_cons r2
  obtain ⟨rfl, rfl, rfl⟩ := trodAll_nil r3
  obtain rfl : args = #[v0, v1, v2, v3] := by cases args; simp_all
  obtain ⟨a0, rfl, k0⟩ := open_V3 (hval 0 23 v0 rfl rfl) h0
  obtain ⟨a1, rfl, k1⟩ := open_V3 (hval 1 23 v1 rfl rfl) h1
  obtain ⟨bl2, bh2, rfl, k2⟩ := open_B3 (hval 2 25 v2 rfl rfl) h2
  obtain ⟨a3, rfl, k3⟩ := open_V3 (hval 3 23 v3 rfl rfl) h3
  refine (walk W a0 k0 a1 k1 bl2 bh2 k2 a3 k3).mono fun e W' ⟨he, hb⟩ => ?_
  subst he
  exact ⟨_, rfl, law_post (tb := 4) (by kernel_rfl) (by kernel_rfl) rfl rfl Try.underlying4 rfl rfl rfl hW' hb⟩

theorem over : Rows.slabMovedRow.holds Try.pinned (OpenSpec.ofChange Rows.slabMovedSpec) :=
  OpenClaim.holds_of_wide 7 Try.f7 rfl rfl rfl rfl rfl rfl rfl ⟨rfl, rfl, rfl, rfl, rfl⟩ rfl rfl rfl rfl rfl (by kernel_rfl) Try.func7 (by kernel_rfl)
    (of_decide_eq_true (by kernel_rfl)) (by unfold Func.isWrapper; first | (rw [if_pos (by decide +kernel)]; kernel_rfl) | (rw [if_neg (by decide +kernel)]; exact ⟨rfl, rfl⟩))
    (fun os started H enc _ => lifted os started H enc)

theorem proved : Rows.SlabMovedSaid :=
  over
#print axioms proved
end Go.Proofs.Ytngkimcnolmmoaa.slabMoved
