/- SlabWider holds for every input: the row, out of the walk. No condition. -/
import Derived.Test.YtngkimcnolmmoaaRows
import Derived.Test.YtngkimcnolmmoaaSlab4
import Derived.Test.YtngkimcnolmmoaaMRegion
import Derived.Test.YtngkimcnolmmoaaPost
namespace Go.Proofs.Ytngkimcnolmmoaa.slabWider
open Go.ChangeShapes Go.WideShapes Go.ChangeAt Go.RowKit
set_option linter.unusedVariables false
set_option linter.unusedSimpArgs false
set_option maxRecDepth 100000 in
set_option maxHeartbeats 4000000 in
theorem far0 (w : World) (o d l h p q : P3) (m1 : Gives Try.prog 11 #[.agg #[.int .i64 o.x, .int .i64 o.y, .int .i64 o.z], .agg #[.int .i64 d.x, .int .i64 d.y, .int .i64 d.z], .agg #[.int .i64 l.x, .int .i64 l.y, .int .i64 l.z, .int .i64 h.x, .int .i64 h.y, .int .i64 h.z]] (.tuple #[.agg #[.int .i64 (⟨0, 0⟩ : Fr).n, .int .i64 (⟨0, 0⟩ : Fr).d], .agg #[.int .i64 (⟨0, 0⟩ : Fr).n, .int .i64 (⟨0, 0⟩ : Fr).d], .bool false, .int .i64 21])) :
    Calls Try.prog 5 #[.agg #[.int .i64 o.x, .int .i64 o.y, .int .i64 o.z], .agg #[.int .i64 d.x, .int .i64 d.y, .int .i64 d.z], .agg #[.int .i64 l.x, .int .i64 l.y, .int .i64 l.z, .int .i64 h.x, .int .i64 h.y, .int .i64 h.z], .agg #[.int .i64 p.x, .int .i64 p.y, .int .i64 p.z, .int .i64 q.x, .int .i64 q.y, .int .i64 q.z]] w fun e w' => e = .returned (.bool true) ∧ Below w.heap.size w w' := by
  have al := alive4_any
  simp only at m1
  go_enter Try.func5, Try.ntmps5
  go_wp2_with (first | (go_at_call 10; first | ((with_reducible refine (al.at_ _).mono ?_); rintro e w' ⟨rfl, xa, rfl⟩)) | (go_at_call 11; first | ((with_reducible refine (m1.at_ _).mono ?_); rintro e w' ⟨rfl, xr, rfl⟩)))
  go_ret
  exact ⟨rfl, (by repeat (first | with_reducible exact Below.refl _ _ | with_reducible refine bel_then ?_ _ | with_reducible refine bel_grow ?_ _ | with_reducible refine bel_alloc ?_ _ | with_reducible refine bel_drew ?_ | with_reducible refine bel_set ?_ (by simp) _ | with_reducible refine bel_setRow ?_ (by first | omega | (simp; done) | (refine Nat.le_trans ?_ (top_le _ _); simp; done) | (refine Nat.le_succ_of_le (Nat.le_trans ?_ (top_le _ _)); simp; done)) _))⟩
set_option maxRecDepth 100000 in
set_option maxHeartbeats 4000000 in
theorem none_ (w : World) (o d l h p q : P3) (m1 : Gives Try.prog 11 #[.agg #[.int .i64 o.x, .int .i64 o.y, .int .i64 o.z], .agg #[.int .i64 d.x, .int .i64 d.y, .int .i64 d.z], .agg #[.int .i64 l.x, .int .i64 l.y, .int .i64 l.z, .int .i64 h.x, .int .i64 h.y, .int .i64 h.z]] (.tuple #[.agg #[.int .i64 (⟨0, 0⟩ : Fr).n, .int .i64 (⟨0, 0⟩ : Fr).d], .agg #[.int .i64 (⟨0, 0⟩ : Fr).n, .int .i64 (⟨0, 0⟩ : Fr).d], .bool false, .int .i64 0])) :
    Calls Try.prog 5 #[.agg #[.int .i64 o.x, .int .i64 o.y, .int .i64 o.z], .agg #[.int .i64 d.x, .int .i64 d.y, .int .i64 d.z], .agg #[.int .i64 l.x, .int .i64 l.y, .int .i64 l.z, .int .i64 h.x, .int .i64 h.y, .int .i64 h.z], .agg #[.int .i64 p.x, .int .i64 p.y, .int .i64 p.z, .int .i64 q.x, .int .i64 q.y, .int .i64 q.z]] w fun e w' => e = .returned (.bool true) ∧ Below w.heap.size w w' := by
  have al := alive4_any
  simp only at m1
  go_enter Try.func5, Try.ntmps5
  go_wp2_with (first | (go_at_call 10; first | ((with_reducible refine (al.at_ _).mono ?_); rintro e w' ⟨rfl, xa, rfl⟩)) | (go_at_call 11; first | ((with_reducible refine (m1.at_ _).mono ?_); rintro e w' ⟨rfl, xr, rfl⟩)))
  go_ret
  exact ⟨rfl, (by repeat (first | with_reducible exact Below.refl _ _ | with_reducible refine bel_then ?_ _ | with_reducible refine bel_grow ?_ _ | with_reducible refine bel_alloc ?_ _ | with_reducible refine bel_drew ?_ | with_reducible refine bel_set ?_ (by simp) _ | with_reducible refine bel_setRow ?_ (by first | omega | (simp; done) | (refine Nat.le_trans ?_ (top_le _ _); simp; done) | (refine Nat.le_succ_of_le (Nat.le_trans ?_ (top_le _ _)); simp; done)) _))⟩
set_option maxRecDepth 100000 in
set_option maxHeartbeats 4000000 in
theorem jfar (w : World) (o d l h p q j k : P3) (a b : Fr) (m1 : Gives Try.prog 11 #[.agg #[.int .i64 o.x, .int .i64 o.y, .int .i64 o.z], .agg #[.int .i64 d.x, .int .i64 d.y, .int .i64 d.z], .agg #[.int .i64 l.x, .int .i64 l.y, .int .i64 l.z, .int .i64 h.x, .int .i64 h.y, .int .i64 h.z]] (.tuple #[.agg #[.int .i64 a.n, .int .i64 a.d], .agg #[.int .i64 b.n, .int .i64 b.d], .bool true, .int .i64 0])) (kj : Gives Try.prog 15 #[.agg #[.int .i64 l.x, .int .i64 l.y, .int .i64 l.z, .int .i64 h.x, .int .i64 h.y, .int .i64 h.z], .agg #[.int .i64 p.x, .int .i64 p.y, .int .i64 p.z, .int .i64 q.x, .int .i64 q.y, .int .i64 q.z]] (.agg #[.int .i64 j.x, .int .i64 j.y, .int .i64 j.z, .int .i64 k.x, .int .i64 k.y, .int .i64 k.z])) (x y : Fr) (m2 : Gives Try.prog 11 #[.agg #[.int .i64 o.x, .int .i64 o.y, .int .i64 o.z], .agg #[.int .i64 d.x, .int .i64 d.y, .int .i64 d.z], .agg #[.int .i64 j.x, .int .i64 j.y, .int .i64 j.z, .int .i64 k.x, .int .i64 k.y, .int .i64 k.z]] (.tuple #[.agg #[.int .i64 x.n, .int .i64 x.d], .agg #[.int .i64 y.n, .int .i64 y.d], .bool false, .int .i64 21])) :
    Calls Try.prog 5 #[.agg #[.int .i64 o.x, .int .i64 o.y, .int .i64 o.z], .agg #[.int .i64 d.x, .int .i64 d.y, .int .i64 d.z], .agg #[.int .i64 l.x, .int .i64 l.y, .int .i64 l.z, .int .i64 h.x, .int .i64 h.y, .int .i64 h.z], .agg #[.int .i64 p.x, .int .i64 p.y, .int .i64 p.z, .int .i64 q.x, .int .i64 q.y, .int .i64 q.z]] w fun e w' => e = .returned (.bool true) ∧ Below w.heap.size w w' := by
  have al := alive4_any
  go_enter Try.func5, Try.ntmps5
  go_upto_region 6 with (first | (go_at_call 10; first | ((with_reducible refine (al.at_ _).mono ?_); rintro e w' ⟨rfl, xa, rfl⟩)) | (go_at_call 11; first | ((with_reducible refine (m1.at_ _).mono ?_); rintro e w' ⟨rfl, xr, rfl⟩)))
  refine wp_region_two 11 ?_ 13 14 28 #[.int .i64 0, .int .i64 0] #[.int .i64 x.n, .int .i64 x.d] #[.int .i64 y.n, .int .i64 y.d] (by kernel_rfl) (by kernel_rfl) (by kernel_rfl) (by decide) (fun d hd => by cases hd; exact ⟨_, rfl, rfl, rfl, fun A u => alloc_frac A _ rfl u⟩) (fun d hd => by cases hd; exact ⟨_, rfl, rfl, rfl, fun A u => alloc_frac A _ rfl u⟩) (fun pp => ?_) (fun ga gb => ?_) (fun ga gb => ?_) (fun ga gb => ⟨?_, ?_, fun x => ?_, fun u hu => ?_⟩)
  rotate_left
  · simp only [List.take_succ_cons, List.take_zero]
    repeat (go_big_quiet_step (((first | with_reducible exact kj.quiet _ | with_reducible exact kj.quiet2 _ _ | with_reducible exact m2.quiet _ | with_reducible exact m2.quiet2 _ _))))
    refine wpQuiet_nil ?_
    exact rfl
  · exact ⟨_, rfl, storeS_row 28 _ _ _ _ rfl rfl rfl rfl rfl infoF rfl (by simp [Value.oneCell'])⟩
  · exact ⟨_, rfl, storeS_row 28 _ _ _ _ rfl rfl rfl rfl rfl infoF rfl (by simp [Value.oneCell'])⟩
  rotate_left
  · kernel_rfl
  · simp only [List.drop_succ_cons, List.drop_zero]
    try simp only [Act.put, List.setIfInBounds_toArray, List.set_cons_succ, List.set_cons_zero]
    repeat (go_big_quiet_step ((fail)))
    refine wpQuiet_nil ?_
    exact rfl
  obtain ⟨hbel, hne, ⟨hga, hba⟩, hgb, hbb⟩ := hu
  have q1 : Blk (((grow ((((w.alloc (.cells #[.int .i64 o.x, .int .i64 o.y, .int .i64 o.z] 23)).alloc (.cells #[.int .i64 d.x, .int .i64 d.y, .int .i64 d.z] 23)).alloc (.cells #[.int .i64 l.x, .int .i64 l.y, .int .i64 l.z, .int .i64 h.x, .int .i64 h.y, .int .i64 h.z] 25)).alloc (.cells #[.int .i64 p.x, .int .i64 p.y, .int .i64 p.z, .int .i64 q.x, .int .i64 q.y, .int .i64 q.z] 25)) (xa.then xr)).alloc (.cells #[.int .i64 a.n, .int .i64 a.d] 28)).alloc (.cells #[.int .i64 b.n, .int .i64 b.d] 28)) ((grow ((((w.alloc (.cells #[.int .i64 o.x, .int .i64 o.y, .int .i64 o.z] 23)).alloc (.cells #[.int .i64 d.x, .int .i64 d.y, .int .i64 d.z] 23)).alloc (.cells #[.int .i64 l.x, .int .i64 l.y, .int .i64 l.z, .int .i64 h.x, .int .i64 h.y, .int .i64 h.z] 25)).alloc (.cells #[.int .i64 p.x, .int .i64 p.y, .int .i64 p.z, .int .i64 q.x, .int .i64 q.y, .int .i64 q.z] 25)) (xa.then xr)).heap.size) 28 #[.int .i64 a.n, .int .i64 a.d] := (Blk.new _ _ _ _ rfl).alloc _
  have q2 : Blk (((grow ((((w.alloc (.cells #[.int .i64 o.x, .int .i64 o.y, .int .i64 o.z] 23)).alloc (.cells #[.int .i64 d.x, .int .i64 d.y, .int .i64 d.z] 23)).alloc (.cells #[.int .i64 l.x, .int .i64 l.y, .int .i64 l.z, .int .i64 h.x, .int .i64 h.y, .int .i64 h.z] 25)).alloc (.cells #[.int .i64 p.x, .int .i64 p.y, .int .i64 p.z, .int .i64 q.x, .int .i64 q.y, .int .i64 q.z] 25)) (xa.then xr)).alloc (.cells #[.int .i64 a.n, .int .i64 a.d] 28)).alloc (.cells #[.int .i64 b.n, .int .i64 b.d] 28)) ((grow ((((w.alloc (.cells #[.int .i64 o.x, .int .i64 o.y, .int .i64 o.z] 23)).alloc (.cells #[.int .i64 d.x, .int .i64 d.y, .int .i64 d.z] 23)).alloc (.cells #[.int .i64 l.x, .int .i64 l.y, .int .i64 l.z, .int .i64 h.x, .int .i64 h.y, .int .i64 h.z] 25)).alloc (.cells #[.int .i64 p.x, .int .i64 p.y, .int .i64 p.z, .int .i64 q.x, .int .i64 q.y, .int .i64 q.z] 25)) (xa.then xr)).heap.size + 1) 28 #[.int .i64 b.n, .int .i64 b.d] := Blk.new _ _ _ _ (by simp)
  have C1 := q1.below hbel
  have C2 := q2.below hbel
  have CB : Below w.heap.size w u := bel_trans (a := w) (w := (((grow ((((w.alloc (.cells #[.int .i64 o.x, .int .i64 o.y, .int .i64 o.z] 23)).alloc (.cells #[.int .i64 d.x, .int .i64 d.y, .int .i64 d.z] 23)).alloc (.cells #[.int .i64 l.x, .int .i64 l.y, .int .i64 l.z, .int .i64 h.x, .int .i64 h.y, .int .i64 h.z] 25)).alloc (.cells #[.int .i64 p.x, .int .i64 p.y, .int .i64 p.z, .int .i64 q.x, .int .i64 q.y, .int .i64 q.z] 25)) (xa.then xr)).alloc (.cells #[.int .i64 a.n, .int .i64 a.d] 28)).alloc (.cells #[.int .i64 b.n, .int .i64 b.d] 28))) (by repeat (first | with_reducible exact Below.refl _ _ | with_reducible refine bel_then ?_ _ | with_reducible refine bel_grow ?_ _ | with_reducible refine bel_alloc ?_ _ | with_reducible refine bel_drew ?_ | with_reducible refine bel_set ?_ (by simp) _ | with_reducible refine bel_setRow ?_ (by first | omega | (simp; done) | (refine Nat.le_trans ?_ (top_le _ _); simp; done) | (refine Nat.le_succ_of_le (Nat.le_trans ?_ (top_le _ _)); simp; done)) _)) hbel
  have m1_ : (grow ((((w.alloc (.cells #[.int .i64 o.x, .int .i64 o.y, .int .i64 o.z] 23)).alloc (.cells #[.int .i64 d.x, .int .i64 d.y, .int .i64 d.z] 23)).alloc (.cells #[.int .i64 l.x, .int .i64 l.y, .int .i64 l.z, .int .i64 h.x, .int .i64 h.y, .int .i64 h.z] 25)).alloc (.cells #[.int .i64 p.x, .int .i64 p.y, .int .i64 p.z, .int .i64 q.x, .int .i64 q.y, .int .i64 q.z] 25)) (xa.then xr)).heap.size ≠ ga := Nat.ne_of_lt (Nat.lt_of_lt_of_le q1.lt hga)
  have m2_ : (grow ((((w.alloc (.cells #[.int .i64 o.x, .int .i64 o.y, .int .i64 o.z] 23)).alloc (.cells #[.int .i64 d.x, .int .i64 d.y, .int .i64 d.z] 23)).alloc (.cells #[.int .i64 l.x, .int .i64 l.y, .int .i64 l.z, .int .i64 h.x, .int .i64 h.y, .int .i64 h.z] 25)).alloc (.cells #[.int .i64 p.x, .int .i64 p.y, .int .i64 p.z, .int .i64 q.x, .int .i64 q.y, .int .i64 q.z] 25)) (xa.then xr)).heap.size ≠ gb := Nat.ne_of_lt (Nat.lt_of_lt_of_le q1.lt hgb)
  have m3_ : (grow ((((w.alloc (.cells #[.int .i64 o.x, .int .i64 o.y, .int .i64 o.z] 23)).alloc (.cells #[.int .i64 d.x, .int .i64 d.y, .int .i64 d.z] 23)).alloc (.cells #[.int .i64 l.x, .int .i64 l.y, .int .i64 l.z, .int .i64 h.x, .int .i64 h.y, .int .i64 h.z] 25)).alloc (.cells #[.int .i64 p.x, .int .i64 p.y, .int .i64 p.z, .int .i64 q.x, .int .i64 q.y, .int .i64 q.z] 25)) (xa.then xr)).heap.size + 1 ≠ ga := Nat.ne_of_lt (Nat.lt_of_lt_of_le q2.lt hga)
  have m4_ : (grow ((((w.alloc (.cells #[.int .i64 o.x, .int .i64 o.y, .int .i64 o.z] 23)).alloc (.cells #[.int .i64 d.x, .int .i64 d.y, .int .i64 d.z] 23)).alloc (.cells #[.int .i64 l.x, .int .i64 l.y, .int .i64 l.z, .int .i64 h.x, .int .i64 h.y, .int .i64 h.z] 25)).alloc (.cells #[.int .i64 p.x, .int .i64 p.y, .int .i64 p.z, .int .i64 q.x, .int .i64 q.y, .int .i64 q.z] 25)) (xa.then xr)).heap.size + 1 ≠ gb := Nat.ne_of_lt (Nat.lt_of_lt_of_le q2.lt hgb)
  clear q1 q2 hbel hga hgb
  simp only [ptr]
  generalize (grow ((((w.alloc (.cells #[.int .i64 o.x, .int .i64 o.y, .int .i64 o.z] 23)).alloc (.cells #[.int .i64 d.x, .int .i64 d.y, .int .i64 d.z] 23)).alloc (.cells #[.int .i64 l.x, .int .i64 l.y, .int .i64 l.z, .int .i64 h.x, .int .i64 h.y, .int .i64 h.z] 25)).alloc (.cells #[.int .i64 p.x, .int .i64 p.y, .int .i64 p.z, .int .i64 q.x, .int .i64 q.y, .int .i64 q.z] 25)) (xa.then xr)).heap.size + 1 = g2 at *
  generalize (grow ((((w.alloc (.cells #[.int .i64 o.x, .int .i64 o.y, .int .i64 o.z] 23)).alloc (.cells #[.int .i64 d.x, .int .i64 d.y, .int .i64 d.z] 23)).alloc (.cells #[.int .i64 l.x, .int .i64 l.y, .int .i64 l.z, .int .i64 h.x, .int .i64 h.y, .int .i64 h.z] 25)).alloc (.cells #[.int .i64 p.x, .int .i64 p.y, .int .i64 p.z, .int .i64 q.x, .int .i64 q.y, .int .i64 q.z] 25)) (xa.then xr)).heap.size = g1 at *
  have l1 := C1.lt
  have c10 := C1.cell 0
  have c11 := C1.cell 1
  have l2 := C2.lt
  have c20 := C2.cell 0
  have c21 := C2.cell 1
  have l3 := hba.lt
  have c30 := hba.cell 0
  have c31 := hba.cell 1
  have l4 := hbb.lt
  have c40 := hbb.cell 0
  have c41 := hbb.cell 1
  simp at c10 c11 c20 c21 c30 c31 c40 c41
  clear C1 C2 hba hbb
  go_wp2_with (first | fail)
  all_goals
    go_ret
    exact ⟨rfl, (by repeat (first | with_reducible exact CB | with_reducible refine bel_then ?_ _ | with_reducible refine bel_grow ?_ _ | with_reducible refine bel_alloc ?_ _ | with_reducible refine bel_drew ?_ | with_reducible refine bel_set ?_ (by simp) _ | with_reducible refine bel_setRow ?_ (by first | omega | (simp; done) | (refine Nat.le_trans ?_ (top_le _ _); simp; done) | (refine Nat.le_succ_of_le (Nat.le_trans ?_ (top_le _ _)); simp; done)) _))⟩
set_option maxRecDepth 100000 in
set_option maxHeartbeats 4000000 in
theorem jsome (w : World) (o d l h p q j k : P3) (a b : Fr) (m1 : Gives Try.prog 11 #[.agg #[.int .i64 o.x, .int .i64 o.y, .int .i64 o.z], .agg #[.int .i64 d.x, .int .i64 d.y, .int .i64 d.z], .agg #[.int .i64 l.x, .int .i64 l.y, .int .i64 l.z, .int .i64 h.x, .int .i64 h.y, .int .i64 h.z]] (.tuple #[.agg #[.int .i64 a.n, .int .i64 a.d], .agg #[.int .i64 b.n, .int .i64 b.d], .bool true, .int .i64 0])) (kj : Gives Try.prog 15 #[.agg #[.int .i64 l.x, .int .i64 l.y, .int .i64 l.z, .int .i64 h.x, .int .i64 h.y, .int .i64 h.z], .agg #[.int .i64 p.x, .int .i64 p.y, .int .i64 p.z, .int .i64 q.x, .int .i64 q.y, .int .i64 q.z]] (.agg #[.int .i64 j.x, .int .i64 j.y, .int .i64 j.z, .int .i64 k.x, .int .i64 k.y, .int .i64 k.z])) (x y : Fr) (c1 c2 : Int) (hc1 : decide (c1 ≤ 0) = true) (hc2 : decide (c2 ≤ 0) = true) (m2 : Gives Try.prog 11 #[.agg #[.int .i64 o.x, .int .i64 o.y, .int .i64 o.z], .agg #[.int .i64 d.x, .int .i64 d.y, .int .i64 d.z], .agg #[.int .i64 j.x, .int .i64 j.y, .int .i64 j.z, .int .i64 k.x, .int .i64 k.y, .int .i64 k.z]] (.tuple #[.agg #[.int .i64 x.n, .int .i64 x.d], .agg #[.int .i64 y.n, .int .i64 y.d], .bool true, .int .i64 0])) (k1 : Gives Try.prog 16 #[.agg #[.int .i64 x.n, .int .i64 x.d], .agg #[.int .i64 a.n, .int .i64 a.d]] (.tuple #[.int .i64 c1, .bool true])) (k2 : Gives Try.prog 16 #[.agg #[.int .i64 b.n, .int .i64 b.d], .agg #[.int .i64 y.n, .int .i64 y.d]] (.tuple #[.int .i64 c2, .bool true])) :
    Calls Try.prog 5 #[.agg #[.int .i64 o.x, .int .i64 o.y, .int .i64 o.z], .agg #[.int .i64 d.x, .int .i64 d.y, .int .i64 d.z], .agg #[.int .i64 l.x, .int .i64 l.y, .int .i64 l.z, .int .i64 h.x, .int .i64 h.y, .int .i64 h.z], .agg #[.int .i64 p.x, .int .i64 p.y, .int .i64 p.z, .int .i64 q.x, .int .i64 q.y, .int .i64 q.z]] w fun e w' => e = .returned (.bool true) ∧ Below w.heap.size w w' := by
  have al := alive4_any
  go_enter Try.func5, Try.ntmps5
  go_upto_region 6 with (first | (go_at_call 10; first | ((with_reducible refine (al.at_ _).mono ?_); rintro e w' ⟨rfl, xa, rfl⟩)) | (go_at_call 11; first | ((with_reducible refine (m1.at_ _).mono ?_); rintro e w' ⟨rfl, xr, rfl⟩)))
  refine wp_region_two 11 ?_ 13 14 28 #[.int .i64 0, .int .i64 0] #[.int .i64 x.n, .int .i64 x.d] #[.int .i64 y.n, .int .i64 y.d] (by kernel_rfl) (by kernel_rfl) (by kernel_rfl) (by decide) (fun d hd => by cases hd; exact ⟨_, rfl, rfl, rfl, fun A u => alloc_frac A _ rfl u⟩) (fun d hd => by cases hd; exact ⟨_, rfl, rfl, rfl, fun A u => alloc_frac A _ rfl u⟩) (fun pp => ?_) (fun ga gb => ?_) (fun ga gb => ?_) (fun ga gb => ⟨?_, ?_, fun x => ?_, fun u hu => ?_⟩)
  rotate_left
  · simp only [List.take_succ_cons, List.take_zero]
    repeat (go_big_quiet_step (((first | with_reducible exact kj.quiet _ | with_reducible exact kj.quiet2 _ _ | with_reducible exact m2.quiet _ | with_reducible exact m2.quiet2 _ _))))
    refine wpQuiet_nil ?_
    exact rfl
  · exact ⟨_, rfl, storeS_row 28 _ _ _ _ rfl rfl rfl rfl rfl infoF rfl (by simp [Value.oneCell'])⟩
  · exact ⟨_, rfl, storeS_row 28 _ _ _ _ rfl rfl rfl rfl rfl infoF rfl (by simp [Value.oneCell'])⟩
  rotate_left
  · kernel_rfl
  · simp only [List.drop_succ_cons, List.drop_zero]
    try simp only [Act.put, List.setIfInBounds_toArray, List.set_cons_succ, List.set_cons_zero]
    repeat (go_big_quiet_step ((fail)))
    refine wpQuiet_nil ?_
    exact rfl
  obtain ⟨hbel, hne, ⟨hga, hba⟩, hgb, hbb⟩ := hu
  have q1 : Blk (((grow ((((w.alloc (.cells #[.int .i64 o.x, .int .i64 o.y, .int .i64 o.z] 23)).alloc (.cells #[.int .i64 d.x, .int .i64 d.y, .int .i64 d.z] 23)).alloc (.cells #[.int .i64 l.x, .int .i64 l.y, .int .i64 l.z, .int .i64 h.x, .int .i64 h.y, .int .i64 h.z] 25)).alloc (.cells #[.int .i64 p.x, .int .i64 p.y, .int .i64 p.z, .int .i64 q.x, .int .i64 q.y, .int .i64 q.z] 25)) (xa.then xr)).alloc (.cells #[.int .i64 a.n, .int .i64 a.d] 28)).alloc (.cells #[.int .i64 b.n, .int .i64 b.d] 28)) ((grow ((((w.alloc (.cells #[.int .i64 o.x, .int .i64 o.y, .int .i64 o.z] 23)).alloc (.cells #[.int .i64 d.x, .int .i64 d.y, .int .i64 d.z] 23)).alloc (.cells #[.int .i64 l.x, .int .i64 l.y, .int .i64 l.z, .int .i64 h.x, .int .i64 h.y, .int .i64 h.z] 25)).alloc (.cells #[.int .i64 p.x, .int .i64 p.y, .int .i64 p.z, .int .i64 q.x, .int .i64 q.y, .int .i64 q.z] 25)) (xa.then xr)).heap.size) 28 #[.int .i64 a.n, .int .i64 a.d] := (Blk.new _ _ _ _ rfl).alloc _
  have q2 : Blk (((grow ((((w.alloc (.cells #[.int .i64 o.x, .int .i64 o.y, .int .i64 o.z] 23)).alloc (.cells #[.int .i64 d.x, .int .i64 d.y, .int .i64 d.z] 23)).alloc (.cells #[.int .i64 l.x, .int .i64 l.y, .int .i64 l.z, .int .i64 h.x, .int .i64 h.y, .int .i64 h.z] 25)).alloc (.cells #[.int .i64 p.x, .int .i64 p.y, .int .i64 p.z, .int .i64 q.x, .int .i64 q.y, .int .i64 q.z] 25)) (xa.then xr)).alloc (.cells #[.int .i64 a.n, .int .i64 a.d] 28)).alloc (.cells #[.int .i64 b.n, .int .i64 b.d] 28)) ((grow ((((w.alloc (.cells #[.int .i64 o.x, .int .i64 o.y, .int .i64 o.z] 23)).alloc (.cells #[.int .i64 d.x, .int .i64 d.y, .int .i64 d.z] 23)).alloc (.cells #[.int .i64 l.x, .int .i64 l.y, .int .i64 l.z, .int .i64 h.x, .int .i64 h.y, .int .i64 h.z] 25)).alloc (.cells #[.int .i64 p.x, .int .i64 p.y, .int .i64 p.z, .int .i64 q.x, .int .i64 q.y, .int .i64 q.z] 25)) (xa.then xr)).heap.size + 1) 28 #[.int .i64 b.n, .int .i64 b.d] := Blk.new _ _ _ _ (by simp)
  have C1 := q1.below hbel
  have C2 := q2.below hbel
  have CB : Below w.heap.size w u := bel_trans (a := w) (w := (((grow ((((w.alloc (.cells #[.int .i64 o.x, .int .i64 o.y, .int .i64 o.z] 23)).alloc (.cells #[.int .i64 d.x, .int .i64 d.y, .int .i64 d.z] 23)).alloc (.cells #[.int .i64 l.x, .int .i64 l.y, .int .i64 l.z, .int .i64 h.x, .int .i64 h.y, .int .i64 h.z] 25)).alloc (.cells #[.int .i64 p.x, .int .i64 p.y, .int .i64 p.z, .int .i64 q.x, .int .i64 q.y, .int .i64 q.z] 25)) (xa.then xr)).alloc (.cells #[.int .i64 a.n, .int .i64 a.d] 28)).alloc (.cells #[.int .i64 b.n, .int .i64 b.d] 28))) (by repeat (first | with_reducible exact Below.refl _ _ | with_reducible refine bel_then ?_ _ | with_reducible refine bel_grow ?_ _ | with_reducible refine bel_alloc ?_ _ | with_reducible refine bel_drew ?_ | with_reducible refine bel_set ?_ (by simp) _ | with_reducible refine bel_setRow ?_ (by first | omega | (simp; done) | (refine Nat.le_trans ?_ (top_le _ _); simp; done) | (refine Nat.le_succ_of_le (Nat.le_trans ?_ (top_le _ _)); simp; done)) _)) hbel
  have m1_ : (grow ((((w.alloc (.cells #[.int .i64 o.x, .int .i64 o.y, .int .i64 o.z] 23)).alloc (.cells #[.int .i64 d.x, .int .i64 d.y, .int .i64 d.z] 23)).alloc (.cells #[.int .i64 l.x, .int .i64 l.y, .int .i64 l.z, .int .i64 h.x, .int .i64 h.y, .int .i64 h.z] 25)).alloc (.cells #[.int .i64 p.x, .int .i64 p.y, .int .i64 p.z, .int .i64 q.x, .int .i64 q.y, .int .i64 q.z] 25)) (xa.then xr)).heap.size ≠ ga := Nat.ne_of_lt (Nat.lt_of_lt_of_le q1.lt hga)
  have m2_ : (grow ((((w.alloc (.cells #[.int .i64 o.x, .int .i64 o.y, .int .i64 o.z] 23)).alloc (.cells #[.int .i64 d.x, .int .i64 d.y, .int .i64 d.z] 23)).alloc (.cells #[.int .i64 l.x, .int .i64 l.y, .int .i64 l.z, .int .i64 h.x, .int .i64 h.y, .int .i64 h.z] 25)).alloc (.cells #[.int .i64 p.x, .int .i64 p.y, .int .i64 p.z, .int .i64 q.x, .int .i64 q.y, .int .i64 q.z] 25)) (xa.then xr)).heap.size ≠ gb := Nat.ne_of_lt (Nat.lt_of_lt_of_le q1.lt hgb)
  have m3_ : (grow ((((w.alloc (.cells #[.int .i64 o.x, .int .i64 o.y, .int .i64 o.z] 23)).alloc (.cells #[.int .i64 d.x, .int .i64 d.y, .int .i64 d.z] 23)).alloc (.cells #[.int .i64 l.x, .int .i64 l.y, .int .i64 l.z, .int .i64 h.x, .int .i64 h.y, .int .i64 h.z] 25)).alloc (.cells #[.int .i64 p.x, .int .i64 p.y, .int .i64 p.z, .int .i64 q.x, .int .i64 q.y, .int .i64 q.z] 25)) (xa.then xr)).heap.size + 1 ≠ ga := Nat.ne_of_lt (Nat.lt_of_lt_of_le q2.lt hga)
  have m4_ : (grow ((((w.alloc (.cells #[.int .i64 o.x, .int .i64 o.y, .int .i64 o.z] 23)).alloc (.cells #[.int .i64 d.x, .int .i64 d.y, .int .i64 d.z] 23)).alloc (.cells #[.int .i64 l.x, .int .i64 l.y, .int .i64 l.z, .int .i64 h.x, .int .i64 h.y, .int .i64 h.z] 25)).alloc (.cells #[.int .i64 p.x, .int .i64 p.y, .int .i64 p.z, .int .i64 q.x, .int .i64 q.y, .int .i64 q.z] 25)) (xa.then xr)).heap.size + 1 ≠ gb := Nat.ne_of_lt (Nat.lt_of_lt_of_le q2.lt hgb)
  clear q1 q2 hbel hga hgb
  simp only [ptr]
  generalize (grow ((((w.alloc (.cells #[.int .i64 o.x, .int .i64 o.y, .int .i64 o.z] 23)).alloc (.cells #[.int .i64 d.x, .int .i64 d.y, .int .i64 d.z] 23)).alloc (.cells #[.int .i64 l.x, .int .i64 l.y, .int .i64 l.z, .int .i64 h.x, .int .i64 h.y, .int .i64 h.z] 25)).alloc (.cells #[.int .i64 p.x, .int .i64 p.y, .int .i64 p.z, .int .i64 q.x, .int .i64 q.y, .int .i64 q.z] 25)) (xa.then xr)).heap.size + 1 = g2 at *
  generalize (grow ((((w.alloc (.cells #[.int .i64 o.x, .int .i64 o.y, .int .i64 o.z] 23)).alloc (.cells #[.int .i64 d.x, .int .i64 d.y, .int .i64 d.z] 23)).alloc (.cells #[.int .i64 l.x, .int .i64 l.y, .int .i64 l.z, .int .i64 h.x, .int .i64 h.y, .int .i64 h.z] 25)).alloc (.cells #[.int .i64 p.x, .int .i64 p.y, .int .i64 p.z, .int .i64 q.x, .int .i64 q.y, .int .i64 q.z] 25)) (xa.then xr)).heap.size = g1 at *
  have l1 := C1.lt
  have c10 := C1.cell 0
  have c11 := C1.cell 1
  have l2 := C2.lt
  have c20 := C2.cell 0
  have c21 := C2.cell 1
  have l3 := hba.lt
  have c30 := hba.cell 0
  have c31 := hba.cell 1
  have l4 := hbb.lt
  have c40 := hbb.cell 0
  have c41 := hbb.cell 1
  simp at c10 c11 c20 c21 c30 c31 c40 c41
  clear C1 C2 hba hbb
  go_wp2_with (first | (go_at_call 16; first | ((with_reducible refine (k1.at_ _).mono ?_); rintro e w' ⟨rfl, xg, rfl⟩) | ((with_reducible refine (k2.at_ _).mono ?_); rintro e w' ⟨rfl, xg, rfl⟩)))
  all_goals
    go_ret
    exact ⟨rfl, (by repeat (first | with_reducible exact CB | with_reducible refine bel_then ?_ _ | with_reducible refine bel_grow ?_ _ | with_reducible refine bel_alloc ?_ _ | with_reducible refine bel_drew ?_ | with_reducible refine bel_set ?_ (by simp) _ | with_reducible refine bel_setRow ?_ (by first | omega | (simp; done) | (refine Nat.le_trans ?_ (top_le _ _); simp; done) | (refine Nat.le_succ_of_le (Nat.le_trans ?_ (top_le _ _)); simp; done)) _))⟩
theorem cmp_le {x y : Int} (h : x ≤ y) : decide (cmpOf x y ≤ 0) = true := by
  unfold cmpOf
  split
  · rfl
  · rw [if_pos (by omega)]; rfl
theorem order_F (a b : Fr) (ha : smallF a) (hb : smallF b) (ra : RightF a) (rb : RightF b) : Gives Try.prog 16 #[.agg #[.int .i64 a.n, .int .i64 a.d], .agg #[.int .i64 b.n, .int .i64 b.d]] (.tuple #[.int .i64 (cmpOf (a.n * b.d) (b.n * a.d)), .bool true]) := by
  have i1 := smallF_in ha
  have i2 := smallF_in hb
  exact order_yes a.n a.d b.n b.d i1.1.1 i1.1.2 i1.2.1 i1.2.2 i2.1.1 i2.1.2 i2.2.1 i2.2.2 ra rb
theorem walk (w : World) (o : P3) (ko : In3 o) (d : P3) (kd : In3 d) (l h : P3) (kb : In3 l ∧ In3 h) (p q : P3) (kc : In3 p ∧ In3 q) :
    Calls Try.prog 5 #[.agg #[.int .i64 o.x, .int .i64 o.y, .int .i64 o.z], .agg #[.int .i64 d.x, .int .i64 d.y, .int .i64 d.z], .agg #[.int .i64 l.x, .int .i64 l.y, .int .i64 l.z, .int .i64 h.x, .int .i64 h.y, .int .i64 h.z], .agg #[.int .i64 p.x, .int .i64 p.y, .int .i64 p.z, .int .i64 q.x, .int .i64 q.y, .int .i64 q.z]] w fun e w' => e = .returned (.bool true) ∧ Below w.heap.size w w' := by
  have m1 := slRange_any o d l h
  have m2 := slRange_any o d (⟨min l.x p.x, min l.y p.y, min l.z p.z⟩ : P3) (⟨max h.x q.x, max h.y q.y, max h.z q.z⟩ : P3)
  have kj := vJoin_any l.x l.y l.z h.x h.y h.z p.x p.y p.z q.x q.y q.z
  rcases rg_cases o d l h with ⟨_, e⟩ | ⟨_, hr, e⟩ | ⟨r, hb, hr, e⟩
  · rw [e] at m1
    exact far0 w o d l h p q m1
  · rw [e] at m1
    exact none_ w o d l h p q m1
  · rw [e] at m1
    obtain ⟨r2, hr2, g1, g2⟩ := range_wider (l2 := (⟨min l.x p.x, min l.y p.y, min l.z p.z⟩ : P3)) (g2 := (⟨max h.x q.x, max h.y q.y, max h.z q.z⟩ : P3)) (by simp only; omega) (by simp only; omega) (by simp only; omega) (by simp only; omega) (by simp only; omega) (by simp only; omega) hr
    rcases rg_cases o d (⟨min l.x p.x, min l.y p.y, min l.z p.z⟩ : P3) (⟨max h.x q.x, max h.y q.y, max h.z q.z⟩ : P3) with ⟨_, e2⟩ | ⟨_, hn, e2⟩ | ⟨r', hb2, hr', e2⟩
    · rw [e2] at m2
      exact jfar w o d l h p q (⟨min l.x p.x, min l.y p.y, min l.z p.z⟩ : P3) (⟨max h.x q.x, max h.y q.y, max h.z q.z⟩ : P3) r.1 r.2 m1 kj _ _ m2
    · rw [hr2] at hn; cases hn
    · rw [e2] at m2
      obtain rfl : r2 = r' := by rw [hr2] at hr'; injection hr'
      obtain ⟨s1, s2⟩ := range_small hb hr
      obtain ⟨s3, s4⟩ := range_small hb2 hr2
      obtain ⟨o1, o2, _⟩ := range_ok hr
      obtain ⟨o3, o4, _⟩ := range_ok hr2
      exact jsome w o d l h p q (⟨min l.x p.x, min l.y p.y, min l.z p.z⟩ : P3) (⟨max h.x q.x, max h.y q.y, max h.z q.z⟩ : P3) r.1 r.2 m1 kj _ _ _ _ (cmp_le g1) (cmp_le g2) m2 (order_F _ _ s3 s1 (okLo_right o3) (okLo_right o1)) (order_F _ _ s2 s4 (okHi_right o2) (okHi_right o4))

theorem own : ownKnob Try.prog.godebug = none := by kernel_rfl
set_option maxRecDepth 100000 in
theorem lifted (os : Os) (started : os.Started) (H : Type) (enc : TypeId × Value → H) :
    ReturnsInHanded {} Try.checked os 5 .any (Rows.slabWiderSpec.pre6 enc Try.prog Try.f5 Rows.slabWiderRow.domain false) (Rows.slabWiderSpec.post enc Try.prog Try.f5 false true false false) := by
  refine returnsInHanded_of_change (C := Try.checked) own started (by kernel_rfl) Try.func5
    (ChangeSpec.witness6 (enc := enc) (C := Try.checked) false ⟨#[], #[.agg #[.int .i64 0, .int .i64 0, .int .i64 0], .agg #[.int .i64 0, .int .i64 0, .int .i64 0], .agg #[.int .i64 0, .int .i64 0, .int .i64 0, .int .i64 0, .int .i64 0, .int .i64 0], .agg #[.int .i64 0, .int .i64 0, .int .i64 0, .int .i64 0, .int .i64 0, .int .i64 0]], []⟩ 12 (by kernel_rfl) (by kernel_rfl) (by kernel_rfl) (by kernel_rfl)) ?_
  intro W base args ds gs before hval0 hW hcnd _
  have hval : ∀ (j : Nat) t v, Try.f5.params[j]? = some t → args[j]? = some v → Value.okWide Try.prog W .any base t v := hval0
  have hW' := hW
  obtain ⟨p, q, hA0, hV, rfl, hfz, hnd⟩ := hW
  have hA : DataW.TrodAll enc Try.prog W 0 (fun _ => true) true Try.f5.params.toList args.toList ds p := hA0
  rw [Try.params5] at hA hval
  obtain ⟨v0, vs0, d0, ds0, p0, q0, hargs, rfl, rfl, h0, r0⟩ := trodAll_cons hA
  obtain ⟨v1, vs1, d1, ds1, p1, q1, rfl, rfl, rfl, h1, r1⟩ := trodAll_cons r0
  obtain ⟨v2, vs2, d2, ds2, p2, q2, rfl, rfl, rfl, h2, r2⟩ := trodAll_cons r1
  obtain ⟨v3, vs3, d3, ds3, p3, q3, rfl, rfl, rfl, h3, r3⟩ := trodAll_cons r2
  obtain ⟨rfl, rfl, rfl⟩ := trodAll_nil r3
  obtain rfl : args = #[v0, v1, v2, v3] := by cases args; simp_all
  obtain ⟨a0, rfl, k0⟩ := open_V3 (hval 0 23 v0 rfl rfl) h0
  obtain ⟨a1, rfl, k1⟩ := open_V3 (hval 1 23 v1 rfl rfl) h1
  obtain ⟨bl2, bh2, rfl, k2⟩ := open_B3 (hval 2 25 v2 rfl rfl) h2
  obtain ⟨bl3, bh3, rfl, k3⟩ := open_B3 (hval 3 25 v3 rfl rfl) h3
  refine (walk W a0 k0 a1 k1 bl2 bh2 k2 bl3 bh3 k3).mono fun e W' ⟨he, hb⟩ => ?_
  subst he
  exact ⟨_, rfl, law_post (tb := 4) (by kernel_rfl) (by kernel_rfl) rfl rfl Try.underlying4 rfl rfl rfl hW' hb⟩

theorem over : Rows.slabWiderRow.holds Try.pinned (OpenSpec.ofChange Rows.slabWiderSpec) :=
  OpenClaim.holds_of_wide 5 Try.f5 rfl rfl rfl rfl rfl rfl rfl ⟨rfl, rfl, rfl, rfl, rfl⟩ rfl rfl rfl rfl rfl (by kernel_rfl) Try.func5 (by kernel_rfl)
    (of_decide_eq_true (by kernel_rfl)) (by unfold Func.isWrapper; first | (rw [if_pos (by decide +kernel)]; kernel_rfl) | (rw [if_neg (by decide +kernel)]; exact ⟨rfl, rfl⟩))
    (fun os started H enc _ => lifted os started H enc)

theorem proved : Rows.SlabWiderSaid :=
  over
#print axioms proved
end Go.Proofs.Ytngkimcnolmmoaa.slabWider
