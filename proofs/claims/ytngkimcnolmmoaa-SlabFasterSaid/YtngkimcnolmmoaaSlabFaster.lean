/- SlabFaster holds for every input: the row, out of the walk. No condition. -/
import Derived.Test.YtngkimcnolmmoaaRows
import Derived.Test.YtngkimcnolmmoaaSlab4
import Derived.Test.YtngkimcnolmmoaaMRegion
import Derived.Test.YtngkimcnolmmoaaAlive2
import Derived.Test.YtngkimcnolmmoaaPost
namespace Go.Proofs.Ytngkimcnolmmoaa.slabFaster
open Go.ChangeShapes Go.WideShapes Go.ChangeAt Go.RowKit
set_option linter.unusedVariables false
set_option linter.unusedSimpArgs false
set_option maxRecDepth 100000 in
set_option maxHeartbeats 4000000 in
theorem low (w : World) (o d l h : P3) (k : Int) (hk : k < 1) :
    Calls Try.prog 8 #[.agg #[.int .i64 o.x, .int .i64 o.y, .int .i64 o.z], .agg #[.int .i64 d.x, .int .i64 d.y, .int .i64 d.z], .agg #[.int .i64 l.x, .int .i64 l.y, .int .i64 l.z, .int .i64 h.x, .int .i64 h.y, .int .i64 h.z], .int .i64 k] w fun e w' => e = .returned (.bool true) ∧ Below w.heap.size w w' := by
  have al := alive4_any
  go_enter Try.func8, Try.ntmps8
  go_wp2_with (first | (go_at_call 10; first | ((with_reducible refine (al.at_ _).mono ?_); rintro e w' ⟨rfl, xa, rfl⟩)))
  all_goals
    go_ret
    exact ⟨rfl, (by repeat (first | with_reducible exact Below.refl _ _ | with_reducible refine bel_then ?_ _ | with_reducible refine bel_grow ?_ _ | with_reducible refine bel_alloc ?_ _ | with_reducible refine bel_drew ?_ | with_reducible refine bel_set ?_ (by simp) _ | with_reducible refine bel_setRow ?_ (by first | omega | (simp; done) | (refine Nat.le_trans ?_ (top_le _ _); simp; done) | (refine Nat.le_succ_of_le (Nat.le_trans ?_ (top_le _ _)); simp; done)) _))⟩
set_option maxRecDepth 100000 in
set_option maxHeartbeats 4000000 in
theorem high (w : World) (o d l h : P3) (k : Int) (hk : 1000 < k) :
    Calls Try.prog 8 #[.agg #[.int .i64 o.x, .int .i64 o.y, .int .i64 o.z], .agg #[.int .i64 d.x, .int .i64 d.y, .int .i64 d.z], .agg #[.int .i64 l.x, .int .i64 l.y, .int .i64 l.z, .int .i64 h.x, .int .i64 h.y, .int .i64 h.z], .int .i64 k] w fun e w' => e = .returned (.bool true) ∧ Below w.heap.size w w' := by
  have al := alive4_any
  go_enter Try.func8, Try.ntmps8
  go_wp2_with (first | (go_at_call 10; first | ((with_reducible refine (al.at_ _).mono ?_); rintro e w' ⟨rfl, xa, rfl⟩)))
  all_goals
    go_ret
    exact ⟨rfl, (by repeat (first | with_reducible exact Below.refl _ _ | with_reducible refine bel_then ?_ _ | with_reducible refine bel_grow ?_ _ | with_reducible refine bel_alloc ?_ _ | with_reducible refine bel_drew ?_ | with_reducible refine bel_set ?_ (by simp) _ | with_reducible refine bel_setRow ?_ (by first | omega | (simp; done) | (refine Nat.le_trans ?_ (top_le _ _); simp; done) | (refine Nat.le_succ_of_le (Nat.le_trans ?_ (top_le _ _)); simp; done)) _))⟩
set_option maxRecDepth 100000 in
set_option maxHeartbeats 4000000 in
theorem farA (w : World) (o d l h d2 : P3) (k : Int) (hk1 : 1 ≤ k) (hk2 : k ≤ 1000) (a b : Fr) (m1 : Gives Try.prog 11 #[.agg #[.int .i64 o.x, .int .i64 o.y, .int .i64 o.z], .agg #[.int .i64 d.x, .int .i64 d.y, .int .i64 d.z], .agg #[.int .i64 l.x, .int .i64 l.y, .int .i64 l.z, .int .i64 h.x, .int .i64 h.y, .int .i64 h.z]] (.tuple #[.agg #[.int .i64 a.n, .int .i64 a.d], .agg #[.int .i64 b.n, .int .i64 b.d], .bool false, .int .i64 21])) (ks : Gives Try.prog 20 #[.agg #[.int .i64 d.x, .int .i64 d.y, .int .i64 d.z], .int .i64 k] (.agg #[.int .i64 d2.x, .int .i64 d2.y, .int .i64 d2.z])) (x y : Fr) (is : Bool) (f : Int) (m2 : Gives Try.prog 11 #[.agg #[.int .i64 o.x, .int .i64 o.y, .int .i64 o.z], .agg #[.int .i64 d2.x, .int .i64 d2.y, .int .i64 d2.z], .agg #[.int .i64 l.x, .int .i64 l.y, .int .i64 l.z, .int .i64 h.x, .int .i64 h.y, .int .i64 h.z]] (.tuple #[.agg #[.int .i64 x.n, .int .i64 x.d], .agg #[.int .i64 y.n, .int .i64 y.d], .bool is, .int .i64 f])) :
    Calls Try.prog 8 #[.agg #[.int .i64 o.x, .int .i64 o.y, .int .i64 o.z], .agg #[.int .i64 d.x, .int .i64 d.y, .int .i64 d.z], .agg #[.int .i64 l.x, .int .i64 l.y, .int .i64 l.z, .int .i64 h.x, .int .i64 h.y, .int .i64 h.z], .int .i64 k] w fun e w' => e = .returned (.bool true) ∧ Below w.heap.size w w' := by
  have al := alive4_any
  go_enter Try.func8, Try.ntmps8
  go_upto_region 6 with (first | (go_at_call 10; first | ((with_reducible refine (al.at_ _).mono ?_); rintro e w' ⟨rfl, xa, rfl⟩)) | (go_at_call 11; first | ((with_reducible refine (m1.at_ _).mono ?_); rintro e w' ⟨rfl, xr, rfl⟩)))
  refine wp_region_two 11 ?_ 13 14 28 #[.int .i64 0, .int .i64 0] #[.int .i64 x.n, .int .i64 x.d] #[.int .i64 y.n, .int .i64 y.d] (by kernel_rfl) (by kernel_rfl) (by kernel_rfl) (by decide) (fun d hd => by cases hd; exact ⟨_, rfl, rfl, rfl, fun A u => alloc_frac A _ rfl u⟩) (fun d hd => by cases hd; exact ⟨_, rfl, rfl, rfl, fun A u => alloc_frac A _ rfl u⟩) (fun pp => ?_) (fun ga gb => ?_) (fun ga gb => ?_) (fun ga gb => ⟨?_, ?_, fun x => ?_, fun u hu => ?_⟩)
  rotate_left
  · simp only [List.take_succ_cons, List.take_zero]
    repeat (go_big_quiet_step (((first | with_reducible exact ks.quiet _ | with_reducible exact ks.quiet2 _ _ | with_reducible exact m2.quiet _ | with_reducible exact m2.quiet2 _ _))))
    refine wpQuiet_nil ?_
    exact rfl
  · exact ⟨_, rfl, storeS_row 28 _ _ _ _ rfl rfl rfl rfl rfl infoF rfl (by simp [Value.oneCell'])⟩
  · exact ⟨_, rfl, storeS_row 28 _ _ _ _ rfl rfl rfl rfl rfl infoF rfl (by simp [Value.oneCell'])⟩
  rotate_left
  · kernel_rfl
  · simp only [List.drop_succ_cons, List.drop_zero]
    try simp only [Act.put, List.setIfInBounds_toArray, List.set_cons_succ, List.set_cons_zero]
    repeat (go_big_quiet_step ((fail)))
    refine wpQuiet_nil ?_
    exact rfl
  obtain ⟨hbel, hne, ⟨hga, hba⟩, hgb, hbb⟩ := hu
  have q1 : Blk (((grow (((w.alloc (.cells #[.int .i64 o.x, .int .i64 o.y, .int .i64 o.z] 23)).alloc (.cells #[.int .i64 d.x, .int .i64 d.y, .int .i64 d.z] 23)).alloc (.cells #[.int .i64 l.x, .int .i64 l.y, .int .i64 l.z, .int .i64 h.x, .int .i64 h.y, .int .i64 h.z] 25)) (xa.then xr)).alloc (.cells #[.int .i64 a.n, .int .i64 a.d] 28)).alloc (.cells #[.int .i64 b.n, .int .i64 b.d] 28)) ((grow (((w.alloc (.cells #[.int .i64 o.x, .int .i64 o.y, .int .i64 o.z] 23)).alloc (.cells #[.int .i64 d.x, .int .i64 d.y, .int .i64 d.z] 23)).alloc (.cells #[.int .i64 l.x, .int .i64 l.y, .int .i64 l.z, .int .i64 h.x, .int .i64 h.y, .int .i64 h.z] 25)) (xa.then xr)).heap.size) 28 #[.int .i64 a.n, .int .i64 a.d] := (Blk.new _ _ _ _ rfl).alloc _
  have q2 : Blk (((grow (((w.alloc (.cells #[.int .i64 o.x, .int .i64 o.y, .int .i64 o.z] 23)).alloc (.cells #[.int .i64 d.x, .int .i64 d.y, .int .i64 d.z] 23)).alloc (.cells #[.int .i64 l.x, .int .i64 l.y, .int .i64 l.z, .int .i64 h.x, .int .i64 h.y, .int .i64 h.z] 25)) (xa.then xr)).alloc (.cells #[.int .i64 a.n, .int .i64 a.d] 28)).alloc (.cells #[.int .i64 b.n, .int .i64 b.d] 28)) ((grow (((w.alloc (.cells #[.int .i64 o.x, .int .i64 o.y, .int .i64 o.z] 23)).alloc (.cells #[.int .i64 d.x, .int .i64 d.y, .int .i64 d.z] 23)).alloc (.cells #[.int .i64 l.x, .int .i64 l.y, .int .i64 l.z, .int .i64 h.x, .int .i64 h.y, .int .i64 h.z] 25)) (xa.then xr)).heap.size + 1) 28 #[.int .i64 b.n, .int .i64 b.d] := Blk.new _ _ _ _ (by simp)
  have C1 := q1.below hbel
  have C2 := q2.below hbel
  have CB : Below w.heap.size w u := bel_trans (a := w) (w := (((grow (((w.alloc (.cells #[.int .i64 o.x, .int .i64 o.y, .int .i64 o.z] 23)).alloc (.cells #[.int .i64 d.x, .int .i64 d.y, .int .i64 d.z] 23)).alloc (.cells #[.int .i64 l.x, .int .i64 l.y, .int .i64 l.z, .int .i64 h.x, .int .i64 h.y, .int .i64 h.z] 25)) (xa.then xr)).alloc (.cells #[.int .i64 a.n, .int .i64 a.d] 28)).alloc (.cells #[.int .i64 b.n, .int .i64 b.d] 28))) (by repeat (first | with_reducible exact Below.refl _ _ | with_reducible refine bel_then ?_ _ | with_reducible refine bel_grow ?_ _ | with_reducible refine bel_alloc ?_ _ | with_reducible refine bel_drew ?_ | with_reducible refine bel_set ?_ (by simp) _ | with_reducible refine bel_setRow ?_ (by first | omega | (simp; done) | (refine Nat.le_trans ?_ (top_le _ _); simp; done) | (refine Nat.le_succ_of_le (Nat.le_trans ?_ (top_le _ _)); simp; done)) _)) hbel
  have m1_ : (grow (((w.alloc (.cells #[.int .i64 o.x, .int .i64 o.y, .int .i64 o.z] 23)).alloc (.cells #[.int .i64 d.x, .int .i64 d.y, .int .i64 d.z] 23)).alloc (.cells #[.int .i64 l.x, .int .i64 l.y, .int .i64 l.z, .int .i64 h.x, .int .i64 h.y, .int .i64 h.z] 25)) (xa.then xr)).heap.size ≠ ga := Nat.ne_of_lt (Nat.lt_of_lt_of_le q1.lt hga)
  have m2_ : (grow (((w.alloc (.cells #[.int .i64 o.x, .int .i64 o.y, .int .i64 o.z] 23)).alloc (.cells #[.int .i64 d.x, .int .i64 d.y, .int .i64 d.z] 23)).alloc (.cells #[.int .i64 l.x, .int .i64 l.y, .int .i64 l.z, .int .i64 h.x, .int .i64 h.y, .int .i64 h.z] 25)) (xa.then xr)).heap.size ≠ gb := Nat.ne_of_lt (Nat.lt_of_lt_of_le q1.lt hgb)
  have m3_ : (grow (((w.alloc (.cells #[.int .i64 o.x, .int .i64 o.y, .int .i64 o.z] 23)).alloc (.cells #[.int .i64 d.x, .int .i64 d.y, .int .i64 d.z] 23)).alloc (.cells #[.int .i64 l.x, .int .i64 l.y, .int .i64 l.z, .int .i64 h.x, .int .i64 h.y, .int .i64 h.z] 25)) (xa.then xr)).heap.size + 1 ≠ ga := Nat.ne_of_lt (Nat.lt_of_lt_of_le q2.lt hga)
  have m4_ : (grow (((w.alloc (.cells #[.int .i64 o.x, .int .i64 o.y, .int .i64 o.z] 23)).alloc (.cells #[.int .i64 d.x, .int .i64 d.y, .int .i64 d.z] 23)).alloc (.cells #[.int .i64 l.x, .int .i64 l.y, .int .i64 l.z, .int .i64 h.x, .int .i64 h.y, .int .i64 h.z] 25)) (xa.then xr)).heap.size + 1 ≠ gb := Nat.ne_of_lt (Nat.lt_of_lt_of_le q2.lt hgb)
  clear q1 q2 hbel hga hgb
  simp only [ptr]
  generalize (grow (((w.alloc (.cells #[.int .i64 o.x, .int .i64 o.y, .int .i64 o.z] 23)).alloc (.cells #[.int .i64 d.x, .int .i64 d.y, .int .i64 d.z] 23)).alloc (.cells #[.int .i64 l.x, .int .i64 l.y, .int .i64 l.z, .int .i64 h.x, .int .i64 h.y, .int .i64 h.z] 25)) (xa.then xr)).heap.size + 1 = g2 at *
  generalize (grow (((w.alloc (.cells #[.int .i64 o.x, .int .i64 o.y, .int .i64 o.z] 23)).alloc (.cells #[.int .i64 d.x, .int .i64 d.y, .int .i64 d.z] 23)).alloc (.cells #[.int .i64 l.x, .int .i64 l.y, .int .i64 l.z, .int .i64 h.x, .int .i64 h.y, .int .i64 h.z] 25)) (xa.then xr)).heap.size = g1 at *
  have l1 := C1.lt
  have c10 := C1.cell 0
  have c11 := C1.cell 1
  have l2 := C2.lt
  have c20 := C2.cell 0
  have c21 := C2.cell 1
  have l3 := hba.lt
  have c30 := hba.cell 0
  have c31 := hba.cell 1
  have l4 := hbb.lt
  have c40 := hbb.cell 0
  have c41 := hbb.cell 1
  simp at c10 c11 c20 c21 c30 c31 c40 c41
  clear C1 C2 hba hbb
  go_wp2_with (first | fail)
  all_goals
    go_ret
    exact ⟨rfl, (by repeat (first | with_reducible exact CB | with_reducible refine bel_then ?_ _ | with_reducible refine bel_grow ?_ _ | with_reducible refine bel_alloc ?_ _ | with_reducible refine bel_drew ?_ | with_reducible refine bel_set ?_ (by simp) _ | with_reducible refine bel_setRow ?_ (by first | omega | (simp; done) | (refine Nat.le_trans ?_ (top_le _ _); simp; done) | (refine Nat.le_succ_of_le (Nat.le_trans ?_ (top_le _ _)); simp; done)) _))⟩
set_option maxRecDepth 100000 in
set_option maxHeartbeats 4000000 in
theorem farB (w : World) (o d l h d2 : P3) (k : Int) (hk1 : 1 ≤ k) (hk2 : k ≤ 1000) (a b : Fr) (ok : Bool) (m1 : Gives Try.prog 11 #[.agg #[.int .i64 o.x, .int .i64 o.y, .int .i64 o.z], .agg #[.int .i64 d.x, .int .i64 d.y, .int .i64 d.z], .agg #[.int .i64 l.x, .int .i64 l.y, .int .i64 l.z, .int .i64 h.x, .int .i64 h.y, .int .i64 h.z]] (.tuple #[.agg #[.int .i64 a.n, .int .i64 a.d], .agg #[.int .i64 b.n, .int .i64 b.d], .bool ok, .int .i64 0])) (ks : Gives Try.prog 20 #[.agg #[.int .i64 d.x, .int .i64 d.y, .int .i64 d.z], .int .i64 k] (.agg #[.int .i64 d2.x, .int .i64 d2.y, .int .i64 d2.z])) (x y : Fr) (is : Bool) (m2 : Gives Try.prog 11 #[.agg #[.int .i64 o.x, .int .i64 o.y, .int .i64 o.z], .agg #[.int .i64 d2.x, .int .i64 d2.y, .int .i64 d2.z], .agg #[.int .i64 l.x, .int .i64 l.y, .int .i64 l.z, .int .i64 h.x, .int .i64 h.y, .int .i64 h.z]] (.tuple #[.agg #[.int .i64 x.n, .int .i64 x.d], .agg #[.int .i64 y.n, .int .i64 y.d], .bool is, .int .i64 21])) :
    Calls Try.prog 8 #[.agg #[.int .i64 o.x, .int .i64 o.y, .int .i64 o.z], .agg #[.int .i64 d.x, .int .i64 d.y, .int .i64 d.z], .agg #[.int .i64 l.x, .int .i64 l.y, .int .i64 l.z, .int .i64 h.x, .int .i64 h.y, .int .i64 h.z], .int .i64 k] w fun e w' => e = .returned (.bool true) ∧ Below w.heap.size w w' := by
  have al := alive4_any
  go_enter Try.func8, Try.ntmps8
  go_upto_region 6 with (first | (go_at_call 10; first | ((with_reducible refine (al.at_ _).mono ?_); rintro e w' ⟨rfl, xa, rfl⟩)) | (go_at_call 11; first | ((with_reducible refine (m1.at_ _).mono ?_); rintro e w' ⟨rfl, xr, rfl⟩)))
  refine wp_region_two 11 ?_ 13 14 28 #[.int .i64 0, .int .i64 0] #[.int .i64 x.n, .int .i64 x.d] #[.int .i64 y.n, .int .i64 y.d] (by kernel_rfl) (by kernel_rfl) (by kernel_rfl) (by decide) (fun d hd => by cases hd; exact ⟨_, rfl, rfl, rfl, fun A u => alloc_frac A _ rfl u⟩) (fun d hd => by cases hd; exact ⟨_, rfl, rfl, rfl, fun A u => alloc_frac A _ rfl u⟩) (fun pp => ?_) (fun ga gb => ?_) (fun ga gb => ?_) (fun ga gb => ⟨?_, ?_, fun x => ?_, fun u hu => ?_⟩)
  rotate_left
  · simp only [List.take_succ_cons, List.take_zero]
    repeat (go_big_quiet_step (((first | with_reducible exact ks.quiet _ | with_reducible exact ks.quiet2 _ _ | with_reducible exact m2.quiet _ | with_reducible exact m2.quiet2 _ _))))
    refine wpQuiet_nil ?_
    exact rfl
  · exact ⟨_, rfl, storeS_row 28 _ _ _ _ rfl rfl rfl rfl rfl infoF rfl (by simp [Value.oneCell'])⟩
  · exact ⟨_, rfl, storeS_row 28 _ _ _ _ rfl rfl rfl rfl rfl infoF rfl (by simp [Value.oneCell'])⟩
  rotate_left
  · kernel_rfl
  · simp only [List.drop_succ_cons, List.drop_zero]
    try simp only [Act.put, List.setIfInBounds_toArray, List.set_cons_succ, List.set_cons_zero]
    repeat (go_big_quiet_step ((fail)))
    refine wpQuiet_nil ?_
    exact rfl
  obtain ⟨hbel, hne, ⟨hga, hba⟩, hgb, hbb⟩ := hu
  have q1 : Blk (((grow (((w.alloc (.cells #[.int .i64 o.x, .int .i64 o.y, .int .i64 o.z] 23)).alloc (.cells #[.int .i64 d.x, .int .i64 d.y, .int .i64 d.z] 23)).alloc (.cells #[.int .i64 l.x, .int .i64 l.y, .int .i64 l.z, .int .i64 h.x, .int .i64 h.y, .int .i64 h.z] 25)) (xa.then xr)).alloc (.cells #[.int .i64 a.n, .int .i64 a.d] 28)).alloc (.cells #[.int .i64 b.n, .int .i64 b.d] 28)) ((grow (((w.alloc (.cells #[.int .i64 o.x, .int .i64 o.y, .int .i64 o.z] 23)).alloc (.cells #[.int .i64 d.x, .int .i64 d.y, .int .i64 d.z] 23)).alloc (.cells #[.int .i64 l.x, .int .i64 l.y, .int .i64 l.z, .int .i64 h.x, .int .i64 h.y, .int .i64 h.z] 25)) (xa.then xr)).heap.size) 28 #[.int .i64 a.n, .int .i64 a.d] := (Blk.new _ _ _ _ rfl).alloc _
  have q2 : Blk (((grow (((w.alloc (.cells #[.int .i64 o.x, .int .i64 o.y, .int .i64 o.z] 23)).alloc (.cells #[.int .i64 d.x, .int .i64 d.y, .int .i64 d.z] 23)).alloc (.cells #[.int .i64 l.x, .int .i64 l.y, .int .i64 l.z, .int .i64 h.x, .int .i64 h.y, .int .i64 h.z] 25)) (xa.then xr)).alloc (.cells #[.int .i64 a.n, .int .i64 a.d] 28)).alloc (.cells #[.int .i64 b.n, .int .i64 b.d] 28)) ((grow (((w.alloc (.cells #[.int .i64 o.x, .int .i64 o.y, .int .i64 o.z] 23)).alloc (.cells #[.int .i64 d.x, .int .i64 d.y, .int .i64 d.z] 23)).alloc (.cells #[.int .i64 l.x, .int .i64 l.y, .int .i64 l.z, .int .i64 h.x, .int .i64 h.y, .int .i64 h.z] 25)) (xa.then xr)).heap.size + 1) 28 #[.int .i64 b.n, .int .i64 b.d] := Blk.new _ _ _ _ (by simp)
  have C1 := q1.below hbel
  have C2 := q2.below hbel
  have CB : Below w.heap.size w u := bel_trans (a := w) (w := (((grow (((w.alloc (.cells #[.int .i64 o.x, .int .i64 o.y, .int .i64 o.z] 23)).alloc (.cells #[.int .i64 d.x, .int .i64 d.y, .int .i64 d.z] 23)).alloc (.cells #[.int .i64 l.x, .int .i64 l.y, .int .i64 l.z, .int .i64 h.x, .int .i64 h.y, .int .i64 h.z] 25)) (xa.then xr)).alloc (.cells #[.int .i64 a.n, .int .i64 a.d] 28)).alloc (.cells #[.int .i64 b.n, .int .i64 b.d] 28))) (by repeat (first | with_reducible exact Below.refl _ _ | with_reducible refine bel_then ?_ _ | with_reducible refine bel_grow ?_ _ | with_reducible refine bel_alloc ?_ _ | with_reducible refine bel_drew ?_ | with_reducible refine bel_set ?_ (by simp) _ | with_reducible refine bel_setRow ?_ (by first | omega | (simp; done) | (refine Nat.le_trans ?_ (top_le _ _); simp; done) | (refine Nat.le_succ_of_le (Nat.le_trans ?_ (top_le _ _)); simp; done)) _)) hbel
  have m1_ : (grow (((w.alloc (.cells #[.int .i64 o.x, .int .i64 o.y, .int .i64 o.z] 23)).alloc (.cells #[.int .i64 d.x, .int .i64 d.y, .int .i64 d.z] 23)).alloc (.cells #[.int .i64 l.x, .int .i64 l.y, .int .i64 l.z, .int .i64 h.x, .int .i64 h.y, .int .i64 h.z] 25)) (xa.then xr)).heap.size ≠ ga := Nat.ne_of_lt (Nat.lt_of_lt_of_le q1.lt hga)
  have m2_ : (grow (((w.alloc (.cells #[.int .i64 o.x, .int .i64 o.y, .int .i64 o.z] 23)).alloc (.cells #[.int .i64 d.x, .int .i64 d.y, .int .i64 d.z] 23)).alloc (.cells #[.int .i64 l.x, .int .i64 l.y, .int .i64 l.z, .int .i64 h.x, .int .i64 h.y, .int .i64 h.z] 25)) (xa.then xr)).heap.size ≠ gb := Nat.ne_of_lt (Nat.lt_of_lt_of_le q1.lt hgb)
  have m3_ : (grow (((w.alloc (.cells #[.int .i64 o.x, .int .i64 o.y, .int .i64 o.z] 23)).alloc (.cells #[.int .i64 d.x, .int .i64 d.y, .int .i64 d.z] 23)).alloc (.cells #[.int .i64 l.x, .int .i64 l.y, .int .i64 l.z, .int .i64 h.x, .int .i64 h.y, .int .i64 h.z] 25)) (xa.then xr)).heap.size + 1 ≠ ga := Nat.ne_of_lt (Nat.lt_of_lt_of_le q2.lt hga)
  have m4_ : (grow (((w.alloc (.cells #[.int .i64 o.x, .int .i64 o.y, .int .i64 o.z] 23)).alloc (.cells #[.int .i64 d.x, .int .i64 d.y, .int .i64 d.z] 23)).alloc (.cells #[.int .i64 l.x, .int .i64 l.y, .int .i64 l.z, .int .i64 h.x, .int .i64 h.y, .int .i64 h.z] 25)) (xa.then xr)).heap.size + 1 ≠ gb := Nat.ne_of_lt (Nat.lt_of_lt_of_le q2.lt hgb)
  clear q1 q2 hbel hga hgb
  simp only [ptr]
  generalize (grow (((w.alloc (.cells #[.int .i64 o.x, .int .i64 o.y, .int .i64 o.z] 23)).alloc (.cells #[.int .i64 d.x, .int .i64 d.y, .int .i64 d.z] 23)).alloc (.cells #[.int .i64 l.x, .int .i64 l.y, .int .i64 l.z, .int .i64 h.x, .int .i64 h.y, .int .i64 h.z] 25)) (xa.then xr)).heap.size + 1 = g2 at *
  generalize (grow (((w.alloc (.cells #[.int .i64 o.x, .int .i64 o.y, .int .i64 o.z] 23)).alloc (.cells #[.int .i64 d.x, .int .i64 d.y, .int .i64 d.z] 23)).alloc (.cells #[.int .i64 l.x, .int .i64 l.y, .int .i64 l.z, .int .i64 h.x, .int .i64 h.y, .int .i64 h.z] 25)) (xa.then xr)).heap.size = g1 at *
  have l1 := C1.lt
  have c10 := C1.cell 0
  have c11 := C1.cell 1
  have l2 := C2.lt
  have c20 := C2.cell 0
  have c21 := C2.cell 1
  have l3 := hba.lt
  have c30 := hba.cell 0
  have c31 := hba.cell 1
  have l4 := hbb.lt
  have c40 := hbb.cell 0
  have c41 := hbb.cell 1
  simp at c10 c11 c20 c21 c30 c31 c40 c41
  clear C1 C2 hba hbb
  go_wp2_with (first | fail)
  all_goals
    go_ret
    exact ⟨rfl, (by repeat (first | with_reducible exact CB | with_reducible refine bel_then ?_ _ | with_reducible refine bel_grow ?_ _ | with_reducible refine bel_alloc ?_ _ | with_reducible refine bel_drew ?_ | with_reducible refine bel_set ?_ (by simp) _ | with_reducible refine bel_setRow ?_ (by first | omega | (simp; done) | (refine Nat.le_trans ?_ (top_le _ _); simp; done) | (refine Nat.le_succ_of_le (Nat.le_trans ?_ (top_le _ _)); simp; done)) _))⟩
set_option maxRecDepth 100000 in
set_option maxHeartbeats 4000000 in
theorem nn (w : World) (o d l h d2 : P3) (k : Int) (hk1 : 1 ≤ k) (hk2 : k ≤ 1000) (a b : Fr) (m1 : Gives Try.prog 11 #[.agg #[.int .i64 o.x, .int .i64 o.y, .int .i64 o.z], .agg #[.int .i64 d.x, .int .i64 d.y, .int .i64 d.z], .agg #[.int .i64 l.x, .int .i64 l.y, .int .i64 l.z, .int .i64 h.x, .int .i64 h.y, .int .i64 h.z]] (.tuple #[.agg #[.int .i64 a.n, .int .i64 a.d], .agg #[.int .i64 b.n, .int .i64 b.d], .bool false, .int .i64 0])) (ks : Gives Try.prog 20 #[.agg #[.int .i64 d.x, .int .i64 d.y, .int .i64 d.z], .int .i64 k] (.agg #[.int .i64 d2.x, .int .i64 d2.y, .int .i64 d2.z])) (x y : Fr) (m2 : Gives Try.prog 11 #[.agg #[.int .i64 o.x, .int .i64 o.y, .int .i64 o.z], .agg #[.int .i64 d2.x, .int .i64 d2.y, .int .i64 d2.z], .agg #[.int .i64 l.x, .int .i64 l.y, .int .i64 l.z, .int .i64 h.x, .int .i64 h.y, .int .i64 h.z]] (.tuple #[.agg #[.int .i64 x.n, .int .i64 x.d], .agg #[.int .i64 y.n, .int .i64 y.d], .bool false, .int .i64 0])) :
    Calls Try.prog 8 #[.agg #[.int .i64 o.x, .int .i64 o.y, .int .i64 o.z], .agg #[.int .i64 d.x, .int .i64 d.y, .int .i64 d.z], .agg #[.int .i64 l.x, .int .i64 l.y, .int .i64 l.z, .int .i64 h.x, .int .i64 h.y, .int .i64 h.z], .int .i64 k] w fun e w' => e = .returned (.bool true) ∧ Below w.heap.size w w' := by
  have al := alive4_any
  go_enter Try.func8, Try.ntmps8
  go_upto_region 6 with (first | (go_at_call 10; first | ((with_reducible refine (al.at_ _).mono ?_); rintro e w' ⟨rfl, xa, rfl⟩)) | (go_at_call 11; first | ((with_reducible refine (m1.at_ _).mono ?_); rintro e w' ⟨rfl, xr, rfl⟩)))
  refine wp_region_two 11 ?_ 13 14 28 #[.int .i64 0, .int .i64 0] #[.int .i64 x.n, .int .i64 x.d] #[.int .i64 y.n, .int .i64 y.d] (by kernel_rfl) (by kernel_rfl) (by kernel_rfl) (by decide) (fun d hd => by cases hd; exact ⟨_, rfl, rfl, rfl, fun A u => alloc_frac A _ rfl u⟩) (fun d hd => by cases hd; exact ⟨_, rfl, rfl, rfl, fun A u => alloc_frac A _ rfl u⟩) (fun pp => ?_) (fun ga gb => ?_) (fun ga gb => ?_) (fun ga gb => ⟨?_, ?_, fun x => ?_, fun u hu => ?_⟩)
  rotate_left
  · simp only [List.take_succ_cons, List.take_zero]
    repeat (go_big_quiet_step (((first | with_reducible exact ks.quiet _ | with_reducible exact ks.quiet2 _ _ | with_reducible exact m2.quiet _ | with_reducible exact m2.quiet2 _ _))))
    refine wpQuiet_nil ?_
    exact rfl
  · exact ⟨_, rfl, storeS_row 28 _ _ _ _ rfl rfl rfl rfl rfl infoF rfl (by simp [Value.oneCell'])⟩
  · exact ⟨_, rfl, storeS_row 28 _ _ _ _ rfl rfl rfl rfl rfl infoF rfl (by simp [Value.oneCell'])⟩
  rotate_left
  · kernel_rfl
  · simp only [List.drop_succ_cons, List.drop_zero]
    try simp only [Act.put, List.setIfInBounds_toArray, List.set_cons_succ, List.set_cons_zero]
    repeat (go_big_quiet_step ((fail)))
    refine wpQuiet_nil ?_
    exact rfl
  obtain ⟨hbel, hne, ⟨hga, hba⟩, hgb, hbb⟩ := hu
  have q1 : Blk (((grow (((w.alloc (.cells #[.int .i64 o.x, .int .i64 o.y, .int .i64 o.z] 23)).alloc (.cells #[.int .i64 d.x, .int .i64 d.y, .int .i64 d.z] 23)).alloc (.cells #[.int .i64 l.x, .int .i64 l.y, .int .i64 l.z, .int .i64 h.x, .int .i64 h.y, .int .i64 h.z] 25)) (xa.then xr)).alloc (.cells #[.int .i64 a.n, .int .i64 a.d] 28)).alloc (.cells #[.int .i64 b.n, .int .i64 b.d] 28)) ((grow (((w.alloc (.cells #[.int .i64 o.x, .int .i64 o.y, .int .i64 o.z] 23)).alloc (.cells #[.int .i64 d.x, .int .i64 d.y, .int .i64 d.z] 23)).alloc (.cells #[.int .i64 l.x, .int .i64 l.y, .int .i64 l.z, .int .i64 h.x, .int .i64 h.y, .int .i64 h.z] 25)) (xa.then xr)).heap.size) 28 #[.int .i64 a.n, .int .i64 a.d] := (Blk.new _ _ _ _ rfl).alloc _
  have q2 : Blk (((grow (((w.alloc (.cells #[.int .i64 o.x, .int .i64 o.y, .int .i64 o.z] 23)).alloc (.cells #[.int .i64 d.x, .int .i64 d.y, .int .i64 d.z] 23)).alloc (.cells #[.int .i64 l.x, .int .i64 l.y, .int .i64 l.z, .int .i64 h.x, .int .i64 h.y, .int .i64 h.z] 25)) (xa.then xr)).alloc (.cells #[.int .i64 a.n, .int .i64 a.d] 28)).alloc (.cells #[.int .i64 b.n, .int .i64 b.d] 28)) ((grow (((w.alloc (.cells #[.int .i64 o.x, .int .i64 o.y, .int .i64 o.z] 23)).alloc (.cells #[.int .i64 d.x, .int .i64 d.y, .int .i64 d.z] 23)).alloc (.cells #[.int .i64 l.x, .int .i64 l.y, .int .i64 l.z, .int .i64 h.x, .int .i64 h.y, .int .i64 h.z] 25)) (xa.then xr)).heap.size + 1) 28 #[.int .i64 b.n, .int .i64 b.d] := Blk.new _ _ _ _ (by simp)
  have C1 := q1.below hbel
  have C2 := q2.below hbel
  have CB : Below w.heap.size w u := bel_trans (a := w) (w := (((grow (((w.alloc (.cells #[.int .i64 o.x, .int .i64 o.y, .int .i64 o.z] 23)).alloc (.cells #[.int .i64 d.x, .int .i64 d.y, .int .i64 d.z] 23)).alloc (.cells #[.int .i64 l.x, .int .i64 l.y, .int .i64 l.z, .int .i64 h.x, .int .i64 h.y, .int .i64 h.z] 25)) (xa.then xr)).alloc (.cells #[.int .i64 a.n, .int .i64 a.d] 28)).alloc (.cells #[.int .i64 b.n, .int .i64 b.d] 28))) (by repeat (first | with_reducible exact Below.refl _ _ | with_reducible refine bel_then ?_ _ | with_reducible refine bel_grow ?_ _ | with_reducible refine bel_alloc ?_ _ | with_reducible refine bel_drew ?_ | with_reducible refine bel_set ?_ (by simp) _ | with_reducible refine bel_setRow ?_ (by first | omega | (simp; done) | (refine Nat.le_trans ?_ (top_le _ _); simp; done) | (refine Nat.le_succ_of_le (Nat.le_trans ?_ (top_le _ _)); simp; done)) _)) hbel
  have m1_ : (grow (((w.alloc (.cells #[.int .i64 o.x, .int .i64 o.y, .int .i64 o.z] 23)).alloc (.cells #[.int .i64 d.x, .int .i64 d.y, .int .i64 d.z] 23)).alloc (.cells #[.int .i64 l.x, .int .i64 l.y, .int .i64 l.z, .int .i64 h.x, .int .i64 h.y, .int .i64 h.z] 25)) (xa.then xr)).heap.size ≠ ga := Nat.ne_of_lt (Nat.lt_of_lt_of_le q1.lt hga)
  have m2_ : (grow (((w.alloc (.cells #[.int .i64 o.x, .int .i64 o.y, .int .i64 o.z] 23)).alloc (.cells #[.int .i64 d.x, .int .i64 d.y, .int .i64 d.z] 23)).alloc (.cells #[.int .i64 l.x, .int .i64 l.y, .int .i64 l.z, .int .i64 h.x, .int .i64 h.y, .int .i64 h.z] 25)) (xa.then xr)).heap.size ≠ gb := Nat.ne_of_lt (Nat.lt_of_lt_of_le q1.lt hgb)
  have m3_ : (grow (((w.alloc (.cells #[.int .i64 o.x, .int .i64 o.y, .int .i64 o.z] 23)).alloc (.cells #[.int .i64 d.x, .int .i64 d.y, .int .i64 d.z] 23)).alloc (.cells #[.int .i64 l.x, .int .i64 l.y, .int .i64 l.z, .int .i64 h.x, .int .i64 h.y, .int .i64 h.z] 25)) (xa.then xr)).heap.size + 1 ≠ ga := Nat.ne_of_lt (Nat.lt_of_lt_of_le q2.lt hga)
  have m4_ : (grow (((w.alloc (.cells #[.int .i64 o.x, .int .i64 o.y, .int .i64 o.z] 23)).alloc (.cells #[.int .i64 d.x, .int .i64 d.y, .int .i64 d.z] 23)).alloc (.cells #[.int .i64 l.x, .int .i64 l.y, .int .i64 l.z, .int .i64 h.x, .int .i64 h.y, .int .i64 h.z] 25)) (xa.then xr)).heap.size + 1 ≠ gb := Nat.ne_of_lt (Nat.lt_of_lt_of_le q2.lt hgb)
  clear q1 q2 hbel hga hgb
  simp only [ptr]
  generalize (grow (((w.alloc (.cells #[.int .i64 o.x, .int .i64 o.y, .int .i64 o.z] 23)).alloc (.cells #[.int .i64 d.x, .int .i64 d.y, .int .i64 d.z] 23)).alloc (.cells #[.int .i64 l.x, .int .i64 l.y, .int .i64 l.z, .int .i64 h.x, .int .i64 h.y, .int .i64 h.z] 25)) (xa.then xr)).heap.size + 1 = g2 at *
  generalize (grow (((w.alloc (.cells #[.int .i64 o.x, .int .i64 o.y, .int .i64 o.z] 23)).alloc (.cells #[.int .i64 d.x, .int .i64 d.y, .int .i64 d.z] 23)).alloc (.cells #[.int .i64 l.x, .int .i64 l.y, .int .i64 l.z, .int .i64 h.x, .int .i64 h.y, .int .i64 h.z] 25)) (xa.then xr)).heap.size = g1 at *
  have l1 := C1.lt
  have c10 := C1.cell 0
  have c11 := C1.cell 1
  have l2 := C2.lt
  have c20 := C2.cell 0
  have c21 := C2.cell 1
  have l3 := hba.lt
  have c30 := hba.cell 0
  have c31 := hba.cell 1
  have l4 := hbb.lt
  have c40 := hbb.cell 0
  have c41 := hbb.cell 1
  simp at c10 c11 c20 c21 c30 c31 c40 c41
  clear C1 C2 hba hbb
  go_wp2_with (first | fail)
  all_goals
    go_ret
    exact ⟨rfl, (by repeat (first | with_reducible exact CB | with_reducible refine bel_then ?_ _ | with_reducible refine bel_grow ?_ _ | with_reducible refine bel_alloc ?_ _ | with_reducible refine bel_drew ?_ | with_reducible refine bel_set ?_ (by simp) _ | with_reducible refine bel_setRow ?_ (by first | omega | (simp; done) | (refine Nat.le_trans ?_ (top_le _ _); simp; done) | (refine Nat.le_succ_of_le (Nat.le_trans ?_ (top_le _ _)); simp; done)) _))⟩
set_option maxRecDepth 100000 in
set_option maxHeartbeats 4000000 in
theorem endA (w : World) (o d l h d2 : P3) (k : Int) (hk1 : 1 ≤ k) (hk2 : k ≤ 1000) (a : Fr) (m1 : Gives Try.prog 11 #[.agg #[.int .i64 o.x, .int .i64 o.y, .int .i64 o.z], .agg #[.int .i64 d.x, .int .i64 d.y, .int .i64 d.z], .agg #[.int .i64 l.x, .int .i64 l.y, .int .i64 l.z, .int .i64 h.x, .int .i64 h.y, .int .i64 h.z]] (.tuple #[.agg #[.int .i64 a.n, .int .i64 a.d], .agg #[.int .i64 (⟨1, 0⟩ : Fr).n, .int .i64 (⟨1, 0⟩ : Fr).d], .bool true, .int .i64 0])) (ks : Gives Try.prog 20 #[.agg #[.int .i64 d.x, .int .i64 d.y, .int .i64 d.z], .int .i64 k] (.agg #[.int .i64 d2.x, .int .i64 d2.y, .int .i64 d2.z])) (x : Fr) (u1 : Int) (e1 : IntKind.i64.wrap (x.n * k) = u1) (k1 : Gives Try.prog 16 #[.agg #[.int .i64 a.n, .int .i64 a.d], .agg #[.int .i64 (⟨u1, x.d⟩ : Fr).n, .int .i64 (⟨u1, x.d⟩ : Fr).d]] (.tuple #[.int .i64 0, .bool true])) (m2 : Gives Try.prog 11 #[.agg #[.int .i64 o.x, .int .i64 o.y, .int .i64 o.z], .agg #[.int .i64 d2.x, .int .i64 d2.y, .int .i64 d2.z], .agg #[.int .i64 l.x, .int .i64 l.y, .int .i64 l.z, .int .i64 h.x, .int .i64 h.y, .int .i64 h.z]] (.tuple #[.agg #[.int .i64 x.n, .int .i64 x.d], .agg #[.int .i64 (⟨1, 0⟩ : Fr).n, .int .i64 (⟨1, 0⟩ : Fr).d], .bool true, .int .i64 0])) :
    Calls Try.prog 8 #[.agg #[.int .i64 o.x, .int .i64 o.y, .int .i64 o.z], .agg #[.int .i64 d.x, .int .i64 d.y, .int .i64 d.z], .agg #[.int .i64 l.x, .int .i64 l.y, .int .i64 l.z, .int .i64 h.x, .int .i64 h.y, .int .i64 h.z], .int .i64 k] w fun e w' => e = .returned (.bool true) ∧ Below w.heap.size w w' := by
  have al := alive4_any
  simp only at m1 m2
  go_enter Try.func8, Try.ntmps8
  go_upto_region 6 with (first | (go_at_call 10; first | ((with_reducible refine (al.at_ _).mono ?_); rintro e w' ⟨rfl, xa, rfl⟩)) | (go_at_call 11; first | ((with_reducible refine (m1.at_ _).mono ?_); rintro e w' ⟨rfl, xr, rfl⟩)))
  refine wp_region_two 11 ?_ 13 14 28 #[.int .i64 0, .int .i64 0] #[.int .i64 x.n, .int .i64 x.d] #[.int .i64 1, .int .i64 0] (by kernel_rfl) (by kernel_rfl) (by kernel_rfl) (by decide) (fun d hd => by cases hd; exact ⟨_, rfl, rfl, rfl, fun A u => alloc_frac A _ rfl u⟩) (fun d hd => by cases hd; exact ⟨_, rfl, rfl, rfl, fun A u => alloc_frac A _ rfl u⟩) (fun pp => ?_) (fun ga gb => ?_) (fun ga gb => ?_) (fun ga gb => ⟨?_, ?_, fun x => ?_, fun u hu => ?_⟩)
  rotate_left
  · simp only [List.take_succ_cons, List.take_zero]
    repeat (go_big_quiet_step (((first | with_reducible exact ks.quiet _ | with_reducible exact ks.quiet2 _ _ | with_reducible exact m2.quiet _ | with_reducible exact m2.quiet2 _ _))))
    refine wpQuiet_nil ?_
    exact rfl
  · exact ⟨_, rfl, storeS_row 28 _ _ _ _ rfl rfl rfl rfl rfl infoF rfl (by simp [Value.oneCell'])⟩
  · exact ⟨_, rfl, storeS_row 28 _ _ _ _ rfl rfl rfl rfl rfl infoF rfl (by simp [Value.oneCell'])⟩
  rotate_left
  · kernel_rfl
  · simp only [List.drop_succ_cons, List.drop_zero]
    try simp only [Act.put, List.setIfInBounds_toArray, List.set_cons_succ, List.set_cons_zero]
    repeat (go_big_quiet_step ((fail)))
    refine wpQuiet_nil ?_
    exact rfl
  obtain ⟨hbel, hne, ⟨hga, hba⟩, hgb, hbb⟩ := hu
  have q1 : Blk (((grow (((w.alloc (.cells #[.int .i64 o.x, .int .i64 o.y, .int .i64 o.z] 23)).alloc (.cells #[.int .i64 d.x, .int .i64 d.y, .int .i64 d.z] 23)).alloc (.cells #[.int .i64 l.x, .int .i64 l.y, .int .i64 l.z, .int .i64 h.x, .int .i64 h.y, .int .i64 h.z] 25)) (xa.then xr)).alloc (.cells #[.int .i64 a.n, .int .i64 a.d] 28)).alloc (.cells #[.int .i64 1, .int .i64 0] 28)) ((grow (((w.alloc (.cells #[.int .i64 o.x, .int .i64 o.y, .int .i64 o.z] 23)).alloc (.cells #[.int .i64 d.x, .int .i64 d.y, .int .i64 d.z] 23)).alloc (.cells #[.int .i64 l.x, .int .i64 l.y, .int .i64 l.z, .int .i64 h.x, .int .i64 h.y, .int .i64 h.z] 25)) (xa.then xr)).heap.size) 28 #[.int .i64 a.n, .int .i64 a.d] := (Blk.new _ _ _ _ rfl).alloc _
  have q2 : Blk (((grow (((w.alloc (.cells #[.int .i64 o.x, .int .i64 o.y, .int .i64 o.z] 23)).alloc (.cells #[.int .i64 d.x, .int .i64 d.y, .int .i64 d.z] 23)).alloc (.cells #[.int .i64 l.x, .int .i64 l.y, .int .i64 l.z, .int .i64 h.x, .int .i64 h.y, .int .i64 h.z] 25)) (xa.then xr)).alloc (.cells #[.int .i64 a.n, .int .i64 a.d] 28)).alloc (.cells #[.int .i64 1, .int .i64 0] 28)) ((grow (((w.alloc (.cells #[.int .i64 o.x, .int .i64 o.y, .int .i64 o.z] 23)).alloc (.cells #[.int .i64 d.x, .int .i64 d.y, .int .i64 d.z] 23)).alloc (.cells #[.int .i64 l.x, .int .i64 l.y, .int .i64 l.z, .int .i64 h.x, .int .i64 h.y, .int .i64 h.z] 25)) (xa.then xr)).heap.size + 1) 28 #[.int .i64 1, .int .i64 0] := Blk.new _ _ _ _ (by simp)
  have C1 := q1.below hbel
  have C2 := q2.below hbel
  have CB : Below w.heap.size w u := bel_trans (a := w) (w := (((grow (((w.alloc (.cells #[.int .i64 o.x, .int .i64 o.y, .int .i64 o.z] 23)).alloc (.cells #[.int .i64 d.x, .int .i64 d.y, .int .i64 d.z] 23)).alloc (.cells #[.int .i64 l.x, .int .i64 l.y, .int .i64 l.z, .int .i64 h.x, .int .i64 h.y, .int .i64 h.z] 25)) (xa.then xr)).alloc (.cells #[.int .i64 a.n, .int .i64 a.d] 28)).alloc (.cells #[.int .i64 1, .int .i64 0] 28))) (by repeat (first | with_reducible exact Below.refl _ _ | with_reducible refine bel_then ?_ _ | with_reducible refine bel_grow ?_ _ | with_reducible refine bel_alloc ?_ _ | with_reducible refine bel_drew ?_ | with_reducible refine bel_set ?_ (by simp) _ | with_reducible refine bel_setRow ?_ (by first | omega | (simp; done) | (refine Nat.le_trans ?_ (top_le _ _); simp; done) | (refine Nat.le_succ_of_le (Nat.le_trans ?_ (top_le _ _)); simp; done)) _)) hbel
  have m1_ : (grow (((w.alloc (.cells #[.int .i64 o.x, .int .i64 o.y, .int .i64 o.z] 23)).alloc (.cells #[.int .i64 d.x, .int .i64 d.y, .int .i64 d.z] 23)).alloc (.cells #[.int .i64 l.x, .int .i64 l.y, .int .i64 l.z, .int .i64 h.x, .int .i64 h.y, .int .i64 h.z] 25)) (xa.then xr)).heap.size ≠ ga := Nat.ne_of_lt (Nat.lt_of_lt_of_le q1.lt hga)
  have m2_ : (grow (((w.alloc (.cells #[.int .i64 o.x, .int .i64 o.y, .int .i64 o.z] 23)).alloc (.cells #[.int .i64 d.x, .int .i64 d.y, .int .i64 d.z] 23)).alloc (.cells #[.int .i64 l.x, .int .i64 l.y, .int .i64 l.z, .int .i64 h.x, .int .i64 h.y, .int .i64 h.z] 25)) (xa.then xr)).heap.size ≠ gb := Nat.ne_of_lt (Nat.lt_of_lt_of_le q1.lt hgb)
  have m3_ : (grow (((w.alloc (.cells #[.int .i64 o.x, .int .i64 o.y, .int .i64 o.z] 23)).alloc (.cells #[.int .i64 d.x, .int .i64 d.y, .int .i64 d.z] 23)).alloc (.cells #[.int .i64 l.x, .int .i64 l.y, .int .i64 l.z, .int .i64 h.x, .int .i64 h.y, .int .i64 h.z] 25)) (xa.then xr)).heap.size + 1 ≠ ga := Nat.ne_of_lt (Nat.lt_of_lt_of_le q2.lt hga)
  have m4_ : (grow (((w.alloc (.cells #[.int .i64 o.x, .int .i64 o.y, .int .i64 o.z] 23)).alloc (.cells #[.int .i64 d.x, .int .i64 d.y, .int .i64 d.z] 23)).alloc (.cells #[.int .i64 l.x, .int .i64 l.y, .int .i64 l.z, .int .i64 h.x, .int .i64 h.y, .int .i64 h.z] 25)) (xa.then xr)).heap.size + 1 ≠ gb := Nat.ne_of_lt (Nat.lt_of_lt_of_le q2.lt hgb)
  clear q1 q2 hbel hga hgb
  simp only [ptr]
  generalize (grow (((w.alloc (.cells #[.int .i64 o.x, .int .i64 o.y, .int .i64 o.z] 23)).alloc (.cells #[.int .i64 d.x, .int .i64 d.y, .int .i64 d.z] 23)).alloc (.cells #[.int .i64 l.x, .int .i64 l.y, .int .i64 l.z, .int .i64 h.x, .int .i64 h.y, .int .i64 h.z] 25)) (xa.then xr)).heap.size + 1 = g2 at *
  generalize (grow (((w.alloc (.cells #[.int .i64 o.x, .int .i64 o.y, .int .i64 o.z] 23)).alloc (.cells #[.int .i64 d.x, .int .i64 d.y, .int .i64 d.z] 23)).alloc (.cells #[.int .i64 l.x, .int .i64 l.y, .int .i64 l.z, .int .i64 h.x, .int .i64 h.y, .int .i64 h.z] 25)) (xa.then xr)).heap.size = g1 at *
  have l1 := C1.lt
  have c10 := C1.cell 0
  have c11 := C1.cell 1
  have l2 := C2.lt
  have c20 := C2.cell 0
  have c21 := C2.cell 1
  have l3 := hba.lt
  have c30 := hba.cell 0
  have c31 := hba.cell 1
  have l4 := hbb.lt
  have c40 := hbb.cell 0
  have c41 := hbb.cell 1
  simp at c10 c11 c20 c21 c30 c31 c40 c41
  clear C1 C2 hba hbb
  go_wp2_with (first | (go_at_call 16; first | ((with_reducible refine (k1.at_ _).mono ?_); rintro e w' ⟨rfl, xg, rfl⟩)))
  all_goals
    go_ret
    exact ⟨rfl, (by repeat (first | with_reducible exact CB | with_reducible refine bel_then ?_ _ | with_reducible refine bel_grow ?_ _ | with_reducible refine bel_alloc ?_ _ | with_reducible refine bel_drew ?_ | with_reducible refine bel_set ?_ (by simp) _ | with_reducible refine bel_setRow ?_ (by first | omega | (simp; done) | (refine Nat.le_trans ?_ (top_le _ _); simp; done) | (refine Nat.le_succ_of_le (Nat.le_trans ?_ (top_le _ _)); simp; done)) _))⟩
set_option maxRecDepth 100000 in
set_option maxHeartbeats 4000000 in
theorem endB (w : World) (o d l h d2 : P3) (k : Int) (hk1 : 1 ≤ k) (hk2 : k ≤ 1000) (a b : Fr) (m1 : Gives Try.prog 11 #[.agg #[.int .i64 o.x, .int .i64 o.y, .int .i64 o.z], .agg #[.int .i64 d.x, .int .i64 d.y, .int .i64 d.z], .agg #[.int .i64 l.x, .int .i64 l.y, .int .i64 l.z, .int .i64 h.x, .int .i64 h.y, .int .i64 h.z]] (.tuple #[.agg #[.int .i64 a.n, .int .i64 a.d], .agg #[.int .i64 b.n, .int .i64 b.d], .bool true, .int .i64 0])) (ks : Gives Try.prog 20 #[.agg #[.int .i64 d.x, .int .i64 d.y, .int .i64 d.z], .int .i64 k] (.agg #[.int .i64 d2.x, .int .i64 d2.y, .int .i64 d2.z])) (x y : Fr) (hb0 : (b.d == 0) = false) (hy0 : (y.d == 0) = false) (u1 : Int) (e1 : IntKind.i64.wrap (x.n * k) = u1) (u2 : Int) (e2 : IntKind.i64.wrap (y.n * k) = u2) (k1 : Gives Try.prog 16 #[.agg #[.int .i64 a.n, .int .i64 a.d], .agg #[.int .i64 (⟨u1, x.d⟩ : Fr).n, .int .i64 (⟨u1, x.d⟩ : Fr).d]] (.tuple #[.int .i64 0, .bool true])) (k2 : Gives Try.prog 16 #[.agg #[.int .i64 b.n, .int .i64 b.d], .agg #[.int .i64 (⟨u2, y.d⟩ : Fr).n, .int .i64 (⟨u2, y.d⟩ : Fr).d]] (.tuple #[.int .i64 0, .bool true])) (m2 : Gives Try.prog 11 #[.agg #[.int .i64 o.x, .int .i64 o.y, .int .i64 o.z], .agg #[.int .i64 d2.x, .int .i64 d2.y, .int .i64 d2.z], .agg #[.int .i64 l.x, .int .i64 l.y, .int .i64 l.z, .int .i64 h.x, .int .i64 h.y, .int .i64 h.z]] (.tuple #[.agg #[.int .i64 x.n, .int .i64 x.d], .agg #[.int .i64 y.n, .int .i64 y.d], .bool true, .int .i64 0])) :
    Calls Try.prog 8 #[.agg #[.int .i64 o.x, .int .i64 o.y, .int .i64 o.z], .agg #[.int .i64 d.x, .int .i64 d.y, .int .i64 d.z], .agg #[.int .i64 l.x, .int .i64 l.y, .int .i64 l.z, .int .i64 h.x, .int .i64 h.y, .int .i64 h.z], .int .i64 k] w fun e w' => e = .returned (.bool true) ∧ Below w.heap.size w w' := by
  have al := alive4_any
  go_enter Try.func8, Try.ntmps8
  go_upto_region 6 with (first | (go_at_call 10; first | ((with_reducible refine (al.at_ _).mono ?_); rintro e w' ⟨rfl, xa, rfl⟩)) | (go_at_call 11; first | ((with_reducible refine (m1.at_ _).mono ?_); rintro e w' ⟨rfl, xr, rfl⟩)))
  refine wp_region_two 11 ?_ 13 14 28 #[.int .i64 0, .int .i64 0] #[.int .i64 x.n, .int .i64 x.d] #[.int .i64 y.n, .int .i64 y.d] (by kernel_rfl) (by kernel_rfl) (by kernel_rfl) (by decide) (fun d hd => by cases hd; exact ⟨_, rfl, rfl, rfl, fun A u => alloc_frac A _ rfl u⟩) (fun d hd => by cases hd; exact ⟨_, rfl, rfl, rfl, fun A u => alloc_frac A _ rfl u⟩) (fun pp => ?_) (fun ga gb => ?_) (fun ga gb => ?_) (fun ga gb => ⟨?_, ?_, fun x => ?_, fun u hu => ?_⟩)
  rotate_left
  · simp only [List.take_succ_cons, List.take_zero]
    repeat (go_big_quiet_step (((first | with_reducible exact ks.quiet _ | with_reducible exact ks.quiet2 _ _ | with_reducible exact m2.quiet _ | with_reducible exact m2.quiet2 _ _))))
    refine wpQuiet_nil ?_
    exact rfl
  · exact ⟨_, rfl, storeS_row 28 _ _ _ _ rfl rfl rfl rfl rfl infoF rfl (by simp [Value.oneCell'])⟩
  · exact ⟨_, rfl, storeS_row 28 _ _ _ _ rfl rfl rfl rfl rfl infoF rfl (by simp [Value.oneCell'])⟩
  rotate_left
  · kernel_rfl
  · simp only [List.drop_succ_cons, List.drop_zero]
    try simp only [Act.put, List.setIfInBounds_toArray, List.set_cons_succ, List.set_cons_zero]
    repeat (go_big_quiet_step ((fail)))
    refine wpQuiet_nil ?_
    exact rfl
  obtain ⟨hbel, hne, ⟨hga, hba⟩, hgb, hbb⟩ := hu
  have q1 : Blk (((grow (((w.alloc (.cells #[.int .i64 o.x, .int .i64 o.y, .int .i64 o.z] 23)).alloc (.cells #[.int .i64 d.x, .int .i64 d.y, .int .i64 d.z] 23)).alloc (.cells #[.int .i64 l.x, .int .i64 l.y, .int .i64 l.z, .int .i64 h.x, .int .i64 h.y, .int .i64 h.z] 25)) (xa.then xr)).alloc (.cells #[.int .i64 a.n, .int .i64 a.d] 28)).alloc (.cells #[.int .i64 b.n, .int .i64 b.d] 28)) ((grow (((w.alloc (.cells #[.int .i64 o.x, .int .i64 o.y, .int .i64 o.z] 23)).alloc (.cells #[.int .i64 d.x, .int .i64 d.y, .int .i64 d.z] 23)).alloc (.cells #[.int .i64 l.x, .int .i64 l.y, .int .i64 l.z, .int .i64 h.x, .int .i64 h.y, .int .i64 h.z] 25)) (xa.then xr)).heap.size) 28 #[.int .i64 a.n, .int .i64 a.d] := (Blk.new _ _ _ _ rfl).alloc _
  have q2 : Blk (((grow (((w.alloc (.cells #[.int .i64 o.x, .int .i64 o.y, .int .i64 o.z] 23)).alloc (.cells #[.int .i64 d.x, .int .i64 d.y, .int .i64 d.z] 23)).alloc (.cells #[.int .i64 l.x, .int .i64 l.y, .int .i64 l.z, .int .i64 h.x, .int .i64 h.y, .int .i64 h.z] 25)) (xa.then xr)).alloc (.cells #[.int .i64 a.n, .int .i64 a.d] 28)).alloc (.cells #[.int .i64 b.n, .int .i64 b.d] 28)) ((grow (((w.alloc (.cells #[.int .i64 o.x, .int .i64 o.y, .int .i64 o.z] 23)).alloc (.cells #[.int .i64 d.x, .int .i64 d.y, .int .i64 d.z] 23)).alloc (.cells #[.int .i64 l.x, .int .i64 l.y, .int .i64 l.z, .int .i64 h.x, .int .i64 h.y, .int .i64 h.z] 25)) (xa.then xr)).heap.size + 1) 28 #[.int .i64 b.n, .int .i64 b.d] := Blk.new _ _ _ _ (by simp)
  have C1 := q1.below hbel
  have C2 := q2.below hbel
  have CB : Below w.heap.size w u := bel_trans (a := w) (w := (((grow (((w.alloc (.cells #[.int .i64 o.x, .int .i64 o.y, .int .i64 o.z] 23)).alloc (.cells #[.int .i64 d.x, .int .i64 d.y, .int .i64 d.z] 23)).alloc (.cells #[.int .i64 l.x, .int .i64 l.y, .int .i64 l.z, .int .i64 h.x, .int .i64 h.y, .int .i64 h.z] 25)) (xa.then xr)).alloc (.cells #[.int .i64 a.n, .int .i64 a.d] 28)).alloc (.cells #[.int .i64 b.n, .int .i64 b.d] 28))) (by repeat (first | with_reducible exact Below.refl _ _ | with_reducible refine bel_then ?_ _ | with_reducible refine bel_grow ?_ _ | with_reducible refine bel_alloc ?_ _ | with_reducible refine bel_drew ?_ | with_reducible refine bel_set ?_ (by simp) _ | with_reducible refine bel_setRow ?_ (by first | omega | (simp; done) | (refine Nat.le_trans ?_ (top_le _ _); simp; done) | (refine Nat.le_succ_of_le (Nat.le_trans ?_ (top_le _ _)); simp; done)) _)) hbel
  have m1_ : (grow (((w.alloc (.cells #[.int .i64 o.x, .int .i64 o.y, .int .i64 o.z] 23)).alloc (.cells #[.int .i64 d.x, .int .i64 d.y, .int .i64 d.z] 23)).alloc (.cells #[.int .i64 l.x, .int .i64 l.y, .int .i64 l.z, .int .i64 h.x, .int .i64 h.y, .int .i64 h.z] 25)) (xa.then xr)).heap.size ≠ ga := Nat.ne_of_lt (Nat.lt_of_lt_of_le q1.lt hga)
  have m2_ : (grow (((w.alloc (.cells #[.int .i64 o.x, .int .i64 o.y, .int .i64 o.z] 23)).alloc (.cells #[.int .i64 d.x, .int .i64 d.y, .int .i64 d.z] 23)).alloc (.cells #[.int .i64 l.x, .int .i64 l.y, .int .i64 l.z, .int .i64 h.x, .int .i64 h.y, .int .i64 h.z] 25)) (xa.then xr)).heap.size ≠ gb := Nat.ne_of_lt (Nat.lt_of_lt_of_le q1.lt hgb)
  have m3_ : (grow (((w.alloc (.cells #[.int .i64 o.x, .int .i64 o.y, .int .i64 o.z] 23)).alloc (.cells #[.int .i64 d.x, .int .i64 d.y, .int .i64 d.z] 23)).alloc (.cells #[.int .i64 l.x, .int .i64 l.y, .int .i64 l.z, .int .i64 h.x, .int .i64 h.y, .int .i64 h.z] 25)) (xa.then xr)).heap.size + 1 ≠ ga := Nat.ne_of_lt (Nat.lt_of_lt_of_le q2.lt hga)
  have m4_ : (grow (((w.alloc (.cells #[.int .i64 o.x, .int .i64 o.y, .int .i64 o.z] 23)).alloc (.cells #[.int .i64 d.x, .int .i64 d.y, .int .i64 d.z] 23)).alloc (.cells #[.int .i64 l.x, .int .i64 l.y, .int .i64 l.z, .int .i64 h.x, .int .i64 h.y, .int .i64 h.z] 25)) (xa.then xr)).heap.size + 1 ≠ gb := Nat.ne_of_lt (Nat.lt_of_lt_of_le q2.lt hgb)
  clear q1 q2 hbel hga hgb
  simp only [ptr]
  generalize (grow (((w.alloc (.cells #[.int .i64 o.x, .int .i64 o.y, .int .i64 o.z] 23)).alloc (.cells #[.int .i64 d.x, .int .i64 d.y, .int .i64 d.z] 23)).alloc (.cells #[.int .i64 l.x, .int .i64 l.y, .int .i64 l.z, .int .i64 h.x, .int .i64 h.y, .int .i64 h.z] 25)) (xa.then xr)).heap.size + 1 = g2 at *
  generalize (grow (((w.alloc (.cells #[.int .i64 o.x, .int .i64 o.y, .int .i64 o.z] 23)).alloc (.cells #[.int .i64 d.x, .int .i64 d.y, .int .i64 d.z] 23)).alloc (.cells #[.int .i64 l.x, .int .i64 l.y, .int .i64 l.z, .int .i64 h.x, .int .i64 h.y, .int .i64 h.z] 25)) (xa.then xr)).heap.size = g1 at *
  have l1 := C1.lt
  have c10 := C1.cell 0
  have c11 := C1.cell 1
  have l2 := C2.lt
  have c20 := C2.cell 0
  have c21 := C2.cell 1
  have l3 := hba.lt
  have c30 := hba.cell 0
  have c31 := hba.cell 1
  have l4 := hbb.lt
  have c40 := hbb.cell 0
  have c41 := hbb.cell 1
  simp at c10 c11 c20 c21 c30 c31 c40 c41
  clear C1 C2 hba hbb
  go_wp2_with (first | (go_at_call 16; first | ((with_reducible refine (k1.at_ _).mono ?_); rintro e w' ⟨rfl, xg, rfl⟩) | ((with_reducible refine (k2.at_ _).mono ?_); rintro e w' ⟨rfl, xg, rfl⟩)))
  all_goals
    go_ret
    exact ⟨rfl, (by repeat (first | with_reducible exact CB | with_reducible refine bel_then ?_ _ | with_reducible refine bel_grow ?_ _ | with_reducible refine bel_alloc ?_ _ | with_reducible refine bel_drew ?_ | with_reducible refine bel_set ?_ (by simp) _ | with_reducible refine bel_setRow ?_ (by first | omega | (simp; done) | (refine Nat.le_trans ?_ (top_le _ _); simp; done) | (refine Nat.le_succ_of_le (Nat.le_trans ?_ (top_le _ _)); simp; done)) _))⟩
theorem order_F (a b : Fr) (ha : smallF a) (hb : smallF b) (ra : RightF a) (rb : RightF b) : Gives Try.prog 16 #[.agg #[.int .i64 a.n, .int .i64 a.d], .agg #[.int .i64 b.n, .int .i64 b.d]] (.tuple #[.int .i64 (cmpOf (a.n * b.d) (b.n * a.d)), .bool true]) := by
  have i1 := smallF_in ha
  have i2 := smallF_in hb
  exact order_yes a.n a.d b.n b.d i1.1.1 i1.1.2 i1.2.1 i1.2.2 i2.1.1 i2.1.2 i2.2.1 i2.2.2 ra rb
theorem fast_eq {k : Int} {a x : Fr} (h : fastF k a x) : a.n * x.d = x.n * k * a.d := by
  rcases h with rfl | ⟨rfl, rfl⟩
  · simp only; grind
  · simp
theorem cmp_eq {x y : Int} (h : x = y) : cmpOf x y = 0 := by
  unfold cmpOf
  rw [if_neg (by omega), if_pos h]
theorem wrap_k {n k : Int} (h1 : -262144 ≤ n ∧ n ≤ 262144) (h2 : 1 ≤ k) (h3 : k ≤ 1000) : -262144000 ≤ n * k ∧ n * k ≤ 262144000 := by
  have := mul_bd h1 (show -1000 ≤ k ∧ k ≤ 1000 by omega)
  omega
theorem order_k (a : Fr) (n q k : Int) (ha : smallF a) (ra : RightF a) (hn : -262144 ≤ n ∧ n ≤ 262144) (hq : -65536 ≤ q ∧ q ≤ 65536) (h0 : 0 < q) (h2 : 1 ≤ k) (h3 : k ≤ 1000) (he : a.n * q = n * k * a.d) : Gives Try.prog 16 #[.agg #[.int .i64 a.n, .int .i64 a.d], .agg #[.int .i64 (⟨n * k, q⟩ : Fr).n, .int .i64 (⟨n * k, q⟩ : Fr).d]] (.tuple #[.int .i64 0, .bool true]) := by
  have i1 := smallF_in ha
  have i2 := wrap_k hn h2 h3
  have := order_yes a.n a.d (n * k) q i1.1.1 i1.1.2 i1.2.1 i1.2.2 (by omega) (by omega) (by omega) (by omega) ra (.inl h0)
  rw [cmp_eq he] at this
  exact this
theorem walk (w : World) (o : P3) (ko : In3 o) (d : P3) (kd : In3 d) (l h : P3) (kb : In3 l ∧ In3 h) (k : Int) (kk : In64 k) :
    Calls Try.prog 8 #[.agg #[.int .i64 o.x, .int .i64 o.y, .int .i64 o.z], .agg #[.int .i64 d.x, .int .i64 d.y, .int .i64 d.z], .agg #[.int .i64 l.x, .int .i64 l.y, .int .i64 l.z, .int .i64 h.x, .int .i64 h.y, .int .i64 h.z], .int .i64 k] w fun e w' => e = .returned (.bool true) ∧ Below w.heap.size w w' := by
  by_cases hk1 : k < 1
  · exact low w o d l h k hk1
  by_cases hk2 : 1000 < k
  · exact high w o d l h k hk2
  have hk1 : 1 ≤ k := by omega
  have hk2 : k ≤ 1000 := by omega
  have m1 := slRange_any o d l h
  have ks := rScale_any d.x d.y d.z k
  have m2 := slRange_any o (⟨wrap64 (d.x * k), wrap64 (d.y * k), wrap64 (d.z * k)⟩ : P3) l h
  rcases rg_cases o d l h with ⟨_, e⟩ | ⟨hb, hr, e⟩ | ⟨r, hb, hr, e⟩
  · rw [e] at m1
    exact farA w o d l h (⟨wrap64 (d.x * k), wrap64 (d.y * k), wrap64 (d.z * k)⟩ : P3) k hk1 hk2 _ _ m1 ks _ _ _ _ m2
  all_goals
    have hd := (rbB_in hb).2.1
    have ed : (⟨wrap64 (d.x * k), wrap64 (d.y * k), wrap64 (d.z * k)⟩ : P3) = ⟨d.x * k, d.y * k, d.z * k⟩ := by
      have b1 := mul_bd hd.1 (show -1000 ≤ k ∧ k ≤ 1000 by omega)
      have b2 := mul_bd hd.2.1 (show -1000 ≤ k ∧ k ≤ 1000 by omega)
      have b3 := mul_bd hd.2.2 (show -1000 ≤ k ∧ k ≤ 1000 by omega)
      rw [wrap_id (by omega) (by omega), wrap_id (by omega) (by omega), wrap_id (by omega) (by omega)]
    have F := range_fast (show 0 < k by omega) o d l h
    rw [← ed, hr] at F
    rw [e] at m1
  · rcases rg_cases o (⟨wrap64 (d.x * k), wrap64 (d.y * k), wrap64 (d.z * k)⟩ : P3) l h with ⟨_, e2⟩ | ⟨_, hn, e2⟩ | ⟨r2, hb2, hr2, e2⟩
    · rw [e2] at m2
      exact farB w o d l h (⟨wrap64 (d.x * k), wrap64 (d.y * k), wrap64 (d.z * k)⟩ : P3) k hk1 hk2 _ _ _ m1 ks _ _ _ m2
    · rw [e2] at m2
      exact nn w o d l h (⟨wrap64 (d.x * k), wrap64 (d.y * k), wrap64 (d.z * k)⟩ : P3) k hk1 hk2 _ _ m1 ks _ _ m2
    · rw [hr2] at F
      exact F.elim
  · rcases rg_cases o (⟨wrap64 (d.x * k), wrap64 (d.y * k), wrap64 (d.z * k)⟩ : P3) l h with ⟨_, e2⟩ | ⟨_, hn, e2⟩ | ⟨r2, hb2, hr2, e2⟩
    · rw [e2] at m2
      exact farB w o d l h (⟨wrap64 (d.x * k), wrap64 (d.y * k), wrap64 (d.z * k)⟩ : P3) k hk1 hk2 _ _ _ m1 ks _ _ _ m2
    · rw [hn] at F
      exact F.elim
    · rw [hr2] at F
      obtain ⟨F1, F2⟩ := F
      rw [e2] at m2
      obtain ⟨s1, s2⟩ := range_small hb hr
      obtain ⟨s3, s4⟩ := range_small hb2 hr2
      obtain ⟨o1, o2, _⟩ := range_ok hr
      obtain ⟨o3, o4, _⟩ := range_ok hr2
      have w1 := wrap_k s3.1 hk1 hk2
      have w2 := wrap_k s4.1 hk1 hk2
      have u1 : IntKind.i64.wrap (r2.1.n * k) = r2.1.n * k := by rw [IntKind.wrap_i64]; omega
      have u2 : IntKind.i64.wrap (r2.2.n * k) = r2.2.n * k := by rw [IntKind.wrap_i64]; omega
      have k1 := order_k r.1 r2.1.n r2.1.d k s1 (okLo_right o1) s3.1 s3.2 o3.1 hk1 hk2 (fast_eq F1)
      obtain ⟨a, b⟩ := r
      obtain ⟨x, y⟩ := r2
      rcases o2 with hbd | ⟨hb1, hb0⟩
      · have hyd : 0 < y.d := by
          rcases F2 with e3 | ⟨_, e3⟩
          · simp only at e3
            rw [e3]
            exact Int.mul_pos (by omega) hbd
          · simp only at e3
            rw [e3]; decide
        have k2 := order_k b y.n y.d k s2 (.inl hbd) s4.1 s4.2 hyd hk1 hk2 (fast_eq F2)
        exact endB w o d l h (⟨wrap64 (d.x * k), wrap64 (d.y * k), wrap64 (d.z * k)⟩ : P3) k hk1 hk2 a b m1 ks x y (by simp at hbd ⊢; omega) (by simp; omega) _ u1 _ u2 k1 k2 m2
      · obtain ⟨bn, bd⟩ := b
        simp only at hb1 hb0
        subst hb1 hb0
        have ey : y = ⟨1, 0⟩ := by
          rcases F2 with e3 | ⟨e4, _⟩
          · simpa using e3
          · exact absurd e4 (by simp)
        subst ey
        exact endA w o d l h (⟨wrap64 (d.x * k), wrap64 (d.y * k), wrap64 (d.z * k)⟩ : P3) k hk1 hk2 a m1 ks x _ u1 k1 m2

theorem own : ownKnob Try.prog.godebug = none := by kernel_rfl
set_option maxRecDepth 100000 in
theorem lifted (os : Os) (started : os.Started) (H : Type) (enc : TypeId × Value → H) :
    ReturnsInHanded {} Try.checked os 8 .any (Rows.slabFasterSpec.pre6 enc Try.prog Try.f8 Rows.slabFasterRow.domain false) (Rows.slabFasterSpec.post enc Try.prog Try.f8 false true false false) := by
  refine returnsInHanded_of_change (C := Try.checked) own started (by kernel_rfl) Try.func8
    (ChangeSpec.witness6 (enc := enc) (C := Try.checked) false ⟨#[], #[.agg #[.int .i64 0, .int .i64 0, .int .i64 0], .agg #[.int .i64 0, .int .i64 0, .int .i64 0], .agg #[.int .i64 0, .int .i64 0, .int .i64 0, .int .i64 0, .int .i64 0, .int .i64 0], .int .i64 0], []⟩ 12 (by kernel_rfl) (by kernel_rfl) (by kernel_rfl) (by kernel_rfl)) ?_
  intro W base args ds gs before hval0 hW hcnd _
  have hval : ∀ (j : Nat) t v, Try.f8.params[j]? = some t → args[j]? = some v → Value.okWide Try.prog W .any base t v := hval0
  have hW' := hW
  obtain ⟨p, q, hA0, hV, rfl, hfz, hnd⟩ := hW
  have hA : DataW.TrodAll enc Try.prog W 0 (fun _ => true) true Try.f8.params.toList args.toList ds p := hA0
  rw [Try.params8] at hA hval
  obtain ⟨v0, vs0, d0, ds0, p0, q0, hargs, rfl, rfl, h0, r0⟩ := trodAll_cons hA
  obtain ⟨v1, vs1, d1, ds1, p1, q1, rfl, rfl, rfl, h1, r1⟩ := trodAll_cons r0
  obtain ⟨v2, vs2, d2, ds2, p2, q2, rfl, rfl, rfl, h2, r2⟩ := trodAll_cons r1
  obtain ⟨v3, vs3, d3, ds3, p3, q3, rfl, rfl, rfl, h3, r3⟩ := trodAll_cons r2
  obtain ⟨rfl, rfl, rfl⟩ := trodAll_nil r3
  obtain rfl : args = #[v0, v1, v2, v3] := by cases args; simp_all
  obtain ⟨a0, rfl, k0⟩ := open_V3 (hval 0 23 v0 rfl rfl) h0
  obtain ⟨a1, rfl, k1⟩ := open_V3 (hval 1 23 v1 rfl rfl) h1
  obtain ⟨bl2, bh2, rfl, k2⟩ := open_B3 (hval 2 25 v2 rfl rfl) h2
  obtain ⟨a3, rfl, b3⟩ := open_int64 (hval 3 3 v3 rfl rfl) h3
  refine (walk W a0 k0 a1 k1 bl2 bh2 k2 a3 b3).mono fun e W' ⟨he, hb⟩ => ?_
  subst he
  exact ⟨_, rfl, law_post (tb := 4) (by kernel_rfl) (by kernel_rfl) rfl rfl Try.underlying4 rfl rfl rfl hW' hb⟩

theorem over : Rows.slabFasterRow.holds Try.pinned (OpenSpec.ofChange Rows.slabFasterSpec) :=
  OpenClaim.holds_of_wide 8 Try.f8 rfl rfl rfl rfl rfl rfl rfl ⟨rfl, rfl, rfl, rfl, rfl⟩ rfl rfl rfl rfl rfl (by kernel_rfl) Try.func8 (by kernel_rfl)
    (of_decide_eq_true (by kernel_rfl)) (by unfold Func.isWrapper; first | (rw [if_pos (by decide +kernel)]; kernel_rfl) | (rw [if_neg (by decide +kernel)]; exact ⟨rfl, rfl⟩))
    (fun os started H enc _ => lifted os started H enc)

theorem proved : Rows.SlabFasterSaid :=
  over
#print axioms proved
end Go.Proofs.Ytngkimcnolmmoaa.slabFaster
