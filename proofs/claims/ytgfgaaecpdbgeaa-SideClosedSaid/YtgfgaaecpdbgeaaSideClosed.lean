/- SideClosed holds for every input: the row, out of the walk. No condition. -/
import Derived.Test.YtgfgaaecpdbgeaaRows
import Derived.Test.YtgfgaaecpdbgeaaAlive3
import Derived.Test.YtgfgaaecpdbgeaaOpenT
import Derived.Test.YtgfgaaecpdbgeaaSide6
import Derived.Test.YtgfgaaecpdbgeaaMid
import Derived.Test.YtgfgaaecpdbgeaaSideC
import Derived.Test.YtgfgaaecpdbgeaaTet
import Derived.Test.YtgfgaaecpdbgeaaPost
namespace Go.Proofs.Ytgfgaaecpdbgeaa.sideClosed
open Go.ChangeShapes Go.WideShapes Go.ChangeAt Go.RowKit
set_option linter.unusedVariables false
set_option linter.unusedSimpArgs false
def clA (i n : Value) : Prop := (i = .int .i64 0 ∧ n = .int .i64 0) ∨ False
def clB (f0 : Int) (i n : Value) : Prop := (i = .int .i64 0 ∧ n = .int .i64 0) ∨ (i = .int .i64 1 ∧ n = .int .i64 f0)
def clC (f0 f1 f2 : Int) (i n : Value) : Prop := (i = .int .i64 0 ∧ n = .int .i64 0) ∨ (i = .int .i64 1 ∧ n = .int .i64 f0) ∨ (i = .int .i64 2 ∧ n = .int .i64 (f0 + f1)) ∨ (i = .int .i64 3 ∧ n = .int .i64 (f0 + f1 + f2)) ∨ (i = .int .i64 4 ∧ n = .int .i64 0)
set_option maxRecDepth 100000 in
set_option maxHeartbeats 4000000 in
theorem outA (w : World) (o d a b c p : P3)
    (m0 : Gives Try.prog 25 #[.agg #[.int .i64 o.x, .int .i64 o.y, .int .i64 o.z], .agg #[.int .i64 d.x, .int .i64 d.y, .int .i64 d.z], .agg #[.int .i64 a.x, .int .i64 a.y, .int .i64 a.z, .int .i64 b.x, .int .i64 b.y, .int .i64 b.z, .int .i64 c.x, .int .i64 c.y, .int .i64 c.z]] (.tuple #[.agg #[.int .i64 (0), .int .i64 (0), .bool (false), .int .i64 0, .int .i64 0], .bool (false), .int .i64 (21)])) :
    Calls Try.prog 7 #[.agg #[.int .i64 o.x, .int .i64 o.y, .int .i64 o.z], .agg #[.int .i64 d.x, .int .i64 d.y, .int .i64 d.z], .agg #[.int .i64 a.x, .int .i64 a.y, .int .i64 a.z], .agg #[.int .i64 b.x, .int .i64 b.y, .int .i64 b.z], .agg #[.int .i64 c.x, .int .i64 c.y, .int .i64 c.z], .agg #[.int .i64 p.x, .int .i64 p.y, .int .i64 p.z]] w fun e w' => e = .returned (.bool true) ∧ Below w.heap.size w w' := by
  have al := alive3_any
  go_enter Try.func7, Try.ntmps7
  go_wp2_with (first | (go_at_call 22; first | ((with_reducible refine (al.at_ _).mono ?_); rintro e w' ⟨rfl, xg, rfl⟩)) | (refine wpList_val rfl _ _ (alloc_tet _ _ rfl _ _ rfl) ?_) | (refine wpList_val rfl _ _ (build_tet _ _ _ _ _ _ rfl _ a b c p rfl rfl rfl rfl) ?_) | (refine wpList_store_tet rfl _ _ rfl _ a b c p rfl rfl rfl ?_))
  have B : Blk ((grow ((((((w.alloc (.cells #[.int .i64 o.x, .int .i64 o.y, .int .i64 o.z] 36)).alloc (.cells #[.int .i64 d.x, .int .i64 d.y, .int .i64 d.z] 36)).alloc (.cells #[.int .i64 a.x, .int .i64 a.y, .int .i64 a.z] 36)).alloc (.cells #[.int .i64 b.x, .int .i64 b.y, .int .i64 b.z] 36)).alloc (.cells #[.int .i64 c.x, .int .i64 c.y, .int .i64 c.z] 36)).alloc (.cells #[.int .i64 p.x, .int .i64 p.y, .int .i64 p.z] 36)) xg).alloc (.cells (tet a b c p) 51)) (grow ((((((w.alloc (.cells #[.int .i64 o.x, .int .i64 o.y, .int .i64 o.z] 36)).alloc (.cells #[.int .i64 d.x, .int .i64 d.y, .int .i64 d.z] 36)).alloc (.cells #[.int .i64 a.x, .int .i64 a.y, .int .i64 a.z] 36)).alloc (.cells #[.int .i64 b.x, .int .i64 b.y, .int .i64 b.z] 36)).alloc (.cells #[.int .i64 c.x, .int .i64 c.y, .int .i64 c.z] 36)).alloc (.cells #[.int .i64 p.x, .int .i64 p.y, .int .i64 p.z] 36)) xg).heap.size 51 (tet a b c p) := Blk.new _ _ _ _ rfl
  go_loopw [15, 14] (fun i n wr => clA i n ∧ ∃ x, wr = grow ((grow ((((((w.alloc (.cells #[.int .i64 o.x, .int .i64 o.y, .int .i64 o.z] 36)).alloc (.cells #[.int .i64 d.x, .int .i64 d.y, .int .i64 d.z] 36)).alloc (.cells #[.int .i64 a.x, .int .i64 a.y, .int .i64 a.z] 36)).alloc (.cells #[.int .i64 b.x, .int .i64 b.y, .int .i64 b.z] 36)).alloc (.cells #[.int .i64 c.x, .int .i64 c.y, .int .i64 c.z] 36)).alloc (.cells #[.int .i64 p.x, .int .i64 p.y, .int .i64 p.z] 36)) xg).alloc (.cells (tet a b c p) 51)) x) (fun i _ _ => (4 - intOf i).toNat)
  case atStart => exact ⟨.inl ⟨rfl, rfl⟩, grow_of (by repeat (first | exact Below.refl _ _ | refine bel_then ?_ _ | refine bel_grow ?_ _ | refine bel_alloc ?_ _ | refine bel_drew ?_ | refine bel_set ?_ (by simp) _ | refine bel_setRow ?_ (by first | omega | simp; done | exact Nat.le_trans (by simp) (top_le _ _)) _))⟩
  case round =>
    obtain ⟨hr, xx, rfl⟩ := hrel
    unfold clA at hr
    rcases hr with ⟨rfl, rfl⟩ | h
    · go_wp2_with fail
      refine wp_region_mid 10 ?_ 16 (.cells #[.int .i64 0, .int .i64 0, .bool false, .int .i64 0, .int .i64 0] 43) (.cells #[.int .i64 (0), .int .i64 (0), .bool (false), .int .i64 0, .int .i64 0] 43) (by kernel_rfl) (by kernel_rfl) (by kernel_rfl) (fun d hd => by cases hd; exact ⟨_, rfl, rfl, rfl, fun A u => alloc_hit A _ rfl u⟩) (fun pp => ?_) (fun pp => ?_) (fun pp => ⟨?_, ?_, fun x => ?_, fun qq => ?_⟩)
      rotate_left
      · simp only [List.take_succ_cons, List.take_zero]
        repeat (first | (refine quiet_tri _ rfl rfl ((grow ((((((w.alloc (.cells #[.int .i64 o.x, .int .i64 o.y, .int .i64 o.z] 36)).alloc (.cells #[.int .i64 d.x, .int .i64 d.y, .int .i64 d.z] 36)).alloc (.cells #[.int .i64 a.x, .int .i64 a.y, .int .i64 a.z] 36)).alloc (.cells #[.int .i64 b.x, .int .i64 b.y, .int .i64 b.z] 36)).alloc (.cells #[.int .i64 c.x, .int .i64 c.y, .int .i64 c.z] 36)).alloc (.cells #[.int .i64 p.x, .int .i64 p.y, .int .i64 p.z] 36)) xg).heap.size) 0 rfl #[.int .i64 a.x, .int .i64 a.y, .int .i64 a.z, .int .i64 b.x, .int .i64 b.y, .int .i64 b.z, .int .i64 c.x, .int .i64 c.y, .int .i64 c.z] rfl (fun u hu => by obtain ⟨y, rfl⟩ := hu; exact (tet_part (by first | exact B.grow _ | exact (B.grow _).grow _ | exact ((B.grow _).grow _).grow _)).1) ?_; try simp only [Act.put, List.setIfInBounds_toArray, List.set_cons_succ, List.set_cons_zero]) | go_big_quiet_step (((first | with_reducible exact m0.quiet _ | with_reducible exact m0.quiet2 _ _))))
        refine wpQuiet_nil ?_
        exact rfl
      · exact ⟨_, rfl, storeAt_row 43 _ _ _ _ rfl rfl rfl rfl rfl (by kernel_rfl) rfl (by first | kernel_rfl | simp [Value.oneCell'] | (simp only [List.all_toArray, Array.all]; rfl))⟩
      rotate_left
      · kernel_rfl
      · simp only [List.drop_succ_cons, List.drop_zero]
        try simp only [Act.put, List.setIfInBounds_toArray, List.set_cons_succ, List.set_cons_zero]
        repeat (go_big_quiet_step ((fail)))
        refine wpQuiet_nil ?_
        exact rfl
      go_wp2_with fail
      go_ret
      exact ⟨rfl, (by repeat (first | exact Below.refl _ _ | refine bel_then ?_ _ | refine bel_grow ?_ _ | refine bel_alloc ?_ _ | refine bel_drew ?_ | refine bel_set ?_ (by simp) _ | refine bel_setRow ?_ (by first | omega | simp; done | exact Nat.le_trans (by simp) (top_le _ _)) _))⟩
    · exact absurd h (by simp)
set_option maxRecDepth 100000 in
set_option maxHeartbeats 4000000 in
theorem outB (w : World) (o d a b c p : P3) (n0 e0 f0 : Int) (K0 F0 : Bool) (g0 : (K0 = true ∧ F0 = true ∧ f0 = 1) ∨ (K0 = true ∧ F0 = false ∧ f0 = -1) ∨ (K0 = false ∧ f0 = 0))
    (m0 : Gives Try.prog 25 #[.agg #[.int .i64 o.x, .int .i64 o.y, .int .i64 o.z], .agg #[.int .i64 d.x, .int .i64 d.y, .int .i64 d.z], .agg #[.int .i64 a.x, .int .i64 a.y, .int .i64 a.z, .int .i64 b.x, .int .i64 b.y, .int .i64 b.z, .int .i64 c.x, .int .i64 c.y, .int .i64 c.z]] (.tuple #[.agg #[.int .i64 (n0), .int .i64 (e0), .bool (F0), .int .i64 0, .int .i64 0], .bool (K0), .int .i64 (0)]))
    (m1 : Gives Try.prog 25 #[.agg #[.int .i64 o.x, .int .i64 o.y, .int .i64 o.z], .agg #[.int .i64 d.x, .int .i64 d.y, .int .i64 d.z], .agg #[.int .i64 a.x, .int .i64 a.y, .int .i64 a.z, .int .i64 c.x, .int .i64 c.y, .int .i64 c.z, .int .i64 p.x, .int .i64 p.y, .int .i64 p.z]] (.tuple #[.agg #[.int .i64 (0), .int .i64 (0), .bool (false), .int .i64 0, .int .i64 0], .bool (false), .int .i64 (21)])) :
    Calls Try.prog 7 #[.agg #[.int .i64 o.x, .int .i64 o.y, .int .i64 o.z], .agg #[.int .i64 d.x, .int .i64 d.y, .int .i64 d.z], .agg #[.int .i64 a.x, .int .i64 a.y, .int .i64 a.z], .agg #[.int .i64 b.x, .int .i64 b.y, .int .i64 b.z], .agg #[.int .i64 c.x, .int .i64 c.y, .int .i64 c.z], .agg #[.int .i64 p.x, .int .i64 p.y, .int .i64 p.z]] w fun e w' => e = .returned (.bool true) ∧ Below w.heap.size w w' := by
  have al := alive3_any
  have hf0 : -1 ≤ f0 ∧ f0 ≤ 1 := by omega
  go_enter Try.func7, Try.ntmps7
  go_wp2_with (first | (go_at_call 22; first | ((with_reducible refine (al.at_ _).mono ?_); rintro e w' ⟨rfl, xg, rfl⟩)) | (refine wpList_val rfl _ _ (alloc_tet _ _ rfl _ _ rfl) ?_) | (refine wpList_val rfl _ _ (build_tet _ _ _ _ _ _ rfl _ a b c p rfl rfl rfl rfl) ?_) | (refine wpList_store_tet rfl _ _ rfl _ a b c p rfl rfl rfl ?_))
  have B : Blk ((grow ((((((w.alloc (.cells #[.int .i64 o.x, .int .i64 o.y, .int .i64 o.z] 36)).alloc (.cells #[.int .i64 d.x, .int .i64 d.y, .int .i64 d.z] 36)).alloc (.cells #[.int .i64 a.x, .int .i64 a.y, .int .i64 a.z] 36)).alloc (.cells #[.int .i64 b.x, .int .i64 b.y, .int .i64 b.z] 36)).alloc (.cells #[.int .i64 c.x, .int .i64 c.y, .int .i64 c.z] 36)).alloc (.cells #[.int .i64 p.x, .int .i64 p.y, .int .i64 p.z] 36)) xg).alloc (.cells (tet a b c p) 51)) (grow ((((((w.alloc (.cells #[.int .i64 o.x, .int .i64 o.y, .int .i64 o.z] 36)).alloc (.cells #[.int .i64 d.x, .int .i64 d.y, .int .i64 d.z] 36)).alloc (.cells #[.int .i64 a.x, .int .i64 a.y, .int .i64 a.z] 36)).alloc (.cells #[.int .i64 b.x, .int .i64 b.y, .int .i64 b.z] 36)).alloc (.cells #[.int .i64 c.x, .int .i64 c.y, .int .i64 c.z] 36)).alloc (.cells #[.int .i64 p.x, .int .i64 p.y, .int .i64 p.z] 36)) xg).heap.size 51 (tet a b c p) := Blk.new _ _ _ _ rfl
  go_loopw [15, 14] (fun i n wr => clB f0 i n ∧ ∃ x, wr = grow ((grow ((((((w.alloc (.cells #[.int .i64 o.x, .int .i64 o.y, .int .i64 o.z] 36)).alloc (.cells #[.int .i64 d.x, .int .i64 d.y, .int .i64 d.z] 36)).alloc (.cells #[.int .i64 a.x, .int .i64 a.y, .int .i64 a.z] 36)).alloc (.cells #[.int .i64 b.x, .int .i64 b.y, .int .i64 b.z] 36)).alloc (.cells #[.int .i64 c.x, .int .i64 c.y, .int .i64 c.z] 36)).alloc (.cells #[.int .i64 p.x, .int .i64 p.y, .int .i64 p.z] 36)) xg).alloc (.cells (tet a b c p) 51)) x) (fun i _ _ => (4 - intOf i).toNat)
  case atStart => exact ⟨.inl ⟨rfl, rfl⟩, grow_of (by repeat (first | exact Below.refl _ _ | refine bel_then ?_ _ | refine bel_grow ?_ _ | refine bel_alloc ?_ _ | refine bel_drew ?_ | refine bel_set ?_ (by simp) _ | refine bel_setRow ?_ (by first | omega | simp; done | exact Nat.le_trans (by simp) (top_le _ _)) _))⟩
  case round =>
    obtain ⟨hr, xx, rfl⟩ := hrel
    unfold clB at hr
    rcases hr with ⟨rfl, rfl⟩ | ⟨rfl, rfl⟩
    · rcases g0 with ⟨rfl, rfl, rfl⟩ | ⟨rfl, rfl, rfl⟩ | ⟨rfl, rfl⟩
      · go_wp2_with fail
        refine wp_region_mid 10 ?_ 16 (.cells #[.int .i64 0, .int .i64 0, .bool false, .int .i64 0, .int .i64 0] 43) (.cells #[.int .i64 (n0), .int .i64 (e0), .bool (true), .int .i64 0, .int .i64 0] 43) (by kernel_rfl) (by kernel_rfl) (by kernel_rfl) (fun d hd => by cases hd; exact ⟨_, rfl, rfl, rfl, fun A u => alloc_hit A _ rfl u⟩) (fun pp => ?_) (fun pp => ?_) (fun pp => ⟨?_, ?_, fun x => ?_, fun qq => ?_⟩)
        rotate_left
        · simp only [List.take_succ_cons, List.take_zero]
          repeat (first | (refine quiet_tri _ rfl rfl ((grow ((((((w.alloc (.cells #[.int .i64 o.x, .int .i64 o.y, .int .i64 o.z] 36)).alloc (.cells #[.int .i64 d.x, .int .i64 d.y, .int .i64 d.z] 36)).alloc (.cells #[.int .i64 a.x, .int .i64 a.y, .int .i64 a.z] 36)).alloc (.cells #[.int .i64 b.x, .int .i64 b.y, .int .i64 b.z] 36)).alloc (.cells #[.int .i64 c.x, .int .i64 c.y, .int .i64 c.z] 36)).alloc (.cells #[.int .i64 p.x, .int .i64 p.y, .int .i64 p.z] 36)) xg).heap.size) 0 rfl #[.int .i64 a.x, .int .i64 a.y, .int .i64 a.z, .int .i64 b.x, .int .i64 b.y, .int .i64 b.z, .int .i64 c.x, .int .i64 c.y, .int .i64 c.z] rfl (fun u hu => by obtain ⟨y, rfl⟩ := hu; exact (tet_part (by first | exact B.grow _ | exact (B.grow _).grow _ | exact ((B.grow _).grow _).grow _)).1) ?_; try simp only [Act.put, List.setIfInBounds_toArray, List.set_cons_succ, List.set_cons_zero]) | go_big_quiet_step (((first | with_reducible exact m0.quiet _ | with_reducible exact m0.quiet2 _ _))))
          refine wpQuiet_nil ?_
          exact rfl
        · exact ⟨_, rfl, storeAt_row 43 _ _ _ _ rfl rfl rfl rfl rfl (by kernel_rfl) rfl (by first | kernel_rfl | simp [Value.oneCell'] | (simp only [List.all_toArray, Array.all]; rfl))⟩
        rotate_left
        · kernel_rfl
        · simp only [List.drop_succ_cons, List.drop_zero]
          try simp only [Act.put, List.setIfInBounds_toArray, List.set_cons_succ, List.set_cons_zero]
          repeat (go_big_quiet_step ((fail)))
          refine wpQuiet_nil ?_
          exact rfl
        go_wp2_with fail
        go_roundw
        case rel => exact ⟨.inr ⟨rfl, congrArg (Value.int .i64) (by omega)⟩, grow_of (by repeat (first | exact Below.refl _ _ | refine bel_then ?_ _ | refine bel_grow ?_ _ | refine bel_alloc ?_ _ | refine bel_drew ?_ | refine bel_set ?_ (by simp) _ | refine bel_setRow ?_ (by first | omega | simp; done | exact Nat.le_trans (by simp) (top_le _ _)) _))⟩
        case measure => simp [intOf]
      · go_wp2_with fail
        refine wp_region_mid 10 ?_ 16 (.cells #[.int .i64 0, .int .i64 0, .bool false, .int .i64 0, .int .i64 0] 43) (.cells #[.int .i64 (n0), .int .i64 (e0), .bool (false), .int .i64 0, .int .i64 0] 43) (by kernel_rfl) (by kernel_rfl) (by kernel_rfl) (fun d hd => by cases hd; exact ⟨_, rfl, rfl, rfl, fun A u => alloc_hit A _ rfl u⟩) (fun pp => ?_) (fun pp => ?_) (fun pp => ⟨?_, ?_, fun x => ?_, fun qq => ?_⟩)
        rotate_left
        · simp only [List.take_succ_cons, List.take_zero]
          repeat (first | (refine quiet_tri _ rfl rfl ((grow ((((((w.alloc (.cells #[.int .i64 o.x, .int .i64 o.y, .int .i64 o.z] 36)).alloc (.cells #[.int .i64 d.x, .int .i64 d.y, .int .i64 d.z] 36)).alloc (.cells #[.int .i64 a.x, .int .i64 a.y, .int .i64 a.z] 36)).alloc (.cells #[.int .i64 b.x, .int .i64 b.y, .int .i64 b.z] 36)).alloc (.cells #[.int .i64 c.x, .int .i64 c.y, .int .i64 c.z] 36)).alloc (.cells #[.int .i64 p.x, .int .i64 p.y, .int .i64 p.z] 36)) xg).heap.size) 0 rfl #[.int .i64 a.x, .int .i64 a.y, .int .i64 a.z, .int .i64 b.x, .int .i64 b.y, .int .i64 b.z, .int .i64 c.x, .int .i64 c.y, .int .i64 c.z] rfl (fun u hu => by obtain ⟨y, rfl⟩ := hu; exact (tet_part (by first | exact B.grow _ | exact (B.grow _).grow _ | exact ((B.grow _).grow _).grow _)).1) ?_; try simp only [Act.put, List.setIfInBounds_toArray, List.set_cons_succ, List.set_cons_zero]) | go_big_quiet_step (((first | with_reducible exact m0.quiet _ | with_reducible exact m0.quiet2 _ _))))
          refine wpQuiet_nil ?_
          exact rfl
        · exact ⟨_, rfl, storeAt_row 43 _ _ _ _ rfl rfl rfl rfl rfl (by kernel_rfl) rfl (by first | kernel_rfl | simp [Value.oneCell'] | (simp only [List.all_toArray, Array.all]; rfl))⟩
        rotate_left
        · kernel_rfl
        · simp only [List.drop_succ_cons, List.drop_zero]
          try simp only [Act.put, List.setIfInBounds_toArray, List.set_cons_succ, List.set_cons_zero]
          repeat (go_big_quiet_step ((fail)))
          refine wpQuiet_nil ?_
          exact rfl
        go_wp2_with fail
        go_roundw
        case rel => exact ⟨.inr ⟨rfl, congrArg (Value.int .i64) (by omega)⟩, grow_of (by repeat (first | exact Below.refl _ _ | refine bel_then ?_ _ | refine bel_grow ?_ _ | refine bel_alloc ?_ _ | refine bel_drew ?_ | refine bel_set ?_ (by simp) _ | refine bel_setRow ?_ (by first | omega | simp; done | exact Nat.le_trans (by simp) (top_le _ _)) _))⟩
        case measure => simp [intOf]
      · go_wp2_with fail
        refine wp_region_mid 10 ?_ 16 (.cells #[.int .i64 0, .int .i64 0, .bool false, .int .i64 0, .int .i64 0] 43) (.cells #[.int .i64 (n0), .int .i64 (e0), .bool (F0), .int .i64 0, .int .i64 0] 43) (by kernel_rfl) (by kernel_rfl) (by kernel_rfl) (fun d hd => by cases hd; exact ⟨_, rfl, rfl, rfl, fun A u => alloc_hit A _ rfl u⟩) (fun pp => ?_) (fun pp => ?_) (fun pp => ⟨?_, ?_, fun x => ?_, fun qq => ?_⟩)
        rotate_left
        · simp only [List.take_succ_cons, List.take_zero]
          repeat (first | (refine quiet_tri _ rfl rfl ((grow ((((((w.alloc (.cells #[.int .i64 o.x, .int .i64 o.y, .int .i64 o.z] 36)).alloc (.cells #[.int .i64 d.x, .int .i64 d.y, .int .i64 d.z] 36)).alloc (.cells #[.int .i64 a.x, .int .i64 a.y, .int .i64 a.z] 36)).alloc (.cells #[.int .i64 b.x, .int .i64 b.y, .int .i64 b.z] 36)).alloc (.cells #[.int .i64 c.x, .int .i64 c.y, .int .i64 c.z] 36)).alloc (.cells #[.int .i64 p.x, .int .i64 p.y, .int .i64 p.z] 36)) xg).heap.size) 0 rfl #[.int .i64 a.x, .int .i64 a.y, .int .i64 a.z, .int .i64 b.x, .int .i64 b.y, .int .i64 b.z, .int .i64 c.x, .int .i64 c.y, .int .i64 c.z] rfl (fun u hu => by obtain ⟨y, rfl⟩ := hu; exact (tet_part (by first | exact B.grow _ | exact (B.grow _).grow _ | exact ((B.grow _).grow _).grow _)).1) ?_; try simp only [Act.put, List.setIfInBounds_toArray, List.set_cons_succ, List.set_cons_zero]) | go_big_quiet_step (((first | with_reducible exact m0.quiet _ | with_reducible exact m0.quiet2 _ _))))
          refine wpQuiet_nil ?_
          exact rfl
        · exact ⟨_, rfl, storeAt_row 43 _ _ _ _ rfl rfl rfl rfl rfl (by kernel_rfl) rfl (by first | kernel_rfl | simp [Value.oneCell'] | (simp only [List.all_toArray, Array.all]; rfl))⟩
        rotate_left
        · kernel_rfl
        · simp only [List.drop_succ_cons, List.drop_zero]
          try simp only [Act.put, List.setIfInBounds_toArray, List.set_cons_succ, List.set_cons_zero]
          repeat (go_big_quiet_step ((fail)))
          refine wpQuiet_nil ?_
          exact rfl
        go_wp2_with fail
        go_roundw
        case rel => exact ⟨.inr ⟨rfl, congrArg (Value.int .i64) (by omega)⟩, grow_of (by repeat (first | exact Below.refl _ _ | refine bel_then ?_ _ | refine bel_grow ?_ _ | refine bel_alloc ?_ _ | refine bel_drew ?_ | refine bel_set ?_ (by simp) _ | refine bel_setRow ?_ (by first | omega | simp; done | exact Nat.le_trans (by simp) (top_le _ _)) _))⟩
        case measure => simp [intOf]
    · go_wp2_with fail
      refine wp_region_mid 10 ?_ 16 (.cells #[.int .i64 0, .int .i64 0, .bool false, .int .i64 0, .int .i64 0] 43) (.cells #[.int .i64 (0), .int .i64 (0), .bool (false), .int .i64 0, .int .i64 0] 43) (by kernel_rfl) (by kernel_rfl) (by kernel_rfl) (fun d hd => by cases hd; exact ⟨_, rfl, rfl, rfl, fun A u => alloc_hit A _ rfl u⟩) (fun pp => ?_) (fun pp => ?_) (fun pp => ⟨?_, ?_, fun x => ?_, fun qq => ?_⟩)
      rotate_left
      · simp only [List.take_succ_cons, List.take_zero]
        repeat (first | (refine quiet_tri _ rfl rfl ((grow ((((((w.alloc (.cells #[.int .i64 o.x, .int .i64 o.y, .int .i64 o.z] 36)).alloc (.cells #[.int .i64 d.x, .int .i64 d.y, .int .i64 d.z] 36)).alloc (.cells #[.int .i64 a.x, .int .i64 a.y, .int .i64 a.z] 36)).alloc (.cells #[.int .i64 b.x, .int .i64 b.y, .int .i64 b.z] 36)).alloc (.cells #[.int .i64 c.x, .int .i64 c.y, .int .i64 c.z] 36)).alloc (.cells #[.int .i64 p.x, .int .i64 p.y, .int .i64 p.z] 36)) xg).heap.size) 9 rfl #[.int .i64 a.x, .int .i64 a.y, .int .i64 a.z, .int .i64 c.x, .int .i64 c.y, .int .i64 c.z, .int .i64 p.x, .int .i64 p.y, .int .i64 p.z] rfl (fun u hu => by obtain ⟨y, rfl⟩ := hu; exact (tet_part (by first | exact B.grow _ | exact (B.grow _).grow _ | exact ((B.grow _).grow _).grow _)).2.1) ?_; try simp only [Act.put, List.setIfInBounds_toArray, List.set_cons_succ, List.set_cons_zero]) | go_big_quiet_step (((first | with_reducible exact m1.quiet _ | with_reducible exact m1.quiet2 _ _))))
        refine wpQuiet_nil ?_
        exact rfl
      · exact ⟨_, rfl, storeAt_row 43 _ _ _ _ rfl rfl rfl rfl rfl (by kernel_rfl) rfl (by first | kernel_rfl | simp [Value.oneCell'] | (simp only [List.all_toArray, Array.all]; rfl))⟩
      rotate_left
      · kernel_rfl
      · simp only [List.drop_succ_cons, List.drop_zero]
        try simp only [Act.put, List.setIfInBounds_toArray, List.set_cons_succ, List.set_cons_zero]
        repeat (go_big_quiet_step ((fail)))
        refine wpQuiet_nil ?_
        exact rfl
      go_wp2_with fail
      go_ret
      exact ⟨rfl, (by repeat (first | exact Below.refl _ _ | refine bel_then ?_ _ | refine bel_grow ?_ _ | refine bel_alloc ?_ _ | refine bel_drew ?_ | refine bel_set ?_ (by simp) _ | refine bel_setRow ?_ (by first | omega | simp; done | exact Nat.le_trans (by simp) (top_le _ _)) _))⟩
set_option maxRecDepth 100000 in
set_option maxHeartbeats 4000000 in
theorem inC (w : World) (o d a b c p : P3) (n0 e0 f0 : Int) (K0 F0 : Bool) (g0 : (K0 = true ∧ F0 = true ∧ f0 = 1) ∨ (K0 = true ∧ F0 = false ∧ f0 = -1) ∨ (K0 = false ∧ f0 = 0)) (n1 e1 f1 : Int) (K1 F1 : Bool) (g1 : (K1 = true ∧ F1 = true ∧ f1 = 1) ∨ (K1 = true ∧ F1 = false ∧ f1 = -1) ∨ (K1 = false ∧ f1 = 0)) (n2 e2 f2 : Int) (K2 F2 : Bool) (g2 : (K2 = true ∧ F2 = true ∧ f2 = 1) ∨ (K2 = true ∧ F2 = false ∧ f2 = -1) ∨ (K2 = false ∧ f2 = 0)) (n3 e3 f3 : Int) (K3 F3 : Bool) (g3 : (K3 = true ∧ F3 = true ∧ f3 = 1) ∨ (K3 = true ∧ F3 = false ∧ f3 = -1) ∨ (K3 = false ∧ f3 = 0)) (hs : f0 + f1 + f2 + f3 = 0)
    (m0 : Gives Try.prog 25 #[.agg #[.int .i64 o.x, .int .i64 o.y, .int .i64 o.z], .agg #[.int .i64 d.x, .int .i64 d.y, .int .i64 d.z], .agg #[.int .i64 a.x, .int .i64 a.y, .int .i64 a.z, .int .i64 b.x, .int .i64 b.y, .int .i64 b.z, .int .i64 c.x, .int .i64 c.y, .int .i64 c.z]] (.tuple #[.agg #[.int .i64 (n0), .int .i64 (e0), .bool (F0), .int .i64 0, .int .i64 0], .bool (K0), .int .i64 (0)]))
    (m1 : Gives Try.prog 25 #[.agg #[.int .i64 o.x, .int .i64 o.y, .int .i64 o.z], .agg #[.int .i64 d.x, .int .i64 d.y, .int .i64 d.z], .agg #[.int .i64 a.x, .int .i64 a.y, .int .i64 a.z, .int .i64 c.x, .int .i64 c.y, .int .i64 c.z, .int .i64 p.x, .int .i64 p.y, .int .i64 p.z]] (.tuple #[.agg #[.int .i64 (n1), .int .i64 (e1), .bool (F1), .int .i64 0, .int .i64 0], .bool (K1), .int .i64 (0)]))
    (m2 : Gives Try.prog 25 #[.agg #[.int .i64 o.x, .int .i64 o.y, .int .i64 o.z], .agg #[.int .i64 d.x, .int .i64 d.y, .int .i64 d.z], .agg #[.int .i64 a.x, .int .i64 a.y, .int .i64 a.z, .int .i64 p.x, .int .i64 p.y, .int .i64 p.z, .int .i64 b.x, .int .i64 b.y, .int .i64 b.z]] (.tuple #[.agg #[.int .i64 (n2), .int .i64 (e2), .bool (F2), .int .i64 0, .int .i64 0], .bool (K2), .int .i64 (0)]))
    (m3 : Gives Try.prog 25 #[.agg #[.int .i64 o.x, .int .i64 o.y, .int .i64 o.z], .agg #[.int .i64 d.x, .int .i64 d.y, .int .i64 d.z], .agg #[.int .i64 b.x, .int .i64 b.y, .int .i64 b.z, .int .i64 p.x, .int .i64 p.y, .int .i64 p.z, .int .i64 c.x, .int .i64 c.y, .int .i64 c.z]] (.tuple #[.agg #[.int .i64 (n3), .int .i64 (e3), .bool (F3), .int .i64 0, .int .i64 0], .bool (K3), .int .i64 (0)])) :
    Calls Try.prog 7 #[.agg #[.int .i64 o.x, .int .i64 o.y, .int .i64 o.z], .agg #[.int .i64 d.x, .int .i64 d.y, .int .i64 d.z], .agg #[.int .i64 a.x, .int .i64 a.y, .int .i64 a.z], .agg #[.int .i64 b.x, .int .i64 b.y, .int .i64 b.z], .agg #[.int .i64 c.x, .int .i64 c.y, .int .i64 c.z], .agg #[.int .i64 p.x, .int .i64 p.y, .int .i64 p.z]] w fun e w' => e = .returned (.bool true) ∧ Below w.heap.size w w' := by
  have al := alive3_any
  have hf0 : -1 ≤ f0 ∧ f0 ≤ 1 := by omega
  have hf1 : -1 ≤ f1 ∧ f1 ≤ 1 := by omega
  have hf2 : -1 ≤ f2 ∧ f2 ≤ 1 := by omega
  have HS := Lib.hid hs
  clear hs
  go_enter Try.func7, Try.ntmps7
  go_wp2_with (first | (go_at_call 22; first | ((with_reducible refine (al.at_ _).mono ?_); rintro e w' ⟨rfl, xg, rfl⟩)) | (refine wpList_val rfl _ _ (alloc_tet _ _ rfl _ _ rfl) ?_) | (refine wpList_val rfl _ _ (build_tet _ _ _ _ _ _ rfl _ a b c p rfl rfl rfl rfl) ?_) | (refine wpList_store_tet rfl _ _ rfl _ a b c p rfl rfl rfl ?_))
  have B : Blk ((grow ((((((w.alloc (.cells #[.int .i64 o.x, .int .i64 o.y, .int .i64 o.z] 36)).alloc (.cells #[.int .i64 d.x, .int .i64 d.y, .int .i64 d.z] 36)).alloc (.cells #[.int .i64 a.x, .int .i64 a.y, .int .i64 a.z] 36)).alloc (.cells #[.int .i64 b.x, .int .i64 b.y, .int .i64 b.z] 36)).alloc (.cells #[.int .i64 c.x, .int .i64 c.y, .int .i64 c.z] 36)).alloc (.cells #[.int .i64 p.x, .int .i64 p.y, .int .i64 p.z] 36)) xg).alloc (.cells (tet a b c p) 51)) (grow ((((((w.alloc (.cells #[.int .i64 o.x, .int .i64 o.y, .int .i64 o.z] 36)).alloc (.cells #[.int .i64 d.x, .int .i64 d.y, .int .i64 d.z] 36)).alloc (.cells #[.int .i64 a.x, .int .i64 a.y, .int .i64 a.z] 36)).alloc (.cells #[.int .i64 b.x, .int .i64 b.y, .int .i64 b.z] 36)).alloc (.cells #[.int .i64 c.x, .int .i64 c.y, .int .i64 c.z] 36)).alloc (.cells #[.int .i64 p.x, .int .i64 p.y, .int .i64 p.z] 36)) xg).heap.size 51 (tet a b c p) := Blk.new _ _ _ _ rfl
  go_loopw [15, 14] (fun i n wr => clC f0 f1 f2 i n ∧ ∃ x, wr = grow ((grow ((((((w.alloc (.cells #[.int .i64 o.x, .int .i64 o.y, .int .i64 o.z] 36)).alloc (.cells #[.int .i64 d.x, .int .i64 d.y, .int .i64 d.z] 36)).alloc (.cells #[.int .i64 a.x, .int .i64 a.y, .int .i64 a.z] 36)).alloc (.cells #[.int .i64 b.x, .int .i64 b.y, .int .i64 b.z] 36)).alloc (.cells #[.int .i64 c.x, .int .i64 c.y, .int .i64 c.z] 36)).alloc (.cells #[.int .i64 p.x, .int .i64 p.y, .int .i64 p.z] 36)) xg).alloc (.cells (tet a b c p) 51)) x) (fun i _ _ => (4 - intOf i).toNat)
  case atStart => exact ⟨.inl ⟨rfl, rfl⟩, grow_of (by repeat (first | exact Below.refl _ _ | refine bel_then ?_ _ | refine bel_grow ?_ _ | refine bel_alloc ?_ _ | refine bel_drew ?_ | refine bel_set ?_ (by simp) _ | refine bel_setRow ?_ (by first | omega | simp; done | exact Nat.le_trans (by simp) (top_le _ _)) _))⟩
  case round =>
    obtain ⟨hr, xx, rfl⟩ := hrel
    unfold clC at hr
    rcases hr with ⟨rfl, rfl⟩ | ⟨rfl, rfl⟩ | ⟨rfl, rfl⟩ | ⟨rfl, rfl⟩ | ⟨rfl, rfl⟩
    · rcases g0 with ⟨rfl, rfl, rfl⟩ | ⟨rfl, rfl, rfl⟩ | ⟨rfl, rfl⟩
      · go_wp2_with fail
        refine wp_region_mid 10 ?_ 16 (.cells #[.int .i64 0, .int .i64 0, .bool false, .int .i64 0, .int .i64 0] 43) (.cells #[.int .i64 (n0), .int .i64 (e0), .bool (true), .int .i64 0, .int .i64 0] 43) (by kernel_rfl) (by kernel_rfl) (by kernel_rfl) (fun d hd => by cases hd; exact ⟨_, rfl, rfl, rfl, fun A u => alloc_hit A _ rfl u⟩) (fun pp => ?_) (fun pp => ?_) (fun pp => ⟨?_, ?_, fun x => ?_, fun qq => ?_⟩)
        rotate_left
        · simp only [List.take_succ_cons, List.take_zero]
          repeat (first | (refine quiet_tri _ rfl rfl ((grow ((((((w.alloc (.cells #[.int .i64 o.x, .int .i64 o.y, .int .i64 o.z] 36)).alloc (.cells #[.int .i64 d.x, .int .i64 d.y, .int .i64 d.z] 36)).alloc (.cells #[.int .i64 a.x, .int .i64 a.y, .int .i64 a.z] 36)).alloc (.cells #[.int .i64 b.x, .int .i64 b.y, .int .i64 b.z] 36)).alloc (.cells #[.int .i64 c.x, .int .i64 c.y, .int .i64 c.z] 36)).alloc (.cells #[.int .i64 p.x, .int .i64 p.y, .int .i64 p.z] 36)) xg).heap.size) 0 rfl #[.int .i64 a.x, .int .i64 a.y, .int .i64 a.z, .int .i64 b.x, .int .i64 b.y, .int .i64 b.z, .int .i64 c.x, .int .i64 c.y, .int .i64 c.z] rfl (fun u hu => by obtain ⟨y, rfl⟩ := hu; exact (tet_part (by first | exact B.grow _ | exact (B.grow _).grow _ | exact ((B.grow _).grow _).grow _)).1) ?_; try simp only [Act.put, List.setIfInBounds_toArray, List.set_cons_succ, List.set_cons_zero]) | go_big_quiet_step (((first | with_reducible exact m0.quiet _ | with_reducible exact m0.quiet2 _ _))))
          refine wpQuiet_nil ?_
          exact rfl
        · exact ⟨_, rfl, storeAt_row 43 _ _ _ _ rfl rfl rfl rfl rfl (by kernel_rfl) rfl (by first | kernel_rfl | simp [Value.oneCell'] | (simp only [List.all_toArray, Array.all]; rfl))⟩
        rotate_left
        · kernel_rfl
        · simp only [List.drop_succ_cons, List.drop_zero]
          try simp only [Act.put, List.setIfInBounds_toArray, List.set_cons_succ, List.set_cons_zero]
          repeat (go_big_quiet_step ((fail)))
          refine wpQuiet_nil ?_
          exact rfl
        go_wp2_with fail
        go_roundw
        case rel => exact ⟨.inr (.inl ⟨rfl, congrArg (Value.int .i64) (by omega)⟩), grow_of (by repeat (first | exact Below.refl _ _ | refine bel_then ?_ _ | refine bel_grow ?_ _ | refine bel_alloc ?_ _ | refine bel_drew ?_ | refine bel_set ?_ (by simp) _ | refine bel_setRow ?_ (by first | omega | simp; done | exact Nat.le_trans (by simp) (top_le _ _)) _))⟩
        case measure => simp [intOf]
      · go_wp2_with fail
        refine wp_region_mid 10 ?_ 16 (.cells #[.int .i64 0, .int .i64 0, .bool false, .int .i64 0, .int .i64 0] 43) (.cells #[.int .i64 (n0), .int .i64 (e0), .bool (false), .int .i64 0, .int .i64 0] 43) (by kernel_rfl) (by kernel_rfl) (by kernel_rfl) (fun d hd => by cases hd; exact ⟨_, rfl, rfl, rfl, fun A u => alloc_hit A _ rfl u⟩) (fun pp => ?_) (fun pp => ?_) (fun pp => ⟨?_, ?_, fun x => ?_, fun qq => ?_⟩)
        rotate_left
        · simp only [List.take_succ_cons, List.take_zero]
          repeat (first | (refine quiet_tri _ rfl rfl ((grow ((((((w.alloc (.cells #[.int .i64 o.x, .int .i64 o.y, .int .i64 o.z] 36)).alloc (.cells #[.int .i64 d.x, .int .i64 d.y, .int .i64 d.z] 36)).alloc (.cells #[.int .i64 a.x, .int .i64 a.y, .int .i64 a.z] 36)).alloc (.cells #[.int .i64 b.x, .int .i64 b.y, .int .i64 b.z] 36)).alloc (.cells #[.int .i64 c.x, .int .i64 c.y, .int .i64 c.z] 36)).alloc (.cells #[.int .i64 p.x, .int .i64 p.y, .int .i64 p.z] 36)) xg).heap.size) 0 rfl #[.int .i64 a.x, .int .i64 a.y, .int .i64 a.z, .int .i64 b.x, .int .i64 b.y, .int .i64 b.z, .int .i64 c.x, .int .i64 c.y, .int .i64 c.z] rfl (fun u hu => by obtain ⟨y, rfl⟩ := hu; exact (tet_part (by first | exact B.grow _ | exact (B.grow _).grow _ | exact ((B.grow _).grow _).grow _)).1) ?_; try simp only [Act.put, List.setIfInBounds_toArray, List.set_cons_succ, List.set_cons_zero]) | go_big_quiet_step (((first | with_reducible exact m0.quiet _ | with_reducible exact m0.quiet2 _ _))))
          refine wpQuiet_nil ?_
          exact rfl
        · exact ⟨_, rfl, storeAt_row 43 _ _ _ _ rfl rfl rfl rfl rfl (by kernel_rfl) rfl (by first | kernel_rfl | simp [Value.oneCell'] | (simp only [List.all_toArray, Array.all]; rfl))⟩
        rotate_left
        · kernel_rfl
        · simp only [List.drop_succ_cons, List.drop_zero]
          try simp only [Act.put, List.setIfInBounds_toArray, List.set_cons_succ, List.set_cons_zero]
          repeat (go_big_quiet_step ((fail)))
          refine wpQuiet_nil ?_
          exact rfl
        go_wp2_with fail
        go_roundw
        case rel => exact ⟨.inr (.inl ⟨rfl, congrArg (Value.int .i64) (by omega)⟩), grow_of (by repeat (first | exact Below.refl _ _ | refine bel_then ?_ _ | refine bel_grow ?_ _ | refine bel_alloc ?_ _ | refine bel_drew ?_ | refine bel_set ?_ (by simp) _ | refine bel_setRow ?_ (by first | omega | simp; done | exact Nat.le_trans (by simp) (top_le _ _)) _))⟩
        case measure => simp [intOf]
      · go_wp2_with fail
        refine wp_region_mid 10 ?_ 16 (.cells #[.int .i64 0, .int .i64 0, .bool false, .int .i64 0, .int .i64 0] 43) (.cells #[.int .i64 (n0), .int .i64 (e0), .bool (F0), .int .i64 0, .int .i64 0] 43) (by kernel_rfl) (by kernel_rfl) (by kernel_rfl) (fun d hd => by cases hd; exact ⟨_, rfl, rfl, rfl, fun A u => alloc_hit A _ rfl u⟩) (fun pp => ?_) (fun pp => ?_) (fun pp => ⟨?_, ?_, fun x => ?_, fun qq => ?_⟩)
        rotate_left
        · simp only [List.take_succ_cons, List.take_zero]
          repeat (first | (refine quiet_tri _ rfl rfl ((grow ((((((w.alloc (.cells #[.int .i64 o.x, .int .i64 o.y, .int .i64 o.z] 36)).alloc (.cells #[.int .i64 d.x, .int .i64 d.y, .int .i64 d.z] 36)).alloc (.cells #[.int .i64 a.x, .int .i64 a.y, .int .i64 a.z] 36)).alloc (.cells #[.int .i64 b.x, .int .i64 b.y, .int .i64 b.z] 36)).alloc (.cells #[.int .i64 c.x, .int .i64 c.y, .int .i64 c.z] 36)).alloc (.cells #[.int .i64 p.x, .int .i64 p.y, .int .i64 p.z] 36)) xg).heap.size) 0 rfl #[.int .i64 a.x, .int .i64 a.y, .int .i64 a.z, .int .i64 b.x, .int .i64 b.y, .int .i64 b.z, .int .i64 c.x, .int .i64 c.y, .int .i64 c.z] rfl (fun u hu => by obtain ⟨y, rfl⟩ := hu; exact (tet_part (by first | exact B.grow _ | exact (B.grow _).grow _ | exact ((B.grow _).grow _).grow _)).1) ?_; try simp only [Act.put, List.setIfInBounds_toArray, List.set_cons_succ, List.set_cons_zero]) | go_big_quiet_step (((first | with_reducible exact m0.quiet _ | with_reducible exact m0.quiet2 _ _))))
          refine wpQuiet_nil ?_
          exact rfl
        · exact ⟨_, rfl, storeAt_row 43 _ _ _ _ rfl rfl rfl rfl rfl (by kernel_rfl) rfl (by first | kernel_rfl | simp [Value.oneCell'] | (simp only [List.all_toArray, Array.all]; rfl))⟩
        rotate_left
        · kernel_rfl
        · simp only [List.drop_succ_cons, List.drop_zero]
          try simp only [Act.put, List.setIfInBounds_toArray, List.set_cons_succ, List.set_cons_zero]
          repeat (go_big_quiet_step ((fail)))
          refine wpQuiet_nil ?_
          exact rfl
        go_wp2_with fail
        go_roundw
        case rel => exact ⟨.inr (.inl ⟨rfl, congrArg (Value.int .i64) (by omega)⟩), grow_of (by repeat (first | exact Below.refl _ _ | refine bel_then ?_ _ | refine bel_grow ?_ _ | refine bel_alloc ?_ _ | refine bel_drew ?_ | refine bel_set ?_ (by simp) _ | refine bel_setRow ?_ (by first | omega | simp; done | exact Nat.le_trans (by simp) (top_le _ _)) _))⟩
        case measure => simp [intOf]
    · rcases g1 with ⟨rfl, rfl, rfl⟩ | ⟨rfl, rfl, rfl⟩ | ⟨rfl, rfl⟩
      · go_wp2_with fail
        refine wp_region_mid 10 ?_ 16 (.cells #[.int .i64 0, .int .i64 0, .bool false, .int .i64 0, .int .i64 0] 43) (.cells #[.int .i64 (n1), .int .i64 (e1), .bool (true), .int .i64 0, .int .i64 0] 43) (by kernel_rfl) (by kernel_rfl) (by kernel_rfl) (fun d hd => by cases hd; exact ⟨_, rfl, rfl, rfl, fun A u => alloc_hit A _ rfl u⟩) (fun pp => ?_) (fun pp => ?_) (fun pp => ⟨?_, ?_, fun x => ?_, fun qq => ?_⟩)
        rotate_left
        · simp only [List.take_succ_cons, List.take_zero]
          repeat (first | (refine quiet_tri _ rfl rfl ((grow ((((((w.alloc (.cells #[.int .i64 o.x, .int .i64 o.y, .int .i64 o.z] 36)).alloc (.cells #[.int .i64 d.x, .int .i64 d.y, .int .i64 d.z] 36)).alloc (.cells #[.int .i64 a.x, .int .i64 a.y, .int .i64 a.z] 36)).alloc (.cells #[.int .i64 b.x, .int .i64 b.y, .int .i64 b.z] 36)).alloc (.cells #[.int .i64 c.x, .int .i64 c.y, .int .i64 c.z] 36)).alloc (.cells #[.int .i64 p.x, .int .i64 p.y, .int .i64 p.z] 36)) xg).heap.size) 9 rfl #[.int .i64 a.x, .int .i64 a.y, .int .i64 a.z, .int .i64 c.x, .int .i64 c.y, .int .i64 c.z, .int .i64 p.x, .int .i64 p.y, .int .i64 p.z] rfl (fun u hu => by obtain ⟨y, rfl⟩ := hu; exact (tet_part (by first | exact B.grow _ | exact (B.grow _).grow _ | exact ((B.grow _).grow _).grow _)).2.1) ?_; try simp only [Act.put, List.setIfInBounds_toArray, List.set_cons_succ, List.set_cons_zero]) | go_big_quiet_step (((first | with_reducible exact m1.quiet _ | with_reducible exact m1.quiet2 _ _))))
          refine wpQuiet_nil ?_
          exact rfl
        · exact ⟨_, rfl, storeAt_row 43 _ _ _ _ rfl rfl rfl rfl rfl (by kernel_rfl) rfl (by first | kernel_rfl | simp [Value.oneCell'] | (simp only [List.all_toArray, Array.all]; rfl))⟩
        rotate_left
        · kernel_rfl
        · simp only [List.drop_succ_cons, List.drop_zero]
          try simp only [Act.put, List.setIfInBounds_toArray, List.set_cons_succ, List.set_cons_zero]
          repeat (go_big_quiet_step ((fail)))
          refine wpQuiet_nil ?_
          exact rfl
        go_wp2_with fail
        go_roundw
        case rel => exact ⟨.inr (.inr (.inl ⟨rfl, congrArg (Value.int .i64) (by omega)⟩)), grow_of (by repeat (first | exact Below.refl _ _ | refine bel_then ?_ _ | refine bel_grow ?_ _ | refine bel_alloc ?_ _ | refine bel_drew ?_ | refine bel_set ?_ (by simp) _ | refine bel_setRow ?_ (by first | omega | simp; done | exact Nat.le_trans (by simp) (top_le _ _)) _))⟩
        case measure => simp [intOf]
      · go_wp2_with fail
        refine wp_region_mid 10 ?_ 16 (.cells #[.int .i64 0, .int .i64 0, .bool false, .int .i64 0, .int .i64 0] 43) (.cells #[.int .i64 (n1), .int .i64 (e1), .bool (false), .int .i64 0, .int .i64 0] 43) (by kernel_rfl) (by kernel_rfl) (by kernel_rfl) (fun d hd => by cases hd; exact ⟨_, rfl, rfl, rfl, fun A u => alloc_hit A _ rfl u⟩) (fun pp => ?_) (fun pp => ?_) (fun pp => ⟨?_, ?_, fun x => ?_, fun qq => ?_⟩)
        rotate_left
        · simp only [List.take_succ_cons, List.take_zero]
          repeat (first | (refine quiet_tri _ rfl rfl ((grow ((((((w.alloc (.cells #[.int .i64 o.x, .int .i64 o.y, .int .i64 o.z] 36)).alloc (.cells #[.int .i64 d.x, .int .i64 d.y, .int .i64 d.z] 36)).alloc (.cells #[.int .i64 a.x, .int .i64 a.y, .int .i64 a.z] 36)).alloc (.cells #[.int .i64 b.x, .int .i64 b.y, .int .i64 b.z] 36)).alloc (.cells #[.int .i64 c.x, .int .i64 c.y, .int .i64 c.z] 36)).alloc (.cells #[.int .i64 p.x, .int .i64 p.y, .int .i64 p.z] 36)) xg).heap.size) 9 rfl #[.int .i64 a.x, .int .i64 a.y, .int .i64 a.z, .int .i64 c.x, .int .i64 c.y, .int .i64 c.z, .int .i64 p.x, .int .i64 p.y, .int .i64 p.z] rfl (fun u hu => by obtain ⟨y, rfl⟩ := hu; exact (tet_part (by first | exact B.grow _ | exact (B.grow _).grow _ | exact ((B.grow _).grow _).grow _)).2.1) ?_; try simp only [Act.put, List.setIfInBounds_toArray, List.set_cons_succ, List.set_cons_zero]) | go_big_quiet_step (((first | with_reducible exact m1.quiet _ | with_reducible exact m1.quiet2 _ _))))
          refine wpQuiet_nil ?_
          exact rfl
        · exact ⟨_, rfl, storeAt_row 43 _ _ _ _ rfl rfl rfl rfl rfl (by kernel_rfl) rfl (by first | kernel_rfl | simp [Value.oneCell'] | (simp only [List.all_toArray, Array.all]; rfl))⟩
        rotate_left
        · kernel_rfl
        · simp only [List.drop_succ_cons, List.drop_zero]
          try simp only [Act.put, List.setIfInBounds_toArray, List.set_cons_succ, List.set_cons_zero]
          repeat (go_big_quiet_step ((fail)))
          refine wpQuiet_nil ?_
          exact rfl
        go_wp2_with fail
        go_roundw
        case rel => exact ⟨.inr (.inr (.inl ⟨rfl, congrArg (Value.int .i64) (by omega)⟩)), grow_of (by repeat (first | exact Below.refl _ _ | refine bel_then ?_ _ | refine bel_grow ?_ _ | refine bel_alloc ?_ _ | refine bel_drew ?_ | refine bel_set ?_ (by simp) _ | refine bel_setRow ?_ (by first | omega | simp; done | exact Nat.le_trans (by simp) (top_le _ _)) _))⟩
        case measure => simp [intOf]
      · go_wp2_with fail
        refine wp_region_mid 10 ?_ 16 (.cells #[.int .i64 0, .int .i64 0, .bool false, .int .i64 0, .int .i64 0] 43) (.cells #[.int .i64 (n1), .int .i64 (e1), .bool (F1), .int .i64 0, .int .i64 0] 43) (by kernel_rfl) (by kernel_rfl) (by kernel_rfl) (fun d hd => by cases hd; exact ⟨_, rfl, rfl, rfl, fun A u => alloc_hit A _ rfl u⟩) (fun pp => ?_) (fun pp => ?_) (fun pp => ⟨?_, ?_, fun x => ?_, fun qq => ?_⟩)
        rotate_left
        · simp only [List.take_succ_cons, List.take_zero]
          repeat (first | (refine quiet_tri _ rfl rfl ((grow ((((((w.alloc (.cells #[.int .i64 o.x, .int .i64 o.y, .int .i64 o.z] 36)).alloc (.cells #[.int .i64 d.x, .int .i64 d.y, .int .i64 d.z] 36)).alloc (.cells #[.int .i64 a.x, .int .i64 a.y, .int .i64 a.z] 36)).alloc (.cells #[.int .i64 b.x, .int .i64 b.y, .int .i64 b.z] 36)).alloc (.cells #[.int .i64 c.x, .int .i64 c.y, .int .i64 c.z] 36)).alloc (.cells #[.int .i64 p.x, .int .i64 p.y, .int .i64 p.z] 36)) xg).heap.size) 9 rfl #[.int .i64 a.x, .int .i64 a.y, .int .i64 a.z, .int .i64 c.x, .int .i64 c.y, .int .i64 c.z, .int .i64 p.x, .int .i64 p.y, .int .i64 p.z] rfl (fun u hu => by obtain ⟨y, rfl⟩ := hu; exact (tet_part (by first | exact B.grow _ | exact (B.grow _).grow _ | exact ((B.grow _).grow _).grow _)).2.1) ?_; try simp only [Act.put, List.setIfInBounds_toArray, List.set_cons_succ, List.set_cons_zero]) | go_big_quiet_step (((first | with_reducible exact m1.quiet _ | with_reducible exact m1.quiet2 _ _))))
          refine wpQuiet_nil ?_
          exact rfl
        · exact ⟨_, rfl, storeAt_row 43 _ _ _ _ rfl rfl rfl rfl rfl (by kernel_rfl) rfl (by first | kernel_rfl | simp [Value.oneCell'] | (simp only [List.all_toArray, Array.all]; rfl))⟩
        rotate_left
        · kernel_rfl
        · simp only [List.drop_succ_cons, List.drop_zero]
          try simp only [Act.put, List.setIfInBounds_toArray, List.set_cons_succ, List.set_cons_zero]
          repeat (go_big_quiet_step ((fail)))
          refine wpQuiet_nil ?_
          exact rfl
        go_wp2_with fail
        go_roundw
        case rel => exact ⟨.inr (.inr (.inl ⟨rfl, congrArg (Value.int .i64) (by omega)⟩)), grow_of (by repeat (first | exact Below.refl _ _ | refine bel_then ?_ _ | refine bel_grow ?_ _ | refine bel_alloc ?_ _ | refine bel_drew ?_ | refine bel_set ?_ (by simp) _ | refine bel_setRow ?_ (by first | omega | simp; done | exact Nat.le_trans (by simp) (top_le _ _)) _))⟩
        case measure => simp [intOf]
    · rcases g2 with ⟨rfl, rfl, rfl⟩ | ⟨rfl, rfl, rfl⟩ | ⟨rfl, rfl⟩
      · go_wp2_with fail
        refine wp_region_mid 10 ?_ 16 (.cells #[.int .i64 0, .int .i64 0, .bool false, .int .i64 0, .int .i64 0] 43) (.cells #[.int .i64 (n2), .int .i64 (e2), .bool (true), .int .i64 0, .int .i64 0] 43) (by kernel_rfl) (by kernel_rfl) (by kernel_rfl) (fun d hd => by cases hd; exact ⟨_, rfl, rfl, rfl, fun A u => alloc_hit A _ rfl u⟩) (fun pp => ?_) (fun pp => ?_) (fun pp => ⟨?_, ?_, fun x => ?_, fun qq => ?_⟩)
        rotate_left
        · simp only [List.take_succ_cons, List.take_zero]
          repeat (first | (refine quiet_tri _ rfl rfl ((grow ((((((w.alloc (.cells #[.int .i64 o.x, .int .i64 o.y, .int .i64 o.z] 36)).alloc (.cells #[.int .i64 d.x, .int .i64 d.y, .int .i64 d.z] 36)).alloc (.cells #[.int .i64 a.x, .int .i64 a.y, .int .i64 a.z] 36)).alloc (.cells #[.int .i64 b.x, .int .i64 b.y, .int .i64 b.z] 36)).alloc (.cells #[.int .i64 c.x, .int .i64 c.y, .int .i64 c.z] 36)).alloc (.cells #[.int .i64 p.x, .int .i64 p.y, .int .i64 p.z] 36)) xg).heap.size) 18 rfl #[.int .i64 a.x, .int .i64 a.y, .int .i64 a.z, .int .i64 p.x, .int .i64 p.y, .int .i64 p.z, .int .i64 b.x, .int .i64 b.y, .int .i64 b.z] rfl (fun u hu => by obtain ⟨y, rfl⟩ := hu; exact (tet_part (by first | exact B.grow _ | exact (B.grow _).grow _ | exact ((B.grow _).grow _).grow _)).2.2.1) ?_; try simp only [Act.put, List.setIfInBounds_toArray, List.set_cons_succ, List.set_cons_zero]) | go_big_quiet_step (((first | with_reducible exact m2.quiet _ | with_reducible exact m2.quiet2 _ _))))
          refine wpQuiet_nil ?_
          exact rfl
        · exact ⟨_, rfl, storeAt_row 43 _ _ _ _ rfl rfl rfl rfl rfl (by kernel_rfl) rfl (by first | kernel_rfl | simp [Value.oneCell'] | (simp only [List.all_toArray, Array.all]; rfl))⟩
        rotate_left
        · kernel_rfl
        · simp only [List.drop_succ_cons, List.drop_zero]
          try simp only [Act.put, List.setIfInBounds_toArray, List.set_cons_succ, List.set_cons_zero]
          repeat (go_big_quiet_step ((fail)))
          refine wpQuiet_nil ?_
          exact rfl
        go_wp2_with fail
        go_roundw
        case rel => exact ⟨.inr (.inr (.inr (.inl ⟨rfl, congrArg (Value.int .i64) (by omega)⟩))), grow_of (by repeat (first | exact Below.refl _ _ | refine bel_then ?_ _ | refine bel_grow ?_ _ | refine bel_alloc ?_ _ | refine bel_drew ?_ | refine bel_set ?_ (by simp) _ | refine bel_setRow ?_ (by first | omega | simp; done | exact Nat.le_trans (by simp) (top_le _ _)) _))⟩
        case measure => simp [intOf]
      · go_wp2_with fail
        refine wp_region_mid 10 ?_ 16 (.cells #[.int .i64 0, .int .i64 0, .bool false, .int .i64 0, .int .i64 0] 43) (.cells #[.int .i64 (n2), .int .i64 (e2), .bool (false), .int .i64 0, .int .i64 0] 43) (by kernel_rfl) (by kernel_rfl) (by kernel_rfl) (fun d hd => by cases hd; exact ⟨_, rfl, rfl, rfl, fun A u => alloc_hit A _ rfl u⟩) (fun pp => ?_) (fun pp => ?_) (fun pp => ⟨?_, ?_, fun x => ?_, fun qq => ?_⟩)
        rotate_left
        · simp only [List.take_succ_cons, List.take_zero]
          repeat (first | (refine quiet_tri _ rfl rfl ((grow ((((((w.alloc (.cells #[.int .i64 o.x, .int .i64 o.y, .int .i64 o.z] 36)).alloc (.cells #[.int .i64 d.x, .int .i64 d.y, .int .i64 d.z] 36)).alloc (.cells #[.int .i64 a.x, .int .i64 a.y, .int .i64 a.z] 36)).alloc (.cells #[.int .i64 b.x, .int .i64 b.y, .int .i64 b.z] 36)).alloc (.cells #[.int .i64 c.x, .int .i64 c.y, .int .i64 c.z] 36)).alloc (.cells #[.int .i64 p.x, .int .i64 p.y, .int .i64 p.z] 36)) xg).heap.size) 18 rfl #[.int .i64 a.x, .int .i64 a.y, .int .i64 a.z, .int .i64 p.x, .int .i64 p.y, .int .i64 p.z, .int .i64 b.x, .int .i64 b.y, .int .i64 b.z] rfl (fun u hu => by obtain ⟨y, rfl⟩ := hu; exact (tet_part (by first | exact B.grow _ | exact (B.grow _).grow _ | exact ((B.grow _).grow _).grow _)).2.2.1) ?_; try simp only [Act.put, List.setIfInBounds_toArray, List.set_cons_succ, List.set_cons_zero]) | go_big_quiet_step (((first | with_reducible exact m2.quiet _ | with_reducible exact m2.quiet2 _ _))))
          refine wpQuiet_nil ?_
          exact rfl
        · exact ⟨_, rfl, storeAt_row 43 _ _ _ _ rfl rfl rfl rfl rfl (by kernel_rfl) rfl (by first | kernel_rfl | simp [Value.oneCell'] | (simp only [List.all_toArray, Array.all]; rfl))⟩
        rotate_left
        · kernel_rfl
        · simp only [List.drop_succ_cons, List.drop_zero]
          try simp only [Act.put, List.setIfInBounds_toArray, List.set_cons_succ, List.set_cons_zero]
          repeat (go_big_quiet_step ((fail)))
          refine wpQuiet_nil ?_
          exact rfl
        go_wp2_with fail
        go_roundw
        case rel => exact ⟨.inr (.inr (.inr (.inl ⟨rfl, congrArg (Value.int .i64) (by omega)⟩))), grow_of (by repeat (first | exact Below.refl _ _ | refine bel_then ?_ _ | refine bel_grow ?_ _ | refine bel_alloc ?_ _ | refine bel_drew ?_ | refine bel_set ?_ (by simp) _ | refine bel_setRow ?_ (by first | omega | simp; done | exact Nat.le_trans (by simp) (top_le _ _)) _))⟩
        case measure => simp [intOf]
      · go_wp2_with fail
        refine wp_region_mid 10 ?_ 16 (.cells #[.int .i64 0, .int .i64 0, .bool false, .int .i64 0, .int .i64 0] 43) (.cells #[.int .i64 (n2), .int .i64 (e2), .bool (F2), .int .i64 0, .int .i64 0] 43) (by kernel_rfl) (by kernel_rfl) (by kernel_rfl) (fun d hd => by cases hd; exact ⟨_, rfl, rfl, rfl, fun A u => alloc_hit A _ rfl u⟩) (fun pp => ?_) (fun pp => ?_) (fun pp => ⟨?_, ?_, fun x => ?_, fun qq => ?_⟩)
        rotate_left
        · simp only [List.take_succ_cons, List.take_zero]
          repeat (first | (refine quiet_tri _ rfl rfl ((grow ((((((w.alloc (.cells #[.int .i64 o.x, .int .i64 o.y, .int .i64 o.z] 36)).alloc (.cells #[.int .i64 d.x, .int .i64 d.y, .int .i64 d.z] 36)).alloc (.cells #[.int .i64 a.x, .int .i64 a.y, .int .i64 a.z] 36)).alloc (.cells #[.int .i64 b.x, .int .i64 b.y, .int .i64 b.z] 36)).alloc (.cells #[.int .i64 c.x, .int .i64 c.y, .int .i64 c.z] 36)).alloc (.cells #[.int .i64 p.x, .int .i64 p.y, .int .i64 p.z] 36)) xg).heap.size) 18 rfl #[.int .i64 a.x, .int .i64 a.y, .int .i64 a.z, .int .i64 p.x, .int .i64 p.y, .int .i64 p.z, .int .i64 b.x, .int .i64 b.y, .int .i64 b.z] rfl (fun u hu => by obtain ⟨y, rfl⟩ := hu; exact (tet_part (by first | exact B.grow _ | exact (B.grow _).grow _ | exact ((B.grow _).grow _).grow _)).2.2.1) ?_; try simp only [Act.put, List.setIfInBounds_toArray, List.set_cons_succ, List.set_cons_zero]) | go_big_quiet_step (((first | with_reducible exact m2.quiet _ | with_reducible exact m2.quiet2 _ _))))
          refine wpQuiet_nil ?_
          exact rfl
        · exact ⟨_, rfl, storeAt_row 43 _ _ _ _ rfl rfl rfl rfl rfl (by kernel_rfl) rfl (by first | kernel_rfl | simp [Value.oneCell'] | (simp only [List.all_toArray, Array.all]; rfl))⟩
        rotate_left
        · kernel_rfl
        · simp only [List.drop_succ_cons, List.drop_zero]
          try simp only [Act.put, List.setIfInBounds_toArray, List.set_cons_succ, List.set_cons_zero]
          repeat (go_big_quiet_step ((fail)))
          refine wpQuiet_nil ?_
          exact rfl
        go_wp2_with fail
        go_roundw
        case rel => exact ⟨.inr (.inr (.inr (.inl ⟨rfl, congrArg (Value.int .i64) (by omega)⟩))), grow_of (by repeat (first | exact Below.refl _ _ | refine bel_then ?_ _ | refine bel_grow ?_ _ | refine bel_alloc ?_ _ | refine bel_drew ?_ | refine bel_set ?_ (by simp) _ | refine bel_setRow ?_ (by first | omega | simp; done | exact Nat.le_trans (by simp) (top_le _ _)) _))⟩
        case measure => simp [intOf]
    · rcases g3 with ⟨rfl, rfl, rfl⟩ | ⟨rfl, rfl, rfl⟩ | ⟨rfl, rfl⟩
      · go_wp2_with fail
        refine wp_region_mid 10 ?_ 16 (.cells #[.int .i64 0, .int .i64 0, .bool false, .int .i64 0, .int .i64 0] 43) (.cells #[.int .i64 (n3), .int .i64 (e3), .bool (true), .int .i64 0, .int .i64 0] 43) (by kernel_rfl) (by kernel_rfl) (by kernel_rfl) (fun d hd => by cases hd; exact ⟨_, rfl, rfl, rfl, fun A u => alloc_hit A _ rfl u⟩) (fun pp => ?_) (fun pp => ?_) (fun pp => ⟨?_, ?_, fun x => ?_, fun qq => ?_⟩)
        rotate_left
        · simp only [List.take_succ_cons, List.take_zero]
          repeat (first | (refine quiet_tri _ rfl rfl ((grow ((((((w.alloc (.cells #[.int .i64 o.x, .int .i64 o.y, .int .i64 o.z] 36)).alloc (.cells #[.int .i64 d.x, .int .i64 d.y, .int .i64 d.z] 36)).alloc (.cells #[.int .i64 a.x, .int .i64 a.y, .int .i64 a.z] 36)).alloc (.cells #[.int .i64 b.x, .int .i64 b.y, .int .i64 b.z] 36)).alloc (.cells #[.int .i64 c.x, .int .i64 c.y, .int .i64 c.z] 36)).alloc (.cells #[.int .i64 p.x, .int .i64 p.y, .int .i64 p.z] 36)) xg).heap.size) 27 rfl #[.int .i64 b.x, .int .i64 b.y, .int .i64 b.z, .int .i64 p.x, .int .i64 p.y, .int .i64 p.z, .int .i64 c.x, .int .i64 c.y, .int .i64 c.z] rfl (fun u hu => by obtain ⟨y, rfl⟩ := hu; exact (tet_part (by first | exact B.grow _ | exact (B.grow _).grow _ | exact ((B.grow _).grow _).grow _)).2.2.2) ?_; try simp only [Act.put, List.setIfInBounds_toArray, List.set_cons_succ, List.set_cons_zero]) | go_big_quiet_step (((first | with_reducible exact m3.quiet _ | with_reducible exact m3.quiet2 _ _))))
          refine wpQuiet_nil ?_
          exact rfl
        · exact ⟨_, rfl, storeAt_row 43 _ _ _ _ rfl rfl rfl rfl rfl (by kernel_rfl) rfl (by first | kernel_rfl | simp [Value.oneCell'] | (simp only [List.all_toArray, Array.all]; rfl))⟩
        rotate_left
        · kernel_rfl
        · simp only [List.drop_succ_cons, List.drop_zero]
          try simp only [Act.put, List.setIfInBounds_toArray, List.set_cons_succ, List.set_cons_zero]
          repeat (go_big_quiet_step ((fail)))
          refine wpQuiet_nil ?_
          exact rfl
        go_wp2_with fail
        go_roundw
        case rel => exact ⟨.inr (.inr (.inr (.inr ⟨rfl, congrArg (Value.int .i64) (by have := HS.out; omega)⟩))), grow_of (by repeat (first | exact Below.refl _ _ | refine bel_then ?_ _ | refine bel_grow ?_ _ | refine bel_alloc ?_ _ | refine bel_drew ?_ | refine bel_set ?_ (by simp) _ | refine bel_setRow ?_ (by first | omega | simp; done | exact Nat.le_trans (by simp) (top_le _ _)) _))⟩
        case measure => simp [intOf]
      · go_wp2_with fail
        refine wp_region_mid 10 ?_ 16 (.cells #[.int .i64 0, .int .i64 0, .bool false, .int .i64 0, .int .i64 0] 43) (.cells #[.int .i64 (n3), .int .i64 (e3), .bool (false), .int .i64 0, .int .i64 0] 43) (by kernel_rfl) (by kernel_rfl) (by kernel_rfl) (fun d hd => by cases hd; exact ⟨_, rfl, rfl, rfl, fun A u => alloc_hit A _ rfl u⟩) (fun pp => ?_) (fun pp => ?_) (fun pp => ⟨?_, ?_, fun x => ?_, fun qq => ?_⟩)
        rotate_left
        · simp only [List.take_succ_cons, List.take_zero]
          repeat (first | (refine quiet_tri _ rfl rfl ((grow ((((((w.alloc (.cells #[.int .i64 o.x, .int .i64 o.y, .int .i64 o.z] 36)).alloc (.cells #[.int .i64 d.x, .int .i64 d.y, .int .i64 d.z] 36)).alloc (.cells #[.int .i64 a.x, .int .i64 a.y, .int .i64 a.z] 36)).alloc (.cells #[.int .i64 b.x, .int .i64 b.y, .int .i64 b.z] 36)).alloc (.cells #[.int .i64 c.x, .int .i64 c.y, .int .i64 c.z] 36)).alloc (.cells #[.int .i64 p.x, .int .i64 p.y, .int .i64 p.z] 36)) xg).heap.size) 27 rfl #[.int .i64 b.x, .int .i64 b.y, .int .i64 b.z, .int .i64 p.x, .int .i64 p.y, .int .i64 p.z, .int .i64 c.x, .int .i64 c.y, .int .i64 c.z] rfl (fun u hu => by obtain ⟨y, rfl⟩ := hu; exact (tet_part (by first | exact B.grow _ | exact (B.grow _).grow _ | exact ((B.grow _).grow _).grow _)).2.2.2) ?_; try simp only [Act.put, List.setIfInBounds_toArray, List.set_cons_succ, List.set_cons_zero]) | go_big_quiet_step (((first | with_reducible exact m3.quiet _ | with_reducible exact m3.quiet2 _ _))))
          refine wpQuiet_nil ?_
          exact rfl
        · exact ⟨_, rfl, storeAt_row 43 _ _ _ _ rfl rfl rfl rfl rfl (by kernel_rfl) rfl (by first | kernel_rfl | simp [Value.oneCell'] | (simp only [List.all_toArray, Array.all]; rfl))⟩
        rotate_left
        · kernel_rfl
        · simp only [List.drop_succ_cons, List.drop_zero]
          try simp only [Act.put, List.setIfInBounds_toArray, List.set_cons_succ, List.set_cons_zero]
          repeat (go_big_quiet_step ((fail)))
          refine wpQuiet_nil ?_
          exact rfl
        go_wp2_with fail
        go_roundw
        case rel => exact ⟨.inr (.inr (.inr (.inr ⟨rfl, congrArg (Value.int .i64) (by have := HS.out; omega)⟩))), grow_of (by repeat (first | exact Below.refl _ _ | refine bel_then ?_ _ | refine bel_grow ?_ _ | refine bel_alloc ?_ _ | refine bel_drew ?_ | refine bel_set ?_ (by simp) _ | refine bel_setRow ?_ (by first | omega | simp; done | exact Nat.le_trans (by simp) (top_le _ _)) _))⟩
        case measure => simp [intOf]
      · go_wp2_with fail
        refine wp_region_mid 10 ?_ 16 (.cells #[.int .i64 0, .int .i64 0, .bool false, .int .i64 0, .int .i64 0] 43) (.cells #[.int .i64 (n3), .int .i64 (e3), .bool (F3), .int .i64 0, .int .i64 0] 43) (by kernel_rfl) (by kernel_rfl) (by kernel_rfl) (fun d hd => by cases hd; exact ⟨_, rfl, rfl, rfl, fun A u => alloc_hit A _ rfl u⟩) (fun pp => ?_) (fun pp => ?_) (fun pp => ⟨?_, ?_, fun x => ?_, fun qq => ?_⟩)
        rotate_left
        · simp only [List.take_succ_cons, List.take_zero]
          repeat (first | (refine quiet_tri _ rfl rfl ((grow ((((((w.alloc (.cells #[.int .i64 o.x, .int .i64 o.y, .int .i64 o.z] 36)).alloc (.cells #[.int .i64 d.x, .int .i64 d.y, .int .i64 d.z] 36)).alloc (.cells #[.int .i64 a.x, .int .i64 a.y, .int .i64 a.z] 36)).alloc (.cells #[.int .i64 b.x, .int .i64 b.y, .int .i64 b.z] 36)).alloc (.cells #[.int .i64 c.x, .int .i64 c.y, .int .i64 c.z] 36)).alloc (.cells #[.int .i64 p.x, .int .i64 p.y, .int .i64 p.z] 36)) xg).heap.size) 27 rfl #[.int .i64 b.x, .int .i64 b.y, .int .i64 b.z, .int .i64 p.x, .int .i64 p.y, .int .i64 p.z, .int .i64 c.x, .int .i64 c.y, .int .i64 c.z] rfl (fun u hu => by obtain ⟨y, rfl⟩ := hu; exact (tet_part (by first | exact B.grow _ | exact (B.grow _).grow _ | exact ((B.grow _).grow _).grow _)).2.2.2) ?_; try simp only [Act.put, List.setIfInBounds_toArray, List.set_cons_succ, List.set_cons_zero]) | go_big_quiet_step (((first | with_reducible exact m3.quiet _ | with_reducible exact m3.quiet2 _ _))))
          refine wpQuiet_nil ?_
          exact rfl
        · exact ⟨_, rfl, storeAt_row 43 _ _ _ _ rfl rfl rfl rfl rfl (by kernel_rfl) rfl (by first | kernel_rfl | simp [Value.oneCell'] | (simp only [List.all_toArray, Array.all]; rfl))⟩
        rotate_left
        · kernel_rfl
        · simp only [List.drop_succ_cons, List.drop_zero]
          try simp only [Act.put, List.setIfInBounds_toArray, List.set_cons_succ, List.set_cons_zero]
          repeat (go_big_quiet_step ((fail)))
          refine wpQuiet_nil ?_
          exact rfl
        go_wp2_with fail
        go_roundw
        case rel => exact ⟨.inr (.inr (.inr (.inr ⟨rfl, congrArg (Value.int .i64) (by have := HS.out; omega)⟩))), grow_of (by repeat (first | exact Below.refl _ _ | refine bel_then ?_ _ | refine bel_grow ?_ _ | refine bel_alloc ?_ _ | refine bel_drew ?_ | refine bel_set ?_ (by simp) _ | refine bel_setRow ?_ (by first | omega | simp; done | exact Nat.le_trans (by simp) (top_le _ _)) _))⟩
        case measure => simp [intOf]
    · go_wp2_with fail
      go_ret
      exact ⟨rfl, (by repeat (first | exact Below.refl _ _ | refine bel_then ?_ _ | refine bel_grow ?_ _ | refine bel_alloc ?_ _ | refine bel_drew ?_ | refine bel_set ?_ (by simp) _ | refine bel_setRow ?_ (by first | omega | simp; done | exact Nat.le_trans (by simp) (top_le _ _)) _))⟩
theorem kf {o d a b c : P3} (h : bdB o d a b c = true) : (hK o d a b c = true ∧ hF o d a b c = true ∧ -allS o d a b c = 1) ∨ (hK o d a b c = true ∧ hF o d a b c = false ∧ -allS o d a b c = -1) ∨ (hK o d a b c = false ∧ -allS o d a b c = 0) := by
  rw [hK_sd h, hF_sd h]
  rcases allS_three o d a b c with e | e | e <;> rw [e] <;> simp
theorem bd4 {o d a b c p : P3} (h : bdB o d a b c = true) (hp : inB3 p = true) : bdB o d a c p = true ∧ bdB o d a p b = true ∧ bdB o d b p c = true := by
  unfold bdB at *
  simp only [Bool.and_eq_true] at *
  obtain ⟨h1, ⟨h2, h3⟩, h4⟩ := h
  exact ⟨⟨h1, ⟨h2, h4⟩, hp⟩, ⟨h1, ⟨h2, hp⟩, h3⟩, h1, ⟨h3, hp⟩, h4⟩
theorem walk (w : World) (o : P3) (ko : In3 o) (d : P3) (kd : In3 d) (a : P3) (ka : In3 a) (b : P3) (kb : In3 b) (c : P3) (kc : In3 c) (p : P3) (kp : In3 p) :
    Calls Try.prog 7 #[.agg #[.int .i64 o.x, .int .i64 o.y, .int .i64 o.z], .agg #[.int .i64 d.x, .int .i64 d.y, .int .i64 d.z], .agg #[.int .i64 a.x, .int .i64 a.y, .int .i64 a.z], .agg #[.int .i64 b.x, .int .i64 b.y, .int .i64 b.z], .agg #[.int .i64 c.x, .int .i64 c.y, .int .i64 c.z], .agg #[.int .i64 p.x, .int .i64 p.y, .int .i64 p.z]] w fun e w' => e = .returned (.bool true) ∧ Below w.heap.size w w' := by
  have m0 := vMeet_any o d a b c
  have m1 := vMeet_any o d a c p
  have m2 := vMeet_any o d a p b
  have m3 := vMeet_any o d b p c
  by_cases h : bdB o d a b c = true
  · have e0 := (h_in h).2.2.2.2
    rw [e0] at m0
    by_cases hp : inB3 p = true
    · obtain ⟨h1, h2, h3⟩ := bd4 h hp
      rw [(h_in h1).2.2.2.2] at m1
      rw [(h_in h2).2.2.2.2] at m2
      rw [(h_in h3).2.2.2.2] at m3
      obtain ⟨ho, hd, ha, hb, hc⟩ := bdB_in h
      have hs := closed ho hd ha hb hc (inB3_sp.1 hp)
      exact inC w o d a b c p _ _ _ _ _ (kf h) _ _ _ _ _ (kf h1) _ _ _ _ _ (kf h2) _ _ _ _ _ (kf h3) (by omega) m0 m1 m2 m3
    · have h1 : bdB o d a c p = false := by
        have hp : inB3 p = false := by simpa using hp
        unfold bdB; rw [hp]; simp
      obtain ⟨q1, q2, q3, q4, q5⟩ := h_out h1
      rw [q1, q2, q3, q4, q5] at m1
      exact outB w o d a b c p _ _ _ _ _ (kf h) m0 m1
  · have h : bdB o d a b c = false := by simpa using h
    obtain ⟨q1, q2, q3, q4, q5⟩ := h_out h
    rw [q1, q2, q3, q4, q5] at m0
    exact outA w o d a b c p m0

theorem own : ownKnob Try.prog.godebug = none := by kernel_rfl
set_option maxRecDepth 100000 in
theorem lifted (os : Os) (started : os.Started) (H : Type) (enc : TypeId × Value → H) :
    ReturnsInHanded {} Try.checked os 7 .any (Rows.sideClosedSpec.pre6 enc Try.prog Try.f7 Rows.sideClosedRow.domain false) (Rows.sideClosedSpec.post enc Try.prog Try.f7 false true false false) := by
  refine returnsInHanded_of_change (C := Try.checked) own started (by kernel_rfl) Try.func7
    (ChangeSpec.witness6 (enc := enc) (C := Try.checked) false ⟨#[], #[.agg #[.int .i64 0, .int .i64 0, .int .i64 0], .agg #[.int .i64 0, .int .i64 0, .int .i64 0], .agg #[.int .i64 0, .int .i64 0, .int .i64 0], .agg #[.int .i64 0, .int .i64 0, .int .i64 0], .agg #[.int .i64 0, .int .i64 0, .int .i64 0], .agg #[.int .i64 0, .int .i64 0, .int .i64 0]], []⟩ 12 (by kernel_rfl) (by kernel_rfl) (by kernel_rfl) (by kernel_rfl)) ?_
  intro W base args ds gs before hval0 hW hcnd _
  have hval : ∀ (j : Nat) t v, Try.f7.params[j]? = some t → args[j]? = some v → Value.okWide Try.prog W .any base t v := hval0
  have hW' := hW
  obtain ⟨p, q, hA0, hV, rfl, hfz, hnd⟩ := hW
  have hA : DataW.TrodAll enc Try.prog W 0 (fun _ => true) true Try.f7.params.toList args.toList ds p := hA0
  rw [Try.params7] at hA hval
  obtain ⟨v0, vs0, d0, ds0, p0, q0, hargs, rfl, rfl, h0, r0⟩ := trodAll_cons hA
  obtain ⟨v1, vs1, d1, ds1, p1, q1, rfl, rfl, rfl, h1, r1⟩ := trodAll_cons r0
  obtain ⟨v2, vs2, d2, ds2, p2, q2, rfl, rfl, rfl, h2, r2⟩ := trodAll_cons r1
  obtain ⟨v3, vs3, d3, ds3, p3, q3, rfl, rfl, rfl, h3, r3⟩ := trodAll_cons r2
  obtain ⟨v4, vs4, d4, ds4, p4, q4, rfl, rfl, rfl, h4, r4⟩ := trodAll_cons r3
  obtain ⟨v5, vs5, d5, ds5, p5, q5, rfl, rfl, rfl, h5, r5⟩ := trodAll_cons r4
  obtain ⟨rfl, rfl, rfl⟩ := trodAll_nil r5
  obtain rfl : args = #[v0, v1, v2, v3, v4, v5] := by cases args; simp_all
  obtain ⟨a0, rfl, k0⟩ := open_V3 (hval 0 36 v0 rfl rfl) h0
  obtain ⟨a1, rfl, k1⟩ := open_V3 (hval 1 36 v1 rfl rfl) h1
  obtain ⟨a2, rfl, k2⟩ := open_V3 (hval 2 36 v2 rfl rfl) h2
  obtain ⟨a3, rfl, k3⟩ := open_V3 (hval 3 36 v3 rfl rfl) h3
  obtain ⟨a4, rfl, k4⟩ := open_V3 (hval 4 36 v4 rfl rfl) h4
  obtain ⟨a5, rfl, k5⟩ := open_V3 (hval 5 36 v5 rfl rfl) h5
  refine (walk W a0 k0 a1 k1 a2 k2 a3 k3 a4 k4 a5 k5).mono fun e W' ⟨he, hb⟩ => ?_
  subst he
  exact ⟨_, rfl, law_post (tb := 4) (by kernel_rfl) (by kernel_rfl) rfl rfl Try.underlying4 rfl rfl rfl hW' hb⟩

theorem over : Rows.sideClosedRow.holds Try.pinned (OpenSpec.ofChange Rows.sideClosedSpec) :=
  OpenClaim.holds_of_wide 7 Try.f7 rfl rfl rfl rfl rfl rfl rfl ⟨rfl, rfl, rfl, rfl, rfl⟩ rfl rfl rfl rfl rfl (by kernel_rfl) Try.func7 (by kernel_rfl)
    (of_decide_eq_true (by kernel_rfl)) (by unfold Func.isWrapper; first | (rw [if_pos (by decide +kernel)]; kernel_rfl) | (rw [if_neg (by decide +kernel)]; exact ⟨rfl, rfl⟩))
    (fun os started H enc _ => lifted os started H enc)

theorem proved : Rows.SideClosedSaid :=
  over
#print axioms proved
end Go.Proofs.Ytgfgaaecpdbgeaa.sideClosed
