/- SceneParses holds for every input: the row, out of the walk; the card, tied. No condition but the row's own: the listed tables of the library read as the program's text lays them. -/
import Derived.Test.YtehmlofhiffanaaDoorRows
import Derived.Test.YtehmlofhiffanaaDoorCards
import Derived.Test.YtehmlofhiffanaaDoorTie
import Derived.Test.YtehmlofhiffanaaDoorTabsOf
import Derived.Test.YtehmlofhiffanaaDoorMScnDE
import Derived.LaidMore
import Derived.Lay
import Derived.SevenTiedAt
namespace Go.Proofs.YtehmlofhiffanaaDoor.sceneParses
open Go.ChangeShapes Go.WideShapes Go.ChangeAt Go.RowKit
set_option linter.unusedVariables false
set_option linter.unusedSimpArgs false
set_option linter.unnecessarySimpa false
theorem range_take {b : Nat} {W : World} {t : TypeId} {cs : Array Value} (h : Blk W b t cs) (l : List Value) (hl : ∀ (j : Nat) (v : Value), l[j]? = some v → cs[j]? = some v) : W.rangeAt b 0 l := fun j v hj => by
  rw [Nat.zero_add, h.cell j]
  exact hl j v hj

set_option maxRecDepth 100000 in
set_option maxHeartbeats 2000000 in
theorem parse_long (w : World) (s : ByteArray) (h : 65536 < s.size) : Calls Tryd.prog 8 #[.string s] w fun e w' => Below w.heap.size w w' ∧ e = .returned (.tuple #[.agg scZ, .int .i64 ((0 : Nat) : Int), .int .i64 ((13 : Nat) : Int)]) := by
  have HB1 : Below w.heap.size w (w.alloc (.cells scZ 35)) := bel_alloc (Below.refl _ _) _
  have KR : Blk (w.alloc (.cells scZ 35)) w.heap.size 35 scZ := Blk.new _ _ _ _ rfl
  have HT := Lib.hid (lLines_long s h (w.alloc (.cells scZ 35)))
  go_enter Tryd.func8, Tryd.ntmps8
  go_upto_region 2 with (first | (refine wpList_val rfl _ _ (alloc_Scene _ _ rfl _) ?_) | (go_at_call 11; (refine HT.out.mono ?_); rintro e _ ⟨rfl, x1, rfl⟩))
  have BR := KR.grow x1
  have HBw : Below w.heap.size w (grow (w.alloc (.cells scZ 35)) x1) := bel_trans HB1 (bel_grow (Below.refl _ _) _)
  replace HBw := Lib.hid HBw
  clear KR HB1 HT
  go_wp2_with (first | (refine wpList_val rfl _ _ (build_Scene _ _ rfl _) ?_) | (refine wpList_store_rowTo rfl 35 _ _ rfl rfl w.heap.size (scZ) rfl rfl 35 scZ BR infoSc rfl scZ_one ?_))
  exact bodyPost_ret (v := .tuple #[.agg scZ, .int .i64 0, .int .i64 13]) (res_scene _ _ scZ _ _ _ (BR.setRow scZ) rfl rfl rfl rfl) rfl ⟨bel_setRow HBw.out (Nat.le_refl _) _, rfl⟩

set_option maxRecDepth 100000 in
set_option maxHeartbeats 2000000 in
theorem dparse_long (w : World) (s : ByteArray) (h : 65536 < s.size) : Calls Tryd.prog 9 #[.string s] w fun e w' => Below w.heap.size w w' ∧ e = .returned (.tuple #[.agg scZ, .int .i64 ((0 : Nat) : Int), .int .i64 ((13 : Nat) : Int)]) := by
  have HB1 : Below w.heap.size w (w.alloc (.cells scZ 35)) := bel_alloc (Below.refl _ _) _
  have KR : Blk (w.alloc (.cells scZ 35)) w.heap.size 35 scZ := Blk.new _ _ _ _ rfl
  have HT := Lib.hid (rLines_long s h (w.alloc (.cells scZ 35)))
  go_enter Tryd.func9, Tryd.ntmps9
  go_upto_region 2 with (first | (refine wpList_val rfl _ _ (alloc_Scene _ _ rfl _) ?_) | (go_at_call 13; (refine HT.out.mono ?_); rintro e _ ⟨rfl, x1, rfl⟩))
  have BR := KR.grow x1
  have HBw : Below w.heap.size w (grow (w.alloc (.cells scZ 35)) x1) := bel_trans HB1 (bel_grow (Below.refl _ _) _)
  replace HBw := Lib.hid HBw
  clear KR HB1 HT
  go_wp2_with (first | (refine wpList_val rfl _ _ (build_Scene _ _ rfl _) ?_) | (refine wpList_store_rowTo rfl 35 _ _ rfl rfl w.heap.size (scZ) rfl rfl 35 scZ BR infoSc rfl scZ_one ?_))
  exact bodyPost_ret (v := .tuple #[.agg scZ, .int .i64 0, .int .i64 13]) (res_sceneD _ _ scZ _ _ _ (BR.setRow scZ) rfl rfl rfl rfl) rfl ⟨bel_setRow HBw.out (Nat.le_refl _) _, rfl⟩

theorem sceneR_nil (W : World) : SceneR W vNil vNil vNil vNil vNil scn0 := by
  refine ⟨⟨none, 0, rfl, fun h => ?_, by decide⟩, ⟨none, 0, rfl, fun h => ?_, by decide⟩, ⟨none, 0, [], rfl, fun h => ?_, rfl, by decide, fun q hq => by cases hq⟩, ⟨none, 0, rfl, fun h => ?_, by decide⟩, ⟨none, 0, [], rfl, fun h => ?_, rfl, by decide, fun i h => by cases h⟩⟩ <;> (simp [scn0] at h)
theorem same_nil6 (w : World) : Calls Tryd.prog 10 #[.agg scZ, .agg scZ] w fun e w' => e = .returned (.bool true) ∧ ∃ x, w' = grow w x :=
  same_yes6 w (camN scn0) (skyN scn0) vNil vNil vNil vNil vNil vNil vNil vNil vNil vNil scn0 rfl (sceneR_nil w) (sceneR_nil w)

set_option maxRecDepth 100000 in
set_option maxHeartbeats 4000000 in
theorem walk_small (w : World) (s : ByteArray) (n k : Nat) (h' : (s.size : Int) ≤ 8000) (ht : Tabs w)
    (c1 : ∀ w : World, Tabs w → Calls Tryd.prog 8 #[.string s] w fun e w' => Below w.heap.size w w' ∧ e = .returned (.tuple #[.agg scZ, .int .i64 (n : Int), .int .i64 (k : Int)]))
    (c2 : ∀ w : World, Calls Tryd.prog 9 #[.string s] w fun e w' => Below w.heap.size w w' ∧ e = .returned (.tuple #[.agg scZ, .int .i64 (n : Int), .int .i64 (k : Int)])) :
    Calls Tryd.prog 3 #[.string s] w fun e w' => e = .returned (.bool true) ∧ Below w.heap.size w w' := by
  have cA := alive6_any w ht
  replace c1 := Lib.hid c1
  replace c2 := Lib.hid c2
  go_enter Tryd.func3, Tryd.ntmps3
  go_upto_region 6 with (first | (go_at_call 7; (with_reducible refine Calls.mono cA ?_); rintro e w1 ⟨rfl, hb1⟩) | (go_at_call 8; (with_reducible refine Calls.mono (c1.out _ (ht.below hb1)) ?_); rintro e W1 ⟨hb2, rfl⟩) | (refine wpList_val rfl _ _ (alloc_Scene _ _ rfl _) ?_) | (refine wpList_store_rowTo rfl 35 _ _ rfl rfl W1.heap.size (scZ) rfl rfl 35 scZ (Blk.new _ _ _ _ rfl) infoSc rfl scZ_one ?_))
  have hW2 : Below W1.heap.size W1 (W1.alloc (.cells (scZ) 35)) := bel_alloc (Below.refl _ _) _
  have KB : Blk (W1.alloc (.cells (scZ) 35)) W1.heap.size 35 (scZ) := Blk.new _ _ _ _ rfl
  generalize W1.alloc (.cells (scZ) 35) = W2 at *
  have h02 := Lib.hid (hb1.trans ((hb2.trans (hW2.mono hb2.size)).mono hb1.size))
  go_upto_region 7 with (first | (go_at_call 9; (with_reducible refine Calls.mono (c2.out _) ?_); rintro e W3 ⟨hb3, rfl⟩) | (refine wpList_val rfl _ _ (alloc_Scene _ _ rfl _) ?_) | (refine wpList_store_rowTo rfl 35 _ _ rfl rfl W3.heap.size (scZ) rfl rfl 35 scZ (Blk.new _ _ _ _ rfl) infoSc rfl scZ_one ?_))
  have hW4 : Below W3.heap.size W3 (W3.alloc (.cells (scZ) 35)) := bel_alloc (Below.refl _ _) _
  have KC : Blk (W3.alloc (.cells (scZ) 35)) W3.heap.size 35 (scZ) := Blk.new _ _ _ _ rfl
  generalize W3.alloc (.cells (scZ) 35) = W4 at *
  have h24 := hb3.trans (hW4.mono hb3.size)
  have KB4 := KB.below h24
  have h04 := Lib.hid (h02.out.trans (h24.mono h02.out.size))
  have r1 := Lib.hid (show W4.rangeAt W1.heap.size 0 (scZ).toList from range_take KB4 _ (fun j v h => by simpa using h))
  have r2 := Lib.hid (show W4.rangeAt W3.heap.size 0 (scZ).toList from range_take KC _ (fun j v h => by simpa using h))
  have cS := Lib.hid (show ∀ x, Calls Tryd.prog 10 #[.agg (scZ).toList.toArray, .agg (scZ).toList.toArray] (grow W4 x) fun e w' => e = .returned (.bool true) ∧ ∃ x', w' = grow (grow W4 x) x' from fun x => same_nil6 (grow W4 x))
  have cS0 := Lib.hid (show Calls Tryd.prog 10 #[.agg (scZ).toList.toArray, .agg (scZ).toList.toArray] W4 fun e w' => e = .returned (.bool true) ∧ ∃ x', w' = grow W4 x' from same_nil6 W4)
  clear KB KC KB4 hW2 hW4 hb1 hb2 hb3 c1 c2 cA h24
  go_wp2_with (first | (refine wpList_load_mid rfl 35 _ rfl W1.heap.size 0 rfl (scZ).toList _ r1.out Tryd.underlying35 rfl infoSc ?_) | (refine wpList_load_mid rfl 35 _ rfl W3.heap.size 0 rfl (scZ).toList _ r2.out Tryd.underlying35 rfl infoSc ?_) | (go_at_call 10; (first | (refine (cS.out _).mono ?_) | (refine cS0.out.mono ?_)); rintro e _ ⟨rfl, x9, rfl⟩))
  go_ret
  exact ⟨by simp, by first | exact bel_trans h04.out (by repeat (first | with_reducible exact Below.refl _ _ | with_reducible refine bel_then ?_ _ | with_reducible refine bel_grow ?_ _ | with_reducible refine bel_alloc ?_ _ | with_reducible refine bel_drew ?_ | with_reducible refine bel_set ?_ (by simp) _ | with_reducible refine bel_setRow ?_ (by first | omega | (simp; done)) _)) | exact h04.out.trans ((by repeat (first | with_reducible exact Below.refl _ _ | with_reducible refine bel_then ?_ _ | with_reducible refine bel_grow ?_ _ | with_reducible refine bel_alloc ?_ _ | with_reducible refine bel_drew ?_ | with_reducible refine bel_set ?_ (by simp) _ | with_reducible refine bel_setRow ?_ (by first | omega | (simp; done)) _)))⟩

set_option maxRecDepth 100000 in
set_option maxHeartbeats 4000000 in
theorem walk_long (w : World) (s : ByteArray) (n k : Nat) (h' : (65536 : Int) < (s.size : Int)) (h'' : (8000 : Int) < (s.size : Int)) (ht : Tabs w)
    (c1 : ∀ w : World, Tabs w → Calls Tryd.prog 8 #[.string s] w fun e w' => Below w.heap.size w w' ∧ e = .returned (.tuple #[.agg scZ, .int .i64 (n : Int), .int .i64 (k : Int)]))
    (c2 : ∀ w : World, Calls Tryd.prog 9 #[.string s] w fun e w' => Below w.heap.size w w' ∧ e = .returned (.tuple #[.agg scZ, .int .i64 (n : Int), .int .i64 (k : Int)])) :
    Calls Tryd.prog 3 #[.string s] w fun e w' => e = .returned (.bool true) ∧ Below w.heap.size w w' := by
  have cA := alive6_any w ht
  replace c1 := Lib.hid c1
  replace c2 := Lib.hid c2
  go_enter Tryd.func3, Tryd.ntmps3
  go_upto_region 6 with (first | (go_at_call 7; (with_reducible refine Calls.mono cA ?_); rintro e w1 ⟨rfl, hb1⟩) | (go_at_call 8; (with_reducible refine Calls.mono (c1.out _ (ht.below hb1)) ?_); rintro e W1 ⟨hb2, rfl⟩) | (refine wpList_val rfl _ _ (alloc_Scene _ _ rfl _) ?_) | (refine wpList_store_rowTo rfl 35 _ _ rfl rfl W1.heap.size (scZ) rfl rfl 35 scZ (Blk.new _ _ _ _ rfl) infoSc rfl scZ_one ?_))
  have hW2 : Below W1.heap.size W1 (W1.alloc (.cells (scZ) 35)) := bel_alloc (Below.refl _ _) _
  have KB : Blk (W1.alloc (.cells (scZ) 35)) W1.heap.size 35 (scZ) := Blk.new _ _ _ _ rfl
  generalize W1.alloc (.cells (scZ) 35) = W2 at *
  have h02 := Lib.hid (hb1.trans ((hb2.trans (hW2.mono hb2.size)).mono hb1.size))
  go_upto_region 7 with (first | (go_at_call 9; (with_reducible refine Calls.mono (c2.out _) ?_); rintro e W3 ⟨hb3, rfl⟩) | (refine wpList_val rfl _ _ (alloc_Scene _ _ rfl _) ?_) | (refine wpList_store_rowTo rfl 35 _ _ rfl rfl W3.heap.size (scZ) rfl rfl 35 scZ (Blk.new _ _ _ _ rfl) infoSc rfl scZ_one ?_))
  have hW4 : Below W3.heap.size W3 (W3.alloc (.cells (scZ) 35)) := bel_alloc (Below.refl _ _) _
  have KC : Blk (W3.alloc (.cells (scZ) 35)) W3.heap.size 35 (scZ) := Blk.new _ _ _ _ rfl
  generalize W3.alloc (.cells (scZ) 35) = W4 at *
  have h24 := hb3.trans (hW4.mono hb3.size)
  have KB4 := KB.below h24
  have h04 := Lib.hid (h02.out.trans (h24.mono h02.out.size))
  have r1 := Lib.hid (show W4.rangeAt W1.heap.size 0 (scZ).toList from range_take KB4 _ (fun j v h => by simpa using h))
  have r2 := Lib.hid (show W4.rangeAt W3.heap.size 0 (scZ).toList from range_take KC _ (fun j v h => by simpa using h))
  have cS := Lib.hid (show ∀ x, Calls Tryd.prog 10 #[.agg (scZ).toList.toArray, .agg (scZ).toList.toArray] (grow W4 x) fun e w' => e = .returned (.bool true) ∧ ∃ x', w' = grow (grow W4 x) x' from fun x => same_nil6 (grow W4 x))
  have cS0 := Lib.hid (show Calls Tryd.prog 10 #[.agg (scZ).toList.toArray, .agg (scZ).toList.toArray] W4 fun e w' => e = .returned (.bool true) ∧ ∃ x', w' = grow W4 x' from same_nil6 W4)
  clear KB KC KB4 hW2 hW4 hb1 hb2 hb3 c1 c2 cA h24
  go_wp2_with (first | (refine wpList_load_mid rfl 35 _ rfl W1.heap.size 0 rfl (scZ).toList _ r1.out Tryd.underlying35 rfl infoSc ?_) | (refine wpList_load_mid rfl 35 _ rfl W3.heap.size 0 rfl (scZ).toList _ r2.out Tryd.underlying35 rfl infoSc ?_) | (go_at_call 10; (first | (refine (cS.out _).mono ?_) | (refine cS0.out.mono ?_)); rintro e _ ⟨rfl, x9, rfl⟩))
  go_ret
  exact ⟨by simp, by first | exact bel_trans h04.out (by repeat (first | with_reducible exact Below.refl _ _ | with_reducible refine bel_then ?_ _ | with_reducible refine bel_grow ?_ _ | with_reducible refine bel_alloc ?_ _ | with_reducible refine bel_drew ?_ | with_reducible refine bel_set ?_ (by simp) _ | with_reducible refine bel_setRow ?_ (by first | omega | (simp; done)) _)) | exact h04.out.trans ((by repeat (first | with_reducible exact Below.refl _ _ | with_reducible refine bel_then ?_ _ | with_reducible refine bel_grow ?_ _ | with_reducible refine bel_alloc ?_ _ | with_reducible refine bel_drew ?_ | with_reducible refine bel_set ?_ (by simp) _ | with_reducible refine bel_setRow ?_ (by first | omega | (simp; done)) _)))⟩

set_option maxRecDepth 100000 in
set_option maxHeartbeats 4000000 in
theorem walk_ok (w : World) (s : ByteArray) (sc : Scn) (hg : Good sc) (h' : (s.size : Int) ≤ 8000) (ht : Tabs w)
    (c1 : ∀ w : World, Tabs w → Calls Tryd.prog 8 #[.string s] w fun e w' => Below w.heap.size w w' ∧ ∃ g val, e = .returned (.tuple #[.agg (sceneV sc val), .int .i64 0, .int .i64 0]) ∧ RepV g w' g 57 sc val)
    (c2 : ∀ w : World, Calls Tryd.prog 9 #[.string s] w fun e w' => Below w.heap.size w w' ∧ ∃ g val, e = .returned (.tuple #[.agg (sceneV sc val), .int .i64 0, .int .i64 0]) ∧ RepV g w' g 61 sc val) :
    Calls Tryd.prog 3 #[.string s] w fun e w' => e = .returned (.bool true) ∧ Below w.heap.size w w' := by
  have cA := alive6_any w ht
  replace c1 := Lib.hid c1
  replace c2 := Lib.hid c2
  replace hg := Lib.hid hg
  go_enter Tryd.func3, Tryd.ntmps3
  go_upto_region 6 with (first | (go_at_call 7; (with_reducible refine Calls.mono cA ?_); rintro e w1 ⟨rfl, hb1⟩) | (go_at_call 8; (with_reducible refine Calls.mono (c1.out _ (ht.below hb1)) ?_); rintro e W1 ⟨hb2, g, val, rfl, hR⟩) | (refine wpList_val rfl _ _ (alloc_Scene _ _ rfl _) ?_) | (refine wpList_store_rowTo rfl 35 _ _ rfl rfl W1.heap.size (sceneV sc val) rfl rfl 35 scZ (Blk.new _ _ _ _ rfl) infoSc rfl hR.one ?_))
  have hW2 : Below W1.heap.size W1 (W1.alloc (.cells (sceneV sc val) 35)) := bel_alloc (Below.refl _ _) _
  have KB : Blk (W1.alloc (.cells (sceneV sc val) 35)) W1.heap.size 35 (sceneV sc val) := Blk.new _ _ _ _ rfl
  generalize W1.alloc (.cells (sceneV sc val) 35) = W2 at *
  have h02 := Lib.hid (hb1.trans ((hb2.trans (hW2.mono hb2.size)).mono hb1.size))
  have hR2 := hR.below hW2
  go_upto_region 7 with (first | (go_at_call 9; (with_reducible refine Calls.mono (c2.out _) ?_); rintro e W3 ⟨hb3, g2, val2, rfl, hD⟩) | (refine wpList_val rfl _ _ (alloc_Scene _ _ rfl _) ?_) | (refine wpList_store_rowTo rfl 35 _ _ rfl rfl W3.heap.size (sceneV sc val2) rfl rfl 35 scZ (Blk.new _ _ _ _ rfl) infoSc rfl hD.one ?_))
  have hW4 : Below W3.heap.size W3 (W3.alloc (.cells (sceneV sc val2) 35)) := bel_alloc (Below.refl _ _) _
  have KC : Blk (W3.alloc (.cells (sceneV sc val2) 35)) W3.heap.size 35 (sceneV sc val2) := Blk.new _ _ _ _ rfl
  generalize W3.alloc (.cells (sceneV sc val2) 35) = W4 at *
  have h24 := hb3.trans (hW4.mono hb3.size)
  have KB4 := KB.below h24
  have h04 := Lib.hid (h02.out.trans (h24.mono h02.out.size))
  have r1 := Lib.hid (show W4.rangeAt W1.heap.size 0 (sceneV sc val).toList from range_take KB4 _ (fun j v h => by simpa using h))
  have r2 := Lib.hid (show W4.rangeAt W3.heap.size 0 (sceneV sc val2).toList from range_take KC _ (fun j v h => by simpa using h))
  have hR4 := hR2.below h24
  have hD4 := hD.below hW4
  have cS := Lib.hid (show ∀ x, Calls Tryd.prog 10 #[.agg (sceneV sc val).toList.toArray, .agg (sceneV sc val2).toList.toArray] (grow W4 x) fun e w' => e = .returned (.bool true) ∧ ∃ x', w' = grow (grow W4 x) x' from fun x => same_reps (grow W4 x) hg.out (hR4.grow x) (hD4.grow x))
  have cS0 := Lib.hid (show Calls Tryd.prog 10 #[.agg (sceneV sc val).toList.toArray, .agg (sceneV sc val2).toList.toArray] W4 fun e w' => e = .returned (.bool true) ∧ ∃ x', w' = grow W4 x' from same_reps W4 hg.out (hR4) (hD4))
  clear KB KC KB4 hW2 hW4 hb1 hb2 hb3 c1 c2 cA h24
  go_wp2_with (first | (refine wpList_load_mid rfl 35 _ rfl W1.heap.size 0 rfl (sceneV sc val).toList _ r1.out Tryd.underlying35 rfl infoSc ?_) | (refine wpList_load_mid rfl 35 _ rfl W3.heap.size 0 rfl (sceneV sc val2).toList _ r2.out Tryd.underlying35 rfl infoSc ?_) | (go_at_call 10; (first | (refine (cS.out _).mono ?_) | (refine cS0.out.mono ?_)); rintro e _ ⟨rfl, x9, rfl⟩))
  go_ret
  exact ⟨by simp, by first | exact bel_trans h04.out (by repeat (first | with_reducible exact Below.refl _ _ | with_reducible refine bel_then ?_ _ | with_reducible refine bel_grow ?_ _ | with_reducible refine bel_alloc ?_ _ | with_reducible refine bel_drew ?_ | with_reducible refine bel_set ?_ (by simp) _ | with_reducible refine bel_setRow ?_ (by first | omega | (simp; done)) _)) | exact h04.out.trans ((by repeat (first | with_reducible exact Below.refl _ _ | with_reducible refine bel_then ?_ _ | with_reducible refine bel_grow ?_ _ | with_reducible refine bel_alloc ?_ _ | with_reducible refine bel_drew ?_ | with_reducible refine bel_set ?_ (by simp) _ | with_reducible refine bel_setRow ?_ (by first | omega | (simp; done)) _)))⟩

set_option maxRecDepth 100000 in
theorem walk_mid (w : World) (s : ByteArray) (h1 : 8000 < s.size) (h2 : s.size ≤ 65536) (ht : Tabs w) : Calls Tryd.prog 3 #[.string s] w fun e w' => e = .returned (.bool true) ∧ Below w.heap.size w w' := by
  have cA := alive6_any w ht
  have h' : (8000 : Int) < (s.size : Int) := by omega
  have h'' : (s.size : Int) ≤ 65536 := by omega
  go_enter Tryd.func3, Tryd.ntmps3
  go_wp2_with (first | (go_at_call 7; (with_reducible refine Calls.mono cA ?_); rintro e w1 ⟨rfl, hb1⟩))
  go_ret
  exact ⟨rfl, by first | exact hb1 | exact hb1.trans ((by repeat (first | with_reducible exact Below.refl _ _ | with_reducible refine bel_then ?_ _ | with_reducible refine bel_grow ?_ _ | with_reducible refine bel_alloc ?_ _ | with_reducible refine bel_drew ?_ | with_reducible refine bel_set ?_ (by simp) _ | with_reducible refine bel_setRow ?_ (by first | omega | (simp; done)) _)))⟩
theorem walk (w : World) (s : ByteArray) (hs : s.size ≤ maxLen) (ht : Tabs w) : Calls Tryd.prog 3 #[.string s] w fun e w' => e = .returned (.bool true) ∧ Below w.heap.size w w' := by
  by_cases h1 : 65536 < s.size
  · exact walk_long w s 0 13 (by omega) (by omega) ht (fun w _ => parse_long w s h1) (fun w => dparse_long w s h1)
  · by_cases h2 : 8000 < s.size
    · exact walk_mid w s h2 (by omega) ht
    · cases q : sceneT s.data.toList with
      | error e =>
        obtain ⟨n, k⟩ := e
        refine walk_small w s n k (by omega) ht (fun w ht => (parse_any w s (by omega) ht).mono ?_) (fun w => (dparse_any w s (by omega)).mono ?_)
        · rintro e w' ⟨hb, hp⟩
          rw [q] at hp
          exact ⟨hb, hp⟩
        · rintro e w' ⟨hb, hp⟩
          rw [q] at hp
          exact ⟨hb, hp⟩
      | ok sc =>
        refine walk_ok w s sc (sceneT_good q).1 (by omega) ht (fun w ht => (parse_any w s (by omega) ht).mono ?_) (fun w => (dparse_any w s (by omega)).mono ?_)
        · rintro e w' ⟨hb, hp⟩
          rw [q] at hp
          obtain ⟨g, val, he, _, hR⟩ := hp
          exact ⟨hb, g, val, he, hR⟩
        · rintro e w' ⟨hb, hp⟩
          rw [q] at hp
          obtain ⟨g, val, he, _, hR⟩ := hp
          exact ⟨hb, g, val, he, hR⟩

theorem own : ownKnob Tryd.prog.godebug = none := by kernel_rfl
set_option maxRecDepth 100000 in
theorem lifted (os : Os) (started : os.Started) (H : Type) (enc : TypeId × Value → H) :
    ReturnsInHanded {} Tryd.checked os 3 .any (fun w args => (Rows.sceneParsesSpec.pre enc Tryd.prog Tryd.f3 [] false w args ∧ laidMetH Tryd.prog Rows.sceneParsesRow.laid w) ∧ sizedMet enc Tryd.prog Tryd.f3 (OpenSpec.ofChange Rows.sceneParsesSpec) false w args)
      (Rows.sceneParsesSpec.post enc Tryd.prog Tryd.f3 false true false false) := by
  refine returnsInHanded_of_calls (C := Tryd.checked) own started (by kernel_rfl)
    (ChangeSpec.witness_shaped (enc := enc) (C := Tryd.checked) (os := os) (X := fun w _ => laidMetH Tryd.prog Rows.sceneParsesRow.laid w) false (World.laidAll Tryd.prog os Rows.sceneParsesRow.laid) #[.string ByteArray.empty] 12 (World.laidAll_os _ _ _)
      (World.shaped_of_ZipB (by kernel_rfl) (by kernel_rfl)) (by kernel_rfl) (by kernel_rfl) (by kernel_rfl)
      (by rw [MakeChecks.laidMetH_plain _ _ _ (by kernel_rfl)]; exact laidMet_laidAll _ (by kernel_rfl) (by kernel_rfl))) ?_
  rintro w tape ⟨vars, args, fns⟩ _ hsh _ ⟨_, _, _, fn, hfn, _, _, _, _, hval⟩ ⟨⟨⟨ds, gs, before, hw, _⟩, hx⟩, _⟩ _
  obtain rfl := Option.some.inj (Tryd.func3.symm.trans hfn)
  have hW := DataW.Whole.of_heap (w' := w.forCall tape ⟨vars, args, fns⟩) (by rfl) hw
  have hL := laidMetH.of_heap (w' := w.forCall tape ⟨vars, args, fns⟩) (by rfl) hx
  rw [MakeChecks.laidMetH_plain _ _ _ (by kernel_rfl)] at hL
  have ht : Tabs (w.forCall tape ⟨vars, args, fns⟩) := tabs_of (by unfold Rows.sceneParsesRow; simp) hL hsh
  generalize w.forCall tape ⟨vars, args, fns⟩ = W at *
  have hW' := hW
  obtain ⟨p, q, hA0, hV, rfl, hfz, hnd⟩ := hW
  have hA : DataW.TrodAll enc Tryd.prog W 0 (fun _ => true) true Tryd.f3.params.toList args.toList ds p := hA0
  rw [Tryd.params3] at hA hval
  obtain ⟨v0, vs0, d0, ds0, p0, q0, hargs, rfl, rfl, h0, r0⟩ := trodAll_cons hA
  obtain ⟨rfl, rfl, rfl⟩ := trodAll_nil r0
  obtain rfl : args = #[v0] := by cases args; simp_all
  obtain ⟨s0, rfl, b0⟩ := open_Str (hval 0 9 v0 rfl rfl) h0
  refine (walk W s0 b0 ht).mono fun e W' ⟨he, hb⟩ => ?_
  subst he
  exact ChangeSpec.post_blind (law_post (tb := 4) (by kernel_rfl) (by kernel_rfl) rfl rfl Tryd.underlying4 rfl rfl rfl hW' hb)

theorem row : Rows.sceneParsesRow.holds Tryd.pinned (OpenSpec.ofChange Rows.sceneParsesSpec) :=
  OpenClaim.holds_of_wide 3 Tryd.f3 rfl rfl rfl rfl rfl rfl rfl ⟨rfl, rfl, rfl, rfl, rfl⟩ rfl rfl rfl rfl rfl (by kernel_rfl) Tryd.func3 (by kernel_rfl)
    (of_decide_eq_true (by kernel_rfl)) (by unfold Func.isWrapper; first | (rw [if_pos (by decide +kernel)]; kernel_rfl) | (rw [if_neg (by decide +kernel)]; exact ⟨rfl, rfl⟩))
    (fun os started H enc _ => lifted os started H enc)

theorem proved : Rows.SceneParsesCardSaid :=
  Claim7.holds_tied_plain_at .later [] [.data, .listed, .data, .pinned] true _ _ row (fun _ h => by cases h) (by kernel_rfl) (fun _ h => by cases h) sceneParses_row_tie rfl ⟨rfl, rfl⟩ (by kernel_rfl) rfl
    (fun f fn hf hfn => by
      obtain rfl : f = 3 := Option.some.inj ((show Tryd.prog.funcNamed "relievo/relievolaw06.SceneParses" = some 3 by kernel_rfl).symm.trans hf) |>.symm
      obtain rfl : fn = Tryd.f3 := (Option.some.inj (Tryd.func3.symm.trans hfn)).symm
      exact ⟨by kernel_rfl, fun j t hj => by
        have hm : t ∈ Tryd.f3.params.toList := by
          have := Array.mem_of_getElem? hj
          simpa using this
        have hall : (Tryd.f3.params.toList.all fun u => !Tryd.prog.wantsStandIn u) = true := by kernel_rfl
        exact (show Tryd.prog.wantsStandIn t = false by simpa using List.all_eq_true.1 hall t hm)⟩)
    (by kernel_rfl)
#print axioms proved
end Go.Proofs.YtehmlofhiffanaaDoor.sceneParses
