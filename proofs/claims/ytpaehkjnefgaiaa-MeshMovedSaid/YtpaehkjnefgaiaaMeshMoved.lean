/- MeshMoved holds for every input: the row, out of the walk. No condition. -/
import Derived.SizedLaws
import Derived.Test.YtpaehkjnefgaiaaRows
import Derived.Test.YtpaehkjnefgaiaaMshY
import Derived.Test.YtpaehkjnefgaiaaC4
import Derived.Test.YtpaehkjnefgaiaaC10
import Derived.Test.YtpaehkjnefgaiaaC16
import Derived.Test.YtpaehkjnefgaiaaC17
namespace Go.Proofs.Ytpaehkjnefgaiaa.meshMoved
open Go.ChangeShapes Go.WideShapes Go.ChangeAt Go.RowKit
set_option linter.unusedVariables false
set_option linter.unusedSimpArgs false
set_option linter.unnecessarySimpa false
set_option maxRecDepth 100000
set_option maxHeartbeats 8000000 in
theorem walk (W : World) (P : Pch) (hPI : PchI P) (by_ : P3) (hby : In3 by_) (un : Int) (hu : -9223372036854775808 ≤ un ∧ un ≤ 9223372036854775807) :
    Calls Try.prog 8 #[.agg P.row, .agg #[.int .i64 by_.x, .int .i64 by_.y, .int .i64 by_.z], .int .i64 un] W fun e W' => e = .returned (.bool true) ∧ Below W.heap.size W W' := by
  obtain ⟨W0, hW0⟩ : ∃ W0, W0 = (W.alloc (.cells P.row 28)).alloc (.cells #[.int .i64 by_.x, .int .i64 by_.y, .int .i64 by_.z] 23) := ⟨_, rfl⟩
  have hB0 : Below W.heap.size W W0 := by rw [hW0]; exact bel_alloc (bel_alloc (Below.refl _ _) _) _
  have hP0 : PchB W0 W.heap.size 0 P := by rw [hW0]; exact PchB.of ((Blk.new _ _ _ _ rfl).alloc _)
  have hV0 : Blk W0 (W.heap.size + 1) 23 #[.int .i64 by_.x, .int .i64 by_.y, .int .i64 by_.z] := by rw [hW0]; exact Blk.new _ _ _ _ (by simp)
  have kA := alive15_any
  have kW := vWithin_any by_.x by_.y by_.z 16384 (by omega)
  rw [show wiB by_.x by_.y by_.z 16384 = wB by_ 16384 from rfl] at kW
  go_enter Try.func8, Try.ntmps8
  go_upto_region 1 with (fail)
  simp only [← hW0]
  clear hW0
  obtain ⟨bp, hbp⟩ : ∃ b, b = W.heap.size := ⟨_, rfl⟩
  rw [← hbp] at hP0 hV0
  simp only [← hbp]
  replace hbp := Lib.hid hbp
  go_upto_region 3 with (first | (go_at_call 9; (with_reducible refine (kA _).mono ?_); rintro e W1 ⟨rfl, hb1⟩) | fail)
  have hB1 := bel_trans hB0 hb1
  replace hP0 := hP0.below hb1
  replace hV0 := hV0.below hb1
  clear hB0 hb1
  cases hw : wB by_ 16384
  · rw [hw] at kW
    go_wp2_with (first | (refine getV rfl _ rfl (bp + 1) rfl by_ hV0 ?_; simp only [Act.put, List.setIfInBounds_toArray, List.set_cons_succ, List.set_cons_zero]) | (go_at_call 19; (with_reducible refine (kW.at_ _).mono ?_); rintro e W2 ⟨rfl, xa, rfl⟩) | fail)
    go_ret
    exact ⟨rfl, bel_grow hB1 xa⟩
  rw [hw] at kW
  go_upto_region 5 with (first | (refine getV rfl _ rfl (bp + 1) rfl by_ hV0 ?_; simp only [Act.put, List.setIfInBounds_toArray, List.set_cons_succ, List.set_cons_zero]) | (go_at_call 19; (with_reducible refine (kW.at_ _).mono ?_); rintro e W2 ⟨rfl, xa, rfl⟩) | fail)
  have hB2 := bel_grow hB1 xa
  replace hP0 := hP0.below (show Below W1.heap.size W1 (grow W1 xa) from xa.kept W1)
  replace hV0 := hV0.grow xa
  clear hB1 kW
  generalize grow W1 xa = W2 at *
  have hbw := wB_iff.1 hw
  go_upto_region 6 with (first | (refine getPt rfl _ rfl bp rfl P hP0 ?_; simp only [Act.put, List.setIfInBounds_toArray, List.set_cons_succ, List.set_cons_zero]) | (refine wpAllocPt rfl rfl ?_; simp only [Act.put, List.setIfInBounds_toArray, List.set_cons_succ, List.set_cons_zero]) | (refine putPt rfl _ _ rfl _ P rfl rfl Pch0.row Pch0.row_size (Blk.new _ _ _ _ rfl) ?_; simp only [Act.put, List.setIfInBounds_toArray, List.set_cons_succ, List.set_cons_zero]) | fail)
  have hQ : Blk ((W2.alloc (.cells Pch0.row 28)).setRow W2.heap.size P.row) W2.heap.size 28 P.row := (Blk.new _ _ _ _ rfl).setRow _
  have hb3 : Below W2.heap.size W2 ((W2.alloc (.cells Pch0.row 28)).setRow W2.heap.size P.row) := bel_setRow (bel_alloc (Below.refl _ _) _) (Nat.le_refl _) _
  have hB3 := bel_trans hB2 hb3
  have hbq : bp < W2.heap.size := hP0.1
  have hvq : bp + 1 < W2.heap.size := hV0.lt
  have hqW := hB2.size
  replace hP0 := hP0.below hb3
  replace hV0 := hV0.below hb3
  clear hb3 hB2
  generalize ((W2.alloc (.cells Pch0.row 28)).setRow W2.heap.size P.row) = W3 at *
  generalize W2.heap.size = qb at *
  go_wp2
  go_loopw [8] (fun iv wr => ∃ k : Nat, iv = .int .i64 (k : Int) ∧ k ≤ 16 ∧ Below W.heap.size W wr ∧ PchB wr bp 0 P ∧ Blk wr (bp + 1) 23 #[.int .i64 by_.x, .int .i64 by_.y, .int .i64 by_.z] ∧ Blk wr qb 28 (P.mvK by_ k).row ∧ (∀ j, j < k → wB (P.pt j) 40000 = true)) (fun iv _ => 16 - (intOf iv).toNat)
  case atStart => exact ⟨0, rfl, by omega, hB3, hP0, hV0, hQ, fun j hj => absurd hj (by omega)⟩
  case round =>
    obtain ⟨k, rfl, hk, hBr, hPr, hVr, hQr, hall⟩ := hrel
    rename World => wr
    replace hall := Lib.hid hall
    clear hB3 hP0 hV0 hQ
    by_cases hlt : k < 16
    · obtain ⟨y1, y2, y3⟩ := hPr.pt hlt
      rw [Nat.zero_add] at y1 y2 y3
      have pl := hPr.1
      have q0 : (0 : Int) ≤ (k : Int) := by omega
      have q1 : (k : Int) < 16 := by omega
      have kW := vWithin_any (P.pt k).x (P.pt k).y (P.pt k).z 40000 (by omega)
      rw [show wiB (P.pt k).x (P.pt k).y (P.pt k).z 40000 = wB (P.pt k) 40000 from rfl] at kW
      cases hwk : wB (P.pt k) 40000
      · rw [hwk] at kW
        go_wp2_with (first | (go_at_call 19; (with_reducible refine (kW.at_ _).mono ?_); rintro e W4 ⟨rfl, xb, rfl⟩) | fail)
        go_ret
        exact ⟨rfl, bel_grow hBr xb⟩
      · rw [hwk] at kW
        go_upto_region 11 with (first | (go_at_call 19; (with_reducible refine (kW.at_ _).mono ?_); rintro e W4 ⟨rfl, xb, rfl⟩) | fail)
        have hbwk := wB_iff.1 hwk
        have hnx := mvK_next P by_ k
        obtain ⟨r, hr⟩ : ∃ r, r = adE (P.pt k) by_ := ⟨_, rfl⟩
        have hri : InP 4611686018427387904 (adE (P.pt k) by_) := by unfold InP adE; simp only; omega
        have kAd : Gives Try.prog 21 #[.agg #[.int .i64 (P.pt k).x, .int .i64 (P.pt k).y, .int .i64 (P.pt k).z], .agg #[.int .i64 by_.x, .int .i64 by_.y, .int .i64 by_.z]] (.agg #[.int .i64 r.x, .int .i64 r.y, .int .i64 r.z]) := by rw [hr]; exact rAdd_r' (P.pt k) by_ hri
        rw [← hr] at hnx
        have hPx := hPr.below (show Below wr.heap.size wr (grow wr xb) from xb.kept wr)
        have hVx := hVr.grow xb
        have hQx := hQr.grow xb
        have hBx := bel_grow hBr xb
        have hall2 : ∀ j, j < k + 1 → wB (P.pt j) 40000 = true := fun j hj => by
          by_cases e : j = k
          · rw [e]; exact hwk
          · exact hall.out j (by omega)
        have v0 := hVx.cell 0
        have v1 := hVx.cell 1
        have v2 := hVx.cell 2
        have vl := hVx.lt
        obtain ⟨z1, z2, z3⟩ := hPx.pt hlt
        rw [Nat.zero_add] at z1 z2 z3
        have zl := hPx.1
        have zq := hQx.lt
        clear hbwk hri hr kW y1 y2 y3 pl hPr hVr hQr hBr hall
        replace hall2 := Lib.hid hall2
        replace hPx : PchB (grow wr xb) bp 0 P := hPx
        generalize grow wr xb = wx at *
        generalize P.pt k = p at *
        refine wp_region_tail 9 ?_ (by kernel_rfl) (by kernel_rfl) (by kernel_rfl) (fun x => ?_) (fun x => ?_)
        rotate_left
        · simp only [List.take_succ_cons, List.take_zero]
          repeat (go_big_quiet_step (((first | with_reducible exact kAd.quiet _ | with_reducible exact kAd.quiet2 _ _))))
          refine wpQuiet_nil ?_
          exact rfl
        simp only [List.drop_succ_cons, List.drop_zero]
        try simp only [Act.put, List.setIfInBounds_toArray, List.set_cons_succ, List.set_cons_zero]
        have hP7 := hPx.below (show Below wx.heap.size wx (grow wx x) from x.kept wx)
        have hV7 := hVx.grow x
        have hQ7 := hQx.grow x
        have hB7 := bel_grow hBx x
        replace hP7 : PchB (grow wx x) bp 0 P := hP7
        clear hPx hVx hQx hBx v0 v1 v2 vl z1 z2 z3 zl zq kAd
        generalize grow wx x = w7 at *
        have hS1 := hQ7.set (k * 3) (.int .i64 r.x)
        have hS2 := hS1.set (k * 3 + 1) (.int .i64 r.y)
        have hS3 := hS2.set (k * 3 + 2) (.int .i64 r.z)
        have z0 := (P.mvK by_ k).row_size
        obtain ⟨v0, g0⟩ : ∃ v, w7.cell? ⟨qb, k * 3, none⟩ = some v := ⟨_, (hQ7.cell _).trans (Array.getElem?_eq_getElem (by omega))⟩
        obtain ⟨v1, g1⟩ : ∃ v, (w7.setCell ⟨qb, k * 3, none⟩ (.int .i64 r.x)).cell? ⟨qb, k * 3 + 1, none⟩ = some v := ⟨_, (hS1.cell _).trans (Array.getElem?_eq_getElem (by rw [Array.size_setIfInBounds]; omega))⟩
        obtain ⟨v2, g2⟩ : ∃ v, ((w7.setCell ⟨qb, k * 3, none⟩ (.int .i64 r.x)).setCell ⟨qb, k * 3 + 1, none⟩ (.int .i64 r.y)).cell? ⟨qb, k * 3 + 2, none⟩ = some v := ⟨_, (hS2.cell _).trans (Array.getElem?_eq_getElem (by rw [Array.size_setIfInBounds, Array.size_setIfInBounds]; omega))⟩
        have f0 := hQ7.frozen (k * 3)
        have f1 := hS1.frozen (k * 3 + 1)
        have f2 := hS2.frozen (k * 3 + 2)
        have ltp := hQ7.lt
        have hN : Blk (((w7.setCell ⟨qb, k * 3, none⟩ (.int .i64 r.x)).setCell ⟨qb, k * 3 + 1, none⟩ (.int .i64 r.y)).setCell ⟨qb, k * 3 + 2, none⟩ (.int .i64 r.z)) qb 28 (P.mvK by_ (k + 1)).row := by
          rw [← hnx, ← Pch.setP (P.mvK by_ k) hlt]
          exact hS3
        have hqp : qb ≠ bp := by omega
        have hqv : qb ≠ bp + 1 := by omega
        have hNV := ((hV7.far (b := qb) (k * 3) (.int .i64 r.x) hqv).far (b := qb) (k * 3 + 1) (.int .i64 r.y) hqv).far (b := qb) (k * 3 + 2) (.int .i64 r.z) hqv
        have hNP : PchB (((w7.setCell ⟨qb, k * 3, none⟩ (.int .i64 r.x)).setCell ⟨qb, k * 3 + 1, none⟩ (.int .i64 r.y)).setCell ⟨qb, k * 3 + 2, none⟩ (.int .i64 r.z)) bp 0 P := PchB_far (PchB_far (PchB_far hP7 hqp _ _) hqp _ _) hqp _ _
        have hNB := bel_set (bel_set (bel_set hB7 (p := ⟨qb, k * 3, none⟩) hqW (.int .i64 r.x)) (p := ⟨qb, k * 3 + 1, none⟩) hqW (.int .i64 r.y)) (p := ⟨qb, k * 3 + 2, none⟩) hqW (.int .i64 r.z)
        clear hS1 hS2 hS3 hQ7 hV7 hP7 hB7
        go_wp2
        go_roundw
        case rel => exact ⟨k + 1, by go_num, by omega, hNB, hNP, hNV, hN, hall2.out⟩
        case measure => simp [intOf]; omega
    · obtain rfl : k = 16 := by omega
      rw [mvK_all] at hQr
      have hm := mv_msE hw hall.out un
      have hQb := PchB.of hQr
      have hS : Blk ((wr.alloc (.cells #[.string ⟨#[]⟩, .int .i64 0, .int .i64 0, .int .i64 0, .int .i64 0, .int .i64 0] 30)).setRow wr.heap.size (skC ByteArray.empty 0 0 un (-1) 0)) wr.heap.size 30 (skC ByteArray.empty 0 0 un (-1) 0) := (Blk.new _ _ _ _ rfl).setRow _
      have hbs : Below wr.heap.size wr ((wr.alloc (.cells #[.string ⟨#[]⟩, .int .i64 0, .int .i64 0, .int .i64 0, .int .i64 0, .int .i64 0] 30)).setRow wr.heap.size (skC ByteArray.empty 0 0 un (-1) 0)) := bel_setRow (bel_alloc (Below.refl _ _) _) (Nat.le_refl _) _
      have hBs := bel_trans hBr hbs
      replace hP := hPr.below hbs
      replace hQb := hQb.below hbs
      replace hV := hVr.below hbs
      go_upto_region 13 with (first | (refine putSk rfl _ _ rfl _ ByteArray.empty 0 0 un (-1) 0 rfl rfl _ rfl (Blk.new _ _ _ _ rfl) ?_; simp only [Act.put, List.setIfInBounds_toArray, List.set_cons_succ, List.set_cons_zero]) | fail)
      clear hPr hVr hQr hBr hbs
      generalize ((wr.alloc (.cells #[.string ⟨#[]⟩, .int .i64 0, .int .i64 0, .int .i64 0, .int .i64 0, .int .i64 0] 30)).setRow wr.heap.size (skC ByteArray.empty 0 0 un (-1) 0)) = W5 at *
      generalize wr.heap.size = sb at *
      by_cases hz : msE P un 0 (-1) [] = 0
      · obtain ⟨f, _, _⟩ := msE_zero hz
        obtain ⟨f2, _, _⟩ := msE_zero (hm.trans hz)
        have kD := dice0_yesF W5 P 2 3 un 0 f
        have kE := fun W' => dice0_yesF W' (P.mv by_) 2 3 un 0 f2
        obtain ⟨e1, e2, e3⟩ := mv_mesh hw hall.out f 2 3
        have hin := mv_in hw f 2 3
        have hrn := mesh_rng f 2 3 (-1) []
        have hl4 : 4 ≤ (meshF P 2 3 un 0 (-1) []).vs.length := smooth_l f
        obtain ⟨ml1, ml2, ml3, ml4, ml5⟩ := mesh_len f 2 3 (-1) []
        have ml6 := ml4
        rw [← ml1] at ml4
        rw [← ml2] at ml6
        rw [← ml3] at ml5
        clear ml1 ml2 ml3 f f2 hz hm hall hw kA
        generalize meshF P 2 3 un 0 (-1) [] = m at *
        generalize meshF (P.mv by_) 2 3 un 0 (-1) [] = n at *
        obtain ⟨nv, nk, nt⟩ := n
        simp only at e1 e2 e3 kE
        subst e1
        subst e2
        subst e3
        simp only [List.length_map] at kE
        replace hin := Lib.hid hin
        replace hrn := Lib.hid hrn
        have hl5 := hV.lt
        have hBsz := hBs.size
        go_upto_region 14 with (first | (refine getPt rfl _ rfl bp rfl P hP ?_; simp only [Act.put, List.setIfInBounds_toArray, List.set_cons_succ, List.set_cons_zero]) | (refine getPt rfl _ rfl qb rfl (P.mv by_) hQb ?_; simp only [Act.put, List.setIfInBounds_toArray, List.set_cons_succ, List.set_cons_zero]) | (refine getSk rfl _ rfl sb rfl ByteArray.empty 0 0 un (-1) 0 hS ?_; simp only [Act.put, List.setIfInBounds_toArray, List.set_cons_succ, List.set_cons_zero]) | (go_at_call 11; (with_reducible refine kD.mono ?_); rintro e W6 ⟨A1, A2, A3, c1, c2, c3, rfl, hb3, hLa, hFa⟩) | (refine putM rfl _ _ rfl _ _ _ _ rfl rfl ⟨rfl, rfl, rfl⟩ _ rfl (Blk.new _ _ _ _ rfl) ?_; simp only [Act.put, List.setIfInBounds_toArray, List.set_cons_succ, List.set_cons_zero]) | fail)
        have hb4 : Below W6.heap.size W6 ((W6.alloc (.cells #[.slice none 0 0, .slice none 0 0, .slice none 0 0] 38)).setRow W6.heap.size #[.slice A1 m.vs.length c1, .slice A2 m.ks.length c2, .slice A3 m.ts.length c3]) := bel_setRow (bel_alloc (Below.refl _ _) _) (Nat.le_refl _) _
        have hMa : Blk ((W6.alloc (.cells #[.slice none 0 0, .slice none 0 0, .slice none 0 0] 38)).setRow W6.heap.size #[.slice A1 m.vs.length c1, .slice A2 m.ks.length c2, .slice A3 m.ts.length c3]) W6.heap.size 38 #[.slice A1 m.vs.length c1, .slice A2 m.ks.length c2, .slice A3 m.ts.length c3] := (Blk.new _ _ _ _ rfl).setRow _
        have hb5 := bel_trans hb3 hb4
        have hB7 := bel_trans hBs hb5
        replace hP := hP.below hb5
        replace hQb := hQb.below hb5
        replace hV := hV.below hb5
        replace hS := hS.below hb5
        replace hLa := hLa.below hb4
        replace hFa := hFa.below hb4
        clear hb3 hb4 hb5 kD hBs
        generalize ((W6.alloc (.cells #[.slice none 0 0, .slice none 0 0, .slice none 0 0] 38)).setRow W6.heap.size #[.slice A1 m.vs.length c1, .slice A2 m.ks.length c2, .slice A3 m.ts.length c3]) = W7 at *
        generalize W6.heap.size = ma at *
        have kF := kE W7
        go_upto_region 15 with (first | (refine getPt rfl _ rfl bp rfl P hP ?_; simp only [Act.put, List.setIfInBounds_toArray, List.set_cons_succ, List.set_cons_zero]) | (refine getPt rfl _ rfl qb rfl (P.mv by_) hQb ?_; simp only [Act.put, List.setIfInBounds_toArray, List.set_cons_succ, List.set_cons_zero]) | (refine getSk rfl _ rfl sb rfl ByteArray.empty 0 0 un (-1) 0 hS ?_; simp only [Act.put, List.setIfInBounds_toArray, List.set_cons_succ, List.set_cons_zero]) | (go_at_call 11; (with_reducible refine kF.mono ?_); rintro e W8 ⟨B1, B2, B3, d1, d2, d3, rfl, hb3, hLb, hFb⟩) | (refine putM rfl _ _ rfl _ _ _ _ rfl rfl ⟨rfl, rfl, rfl⟩ _ rfl (Blk.new _ _ _ _ rfl) ?_; simp only [Act.put, List.setIfInBounds_toArray, List.set_cons_succ, List.set_cons_zero]) | fail)
        have hb4 : Below W8.heap.size W8 ((W8.alloc (.cells #[.slice none 0 0, .slice none 0 0, .slice none 0 0] 38)).setRow W8.heap.size #[.slice B1 m.vs.length d1, .slice B2 m.ks.length d2, .slice B3 m.ts.length d3]) := bel_setRow (bel_alloc (Below.refl _ _) _) (Nat.le_refl _) _
        have hMb : Blk ((W8.alloc (.cells #[.slice none 0 0, .slice none 0 0, .slice none 0 0] 38)).setRow W8.heap.size #[.slice B1 m.vs.length d1, .slice B2 m.ks.length d2, .slice B3 m.ts.length d3]) W8.heap.size 38 #[.slice B1 m.vs.length d1, .slice B2 m.ks.length d2, .slice B3 m.ts.length d3] := (Blk.new _ _ _ _ rfl).setRow _
        have hb5 := bel_trans hb3 hb4
        have hB9 := bel_trans hB7 hb5
        replace hP := hP.below hb5
        replace hQb := hQb.below hb5
        replace hV := hV.below hb5
        replace hS := hS.below hb5
        replace hMa := hMa.below hb5
        replace hLb := hLb.below hb4
        replace hFb := hFb.below hb4
        obtain ⟨b1, o1, rfl, hb1l, _⟩ := hLa.v (by omega)
        obtain ⟨rfl, hb1W, ⟨cs1, hBc⟩, hn2, hn3⟩ := hFa.2 b1 o1 rfl
        have hBc9 := hBc.below hb5
        have hLa9 := hLa.below hb5
        clear hb3 hb4 hb5 kE kF hB7 hP hQb hS hLa hBc
        generalize ((W8.alloc (.cells #[.slice none 0 0, .slice none 0 0, .slice none 0 0] 38)).setRow W8.heap.size #[.slice B1 m.vs.length d1, .slice B2 m.ks.length d2, .slice B3 m.ts.length d3]) = W9 at *
        generalize W8.heap.size = mb at *
        have hna : ma ≠ b1 := hMa.ne_ hBc9 (by decide)
        have hnb : mb ≠ b1 := hMb.ne_ hBc9 (by decide)
        have hnv : bp + 1 ≠ b1 := by omega
        have hWb : W.heap.size ≤ b1 := by omega
        have hfb2 : ∀ b' o, B2 = some ⟨b', o, none⟩ → b' ≠ b1 := fun b' o e => by have := hFb.1.1 b' o e; omega
        have hfb3 : ∀ b' o, B3 = some ⟨b', o, none⟩ → b' ≠ b1 := fun b' o e => by have := hFb.1.2 b' o e; omega
        have hfb1 : ∀ b' o, B1 = some ⟨b', o, none⟩ → b' ≠ b1 := fun b' o e => by have := (hFb.2 b' o e).2.1; omega
        clear hFa hFb
        go_wp2
        go_loopw [14] (fun iv wz => Below W.heap.size W wz ∧ Blk wz ma 38 #[.slice (some ⟨b1, 0, none⟩) m.vs.length c1, .slice A2 m.ks.length c2, .slice A3 m.ts.length c3] ∧ Blk wz mb 38 #[.slice B1 m.vs.length d1, .slice B2 m.ks.length d2, .slice B3 m.ts.length d3] ∧ Blk wz (bp + 1) 23 #[.int .i64 by_.x, .int .i64 by_.y, .int .i64 by_.z] ∧ (∃ cs, Blk wz b1 23 cs) ∧ KL wz A2 m.ks ∧ L3 wz A3 m.ts ∧ MsL wz B1 B2 B3 ⟨m.vs.map fun q => adE q by_, m.ks, m.ts⟩ ∧ ∃ (v : Nat), iv = .int .i64 (v : Int) ∧ v ≤ m.vs.length ∧ VL wz (some ⟨b1, 0, none⟩) (mvL by_ v m.vs)) (fun iv _ => m.vs.length - (intOf iv).toNat)
        case atStart => exact ⟨hB9, hMa, hMb, hV, ⟨_, hBc9⟩, hLa9.k, hLa9.t, hLb, 0, rfl, by omega, by rw [mvL_zero]; exact hLa9.v⟩
        case round =>
          clear hB9 hMa hMb hV hBc9 hLa9 hLb
          obtain ⟨hBz, hMa, hMb, hV, ⟨cs, hBc⟩, hK, hT, hLb, v, rfl, hv, hL⟩ := hrel
          rename World => wz
          have t0 : wz.cell? ⟨ma, 0, none⟩ = some (.slice (some ⟨b1, 0, none⟩) m.vs.length c1) := hMa.cell 0
          have tl := hMa.lt
          by_cases hvl : v < m.vs.length
          · have hvl2 : v < (mvL by_ v m.vs).length := by rw [mvL_len]; exact hvl
            obtain ⟨b2, o2, e2, hbl, hc1⟩ := hL (by omega)
            obtain ⟨rfl, rfl⟩ : b2 = b1 ∧ o2 = 0 := by
              simp only [Option.some.injEq, Addr.mk.injEq] at e2
              omega
            obtain ⟨r1, r2, r3⟩ := hc1 v hvl2
            rw [mvL_at by_ hvl, Nat.zero_add] at r1 r2 r3
            have hnx := mvL_next by_ hvl
            obtain ⟨w1, w2, w3⟩ := hin.out _ (List.getElem_mem hvl)
            generalize m.vs[v] = p at *
            obtain ⟨r, hr⟩ : ∃ r, r = adE p by_ := ⟨_, rfl⟩
            have kAd := rAdd_any p.x p.y p.z by_.x by_.y by_.z
            rw [w1, w2, w3] at kAd
            replace kAd : Gives Try.prog 21 #[.agg #[.int .i64 p.x, .int .i64 p.y, .int .i64 p.z], .agg #[.int .i64 by_.x, .int .i64 by_.y, .int .i64 by_.z]] (.agg #[.int .i64 r.x, .int .i64 r.y, .int .i64 r.z]) := by rw [hr]; exact kAd
            rw [← hr] at hnx
            have v0 := hV.cell 0
            have v1 := hV.cell 1
            have v2 := hV.cell 2
            have vl := hV.lt
            have q0 : (0 : Int) ≤ (v : Int) := by omega
            have q1 : (v : Int) < (m.vs.length : Int) := by omega
            replace hnx := Lib.hid hnx
            have hgz : ∀ y : More, Below wz.heap.size wz (grow wz y) := fun y => y.kept wz
            clear w1 w2 w3 hr hc1 e2
            go_upto_region 20 with (fail)
            refine wp_region_tail 11 ?_ (by kernel_rfl) (by kernel_rfl) (by kernel_rfl) (fun x => ?_) (fun x => ?_)
            rotate_left
            · simp only [List.take_succ_cons, List.take_zero]
              repeat (go_big_quiet_step (((first | with_reducible exact kAd.quiet _ | with_reducible exact kAd.quiet2 _ _))))
              refine wpQuiet_nil ?_
              exact rfl
            simp only [List.drop_succ_cons, List.drop_zero]
            try simp only [Act.put, List.setIfInBounds_toArray, List.set_cons_succ, List.set_cons_zero]
            have hb9 := hgz x
            have hMa7 := hMa.below hb9
            have hMb7 := hMb.below hb9
            have hV7 := hV.below hb9
            have hBc7 := hBc.below hb9
            have hK7 := hK.below hb9
            have hT7 := hT.below hb9
            have hLb7 := hLb.below hb9
            have hL7 := hL.below hb9
            have hB7 := bel_grow hBz x
            clear hBz hMa hMb hV hBc hK hT hLb hL t0 tl r1 r2 r3 v0 v1 v2 vl kAd hgz hb9 hbl
            generalize grow wz x = w7 at *
            have hlc : v * 3 + 2 < cs.size := by
              obtain ⟨b3, o3, e3, _, hc3⟩ := hL7 (by rw [mvL_len]; omega)
              cases e3
              have h3 := (hc3 v hvl2).2.2
              rw [Nat.zero_add, hBc7.cell] at h3
              exact (Array.getElem?_eq_some_iff.1 h3).1
            have hS1 := hBc7.set (v * 3) (.int .i64 r.x)
            have hS2 := hS1.set (v * 3 + 1) (.int .i64 r.y)
            obtain ⟨x0, g0⟩ : ∃ u, w7.cell? ⟨b2, v * 3, none⟩ = some u := ⟨_, (hBc7.cell _).trans (Array.getElem?_eq_getElem (by omega))⟩
            obtain ⟨x1, g1⟩ : ∃ u, (w7.setCell ⟨b2, v * 3, none⟩ (.int .i64 r.x)).cell? ⟨b2, v * 3 + 1, none⟩ = some u := ⟨_, (hS1.cell _).trans (Array.getElem?_eq_getElem (by rw [Array.size_setIfInBounds]; omega))⟩
            obtain ⟨x2, g2⟩ : ∃ u, ((w7.setCell ⟨b2, v * 3, none⟩ (.int .i64 r.x)).setCell ⟨b2, v * 3 + 1, none⟩ (.int .i64 r.y)).cell? ⟨b2, v * 3 + 2, none⟩ = some u := ⟨_, (hS2.cell _).trans (Array.getElem?_eq_getElem (by rw [Array.size_setIfInBounds, Array.size_setIfInBounds]; omega))⟩
            have f0 := hBc7.frozen (v * 3)
            have f1 := hS1.frozen (v * 3 + 1)
            have f2 := hS2.frozen (v * 3 + 2)
            have ltp := hBc7.lt
            have zA := put3_far hMa7 hna v r
            have zB := put3_far hMb7 hnb v r
            have zV := put3_far hV7 hnv v r
            have zC := put3_blk hBc7 v r
            have zK := put3_KLo hK7 hn2 v r
            have zT := put3_L3o hT7 hn3 v r
            have zL := MsL.mk (put3_VLo hLb7.v hfb1 v r) (put3_KLo hLb7.k hfb2 v r) (put3_L3o hLb7.t (fun _ => hfb3) v r)
            have zW := put3_VL hBc7 hL7 hvl2 r
            rw [hnx.out] at zW
            have zZ := put3_bel hB7 hWb v r
            unfold put3 at zA zB zV zC zK zT zL zW zZ
            clear hS1 hS2 hMa7 hMb7 hV7 hBc7 hK7 hT7 hLb7 hL7 hB7
            go_wp2
            go_roundw
            case rel => exact ⟨zZ, zA, zB, zV, ⟨_, zC⟩, zK, zT, zL, v + 1, by go_num, by omega, zW⟩
            case measure => simp [intOf]; omega
          · obtain rfl : v = m.vs.length := by omega
            rw [mvL_all] at hL
            go_upto_region 21 with (fail)
            have kM := sameM_yes wz (some ⟨b1, 0, none⟩) A2 A3 B1 B2 B3 c1 c2 c3 d1 d2 d3 ⟨m.vs.map fun q => adE q by_, m.ks, m.ts⟩ ⟨hL, hK, hT⟩ hLb (by simp only [List.length_map]; omega) (by simp only; omega) (by simp only; omega) hrn.out
            simp only [List.length_map] at kM
            go_wp2_with (first | (refine getM rfl _ rfl ma rfl _ _ _ hMa ?_; simp only [Act.put, List.setIfInBounds_toArray, List.set_cons_succ, List.set_cons_zero]) | (refine getM rfl _ rfl mb rfl _ _ _ hMb ?_; simp only [Act.put, List.setIfInBounds_toArray, List.set_cons_succ, List.set_cons_zero]) | (go_at_call 17; (with_reducible refine kM.mono ?_); rintro e W9 ⟨rfl, hb9⟩) | fail)
            go_ret
            exact ⟨rfl, bel_trans hBz hb9⟩
      · obtain ⟨x, hx⟩ : ∃ x, msE P un 0 (-1) [] = x := ⟨_, rfl⟩
        rw [hx] at hz hm
        have kD := dice_no W5 P 2 3 ByteArray.empty 0 0 un (-1) 0 none 0 [] (fun h => absurd h (by decide)) ⟨by decide, fun t h => by cases h⟩ x hx hz
        have kE := fun W' => dice_no W' (P.mv by_) 2 3 ByteArray.empty 0 0 un (-1) 0 none 0 [] (fun h => absurd h (by decide)) ⟨by decide, fun t h => by cases h⟩ x hm hz
        simp only [List.length_nil] at kD kE
        clear hx hm hall hw kA
        go_upto_region 14 with (first | (refine getPt rfl _ rfl bp rfl P hP ?_; simp only [Act.put, List.setIfInBounds_toArray, List.set_cons_succ, List.set_cons_zero]) | (refine getPt rfl _ rfl qb rfl (P.mv by_) hQb ?_; simp only [Act.put, List.setIfInBounds_toArray, List.set_cons_succ, List.set_cons_zero]) | (refine getSk rfl _ rfl sb rfl ByteArray.empty 0 0 un (-1) 0 hS ?_; simp only [Act.put, List.setIfInBounds_toArray, List.set_cons_succ, List.set_cons_zero]) | (go_at_call 11; (with_reducible refine kD.mono ?_); rintro e W6 ⟨rfl, hb3⟩) | (refine putM rfl _ _ rfl _ _ _ _ rfl rfl ⟨rfl, rfl, rfl⟩ _ rfl (Blk.new _ _ _ _ rfl) ?_; simp only [Act.put, List.setIfInBounds_toArray, List.set_cons_succ, List.set_cons_zero]) | fail)
        have hb4 : Below W6.heap.size W6 ((W6.alloc (.cells #[.slice none 0 0, .slice none 0 0, .slice none 0 0] 38)).setRow W6.heap.size #[.slice none 0 0, .slice none 0 0, .slice none 0 0]) := bel_setRow (bel_alloc (Below.refl _ _) _) (Nat.le_refl _) _
        have hMa : Blk ((W6.alloc (.cells #[.slice none 0 0, .slice none 0 0, .slice none 0 0] 38)).setRow W6.heap.size #[.slice none 0 0, .slice none 0 0, .slice none 0 0]) W6.heap.size 38 #[.slice none 0 0, .slice none 0 0, .slice none 0 0] := (Blk.new _ _ _ _ rfl).setRow _
        have hb5 := bel_trans hb3 hb4
        have hB7 := bel_trans hBs hb5
        replace hP := hP.below hb5
        replace hQb := hQb.below hb5
        replace hV := hV.below hb5
        replace hS := hS.below hb5
        clear hb3 hb4 hb5 kD hBs
        generalize ((W6.alloc (.cells #[.slice none 0 0, .slice none 0 0, .slice none 0 0] 38)).setRow W6.heap.size #[.slice none 0 0, .slice none 0 0, .slice none 0 0]) = W7 at *
        generalize W6.heap.size = ma at *
        have kF := kE W7
        go_upto_region 15 with (first | (refine getPt rfl _ rfl bp rfl P hP ?_; simp only [Act.put, List.setIfInBounds_toArray, List.set_cons_succ, List.set_cons_zero]) | (refine getPt rfl _ rfl qb rfl (P.mv by_) hQb ?_; simp only [Act.put, List.setIfInBounds_toArray, List.set_cons_succ, List.set_cons_zero]) | (refine getSk rfl _ rfl sb rfl ByteArray.empty 0 0 un (-1) 0 hS ?_; simp only [Act.put, List.setIfInBounds_toArray, List.set_cons_succ, List.set_cons_zero]) | (go_at_call 11; (with_reducible refine kF.mono ?_); rintro e W8 ⟨rfl, hb3⟩) | (refine putM rfl _ _ rfl _ _ _ _ rfl rfl ⟨rfl, rfl, rfl⟩ _ rfl (Blk.new _ _ _ _ rfl) ?_; simp only [Act.put, List.setIfInBounds_toArray, List.set_cons_succ, List.set_cons_zero]) | fail)
        have hb4 : Below W8.heap.size W8 ((W8.alloc (.cells #[.slice none 0 0, .slice none 0 0, .slice none 0 0] 38)).setRow W8.heap.size #[.slice none 0 0, .slice none 0 0, .slice none 0 0]) := bel_setRow (bel_alloc (Below.refl _ _) _) (Nat.le_refl _) _
        have hMb : Blk ((W8.alloc (.cells #[.slice none 0 0, .slice none 0 0, .slice none 0 0] 38)).setRow W8.heap.size #[.slice none 0 0, .slice none 0 0, .slice none 0 0]) W8.heap.size 38 #[.slice none 0 0, .slice none 0 0, .slice none 0 0] := (Blk.new _ _ _ _ rfl).setRow _
        have hb5 := bel_trans hb3 hb4
        have hB9 := bel_trans hB7 hb5
        replace hP := hP.below hb5
        replace hQb := hQb.below hb5
        replace hV := hV.below hb5
        replace hS := hS.below hb5
        replace hMa := hMa.below hb5
        clear hb3 hb4 hb5 kE kF hB7 hP hQb hS hV
        generalize ((W8.alloc (.cells #[.slice none 0 0, .slice none 0 0, .slice none 0 0] 38)).setRow W8.heap.size #[.slice none 0 0, .slice none 0 0, .slice none 0 0]) = W9 at *
        generalize W8.heap.size = mb at *
        have t0 : W9.cell? ⟨ma, 0, none⟩ = some (.slice none 0 0) := hMa.cell 0
        have tl := hMa.lt
        go_wp2
        go_loopw [14] (fun iv wz => iv = .int .i64 0 ∧ wz = W9) (fun iv _ => 0)
        case atStart => exact ⟨rfl, rfl⟩
        case round =>
          obtain ⟨rfl, rfl⟩ := hrel
          rename World => wz
          go_upto_region 21 with (fail)
          have kM := sameM_yes wz none none none none none none 0 0 0 0 0 0 ⟨[], [], []⟩ ⟨fun h => absurd h (by decide), fun h => absurd h (by decide), fun h => absurd h (by decide)⟩ ⟨fun h => absurd h (by decide), fun h => absurd h (by decide), fun h => absurd h (by decide)⟩ (by decide) (by decide) (by decide) (fun z h => by cases h)
          simp only [List.length_nil] at kM
          go_wp2_with (first | (refine getM rfl _ rfl ma rfl _ _ _ hMa ?_; simp only [Act.put, List.setIfInBounds_toArray, List.set_cons_succ, List.set_cons_zero]) | (refine getM rfl _ rfl mb rfl _ _ _ hMb ?_; simp only [Act.put, List.setIfInBounds_toArray, List.set_cons_succ, List.set_cons_zero]) | (go_at_call 17; (with_reducible refine kM.mono ?_); rintro e W9 ⟨rfl, hb9⟩) | fail)
          go_ret
          exact ⟨rfl, bel_trans hB9 hb9⟩

theorem own : ownKnob Try.prog.godebug = none := by kernel_rfl
set_option maxRecDepth 100000 in
theorem lifted (os : Os) (started : os.Started) (H : Type) (enc : TypeId × Value → H) :
    ReturnsInHanded {} Try.checked os 8 .any (Rows.meshMovedSpec.pre6 enc Try.prog Try.f8 Rows.meshMovedRow.domain false) (Rows.meshMovedSpec.post enc Try.prog Try.f8 false true false false) := by
  refine returnsInHanded_of_change_sized (C := Try.checked) own started (by kernel_rfl) Try.func8
    (ChangeSpec.witness6 (enc := enc) (C := Try.checked) false ⟨#[], #[.agg #[.int .i64 0, .int .i64 0, .int .i64 0, .int .i64 0, .int .i64 0, .int .i64 0, .int .i64 0, .int .i64 0, .int .i64 0, .int .i64 0, .int .i64 0, .int .i64 0, .int .i64 0, .int .i64 0, .int .i64 0, .int .i64 0, .int .i64 0, .int .i64 0, .int .i64 0, .int .i64 0, .int .i64 0, .int .i64 0, .int .i64 0, .int .i64 0, .int .i64 0, .int .i64 0, .int .i64 0, .int .i64 0, .int .i64 0, .int .i64 0, .int .i64 0, .int .i64 0, .int .i64 0, .int .i64 0, .int .i64 0, .int .i64 0, .int .i64 0, .int .i64 0, .int .i64 0, .int .i64 0, .int .i64 0, .int .i64 0, .int .i64 0, .int .i64 0, .int .i64 0, .int .i64 0, .int .i64 0, .int .i64 0, .int .i64 0, .int .i64 0, .int .i64 0, .int .i64 0, .int .i64 0, .int .i64 0, .int .i64 0, .int .i64 0, .int .i64 0, .int .i64 0, .int .i64 0, .int .i64 0, .int .i64 0, .int .i64 0, .int .i64 0, .int .i64 0, .int .i64 0], .agg #[.int .i64 0, .int .i64 0, .int .i64 0], .int .i64 0], []⟩ 12 (by kernel_rfl) (by kernel_rfl) (by kernel_rfl) (by kernel_rfl)) ?_
  intro W base args ds gs before hval0 hW hcnd hwt _
  have hval : ∀ (j : Nat) t v, Try.f8.params[j]? = some t → args[j]? = some v → Value.okWide Try.prog W .any base t v := hval0
  have hW' := hW
  obtain ⟨p, q, hA0, hV, rfl, hfz, hnd⟩ := hW
  have hA : DataW.TrodAll enc Try.prog W 0 (fun _ => true) true Try.f8.params.toList args.toList ds p := hA0
  rw [Try.params8] at hA hval
  obtain ⟨v0, vs0, d0, ds0, p0, q0, hargs, rfl, rfl, h0, r0⟩ := trodAll_cons hA
  obtain ⟨v1, vs1, d1, ds1, p1, q1, rfl, rfl, rfl, h1, r1⟩ := trodAll_cons r0
  obtain ⟨v2, vs2, d2, ds2, p2, q2, rfl, rfl, rfl, h2, r2⟩ := trodAll_cons r1
  obtain ⟨rfl, rfl, rfl⟩ := trodAll_nil r2
  obtain rfl : args = #[v0, v1, v2] := by cases args; simp_all
  obtain ⟨P0, rfl, b0⟩ := open_Pch (hval 0 28 v0 rfl rfl) h0
  obtain ⟨a1, rfl, k1⟩ := open_P (hval 1 23 v1 rfl rfl) h1
  obtain ⟨a2, rfl, b2⟩ := open_int64 (hval 2 3 v2 rfl rfl) h2
  refine (walk W P0 b0 a1 k1 a2 b2).mono fun e W' ⟨he, hb⟩ => ?_
  subst he
  exact ⟨_, rfl, law_post (tb := 4) (by kernel_rfl) (by kernel_rfl) rfl rfl Try.underlying4 rfl rfl rfl hW' hb⟩

theorem over : Rows.meshMovedRow.holds Try.pinned (OpenSpec.ofChange Rows.meshMovedSpec) :=
  OpenClaim.holds_of_wide 8 Try.f8 rfl rfl rfl rfl rfl rfl rfl ⟨rfl, rfl, rfl, rfl, rfl⟩ rfl rfl rfl rfl rfl (by kernel_rfl) Try.func8 (by kernel_rfl)
    (of_decide_eq_true (by kernel_rfl)) (by unfold Func.isWrapper; first | (rw [if_pos (by decide +kernel)]; kernel_rfl) | (rw [if_neg (by decide +kernel)]; exact ⟨rfl, rfl⟩))
    (fun os started H enc _ => lifted os started H enc)

theorem proved : Rows.MeshMovedSaid :=
  over
#print axioms proved
end Go.Proofs.Ytpaehkjnefgaiaa.meshMoved
