/- MeshNear holds for every input: the row, out of the walk. No condition. -/
import Derived.SizedLaws
import Derived.Test.YtpaehkjnefgaiaaRows
import Derived.Test.YtpaehkjnefgaiaaC4
import Derived.Test.YtpaehkjnefgaiaaC10
import Derived.Test.YtpaehkjnefgaiaaC16
import Derived.Test.YtpaehkjnefgaiaaC17
namespace Go.Proofs.Ytpaehkjnefgaiaa.meshNear
open Go.ChangeShapes Go.WideShapes Go.ChangeAt Go.RowKit
set_option linter.unusedVariables false
set_option linter.unusedSimpArgs false
set_option linter.unnecessarySimpa false
set_option maxRecDepth 100000
set_option maxHeartbeats 8000000 in
theorem walk (W : World) (P : Pch) (hPI : PchI P) (nm : ByteArray) (ma lv un tx ht : Int) (A : Option Addr) (c : Nat) (ts : List TexD) (hl : ts.length ≤ reachBytes) (hT : ∀ t ∈ ts, TexI t) (hX : XL W A ts) :
    Calls Try.prog 6 #[.agg P.row, .agg (skC nm ma lv un tx ht), .slice A ts.length c] W fun e W' => e = .returned (.bool true) ∧ Below W.heap.size W W' := by
  have hTL : ∀ t ∈ ts, t.rows.length ≤ 140737488351232 := fun t ht => (hT t ht).2.2
  obtain ⟨W0, hW0⟩ : ∃ W0, W0 = (W.alloc (.cells P.row 28)).alloc (.cells (skC nm ma lv un tx ht) 30) := ⟨_, rfl⟩
  have hB0 : Below W.heap.size W W0 := by rw [hW0]; exact bel_alloc (bel_alloc (Below.refl _ _) _) _
  have hP0 : PchB W0 W.heap.size 0 P := by rw [hW0]; exact PchB.of ((Blk.new _ _ _ _ rfl).alloc _)
  have hS0 : Blk W0 (W.heap.size + 1) 30 (skC nm ma lv un tx ht) := by rw [hW0]; exact Blk.new _ _ _ _ (by simp)
  have kA := alive15_any
  have kL : ∀ W' : World, Below W.heap.size W W' → _ := fun W' hb => long_any W' A c ts (hX.below hb) hTL
  go_enter Try.func6, Try.ntmps6
  go_upto_region 1 with (fail)
  simp only [← hW0]
  clear hW0
  obtain ⟨bp, hbp⟩ : ∃ b, b = W.heap.size := ⟨_, rfl⟩
  rw [← hbp] at hP0 hS0
  simp only [← hbp]
  replace hbp := Lib.hid hbp
  go_upto_region 3 with (first | (go_at_call 9; (with_reducible refine (kA _).mono ?_); rintro e W1 ⟨rfl, hb1⟩) | fail)
  have hB1 := bel_trans hB0 hb1
  have kL1 := kL W1 hB1
  go_upto_region 5 with (first | (go_at_call 10; (with_reducible refine kL1.mono ?_); rintro e W2 ⟨⟨bb, rfl, hok⟩, hb2⟩; have hB2 := bel_trans hB1 hb2; replace hok := Lib.hid hok; cases bb) | fail)
  rotate_left
  · go_ret
    exact ⟨rfl, hB2⟩
  replace hok := hok.out trivial
  replace hX := hX.below hB2
  replace hP0 := (hP0.below hb1).below hb2
  replace hS0 := (hS0.below hb1).below hb2
  clear hTL hT kL kL1 hb1 hb2 hB0 hB1
  by_cases hz : msE P un ht tx ts = 0
  · have kD := dice_yes W2 P 0 0 nm ma lv un tx ht A c ts hX hok hz
    have hin := near_in hz 0 0
    obtain ⟨f, _, _⟩ := msE_zero hz
    obtain ⟨ml1, ml2, ml3, ml4, ml5⟩ := mesh_len f 0 0 tx ts
    have hrn := mesh_rng f 0 0 tx ts
    rw [← ml1] at ml4
    rw [ml1, ← ml2] at ml4
    have ml6 := ml4
    rw [ml2, ← ml1] at ml4
    rw [← ml3] at ml5
    clear ml1 ml2 ml3
    have kD2 := fun W' (hb : Below W2.heap.size W2 W') => dice_yes W' P 0 0 nm ma lv un (-1) ht A c ts (hX.below hb) hok (msE_plain f ts)
    have vle : (meshF P 0 0 un ht (-1) ts).vs.length = (meshF P 0 0 un ht tx ts).vs.length := near_len 0 0 _ _ ts ts
    have kse : (meshF P 0 0 un ht (-1) ts).ks = (meshF P 0 0 un ht tx ts).ks := rfl
    have tse : (meshF P 0 0 un ht (-1) ts).ts = (meshF P 0 0 un ht tx ts).ts := rfl
    have h255 := f.h1
    have hh0 := f.h0
    generalize meshF P 0 0 un ht tx ts = m at *
    generalize meshF P 0 0 un ht (-1) ts = m' at *
    obtain ⟨vs', ks', ts'⟩ := m'
    simp only at vle kse tse kD2 hin
    subst kse
    subst tse
    simp only [vle] at kD2
    replace hin := Lib.hid hin
    replace hrn := Lib.hid hrn
    clear hz f
    go_upto_region 6 with (first | (refine getPt rfl _ rfl bp rfl P hP0 ?_; simp only [Act.put, List.setIfInBounds_toArray, List.set_cons_succ, List.set_cons_zero]) | (refine getSk rfl _ rfl (bp + 1) rfl nm ma lv un tx ht hS0 ?_; simp only [Act.put, List.setIfInBounds_toArray, List.set_cons_succ, List.set_cons_zero]) | (go_at_call 11; (with_reducible refine kD.mono ?_); rintro e W3 ⟨A1, A2, A3, c1, c2, c3, rfl, hb3, hL⟩) | (refine putM rfl _ _ rfl _ _ _ _ rfl rfl ⟨rfl, rfl, rfl⟩ _ rfl (Blk.new _ _ _ _ rfl) ?_; simp only [Act.put, List.setIfInBounds_toArray, List.set_cons_succ, List.set_cons_zero]) | fail)
    have hb4 : Below W3.heap.size W3 ((W3.alloc (.cells #[.slice none 0 0, .slice none 0 0, .slice none 0 0] 38)).setRow W3.heap.size #[.slice A1 m.vs.length c1, .slice A2 m.ks.length c2, .slice A3 m.ts.length c3]) := bel_setRow (bel_alloc (Below.refl _ _) _) (Nat.le_refl _) _
    have hM : Blk ((W3.alloc (.cells #[.slice none 0 0, .slice none 0 0, .slice none 0 0] 38)).setRow W3.heap.size #[.slice A1 m.vs.length c1, .slice A2 m.ks.length c2, .slice A3 m.ts.length c3]) W3.heap.size 38 #[.slice A1 m.vs.length c1, .slice A2 m.ks.length c2, .slice A3 m.ts.length c3] := (Blk.new _ _ _ _ rfl).setRow _
    have hb5 := bel_trans hb3 hb4
    have hB4 := bel_trans hB2 hb5
    replace hL := hL.below hb4
    replace hP0 := hP0.below hb5
    replace hS0 := hS0.below hb5
    have hbn := hb5
    have hltmb : W2.heap.size ≤ W3.heap.size := hb3.size
    clear hb3 hb4 hb5 kD
    generalize ((W3.alloc (.cells #[.slice none 0 0, .slice none 0 0, .slice none 0 0] 38)).setRow W3.heap.size #[.slice A1 m.vs.length c1, .slice A2 m.ks.length c2, .slice A3 m.ts.length c3]) = W4 at *
    generalize W3.heap.size = mb at *
    go_upto_region 9 with (first | (refine getSk rfl _ rfl (bp + 1) rfl nm ma lv un tx ht hS0 ?_; simp only [Act.put, List.setIfInBounds_toArray, List.set_cons_succ, List.set_cons_zero]) | (refine putSk rfl _ _ rfl _ nm ma lv un tx ht rfl rfl _ rfl (Blk.new _ _ _ _ rfl) ?_; simp only [Act.put, List.setIfInBounds_toArray, List.set_cons_succ, List.set_cons_zero]) | fail)
    have hSs : Blk ((W4.alloc (.cells #[.string ⟨#[]⟩, .int .i64 0, .int .i64 0, .int .i64 0, .int .i64 0, .int .i64 0] 30)).setRow W4.heap.size (skC nm ma lv un tx ht)) W4.heap.size 30 (skC nm ma lv un tx ht) := (Blk.new _ _ _ _ rfl).setRow _
    have hb5 : Below W4.heap.size W4 ((W4.alloc (.cells #[.string ⟨#[]⟩, .int .i64 0, .int .i64 0, .int .i64 0, .int .i64 0, .int .i64 0] 30)).setRow W4.heap.size (skC nm ma lv un tx ht)) := bel_setRow (bel_alloc (Below.refl _ _) _) (Nat.le_refl _) _
    obtain ⟨sb, hsb⟩ : ∃ b, b = W4.heap.size := ⟨_, rfl⟩
    rw [← hsb] at hSs
    simp only [← hsb] at hSs ⊢
    generalize hW5 : (W4.alloc (.cells #[.string ⟨#[]⟩, .int .i64 0, .int .i64 0, .int .i64 0, .int .i64 0, .int .i64 0] 30)).setRow sb (skC nm ma lv un tx ht) = W5 at *
    rw [← hsb, hW5] at hb5
    have hsW : W4.heap.size ≤ sb := by omega
    have hSs2 : Blk (W5.setCell ⟨sb, 4, none⟩ (.int .i64 (-1))) sb 30 (skC nm ma lv un (-1) ht) := hSs.set 4 (.int .i64 (-1))
    have hb6 : Below W4.heap.size W4 (W5.setCell ⟨sb, 4, none⟩ (.int .i64 (-1))) := by
      rw [hsb] at hb5 ⊢
      exact bel_set hb5 (p := ⟨W4.heap.size, 4, none⟩) (Nat.le_refl _) (.int .i64 (-1))
    have hB6 := bel_trans hB4 hb6
    have hm6 := hM.below hb6
    have hL6 := hL.below hb6
    have hP6 := hP0.below hb6
    have hS6 := hS0.below hb6
    have hbn6 := bel_trans hbn hb6
    have g4 : W5.cell? ⟨sb, 4, none⟩ = some (.int .i64 tx) := hSs.cell 4
    have f4 := hSs.frozen 4
    have sl := hSs.lt
    replace hsb := Lib.hid hsb
    replace hW5 := Lib.hid hW5
    clear hB4 hbn hM hL hP0 hS0 hb5 hb6
    go_upto_region 10 with (fail)
    clear g4 f4 sl hSs hsW
    generalize W5.setCell ⟨sb, 4, none⟩ (.int .i64 (-1)) = W6 at *
    have kD := kD2 W6 hbn6
    go_upto_region 11 with (first | (refine getPt rfl _ rfl bp rfl P hP6 ?_; simp only [Act.put, List.setIfInBounds_toArray, List.set_cons_succ, List.set_cons_zero]) | (refine getSk rfl _ rfl sb rfl nm ma lv un (-1) ht hSs2 ?_; simp only [Act.put, List.setIfInBounds_toArray, List.set_cons_succ, List.set_cons_zero]) | (go_at_call 11; (with_reducible refine kD.mono ?_); rintro e W7 ⟨B1, B2, B3, d1, d2, d3, rfl, hb7, hL7⟩) | (refine putM rfl _ _ rfl _ _ _ _ rfl rfl ⟨rfl, rfl, rfl⟩ _ rfl (Blk.new _ _ _ _ rfl) ?_; simp only [Act.put, List.setIfInBounds_toArray, List.set_cons_succ, List.set_cons_zero]) | fail)
    have hMb : Blk ((W7.alloc (.cells #[.slice none 0 0, .slice none 0 0, .slice none 0 0] 38)).setRow W7.heap.size #[.slice B1 m.vs.length d1, .slice B2 m.ks.length d2, .slice B3 m.ts.length d3]) W7.heap.size 38 #[.slice B1 m.vs.length d1, .slice B2 m.ks.length d2, .slice B3 m.ts.length d3] := (Blk.new _ _ _ _ rfl).setRow _
    have hb8 : Below W7.heap.size W7 ((W7.alloc (.cells #[.slice none 0 0, .slice none 0 0, .slice none 0 0] 38)).setRow W7.heap.size #[.slice B1 m.vs.length d1, .slice B2 m.ks.length d2, .slice B3 m.ts.length d3]) := bel_setRow (bel_alloc (Below.refl _ _) _) (Nat.le_refl _) _
    have hB7 := bel_trans hB6 hb7
    have hLa := hL6.below hb7
    have hMa := (hm6.below hb7).below hb8
    have hS8 := (hS6.below hb7).below hb8
    have hma := Nat.lt_of_lt_of_le hm6.lt hb7.size
    obtain ⟨nb, hnb⟩ : ∃ b, b = W7.heap.size := ⟨_, rfl⟩
    rw [← hnb] at hMb
    simp only [← hnb]
    generalize hW8 : ((W7.alloc (.cells #[.slice none 0 0, .slice none 0 0, .slice none 0 0] 38)).setRow nb #[.slice B1 m.vs.length d1, .slice B2 m.ks.length d2, .slice B3 m.ts.length d3]) = W8 at *
    rw [← hnb, hW8] at hb8 hMa hS8
    rw [hnb] at hb8
    have hnm : nb ≠ mb := by omega
    have hnW : W7.heap.size ≤ nb := by omega
    replace hnb := Lib.hid hnb
    replace hW8 := Lib.hid hW8
    clear hL6 hm6 hS6 hP6 hB6 hb7 hSs2 hbn6
    have hB8 := bel_trans hB7 hb8
    have t0 : W8.cell? ⟨mb, 0, none⟩ = some (.slice A1 m.vs.length c1) := hMa.cell 0
    have u0 : W8.cell? ⟨nb, 0, none⟩ = some (.slice B1 m.vs.length d1) := hMb.cell 0
    have s5 : W8.cell? ⟨bp + 1, 5, none⟩ = some (.int .i64 ht) := hS8.cell 5
    have tl := hMa.lt
    have ul := hMb.lt
    have sl := hS8.lt
    go_wp2
    go_loopw [12] (fun iv wz => Below W.heap.size W wz ∧ Below W8.heap.size W8 wz ∧ ∃ (v : Nat), iv = .int .i64 (v : Int) ∧ v ≤ m.vs.length) (fun iv _ => m.vs.length - (intOf iv).toNat)
    case atStart => exact ⟨hB8, Below.refl _ _, 0, rfl, by omega⟩
    case round =>
      obtain ⟨hBz, hbz, v, rfl, hv⟩ := hrel
      rename World => wz
      have t0' := (hbz.cell (p := ⟨mb, 0, none⟩) tl).trans t0
      have u0' := (hbz.cell (p := ⟨nb, 0, none⟩) ul).trans u0
      have s5' := (hbz.cell (p := ⟨bp + 1, 5, none⟩) sl).trans s5
      have tl' := Nat.lt_of_lt_of_le tl hbz.size
      have ul' := Nat.lt_of_lt_of_le ul hbz.size
      have sl' := Nat.lt_of_lt_of_le sl hbz.size
      clear t0 u0 s5 tl ul sl hB8
      by_cases hvl : v < m.vs.length
      · obtain ⟨b1, o1, rfl, hb1, hc1⟩ := (hLa.v.below (bel_trans hb8 hbz)) (by omega)
        obtain ⟨r1, r2, r3⟩ := hc1 v hvl
        obtain ⟨b2, o2, rfl, hb2, hc2⟩ := (hL7.v.below (bel_trans hb8 hbz)) (by simp only; omega)
        simp only at hc2
        have hvl2 : v < vs'.length := by omega
        obtain ⟨x1, x2, x3⟩ := hc2 v hvl2
        obtain ⟨w1, w2, w3, w4⟩ := hin.out v hvl hvl2
        clear hc1 hc2
        generalize m.vs[v] = p at *
        generalize vs'[v] = q at *
        have kS := rSub_any p.x p.y p.z q.x q.y q.z
        rw [w1, w2, w3] at kS
        have kW := vWithin_any (p.x - q.x) (p.y - q.y) (p.z - q.z) ht (by omega)
        rw [w4] at kW
        have q0 : (0 : Int) ≤ (v : Int) := by omega
        have q1 : (v : Int) < (m.vs.length : Int) := by omega
        clear w1 w2 w3 w4
        go_upto_region 16 with (fail)
        refine wp_region_grow (by kernel_rfl) (by kernel_rfl) ?_
        repeat (go_big_quiet_step ((first | with_reducible exact kS.quiet _ | with_reducible exact kS.quiet2 _ _ | with_reducible exact kW.quiet _ | with_reducible exact kW.quiet2 _ _)))
        refine wpQuiet_nil ?_
        rintro _ ⟨xg2, rfl⟩
        have hB9 := bel_grow hBz xg2
        have hb9 := bel_grow hbz xg2
        go_wp2
        go_roundw
        case rel => exact ⟨hB9, hb9, v + 1, by go_num, by omega⟩
        case measure => simp [intOf]; omega
      · obtain rfl : v = m.vs.length := by omega
        have f0 := (hMb.below hbz).frozen 0
        have hNb : Blk (wz.setCell ⟨nb, 0, none⟩ (.slice A1 m.vs.length c1)) nb 38 #[.slice A1 m.vs.length c1, .slice B2 m.ks.length d2, .slice B3 m.ts.length d3] := (hMb.below hbz).set 0 (.slice A1 m.vs.length c1)
        have hNa := (hMa.below hbz).far (b := nb) 0 (.slice A1 m.vs.length c1) hnm
        have hbA := bel_set (bel_trans hb8 hbz) (p := ⟨nb, 0, none⟩) hnW (.slice A1 m.vs.length c1)
        have hWn : W.heap.size ≤ nb := Nat.le_trans hB7.size hnW
        have hBf := bel_set hBz (p := ⟨nb, 0, none⟩) hWn (.slice A1 m.vs.length c1)
        have hLx := hLa.below hbA
        have hLy : MsL (wz.setCell ⟨nb, 0, none⟩ (.slice A1 m.vs.length c1)) A1 B2 B3 m := ⟨hLx.v, (hL7.below hbA).k, (hL7.below hbA).t⟩
        clear s5' sl'
        go_upto_region 19 with (fail)
        generalize wz.setCell ⟨nb, 0, none⟩ (.slice A1 m.vs.length c1) = wf at *
        have kM := sameM_yes wf A1 A2 A3 A1 B2 B3 c1 c2 c3 c1 d2 d3 m hLx hLy (by omega) (by omega) (by omega) hrn.out
        go_wp2_with (first | (refine getM rfl _ rfl mb rfl _ _ _ hNa ?_; simp only [Act.put, List.setIfInBounds_toArray, List.set_cons_succ, List.set_cons_zero]) | (refine getM rfl _ rfl nb rfl _ _ _ hNb ?_; simp only [Act.put, List.setIfInBounds_toArray, List.set_cons_succ, List.set_cons_zero]) | (go_at_call 17; (with_reducible refine kM.mono ?_); rintro e W9 ⟨rfl, hb9⟩) | fail)
        go_ret
        exact ⟨rfl, bel_trans hBf hb9⟩
  · obtain ⟨x, hx⟩ : ∃ x, msE P un ht tx ts = x := ⟨_, rfl⟩
    rw [hx] at hz
    have kD := dice_no W2 P 0 0 nm ma lv un tx ht A c ts hX hok x hx hz
    clear hx hok hX
    go_upto_region 6 with (first | (refine getPt rfl _ rfl bp rfl P hP0 ?_; simp only [Act.put, List.setIfInBounds_toArray, List.set_cons_succ, List.set_cons_zero]) | (refine getSk rfl _ rfl (bp + 1) rfl nm ma lv un tx ht hS0 ?_; simp only [Act.put, List.setIfInBounds_toArray, List.set_cons_succ, List.set_cons_zero]) | (go_at_call 11; (with_reducible refine kD.mono ?_); rintro e W3 ⟨rfl, hb3⟩) | (refine putM rfl _ _ rfl _ _ _ _ rfl rfl ⟨rfl, rfl, rfl⟩ _ rfl (Blk.new _ _ _ _ rfl) ?_; simp only [Act.put, List.setIfInBounds_toArray, List.set_cons_succ, List.set_cons_zero]) | fail)
    have hb4 : Below W3.heap.size W3 ((W3.alloc (.cells #[.slice none 0 0, .slice none 0 0, .slice none 0 0] 38)).setRow W3.heap.size #[.slice none 0 0, .slice none 0 0, .slice none 0 0]) := bel_setRow (bel_alloc (Below.refl _ _) _) (Nat.le_refl _) _
    have hM : Blk ((W3.alloc (.cells #[.slice none 0 0, .slice none 0 0, .slice none 0 0] 38)).setRow W3.heap.size #[.slice none 0 0, .slice none 0 0, .slice none 0 0]) W3.heap.size 38 #[.slice none 0 0, .slice none 0 0, .slice none 0 0] := (Blk.new _ _ _ _ rfl).setRow _
    have hb5 := bel_trans hb3 hb4
    have hB4 := bel_trans hB2 hb5
    replace hP0 := hP0.below hb5
    replace hS0 := hS0.below hb5
    have hbn := hb5
    have hltmb : W2.heap.size ≤ W3.heap.size := hb3.size
    clear hb3 hb4 hb5 kD
    generalize ((W3.alloc (.cells #[.slice none 0 0, .slice none 0 0, .slice none 0 0] 38)).setRow W3.heap.size #[.slice none 0 0, .slice none 0 0, .slice none 0 0]) = W4 at *
    generalize W3.heap.size = mb at *
    go_wp2
    go_ret
    exact ⟨rfl, hB4⟩

theorem own : ownKnob Try.prog.godebug = none := by kernel_rfl
set_option maxRecDepth 100000 in
theorem lifted (os : Os) (started : os.Started) (H : Type) (enc : TypeId × Value → H) :
    ReturnsInHanded {} Try.checked os 6 .any (Rows.meshNearSpec.pre6 enc Try.prog Try.f6 Rows.meshNearRow.domain false) (Rows.meshNearSpec.post enc Try.prog Try.f6 false true false false) := by
  refine returnsInHanded_of_change_sized (C := Try.checked) own started (by kernel_rfl) Try.func6
    (ChangeSpec.witness6 (enc := enc) (C := Try.checked) false ⟨#[], #[.agg #[.int .i64 0, .int .i64 0, .int .i64 0, .int .i64 0, .int .i64 0, .int .i64 0, .int .i64 0, .int .i64 0, .int .i64 0, .int .i64 0, .int .i64 0, .int .i64 0, .int .i64 0, .int .i64 0, .int .i64 0, .int .i64 0, .int .i64 0, .int .i64 0, .int .i64 0, .int .i64 0, .int .i64 0, .int .i64 0, .int .i64 0, .int .i64 0, .int .i64 0, .int .i64 0, .int .i64 0, .int .i64 0, .int .i64 0, .int .i64 0, .int .i64 0, .int .i64 0, .int .i64 0, .int .i64 0, .int .i64 0, .int .i64 0, .int .i64 0, .int .i64 0, .int .i64 0, .int .i64 0, .int .i64 0, .int .i64 0, .int .i64 0, .int .i64 0, .int .i64 0, .int .i64 0, .int .i64 0, .int .i64 0, .int .i64 0, .int .i64 0, .int .i64 0, .int .i64 0, .int .i64 0, .int .i64 0, .int .i64 0, .int .i64 0, .int .i64 0, .int .i64 0, .int .i64 0, .int .i64 0, .int .i64 0, .int .i64 0, .int .i64 0, .int .i64 0, .int .i64 0], .agg #[.string ByteArray.empty, .int .i64 0, .int .i64 0, .int .i64 0, .int .i64 0, .int .i64 0], .slice none 0 0], []⟩ 12 (by kernel_rfl) (by kernel_rfl) (by kernel_rfl) (by kernel_rfl)) ?_
  intro W base args ds gs before hval0 hW hcnd hwt _
  have hval : ∀ (j : Nat) t v, Try.f6.params[j]? = some t → args[j]? = some v → Value.okWide Try.prog W .any base t v := hval0
  have hW' := hW
  obtain ⟨p, q, hA0, hV, rfl, hfz, hnd⟩ := hW
  have hA : DataW.TrodAll enc Try.prog W 0 (fun _ => true) true Try.f6.params.toList args.toList ds p := hA0
  rw [Try.params6] at hA hval
  obtain ⟨v0, vs0, d0, ds0, p0, q0, hargs, rfl, rfl, h0, r0⟩ := trodAll_cons hA
  obtain ⟨v1, vs1, d1, ds1, p1, q1, rfl, rfl, rfl, h1, r1⟩ := trodAll_cons r0
  obtain ⟨v2, vs2, d2, ds2, p2, q2, rfl, rfl, rfl, h2, r2⟩ := trodAll_cons r1
  obtain ⟨rfl, rfl, rfl⟩ := trodAll_nil r2
  obtain rfl : args = #[v0, v1, v2] := by cases args; simp_all
  obtain ⟨P0, rfl, b0⟩ := open_Pch (hval 0 28 v0 rfl rfl) h0
  obtain ⟨cs1, rfl, hsz1⟩ := okWide_struct Try.underlying30 (hval 1 30 v1 rfl rfl)
  rw [szSk] at hsz1
  have hTW1 : TW enc Try.prog W 0 (fun _ => true) true 30 cs1.toList := by
    obtain ⟨fu, hfu⟩ := h1
    refine ⟨fu, _, hfu, fun n hn => ?_⟩
    have := List.all_eq_true.1 hwt n (DataW.weights_mem_each (j := 1) (t := 30) (d := d1) (by rw [Try.params6]; rfl) (by rfl) n hn)
    simpa using this
  obtain ⟨nm1, ma1, lv1, un1, tx1, ht1, ecs1, hb1⟩ := open_Skin (by simpa using hsz1) hTW1
  obtain rfl : cs1 = #[.string nm1, .int .i64 ma1, .int .i64 lv1, .int .i64 un1, .int .i64 tx1, .int .i64 ht1] := Array.ext' ecs1
  clear hTW1
  obtain ⟨sa2, sn2, sc2, rfl⟩ := okWide_slice Try.underlying31 (hval 2 31 v2 rfl rfl)
  have hTW2 : TW enc Try.prog W 0 (fun _ => true) true 31 [.slice sa2 sn2 sc2] := by
    obtain ⟨fu, hfu⟩ := h2
    refine ⟨fu, _, hfu, fun n hn => ?_⟩
    have := List.all_eq_true.1 hwt n (DataW.weights_mem_each (j := 2) (t := 31) (d := d2) (by rw [Try.params6]; rfl) (by rfl) n hn)
    simpa using this
  obtain ⟨A2, k2, ts2, e2, l2, m2, n2⟩ := open_Texs hTW2
  obtain ⟨f2, g2, i2⟩ : A2 = sa2 ∧ ts2.length = sn2 ∧ k2 = sc2 := by simpa [eq_comm] using e2
  subst f2
  subst g2
  subst i2
  clear hTW2
  refine (walk W P0 b0 nm1 ma1 lv1 un1 tx1 ht1 A2 k2 ts2 l2 m2 n2).mono fun e W' ⟨he, hb⟩ => ?_
  subst he
  exact ⟨_, rfl, law_post (tb := 4) (by kernel_rfl) (by kernel_rfl) rfl rfl Try.underlying4 rfl rfl rfl hW' hb⟩

theorem over : Rows.meshNearRow.holds Try.pinned (OpenSpec.ofChange Rows.meshNearSpec) :=
  OpenClaim.holds_of_wide 6 Try.f6 rfl rfl rfl rfl rfl rfl rfl ⟨rfl, rfl, rfl, rfl, rfl⟩ rfl rfl rfl rfl rfl (by kernel_rfl) Try.func6 (by kernel_rfl)
    (of_decide_eq_true (by kernel_rfl)) (by unfold Func.isWrapper; first | (rw [if_pos (by decide +kernel)]; kernel_rfl) | (rw [if_neg (by decide +kernel)]; exact ⟨rfl, rfl⟩))
    (fun os started H enc _ => lifted os started H enc)

theorem proved : Rows.MeshNearSaid :=
  over
#print axioms proved
end Go.Proofs.Ytpaehkjnefgaiaa.meshNear
