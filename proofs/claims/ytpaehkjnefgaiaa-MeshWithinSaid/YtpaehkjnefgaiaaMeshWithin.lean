/- MeshWithin holds for every input: the row, out of the walk. No condition. -/
import Derived.SizedLaws
import Derived.Test.YtpaehkjnefgaiaaRows
import Derived.Test.YtpaehkjnefgaiaaC4
import Derived.Test.YtpaehkjnefgaiaaC10
import Derived.Test.YtpaehkjnefgaiaaC16
import Derived.Test.YtpaehkjnefgaiaaC17
namespace Go.Proofs.Ytpaehkjnefgaiaa.meshWithin
open Go.ChangeShapes Go.WideShapes Go.ChangeAt Go.RowKit
set_option linter.unusedVariables false
set_option linter.unusedSimpArgs false
set_option linter.unnecessarySimpa false
set_option maxRecDepth 100000
set_option maxHeartbeats 8000000 in
theorem walk (W : World) (P : Pch) (hPI : PchI P) (nm : ByteArray) (ma lv un tx ht : Int) (A : Option Addr) (c : Nat) (ts : List TexD) (hl : ts.length ≤ reachBytes) (hT : ∀ t ∈ ts, TexI t) (hX : XL W A ts) :
    Calls Try.prog 4 #[.agg P.row, .agg (skC nm ma lv un tx ht), .slice A ts.length c] W fun e W' => e = .returned (.bool true) ∧ Below W.heap.size W W' := by
  have hTL : ∀ t ∈ ts, t.rows.length ≤ 140737488351232 := fun t ht => (hT t ht).2.2
  obtain ⟨W0, hW0⟩ : ∃ W0, W0 = (W.alloc (.cells P.row 28)).alloc (.cells (skC nm ma lv un tx ht) 30) := ⟨_, rfl⟩
  have hB0 : Below W.heap.size W W0 := by rw [hW0]; exact bel_alloc (bel_alloc (Below.refl _ _) _) _
  have hP0 : PchB W0 W.heap.size 0 P := by rw [hW0]; exact PchB.of ((Blk.new _ _ _ _ rfl).alloc _)
  have hS0 : Blk W0 (W.heap.size + 1) 30 (skC nm ma lv un tx ht) := by rw [hW0]; exact Blk.new _ _ _ _ (by simp)
  have kA := alive15_any
  have kL : ∀ W' : World, Below W.heap.size W W' → _ := fun W' hb => long_any W' A c ts (hX.below hb) hTL
  go_enter Try.func4, Try.ntmps4
  go_upto_region 1 with (fail)
  simp only [← hW0]
  clear hW0
  obtain ⟨bp, hbp⟩ : ∃ b, b = W.heap.size := ⟨_, rfl⟩
  rw [← hbp] at hP0 hS0
  simp only [← hbp]
  replace hbp := Lib.hid hbp
  go_upto_region 3 with (first | (go_at_call 9; (with_reducible refine (kA _).mono ?_); rintro e W1 ⟨rfl, hb1⟩) | fail)
  have hB1 := bel_trans hB0 hb1
  have kL1 := kL W1 hB1
  go_upto_region 5 with (first | (go_at_call 10; (with_reducible refine kL1.mono ?_); rintro e W2 ⟨⟨bb, rfl, hok⟩, hb2⟩; have hB2 := bel_trans hB1 hb2; replace hok := Lib.hid hok; cases bb) | fail)
  rotate_left
  · go_ret
    exact ⟨rfl, hB2⟩
  replace hok := hok.out trivial
  replace hX := hX.below hB2
  replace hP0 := (hP0.below hb1).below hb2
  replace hS0 := (hS0.below hb1).below hb2
  clear hTL hT kL kL1 hb1 hb2 hB0 hB1
  by_cases hz : msE P un ht tx ts = 0
  · have kD := dice_yes W2 P 0 0 nm ma lv un tx ht A c ts hX hok hz
    have hin := verts_in hz 0 0
    obtain ⟨f, _, _⟩ := msE_zero hz
    obtain ⟨ml1, ml2, ml3, ml4, ml5⟩ := mesh_len f 0 0 tx ts
    rw [← ml1] at ml4
    clear ml1 ml2 ml3 ml5
    generalize meshF P 0 0 un ht tx ts = m at *
    have kB := fun W' => bounds_ok W' P nm ma lv un tx ht f
    generalize bxLo P ht = lo at *
    generalize bxHi P ht = hi at *
    replace hin := Lib.hid hin
    clear hz hok hX f
    go_upto_region 6 with (first | (refine getPt rfl _ rfl bp rfl P hP0 ?_; simp only [Act.put, List.setIfInBounds_toArray, List.set_cons_succ, List.set_cons_zero]) | (refine getSk rfl _ rfl (bp + 1) rfl nm ma lv un tx ht hS0 ?_; simp only [Act.put, List.setIfInBounds_toArray, List.set_cons_succ, List.set_cons_zero]) | (go_at_call 11; (with_reducible refine kD.mono ?_); rintro e W3 ⟨A1, A2, A3, c1, c2, c3, rfl, hb3, hL⟩) | (refine putM rfl _ _ rfl _ _ _ _ rfl rfl ⟨rfl, rfl, rfl⟩ _ rfl (Blk.new _ _ _ _ rfl) ?_; simp only [Act.put, List.setIfInBounds_toArray, List.set_cons_succ, List.set_cons_zero]) | fail)
    have hb4 : Below W3.heap.size W3 ((W3.alloc (.cells #[.slice none 0 0, .slice none 0 0, .slice none 0 0] 38)).setRow W3.heap.size #[.slice A1 m.vs.length c1, .slice A2 m.ks.length c2, .slice A3 m.ts.length c3]) := bel_setRow (bel_alloc (Below.refl _ _) _) (Nat.le_refl _) _
    have hM : Blk ((W3.alloc (.cells #[.slice none 0 0, .slice none 0 0, .slice none 0 0] 38)).setRow W3.heap.size #[.slice A1 m.vs.length c1, .slice A2 m.ks.length c2, .slice A3 m.ts.length c3]) W3.heap.size 38 #[.slice A1 m.vs.length c1, .slice A2 m.ks.length c2, .slice A3 m.ts.length c3] := (Blk.new _ _ _ _ rfl).setRow _
    have hb5 := bel_trans hb3 hb4
    have hB4 := bel_trans hB2 hb5
    replace hL := hL.below hb4
    replace hP0 := hP0.below hb5
    replace hS0 := hS0.below hb5
    have hbn := hb5
    have hltmb : W2.heap.size ≤ W3.heap.size := hb3.size
    clear hb3 hb4 hb5 kD
    generalize ((W3.alloc (.cells #[.slice none 0 0, .slice none 0 0, .slice none 0 0] 38)).setRow W3.heap.size #[.slice A1 m.vs.length c1, .slice A2 m.ks.length c2, .slice A3 m.ts.length c3]) = W4 at *
    generalize W3.heap.size = mb at *
    go_upto_region 9 with (first | (refine getPt rfl _ rfl bp rfl P hP0 ?_; simp only [Act.put, List.setIfInBounds_toArray, List.set_cons_succ, List.set_cons_zero]) | (refine getSk rfl _ rfl (bp + 1) rfl nm ma lv un tx ht hS0 ?_; simp only [Act.put, List.setIfInBounds_toArray, List.set_cons_succ, List.set_cons_zero]) | (go_at_call 13; (with_reducible refine (kB _).mono ?_); rintro e W5 ⟨rfl, hb6⟩) | (refine putBx rfl _ _ rfl _ lo hi rfl rfl _ rfl (Blk.new _ _ _ _ rfl) ?_; simp only [Act.put, List.setIfInBounds_toArray, List.set_cons_succ, List.set_cons_zero]) | fail)
    have hX6 : Blk ((W5.alloc (.cells #[.int .i64 0, .int .i64 0, .int .i64 0, .int .i64 0, .int .i64 0, .int .i64 0] 43)).setRow W5.heap.size #[.int .i64 lo.x, .int .i64 lo.y, .int .i64 lo.z, .int .i64 hi.x, .int .i64 hi.y, .int .i64 hi.z]) W5.heap.size 43 #[.int .i64 lo.x, .int .i64 lo.y, .int .i64 lo.z, .int .i64 hi.x, .int .i64 hi.y, .int .i64 hi.z] := (Blk.new _ _ _ _ rfl).setRow _
    have hb7 : Below W4.heap.size W4 ((W5.alloc (.cells #[.int .i64 0, .int .i64 0, .int .i64 0, .int .i64 0, .int .i64 0, .int .i64 0] 43)).setRow W5.heap.size #[.int .i64 lo.x, .int .i64 lo.y, .int .i64 lo.z, .int .i64 hi.x, .int .i64 hi.y, .int .i64 hi.z]) := bel_setRow (bel_alloc hb6 _) hb6.size _
    have hB6 := bel_trans hB4 hb7
    have hM6 := hM.below hb7
    have hL6 := hL.v.below hb7
    clear hb6 hb7 hbn hM hL kB hP0 hS0
    generalize ((W5.alloc (.cells #[.int .i64 0, .int .i64 0, .int .i64 0, .int .i64 0, .int .i64 0, .int .i64 0] 43)).setRow W5.heap.size #[.int .i64 lo.x, .int .i64 lo.y, .int .i64 lo.z, .int .i64 hi.x, .int .i64 hi.y, .int .i64 hi.z]) = W6 at *
    generalize W5.heap.size = xb at *
    have y0 : W6.cell? ⟨xb, 0, none⟩ = some (.int .i64 lo.x) := hX6.cell 0
    have y1 : W6.cell? ⟨xb, 1, none⟩ = some (.int .i64 lo.y) := hX6.cell 1
    have y2 : W6.cell? ⟨xb, 2, none⟩ = some (.int .i64 lo.z) := hX6.cell 2
    have y3 : W6.cell? ⟨xb, 3, none⟩ = some (.int .i64 hi.x) := hX6.cell 3
    have y4 : W6.cell? ⟨xb, 4, none⟩ = some (.int .i64 hi.y) := hX6.cell 4
    have y5 : W6.cell? ⟨xb, 5, none⟩ = some (.int .i64 hi.z) := hX6.cell 5
    have yl := hX6.lt
    have t0 : W6.cell? ⟨mb, 0, none⟩ = some (.slice A1 m.vs.length c1) := hM6.cell 0
    have tl := hM6.lt
    clear hX6 hM6 hB4
    generalize m.vs = rv at *
    go_wp2
    go_loopw [11] (fun iv wz => Below W.heap.size W wz ∧ Below W6.heap.size W6 wz ∧ ∃ (v : Nat), iv = .int .i64 (v : Int) ∧ v ≤ rv.length) (fun iv _ => rv.length - (intOf iv).toNat)
    case atStart => exact ⟨hB6, Below.refl _ _, 0, rfl, by omega⟩
    case round =>
      obtain ⟨hBz, hbz, v, rfl, hv⟩ := hrel
      rename World => wz
      have t0' := (hbz.cell (p := ⟨mb, 0, none⟩) tl).trans t0
      have y0' := (hbz.cell (p := ⟨xb, 0, none⟩) yl).trans y0
      have y1' := (hbz.cell (p := ⟨xb, 1, none⟩) yl).trans y1
      have y2' := (hbz.cell (p := ⟨xb, 2, none⟩) yl).trans y2
      have y3' := (hbz.cell (p := ⟨xb, 3, none⟩) yl).trans y3
      have y4' := (hbz.cell (p := ⟨xb, 4, none⟩) yl).trans y4
      have y5' := (hbz.cell (p := ⟨xb, 5, none⟩) yl).trans y5
      have tl' := Nat.lt_of_lt_of_le tl hbz.size
      have yl' := Nat.lt_of_lt_of_le yl hbz.size
      have hR := hL6.below hbz
      clear t0 tl y0 y1 y2 y3 y4 y5 yl hB6
      by_cases hvl : v < rv.length
      · obtain ⟨b1, o1, rfl, hb1, hc1⟩ := hR (by omega)
        obtain ⟨r1, r2, r3⟩ := hc1 v hvl
        have hi1 := hin.out _ (List.getElem_mem hvl)
        generalize rv[v] = p at *
        have kH := vHas_any lo.x lo.y lo.z hi.x hi.y hi.z p.x p.y p.z
        rw [hi1] at kH
        have q0 : (0 : Int) ≤ (v : Int) := by omega
        have q1 : (v : Int) < (rv.length : Int) := by omega
        clear hc1 hR hi1
        go_upto_region 12 with (fail)
        refine wp_region_grow (by kernel_rfl) (by kernel_rfl) ?_
        repeat (go_big_quiet_step ((first | with_reducible exact kH.quiet _ | with_reducible exact kH.quiet2 _ _)))
        refine wpQuiet_nil ?_
        rintro _ ⟨xg2, rfl⟩
        have hB9 := bel_grow hBz xg2
        have hb9 := bel_grow hbz xg2
        go_wp2
        go_roundw
        case rel => exact ⟨hB9, hb9, v + 1, by go_num, by omega⟩
        case measure => simp [intOf]; omega
      · obtain rfl : v = rv.length := by omega
        go_wp2
        go_ret
        exact ⟨rfl, hBz⟩
  · obtain ⟨x, hx⟩ : ∃ x, msE P un ht tx ts = x := ⟨_, rfl⟩
    rw [hx] at hz
    have kD := dice_no W2 P 0 0 nm ma lv un tx ht A c ts hX hok x hx hz
    clear hx hok hX
    go_upto_region 6 with (first | (refine getPt rfl _ rfl bp rfl P hP0 ?_; simp only [Act.put, List.setIfInBounds_toArray, List.set_cons_succ, List.set_cons_zero]) | (refine getSk rfl _ rfl (bp + 1) rfl nm ma lv un tx ht hS0 ?_; simp only [Act.put, List.setIfInBounds_toArray, List.set_cons_succ, List.set_cons_zero]) | (go_at_call 11; (with_reducible refine kD.mono ?_); rintro e W3 ⟨rfl, hb3⟩) | (refine putM rfl _ _ rfl _ _ _ _ rfl rfl ⟨rfl, rfl, rfl⟩ _ rfl (Blk.new _ _ _ _ rfl) ?_; simp only [Act.put, List.setIfInBounds_toArray, List.set_cons_succ, List.set_cons_zero]) | fail)
    have hb4 : Below W3.heap.size W3 ((W3.alloc (.cells #[.slice none 0 0, .slice none 0 0, .slice none 0 0] 38)).setRow W3.heap.size #[.slice none 0 0, .slice none 0 0, .slice none 0 0]) := bel_setRow (bel_alloc (Below.refl _ _) _) (Nat.le_refl _) _
    have hM : Blk ((W3.alloc (.cells #[.slice none 0 0, .slice none 0 0, .slice none 0 0] 38)).setRow W3.heap.size #[.slice none 0 0, .slice none 0 0, .slice none 0 0]) W3.heap.size 38 #[.slice none 0 0, .slice none 0 0, .slice none 0 0] := (Blk.new _ _ _ _ rfl).setRow _
    have hb5 := bel_trans hb3 hb4
    have hB4 := bel_trans hB2 hb5
    replace hP0 := hP0.below hb5
    replace hS0 := hS0.below hb5
    have hbn := hb5
    have hltmb : W2.heap.size ≤ W3.heap.size := hb3.size
    clear hb3 hb4 hb5 kD
    generalize ((W3.alloc (.cells #[.slice none 0 0, .slice none 0 0, .slice none 0 0] 38)).setRow W3.heap.size #[.slice none 0 0, .slice none 0 0, .slice none 0 0]) = W4 at *
    generalize W3.heap.size = mb at *
    have t0 : W4.cell? ⟨mb, 0, none⟩ = some (.slice none 0 0) := hM.cell 0
    have t2 : W4.cell? ⟨mb, 2, none⟩ = some (.slice none 0 0) := hM.cell 2
    have tl := hM.lt
    go_wp2
    go_ret
    exact ⟨rfl, hB4⟩

theorem own : ownKnob Try.prog.godebug = none := by kernel_rfl
set_option maxRecDepth 100000 in
theorem lifted (os : Os) (started : os.Started) (H : Type) (enc : TypeId × Value → H) :
    ReturnsInHanded {} Try.checked os 4 .any (Rows.meshWithinSpec.pre6 enc Try.prog Try.f4 Rows.meshWithinRow.domain false) (Rows.meshWithinSpec.post enc Try.prog Try.f4 false true false false) := by
  refine returnsInHanded_of_change_sized (C := Try.checked) own started (by kernel_rfl) Try.func4
    (ChangeSpec.witness6 (enc := enc) (C := Try.checked) false ⟨#[], #[.agg #[.int .i64 0, .int .i64 0, .int .i64 0, .int .i64 0, .int .i64 0, .int .i64 0, .int .i64 0, .int .i64 0, .int .i64 0, .int .i64 0, .int .i64 0, .int .i64 0, .int .i64 0, .int .i64 0, .int .i64 0, .int .i64 0, .int .i64 0, .int .i64 0, .int .i64 0, .int .i64 0, .int .i64 0, .int .i64 0, .int .i64 0, .int .i64 0, .int .i64 0, .int .i64 0, .int .i64 0, .int .i64 0, .int .i64 0, .int .i64 0, .int .i64 0, .int .i64 0, .int .i64 0, .int .i64 0, .int .i64 0, .int .i64 0, .int .i64 0, .int .i64 0, .int .i64 0, .int .i64 0, .int .i64 0, .int .i64 0, .int .i64 0, .int .i64 0, .int .i64 0, .int .i64 0, .int .i64 0, .int .i64 0, .int .i64 0, .int .i64 0, .int .i64 0, .int .i64 0, .int .i64 0, .int .i64 0, .int .i64 0, .int .i64 0, .int .i64 0, .int .i64 0, .int .i64 0, .int .i64 0, .int .i64 0, .int .i64 0, .int .i64 0, .int .i64 0, .int .i64 0], .agg #[.string ByteArray.empty, .int .i64 0, .int .i64 0, .int .i64 0, .int .i64 0, .int .i64 0], .slice none 0 0], []⟩ 12 (by kernel_rfl) (by kernel_rfl) (by kernel_rfl) (by kernel_rfl)) ?_
  intro W base args ds gs before hval0 hW hcnd hwt _
  have hval : ∀ (j : Nat) t v, Try.f4.params[j]? = some t → args[j]? = some v → Value.okWide Try.prog W .any base t v := hval0
  have hW' := hW
  obtain ⟨p, q, hA0, hV, rfl, hfz, hnd⟩ := hW
  have hA : DataW.TrodAll enc Try.prog W 0 (fun _ => true) true Try.f4.params.toList args.toList ds p := hA0
  rw [Try.params4] at hA hval
  obtain ⟨v0, vs0, d0, ds0, p0, q0, hargs, rfl, rfl, h0, r0⟩ := trodAll_cons hA
  obtain ⟨v1, vs1, d1, ds1, p1, q1, rfl, rfl, rfl, h1, r1⟩ := trodAll_cons r0
  obtain ⟨v2, vs2, d2, ds2, p2, q2, rfl, rfl, rfl, h2, r2⟩ := trodAll_cons r1
  obtain ⟨rfl, rfl, rfl⟩ := trodAll_nil r2
  obtain rfl : args = #[v0, v1, v2] := by cases args; simp_all
  obtain ⟨P0, rfl, b0⟩ := open_Pch (hval 0 28 v0 rfl rfl) h0
  obtain ⟨cs1, rfl, hsz1⟩ := okWide_struct Try.underlying30 (hval 1 30 v1 rfl rfl)
  rw [szSk] at hsz1
  have hTW1 : TW enc Try.prog W 0 (fun _ => true) true 30 cs1.toList := by
    obtain ⟨fu, hfu⟩ := h1
    refine ⟨fu, _, hfu, fun n hn => ?_⟩
    have := List.all_eq_true.1 hwt n (DataW.weights_mem_each (j := 1) (t := 30) (d := d1) (by rw [Try.params4]; rfl) (by rfl) n hn)
    simpa using this
  obtain ⟨nm1, ma1, lv1, un1, tx1, ht1, ecs1, hb1⟩ := open_Skin (by simpa using hsz1) hTW1
  obtain rfl : cs1 = #[.string nm1, .int .i64 ma1, .int .i64 lv1, .int .i64 un1, .int .i64 tx1, .int .i64 ht1] := Array.ext' ecs1
  clear hTW1
  obtain ⟨sa2, sn2, sc2, rfl⟩ := okWide_slice Try.underlying31 (hval 2 31 v2 rfl rfl)
  have hTW2 : TW enc Try.prog W 0 (fun _ => true) true 31 [.slice sa2 sn2 sc2] := by
    obtain ⟨fu, hfu⟩ := h2
    refine ⟨fu, _, hfu, fun n hn => ?_⟩
    have := List.all_eq_true.1 hwt n (DataW.weights_mem_each (j := 2) (t := 31) (d := d2) (by rw [Try.params4]; rfl) (by rfl) n hn)
    simpa using this
  obtain ⟨A2, k2, ts2, e2, l2, m2, n2⟩ := open_Texs hTW2
  obtain ⟨f2, g2, i2⟩ : A2 = sa2 ∧ ts2.length = sn2 ∧ k2 = sc2 := by simpa [eq_comm] using e2
  subst f2
  subst g2
  subst i2
  clear hTW2
  refine (walk W P0 b0 nm1 ma1 lv1 un1 tx1 ht1 A2 k2 ts2 l2 m2 n2).mono fun e W' ⟨he, hb⟩ => ?_
  subst he
  exact ⟨_, rfl, law_post (tb := 4) (by kernel_rfl) (by kernel_rfl) rfl rfl Try.underlying4 rfl rfl rfl hW' hb⟩

theorem over : Rows.meshWithinRow.holds Try.pinned (OpenSpec.ofChange Rows.meshWithinSpec) :=
  OpenClaim.holds_of_wide 4 Try.f4 rfl rfl rfl rfl rfl rfl rfl ⟨rfl, rfl, rfl, rfl, rfl⟩ rfl rfl rfl rfl rfl (by kernel_rfl) Try.func4 (by kernel_rfl)
    (of_decide_eq_true (by kernel_rfl)) (by unfold Func.isWrapper; first | (rw [if_pos (by decide +kernel)]; kernel_rfl) | (rw [if_neg (by decide +kernel)]; exact ⟨rfl, rfl⟩))
    (fun os started H enc _ => lifted os started H enc)

theorem proved : Rows.MeshWithinSaid :=
  over
#print axioms proved
end Go.Proofs.Ytpaehkjnefgaiaa.meshWithin
