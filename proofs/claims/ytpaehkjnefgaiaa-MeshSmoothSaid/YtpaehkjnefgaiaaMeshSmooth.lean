/- MeshSmooth holds for every input: the row, out of the walk. No condition. -/
import Derived.SizedLaws
import Derived.Test.YtpaehkjnefgaiaaRows
import Derived.Test.YtpaehkjnefgaiaaC10
import Derived.Test.YtpaehkjnefgaiaaC16
import Derived.Test.YtpaehkjnefgaiaaC17
namespace Go.Proofs.Ytpaehkjnefgaiaa.meshSmooth
open Go.ChangeShapes Go.WideShapes Go.ChangeAt Go.RowKit
set_option linter.unusedVariables false
set_option linter.unusedSimpArgs false
set_option linter.unnecessarySimpa false
set_option maxRecDepth 100000
set_option maxHeartbeats 8000000 in
theorem walk (W : World) (P : Pch) (hPI : PchI P) (un : Int) (hu : -9223372036854775808 ≤ un ∧ un ≤ 9223372036854775807) :
    Calls Try.prog 5 #[.agg P.row, .int .i64 un] W fun e W' => e = .returned (.bool true) ∧ Below W.heap.size W W' := by
  obtain ⟨W0, hW0⟩ : ∃ W0, W0 = W.alloc (.cells P.row 28) := ⟨_, rfl⟩
  have hB0 : Below W.heap.size W W0 := by rw [hW0]; exact bel_alloc (Below.refl _ _) _
  have hP0 : PchB W0 W.heap.size 0 P := by rw [hW0]; exact PchB.of (Blk.new _ _ _ _ rfl)
  have kA := alive15_any
  go_enter Try.func5, Try.ntmps5
  go_upto_region 1 with (fail)
  simp only [← hW0]
  clear hW0
  obtain ⟨bp, hbp⟩ : ∃ b, b = W.heap.size := ⟨_, rfl⟩
  rw [← hbp] at hP0
  simp only [← hbp]
  replace hbp := Lib.hid hbp
  go_upto_region 3 with (first | (go_at_call 9; (with_reducible refine (kA _).mono ?_); rintro e W1 ⟨rfl, hb1⟩) | fail)
  have hB1 := bel_trans hB0 hb1
  replace hP0 := hP0.below hb1
  clear hB0 hb1
  by_cases h2 : un < 2
  · go_wp2
    go_ret
    exact ⟨rfl, hB1⟩
  have h2' : 2 ≤ un := by omega
  have hq : un.tdiv 2 = un / 2 := Int.tdiv_eq_ediv_of_nonneg (by omega)
  have he := smooth_err (P := P) h2'
  by_cases hz : msE P un 9 (-1) [] = 0
  · obtain ⟨f, _, _⟩ := msE_zero hz
    obtain ⟨f2, _, _⟩ := msE_zero (he.trans hz)
    have kD := dice0_yes W1 P 0 0 un 9 f
    have kE := fun W' => dice0_yes W' P 0 0 (un / 2) 0 f2
    have vA := fun k hk => smooth_v f (k := k) hk
    have vB := fun k hk => smooth_v f2 (k := k) hk
    have lA := smooth_l f
    have lB := smooth_l f2
    have lT := smooth_t f f2 h2'
    clear hz he f f2
    generalize meshF P 0 0 un 9 (-1) [] = m at *
    generalize meshF P 0 0 (un / 2) 0 (-1) [] = n at *
    replace vA := Lib.hid vA
    replace vB := Lib.hid vB
    go_upto_region 6 with (first | (refine getPt rfl _ rfl bp rfl P hP0 ?_; simp only [Act.put, List.setIfInBounds_toArray, List.set_cons_succ, List.set_cons_zero]) | (go_at_call 11; (with_reducible refine kD.mono ?_); rintro e W2 ⟨A1, A2, A3, c1, c2, c3, rfl, hb3, hLa⟩) | (refine putM rfl _ _ rfl _ _ _ _ rfl rfl ⟨rfl, rfl, rfl⟩ _ rfl (Blk.new _ _ _ _ rfl) ?_; simp only [Act.put, List.setIfInBounds_toArray, List.set_cons_succ, List.set_cons_zero]) | fail)
    have hb4 : Below W2.heap.size W2 ((W2.alloc (.cells #[.slice none 0 0, .slice none 0 0, .slice none 0 0] 38)).setRow W2.heap.size #[.slice A1 m.vs.length c1, .slice A2 m.ks.length c2, .slice A3 m.ts.length c3]) := bel_setRow (bel_alloc (Below.refl _ _) _) (Nat.le_refl _) _
    have hMa : Blk ((W2.alloc (.cells #[.slice none 0 0, .slice none 0 0, .slice none 0 0] 38)).setRow W2.heap.size #[.slice A1 m.vs.length c1, .slice A2 m.ks.length c2, .slice A3 m.ts.length c3]) W2.heap.size 38 #[.slice A1 m.vs.length c1, .slice A2 m.ks.length c2, .slice A3 m.ts.length c3] := (Blk.new _ _ _ _ rfl).setRow _
    have hbma := bel_trans hb3 hb4
    have hB3 := bel_trans hB1 hbma
    replace hLa := hLa.below hb4
    replace hP0 := hP0.below hbma
    have hltma : W1.heap.size ≤ W2.heap.size := hb3.size
    clear hb3 hb4 kD
    generalize ((W2.alloc (.cells #[.slice none 0 0, .slice none 0 0, .slice none 0 0] 38)).setRow W2.heap.size #[.slice A1 m.vs.length c1, .slice A2 m.ks.length c2, .slice A3 m.ts.length c3]) = W3 at *
    generalize W2.heap.size = ma at *
    have kF := kE W3
    go_upto_region 7 with (first | (refine getPt rfl _ rfl bp rfl P hP0 ?_; simp only [Act.put, List.setIfInBounds_toArray, List.set_cons_succ, List.set_cons_zero]) | (go_at_call 11; (with_reducible refine kF.mono ?_); rintro e W4 ⟨B1, B2, B3, d1, d2, d3, rfl, hb3, hLb⟩) | (refine putM rfl _ _ rfl _ _ _ _ rfl rfl ⟨rfl, rfl, rfl⟩ _ rfl (Blk.new _ _ _ _ rfl) ?_; simp only [Act.put, List.setIfInBounds_toArray, List.set_cons_succ, List.set_cons_zero]) | fail)
    have hb4 : Below W4.heap.size W4 ((W4.alloc (.cells #[.slice none 0 0, .slice none 0 0, .slice none 0 0] 38)).setRow W4.heap.size #[.slice B1 n.vs.length d1, .slice B2 n.ks.length d2, .slice B3 n.ts.length d3]) := bel_setRow (bel_alloc (Below.refl _ _) _) (Nat.le_refl _) _
    have hMb : Blk ((W4.alloc (.cells #[.slice none 0 0, .slice none 0 0, .slice none 0 0] 38)).setRow W4.heap.size #[.slice B1 n.vs.length d1, .slice B2 n.ks.length d2, .slice B3 n.ts.length d3]) W4.heap.size 38 #[.slice B1 n.vs.length d1, .slice B2 n.ks.length d2, .slice B3 n.ts.length d3] := (Blk.new _ _ _ _ rfl).setRow _
    have hbmb := bel_trans hb3 hb4
    have hB5 := bel_trans hB3 hbmb
    replace hLb := hLb.below hb4
    replace hMa := hMa.below hbmb
    replace hLa := hLa.below hbmb
    replace hP0 := hP0.below hbmb
    have hltmb : W3.heap.size ≤ W4.heap.size := hb3.size
    clear hb3 hb4 kF
    generalize ((W4.alloc (.cells #[.slice none 0 0, .slice none 0 0, .slice none 0 0] 38)).setRow W4.heap.size #[.slice B1 n.vs.length d1, .slice B2 n.ks.length d2, .slice B3 n.ts.length d3]) = W5 at *
    generalize W4.heap.size = mb at *
    go_upto_region 10 with (first | (refine wpList_store_row rfl 25 _ _ rfl _ #[.int .i64 0, .int .i64 3, .int .i64 15, .int .i64 12] rfl rfl 25 #[.int .i64 0, .int .i64 0, .int .i64 0, .int .i64 0] (Blk.new _ _ _ _ rfl) (by kernel_rfl) rfl (by simp [Value.oneCell']) ?_; simp only [Act.put, List.setIfInBounds_toArray, List.set_cons_succ, List.set_cons_zero]) | fail)
    have hQ : Blk ((W5.alloc (.cells #[.int .i64 0, .int .i64 0, .int .i64 0, .int .i64 0] 25)).setRow W5.heap.size #[.int .i64 0, .int .i64 3, .int .i64 15, .int .i64 12]) W5.heap.size 25 #[.int .i64 0, .int .i64 3, .int .i64 15, .int .i64 12] := (Blk.new _ _ _ _ rfl).setRow _
    have hb5 : Below W5.heap.size W5 ((W5.alloc (.cells #[.int .i64 0, .int .i64 0, .int .i64 0, .int .i64 0] 25)).setRow W5.heap.size #[.int .i64 0, .int .i64 3, .int .i64 15, .int .i64 12]) := bel_setRow (bel_alloc (Below.refl _ _) _) (Nat.le_refl _) _
    have hB6 := bel_trans hB5 hb5
    replace hMa := hMa.below hb5
    replace hMb := hMb.below hb5
    replace hLa := hLa.v.below hb5
    replace hLb := hLb.v.below hb5
    replace hP0 := hP0.below hb5
    clear hb5 hB5 hbmb hbma
    generalize ((W5.alloc (.cells #[.int .i64 0, .int .i64 0, .int .i64 0, .int .i64 0] 25)).setRow W5.heap.size #[.int .i64 0, .int .i64 3, .int .i64 15, .int .i64 12]) = W6 at *
    generalize W5.heap.size = gb at *
    have t0 : W6.cell? ⟨ma, 0, none⟩ = some (.slice A1 m.vs.length c1) := hMa.cell 0
    have u0 : W6.cell? ⟨mb, 0, none⟩ = some (.slice B1 n.vs.length d1) := hMb.cell 0
    have t2 : W6.cell? ⟨ma, 2, none⟩ = some (.slice A3 m.ts.length c3) := hMa.cell 2
    have u2 : W6.cell? ⟨mb, 2, none⟩ = some (.slice B3 n.ts.length d3) := hMb.cell 2
    have tl := hMa.lt
    have ul := hMb.lt
    clear hMa hMb
    go_wp2
    go_loopw [10] (fun iv wz => Below W.heap.size W wz ∧ Below W6.heap.size W6 wz ∧ ∃ (v : Nat), iv = .int .i64 (v : Int) ∧ v ≤ 4) (fun iv _ => 4 - (intOf iv).toNat)
    case atStart => exact ⟨hB6, Below.refl _ _, 0, rfl, by omega⟩
    case round =>
      obtain ⟨hBz, hbz, v, rfl, hv⟩ := hrel
      rename World => wz
      have t0' := (hbz.cell (p := ⟨ma, 0, none⟩) tl).trans t0
      have u0' := (hbz.cell (p := ⟨mb, 0, none⟩) ul).trans u0
      have t2' := (hbz.cell (p := ⟨ma, 2, none⟩) tl).trans t2
      have u2' := (hbz.cell (p := ⟨mb, 2, none⟩) ul).trans u2
      have tl' := Nat.lt_of_lt_of_le tl hbz.size
      have ul' := Nat.lt_of_lt_of_le ul hbz.size
      clear t0 u0 t2 u2 tl ul hB6
      by_cases hvl : v < 4
      · obtain ⟨b1, o1, rfl, hb1, hc1⟩ := (hLa.below hbz) (by omega)
        obtain ⟨r1, r2, r3⟩ := hc1 v (by omega)
        obtain ⟨b2, o2, rfl, hb2, hc2⟩ := (hLb.below hbz) (by omega)
        obtain ⟨x1, x2, x3⟩ := hc2 v (by omega)
        rw [vA.out v hvl] at r1 r2 r3
        rw [vB.out v hvl] at x1 x2 x3
        have hj : cn4 v < 16 := by unfold cn4; split; omega; split; omega; split <;> omega
        obtain ⟨y1, y2, y3⟩ := (hP0.below hbz).pt hj
        rw [Nat.zero_add] at y1 y2 y3
        have g1 : wz.cell? ⟨gb, v, none⟩ = some (.int .i64 (cn4 v : Nat)) := by
          rw [(hQ.below hbz).cell]
          rcases (by omega : v = 0 ∨ v = 1 ∨ v = 2 ∨ v = 3) with rfl | rfl | rfl | rfl <;> rfl
        have gl := (hQ.below hbz).lt
        have pl := (hP0.below hbz).1
        clear hc1 hc2
        generalize cn4 v = j at *
        generalize P.pt j = p at *
        have q0 : (0 : Int) ≤ (v : Int) := by omega
        have q1 : (v : Int) < (m.vs.length : Int) := by omega
        have q2 : (v : Int) < (n.vs.length : Int) := by omega
        have q3 : (v : Int) < 4 := by omega
        have j0 : (0 : Int) ≤ (j : Int) := by omega
        have j1 : (j : Int) < 16 := by omega
        go_upto_region 13 with (fail)
        refine wp_region_grow (by kernel_rfl) (by kernel_rfl) ?_
        repeat (go_big_quiet_step (fail))
        refine wpQuiet_nil ?_
        rintro _ ⟨xg2, rfl⟩
        have hB9 := bel_grow hBz xg2
        have hb9 := bel_grow hbz xg2
        go_wp2
        go_roundw
        case rel => exact ⟨hB9, hb9, v + 1, by go_num, by omega⟩
        case measure => simp [intOf]; omega
      · obtain rfl : v = 4 := by omega
        have k1 : (m.ts.length : Int) ≤ (n.ts.length : Int) := by omega
        go_wp2
        go_ret
        exact ⟨rfl, hBz⟩
  · obtain ⟨x, hx⟩ : ∃ x, msE P un 9 (-1) [] = x := ⟨_, rfl⟩
    rw [hx] at hz he
    have kD := dice0_no W1 P 0 0 un 9 x hx hz
    have kE := fun W' => dice0_no W' P 0 0 (un / 2) 0 x he hz
    clear hx he
    go_upto_region 6 with (first | (refine getPt rfl _ rfl bp rfl P hP0 ?_; simp only [Act.put, List.setIfInBounds_toArray, List.set_cons_succ, List.set_cons_zero]) | (go_at_call 11; (with_reducible refine kD.mono ?_); rintro e W2 ⟨rfl, hb3⟩) | (refine putM rfl _ _ rfl _ _ _ _ rfl rfl ⟨rfl, rfl, rfl⟩ _ rfl (Blk.new _ _ _ _ rfl) ?_; simp only [Act.put, List.setIfInBounds_toArray, List.set_cons_succ, List.set_cons_zero]) | fail)
    have hb4 : Below W2.heap.size W2 ((W2.alloc (.cells #[.slice none 0 0, .slice none 0 0, .slice none 0 0] 38)).setRow W2.heap.size #[.slice none 0 0, .slice none 0 0, .slice none 0 0]) := bel_setRow (bel_alloc (Below.refl _ _) _) (Nat.le_refl _) _
    have hMa : Blk ((W2.alloc (.cells #[.slice none 0 0, .slice none 0 0, .slice none 0 0] 38)).setRow W2.heap.size #[.slice none 0 0, .slice none 0 0, .slice none 0 0]) W2.heap.size 38 #[.slice none 0 0, .slice none 0 0, .slice none 0 0] := (Blk.new _ _ _ _ rfl).setRow _
    have hbma := bel_trans hb3 hb4
    have hB3 := bel_trans hB1 hbma
    replace hP0 := hP0.below hbma
    have hltma : W1.heap.size ≤ W2.heap.size := hb3.size
    clear hb3 hb4 kD
    generalize ((W2.alloc (.cells #[.slice none 0 0, .slice none 0 0, .slice none 0 0] 38)).setRow W2.heap.size #[.slice none 0 0, .slice none 0 0, .slice none 0 0]) = W3 at *
    generalize W2.heap.size = ma at *
    have kF := kE W3
    go_upto_region 7 with (first | (refine getPt rfl _ rfl bp rfl P hP0 ?_; simp only [Act.put, List.setIfInBounds_toArray, List.set_cons_succ, List.set_cons_zero]) | (go_at_call 11; (with_reducible refine kF.mono ?_); rintro e W4 ⟨rfl, hb3⟩) | (refine putM rfl _ _ rfl _ _ _ _ rfl rfl ⟨rfl, rfl, rfl⟩ _ rfl (Blk.new _ _ _ _ rfl) ?_; simp only [Act.put, List.setIfInBounds_toArray, List.set_cons_succ, List.set_cons_zero]) | fail)
    have hb4 : Below W4.heap.size W4 ((W4.alloc (.cells #[.slice none 0 0, .slice none 0 0, .slice none 0 0] 38)).setRow W4.heap.size #[.slice none 0 0, .slice none 0 0, .slice none 0 0]) := bel_setRow (bel_alloc (Below.refl _ _) _) (Nat.le_refl _) _
    have hMb : Blk ((W4.alloc (.cells #[.slice none 0 0, .slice none 0 0, .slice none 0 0] 38)).setRow W4.heap.size #[.slice none 0 0, .slice none 0 0, .slice none 0 0]) W4.heap.size 38 #[.slice none 0 0, .slice none 0 0, .slice none 0 0] := (Blk.new _ _ _ _ rfl).setRow _
    have hbmb := bel_trans hb3 hb4
    have hB5 := bel_trans hB3 hbmb
    replace hMa := hMa.below hbmb
    replace hP0 := hP0.below hbmb
    have hltmb : W3.heap.size ≤ W4.heap.size := hb3.size
    clear hb3 hb4 kF
    generalize ((W4.alloc (.cells #[.slice none 0 0, .slice none 0 0, .slice none 0 0] 38)).setRow W4.heap.size #[.slice none 0 0, .slice none 0 0, .slice none 0 0]) = W5 at *
    generalize W4.heap.size = mb at *
    go_wp2
    go_ret
    exact ⟨rfl, hB5⟩

theorem own : ownKnob Try.prog.godebug = none := by kernel_rfl
set_option maxRecDepth 100000 in
theorem lifted (os : Os) (started : os.Started) (H : Type) (enc : TypeId × Value → H) :
    ReturnsInHanded {} Try.checked os 5 .any (Rows.meshSmoothSpec.pre6 enc Try.prog Try.f5 Rows.meshSmoothRow.domain false) (Rows.meshSmoothSpec.post enc Try.prog Try.f5 false true false false) := by
  refine returnsInHanded_of_change_sized (C := Try.checked) own started (by kernel_rfl) Try.func5
    (ChangeSpec.witness6 (enc := enc) (C := Try.checked) false ⟨#[], #[.agg #[.int .i64 0, .int .i64 0, .int .i64 0, .int .i64 0, .int .i64 0, .int .i64 0, .int .i64 0, .int .i64 0, .int .i64 0, .int .i64 0, .int .i64 0, .int .i64 0, .int .i64 0, .int .i64 0, .int .i64 0, .int .i64 0, .int .i64 0, .int .i64 0, .int .i64 0, .int .i64 0, .int .i64 0, .int .i64 0, .int .i64 0, .int .i64 0, .int .i64 0, .int .i64 0, .int .i64 0, .int .i64 0, .int .i64 0, .int .i64 0, .int .i64 0, .int .i64 0, .int .i64 0, .int .i64 0, .int .i64 0, .int .i64 0, .int .i64 0, .int .i64 0, .int .i64 0, .int .i64 0, .int .i64 0, .int .i64 0, .int .i64 0, .int .i64 0, .int .i64 0, .int .i64 0, .int .i64 0, .int .i64 0, .int .i64 0, .int .i64 0, .int .i64 0, .int .i64 0, .int .i64 0, .int .i64 0, .int .i64 0, .int .i64 0, .int .i64 0, .int .i64 0, .int .i64 0, .int .i64 0, .int .i64 0, .int .i64 0, .int .i64 0, .int .i64 0, .int .i64 0], .int .i64 0], []⟩ 12 (by kernel_rfl) (by kernel_rfl) (by kernel_rfl) (by kernel_rfl)) ?_
  intro W base args ds gs before hval0 hW hcnd hwt _
  have hval : ∀ (j : Nat) t v, Try.f5.params[j]? = some t → args[j]? = some v → Value.okWide Try.prog W .any base t v := hval0
  have hW' := hW
  obtain ⟨p, q, hA0, hV, rfl, hfz, hnd⟩ := hW
  have hA : DataW.TrodAll enc Try.prog W 0 (fun _ => true) true Try.f5.params.toList args.toList ds p := hA0
  rw [Try.params5] at hA hval
  obtain ⟨v0, vs0, d0, ds0, p0, q0, hargs, rfl, rfl, h0, r0⟩ := trodAll_cons hA
  obtain ⟨v1, vs1, d1, ds1, p1, q1, rfl, rfl, rfl, h1, r1⟩ := trodAll_cons r0
  obtain ⟨rfl, rfl, rfl⟩ := trodAll_nil r1
  obtain rfl : args = #[v0, v1] := by cases args; simp_all
  obtain ⟨P0, rfl, b0⟩ := open_Pch (hval 0 28 v0 rfl rfl) h0
  obtain ⟨a1, rfl, b1⟩ := open_int64 (hval 1 3 v1 rfl rfl) h1
  refine (walk W P0 b0 a1 b1).mono fun e W' ⟨he, hb⟩ => ?_
  subst he
  exact ⟨_, rfl, law_post (tb := 4) (by kernel_rfl) (by kernel_rfl) rfl rfl Try.underlying4 rfl rfl rfl hW' hb⟩

theorem over : Rows.meshSmoothRow.holds Try.pinned (OpenSpec.ofChange Rows.meshSmoothSpec) :=
  OpenClaim.holds_of_wide 5 Try.f5 rfl rfl rfl rfl rfl rfl rfl ⟨rfl, rfl, rfl, rfl, rfl⟩ rfl rfl rfl rfl rfl (by kernel_rfl) Try.func5 (by kernel_rfl)
    (of_decide_eq_true (by kernel_rfl)) (by unfold Func.isWrapper; first | (rw [if_pos (by decide +kernel)]; kernel_rfl) | (rw [if_neg (by decide +kernel)]; exact ⟨rfl, rfl⟩))
    (fun os started H enc _ => lifted os started H enc)

theorem proved : Rows.MeshSmoothSaid :=
  over
#print axioms proved
end Go.Proofs.Ytpaehkjnefgaiaa.meshSmooth
