/- SubFlat holds for every input: the row, out of the walk. No condition. -/
import Derived.SizedLaws
import Derived.Test.YthpdplpjpopenaaRows
import Derived.Test.YthpdplpjpopenaaOpenL
import Derived.Test.YthpdplpjpopenaaFlatL
import Derived.Test.YthpdplpjpopenaaC2
import Derived.Test.YthpdplpjpopenaaC13
namespace Go.Proofs.Ythpdplpjpopenaa.subFlat
open Go.ChangeShapes Go.WideShapes Go.ChangeAt Go.RowKit
set_option linter.unusedVariables false
set_option linter.unusedSimpArgs false
set_option linter.unnecessarySimpa false
set_option maxRecDepth 100000
set_option maxHeartbeats 8000000 in
theorem walk (W : World) (c : Cg) (A1 A2 A3 : Option Addr) (k1 k2 k3 : Nat) (hc : RawC W c A1 A2 A3) (hsl : SL A1 c.vs.length k1 ∧ SL A3 c.ks.length k3) (b : P3) (hb3 : I3 b) :
    Calls Try.prog 6 #[.agg #[.slice A1 c.vs.length k1, .slice A2 c.fs.length k2, .slice A3 c.ks.length k3], .agg #[.int .i64 b.x, .int .i64 b.y, .int .i64 b.z]] W fun e W' => e = .returned (.bool true) ∧ Below W.heap.size W W' := by
  obtain ⟨vs, fs, ks⟩ := c
  obtain ⟨l1, l2, l3, i1, i2, i3, v1, v2, v3⟩ := hc
  simp only at l1 l2 l3 i1 i2 i3 v1 v2 v3 hsl ⊢
  obtain ⟨hs1, hs3⟩ := hsl
  obtain ⟨hx, hi⟩ := row_lens i2
  rw [reach_num] at l1 l2 l3
  have cG := fun (W1 : World) (hb : Below W.heap.size W W1) => great9_any W1 A1 A2 A3 vs.length ks.length k1 k2 k3 fs (v2.below hb) (by omega) (by omega) (by omega) hx
  have kW := vWithin_any b.x b.y b.z 16384 (by omega)
  have hb0 : Below W.heap.size W ((W.alloc (.cells #[.slice A1 vs.length k1, .slice A2 fs.length k2, .slice A3 ks.length k3] 26)).alloc (.cells #[.int .i64 b.x, .int .i64 b.y, .int .i64 b.z] 40)) := bel_alloc (bel_alloc (Below.refl _ _) _) _
  have hC0 : Blk ((W.alloc (.cells #[.slice A1 vs.length k1, .slice A2 fs.length k2, .slice A3 ks.length k3] 26)).alloc (.cells #[.int .i64 b.x, .int .i64 b.y, .int .i64 b.z] 40)) W.heap.size 26 #[.slice A1 vs.length k1, .slice A2 fs.length k2, .slice A3 ks.length k3] := (Blk.new _ _ _ _ rfl).alloc _
  have hY0 : Blk ((W.alloc (.cells #[.slice A1 vs.length k1, .slice A2 fs.length k2, .slice A3 ks.length k3] 26)).alloc (.cells #[.int .i64 b.x, .int .i64 b.y, .int .i64 b.z] 40)) (W.heap.size + 1) 40 #[.int .i64 b.x, .int .i64 b.y, .int .i64 b.z] := Blk.new _ _ _ _ (by simp)
  replace hs1 := Lib.hid hs1
  replace hs3 := Lib.hid hs3
  go_enter Try.func6, Try.ntmps6
  go_upto_region 1 with (fail)
  generalize (W.alloc (.cells #[.slice A1 vs.length k1, .slice A2 fs.length k2, .slice A3 ks.length k3] 26)).alloc (.cells #[.int .i64 b.x, .int .i64 b.y, .int .i64 b.z] 40) = W0 at *
  go_upto_region 3 with (first | (go_at_call 13; (with_reducible refine (alive9_any _).mono ?_); rintro e W1 ⟨rfl, hb1⟩) | fail)
  have hB1 := bel_trans hb0 hb1
  have hC1 := hC0.below hb1
  have hY1 := hY0.below hb1
  have x0 : W1.cell? ⟨W.heap.size, 0, none⟩ = some (.slice A1 vs.length k1) := hC1.cell 0
  have x1 : W1.cell? ⟨W.heap.size, 1, none⟩ = some (.slice A2 fs.length k2) := hC1.cell 1
  have x2 : W1.cell? ⟨W.heap.size, 2, none⟩ = some (.slice A3 ks.length k3) := hC1.cell 2
  have xl := hC1.lt
  have y0 : W1.cell? ⟨W.heap.size + 1, 0, none⟩ = some (.int .i64 b.x) := hY1.cell 0
  have y1 : W1.cell? ⟨W.heap.size + 1, 1, none⟩ = some (.int .i64 b.y) := hY1.cell 1
  have y2 : W1.cell? ⟨W.heap.size + 1, 2, none⟩ = some (.int .i64 b.z) := hY1.cell 2
  have yl := hY1.lt
  have cG1 := cG W1 hB1
  clear hb0 hC0 hY0 hb1 cG
  have hwb : wiB b.x b.y b.z 16384 = true ∨ wiB b.x b.y b.z 16384 = false := by cases wiB b.x b.y b.z 16384 <;> simp
  obtain ⟨wb, hwbe⟩ : ∃ wb, wiB b.x b.y b.z 16384 = wb := ⟨_, rfl⟩
  rw [hwbe] at kW hwb
  replace hwbe := Lib.hid hwbe
  rcases hwb with rfl | rfl
  rotate_left
  · go_upto_region 5 with (first | (go_at_call 14; (with_reducible refine cG1.mono ?_); rintro e W2 ⟨bb, rfl, hb2, hgr⟩; have hB2 := bel_trans hB1 hb2; have y0' := (hb2.cell (p := ⟨W.heap.size + 1, 0, none⟩) yl).trans y0; have y1' := (hb2.cell (p := ⟨W.heap.size + 1, 1, none⟩) yl).trans y1; have y2' := (hb2.cell (p := ⟨W.heap.size + 1, 2, none⟩) yl).trans y2; have yl' := Nat.lt_of_lt_of_le yl hb2.size; clear hgr hb2 hB1 x0 x1 x2 xl y0 y1 y2 yl hC1 hY1; cases bb) | (go_at_call 23; (with_reducible refine (kW.at_ _).mono ?_); rintro e W3 ⟨rfl, xg, rfl⟩) | fail)
    all_goals
      go_ret
      exact ⟨rfl, by first | exact hB2 | exact bel_grow hB2 _⟩
  go_upto_region 5 with (first | (go_at_call 14; (with_reducible refine cG1.mono ?_); rintro e W2 ⟨bb, rfl, hb2, hgr⟩; have hB2 := bel_trans hB1 hb2; have y0' := (hb2.cell (p := ⟨W.heap.size + 1, 0, none⟩) yl).trans y0; have y1' := (hb2.cell (p := ⟨W.heap.size + 1, 1, none⟩) yl).trans y1; have y2' := (hb2.cell (p := ⟨W.heap.size + 1, 2, none⟩) yl).trans y2; have yl' := Nat.lt_of_lt_of_le yl hb2.size; replace hgr := Lib.hid hgr; have hC2 := hC1.below hb2; have hY2 := hY1.below hb2; clear hb2 hB1 x0 x1 x2 xl y0 y1 y2 yl hC1 hY1; cases bb) | (go_at_call 23; (with_reducible refine (kW.at_ _).mono ?_); rintro e W3 ⟨rfl, xg, rfl⟩) | fail)
  rotate_left
  · go_ret
    exact ⟨rfl, by first | exact hB2 | exact bel_grow hB2 _⟩
  obtain ⟨hg1, hg2⟩ := hgr.out trivial
  have hBg := bel_grow hB2 xg
  have hCg := hC2.grow xg
  have hYg := hY2.grow xg
  clear hgr hB2 hC2 hY2 y0' y1' y2' yl' kW cG1
  generalize grow W2 xg = W2 at *
  have cC := copyC_any W2 A1 A2 A3 k1 k2 k3 vs fs ks (v1.below hBg) (v2.below hBg) (v3.below hBg) hs1.out hs3.out (by omega) (by omega) (by omega) (fun x hx1 => by have := hx x hx1; have := len_tot hx1; omega)
  have x0 : W2.cell? ⟨W.heap.size, 0, none⟩ = some (.slice A1 vs.length k1) := hCg.cell 0
  have x1 : W2.cell? ⟨W.heap.size, 1, none⟩ = some (.slice A2 fs.length k2) := hCg.cell 1
  have x2 : W2.cell? ⟨W.heap.size, 2, none⟩ = some (.slice A3 ks.length k3) := hCg.cell 2
  have xl := hCg.lt
  go_upto_region 6 with (first | (go_at_call 24; (with_reducible refine cC.mono ?_); rintro e W3 ⟨B1, B2, B3, d1, d2, d3, rfl, hb3', r1, g1, q1⟩) | fail)
  have hM4 : Blk (W3.alloc (.cells #[.slice B1 vs.length d1, .slice B2 fs.length d2, .slice B3 ks.length d3] 26)) W3.heap.size 26 #[.slice B1 vs.length d1, .slice B2 fs.length d2, .slice B3 ks.length d3] := Blk.new _ _ _ _ rfl
  have hba : Below W3.heap.size W3 (W3.alloc (.cells #[.slice B1 vs.length d1, .slice B2 fs.length d2, .slice B3 ks.length d3] 26)) := bel_alloc (Below.refl _ _) _
  have hb4 : Below W2.heap.size W2 (W3.alloc (.cells #[.slice B1 vs.length d1, .slice B2 fs.length d2, .slice B3 ks.length d3] 26)) := bel_alloc hb3' _
  replace r1 := own_lay r1 hba
  replace g1 := g1.lay hba
  replace q1 := own_lay q1 hba
  clear x0 x1 x2 xl cC hb3' hba
  generalize W3.alloc (.cells #[.slice B1 vs.length d1, .slice B2 fs.length d2, .slice B3 ks.length d3] 26) = W4 at *
  generalize W3.heap.size = M at *
  have hB4 := bel_trans hBg hb4
  have hC4 := hCg.below hb4
  have hY4 := hYg.below hb4
  have hP := hYg.lt
  have hbs := hb4.size
  have cC := copyC_any W4 A1 A2 A3 k1 k2 k3 vs fs ks (v1.below hB4) (v2.below hB4) (v3.below hB4) hs1.out hs3.out (by omega) (by omega) (by omega) (fun x hx1 => by have := hx x hx1; have := len_tot hx1; omega)
  have x0 : W4.cell? ⟨W.heap.size, 0, none⟩ = some (.slice A1 vs.length k1) := hC4.cell 0
  have x1 : W4.cell? ⟨W.heap.size, 1, none⟩ = some (.slice A2 fs.length k2) := hC4.cell 1
  have x2 : W4.cell? ⟨W.heap.size, 2, none⟩ = some (.slice A3 ks.length k3) := hC4.cell 2
  have xl := hC4.lt
  clear hBg hCg hYg hb4
  go_upto_region 7 with (first | (go_at_call 24; (with_reducible refine cC.mono ?_); rintro e W5 ⟨D1, D2, D3, e1, e2, e3, rfl, hb5', r2, g2, q2⟩) | fail)
  have hF6 : Blk (W5.alloc (.cells #[.slice D1 vs.length e1, .slice D2 fs.length e2, .slice D3 ks.length e3] 26)) W5.heap.size 26 #[.slice D1 vs.length e1, .slice D2 fs.length e2, .slice D3 ks.length e3] := Blk.new _ _ _ _ rfl
  have hba : Below W5.heap.size W5 (W5.alloc (.cells #[.slice D1 vs.length e1, .slice D2 fs.length e2, .slice D3 ks.length e3] 26)) := bel_alloc (Below.refl _ _) _
  have hb6 : Below W4.heap.size W4 (W5.alloc (.cells #[.slice D1 vs.length e1, .slice D2 fs.length e2, .slice D3 ks.length e3] 26)) := bel_alloc hb5' _
  have hK : KF W.heap.size #[.slice A1 vs.length k1, .slice A2 fs.length k2, .slice A3 ks.length k3] b M W5.heap.size B1 B2 B3 D1 D2 D3 d1 d2 d3 e1 e2 e3 vs fs ks W2.heap.size W4.heap.size 0 0 (W5.alloc (.cells #[.slice D1 vs.length e1, .slice D2 fs.length e2, .slice D3 ks.length e3] 26)) :=
    ⟨hC4.below hb6, hY4.below hb6, hM4.below hb6, hF6, by rw [rowAt_zero]; exact own_lay r1 hb6, by rw [rowAt_zero]; exact own_lay r2 hba, g1.lay hb6, g2.lay hba, own_lay q1 hb6, own_lay q2 hba, hP, hbs, fun k hk => (own_block r1 k hk).2⟩
  have hB6 := bel_trans hB4 hb6
  clear x0 x1 x2 xl cC hb5' hba hb6 hC4 hY4 hM4 hF6 r1 g1 q1 r2 g2 q2 hB4 hP hbs
  generalize W5.alloc (.cells #[.slice D1 vs.length e1, .slice D2 fs.length e2, .slice D3 ks.length e3] 26) = W6 at *
  generalize W5.heap.size = F at *
  generalize W4.heap.size = q2 at *
  generalize W2.heap.size = q1 at *
  have hbb := (wiB_iff b.x b.y b.z 16384).1 hwbe.out
  go_wp2
  go_loopw [7] (fun iv wr => ∃ i : Nat, iv = .int .i64 (i : Int) ∧ i ≤ vs.length ∧ Hid (∀ j (hj : j < vs.length), j < i → InP 32768 vs[j]) ∧ Below W.heap.size W wr ∧ KF W.heap.size #[.slice A1 vs.length k1, .slice A2 fs.length k2, .slice A3 ks.length k3] b M F B1 B2 B3 D1 D2 D3 d1 d2 d3 e1 e2 e3 vs fs ks q1 q2 i i wr) (fun iv _ => vs.length - (intOf iv).toNat)
  case atStart => exact ⟨0, rfl, by omega, Lib.hid (fun j _ h => by omega), hB6, hK⟩
  case round =>
    obtain ⟨i, rfl, hi1, hin, hBr, hK⟩ := hrel
    rename World => wr
    have x0 : wr.cell? ⟨W.heap.size, 0, none⟩ = some (.slice A1 vs.length k1) := hK.c.cell 0
    have xl := hK.c.lt
    clear hB6
    by_cases hlt : i < vs.length
    · obtain ⟨ba, oa, rfl, hba, a0, a1, a2⟩ := (v1.below hBr).at_ i hlt
      obtain ⟨p, hp⟩ : ∃ p, vs[i] = p := ⟨_, rfl⟩
      rw [hp] at a0 a1 a2
      obtain ⟨wb, hwb⟩ : ∃ wb, wiB p.x p.y p.z 32768 = wb := ⟨_, rfl⟩
      have kV := vWithin_any p.x p.y p.z 32768 (by omega)
      rw [hwb] at kV
      have q0 : (0 : Int) ≤ (i : Int) := by omega
      have q1i : (i : Int) < (vs.length : Int) := by omega
      replace hp := Lib.hid hp
      replace hwb := Lib.hid hwb
      cases wb with
      | false =>
        clear hK
        go_wp2_with (first | (go_at_call 23; ((with_reducible refine (kV.at_ _).mono ?_); rintro e w' ⟨rfl, xg, rfl⟩)))
        go_ret
        exact ⟨rfl, bel_grow hBr xg⟩
      | true =>
        have hpb := (wiB_iff p.x p.y p.z 32768).1 hwb.out
        go_upto_region 12 with (first | (go_at_call 23; ((with_reducible refine (kV.at_ _).mono ?_); rintro e w' ⟨rfl, xg, rfl⟩)) | fail)
        have hB2 := bel_grow hBr xg
        have hK2 := hK.lay (bel_grow (Below.refl _ _) xg)
        clear x0 xl a0 a1 a2 hba hK hBr kV
        generalize grow wr xg = w2 at *
        obtain ⟨g, rfl, hgl, _, hgc⟩ := own_cell hK2.r1 (by omega)
        obtain ⟨c1, c2, c3⟩ := kC_at (rowAt (movP b) i vs) i (by rw [rowAt_len]; exact hlt)
        rw [rowAt_at _ _ _ hlt, hp.out] at c1 c2 c3
        have m0 := (hgc (i * 3) (by omega)).trans c1
        have m1 := (hgc (i * 3 + 1) (by omega)).trans c2
        have m2 := (hgc (i * 3 + 2) (by omega)).trans c3
        have z0 : w2.cell? ⟨M, 0, none⟩ = some (.slice (some ⟨g, 0, none⟩) vs.length d1) := hK2.m.cell 0
        have zl := hK2.m.lt
        have y0 : w2.cell? ⟨W.heap.size + 1, 0, none⟩ = some (.int .i64 b.x) := hK2.y.cell 0
        have y1 : w2.cell? ⟨W.heap.size + 1, 1, none⟩ = some (.int .i64 b.y) := hK2.y.cell 1
        have y2 : w2.cell? ⟨W.heap.size + 1, 2, none⟩ = some (.int .i64 b.z) := hK2.y.cell 2
        have yl := hK2.y.lt
        have kA := rAdd_any p.x p.y p.z b.x b.y b.z
        rw [show wrap64 (p.x + b.x) = p.x + b.x by unfold wrap64; omega, show wrap64 (p.y + b.y) = p.y + b.y by unfold wrap64; omega, show wrap64 (p.z + b.z) = p.z + b.z by unfold wrap64; omega] at kA
        clear hgc c1 c2 c3
        refine wp_region_tail 11 ?_ (by kernel_rfl) (by kernel_rfl) (by kernel_rfl) (fun x => ?_) (fun x => ?_)
        rotate_left
        · simp only [List.take_succ_cons, List.take_zero]
          repeat (go_big_quiet_step (((first | with_reducible exact kA.quiet _ | with_reducible exact kA.quiet2 _ _))))
          refine wpQuiet_nil ?_
          exact rfl
        simp only [List.drop_succ_cons, List.drop_zero]
        try simp only [Act.put, List.setIfInBounds_toArray, List.set_cons_succ, List.set_cons_zero]
        have hB4 := bel_grow hB2 x
        have hK4 := hK2.lay (bel_grow (Below.refl _ _) x)
        clear m0 m1 m2 z0 zl y0 y1 y2 yl hgl hB2 hK2 kA
        generalize grow w2 x = w4 at *
        obtain ⟨hqg, cur, hcur⟩ := own_blk hK4.r1 (g := g) rfl
        obtain ⟨g', eg, hgl, _, hgc⟩ := own_cell hK4.r1 (by omega)
        obtain rfl : g = g' := by simpa using eg
        obtain ⟨c1, c2, c3⟩ := kC_at (rowAt (movP b) i vs) i (by rw [rowAt_len]; exact hlt)
        have m0 := (hgc (i * 3) (by omega)).trans c1
        have m1 := (hgc (i * 3 + 1) (by omega)).trans c2
        have m2 := (hgc (i * 3 + 2) (by omega)).trans c3
        have f0 := hcur.frozen (i * 3)
        have f1 := hcur.frozen (i * 3 + 1)
        have f2 := hcur.frozen (i * 3 + 2)
        generalize (rowAt (movP b) i vs)[i]'(by rw [rowAt_len]; exact hlt) = pp at m0 m1 m2
        have hlt1 := hK4.lt1
        have hK5 := hK4.step1 rfl hlt p hp.out
        have hB5 := bel_set (bel_set (bel_set hB4 (p := ⟨g, i * 3, none⟩) (by simp; omega) (.int .i64 (p.x + b.x))) (p := ⟨g, i * 3 + 1, none⟩) (by simp; omega) (.int .i64 (p.y + b.y))) (p := ⟨g, i * 3 + 2, none⟩) (by simp; omega) (.int .i64 (p.z + b.z))
        clear hcur hgc c1 c2 c3 eg hK4 hB4
        go_upto_region 13 with (fail)
        generalize ((w4.setCell ⟨g, i * 3, none⟩ (.int .i64 (p.x + b.x))).setCell ⟨g, i * 3 + 1, none⟩ (.int .i64 (p.y + b.y))).setCell ⟨g, i * 3 + 2, none⟩ (.int .i64 (p.z + b.z)) = w5 at *
        obtain ⟨h', rfl, hhl, _, hhc⟩ := own_cell hK5.r2 (by omega)
        obtain ⟨hq2, cur2, hcur2⟩ := own_blk hK5.r2 (g := h') rfl
        obtain ⟨c1, c2, c3⟩ := kC_at (rowAt (flaP b) i vs) i (by rw [rowAt_len]; exact hlt)
        have n1 := (hhc (i * 3 + 1) (by omega)).trans c2
        have f1' := hcur2.frozen (i * 3 + 1)
        generalize (rowAt (flaP b) i vs)[i]'(by rw [rowAt_len]; exact hlt) = pf at n1
        have z0 : w5.cell? ⟨F, 0, none⟩ = some (.slice (some ⟨h', 0, none⟩) vs.length e1) := hK5.f.cell 0
        have zl := hK5.f.lt
        have y1 : w5.cell? ⟨W.heap.size + 1, 1, none⟩ = some (.int .i64 b.y) := hK5.y.cell 1
        have yl := hK5.y.lt
        have hlt2 := hK5.lt2
        have hK6 := hK5.step2 rfl hlt
        have hB6 := bel_set hB5 (p := ⟨h', i * 3 + 1, none⟩) (by simp; omega) (.int .i64 b.y)
        have hin2 : Hid (∀ j (hj : j < vs.length), j < i + 1 → InP 32768 vs[j]) := Lib.hid (fun j hj h => by
          by_cases e : j < i
          · exact hin.out j hj e
          · obtain rfl : j = i := by omega
            rw [hp.out]; exact ⟨hpb.2.1, hpb.2.2.1, hpb.2.2.2⟩)
        clear hcur2 hhc c1 c2 c3 hK5 hB5 m0 m1 m2 f0 f1 f2 hgl hqg
        go_wp2
        go_roundw
        case rel => exact ⟨i + 1, by go_num, by omega, hin2, hB6, hK6⟩
        case measure => simp [intOf]; omega
    · obtain rfl : i = vs.length := by omega
      have hall : ∀ p ∈ vs, InP 32768 p := fun p hp => by obtain ⟨j, hj, rfl⟩ := List.getElem_of_mem hp; exact hin.out j hj hj
      have hbI : InP 16384 b := ⟨hbb.2.1, hbb.2.2.1, hbb.2.2.2⟩
      clear hin x0 xl
      replace hall := Lib.hid hall
      replace hbI := Lib.hid hbI
      have x0 : wr.cell? ⟨W.heap.size, 0, none⟩ = some (.slice A1 vs.length k1) := hK.c.cell 0
      have x1 : wr.cell? ⟨W.heap.size, 1, none⟩ = some (.slice A2 fs.length k2) := hK.c.cell 1
      have x2 : wr.cell? ⟨W.heap.size, 2, none⟩ = some (.slice A3 ks.length k3) := hK.c.cell 2
      have xl := hK.c.lt
      have cL := level_any wr ⟨vs, fs, ks⟩ A1 A2 A3 k1 k2 k3 (⟨i1, hi, i3, v1.below hBr, v2.below hBr, v3.below hBr, by simp only; omega⟩)
      simp only at cL
      go_upto_region 15 with (first | (go_at_call 15; (with_reducible refine cL.mono ?_); rintro e W7 ⟨r, R1, R2, R3, c1, c2, c3, er, rfl, hb7, h1, h2, h3, hL⟩) | fail)
      have hT1 : Blk (W7.alloc (.cells #[.slice R1 r.vs.length c1, .slice R2 r.fs.length c2, .slice R3 r.ks.length c3] 26)) W7.heap.size 26 #[.slice R1 r.vs.length c1, .slice R2 r.fs.length c2, .slice R3 r.ks.length c3] := Blk.new _ _ _ _ rfl
      have hb8 : Below wr.heap.size wr (W7.alloc (.cells #[.slice R1 r.vs.length c1, .slice R2 r.fs.length c2, .slice R3 r.ks.length c3] 26)) := bel_alloc hb7 _
      replace hK := hK.lay hb8
      replace hBr := bel_trans hBr hb8
      have u1 := h1.below (bel_alloc (Below.refl _ _) (.cells #[.slice R1 r.vs.length c1, .slice R2 r.fs.length c2, .slice R3 r.ks.length c3] 26))
      clear x0 x1 x2 xl cL h1 h2 h3 hb7 hb8
      generalize W7.alloc (.cells #[.slice R1 r.vs.length c1, .slice R2 r.fs.length c2, .slice R3 r.ks.length c3] 26) = w8 at *
      generalize W7.heap.size = T1 at *
      have x0 : w8.cell? ⟨M, 0, none⟩ = some (.slice B1 vs.length d1) := hK.m.cell 0
      have x1 : w8.cell? ⟨M, 1, none⟩ = some (.slice B2 fs.length d2) := hK.m.cell 1
      have x2 : w8.cell? ⟨M, 2, none⟩ = some (.slice B3 ks.length d3) := hK.m.cell 2
      have xl := hK.m.lt
      have cL := level_any w8 ⟨vs.map (movP b), fs, ks⟩ B1 B2 B3 d1 d2 d3 (hK.cg1 hall.out hbI.out hi i3 (by omega))
      simp only [List.length_map] at cL
      go_upto_region 16 with (first | (go_at_call 15; (with_reducible refine cL.mono ?_); rintro e W9 ⟨r2, S1, S2, S3, f1, f2, f3, er2, rfl, hb7, h1, h2, h3, hL2⟩) | fail)
      have hT2 : Blk (W9.alloc (.cells #[.slice S1 r2.vs.length f1, .slice S2 r2.fs.length f2, .slice S3 r2.ks.length f3] 26)) W9.heap.size 26 #[.slice S1 r2.vs.length f1, .slice S2 r2.fs.length f2, .slice S3 r2.ks.length f3] := Blk.new _ _ _ _ rfl
      have hb8 : Below w8.heap.size w8 (W9.alloc (.cells #[.slice S1 r2.vs.length f1, .slice S2 r2.fs.length f2, .slice S3 r2.ks.length f3] 26)) := bel_alloc hb7 _
      replace hK := hK.lay hb8
      replace hBr := bel_trans hBr hb8
      have u2 := h1.below (bel_alloc (Below.refl _ _) (.cells #[.slice S1 r2.vs.length f1, .slice S2 r2.fs.length f2, .slice S3 r2.ks.length f3] 26))
      replace hT1 := hT1.below hb8
      replace u1 := u1.below hb8
      clear x0 x1 x2 xl cL h1 h2 h3 hb7 hb8
      generalize W9.alloc (.cells #[.slice S1 r2.vs.length f1, .slice S2 r2.fs.length f2, .slice S3 r2.ks.length f3] 26) = w10 at *
      generalize W9.heap.size = T2 at *
      have x0 : w10.cell? ⟨F, 0, none⟩ = some (.slice D1 vs.length e1) := hK.f.cell 0
      have x1 : w10.cell? ⟨F, 1, none⟩ = some (.slice D2 fs.length e2) := hK.f.cell 1
      have x2 : w10.cell? ⟨F, 2, none⟩ = some (.slice D3 ks.length e3) := hK.f.cell 2
      have xl := hK.f.lt
      have cL := level_any w10 ⟨vs.map (flaP b), fs, ks⟩ D1 D2 D3 e1 e2 e3 (hK.cg2 hall.out hbI.out hi i3 (by omega))
      simp only [List.length_map] at cL
      go_upto_region 17 with (first | (go_at_call 15; (with_reducible refine cL.mono ?_); rintro e W11 ⟨r3, U1, U2, U3, o1, o2, o3, er3, rfl, hb7, h1, h2, h3, hL3⟩) | fail)
      have hT3 : Blk (W11.alloc (.cells #[.slice U1 r3.vs.length o1, .slice U2 r3.fs.length o2, .slice U3 r3.ks.length o3] 26)) W11.heap.size 26 #[.slice U1 r3.vs.length o1, .slice U2 r3.fs.length o2, .slice U3 r3.ks.length o3] := Blk.new _ _ _ _ rfl
      have hb8 : Below w10.heap.size w10 (W11.alloc (.cells #[.slice U1 r3.vs.length o1, .slice U2 r3.fs.length o2, .slice U3 r3.ks.length o3] 26)) := bel_alloc hb7 _
      replace hK := hK.lay hb8
      replace hBr := bel_trans hBr hb8
      have u3 := h1.below (bel_alloc (Below.refl _ _) (.cells #[.slice U1 r3.vs.length o1, .slice U2 r3.fs.length o2, .slice U3 r3.ks.length o3] 26))
      replace hT1 := hT1.below hb8
      replace u1 := u1.below hb8
      replace hT2 := hT2.below hb8
      replace u2 := u2.below hb8
      clear x0 x1 x2 xl cL h1 h2 h3 hb7 hb8
      generalize W11.alloc (.cells #[.slice U1 r3.vs.length o1, .slice U2 r3.fs.length o2, .slice U3 r3.ks.length o3] 26) = w12 at *
      generalize W11.heap.size = T3 at *
      have hfe := flat_eq (by omega) hall.out hbI.out hL hL2 hL3
      obtain ⟨rfl, rfl, n2, n3, hle, hat⟩ := hfe
      rw [n2] at hT2
      rw [n3] at hT3
      generalize r.vs = ra at *
      generalize r2.vs = rb at *
      generalize r3.vs = rc at *
      replace n2 := Lib.hid n2
      replace n3 := Lib.hid n3
      replace hat := Lib.hid hat
      have t1 : w12.cell? ⟨T1, 0, none⟩ = some (.slice R1 ra.length c1) := hT1.cell 0
      have t1l := hT1.lt
      have t2 : w12.cell? ⟨T2, 0, none⟩ = some (.slice S1 ra.length f1) := hT2.cell 0
      have t2l := hT2.lt
      have t3 : w12.cell? ⟨T3, 0, none⟩ = some (.slice U1 ra.length o1) := hT3.cell 0
      have t3l := hT3.lt
      have y0 : w12.cell? ⟨W.heap.size + 1, 0, none⟩ = some (.int .i64 b.x) := hK.y.cell 0
      have y1 : w12.cell? ⟨W.heap.size + 1, 1, none⟩ = some (.int .i64 b.y) := hK.y.cell 1
      have y2 : w12.cell? ⟨W.heap.size + 1, 2, none⟩ = some (.int .i64 b.z) := hK.y.cell 2
      have yl := hK.y.lt
      clear hT1 hT2 hT3 hK hL hL2 hL3
      have q6 : (er3 != er3) = false := by simp
      have q7 : (((ra.length : Nat) : Int) != ((ra.length : Nat) : Int)) = false := by simp
      go_wp2
      go_loopw [14] (fun iv wz => Below W.heap.size W wz ∧ Below w12.heap.size w12 wz ∧ ∃ v : Nat, iv = .int .i64 (v : Int) ∧ v ≤ ra.length) (fun iv _ => ra.length - (intOf iv).toNat)
      case atStart => exact ⟨hBr, Below.refl _ _, 0, rfl, by omega⟩
      case round =>
        obtain ⟨hBz, hbz, v, rfl, hv⟩ := hrel
        rename World => wz
        have t1' := (hbz.cell (p := ⟨T1, 0, none⟩) t1l).trans t1
        have t2' := (hbz.cell (p := ⟨T2, 0, none⟩) t2l).trans t2
        have t3' := (hbz.cell (p := ⟨T3, 0, none⟩) t3l).trans t3
        have y0' := (hbz.cell (p := ⟨W.heap.size + 1, 0, none⟩) yl).trans y0
        have y1' := (hbz.cell (p := ⟨W.heap.size + 1, 1, none⟩) yl).trans y1
        have y2' := (hbz.cell (p := ⟨W.heap.size + 1, 2, none⟩) yl).trans y2
        have t1l' := Nat.lt_of_lt_of_le t1l hbz.size
        have t2l' := Nat.lt_of_lt_of_le t2l hbz.size
        have t3l' := Nat.lt_of_lt_of_le t3l hbz.size
        have yl' := Nat.lt_of_lt_of_le yl hbz.size
        have v1' := u1.below hbz
        have v2' := u2.below hbz
        have v3' := u3.below hbz
        clear t1 t2 t3 y0 y1 y2 t1l t2l t3l yl hBr
        by_cases hvl : v < ra.length
        · have hv2 : v < rb.length := by rw [n2.out]; exact hvl
          have hv3 : v < rc.length := by rw [n3.out]; exact hvl
          obtain ⟨p1, p2, p3⟩ := hat.out v hvl hv2 hv3
          obtain ⟨ba, oa, rfl, hba, a0, a1, a2⟩ := v1'.at_ v hvl
          obtain ⟨bb, ob, rfl, hbb2, b0, b1, b2⟩ := v2'.at_ v hv2
          obtain ⟨bc, oc, rfl, hbc, c0, c1', c2⟩ := v3'.at_ v hv3
          rw [p2] at b0 b1 b2
          rw [p3] at c1'
          simp only [movP] at b0 b1 b2
          obtain ⟨px, py, pz⟩ := p1
          have hbo := hbI.out
          obtain ⟨qx, qy, qz⟩ := hbo
          have kA := rAdd_any ra[v].x ra[v].y ra[v].z b.x b.y b.z
          rw [show wrap64 (ra[v].x + b.x) = ra[v].x + b.x by unfold wrap64; omega, show wrap64 (ra[v].y + b.y) = ra[v].y + b.y by unfold wrap64; omega, show wrap64 (ra[v].z + b.z) = ra[v].z + b.z by unfold wrap64; omega] at kA
          clear p2 p3 px py pz qx qy qz c0 c2
          generalize ra[v] = p at *
          have q0 : (0 : Int) ≤ (v : Int) := by omega
          have q1v : (v : Int) < (ra.length : Int) := by omega
          have q8 : (b.y != b.y) = false := by simp
          go_upto_region 22 with (fail)
          refine wp_region_grow (by kernel_rfl) (by kernel_rfl) ?_
          repeat (go_big_quiet_step ((first | with_reducible exact kA.quiet _ | with_reducible exact kA.quiet2 _ _)))
          refine wpQuiet_nil ?_
          rintro _ ⟨xg2, rfl⟩
          have hB9 := bel_grow hBz xg2
          have hb9 := bel_grow hbz xg2
          go_wp2
          go_roundw
          case rel => exact ⟨hB9, hb9, v + 1, by go_num, by omega⟩
          case measure => simp [intOf]; omega
        · obtain rfl : v = ra.length := by omega
          go_wp2
          go_ret
          exact ⟨rfl, hBz⟩

theorem own : ownKnob Try.prog.godebug = none := by kernel_rfl
set_option maxRecDepth 100000 in
theorem lifted (os : Os) (started : os.Started) (H : Type) (enc : TypeId × Value → H) :
    ReturnsInHanded {} Try.checked os 6 .any (Rows.subFlatSpec.pre6 enc Try.prog Try.f6 Rows.subFlatRow.domain false) (Rows.subFlatSpec.post enc Try.prog Try.f6 false true false false) := by
  refine returnsInHanded_of_change_sized (C := Try.checked) own started (by kernel_rfl) Try.func6
    (ChangeSpec.witness6 (enc := enc) (C := Try.checked) false ⟨#[], #[.agg #[.slice none 0 0, .slice none 0 0, .slice none 0 0], .agg #[.int .i64 0, .int .i64 0, .int .i64 0]], []⟩ 12 (by kernel_rfl) (by kernel_rfl) (by kernel_rfl) (by kernel_rfl)) ?_
  intro W base args ds gs before hval0 hW hcnd hwt _
  have hval : ∀ (j : Nat) t v, Try.f6.params[j]? = some t → args[j]? = some v → Value.okWide Try.prog W .any base t v := hval0
  have hW' := hW
  obtain ⟨p, q, hA0, hV, rfl, hfz, hnd⟩ := hW
  have hA : DataW.TrodAll enc Try.prog W 0 (fun _ => true) true Try.f6.params.toList args.toList ds p := hA0
  rw [Try.params6] at hA hval
  obtain ⟨v0, vs0, d0, ds0, p0, q0, hargs, rfl, rfl, h0, r0⟩ := trodAll_cons hA
  obtain ⟨v1, vs1, d1, ds1, p1, q1, rfl, rfl, rfl, h1, r1⟩ := trodAll_cons r0
  obtain ⟨rfl, rfl, rfl⟩ := trodAll_nil r1
  obtain rfl : args = #[v0, v1] := by cases args; simp_all
  obtain ⟨cs0, rfl, hsz0⟩ := okWide_struct Try.underlying26 (hval 0 26 v0 rfl rfl)
  rw [szCg] at hsz0
  have hTW0 : TW enc Try.prog W 0 (fun _ => true) true 26 cs0.toList := by
    obtain ⟨fu, hfu⟩ := h0
    refine ⟨fu, _, hfu, fun n hn => ?_⟩
    have := List.all_eq_true.1 hwt n (DataW.weights_mem_each (j := 0) (t := 26) (d := d0) (by rw [Try.params6]; rfl) (by rfl) n hn)
    simpa using this
  obtain ⟨c0, A01, A02, A03, k01, k02, k03, ecs0, hraw0⟩ := open_Cage (by simpa using hsz0) hTW0
  have hcap0 : SL A01 c0.vs.length k01 ∧ SL A03 c0.ks.length k03 := by have h := hTW0; rw [ecs0] at h; exact cage_sl h
  obtain rfl : cs0 = #[.slice A01 c0.vs.length k01, .slice A02 c0.fs.length k02, .slice A03 c0.ks.length k03] := Array.ext' ecs0
  clear hTW0
  obtain ⟨a1, rfl, k1⟩ := open_P (hval 1 40 v1 rfl rfl) h1
  refine (walk W c0 A01 A02 A03 k01 k02 k03 hraw0 hcap0 a1 k1).mono fun e W' ⟨he, hb⟩ => ?_
  subst he
  exact ⟨_, rfl, law_post (tb := 4) (by kernel_rfl) (by kernel_rfl) rfl rfl Try.underlying4 rfl rfl rfl hW' hb⟩

theorem over : Rows.subFlatRow.holds Try.pinned (OpenSpec.ofChange Rows.subFlatSpec) :=
  OpenClaim.holds_of_wide 6 Try.f6 rfl rfl rfl rfl rfl rfl rfl ⟨rfl, rfl, rfl, rfl, rfl⟩ rfl rfl rfl rfl rfl (by kernel_rfl) Try.func6 (by kernel_rfl)
    (of_decide_eq_true (by kernel_rfl)) (by unfold Func.isWrapper; first | (rw [if_pos (by decide +kernel)]; kernel_rfl) | (rw [if_neg (by decide +kernel)]; exact ⟨rfl, rfl⟩))
    (fun os started H enc _ => lifted os started H enc)

theorem proved : Rows.SubFlatSaid :=
  over
#print axioms proved
end Go.Proofs.Ythpdplpjpopenaa.subFlat
