/- SubTurned holds for every input: the row, out of the walk. No condition. -/
import Derived.SizedLaws
import Derived.Test.YtiaikceoodeboaaRows
import Derived.Test.YtiaikceoodeboaaC2
import Derived.Test.YtiaikceoodeboaaC13
import Derived.Test.YtiaikceoodeboaaC14
import Derived.Test.YtiaikceoodeboaaC15
namespace Go.Proofs.Ytiaikceoodeboaa.subTurned
open Go.ChangeShapes Go.WideShapes Go.ChangeAt Go.RowKit
set_option linter.unusedVariables false
set_option linter.unusedSimpArgs false
theorem rest_le (N : Int) : ∀ (L : List (Ed × Int)) (k : Nat), (restP N k L).length ≤ 2 * L.length
  | [], _ => by simp [restP]
  | p :: r, k => by
    have ih := rest_le N r (k + 1)
    rw [restP, List.length_append, List.length_cons]
    cases lessS p.1 p.2 <;> simp <;> omega
theorem turn_sz {vs : List P3} {fs : List (List Int)} {ks : List P3} {r : Cg} {er : Int} (h : LevR ⟨vs, fs, ks⟩ r er) (few : vs.length + fs.length + tot fs ≤ 1000) : r.vs.length ≤ 3000 ∧ r.ks.length ≤ 3000 := by
  cases h with
  | noSurf hn => exact ⟨by simp [Cg0], by simp [Cg0]⟩
  | noEdge t hT he => exact ⟨by simp [Cg0], by simp [Cg0]⟩
  | large t hT sh he hf => exact ⟨by simp [Cg0], by simp [Cg0]⟩
  | fine t hT sh he hf =>
    simp only at hT
    have hel : t.es.length ≤ tot fs := by have h1 := edges_le hT.walk hT.edges; rw [waysL_len] at h1; exact h1
    refine ⟨?_, ?_⟩
    · simp only [levC, List.length_append, movedL_len, halvesL_len, midsL_len]; omega
    · have := rest_le (vs.length : Int) (t.es.zip sh) 0
      rw [List.length_zip] at this
      simp only [levC]; omega
set_option linter.unnecessarySimpa false
set_option maxRecDepth 100000
set_option maxHeartbeats 8000000 in
theorem walk (W : World) (c : Cg) (A1 A2 A3 : Option Addr) (k1 k2 k3 : Nat) (hc : RawC W c A1 A2 A3) (hsl : SL A1 c.vs.length k1 ∧ SL A3 c.ks.length k3) :
    Calls Try.prog 4 #[.agg #[.slice A1 c.vs.length k1, .slice A2 c.fs.length k2, .slice A3 c.ks.length k3]] W fun e W' => e = .returned (.bool true) ∧ Below W.heap.size W W' := by
  obtain ⟨vs, fs, ks⟩ := c
  obtain ⟨l1, l2, l3, i1, i2, i3, v1, v2, v3⟩ := hc
  simp only at l1 l2 l3 i1 i2 i3 v1 v2 v3 hsl ⊢
  obtain ⟨hs1, hs3⟩ := hsl
  obtain ⟨hx, hi⟩ := row_lens i2
  rw [reach_num] at l1 l2 l3
  have cG := fun (W1 : World) (hb : Below W.heap.size W W1) => great9_any W1 A1 A2 A3 vs.length ks.length k1 k2 k3 fs (v2.below hb) (by omega) (by omega) (by omega) hx
  have hb0 : Below W.heap.size W (W.alloc (.cells #[.slice A1 vs.length k1, .slice A2 fs.length k2, .slice A3 ks.length k3] 26)) := bel_alloc (Below.refl _ _) _
  have hC0 : Blk (W.alloc (.cells #[.slice A1 vs.length k1, .slice A2 fs.length k2, .slice A3 ks.length k3] 26)) W.heap.size 26 #[.slice A1 vs.length k1, .slice A2 fs.length k2, .slice A3 ks.length k3] := Blk.new _ _ _ _ rfl
  replace hs1 := Lib.hid hs1
  replace hs3 := Lib.hid hs3
  go_enter Try.func4, Try.ntmps4
  go_upto_region 1 with (fail)
  generalize W.alloc (.cells #[.slice A1 vs.length k1, .slice A2 fs.length k2, .slice A3 ks.length k3] 26) = W0 at *
  go_upto_region 3 with (first | (go_at_call 10; (with_reducible refine (alive9_any _).mono ?_); rintro e W1 ⟨rfl, hb1⟩) | fail)
  have hB1 := bel_trans hb0 hb1
  have hC1 := hC0.below hb1
  have x0 : W1.cell? ⟨W.heap.size, 0, none⟩ = some (.slice A1 vs.length k1) := hC1.cell 0
  have x1 : W1.cell? ⟨W.heap.size, 1, none⟩ = some (.slice A2 fs.length k2) := hC1.cell 1
  have x2 : W1.cell? ⟨W.heap.size, 2, none⟩ = some (.slice A3 ks.length k3) := hC1.cell 2
  have xl := hC1.lt
  have cG1 := cG W1 hB1
  clear hb0 hC0 hb1 cG
  go_upto_region 5 with (first | (go_at_call 11; (with_reducible refine cG1.mono ?_); rintro e W2 ⟨bb, rfl, hb2, hgr⟩; have hB2 := bel_trans hB1 hb2; have hC2 := hC1.below hb2; replace hgr := Lib.hid hgr; cases bb) | fail)
  rotate_left
  · go_ret
    exact ⟨rfl, hB2⟩
  obtain ⟨hg1, hg2⟩ := hgr.out trivial
  clear x0 x1 x2 xl hgr cG1 hC1 hB1 hb2
  have cC := copyD_any W2 A1 A2 A3 k1 k2 k3 vs fs ks (v1.below hB2) (v2.below hB2) (v3.below hB2) hs1.out hs3.out (by omega) (by omega) (by omega) (fun x hx1 => by have := hx x hx1; have := len_tot hx1; omega)
  have x0 : W2.cell? ⟨W.heap.size, 0, none⟩ = some (.slice A1 vs.length k1) := hC2.cell 0
  have x1 : W2.cell? ⟨W.heap.size, 1, none⟩ = some (.slice A2 fs.length k2) := hC2.cell 1
  have x2 : W2.cell? ⟨W.heap.size, 2, none⟩ = some (.slice A3 ks.length k3) := hC2.cell 2
  have xl := hC2.lt
  go_upto_region 6 with (first | (go_at_call 18; (with_reducible refine cC.mono ?_); rintro e W3 ⟨B1, B2, B3, d1, d2, d3, rfl, hb3', r1, g1, q1⟩) | fail)
  have hM4 : Blk (W3.alloc (.cells #[.slice B1 vs.length d1, .slice B2 fs.length d2, .slice B3 ks.length d3] 26)) W3.heap.size 26 #[.slice B1 vs.length d1, .slice B2 fs.length d2, .slice B3 ks.length d3] := Blk.new _ _ _ _ rfl
  have hba : Below W3.heap.size W3 (W3.alloc (.cells #[.slice B1 vs.length d1, .slice B2 fs.length d2, .slice B3 ks.length d3] 26)) := bel_alloc (Below.refl _ _) _
  have hb4 : Below W2.heap.size W2 (W3.alloc (.cells #[.slice B1 vs.length d1, .slice B2 fs.length d2, .slice B3 ks.length d3] 26)) := bel_alloc hb3' _
  have hK : KT W.heap.size #[.slice A1 vs.length k1, .slice A2 fs.length k2, .slice A3 ks.length k3] W3.heap.size B1 B2 B3 d1 d2 d3 vs fs ks W2.heap.size 0 0 (W3.alloc (.cells #[.slice B1 vs.length d1, .slice B2 fs.length d2, .slice B3 ks.length d3] 26)) :=
    ⟨hC2.below hb4, hM4, own_lay r1 hba, by rw [turnAt_zero]; exact g1.lay hba, own_lay q1 hba, hC2.lt⟩
  have hB4 := bel_trans hB2 hb4
  clear x0 x1 x2 xl cC hb3' hba hb4 hC2 hM4 r1 g1 q1 hB2
  generalize W3.alloc (.cells #[.slice B1 vs.length d1, .slice B2 fs.length d2, .slice B3 ks.length d3] 26) = W4 at *
  generalize W3.heap.size = M at *
  generalize W2.heap.size = qb at *
  go_wp2
  go_loopw [4] (fun iv wr => ∃ i : Nat, iv = .int .i64 (i : Int) ∧ i ≤ fs.length ∧ Below W.heap.size W wr ∧ KT W.heap.size #[.slice A1 vs.length k1, .slice A2 fs.length k2, .slice A3 ks.length k3] M B1 B2 B3 d1 d2 d3 vs fs ks qb i 0 wr) (fun iv _ => fs.length - (intOf iv).toNat)
  case atStart => exact ⟨0, rfl, by omega, hB4, hK⟩
  case round =>
    obtain ⟨i, rfl, hi1, hBr, hK⟩ := hrel
    rename World => wr
    have x1 : wr.cell? ⟨W.heap.size, 1, none⟩ = some (.slice A2 fs.length k2) := hK.c.cell 1
    have xl := hK.c.lt
    clear hB4
    by_cases hlt : i < fs.length
    · obtain ⟨ba, oa, Bf, mf, hA2, hba, hcell, hIL⟩ := v2.at_ i hlt
      obtain ⟨zr, hx1⟩ : ∃ zr, fs[i] = zr := ⟨_, rfl⟩
      rw [hx1] at hcell hIL
      have hxl : zr.length ≤ 300 := by have := len_tot (List.getElem_mem hlt); rw [hx1] at this; omega
      have hcr := (hBr.cell (p := ⟨ba, oa + i, none⟩) hba).trans hcell
      have hbar := Nat.lt_of_lt_of_le hba hBr.size
      have q0 : (0 : Int) ≤ (i : Int) := by omega
      have q1 : (i : Int) < (fs.length : Int) := by omega
      replace hx1 := Lib.hid hx1
      replace hcell := Lib.hid hcell
      subst hA2
      go_upto_region 10 with (fail)
      clear x1 xl hcr hbar
      go_wp2
      go_loopw [6] (fun iv wq => ∃ k : Nat, iv = .int .i64 (k : Int) ∧ k ≤ zr.length ∧ Below W.heap.size W wq ∧ KT W.heap.size #[.slice A1 vs.length k1, .slice (some ⟨ba, oa, none⟩) fs.length k2, .slice A3 ks.length k3] M B1 B2 B3 d1 d2 d3 vs fs ks qb i k wq) (fun iv _ => zr.length - (intOf iv).toNat)
      case atStart => exact ⟨0, rfl, by omega, hBr, hK⟩
      case round =>
        obtain ⟨k, rfl, hk1, hBq, hKq⟩ := hrel
        rename World => wq
        clear hBr hK
        by_cases hklt : k < zr.length
        · go_upto_region 13 with (fail)
          have x1 : wq.cell? ⟨W.heap.size, 1, none⟩ = some (.slice (some ⟨ba, oa, none⟩) fs.length k2) := hKq.c.cell 1
          have xl := hKq.c.lt
          have z1 : wq.cell? ⟨M, 1, none⟩ = some (.slice B2 fs.length d2) := hKq.m.cell 1
          have zl := hKq.m.lt
          have hcr := (hBq.cell (p := ⟨ba, oa + i, none⟩) hba).trans hcell.out
          have hbar := Nat.lt_of_lt_of_le hba hBq.size
          have s0 : (0 : Int) ≤ (k : Int) := by omega
          have s1 : (k : Int) < (zr.length : Int) := by omega
          have hkl2 : zr.length - 1 - k < zr.length := by omega
          obtain ⟨bf, of, rfl, hbf, hfc⟩ := (hIL.below hBq).at_ (zr.length - 1 - k) hkl2
          obtain ⟨y, hy⟩ : ∃ y, zr[zr.length - 1 - k] = y := ⟨_, rfl⟩
          rw [hy] at hfc
          obtain ⟨vals, hV, hap⟩ := hKq.g1
          have hti : i < (turnAt i k fs).length := by rw [turnAt_len]; exact hlt
          have htl : (turnAt i k fs)[i].length = zr.length := by rw [turnAt_at i k fs hlt, mixR_len, hx1.out]
          obtain ⟨bo, hbo, hbol, _, hoc⟩ := own_cell hV.h1 (by omega)
          obtain ⟨B, m, h3, h4⟩ := hV.h2 i hti
          obtain ⟨g, hgB, hgl, hgb, hgc⟩ := own_cell h4 (by omega)
          subst hgB
          rw [htl] at h3
          have o1 := (hoc i (by omega)).trans h3
          have g0 : ∃ y0, wq.cell? ⟨g, k, none⟩ = some (.int .i64 y0) := by
            have := hgc k (by omega)
            unfold ints at this
            rw [List.getElem?_map, List.getElem?_eq_getElem (by omega)] at this
            exact ⟨_, this⟩
          obtain ⟨_, cur, hcur⟩ := own_blk h4 (g := g) rfl
          have hbo2 : B2 = some ⟨bo, 0, none⟩ := hbo
          rw [hbo2] at z1
          have hP := hKq.lt1
          have hstep := fun (wz : World) (hb : Below wq.heap.size wq wz) => (hKq.lay hb).step (hV.lay hb) hap hlt (g := g) (m := m) (by rw [hx1.out]; exact h3) (by rw [hx1.out]; exact hklt) y (by simp only [hx1.out]; exact hy)
          replace hstep := Lib.hid hstep
          obtain ⟨y0, g0⟩ := g0
          replace hy := Lib.hid hy
          clear hV hap hoc hgc h3 h4 hbo htl hti
          refine wp_region_tail 18 ?_ (by kernel_rfl) (by kernel_rfl) (by kernel_rfl) (fun x => ?_) (fun x => ?_)
          rotate_left
          · simp only [List.take_succ_cons, List.take_zero]
            repeat (go_big_quiet_step (((fail))))
            refine wpQuiet_nil ?_
            exact rfl
          simp only [List.drop_succ_cons, List.drop_zero]
          try simp only [Act.put, List.setIfInBounds_toArray, List.set_cons_succ, List.set_cons_zero]
          have hb5 : Below wq.heap.size wq (grow wq x) := bel_grow (Below.refl _ _) x
          have hB5 := bel_trans hBq hb5
          have hK5 := hstep.out (grow wq x) hb5
          have hcur5 := hcur.below hb5
          have g5 := (hb5.cell (p := ⟨g, k, none⟩) hgl).trans g0
          have gl5 := Nat.lt_of_lt_of_le hgl hb5.size
          have f5 := hcur5.frozen k
          clear hstep hcur hKq hBq hb5 g0 hgl x1 xl z1 zl hcr hbar hfc hbf o1 hbol hcur5
          generalize grow wq x = w5 at *
          have hB6 := bel_set hB5 (p := ⟨g, k, none⟩) (by show _ ≤ g; omega) (.int .i64 y)
          clear hB5
          replace hK5 := Lib.hid hK5
          replace hB6 := Lib.hid hB6
          go_wp2
          go_roundw
          case rel => exact ⟨k + 1, by go_num, by omega, hB6.out, hK5.out⟩
          case measure => simp [intOf]; omega
        · obtain rfl : k = zr.length := by omega
          have hKn := hKq.next hlt (by rw [hx1.out])
          clear hKq
          go_wp2
          go_roundw
          case rel => exact ⟨i + 1, by go_num, by omega, hBq, hKn⟩
          case measure => simp [intOf]; omega
    · obtain rfl : i = fs.length := by omega
      clear x1 xl
      have x0 : wr.cell? ⟨W.heap.size, 0, none⟩ = some (.slice A1 vs.length k1) := hK.c.cell 0
      have x1 : wr.cell? ⟨W.heap.size, 1, none⟩ = some (.slice A2 fs.length k2) := hK.c.cell 1
      have x2 : wr.cell? ⟨W.heap.size, 2, none⟩ = some (.slice A3 ks.length k3) := hK.c.cell 2
      have xl := hK.c.lt
      have cL := level_any wr ⟨vs, fs, ks⟩ A1 A2 A3 k1 k2 k3 (⟨i1, hi, i3, v1.below hBr, v2.below hBr, v3.below hBr, by simp only; omega⟩)
      simp only at cL
      go_upto_region 15 with (first | (go_at_call 12; (with_reducible refine cL.mono ?_); rintro e W7 ⟨r, R1, R2, R3, c1, c2, c3, er, rfl, hb7, h1, h2, h3, hL⟩) | fail)
      have hT1 : Blk (W7.alloc (.cells #[.slice R1 r.vs.length c1, .slice R2 r.fs.length c2, .slice R3 r.ks.length c3] 26)) W7.heap.size 26 #[.slice R1 r.vs.length c1, .slice R2 r.fs.length c2, .slice R3 r.ks.length c3] := Blk.new _ _ _ _ rfl
      have hba8 : Below W7.heap.size W7 (W7.alloc (.cells #[.slice R1 r.vs.length c1, .slice R2 r.fs.length c2, .slice R3 r.ks.length c3] 26)) := bel_alloc (Below.refl _ _) _
      have hb8 : Below wr.heap.size wr (W7.alloc (.cells #[.slice R1 r.vs.length c1, .slice R2 r.fs.length c2, .slice R3 r.ks.length c3] 26)) := bel_alloc hb7 _
      replace hK := hK.lay hb8
      replace hBr := bel_trans hBr hb8
      have u1 := h1.below hba8
      have w1 := h3.below hba8
      clear x0 x1 x2 xl cL h1 h2 h3 hb7 hb8 hba8
      generalize W7.alloc (.cells #[.slice R1 r.vs.length c1, .slice R2 r.fs.length c2, .slice R3 r.ks.length c3] 26) = w8 at *
      generalize W7.heap.size = T1 at *
      have x0 : w8.cell? ⟨M, 0, none⟩ = some (.slice B1 vs.length d1) := hK.m.cell 0
      have x1 : w8.cell? ⟨M, 1, none⟩ = some (.slice B2 fs.length d2) := hK.m.cell 1
      have x2 : w8.cell? ⟨M, 2, none⟩ = some (.slice B3 ks.length d3) := hK.m.cell 2
      have xl := hK.m.lt
      have cL := level_any w8 ⟨vs, back fs, ks⟩ B1 B2 B3 d1 d2 d3 (hK.cg i1 hi i3 (by omega))
      simp only [back_len] at cL
      go_upto_region 16 with (first | (go_at_call 12; (with_reducible refine cL.mono ?_); rintro e W9 ⟨r2, S1, S2, S3, f1, f2, f3, er2, rfl, hb7, h1, h2, h3, hL2⟩) | fail)
      obtain ⟨rfl, ev, ek, ef⟩ := turn_eq hL hL2
      have hsz := turn_sz hL (by omega)
      rw [ev, ek, ef]
      rw [ev] at h1
      rw [ek] at h3
      have hT2 : Blk (W9.alloc (.cells #[.slice S1 r.vs.length f1, .slice S2 r.fs.length f2, .slice S3 r.ks.length f3] 26)) W9.heap.size 26 #[.slice S1 r.vs.length f1, .slice S2 r.fs.length f2, .slice S3 r.ks.length f3] := Blk.new _ _ _ _ rfl
      have hba8 : Below W9.heap.size W9 (W9.alloc (.cells #[.slice S1 r.vs.length f1, .slice S2 r.fs.length f2, .slice S3 r.ks.length f3] 26)) := bel_alloc (Below.refl _ _) _
      have hb8 : Below w8.heap.size w8 (W9.alloc (.cells #[.slice S1 r.vs.length f1, .slice S2 r.fs.length f2, .slice S3 r.ks.length f3] 26)) := bel_alloc hb7 _
      replace hBr := bel_trans hBr hb8
      have u2 := h1.below hba8
      have w2 := h3.below hba8
      replace hT1 := hT1.below hb8
      replace u1 := u1.below hb8
      replace w1 := w1.below hb8
      clear x0 x1 x2 xl cL h1 h2 h3 hb7 hb8 hba8 hK hL hL2 ev ek ef
      generalize W9.alloc (.cells #[.slice S1 r.vs.length f1, .slice S2 r.fs.length f2, .slice S3 r.ks.length f3] 26) = w10 at *
      generalize W9.heap.size = T2 at *
      obtain ⟨s1, s2⟩ := hsz
      generalize r.vs = ra at *
      generalize r.ks = rk at *
      generalize r.fs.length = rn at *
      have t10 : w10.cell? ⟨T1, 0, none⟩ = some (.slice R1 ra.length c1) := hT1.cell 0
      have t11 : w10.cell? ⟨T1, 1, none⟩ = some (.slice R2 rn c2) := hT1.cell 1
      have t12 : w10.cell? ⟨T1, 2, none⟩ = some (.slice R3 rk.length c3) := hT1.cell 2
      have t1l := hT1.lt
      have t20 : w10.cell? ⟨T2, 0, none⟩ = some (.slice S1 ra.length f1) := hT2.cell 0
      have t21 : w10.cell? ⟨T2, 1, none⟩ = some (.slice S2 rn f2) := hT2.cell 1
      have t22 : w10.cell? ⟨T2, 2, none⟩ = some (.slice S3 rk.length f3) := hT2.cell 2
      have t2l := hT2.lt
      have q6 : (er2 != er2) = false := by simp
      have q7 : (((rk.length : Nat) : Int) != ((rk.length : Nat) : Int)) = false := by simp
      have cS := same_yes w10 R1 S1 ra.length c1 f1 (ptF ra) u1.vf u2.vf (by omega)
      go_upto_region 18 with (first | (go_at_call 19; (with_reducible refine cS.mono ?_); rintro e Wz ⟨rfl, xz, rfl⟩) | fail)
      have hbz := bel_grow (Below.refl _ w10) xz
      replace hBr := bel_trans hBr hbz
      replace t11 := (hbz.cell (p := ⟨T1, 1, none⟩) t1l).trans t11
      replace t12 := (hbz.cell (p := ⟨T1, 2, none⟩) t1l).trans t12
      replace t21 := (hbz.cell (p := ⟨T2, 1, none⟩) t2l).trans t21
      replace t22 := (hbz.cell (p := ⟨T2, 2, none⟩) t2l).trans t22
      replace w1 := w1.below hbz
      replace w2 := w2.below hbz
      replace t1l := Nat.lt_of_lt_of_le t1l hbz.size
      replace t2l := Nat.lt_of_lt_of_le t2l hbz.size
      clear cS u1 u2 hbz t10 t20 hT1 hT2
      generalize grow w10 xz = w12 at *
      go_wp2
      go_loopw [11] (fun iv wz => Below W.heap.size W wz ∧ Below w12.heap.size w12 wz ∧ ∃ v : Nat, iv = .int .i64 (v : Int) ∧ v ≤ rk.length) (fun iv _ => rk.length - (intOf iv).toNat)
      case atStart => exact ⟨hBr, Below.refl _ _, 0, rfl, by omega⟩
      case round =>
        obtain ⟨hBz, hbz, v, rfl, hv⟩ := hrel
        rename World => wz
        have t11' := (hbz.cell (p := ⟨T1, 1, none⟩) t1l).trans t11
        have t12' := (hbz.cell (p := ⟨T1, 2, none⟩) t1l).trans t12
        have t21' := (hbz.cell (p := ⟨T2, 1, none⟩) t2l).trans t21
        have t22' := (hbz.cell (p := ⟨T2, 2, none⟩) t2l).trans t22
        have t1l' := Nat.lt_of_lt_of_le t1l hbz.size
        have t2l' := Nat.lt_of_lt_of_le t2l hbz.size
        have w1' := w1.below hbz
        have w2' := w2.below hbz
        clear t11 t12 t21 t22 t1l t2l w1 w2 hBr
        by_cases hvl : v < rk.length
        · obtain ⟨ba', oa', rfl, hba', a0, a1, a2⟩ := w1'.at_ v hvl
          obtain ⟨bb', ob', rfl, hbb', b0, b1, b2⟩ := w2'.at_ v hvl
          generalize rk[v] = p at *
          have q0 : (0 : Int) ≤ (v : Int) := by omega
          have q1v : (v : Int) < (rk.length : Int) := by omega
          have q8 : (p.x != p.x) = false ∧ (p.y != p.y) = false ∧ (p.z != p.z) = false := by simp
          go_upto_region 21 with (fail)
          refine wp_region_grow (by kernel_rfl) (by kernel_rfl) ?_
          repeat (go_big_quiet_step (fail))
          refine wpQuiet_nil ?_
          rintro _ ⟨xg2, rfl⟩
          have hB9 := bel_grow hBz xg2
          have hb9 := bel_grow hbz xg2
          go_wp2
          go_roundw
          case rel => exact ⟨hB9, hb9, v + 1, by go_num, by omega⟩
          case measure => simp [intOf]; omega
        · obtain rfl : v = rk.length := by omega
          go_wp2
          go_ret
          exact ⟨rfl, hBz⟩

theorem own : ownKnob Try.prog.godebug = none := by kernel_rfl
set_option maxRecDepth 100000 in
theorem lifted (os : Os) (started : os.Started) (H : Type) (enc : TypeId × Value → H) :
    ReturnsInHanded {} Try.checked os 4 .any (Rows.subTurnedSpec.pre6 enc Try.prog Try.f4 Rows.subTurnedRow.domain false) (Rows.subTurnedSpec.post enc Try.prog Try.f4 false true false false) := by
  refine returnsInHanded_of_change_sized (C := Try.checked) own started (by kernel_rfl) Try.func4
    (ChangeSpec.witness6 (enc := enc) (C := Try.checked) false ⟨#[], #[.agg #[.slice none 0 0, .slice none 0 0, .slice none 0 0]], []⟩ 12 (by kernel_rfl) (by kernel_rfl) (by kernel_rfl) (by kernel_rfl)) ?_
  intro W base args ds gs before hval0 hW hcnd hwt _
  have hval : ∀ (j : Nat) t v, Try.f4.params[j]? = some t → args[j]? = some v → Value.okWide Try.prog W .any base t v := hval0
  have hW' := hW
  obtain ⟨p, q, hA0, hV, rfl, hfz, hnd⟩ := hW
  have hA : DataW.TrodAll enc Try.prog W 0 (fun _ => true) true Try.f4.params.toList args.toList ds p := hA0
  rw [Try.params4] at hA hval
  obtain ⟨v0, vs0, d0, ds0, p0, q0, hargs, rfl, rfl, h0, r0⟩ := trodAll_cons hA
  obtain ⟨rfl, rfl, rfl⟩ := trodAll_nil r0
  obtain rfl : args = #[v0] := by cases args; simp_all
  obtain ⟨cs0, rfl, hsz0⟩ := okWide_struct Try.underlying26 (hval 0 26 v0 rfl rfl)
  rw [szCg] at hsz0
  have hTW0 : TW enc Try.prog W 0 (fun _ => true) true 26 cs0.toList := by
    obtain ⟨fu, hfu⟩ := h0
    refine ⟨fu, _, hfu, fun n hn => ?_⟩
    have := List.all_eq_true.1 hwt n (DataW.weights_mem_each (j := 0) (t := 26) (d := d0) (by rw [Try.params4]; rfl) (by rfl) n hn)
    simpa using this
  obtain ⟨c0, A01, A02, A03, k01, k02, k03, ecs0, hraw0⟩ := open_Cage (by simpa using hsz0) hTW0
  have hcap0 : SL A01 c0.vs.length k01 ∧ SL A03 c0.ks.length k03 := by have h := hTW0; rw [ecs0] at h; exact cage_sl h
  obtain rfl : cs0 = #[.slice A01 c0.vs.length k01, .slice A02 c0.fs.length k02, .slice A03 c0.ks.length k03] := Array.ext' ecs0
  clear hTW0
  refine (walk W c0 A01 A02 A03 k01 k02 k03 hraw0 hcap0).mono fun e W' ⟨he, hb⟩ => ?_
  subst he
  exact ⟨_, rfl, law_post (tb := 4) (by kernel_rfl) (by kernel_rfl) rfl rfl Try.underlying4 rfl rfl rfl hW' hb⟩

theorem over : Rows.subTurnedRow.holds Try.pinned (OpenSpec.ofChange Rows.subTurnedSpec) :=
  OpenClaim.holds_of_wide 4 Try.f4 rfl rfl rfl rfl rfl rfl rfl ⟨rfl, rfl, rfl, rfl, rfl⟩ rfl rfl rfl rfl rfl (by kernel_rfl) Try.func4 (by kernel_rfl)
    (of_decide_eq_true (by kernel_rfl)) (by unfold Func.isWrapper; first | (rw [if_pos (by decide +kernel)]; kernel_rfl) | (rw [if_neg (by decide +kernel)]; exact ⟨rfl, rfl⟩))
    (fun os started H enc _ => lifted os started H enc)

theorem proved : Rows.SubTurnedSaid :=
  over
#print axioms proved
end Go.Proofs.Ytiaikceoodeboaa.subTurned
