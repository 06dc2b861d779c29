/- SubQuads holds for every input: the row, out of the walk. No condition. -/
import Derived.SizedLaws
import Derived.Test.YthpdplpjpopenaaRows
import Derived.Test.YthpdplpjpopenaaC2
import Derived.Test.YthpdplpjpopenaaC13
namespace Go.Proofs.Ythpdplpjpopenaa.subQuads
open Go.ChangeShapes Go.WideShapes Go.ChangeAt Go.RowKit
set_option linter.unusedVariables false
set_option linter.unusedSimpArgs false
set_option linter.unnecessarySimpa false
set_option maxRecDepth 100000
set_option maxHeartbeats 8000000 in
theorem walk (W : World) (c : Cg) (A1 A2 A3 : Option Addr) (k1 k2 k3 : Nat) (hc : RawC W c A1 A2 A3) :
    Calls Try.prog 3 #[.agg #[.slice A1 c.vs.length k1, .slice A2 c.fs.length k2, .slice A3 c.ks.length k3]] W fun e W' => e = .returned (.bool true) ∧ Below W.heap.size W W' := by
  obtain ⟨vs, fs, ks⟩ := c
  obtain ⟨l1, l2, l3, i1, i2, i3, v1, v2, v3⟩ := hc
  simp only at l1 l2 l3 i1 i2 i3 v1 v2 v3 ⊢
  obtain ⟨hx, hi⟩ := row_lens i2
  rw [reach_num] at l1 l2 l3
  have hCg : ∀ (hf : vs.length + ks.length + fs.length + tot fs ≤ 300) (W1 : World), Below W.heap.size W W1 → CgV W1 ⟨vs, fs, ks⟩ A1 A2 A3 := fun hf W1 hb => ⟨i1, hi, i3, v1.below hb, v2.below hb, v3.below hb, by simp only; omega⟩
  have cG := fun (W1 : World) (hb : Below W.heap.size W W1) => great9_any W1 A1 A2 A3 vs.length ks.length k1 k2 k3 fs (v2.below hb) (by omega) (by omega) (by omega) hx
  have hb0 : Below W.heap.size W (W.alloc (.cells #[.slice A1 vs.length k1, .slice A2 fs.length k2, .slice A3 ks.length k3] 26)) := bel_alloc (Below.refl _ _) _
  have hC0 : Blk (W.alloc (.cells #[.slice A1 vs.length k1, .slice A2 fs.length k2, .slice A3 ks.length k3] 26)) W.heap.size 26 #[.slice A1 vs.length k1, .slice A2 fs.length k2, .slice A3 ks.length k3] := Blk.new _ _ _ _ rfl
  go_enter Try.func3, Try.ntmps3
  go_upto_region 1 with (fail)
  generalize W.alloc (.cells #[.slice A1 vs.length k1, .slice A2 fs.length k2, .slice A3 ks.length k3] 26) = W0 at *
  go_upto_region 3 with (first | (go_at_call 13; (with_reducible refine (alive9_any _).mono ?_); rintro e W1 ⟨rfl, hb1⟩) | fail)
  have hB1 := bel_trans hb0 hb1
  have hC1 := hC0.below hb1
  have x0 : W1.cell? ⟨W.heap.size, 0, none⟩ = some (.slice A1 vs.length k1) := hC1.cell 0
  have x1 : W1.cell? ⟨W.heap.size, 1, none⟩ = some (.slice A2 fs.length k2) := hC1.cell 1
  have x2 : W1.cell? ⟨W.heap.size, 2, none⟩ = some (.slice A3 ks.length k3) := hC1.cell 2
  have xl := hC1.lt
  have cG1 := cG W1 hB1
  clear hb0 hC0 hb1 cG
  go_upto_region 5 with (first | (go_at_call 14; (with_reducible refine cG1.mono ?_); rintro e W2 ⟨bb, rfl, hb2, hgr⟩; have hB2 := bel_trans hB1 hb2; replace hgr := Lib.hid hgr; cases bb) | fail)
  rotate_left
  · go_ret
    exact ⟨rfl, hB2⟩
  obtain ⟨hg1, hg2⟩ := hgr.out trivial
  have hC2 := hC1.below hb2
  have cL := level_any W2 ⟨vs, fs, ks⟩ A1 A2 A3 k1 k2 k3 (hCg hg2 W2 hB2)
  simp only at cL
  clear x0 x1 x2 xl cG1 hC1 hB1 hb2 hgr
  have x0 : W2.cell? ⟨W.heap.size, 0, none⟩ = some (.slice A1 vs.length k1) := hC2.cell 0
  have x1 : W2.cell? ⟨W.heap.size, 1, none⟩ = some (.slice A2 fs.length k2) := hC2.cell 1
  have x2 : W2.cell? ⟨W.heap.size, 2, none⟩ = some (.slice A3 ks.length k3) := hC2.cell 2
  have xl := hC2.lt
  go_upto_region 6 with (first | (go_at_call 15; (with_reducible refine cL.mono ?_); rintro e W3 ⟨r, R1, R2, R3, c1, c2, c3, er, rfl, hb3, h1, h2, h3, hL⟩) | fail)
  have hT : Blk (W3.alloc (.cells #[.slice R1 r.vs.length c1, .slice R2 r.fs.length c2, .slice R3 r.ks.length c3] 26)) W3.heap.size 26 #[.slice R1 r.vs.length c1, .slice R2 r.fs.length c2, .slice R3 r.ks.length c3] := Blk.new _ _ _ _ rfl
  have hb4 : Below W2.heap.size W2 (W3.alloc (.cells #[.slice R1 r.vs.length c1, .slice R2 r.fs.length c2, .slice R3 r.ks.length c3] 26)) := bel_alloc hb3 _
  have h2b := h2.below (bel_alloc (Below.refl _ _) (.cells #[.slice R1 r.vs.length c1, .slice R2 r.fs.length c2, .slice R3 r.ks.length c3] 26))
  clear x0 x1 x2 xl cL h1 h2 h3 hb3
  generalize W3.alloc (.cells #[.slice R1 r.vs.length c1, .slice R2 r.fs.length c2, .slice R3 r.ks.length c3] 26) = W4 at *
  generalize W3.heap.size = T at *
  have hB4 := bel_trans hB2 hb4
  have hC4 := hC2.below hb4
  clear hB2 hC2 hb4
  cases hL with
  | noSurf h =>
    have t0 : W4.cell? ⟨T, 0, none⟩ = some (.slice R1 0 c1) := hT.cell 0
    have t1 : W4.cell? ⟨T, 1, none⟩ = some (.slice R2 0 c2) := hT.cell 1
    have tl := hT.lt
    clear h hT
    go_wp2
    go_ret
    exact ⟨rfl, hB4⟩
  | noEdge t hTS h =>
    have t0 : W4.cell? ⟨T, 0, none⟩ = some (.slice R1 0 c1) := hT.cell 0
    have t1 : W4.cell? ⟨T, 1, none⟩ = some (.slice R2 0 c2) := hT.cell 1
    have tl := hT.lt
    clear h hT hTS
    go_wp2
    go_ret
    exact ⟨rfl, hB4⟩
  | large t hTS sh h hf =>
    have t0 : W4.cell? ⟨T, 0, none⟩ = some (.slice R1 0 c1) := hT.cell 0
    have t1 : W4.cell? ⟨T, 1, none⟩ = some (.slice R2 0 c2) := hT.cell 1
    have tl := hT.lt
    clear h hT hTS hf
    go_wp2
    go_ret
    exact ⟨rfl, hB4⟩
  | fine t hTS sh h hf =>
    simp only at hTS
    have hel : t.es.length ≤ tot fs := by have h1 := edges_le hTS.walk hTS.edges; rw [waysL_len] at h1; exact h1
    have hvl : (levC ⟨vs, fs, ks⟩ t sh).vs.length = vs.length + t.es.length + fs.length := by
      simp only [levC, List.length_append, movedL_len, halvesL_len, midsL_len]
    have hfe : (levC ⟨vs, fs, ks⟩ t sh).fs = fine (vs.length : Int) t.es fs := rfl
    have hkl : (levC ⟨vs, fs, ks⟩ t sh).ks.length = (levC ⟨vs, fs, ks⟩ t sh).ks.length := rfl
    rw [hfe] at h2b hT
    rw [hvl] at hT
    have hfl : (fine (vs.length : Int) t.es fs).length = tot fs := by rw [fine_len, waysL_len]
    have hff : ∀ x ∈ fine (vs.length : Int) t.es fs, x.length = 4 := fun x hx => by
      obtain ⟨w, _, rfl⟩ := List.mem_map.1 hx; rfl
    have htf : tot (fine (vs.length : Int) t.es fs) ≤ 4 * 300 := by
      have : ∀ l : List (List Int), (∀ x ∈ l, x.length = 4) → tot l = 4 * l.length := fun l => by
        induction l with
        | nil => intro _; rfl
        | cons x r ih => intro h; have := ih (fun y hy => h y (List.mem_cons_of_mem _ hy)); have h4 := h x (by simp); unfold tot at *; simp only [List.map_cons, List.sum_cons, List.length_cons]; omega
      rw [this _ hff, hfl]; omega
    have hsurf := fine_surf hTS
    have hsame : ∀ (tt u : TopoT), TopoS (vs.length : Int) fs tt → TopoS ((vs.length : Int) + (t.es.length : Int) + (fs.length : Int)) (fine (vs.length : Int) t.es fs) u → ∀ v : Nat, v < vs.length → ∃ (h1 : v < tt.fans.length) (h2 : v < u.fans.length) (h3 : v < tt.rs.length) (h4 : v < u.rs.length), tt.rs[v] = u.rs[v] ∧ tt.fans[v].length = u.fans[v].length := fun tt u htt hu v hv => by
      have e : t.es = tt.es := hTS.edges.one htt.edges
      rw [e] at hu
      exact fine_same htt hu v (by omega)
    have hfi : ∀ x ∈ fine (vs.length : Int) t.es fs, ∀ y ∈ x, i64B y := fun x hx y hy => by
      have := hsurf.1.corner_rng hx hy
      unfold i64B; omega
    generalize fine (vs.length : Int) t.es fs = gs at *
    generalize (levC ⟨vs, fs, ks⟩ t sh).ks = rk at *
    clear hvl hfe hkl hf h
    obtain ⟨el, hele⟩ : ∃ el, t.es.length = el := ⟨_, rfl⟩
    rw [hele] at hT hel hsurf hsame
    have hgl := hfl
    rw [hgl] at hT
    clear hfl
    have hv300 : vs.length ≤ 300 := by omega
    have hf300 : fs.length ≤ 300 := by omega
    have hT300 : tot fs ≤ 300 := by omega
    have cB1 := fun (W1 : World) (hb : Below W.heap.size W W1) => built_any W1 (vs.length : Int) k2 fs A2 (v2.below hb) (by unfold i64B; omega) hi (by omega)
    have cB2 := fun (W1 : World) (hb : Below W4.heap.size W4 W1) => built_any W1 ((vs.length : Int) + (el : Int) + (fs.length : Int)) c2 gs R2 (h2b.below hb) (by unfold i64B; omega) hfi (by omega)
    rw [hgl] at cB2
    replace cB1 := Lib.hid cB1
    replace cB2 := Lib.hid cB2
    replace hgl := Lib.hid hgl
    replace hele := Lib.hid hele
    replace hsurf := Lib.hid hsurf
    replace hsame := Lib.hid hsame
    replace hTS := Lib.hid hTS
    replace hff := Lib.hid hff
    have x0 : W4.cell? ⟨W.heap.size, 0, none⟩ = some (.slice A1 vs.length k1) := hC4.cell 0
    have x1 : W4.cell? ⟨W.heap.size, 1, none⟩ = some (.slice A2 fs.length k2) := hC4.cell 1
    have xl := hC4.lt
    have cBa := cB1.out W4 hB4
    go_upto_region 9 with (first | (go_at_call 16; (with_reducible refine cBa.mono ?_); rintro e W5 ⟨B1, B2, B3, tt, d1, d2, d3, ee, rfl, hP⟩) | fail)
    have hgood := Lib.hid hP.good
    have hV5 := hP.isV
    have hb5 := hP.bel
    clear hP cBa cB1
    rcases hgood.out with ⟨rfl, _, hTT⟩ | ⟨rfl, hno, _⟩
    rotate_left
    · exact absurd hTS.out.surf hno
    have het : tt.es.length = el := by rw [hTT.edges.one hTS.out.edges]; exact hele.out
    have hTf : tt.fans.length = vs.length := by have := hTT.nf; omega
    rw [het]
    have hb6 : Below W4.heap.size W4 (W5.alloc (.cells #[.slice B1 el d1, .slice B2 tt.fans.length d2, .slice B3 tt.rs.length d3] 35)) := bel_alloc hb5 _
    have hU : Blk (W5.alloc (.cells #[.slice B1 el d1, .slice B2 tt.fans.length d2, .slice B3 tt.rs.length d3] 35)) W5.heap.size 35 #[.slice B1 el d1, .slice B2 tt.fans.length d2, .slice B3 tt.rs.length d3] := Blk.new _ _ _ _ rfl
    have hV6 := TopoV.below hV5 (bel_alloc (Below.refl _ _) (.cells #[.slice B1 el d1, .slice B2 tt.fans.length d2, .slice B3 tt.rs.length d3] 35))
    generalize W5.alloc (.cells #[.slice B1 el d1, .slice B2 tt.fans.length d2, .slice B3 tt.rs.length d3] 35) = W6 at *
    generalize W5.heap.size = U at *
    have hT6 := hT.below hb6
    have hC6 := hC4.below hb6
    have hB6 := bel_trans hB4 hb6
    have cBb := cB2.out W6 hb6
    clear x0 x1 xl hT hC4 hgood hV5 hb5 cB2
    replace hTT := Lib.hid hTT
    replace het := Lib.hid het
    replace hTf := Lib.hid hTf
    have y0 : W6.cell? ⟨T, 0, none⟩ = some (.slice R1 (vs.length + el + fs.length) c1) := hT6.cell 0
    have y1 : W6.cell? ⟨T, 1, none⟩ = some (.slice R2 (tot fs) c2) := hT6.cell 1
    have yl := hT6.lt
    go_upto_region 10 with (first | (go_at_call 16; (with_reducible refine cBb.mono ?_); rintro e W7 ⟨D1, D2, D3, uu, f1, f2, f3, ee, rfl, hP⟩) | fail)
    have hgood := Lib.hid hP.good
    have hV7 := hP.isV
    have hb7 := hP.bel
    clear hP cBb
    rcases hgood.out with ⟨rfl, _, hUU⟩ | ⟨rfl, hno, _⟩
    rotate_left
    · exact absurd hsurf.out hno
    have hUf : uu.fans.length = vs.length + el + fs.length := by have := hUU.nf; omega
    have hsm := hsame.out tt uu hTT.out hUU
    have hb8 : Below W6.heap.size W6 (W7.alloc (.cells #[.slice D1 uu.es.length f1, .slice D2 uu.fans.length f2, .slice D3 uu.rs.length f3] 35)) := bel_alloc hb7 _
    have hN : Blk (W7.alloc (.cells #[.slice D1 uu.es.length f1, .slice D2 uu.fans.length f2, .slice D3 uu.rs.length f3] 35)) W7.heap.size 35 #[.slice D1 uu.es.length f1, .slice D2 uu.fans.length f2, .slice D3 uu.rs.length f3] := Blk.new _ _ _ _ rfl
    have hV8 := TopoV.below hV7 (bel_alloc (Below.refl _ _) (.cells #[.slice D1 uu.es.length f1, .slice D2 uu.fans.length f2, .slice D3 uu.rs.length f3] 35))
    generalize W7.alloc (.cells #[.slice D1 uu.es.length f1, .slice D2 uu.fans.length f2, .slice D3 uu.rs.length f3] 35) = W8 at *
    generalize W7.heap.size = N at *
    have hT8 := hT6.below hb8
    have hC8 := hC6.below hb8
    have hB8 := bel_trans hB6 hb8
    have hU8 := hU.below hb8
    have hV68 := TopoV.below hV6 hb8
    have h2c := (h2b.below hb6).below hb8
    clear y0 y1 yl hT6 hC6 hgood hV7 hb7 hb8 hb6 hB6 hU hV6 hUU hTT hsame hsurf h2b hB4
    rw [hUf] at hN
    replace hUf := Lib.hid hUf
    replace hsm := Lib.hid hsm
    have x0 : W8.cell? ⟨W.heap.size, 0, none⟩ = some (.slice A1 vs.length k1) := hC8.cell 0
    have x1 : W8.cell? ⟨W.heap.size, 1, none⟩ = some (.slice A2 fs.length k2) := hC8.cell 1
    have xl := hC8.lt
    have y0 : W8.cell? ⟨T, 0, none⟩ = some (.slice R1 (vs.length + el + fs.length) c1) := hT8.cell 0
    have y1 : W8.cell? ⟨T, 1, none⟩ = some (.slice R2 (tot fs) c2) := hT8.cell 1
    have yl := hT8.lt
    have z0 : W8.cell? ⟨U, 0, none⟩ = some (.slice B1 el d1) := hU8.cell 0
    have z1 : W8.cell? ⟨U, 1, none⟩ = some (.slice B2 tt.fans.length d2) := hU8.cell 1
    have z2 : W8.cell? ⟨U, 2, none⟩ = some (.slice B3 tt.rs.length d3) := hU8.cell 2
    have zl := hU8.lt
    have n1 : W8.cell? ⟨N, 1, none⟩ = some (.slice D2 (vs.length + el + fs.length) f2) := hN.cell 1
    have n2 : W8.cell? ⟨N, 2, none⟩ = some (.slice D3 uu.rs.length f3) := hN.cell 2
    have nl := hN.lt
    have hF8 := v2.below hB8
    clear hC8 hT8 hU8 hN
    go_wp2
    go_loopw [9, 10] (fun sv iv wr => wr = W8 ∧ ∃ (j s : Nat), iv = .int .i64 (j : Int) ∧ j ≤ fs.length ∧ sv = .int .i64 (s : Int) ∧ s = tot (fs.take j) ∧ s ≤ tot fs) (fun _ iv _ => fs.length - (intOf iv).toNat)
    case atStart => exact ⟨rfl, 0, 0, rfl, by omega, rfl, by simp [tot], by omega⟩
    case round =>
      obtain ⟨rfl, j, s, rfl, hj, rfl, hs, hsl⟩ := hrel
      by_cases hlt : j < fs.length
      · obtain ⟨b, off, B, m, rfl, hbl, hcell, _⟩ := hF8.at_ j hlt
        have htk := tot_take fs j hlt
        have hle := tot_le fs (j + 1)
        generalize fs[j] = x at *
        have hs2 : s + x.length = tot (fs.take (j + 1)) := by omega
        have hs3 : s + x.length ≤ tot fs := by omega
        replace hs := Lib.hid hs
        replace hs2 := Lib.hid hs2
        replace htk := Lib.hid htk
        replace hle := Lib.hid hle
        have q0 : (0 : Int) ≤ (j : Int) := by omega
        have q1 : (j : Int) < (fs.length : Int) := by omega
        go_wp2
        go_roundw
        case rel => exact ⟨trivial, j + 1, s + x.length, by go_num, by omega, by simp, hs2.out, hs3⟩
        case measure => simp [intOf]; omega
      · obtain rfl : j = fs.length := by omega
        rw [List.take_length] at hs
        subst hs
        go_upto_region 17 with (fail)
        go_wp2
        go_loopw [11] (fun iv wq => wq = wr ∧ ∃ (j : Nat), iv = .int .i64 (j : Int) ∧ j ≤ tot fs) (fun iv _ => tot fs - (intOf iv).toNat)
        case atStart => exact ⟨rfl, 0, rfl, by omega⟩
        case round =>
          obtain ⟨rfl, j, rfl, hj2⟩ := hrel
          rename World => wq
          by_cases hl2 : j < tot fs
          · have hjg : j < gs.length := by rw [hgl.out]; exact hl2
            obtain ⟨b, off, B, m, rfl, hbl, hcell, _⟩ := h2c.at_ j hjg
            have h4 := hff.out _ (List.getElem_mem hjg)
            rw [h4] at hcell
            have q0 : (0 : Int) ≤ (j : Int) := by omega
            have q1 : (j : Int) < (tot fs : Int) := by omega
            go_wp2
            go_roundw
            case rel => exact ⟨trivial, j + 1, by go_num, by omega⟩
            case measure => simp [intOf]; omega
          · obtain rfl : j = tot fs := by omega
            go_wp2
            go_loopw [12] (fun iv wz => Below W.heap.size W wz ∧ Below wq.heap.size wq wz ∧ ∃ (v : Nat), iv = .int .i64 (v : Int) ∧ v ≤ vs.length) (fun iv _ => vs.length - (intOf iv).toNat)
            case atStart => exact ⟨hB8, Below.refl _ _, 0, rfl, by omega⟩
            case round =>
              obtain ⟨hBz, hbz, v, rfl, hv⟩ := hrel
              rename World => wz
              have z0' := (hbz.cell (p := ⟨U, 0, none⟩) zl).trans z0
              have z1' := (hbz.cell (p := ⟨U, 1, none⟩) zl).trans z1
              have z2' := (hbz.cell (p := ⟨U, 2, none⟩) zl).trans z2
              have n1' := (hbz.cell (p := ⟨N, 1, none⟩) nl).trans n1
              have n2' := (hbz.cell (p := ⟨N, 2, none⟩) nl).trans n2
              have x0' := (hbz.cell (p := ⟨W.heap.size, 0, none⟩) xl).trans x0
              have xl' := Nat.lt_of_lt_of_le xl hbz.size
              have zl' := Nat.lt_of_lt_of_le zl hbz.size
              have nl' := Nat.lt_of_lt_of_le nl hbz.size
              have hR1 := hV68.rs.below hbz
              have hR2 := hV8.rs.below hbz
              have hF1 := hV68.fans.below hbz
              have hF2 := hV8.fans.below hbz
              clear x0 x1 xl y0 y1 yl z0 z1 z2 zl n1 n2 nl hB8
              by_cases hvl : v < vs.length
              · obtain ⟨g1, g2, g3, g4, ger, gef⟩ := hsm.out v hvl
                obtain ⟨b1, o1, rfl, hb1, hc1⟩ := hR1 (by omega)
                obtain ⟨b2, o2, rfl, hb2, hc2⟩ := hR2 (by omega)
                have r1 := hc1 v g3
                have r2 := hc2 v g4
                rw [← ger] at r2
                obtain ⟨b3, o3, C3, m3, rfl, hb3, s1, _⟩ := hF1.at_ v g1
                obtain ⟨b4, o4, C4, m4, rfl, hb4, s2, _⟩ := hF2.at_ v g2
                rw [← gef] at s2
                generalize tt.rs[v] = rv at *
                generalize tt.fans[v].length = fv at *
                have q0 : (0 : Int) ≤ (v : Int) := by omega
                have q1 : (v : Int) < (vs.length : Int) := by omega
                have q2 : (v : Int) < (tt.rs.length : Int) := by omega
                have q3 : (v : Int) < (uu.rs.length : Int) := by omega
                have q4 : (v : Int) < (tt.fans.length : Int) := by omega
                have q5 : (v : Int) < ((vs.length + el + fs.length : Nat) : Int) := by omega
                have q6 : (rv != rv) = false := by simp
                clear hc1 hc2 ger gef
                go_upto_region 25 with (fail)
                refine wp_region_grow (by kernel_rfl) (by kernel_rfl) ?_
                repeat (go_big_quiet_step ((fail)))
                refine wpQuiet_nil ?_
                rintro _ ⟨xg, rfl⟩
                have hB9 := bel_grow hBz xg
                have hb9 := bel_grow hbz xg
                go_wp2
                go_roundw
                case rel => exact ⟨hB9, hb9, v + 1, by go_num, by omega⟩
                case measure => simp [intOf]; omega
              · obtain rfl : v = vs.length := by omega
                go_wp2
                go_ret
                exact ⟨rfl, hBz⟩

theorem own : ownKnob Try.prog.godebug = none := by kernel_rfl
set_option maxRecDepth 100000 in
theorem lifted (os : Os) (started : os.Started) (H : Type) (enc : TypeId × Value → H) :
    ReturnsInHanded {} Try.checked os 3 .any (Rows.subQuadsSpec.pre6 enc Try.prog Try.f3 Rows.subQuadsRow.domain false) (Rows.subQuadsSpec.post enc Try.prog Try.f3 false true false false) := by
  refine returnsInHanded_of_change_sized (C := Try.checked) own started (by kernel_rfl) Try.func3
    (ChangeSpec.witness6 (enc := enc) (C := Try.checked) false ⟨#[], #[.agg #[.slice none 0 0, .slice none 0 0, .slice none 0 0]], []⟩ 12 (by kernel_rfl) (by kernel_rfl) (by kernel_rfl) (by kernel_rfl)) ?_
  intro W base args ds gs before hval0 hW hcnd hwt _
  have hval : ∀ (j : Nat) t v, Try.f3.params[j]? = some t → args[j]? = some v → Value.okWide Try.prog W .any base t v := hval0
  have hW' := hW
  obtain ⟨p, q, hA0, hV, rfl, hfz, hnd⟩ := hW
  have hA : DataW.TrodAll enc Try.prog W 0 (fun _ => true) true Try.f3.params.toList args.toList ds p := hA0
  rw [Try.params3] at hA hval
  obtain ⟨v0, vs0, d0, ds0, p0, q0, hargs, rfl, rfl, h0, r0⟩ := trodAll_cons hA
  obtain ⟨rfl, rfl, rfl⟩ := trodAll_nil r0
  obtain rfl : args = #[v0] := by cases args; simp_all
  obtain ⟨cs0, rfl, hsz0⟩ := okWide_struct Try.underlying26 (hval 0 26 v0 rfl rfl)
  rw [szCg] at hsz0
  have hTW0 : TW enc Try.prog W 0 (fun _ => true) true 26 cs0.toList := by
    obtain ⟨fu, hfu⟩ := h0
    refine ⟨fu, _, hfu, fun n hn => ?_⟩
    have := List.all_eq_true.1 hwt n (DataW.weights_mem_each (j := 0) (t := 26) (d := d0) (by rw [Try.params3]; rfl) (by rfl) n hn)
    simpa using this
  obtain ⟨c0, A01, A02, A03, k01, k02, k03, ecs0, hraw0⟩ := open_Cage (by simpa using hsz0) hTW0
  obtain rfl : cs0 = #[.slice A01 c0.vs.length k01, .slice A02 c0.fs.length k02, .slice A03 c0.ks.length k03] := Array.ext' ecs0
  clear hTW0
  refine (walk W c0 A01 A02 A03 k01 k02 k03 hraw0).mono fun e W' ⟨he, hb⟩ => ?_
  subst he
  exact ⟨_, rfl, law_post (tb := 4) (by kernel_rfl) (by kernel_rfl) rfl rfl Try.underlying4 rfl rfl rfl hW' hb⟩

theorem over : Rows.subQuadsRow.holds Try.pinned (OpenSpec.ofChange Rows.subQuadsSpec) :=
  OpenClaim.holds_of_wide 3 Try.f3 rfl rfl rfl rfl rfl rfl rfl ⟨rfl, rfl, rfl, rfl, rfl⟩ rfl rfl rfl rfl rfl (by kernel_rfl) Try.func3 (by kernel_rfl)
    (of_decide_eq_true (by kernel_rfl)) (by unfold Func.isWrapper; first | (rw [if_pos (by decide +kernel)]; kernel_rfl) | (rw [if_neg (by decide +kernel)]; exact ⟨rfl, rfl⟩))
    (fun os started H enc _ => lifted os started H enc)

theorem proved : Rows.SubQuadsSaid :=
  over
#print axioms proved
end Go.Proofs.Ythpdplpjpopenaa.subQuads
