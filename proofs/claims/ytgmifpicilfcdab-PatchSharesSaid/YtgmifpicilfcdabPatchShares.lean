/- PatchShares holds for every input: the row, out of the walk. No condition. -/
import Derived.SizedLaws
import Derived.Test.YtgmifpicilfcdabRows
import Derived.Test.YtgmifpicilfcdabPatY
import Derived.Test.YtgmifpicilfcdabC2
import Derived.Test.YtgmifpicilfcdabC8
import Derived.Test.YtgmifpicilfcdabC13
namespace Go.Proofs.Ytgmifpicilfcdab.patchShares
open Go.ChangeShapes Go.WideShapes Go.ChangeAt Go.RowKit
set_option linter.unusedVariables false
set_option linter.unusedSimpArgs false
set_option linter.unnecessarySimpa false
set_option maxRecDepth 100000
set_option maxHeartbeats 8000000 in
theorem walk (W : World) (c : Cg) (A1 A2 A3 : Option Addr) (k1 k2 k3 : Nat) (hc : RawC W c A1 A2 A3) :
    Calls Try.prog 3 #[.agg #[.slice A1 c.vs.length k1, .slice A2 c.fs.length k2, .slice A3 c.ks.length k3]] W fun e W' => e = .returned (.bool true) ∧ Below W.heap.size W W' := by
  obtain ⟨vs, fs, ks⟩ := c
  obtain ⟨l1, l2, l3, i1, i2, i3, v1, v2, v3⟩ := hc
  simp only at l1 l2 l3 i1 i2 i3 v1 v2 v3 ⊢
  obtain ⟨hx, hi⟩ := row_lens i2
  rw [reach_num] at l1 l2 l3
  have hCg : ∀ (hf : vs.length + ks.length + fs.length + tot fs ≤ 300) (W1 : World), Below W.heap.size W W1 → CgV W1 ⟨vs, fs, ks⟩ A1 A2 A3 := fun hf W1 hb => ⟨i1, hi, i3, v1.below hb, v2.below hb, v3.below hb, by simp only; omega⟩
  have cQ := fun (W1 : World) (hb : Below W.heap.size W W1) => quads_any W1 vs fs ks A1 A2 A3 k1 k2 k3 (by omega) (by omega) (by omega) hx (v2.below hb) (fun hf => hCg hf W1 hb)
  have hb0 : Below W.heap.size W (W.alloc (.cells #[.slice A1 vs.length k1, .slice A2 fs.length k2, .slice A3 ks.length k3] 26)) := bel_alloc (Below.refl _ _) _
  have hC0 : Blk (W.alloc (.cells #[.slice A1 vs.length k1, .slice A2 fs.length k2, .slice A3 ks.length k3] 26)) W.heap.size 26 #[.slice A1 vs.length k1, .slice A2 fs.length k2, .slice A3 ks.length k3] := Blk.new _ _ _ _ rfl
  go_enter Try.func3, Try.ntmps3
  go_upto_region 1 with (fail)
  generalize W.alloc (.cells #[.slice A1 vs.length k1, .slice A2 fs.length k2, .slice A3 ks.length k3] 26) = W0 at *
  go_upto_region 3 with (first | (go_at_call 7; (with_reducible refine (alive10_any _).mono ?_); rintro e W1 ⟨rfl, hb1⟩) | fail)
  have hB1 := bel_trans hb0 hb1
  have hC1 := hC0.below hb1
  have x0 : W1.cell? ⟨W.heap.size, 0, none⟩ = some (.slice A1 vs.length k1) := hC1.cell 0
  have x1 : W1.cell? ⟨W.heap.size, 1, none⟩ = some (.slice A2 fs.length k2) := hC1.cell 1
  have x2 : W1.cell? ⟨W.heap.size, 2, none⟩ = some (.slice A3 ks.length k3) := hC1.cell 2
  have xl := hC1.lt
  have cQ1 := cQ W1 hB1
  clear hb0 hC0 hb1 cQ hCg hx hi v1 v2 v3 i1 i2 i3 l1 l2 l3
  go_upto_region 6 with (first | (go_at_call 8; (with_reducible refine cQ1.mono ?_); rintro e W2 ⟨r, R1, R2, R3, c1, c2, c3, ok, rfl, hb2, hr1, hr2, hr3, hok⟩; replace hok := Lib.hid hok; cases ok) | fail)
  · go_ret
    exact ⟨rfl, by first | exact bel_alloc (bel_trans hB1 hb2) _ | exact bel_trans hB1 hb2⟩
  obtain ⟨fo, hcap⟩ := hok.out trivial
  have hB2 := bel_trans hB1 hb2
  clear hok x0 x1 x2 xl cQ1 hC1 hB1 hb2
  obtain ⟨rv, rf, rk⟩ := r
  simp only at *
  have hT3 : Blk (W2.alloc (.cells #[.slice R1 rv.length c1, .slice R2 rf.length c2, .slice R3 rk.length c3] 26)) W2.heap.size 26 #[.slice R1 rv.length c1, .slice R2 rf.length c2, .slice R3 rk.length c3] := Blk.new _ _ _ _ rfl
  have h23 : Below W2.heap.size W2 (W2.alloc (.cells #[.slice R1 rv.length c1, .slice R2 rf.length c2, .slice R3 rk.length c3] 26)) := bel_alloc (Below.refl _ _) _
  have hv3 := hr1.below h23
  have hf3 := hr2.below h23
  have hk3 := hr3.below h23
  have hB3 := bel_trans hB2 h23
  clear hr1 hr2 hr3 h23 hB2
  generalize W2.alloc (.cells #[.slice R1 rv.length c1, .slice R2 rf.length c2, .slice R3 rk.length c3] 26) = W3 at *
  generalize W2.heap.size = T at *
  have few := fo.few
  simp only at few
  have cB := pbuild_any W3 ⟨rv, rf, rk⟩ 0 R1 R2 R3 c1 c2 c3 ⟨fo.i1, fo.i2, fo.i3, hv3, hf3, hk3, by simp only; omega⟩ fo.surf fo.sharp fo.inp fo.four
  simp only at cB
  have t0 : W3.cell? ⟨T, 0, none⟩ = some (.slice R1 rv.length c1) := hT3.cell 0
  have t1 : W3.cell? ⟨T, 1, none⟩ = some (.slice R2 rf.length c2) := hT3.cell 1
  have t2 : W3.cell? ⟨T, 2, none⟩ = some (.slice R3 rk.length c3) := hT3.cell 2
  have tl := hT3.lt
  go_upto_region 7 with (first | (go_at_call 9; (with_reducible refine cB.mono ?_); rintro e W4 ⟨N, gL, rfl, hb4, hgl, hG, hNv, hNf, hNT, hNs⟩) | fail)
  have hB4 := bel_trans hB3 hb4
  have hT4 := hT3.below hb4
  have cT := built_any W4 (rv.length : Int) c2 rf R2 (hf3.below hb4) (by unfold i64B; omega) fo.i2 (by omega)
  clear t0 t1 t2 tl cB hT3 hB3 hv3 hf3 hk3 hb4
  have nok : NetOk N := netOk_of (c := ⟨rv, rf, rk⟩) hNv hNf hNT hNs fo.four (by simp only; omega)
  have hfl : ∀ x ∈ N.t.fans, x.length ≤ 9000 := fun x hx => by have := (fan_rng hNT hx).2; omega
  have hfp : ∀ v : Nat, v < N.vs.length → 0 < (N.t.fans.getD v []).length := fun v hv => fans_pos hNT (by rw [hNv] at hv; omega)
  have hinN : ∀ p ∈ N.vs, InP 65536 p := by rw [hNv]; exact fo.inp
  have hrfl : rf.length ≤ 1000 := by omega
  have hsurf := fo.surf
  have htf : tot rf ≤ 4000 := by omega
  replace hNf : N.fs = rf := hNf
  replace hNv : N.vs = rv := hNv
  clear few fo hNT hNs hcap
  have hpt : ∀ f, f < rf.length → ∀ u, u < 16 → I3 ((N.patch 0 f).pt u) := fun f hf u hu => by
    have x := patch_box nok co_x (lo := -65536) (hi := 65536) (by omega) (by omega) (fun p hp => by have h2 := hinN p hp; unfold InP at h2; omega) hfl hfp 0 (by rw [hNf]; exact hf) hu
    have y := patch_box nok co_y (lo := -65536) (hi := 65536) (by omega) (by omega) (fun p hp => by have h2 := hinN p hp; unfold InP at h2; omega) hfl hfp 0 (by rw [hNf]; exact hf) hu
    have z := patch_box nok co_z (lo := -65536) (hi := 65536) (by omega) (by omega) (fun p hp => by have h2 := hinN p hp; unfold InP at h2; omega) hfl hfp 0 (by rw [hNf]; exact hf) hu
    unfold I3 i64B; omega
  replace hpt := Lib.hid hpt
  replace hNf := Lib.hid hNf
  replace hsurf := Lib.hid hsurf
  clear nok hfl hfp hinN hNv
  have t0 : W4.cell? ⟨T, 0, none⟩ = some (.slice R1 rv.length c1) := hT4.cell 0
  have t1 : W4.cell? ⟨T, 1, none⟩ = some (.slice R2 rf.length c2) := hT4.cell 1
  have tl := hT4.lt
  go_upto_region 8 with (first | (go_at_call 10; (with_reducible refine cT.mono ?_); rintro e W5 ⟨B1, B2, B3, tt, d1, d2, d3, ee, rfl, hP⟩) | fail)
  have hgood := Lib.hid hP.good
  have hV5 := hP.isV
  have hb5 := hP.bel
  clear hP cT t0 t1 tl
  rcases hgood.out with ⟨rfl, _, hTT⟩ | ⟨rfl, hno, _⟩
  rotate_left
  · exact absurd hsurf.out hno
  have hU : Blk (W5.alloc (.cells #[.slice B1 tt.es.length d1, .slice B2 tt.fans.length d2, .slice B3 tt.rs.length d3] 37)) W5.heap.size 37 #[.slice B1 tt.es.length d1, .slice B2 tt.fans.length d2, .slice B3 tt.rs.length d3] := Blk.new _ _ _ _ rfl
  have hb6 : Below W4.heap.size W4 (W5.alloc (.cells #[.slice B1 tt.es.length d1, .slice B2 tt.fans.length d2, .slice B3 tt.rs.length d3] 37)) := bel_alloc hb5 _
  have hE6 := hV5.es.below (bel_alloc (Below.refl _ _) (.cells #[.slice B1 tt.es.length d1, .slice B2 tt.fans.length d2, .slice B3 tt.rs.length d3] 37))
  have hB6 := bel_trans hB4 hb6
  have hG6 := hG.below hb6
  have hT6 := hT4.below hb6
  clear hb5 hV5 hb6 hB4 hG hT4 hgood hsurf
  generalize W5.alloc (.cells #[.slice B1 tt.es.length d1, .slice B2 tt.fans.length d2, .slice B3 tt.rs.length d3] 37) = W6 at *
  generalize W5.heap.size = X at *
  have herng : ∀ e ∈ tt.es, e.f < (rf.length : Int) ∧ e.g < (rf.length : Int) := fun e he => by
    have hr := edge_is (n := (rv.length : Int)) hTT.edges he
    have g1 := face_rng hTT.walk.long e.a e.b
    have g2 := face_rng hTT.walk.long e.b e.a
    have f1 : e.f = faceOf (waysL 0 rf) e.a e.b := congrArg Ed.f hr
    have f2 : e.g = faceOf (waysL 0 rf) e.b e.a := congrArg Ed.g hr
    omega
  have hel : tt.es.length ≤ tot rf := by have h1 := edges_le hTT.walk hTT.edges; rw [waysL_len] at h1; exact h1
  replace herng := Lib.hid herng
  clear hTT
  have t1 : W6.cell? ⟨T, 1, none⟩ = some (.slice R2 rf.length c2) := hT6.cell 1
  have tl := hT6.lt
  go_upto_region 10 with (fail)
  clear t1 tl
  go_wp2
  go_loopw [9] (fun iv wr => ∃ i : Nat, iv = .int .i64 (i : Int) ∧ i ≤ tt.es.length ∧ Below W6.heap.size W6 wr) (fun iv _ => tt.es.length - (intOf iv).toNat)
  case atStart => exact ⟨0, rfl, by omega, Below.refl _ _⟩
  case round =>
    obtain ⟨i, rfl, hi, hBr⟩ := hrel
    rename World => wr
    have x0 : wr.cell? ⟨X, 0, none⟩ = some (.slice B1 tt.es.length d1) := (hU.below hBr).cell 0
    have xl := (hU.below hBr).lt
    by_cases hlt : i < tt.es.length
    · obtain ⟨be, oe, rfl, hbe, hcE⟩ := (hE6.below hBr) (by omega)
      obtain ⟨e0, e1, e2, e3⟩ := hcE i hlt
      obtain ⟨hfF, hgF⟩ := herng.out _ (List.getElem_mem hlt)
      generalize tt.es[i] = ed at *
      clear hcE
      have q0 : (0 : Int) ≤ (i : Int) := by omega
      have q1 : (i : Int) < (tt.es.length : Int) := by omega
      by_cases hneg : ed.f < 0
      · go_wp2
        go_roundw
        case rel => exact ⟨i + 1, by go_num, by omega, bel_alloc hBr _⟩
        case measure => simp [intOf]; omega
      · by_cases hneg2 : ed.g < 0
        · go_wp2
          go_roundw
          case rel => exact ⟨i + 1, by go_num, by omega, bel_alloc hBr _⟩
          case measure => simp [intOf]; omega
        · obtain ⟨ea, eb, ef, eg⟩ := ed
          simp only at e0 e1 e2 e3 hfF hgF hneg hneg2
          obtain ⟨nf, rfl⟩ := Int.eq_ofNat_of_zero_le (show 0 ≤ ef by omega)
          obtain ⟨ng, rfl⟩ := Int.eq_ofNat_of_zero_le (show 0 ≤ eg by omega)
          have hnf : nf < rf.length := by omega
          have hng : ng < rf.length := by omega
          have q2 : (0 : Int) ≤ (nf : Int) := by omega
          have q3 : (0 : Int) ≤ (ng : Int) := by omega
          clear hneg hneg2
          go_upto_region 15 with (fail)
          have hDA : Blk (wr.alloc (.cells #[.int .i64 ea, .int .i64 eb, .int .i64 (nf : Int), .int .i64 (ng : Int)] 41)) wr.heap.size 41 #[.int .i64 ea, .int .i64 eb, .int .i64 (nf : Int), .int .i64 (ng : Int)] := Blk.new _ _ _ _ rfl
          have hBA := bel_alloc hBr (.cells #[.int .i64 ea, .int .i64 eb, .int .i64 (nf : Int), .int .i64 (ng : Int)] 41)
          clear hBr e0 e1 e2 e3 x0 xl hbe
          generalize wr.alloc (.cells #[.int .i64 ea, .int .i64 eb, .int .i64 (nf : Int), .int .i64 (ng : Int)] 41) = wA at *
          generalize wr.heap.size = gD at *
          have hGA := hG6.below hBA
          have dd2 := hDA.cell 2
          have dl := hDA.lt
          have gl := hGA.lt
          go_upto_region 16 with (first | (refine load_PtAt rfl _ rfl gL rf.length nf hnf (N.patch 0) rfl _ hGA ?_; simp only [Act.put, List.setIfInBounds_toArray, List.set_cons_succ, List.set_cons_zero]) | (refine wpList_val rfl _ _ (alloc_Pt _ _ rfl wA wA.heap.size rfl) ?_; simp only [Act.put, List.setIfInBounds_toArray, List.set_cons_succ, List.set_cons_zero]) | (refine store_Pt rfl _ _ rfl wA.heap.size (N.patch 0 nf) Pt0 rfl rfl (Blk.new _ _ _ _ rfl) ?_; simp only [Act.put, List.setIfInBounds_toArray, List.set_cons_succ, List.set_cons_zero]) | fail)
          have hPB : Blk ((wA.alloc (.cells Pt0.row 48)).setRow wA.heap.size (N.patch 0 nf).row) wA.heap.size 48 (N.patch 0 nf).row := (Blk.new _ _ _ _ rfl).setRow _
          have hAB : Below wA.heap.size wA ((wA.alloc (.cells Pt0.row 48)).setRow wA.heap.size (N.patch 0 nf).row) := bel_setRow (bel_alloc (Below.refl _ _) _) (Nat.le_refl _) _
          have hBB := bel_trans hBA hAB
          have hDB := hDA.below hAB
          clear hBA hDA hGA hAB dl gl
          generalize (wA.alloc (.cells Pt0.row 48)).setRow wA.heap.size (N.patch 0 nf).row = wB at *
          generalize wA.heap.size = gpB at *
          have hGB := hG6.below hBB
          have dd3 := hDB.cell 3
          have dl := hDB.lt
          have gl := hGB.lt
          go_upto_region 17 with (first | (refine load_PtAt rfl _ rfl gL rf.length ng hng (N.patch 0) rfl _ hGB ?_; simp only [Act.put, List.setIfInBounds_toArray, List.set_cons_succ, List.set_cons_zero]) | (refine wpList_val rfl _ _ (alloc_Pt _ _ rfl wB wB.heap.size rfl) ?_; simp only [Act.put, List.setIfInBounds_toArray, List.set_cons_succ, List.set_cons_zero]) | (refine store_Pt rfl _ _ rfl wB.heap.size (N.patch 0 ng) Pt0 rfl rfl (Blk.new _ _ _ _ rfl) ?_; simp only [Act.put, List.setIfInBounds_toArray, List.set_cons_succ, List.set_cons_zero]) | fail)
          have hPC : Blk ((wB.alloc (.cells Pt0.row 48)).setRow wB.heap.size (N.patch 0 ng).row) wB.heap.size 48 (N.patch 0 ng).row := (Blk.new _ _ _ _ rfl).setRow _
          have kBC : Below wB.heap.size wB ((wB.alloc (.cells Pt0.row 48)).setRow wB.heap.size (N.patch 0 ng).row) := bel_setRow (bel_alloc (Below.refl _ _) _) (Nat.le_refl _) _
          have hBC := bel_trans hBB kBC
          have hDC := hDB.below kBC
          have hPBC := hPB.below kBC
          clear hBB hDB hGB kBC hPB dl gl
          generalize (wB.alloc (.cells Pt0.row 48)).setRow wB.heap.size (N.patch 0 ng).row = wC at *
          generalize wB.heap.size = gpC at *
          go_upto_region 18 with (fail)
          go_loopw [13] (fun iv wq => ∃ x : Nat, iv = .int .i64 (x : Int) ∧ x ≤ 4 ∧ Below wC.heap.size wC wq) (fun iv _ => 4 - (intOf iv).toNat)
          case atStart => exact ⟨0, rfl, by omega, Below.refl _ _⟩
          case round =>
            obtain ⟨x, rfl, hx4, hBx⟩ := hrel
            rename World => wx
            by_cases hxl : x < 4
            · have q4 : (0 : Int) ≤ (x : Int) := by omega
              have q5 : (x : Int) < 4 := by omega
              go_upto_region 21 with (fail)
              go_loopw [14] (fun iv wq => ∃ y : Nat, iv = .int .i64 (y : Int) ∧ y ≤ 4 ∧ Below wC.heap.size wC wq) (fun iv _ => 4 - (intOf iv).toNat)
              case atStart => exact ⟨0, rfl, by omega, hBx⟩
              case round =>
                obtain ⟨y, rfl, hy4, hBq⟩ := hrel
                rename World => wq
                by_cases hyl : y < 4
                · have q6 : (0 : Int) ≤ (y : Int) := by omega
                  have q7 : (y : Int) < 4 := by omega
                  have hx1 : (x + 1) % 4 < 4 := Nat.mod_lt _ (by omega)
                  have hy1 : (y + 1) % 4 < 4 := Nat.mod_lt _ (by omega)
                  have ex : Int.tmod ((x : Int) + 1) 4 = (((x + 1) % 4 : Nat) : Int) := by rw [Int.tmod_eq_emod_of_nonneg (by omega)]; omega
                  have ey : Int.tmod ((y : Int) + 1) 4 = (((y + 1) % 4 : Nat) : Int) := by rw [Int.tmod_eq_emod_of_nonneg (by omega)]; omega
                  have hss := fun h1 h2 => side_share N 0 (f := nf) (g := ng) hxl hyl h1 h2
                  have a1 := patK_at (hPBC.below hBq) hxl
                  have a2 := patK_at (hPBC.below hBq) hx1
                  have a3 := patK_at (hPC.below hBq) hyl
                  have a4 := patK_at (hPC.below hBq) hy1
                  rw [show (N.patch 0 nf).co = N.fs.getD nf [] from rfl] at a1 a2
                  rw [show (N.patch 0 ng).co = N.fs.getD ng [] from rfl] at a3 a4
                  generalize (x + 1) % 4 = x' at *
                  generalize (y + 1) % 4 = y' at *
                  have q8 : (0 : Int) ≤ (x' : Int) := by omega
                  have q9 : (x' : Int) < 4 := by omega
                  have q10 : (0 : Int) ≤ (y' : Int) := by omega
                  have q11 : (y' : Int) < 4 := by omega
                  generalize (N.fs.getD nf []).getD x 0 = v1 at *
                  generalize (N.fs.getD nf []).getD x' 0 = v2 at *
                  generalize (N.fs.getD ng []).getD y 0 = v3 at *
                  generalize (N.fs.getD ng []).getD y' 0 = v4 at *
                  replace hss := Lib.hid hss
                  have g0 : wq.cell? ⟨gD, 0, none⟩ = some (.int .i64 ea) := (hDC.below hBq).cell 0
                  have g1 : wq.cell? ⟨gD, 1, none⟩ = some (.int .i64 eb) := (hDC.below hBq).cell 1
                  have gl1 := (hDC.below hBq).lt
                  have gl2 := (hPBC.below hBq).lt
                  have gl3 := (hPC.below hBq).lt
                  rcases Bool.eq_false_or_eq_true (v1 != ea) with h1 | h1
                  · go_upto_region 23 with (fail)
                    refine wp_region_grow (by kernel_rfl) (by kernel_rfl) ?_
                    repeat (go_big_quiet_step ((fail)))
                    refine wpQuiet_nil ?_
                    rintro _ ⟨xg2, rfl⟩
                    have hb9 := bel_grow hBq xg2
                    go_wp2
                    go_roundw
                    case rel => exact ⟨y + 1, by go_num, by omega, hb9⟩
                    case measure => simp [intOf]; omega
                  rcases Bool.eq_false_or_eq_true (v2 != eb) with h2 | h2
                  · go_upto_region 23 with (fail)
                    refine wp_region_grow (by kernel_rfl) (by kernel_rfl) ?_
                    repeat (go_big_quiet_step ((fail)))
                    refine wpQuiet_nil ?_
                    rintro _ ⟨xg2, rfl⟩
                    have hb9 := bel_grow hBq xg2
                    go_wp2
                    go_roundw
                    case rel => exact ⟨y + 1, by go_num, by omega, hb9⟩
                    case measure => simp [intOf]; omega
                  rcases Bool.eq_false_or_eq_true (v3 != eb) with h3 | h3
                  · go_upto_region 23 with (fail)
                    refine wp_region_grow (by kernel_rfl) (by kernel_rfl) ?_
                    repeat (go_big_quiet_step ((fail)))
                    refine wpQuiet_nil ?_
                    rintro _ ⟨xg2, rfl⟩
                    have hb9 := bel_grow hBq xg2
                    go_wp2
                    go_roundw
                    case rel => exact ⟨y + 1, by go_num, by omega, hb9⟩
                    case measure => simp [intOf]; omega
                  rcases Bool.eq_false_or_eq_true (v4 != ea) with h4 | h4
                  · go_upto_region 23 with (fail)
                    refine wp_region_grow (by kernel_rfl) (by kernel_rfl) ?_
                    repeat (go_big_quiet_step ((fail)))
                    refine wpQuiet_nil ?_
                    rintro _ ⟨xg2, rfl⟩
                    have hb9 := bel_grow hBq xg2
                    go_wp2
                    go_roundw
                    case rel => exact ⟨y + 1, by go_num, by omega, hb9⟩
                    case measure => simp [intOf]; omega
                  go_upto_region 23 with (fail)
                  refine wp_region_grow (by kernel_rfl) (by kernel_rfl) ?_
                  repeat (go_big_quiet_step ((fail)))
                  refine wpQuiet_nil ?_
                  rintro _ ⟨xg2, rfl⟩
                  have hb9 := bel_grow hBq xg2
                  go_upto_region 24 with (fail)
                  have hPB9 := hPBC.below hb9
                  have hPC9 := hPC.below hb9
                  have l9 := hPB9.lt
                  have l9c := hPC9.lt
                  generalize grow wq xg2 = w9 at *
                  go_upto_region 25 with (first | (refine load_Pt rfl _ rfl gpB rfl (N.patch 0 nf) hPB9 ?_; simp only [Act.put, List.setIfInBounds_toArray, List.set_cons_succ, List.set_cons_zero]) | (go_at_call 11; (with_reducible refine (alongS_any w9 (N.patch 0 nf) x hxl).mono ?_); rintro e wD ⟨rfl, hbwD⟩) | (refine wpList_val rfl _ _ (alloc_P4 _ _ rfl wD) ?_; simp only [Act.put, List.setIfInBounds_toArray, List.set_cons_succ, List.set_cons_zero]) | (refine store_P4 rfl _ _ rfl wD.heap.size (sideP (N.patch 0 nf) x) (fun _ => Z3) rfl rfl (Blk.new _ _ _ _ rfl) ?_; simp only [Act.put, List.setIfInBounds_toArray, List.set_cons_succ, List.set_cons_zero]) | fail)
                  have hg15 : Blk ((wD.alloc (.cells (rowCs 3 4 (pC fun _ => Z3)) 46)).setRow wD.heap.size (rowCs 3 4 (pC (sideP (N.patch 0 nf) x)))) wD.heap.size 46 (rowCs 3 4 (pC (sideP (N.patch 0 nf) x))) := (Blk.new _ _ _ _ rfl).setRow _
                  have kg15 : Below wD.heap.size wD ((wD.alloc (.cells (rowCs 3 4 (pC fun _ => Z3)) 46)).setRow wD.heap.size (rowCs 3 4 (pC (sideP (N.patch 0 nf) x)))) := bel_setRow (bel_alloc (Below.refl _ _) _) (Nat.le_refl _) _
                  have hBg15 := bel_trans (bel_trans hb9 hbwD) kg15
                  have hPCD := hPC9.below (bel_trans hbwD kg15)
                  clear hPB9 hPC9 l9 l9c
                  generalize (wD.alloc (.cells (rowCs 3 4 (pC fun _ => Z3)) 46)).setRow wD.heap.size (rowCs 3 4 (pC (sideP (N.patch 0 nf) x))) = wg15 at *
                  generalize wD.heap.size = g15 at *
                  have l10 := hPCD.lt
                  go_upto_region 26 with (first | (refine load_Pt rfl _ rfl gpC rfl (N.patch 0 ng) hPCD ?_; simp only [Act.put, List.setIfInBounds_toArray, List.set_cons_succ, List.set_cons_zero]) | (go_at_call 11; (with_reducible refine (alongS_any wg15 (N.patch 0 ng) y hyl).mono ?_); rintro e wE ⟨rfl, hbwE⟩) | (refine wpList_val rfl _ _ (alloc_P4 _ _ rfl wE) ?_; simp only [Act.put, List.setIfInBounds_toArray, List.set_cons_succ, List.set_cons_zero]) | (refine store_P4 rfl _ _ rfl wE.heap.size (sideP (N.patch 0 ng) y) (fun _ => Z3) rfl rfl (Blk.new _ _ _ _ rfl) ?_; simp only [Act.put, List.setIfInBounds_toArray, List.set_cons_succ, List.set_cons_zero]) | fail)
                  have hg16 : Blk ((wE.alloc (.cells (rowCs 3 4 (pC fun _ => Z3)) 46)).setRow wE.heap.size (rowCs 3 4 (pC (sideP (N.patch 0 ng) y)))) wE.heap.size 46 (rowCs 3 4 (pC (sideP (N.patch 0 ng) y))) := (Blk.new _ _ _ _ rfl).setRow _
                  have kg16 : Below wE.heap.size wE ((wE.alloc (.cells (rowCs 3 4 (pC fun _ => Z3)) 46)).setRow wE.heap.size (rowCs 3 4 (pC (sideP (N.patch 0 ng) y)))) := bel_setRow (bel_alloc (Below.refl _ _) _) (Nat.le_refl _) _
                  have hBg16 := bel_trans (bel_trans hBg15 hbwE) kg16
                  have h15E := hg15.below (bel_trans hbwE kg16)
                  clear hPCD l10 hg15
                  generalize (wE.alloc (.cells (rowCs 3 4 (pC fun _ => Z3)) 46)).setRow wE.heap.size (rowCs 3 4 (pC (sideP (N.patch 0 ng) y))) = wg16 at *
                  generalize wE.heap.size = g16 at *
                  have e1 : v1 = ea := by simpa using h1
                  have e2 : v2 = eb := by simpa using h2
                  have e3 : v3 = eb := by simpa using h3
                  have e4 : v4 = ea := by simpa using h4
                  obtain ⟨⟨s0, s1, s2, s3⟩, m1, m2⟩ := hss.out (by rw [e1, e4]) (by rw [e2, e3])
                  have hI : ∀ k, k < 4 → I3 (sideP (N.patch 0 ng) y k) := fun k hk => hpt.out ng hng _ (rowN_lt hyl hk)
                  have i0 := hI 0 (by omega)
                  have i1 := hI 1 (by omega)
                  have i2 := hI 2 (by omega)
                  have i3 := hI 3 (by omega)
                  rw [rC4] at h15E hg16
                  rw [s0, s1, s2, s3] at h15E
                  have n1 := patM_at (hPBC.below hBg16) hxl
                  have n2 := patM_at (hPBC.below hBg16) hx1
                  have n3 := patM_at (hPC.below hBg16) hyl
                  have n4 := patM_at (hPC.below hBg16) hy1
                  rw [m1] at n1
                  rw [m2] at n2
                  generalize sideP (N.patch 0 ng) y 0 = r0 at *
                  generalize sideP (N.patch 0 ng) y 1 = r1 at *
                  generalize sideP (N.patch 0 ng) y 2 = r2 at *
                  generalize sideP (N.patch 0 ng) y 3 = r3 at *
                  generalize (N.patch 0 ng).nm y' = nn1 at *
                  generalize (N.patch 0 ng).nm y = nn2 at *
                  obtain ⟨n10, n11, n12⟩ := n1
                  obtain ⟨n20, n21, n22⟩ := n2
                  obtain ⟨n30, n31, n32⟩ := n3
                  obtain ⟨n40, n41, n42⟩ := n4
                  have cg15_0 : wg16.cell? ⟨g15, 0, none⟩ = some (.int .i64 r3.x) := h15E.cell 0
                  have cg15_1 : wg16.cell? ⟨g15, 1, none⟩ = some (.int .i64 r3.y) := h15E.cell 1
                  have cg15_2 : wg16.cell? ⟨g15, 2, none⟩ = some (.int .i64 r3.z) := h15E.cell 2
                  have cg15_3 : wg16.cell? ⟨g15, 3, none⟩ = some (.int .i64 r2.x) := h15E.cell 3
                  have cg15_4 : wg16.cell? ⟨g15, 4, none⟩ = some (.int .i64 r2.y) := h15E.cell 4
                  have cg15_5 : wg16.cell? ⟨g15, 5, none⟩ = some (.int .i64 r2.z) := h15E.cell 5
                  have cg15_6 : wg16.cell? ⟨g15, 6, none⟩ = some (.int .i64 r1.x) := h15E.cell 6
                  have cg15_7 : wg16.cell? ⟨g15, 7, none⟩ = some (.int .i64 r1.y) := h15E.cell 7
                  have cg15_8 : wg16.cell? ⟨g15, 8, none⟩ = some (.int .i64 r1.z) := h15E.cell 8
                  have cg15_9 : wg16.cell? ⟨g15, 9, none⟩ = some (.int .i64 r0.x) := h15E.cell 9
                  have cg15_10 : wg16.cell? ⟨g15, 10, none⟩ = some (.int .i64 r0.y) := h15E.cell 10
                  have cg15_11 : wg16.cell? ⟨g15, 11, none⟩ = some (.int .i64 r0.z) := h15E.cell 11
                  have cg16_0 : wg16.cell? ⟨g16, 0, none⟩ = some (.int .i64 r0.x) := hg16.cell 0
                  have cg16_1 : wg16.cell? ⟨g16, 1, none⟩ = some (.int .i64 r0.y) := hg16.cell 1
                  have cg16_2 : wg16.cell? ⟨g16, 2, none⟩ = some (.int .i64 r0.z) := hg16.cell 2
                  have cg16_3 : wg16.cell? ⟨g16, 3, none⟩ = some (.int .i64 r1.x) := hg16.cell 3
                  have cg16_4 : wg16.cell? ⟨g16, 4, none⟩ = some (.int .i64 r1.y) := hg16.cell 4
                  have cg16_5 : wg16.cell? ⟨g16, 5, none⟩ = some (.int .i64 r1.z) := hg16.cell 5
                  have cg16_6 : wg16.cell? ⟨g16, 6, none⟩ = some (.int .i64 r2.x) := hg16.cell 6
                  have cg16_7 : wg16.cell? ⟨g16, 7, none⟩ = some (.int .i64 r2.y) := hg16.cell 7
                  have cg16_8 : wg16.cell? ⟨g16, 8, none⟩ = some (.int .i64 r2.z) := hg16.cell 8
                  have cg16_9 : wg16.cell? ⟨g16, 9, none⟩ = some (.int .i64 r3.x) := hg16.cell 9
                  have cg16_10 : wg16.cell? ⟨g16, 10, none⟩ = some (.int .i64 r3.y) := hg16.cell 10
                  have cg16_11 : wg16.cell? ⟨g16, 11, none⟩ = some (.int .i64 r3.z) := hg16.cell 11
                  have lg15 := h15E.lt
                  have lg16 := hg16.lt
                  have lgB := (hPBC.below hBg16).lt
                  have lgC := (hPC.below hBg16).lt
                  clear s0 s1 s2 s3 m1 m2 hI h15E hg16 e1 e2 e3 e4 a1 a2 a3 a4 g0 g1 gl1 gl2 gl3 h1 h2 h3 h4 hss hBq
                  refine wp_region_grow (by kernel_rfl) (by kernel_rfl) ?_
                  repeat (go_big_quiet_step ((fail)))
                  refine quiet_neq4 _ _ rfl (by kernel_rfl) (fun k => if k = 0 then r3 else if k = 1 then r2 else if k = 2 then r1 else r0) (by first | rfl | kernel_rfl) (by first | rfl | kernel_rfl) (fun k hk => by rcases (by omega : k = 0 ∨ k = 1 ∨ k = 2 ∨ k = 3) with rfl | rfl | rfl | rfl <;> (simp; assumption)) ?_
                  simp only [Act.put, List.setIfInBounds_toArray, List.set_cons_succ, List.set_cons_zero]
                  repeat (go_big_quiet_step ((fail)))
                  refine wpQuiet_nil ?_
                  rintro _ ⟨xg3, rfl⟩
                  have hbZ := bel_grow hBg16 xg3
                  go_wp2
                  go_roundw
                  case rel => exact ⟨y + 1, by go_num, by omega, hbZ⟩
                  case measure => simp [intOf]; omega
                · obtain rfl : y = 4 := by omega
                  rw [show ((4 : Nat) : Int) = 4 from rfl]
                  go_wp2
                  go_roundw
                  case rel => exact ⟨x + 1, by go_num, by omega, hBq⟩
                  case measure => simp [intOf]; omega
            · obtain rfl : x = 4 := by omega
              rw [show ((4 : Nat) : Int) = 4 from rfl]
              go_wp2
              go_roundw
              case rel => exact ⟨i + 1, by go_num, by omega, bel_trans hBC hBx⟩
              case measure => simp [intOf]; omega
    · obtain rfl : i = tt.es.length := by omega
      have hBW := bel_trans hB6 hBr
      go_wp2
      go_ret
      exact ⟨rfl, hBW⟩

theorem own : ownKnob Try.prog.godebug = none := by kernel_rfl
set_option maxRecDepth 100000 in
theorem lifted (os : Os) (started : os.Started) (H : Type) (enc : TypeId × Value → H) :
    ReturnsInHanded {} Try.checked os 3 .any (Rows.patchSharesSpec.pre6 enc Try.prog Try.f3 Rows.patchSharesRow.domain false) (Rows.patchSharesSpec.post enc Try.prog Try.f3 false true false false) := by
  refine returnsInHanded_of_change_sized (C := Try.checked) own started (by kernel_rfl) Try.func3
    (ChangeSpec.witness6 (enc := enc) (C := Try.checked) false ⟨#[], #[.agg #[.slice none 0 0, .slice none 0 0, .slice none 0 0]], []⟩ 12 (by kernel_rfl) (by kernel_rfl) (by kernel_rfl) (by kernel_rfl)) ?_
  intro W base args ds gs before hval0 hW hcnd hwt _
  have hval : ∀ (j : Nat) t v, Try.f3.params[j]? = some t → args[j]? = some v → Value.okWide Try.prog W .any base t v := hval0
  have hW' := hW
  obtain ⟨p, q, hA0, hV, rfl, hfz, hnd⟩ := hW
  have hA : DataW.TrodAll enc Try.prog W 0 (fun _ => true) true Try.f3.params.toList args.toList ds p := hA0
  rw [Try.params3] at hA hval
  obtain ⟨v0, vs0, d0, ds0, p0, q0, hargs, rfl, rfl, h0, r0⟩ := trodAll_cons hA
  obtain ⟨rfl, rfl, rfl⟩ := trodAll_nil r0
  obtain rfl : args = #[v0] := by cases args; simp_all
  obtain ⟨cs0, rfl, hsz0⟩ := okWide_struct Try.underlying26 (hval 0 26 v0 rfl rfl)
  rw [szCg] at hsz0
  have hTW0 : TW enc Try.prog W 0 (fun _ => true) true 26 cs0.toList := by
    obtain ⟨fu, hfu⟩ := h0
    refine ⟨fu, _, hfu, fun n hn => ?_⟩
    have := List.all_eq_true.1 hwt n (DataW.weights_mem_each (j := 0) (t := 26) (d := d0) (by rw [Try.params3]; rfl) (by rfl) n hn)
    simpa using this
  obtain ⟨c0, A01, A02, A03, k01, k02, k03, ecs0, hraw0⟩ := open_Cage (by simpa using hsz0) hTW0
  obtain rfl : cs0 = #[.slice A01 c0.vs.length k01, .slice A02 c0.fs.length k02, .slice A03 c0.ks.length k03] := Array.ext' ecs0
  clear hTW0
  refine (walk W c0 A01 A02 A03 k01 k02 k03 hraw0).mono fun e W' ⟨he, hb⟩ => ?_
  subst he
  exact ⟨_, rfl, law_post (tb := 4) (by kernel_rfl) (by kernel_rfl) rfl rfl Try.underlying4 rfl rfl rfl hW' hb⟩

theorem over : Rows.patchSharesRow.holds Try.pinned (OpenSpec.ofChange Rows.patchSharesSpec) :=
  OpenClaim.holds_of_wide 3 Try.f3 rfl rfl rfl rfl rfl rfl rfl ⟨rfl, rfl, rfl, rfl, rfl⟩ rfl rfl rfl rfl rfl (by kernel_rfl) Try.func3 (by kernel_rfl)
    (of_decide_eq_true (by kernel_rfl)) (by unfold Func.isWrapper; first | (rw [if_pos (by decide +kernel)]; kernel_rfl) | (rw [if_neg (by decide +kernel)]; exact ⟨rfl, rfl⟩))
    (fun os started H enc _ => lifted os started H enc)

theorem proved : Rows.PatchSharesSaid :=
  over
#print axioms proved
end Go.Proofs.Ytgmifpicilfcdab.patchShares
