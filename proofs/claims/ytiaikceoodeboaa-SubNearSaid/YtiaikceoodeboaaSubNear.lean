/- SubNear holds for every input: the row, out of the walk. No condition. -/
import Derived.SizedLaws
import Derived.Test.YtiaikceoodeboaaRows
import Derived.Test.YtiaikceoodeboaaSubNt
import Derived.Test.YtiaikceoodeboaaC2
import Derived.Test.YtiaikceoodeboaaC13
import Derived.Test.YtiaikceoodeboaaC14
namespace Go.Proofs.Ytiaikceoodeboaa.subNear
open Go.ChangeShapes Go.WideShapes Go.ChangeAt Go.RowKit
set_option linter.unusedVariables false
set_option linter.unusedSimpArgs false
set_option linter.unnecessarySimpa false
set_option maxRecDepth 100000
set_option maxHeartbeats 16000000 in
theorem walk (W : World) (c : Cg) (A1 A2 A3 : Option Addr) (k1 k2 k3 : Nat) (hc : RawC W c A1 A2 A3) :
    Calls Try.prog 3 #[.agg #[.slice A1 c.vs.length k1, .slice A2 c.fs.length k2, .slice A3 c.ks.length k3]] W fun e W' => e = .returned (.bool true) ∧ Below W.heap.size W W' := by
  obtain ⟨i0, hi0, hz0, hz1, hz2⟩ := info_parts infoV
  obtain ⟨vs, fs, ks⟩ := c
  obtain ⟨l1, l2, l3, i1, i2, i3, v1, v2, v3⟩ := hc
  simp only at l1 l2 l3 i1 i2 i3 v1 v2 v3 ⊢
  obtain ⟨hx, hi⟩ := row_lens i2
  rw [reach_num] at l1 l2 l3
  have hCg : ∀ (hf : vs.length + ks.length + fs.length + tot fs ≤ 300) (W1 : World), Below W.heap.size W W1 → CgV W1 ⟨vs, fs, ks⟩ A1 A2 A3 := fun hf W1 hb => ⟨i1, hi, i3, v1.below hb, v2.below hb, v3.below hb, by simp only; omega⟩
  have cG := fun (W1 : World) (hb : Below W.heap.size W W1) => great9_any W1 A1 A2 A3 vs.length ks.length k1 k2 k3 fs (v2.below hb) (by omega) (by omega) (by omega) hx
  have hb0 : Below W.heap.size W (W.alloc (.cells #[.slice A1 vs.length k1, .slice A2 fs.length k2, .slice A3 ks.length k3] 26)) := bel_alloc (Below.refl _ _) _
  have hC0 : Blk (W.alloc (.cells #[.slice A1 vs.length k1, .slice A2 fs.length k2, .slice A3 ks.length k3] 26)) W.heap.size 26 #[.slice A1 vs.length k1, .slice A2 fs.length k2, .slice A3 ks.length k3] := Blk.new _ _ _ _ rfl
  go_enter Try.func3, Try.ntmps3
  go_upto_region 1 with (fail)
  generalize W.alloc (.cells #[.slice A1 vs.length k1, .slice A2 fs.length k2, .slice A3 ks.length k3] 26) = W0 at *
  go_upto_region 3 with (first | (go_at_call 10; (with_reducible refine (alive9_any _).mono ?_); rintro e W1 ⟨rfl, hb1⟩) | fail)
  have hB1 := bel_trans hb0 hb1
  have hC1 := hC0.below hb1
  have x0 : W1.cell? ⟨W.heap.size, 0, none⟩ = some (.slice A1 vs.length k1) := hC1.cell 0
  have x1 : W1.cell? ⟨W.heap.size, 1, none⟩ = some (.slice A2 fs.length k2) := hC1.cell 1
  have x2 : W1.cell? ⟨W.heap.size, 2, none⟩ = some (.slice A3 ks.length k3) := hC1.cell 2
  have xl := hC1.lt
  have cG1 := cG W1 hB1
  clear hb0 hC0 hb1 cG
  go_upto_region 5 with (first | (go_at_call 11; (with_reducible refine cG1.mono ?_); rintro e W2 ⟨bb, rfl, hb2, hgr⟩; have hB2 := bel_trans hB1 hb2; replace hgr := Lib.hid hgr; cases bb) | fail)
  rotate_left
  · go_ret
    exact ⟨rfl, hB2⟩
  obtain ⟨hg1, hg2⟩ := hgr.out trivial
  have hC2 := hC1.below hb2
  clear x0 x1 x2 xl cG1 hC1 hB1 hb2 hgr
  go_wp2
  go_loopw [3] (fun iv wz => W2 = wz ∧ ∃ i : Nat, iv = .int .i64 (i : Int) ∧ i ≤ fs.length ∧ Hid (∀ k (h : k < fs.length), k < i → fs[k].length ≤ 8)) (fun iv _ => fs.length - (intOf iv).toNat)
  case atStart => exact ⟨rfl, 0, rfl, by omega, Lib.hid (fun k h h0 => by omega)⟩
  case round =>
    obtain ⟨rfl, i, rfl, hi1, h8⟩ := hrel
    have x1 : W2.cell? ⟨W.heap.size, 1, none⟩ = some (.slice A2 fs.length k2) := hC2.cell 1
    have xl := hC2.lt
    by_cases hlt : i < fs.length
    · as_aux_lemma =>
        obtain ⟨ba, oa, Bf, mf, rfl, hba, hcell, hIL⟩ := (v2.below hB2).at_ i hlt
        have q0 : (0 : Int) ≤ (i : Int) := by omega
        have q1 : (i : Int) < (fs.length : Int) := by omega
        obtain ⟨n, hn⟩ : ∃ n, fs[i].length = n := ⟨_, rfl⟩
        rw [hn] at hcell
        replace hn := Lib.hid hn
        clear hIL hC2 hCg
        by_cases h9 : (8 : Int) < (n : Int)
        · go_wp2
          go_ret
          exact ⟨rfl, hB2⟩
        · go_wp2
          go_roundw
          case rel => exact ⟨trivial, i + 1, by go_num, by omega, Lib.hid (fun k h h0 => by
            rcases Nat.lt_or_ge k i with h1 | h1
            · exact h8.out k h h1
            · obtain rfl : k = i := by omega
              rw [hn.out]; omega)⟩
          case measure => simp [intOf]; omega
    · as_aux_lemma =>
        obtain rfl : i = fs.length := by omega
        replace h8 : Hid (∀ x ∈ fs, x.length ≤ 8) := Lib.hid (fun x hx => by obtain ⟨k, hk, rfl⟩ := List.getElem_of_mem hx; exact h8.out k hk hk)
        have cL := level_any W2 ⟨vs, fs, ks⟩ A1 A2 A3 k1 k2 k3 (hCg hg2 W2 hB2)
        simp only at cL
        have x0 : W2.cell? ⟨W.heap.size, 0, none⟩ = some (.slice A1 vs.length k1) := hC2.cell 0
        have x2 : W2.cell? ⟨W.heap.size, 2, none⟩ = some (.slice A3 ks.length k3) := hC2.cell 2
        clear hlt hi1
        go_upto_region 11 with (first | (go_at_call 12; (with_reducible refine cL.mono ?_); rintro e W3 ⟨r, R1, R2, R3, c1, c2, c3, er, rfl, hb3, h1, h2, h3, hL⟩) | fail)
        have hT : Blk (W3.alloc (.cells #[.slice R1 r.vs.length c1, .slice R2 r.fs.length c2, .slice R3 r.ks.length c3] 26)) W3.heap.size 26 #[.slice R1 r.vs.length c1, .slice R2 r.fs.length c2, .slice R3 r.ks.length c3] := Blk.new _ _ _ _ rfl
        have hb4 : Below W2.heap.size W2 (W3.alloc (.cells #[.slice R1 r.vs.length c1, .slice R2 r.fs.length c2, .slice R3 r.ks.length c3] 26)) := bel_alloc hb3 _
        have h1b := h1.below (bel_alloc (Below.refl _ _) (.cells #[.slice R1 r.vs.length c1, .slice R2 r.fs.length c2, .slice R3 r.ks.length c3] 26))
        clear x0 x1 x2 xl cL h1 h2 h3 hb3
        generalize W3.alloc (.cells #[.slice R1 r.vs.length c1, .slice R2 r.fs.length c2, .slice R3 r.ks.length c3] 26) = W4 at *
        generalize W3.heap.size = T at *
        have hB4 := bel_trans hB2 hb4
        have hC4 := hC2.below hb4
        clear hC2 hb4
        have cB := built_any W4 (vs.length : Int) k2 fs A2 (v2.below hB4) (by unfold i64B; omega) hi (by omega)
        have x0 : W4.cell? ⟨W.heap.size, 0, none⟩ = some (.slice A1 vs.length k1) := hC4.cell 0
        have x1 : W4.cell? ⟨W.heap.size, 1, none⟩ = some (.slice A2 fs.length k2) := hC4.cell 1
        have xl := hC4.lt
        replace hL := Lib.hid hL
        go_upto_region 12 with (first | (go_at_call 13; (with_reducible refine cB.mono ?_); rintro e W5 ⟨B1, B2, B3, t, d1, d2, d3, ee, rfl, hP⟩) | fail)
        have hX : Blk (W5.alloc (.cells #[.slice B1 t.es.length d1, .slice B2 t.fans.length d2, .slice B3 t.rs.length d3] 36)) W5.heap.size 36 #[.slice B1 t.es.length d1, .slice B2 t.fans.length d2, .slice B3 t.rs.length d3] := Blk.new _ _ _ _ rfl
        have hb5 : Below W4.heap.size W4 (W5.alloc (.cells #[.slice B1 t.es.length d1, .slice B2 t.fans.length d2, .slice B3 t.rs.length d3] 36)) := bel_alloc hP.bel _
        have hV5 := hP.isV.below (bel_alloc (Below.refl _ _) (.cells #[.slice B1 t.es.length d1, .slice B2 t.fans.length d2, .slice B3 t.rs.length d3] 36))
        have hG := near_two hL.out (hP.good.imp id And.left)
        clear x0 x1 xl cB hP hL
        generalize W5.alloc (.cells #[.slice B1 t.es.length d1, .slice B2 t.fans.length d2, .slice B3 t.rs.length d3] 36) = W6 at *
        generalize W5.heap.size = X at *
        have hB6 := bel_trans hB4 hb5
        have hC6 := hC4.below hb5
        have hT6 := hT.below hb5
        have h1c := h1b.below hb5
        clear hC4 hT h1b hb5 hB4
        replace hG := Lib.hid hG
        rcases hG.out with (rfl | rfl) | ⟨rfl, rfl | ⟨rfl, sh, hTS, hsh, hf, hr⟩⟩
        · clear hG
          go_wp2
          go_ret
          exact ⟨rfl, hB6⟩
        · clear hG
          go_wp2
          go_ret
          exact ⟨rfl, hB6⟩
        · clear hG
          go_wp2
          go_ret
          exact ⟨rfl, hB6⟩
        clear hG
        have hlt9 := hTS.edges.sorted
        have hel : t.es.length ≤ tot fs := by have h1 := edges_le hTS.walk hTS.edges; rw [waysL_len] at h1; exact h1
        have cS := sharp_any W6 A1 A2 A3 B1 B2 B3 vs.length fs.length t.fans.length t.rs.length k1 k2 k3 d1 d2 d3 t.es ks hV5.es hlt9 (v3.below hB6) (by omega) (by omega)
        have x0 : W6.cell? ⟨W.heap.size, 0, none⟩ = some (.slice A1 vs.length k1) := hC6.cell 0
        have x1 : W6.cell? ⟨W.heap.size, 1, none⟩ = some (.slice A2 fs.length k2) := hC6.cell 1
        have x2 : W6.cell? ⟨W.heap.size, 2, none⟩ = some (.slice A3 ks.length k3) := hC6.cell 2
        have xl := hC6.lt
        have y0 : W6.cell? ⟨X, 0, none⟩ = some (.slice B1 t.es.length d1) := hX.cell 0
        have y1 : W6.cell? ⟨X, 1, none⟩ = some (.slice B2 t.fans.length d2) := hX.cell 1
        have y2 : W6.cell? ⟨X, 2, none⟩ = some (.slice B3 t.rs.length d3) := hX.cell 2
        have yl := hX.lt
        replace hTS := Lib.hid hTS
        replace hsh := Lib.hid hsh
        replace hf := Lib.hid hf
        replace hr := Lib.hid hr
        replace hlt9 := Lib.hid hlt9
        go_upto_region 15 with (first | (go_at_call 14; (with_reducible refine cS.mono ?_); rintro e W7 ⟨hb7, ⟨hno, rfl⟩ | ⟨sh2, g, hs2, hg7, hG7, rfl⟩⟩) | fail)
        · exact absurd (hno.symm.trans hsh.out) (by simp)
        obtain rfl : sh2 = sh := by have := hs2.symm.trans hsh.out; simpa using this
        clear x0 x1 x2 xl y0 y1 y2 yl cS hs2
        have hN7 : NK W.heap.size T X A1 A2 A3 R1 R2 R3 B1 B2 B3 k1 k2 k3 c1 c2 c3 d1 d2 d3 r.fs.length r.ks.length ks.length vs r.vs fs t (some ⟨g, 0, none⟩) sh2 W7 :=
          ⟨hC6.below hb7, hT6.below hb7, hX.below hb7, v1.below (bel_trans hB6 hb7), v2.below (bel_trans hB6 hb7), h1c.below hb7, hV5.below hb7, IL_of hG7⟩
        have hB7 := bel_trans hB6 hb7
        have hgl := hG7.lt
        clear hb7 hC6 hT6 hX h1c hV5 hG7 hB6 hg7 hB2 v1 v2 v3
        go_upto_region 16 with (fail)
        have hO := own_empty3 W7 W7.heap.size 42 (Nat.le_refl _)
        have hb8 : Below W7.heap.size W7 (W7.alloc (.cells #[] 42)) := bel_alloc (Below.refl _ _) _
        generalize W7.alloc (.cells #[] 42) = W8 at *
        obtain ⟨A0, hA0⟩ : ∃ A0 : Option Addr, A0 = some ⟨W7.heap.size, 0, none⟩ := ⟨_, rfl⟩
        rw [← hA0] at hO ⊢
        clear hA0
        have hsl : sh2.length = t.es.length := sharpP_len hsh.out
        replace hsl := Lib.hid hsl
        go_wp2
        go_loopw [10, 11] (fun lv iv wz => ∃ (i : Nat) (A : Option Addr) (c : Nat), iv = .int .i64 (i : Int) ∧ i ≤ fs.length ∧ lv = .slice A i c ∧ Hid (wz.ownsRow W7.heap.size 42 3 (.slice A i c) i (kC ((sumsL vs fs).take i))) ∧ Below W7.heap.size W7 wz) (fun _ iv _ => fs.length - (intOf iv).toNat)
        case atStart => exact ⟨0, A0, 0, rfl, by omega, rfl, Lib.hid hO, hb8⟩
        case round =>
          obtain ⟨i, A, c, rfl, hi1, rfl, hO, hbz⟩ := hrel
          rename World => wz
          have hN := hN7.below hbz
          have x1 : wz.cell? ⟨W.heap.size, 1, none⟩ = some (.slice A2 fs.length k2) := hN.c.cell 1
          have xl := hN.c.lt
          clear hb8
          by_cases hlt : i < fs.length
          · as_aux_lemma =>
              have q0 : (0 : Int) ≤ (i : Int) := by omega
              have q1 : (i : Int) < (fs.length : Int) := by omega
              obtain ⟨zr, hzr⟩ : ∃ zr, fs[i] = zr := ⟨_, rfl⟩
              obtain ⟨ba, oa, Bf, mf, hA2, hba, hcell, hIL⟩ := hN.v2.at_ i hlt
              rw [hzr] at hcell hIL
              have hzin : Hid (∀ y ∈ zr, 0 ≤ y ∧ y < vs.length) := Lib.hid (fun y hy => hTS.out.walk.corner_rng (by rw [← hzr]; exact List.getElem_mem hlt) hy)
              have hz8 : 3 ≤ zr.length ∧ zr.length ≤ 8 := by
                have h1 := h8.out _ (List.getElem_mem hlt)
                have h2 := hTS.out.walk.long _ (List.getElem_mem hlt)
                rw [hzr] at h1 h2
                omega
              have hS1 : Blk (wz.alloc (.cells #[.int .i64 0, .int .i64 0, .int .i64 0] 42)) wz.heap.size 42 #[.int .i64 (sP vs (zr.take 0)).x, .int .i64 (sP vs (zr.take 0)).y, .int .i64 (sP vs (zr.take 0)).z] := Blk.new _ _ _ _ rfl
              have hb9 : Below wz.heap.size wz (wz.alloc (.cells #[.int .i64 0, .int .i64 0, .int .i64 0] 42)) := bel_alloc (Below.refl _ _) _
              replace hzr := Lib.hid hzr
              replace hA2 := Lib.hid hA2
              go_upto_region 20 with (fail)
              generalize wz.alloc (.cells #[.int .i64 0, .int .i64 0, .int .i64 0] 42) = w1 at *
              clear x1 xl
              go_wp2
              go_loopw [13] (fun kv wq => ∃ k : Nat, kv = .int .i64 (k : Int) ∧ k ≤ zr.length ∧ Blk wq wz.heap.size 42 #[.int .i64 (sP vs (zr.take k)).x, .int .i64 (sP vs (zr.take k)).y, .int .i64 (sP vs (zr.take k)).z] ∧ Below wz.heap.size wz wq) (fun kv _ => zr.length - (intOf kv).toNat)
              case atStart => exact ⟨0, rfl, by omega, hS1, hb9⟩
              case round =>
                obtain ⟨k, rfl, hk1, hS, hbq⟩ := hrel
                rename World => wq
                clear hS1 hb9
                have hNq := hN.below hbq
                have x1 : wq.cell? ⟨W.heap.size, 1, none⟩ = some (.slice (some ⟨ba, oa, none⟩) fs.length k2) := by rw [← hA2.out]; exact hNq.c.cell 1
                have x0 : wq.cell? ⟨W.heap.size, 0, none⟩ = some (.slice A1 vs.length k1) := hNq.c.cell 0
                have xl := hNq.c.lt
                have hcr := (hbq.cell (p := ⟨ba, oa + i, none⟩) hba).trans hcell
                have hbar := Nat.lt_of_lt_of_le hba hbq.size
                by_cases hkl : k < zr.length
                · as_aux_lemma =>
                    obtain ⟨bf, of, hBf, hbf, hfc⟩ := (hIL.below hbq).at_ k hkl
                    subst hBf
                    have hyr := hzin.out _ (List.getElem_mem hkl)
                    obtain ⟨u, hu⟩ : ∃ u : Nat, zr[k] = (u : Int) := ⟨zr[k].toNat, by omega⟩
                    rw [hu] at hfc hyr
                    have hul : u < vs.length := by omega
                    obtain ⟨bv, ov, hA1, hbv, p0, p1, p2⟩ := hNq.v1.at_ u hul
                    rw [hA1] at x0
                    replace hA1 := Lib.hid hA1
                    obtain ⟨p, hp⟩ : ∃ p, vs[u] = p := ⟨_, rfl⟩
                    rw [hp] at p0 p1 p2
                    have hnx := sP_next vs zr k hkl
                    rw [hu, vat_nat vs u hul, hp] at hnx
                    generalize sP vs (zr.take k) = s at *
                    generalize hq : adW s p = q at *
                    have kA : Gives Try.prog 15 #[.agg #[.int .i64 s.x, .int .i64 s.y, .int .i64 s.z], .agg #[.int .i64 p.x, .int .i64 p.y, .int .i64 p.z]] (.agg #[.int .i64 q.x, .int .i64 q.y, .int .i64 q.z]) := by rw [← hq]; exact rAdd_any s.x s.y s.z p.x p.y p.z
                    have s0 := hS.cell 0
                    have s1 := hS.cell 1
                    have s2 := hS.cell 2
                    have sl := hS.lt
                    simp at s0 s1 s2
                    have q2 : (0 : Int) ≤ (k : Int) := by omega
                    have q3 : (k : Int) < (zr.length : Int) := by omega
                    have q4 : (0 : Int) ≤ (u : Int) := by omega
                    have q5 : (u : Int) < (vs.length : Int) := by omega
                    replace hu := Lib.hid hu
                    replace hp := Lib.hid hp
                    replace hq := Lib.hid hq
                    replace hnx := Lib.hid hnx
                    clear hNq
                    go_upto_region 23 with (fail)
                    refine wp_region_tail 14 ?_ (by kernel_rfl) (by kernel_rfl) (by kernel_rfl) (fun x => ?_) (fun x => ?_)
                    rotate_left
                    · simp only [List.take_succ_cons, List.take_zero]
                      repeat (go_big_quiet_step (((first | with_reducible exact kA.quiet _ | with_reducible exact kA.quiet2 _ _))))
                      refine wpQuiet_nil ?_
                      exact rfl
                    simp only [List.drop_succ_cons, List.drop_zero]
                    try simp only [Act.put, List.setIfInBounds_toArray, List.set_cons_succ, List.set_cons_zero]
                    have hS2 := hS.below (bel_grow (Below.refl _ _) x)
                    have hb2 := bel_grow hbq x
                    clear s0 s1 s2 sl hS hbq x0 x1 xl hcr hbar hfc hbf hbv p0 p1 p2 kA
                    generalize grow wq x = w4 at *
                    have s0 := hS2.cell 0
                    have s1 := hS2.cell 1
                    have s2 := hS2.cell 2
                    have f0 := hS2.frozen 0
                    have f1 := hS2.frozen 1
                    have f2 := hS2.frozen 2
                    have sl := hS2.lt
                    simp at s0 s1 s2
                    have hS3 := ((hS2.set 0 (.int .i64 q.x)).set 1 (.int .i64 q.y)).set 2 (.int .i64 q.z)
                    have hb3 := bel_set (bel_set (bel_set hb2 (p := ⟨wz.heap.size, 0, none⟩) (Nat.le_refl _) (.int .i64 q.x)) (p := ⟨wz.heap.size, 1, none⟩) (Nat.le_refl _) (.int .i64 q.y)) (p := ⟨wz.heap.size, 2, none⟩) (Nat.le_refl _) (.int .i64 q.z)
                    go_wp2
                    go_roundw
                    case rel => exact ⟨k + 1, by go_num, by omega, by rw [← hnx.out]; exact hS3, hb3⟩
                    case measure => simp [intOf]; omega
                · as_aux_lemma =>
                    obtain rfl : k = zr.length := by omega
                    rw [List.take_length] at hS
                    have hOq := own_lay hO.out hbq
                    have hPne : ∀ k, (Value.slice A i c).ownBlock = some k → W7.heap.size ≤ k ∧ k < wz.heap.size := own_block hO.out
                    have hbW := bel_trans hbz hbq
                    obtain ⟨n, hn⟩ : ∃ n, zr.length = n := ⟨_, rfl⟩
                    have kS : Gives Try.prog 16 #[.agg #[.int .i64 (sP vs zr).x, .int .i64 (sP vs zr).y, .int .i64 (sP vs zr).z], .int .i64 (840 / (n : Int))] (.agg #[.int .i64 (sumP vs zr).x, .int .i64 (sumP vs zr).y, .int .i64 (sumP vs zr).z]) := by rw [← hn]; exact rScale_any (sP vs zr).x (sP vs zr).y (sP vs zr).z (840 / (zr.length : Int))
                    rw [hn] at hcr hz8 hk1 ⊢
                    have hfN := fun g (hg : Co g) => (face_nrI hg hf.out zr (by omega) (by omega)).1
                    rw [hn] at hfN
                    have kN0 := nearV_G (midP vs zr) (sP vs zr) (n : Int) hfN
                    replace kN0 := Lib.hid kN0
                    replace hn := Lib.hid hn
                    clear hfN
                    have hnx := sums_next vs fs i hlt
                    rw [hzr.out] at hnx
                    replace hnx := Lib.hid hnx
                    generalize hsm : sumP vs zr = sm at *
                    generalize hss : sP vs zr = s at *
                    replace hsm := Lib.hid hsm
                    replace hss := Lib.hid hss
                    have s0 := hS.cell 0
                    have s1 := hS.cell 1
                    have s2 := hS.cell 2
                    have sl := hS.lt
                    simp at s0 s1 s2
                    clear hIL hcell
                    go_upto_region 25 with (fail)
                    clear x0 x1 xl hcr hbar
                    have hdv : n ≠ 0 := by omega
                    have hdw := div840 hz8
                    refine wp_region_monoT 6 (RL [PE (.slice A i c), PE (.agg #[.int .i64 s.x, .int .i64 s.y, .int .i64 s.z]), PE (.int .i64 (n : Int)), PE (.int .i64 (840 / (n : Int))), PE (.agg #[.int .i64 sm.x, .int .i64 sm.y, .int .i64 sm.z]), PV (wq.heap.size) 1 [sm]]) (by kernel_rfl) _ rfl (by kernel_rfl) (by kernel_rfl) (by kernel_rfl) (by kernel_rfl) (by kernel_rfl) (RL.stays ?_) ?_ ?_
                    · intro p hp
                      simp only [List.mem_cons, List.not_mem_nil, or_false] at hp
                      rcases hp with rfl | rfl | rfl | rfl | rfl | rfl <;> first | exact PE.stays _ | exact PV.stays _ _ _
                    · simp only [List.take_succ_cons, List.take_zero]
                      refine ⟨?_, ?_, ?_, ?_, ?_, ?_, ?_⟩
                      · refine mono_val rfl (fun a w hB hk hp => ?_)
                        have es10 := (hk 10 (keep_of (by kernel_rfl))).trans (show _ = some (.slice A i c) from rfl)
                        exact ⟨.slice A i c, w, by simp [execOp, go_sem, es10], Below.refl _ _, fun _ _ => rfl⟩
                      · refine mono_val rfl (fun a w hB hk hp => ?_)
                        have es12 := (hk 12 (keep_of (by kernel_rfl))).trans (show _ = some (.pointer (some ⟨wz.heap.size, 0, none⟩)) from rfl)
                        have fc0 := (hB.cell (p := ⟨wz.heap.size, 0, none⟩) sl).trans s0
                        have fc1 := (hB.cell (p := ⟨wz.heap.size, 0 + 1, none⟩) sl).trans s1
                        have fc2 := (hB.cell (p := ⟨wz.heap.size, 0 + 2, none⟩) sl).trans s2
                        exact ⟨.agg #[.int .i64 s.x, .int .i64 s.y, .int .i64 s.z], w, ldmS_run _ _ _ 42 _ rfl (wz.heap.size) (0) (eval_tmp es12) _ _ (rng3V fc0 fc1 fc2) Try.underlying42 rfl infoV3, Below.refl _ _, fun _ _ => rfl⟩
                      · refine mono_val rfl (fun a w hB hk hp => ?_)
                        have es14 := (hk 14 (keep_of (by kernel_rfl))).trans (show _ = some (.int .i64 (n : Int)) from rfl)
                        exact ⟨.int .i64 (n : Int), w, by simp [execOp, go_sem, es14], Below.refl _ _, fun _ _ => rfl⟩
                      · refine mono_val rfl (fun a w hB hk hp => ?_)
                        obtain ⟨x2, ex2, rx2⟩ := hp ⟨2, .data⟩ (by simp) rfl _ _ rfl rfl
                        obtain rfl : x2 = _ := rx2
                        have fc0 := hdv
                        have fc1 := hdw
                        exact ⟨.int .i64 (840 / (n : Int)), w, by simp [execOp, go_sem, ex2, fc0, fc1], Below.refl _ _, fun _ _ => rfl⟩
                      · refine mono_call rfl (fun a w hB hk hp => ?_)
                        obtain ⟨x1, ex1, rx1⟩ := hp ⟨1, .data⟩ (by simp) rfl _ _ rfl rfl
                        obtain rfl : x1 = _ := rx1
                        obtain ⟨x3, ex3, rx3⟩ := hp ⟨3, .data⟩ (by simp) rfl _ _ rfl rfl
                        obtain rfl : x3 = _ := rx3
                        exact ⟨16, #[.agg #[.int .i64 s.x, .int .i64 s.y, .int .i64 s.z], .int .i64 (840 / (n : Int))], by simp [execOp, go_sem, ex1, ex3], (kS.at_ w).mono fun e w' ⟨h1, xg, h2⟩ => ⟨_, h1, h2 ▸ bel_grow (Below.refl _ _) xg, fun _ _ => rfl⟩⟩
                      · refine mono_val rfl (fun a w hB hk hp => ?_)
                        obtain ⟨x4, ex4, rx4⟩ := hp ⟨4, .data⟩ (by simp) rfl _ _ rfl rfl
                        obtain rfl : x4 = _ := rx4
                        exact ⟨.slice (some ⟨w.heap.size, 0, none⟩) 1 1, w.alloc (.cells #[.int .i64 sm.x, .int .i64 sm.y, .int .i64 sm.z] 42), by simp [execOp, go_sem, ex4], bel_alloc (Below.refl _ _) _, fun _ _ => ⟨w.heap.size, rfl, hB.size, VL1 w sm⟩⟩
                      · trivial
                    · intro a w2 hB hsz hdf hk hgot
                      obtain ⟨v0, ev0, rv0⟩ := hgot 0 _ 108 rfl rfl
                      obtain rfl : v0 = _ := rv0
                      obtain ⟨v5, ev5, rv5⟩ := hgot 5 _ 113 rfl rfl
                      obtain ⟨bb, rfl, hbb, hvl⟩ : PV (wq.heap.size) 1 [sm] w2 v5 := rv5
                      obtain ⟨f, hf, rfl⟩ := frame_eq hsz hdf hk [108, 109, 110, 111, 112, 113] (by rfl)
                      have f108 := hf 108 _ ev0
                      have f113 := hf 113 _ ev5
                      clear hsz hdf hk hgot hf ev0 ev5
                      simp only [List.drop_succ_cons, List.drop_zero, setAll, List.setIfInBounds_toArray, List.set_cons_succ, List.set_cons_zero, f108, f113]
                      clear f108 f113
                      generalize f 109 = uu109; generalize f 110 = uu110; generalize f 111 = uu111; generalize f 112 = uu112
                      have hO2 := own_lay hOq hB
                      have hS2 := hS.below hB
                      have hbz2 := hbq.trans (hB.mono hbq.size)
                      have hil : ((sumsL vs fs).take i).length = i := sums_len vs fs i hi1
                      clear s0 s1 s2 sl kS hOq hS hbW hdv hdw
                      replace hil := Lib.hid hil
                      go_wp2_with (first | (at_builtin; (refine wpList_append_own _ rfl _ _ 22 rfl W7.heap.size 42 i0 _ 3 24 Try.underlying22 hi0 hz0 hz1 hz2 rfl (by decide) _ _ _ rfl hO2 ⟨bb, 0, none⟩ 1 1 [.int .i64 sm.x, .int .i64 sm.y, .int .i64 sm.z] rfl rfl (VL_cells1 hvl) (kC_one [sm]) (by unfold maxLen; omega) (by omega) (by have := hbz.size; have := hbz2.size; omega) ?_); intro v6 W6 hown6 hg6 hnil; clear hnil; obtain ⟨A6b, c6b, rfl⟩ := own_form hown6) | fail)
                      have hown7 : W6.ownsRow W7.heap.size 42 3 (.slice A6b (i + 1) c6b) (i + 1) (kC ((sumsL vs fs).take (i + 1))) := by rw [hnx.out, kC_append]; exact hown6
                      have hb6 : Below W7.heap.size W7 W6 := bel_own (bel_trans hbz hbz2) hg6 (fun k hk => (hPne k hk).1)
                      have hS6 := hS2.kept hg6 (fun e => by have := (hPne _ e.symm).2; omega)
                      have hN6 := hN7.below hb6
                      have hrl : r.vs.length = vs.length + t.es.length + fs.length := by rw [hr.out]; exact levN_len
                      have hidx : vs.length + t.es.length + i < r.vs.length := by omega
                      obtain ⟨br, orr, hR1, hbr, m0, m1, m2⟩ := hN6.r1.at_ _ hidx
                      have hme : r.vs[vs.length + t.es.length + i] = midP vs zr := by
                        have h1 := levN_face (vs := vs) (ks := ks) (t := t) (sh := sh2) i hlt
                        rw [← hr.out, hzr.out, vat_nat _ _ hidx] at h1
                        exact h1
                      rw [hme] at m0 m1 m2
                      have kN := kN0.out
                      generalize midP vs zr = pm at *
                      have s0 := hS6.cell 0
                      have s1 := hS6.cell 1
                      have s2 := hS6.cell 2
                      have sl := hS6.lt
                      simp at s0 s1 s2
                      have t0 : W6.cell? ⟨T, 0, none⟩ = some (.slice (some ⟨br, orr, none⟩) r.vs.length c1) := by rw [← hR1]; exact hN6.a.cell 0
                      have tl := hN6.a.lt
                      have x0 : W6.cell? ⟨W.heap.size, 0, none⟩ = some (.slice A1 vs.length k1) := hN6.c.cell 0
                      have xl := hN6.c.lt
                      have y0 : W6.cell? ⟨X, 0, none⟩ = some (.slice B1 t.es.length d1) := hN6.x.cell 0
                      have yl := hN6.x.lt
                      have q6 : (0 : Int) ≤ (vs.length : Int) + (t.es.length : Int) + (i : Int) := by omega
                      have q7 : (vs.length : Int) + (t.es.length : Int) + (i : Int) < (r.vs.length : Int) := by omega
                      replace hR1 := Lib.hid hR1
                      replace hme := Lib.hid hme
                      replace hrl := Lib.hid hrl
                      replace hown7 := Lib.hid hown7
                      clear hO2 hown6 hS2 hg6 hN6 hS6 hvl kN0 hbz2 hB
                      refine wp_region_grow (by kernel_rfl) (by kernel_rfl) ?_
                      repeat (go_big_quiet_step (((first | with_reducible exact kN.quiet _ | with_reducible exact kN.quiet2 _ _))))
                      refine wpQuiet_nil ?_
                      rintro _ ⟨xg, rfl⟩
                      have hb9 := bel_grow hb6 xg
                      have hO9 := own_lay hown7.out (bel_grow (Below.refl _ _) xg)
                      go_wp2
                      go_roundw
                      case rel => exact ⟨i + 1, A6b, c6b, by go_num, by omega, by go_num, Lib.hid hO9, hb9⟩
                      case measure => simp [intOf]; omega
          · as_aux_lemma =>
              obtain rfl : i = fs.length := by omega
              have hVS := VL_sums hO.out
              clear hO hlt hi1
              have hrl : r.vs.length = vs.length + t.es.length + fs.length := by rw [hr.out]; exact levN_len
              replace hrl := Lib.hid hrl
              go_wp2
              clear x1 xl
              go_loopw [15] (fun ev we => ∃ j : Nat, ev = .int .i64 (j : Int) ∧ j ≤ t.es.length ∧ Below wz.heap.size wz we) (fun ev _ => t.es.length - (intOf ev).toNat)
              case atStart => exact ⟨0, rfl, by omega, Below.refl _ _⟩
              case round =>
                obtain ⟨j, rfl, hj1, hbe⟩ := hrel
                rename World => we
                have hNe := hN.below hbe
                have z0 : we.cell? ⟨X, 0, none⟩ = some (.slice B1 t.es.length d1) := hNe.x.cell 0
                have zl := hNe.x.lt
                by_cases hjl : j < t.es.length
                · as_aux_lemma =>
                    obtain ⟨be, oe, hB1e, hbel, e0, e1, e2, e3⟩ : ∃ b off, B1 = some ⟨b, off, none⟩ ∧ b < we.heap.size ∧ _ := by
                      obtain ⟨b, off, h1, h2, h3⟩ := hNe.tv.es (by omega)
                      exact ⟨b, off, h1, h2, h3 j hjl⟩
                    have her := edge_rng hTS.out (List.getElem_mem hjl)
                    have hsj : j < sh2.length := by rw [hsl.out]; exact hjl
                    have hnr := fun g (hg : Co g) => edge_nrI hg hTS.out hsh.out hf.out (by omega) h8.out j hjl t.es[j] sh2[j] (getD_ed hjl) (getD_int hsj)
                    have hsoft := soft_rng hTS.out hsh.out j hjl hsj
                    obtain ⟨bg, og, hge, hgl2, sc⟩ := hNe.g.at_ j hsj
                    obtain ⟨rfl, rfl⟩ : g = bg ∧ 0 = og := by simpa using hge
                    rw [Nat.zero_add] at sc
                    have hidx : vs.length + j < r.vs.length := by rw [hrl.out]; omega
                    have hme : Hid (r.vs[vs.length + j] = halfP vs (midsL vs fs) t.es[j] sh2[j]) := Lib.hid (by
                      have h1 := levN_edge (vs := vs) (fs := fs) (ks := ks) (t := t) (sh := sh2) j hjl
                      rw [← hr.out, vat_nat _ _ hidx, getD_ed hjl, getD_int hsj] at h1
                      exact h1)
                    generalize t.es[j] = e at *
                    generalize sh2[j] = sv at *
                    obtain ⟨ua, hua⟩ : ∃ ua : Nat, e.a = (ua : Int) := ⟨e.a.toNat, by omega⟩
                    obtain ⟨ub, hub⟩ : ∃ ub : Nat, e.b = (ub : Int) := ⟨e.b.toNat, by omega⟩
                    rw [hua] at e0 her
                    rw [hub] at e1 her
                    have hual : ua < vs.length := by omega
                    have hubl : ub < vs.length := by omega
                    simp only [hua, hub, vat_nat vs ua hual, vat_nat vs ub hubl] at hnr
                    obtain ⟨bv, ov, hA1, hbv, a0, a1, a2⟩ := hNe.v1.at_ ua hual
                    obtain ⟨bv', ov', hA1', hbv', b0, b1, b2⟩ := hNe.v1.at_ ub hubl
                    obtain ⟨rfl, rfl⟩ : bv = bv' ∧ ov = ov' := by have := hA1.symm.trans hA1'; simpa using this
                    generalize vs[ua] = pa at *
                    generalize vs[ub] = pb at *
                    generalize hab : adW pa pb = ab at *
                    generalize hs0 : scW ab 840 = s0 at *
                    have kA : Gives Try.prog 15 #[.agg #[.int .i64 pa.x, .int .i64 pa.y, .int .i64 pa.z], .agg #[.int .i64 pb.x, .int .i64 pb.y, .int .i64 pb.z]] (.agg #[.int .i64 ab.x, .int .i64 ab.y, .int .i64 ab.z]) := by rw [← hab]; exact rAdd_any pa.x pa.y pa.z pb.x pb.y pb.z
                    have kS : Gives Try.prog 16 #[.agg #[.int .i64 ab.x, .int .i64 ab.y, .int .i64 ab.z], .int .i64 840] (.agg #[.int .i64 s0.x, .int .i64 s0.y, .int .i64 s0.z]) := by rw [← hs0]; exact rScale_any ab.x ab.y ab.z 840
                    have q0 : (0 : Int) ≤ (j : Int) := by omega
                    have q1 : (j : Int) < (t.es.length : Int) := by omega
                    replace hua := Lib.hid hua
                    replace hub := Lib.hid hub
                    replace hab := Lib.hid hab
                    replace hs0 := Lib.hid hs0
                    replace hnr := Lib.hid hnr
                    replace hsoft := Lib.hid hsoft
                    replace hge := Lib.hid hge
                    replace hA1' := Lib.hid hA1'
                    rw [hB1e] at z0
                    replace hB1e := Lib.hid hB1e
                    have hE2 : Blk (we.alloc (.cells #[.int .i64 (ua : Int), .int .i64 (ub : Int), .int .i64 e.f, .int .i64 e.g] 47)) we.heap.size 47 #[.int .i64 (ua : Int), .int .i64 (ub : Int), .int .i64 e.f, .int .i64 e.g] := Blk.new _ _ _ _ rfl
                    have hb1 : Below we.heap.size we (we.alloc (.cells #[.int .i64 (ua : Int), .int .i64 (ub : Int), .int .i64 e.f, .int .i64 e.g] 47)) := bel_alloc (Below.refl _ _) _
                    go_upto_region 32 with (fail)
                    generalize we.alloc (.cells #[.int .i64 (ua : Int), .int .i64 (ub : Int), .int .i64 e.f, .int .i64 e.g] 47) = w1 at *
                    have hb1z := bel_trans hbe hb1
                    have hN1 := hN.below hb1z
                    have bvl := Nat.lt_of_lt_of_le hbv hb1.size
                    replace a0 := (hb1.cell (p := ⟨bv, _, none⟩) hbv).trans a0
                    replace a1 := (hb1.cell (p := ⟨bv, _, none⟩) hbv).trans a1
                    replace a2 := (hb1.cell (p := ⟨bv, _, none⟩) hbv).trans a2
                    replace b0 := (hb1.cell (p := ⟨bv, _, none⟩) hbv).trans b0
                    replace b1 := (hb1.cell (p := ⟨bv, _, none⟩) hbv).trans b1
                    replace b2 := (hb1.cell (p := ⟨bv, _, none⟩) hbv).trans b2
                    replace sc := (hb1.cell (p := ⟨g, _, none⟩) hgl2).trans sc
                    have gl := Nat.lt_of_lt_of_le hgl2 hb1.size
                    clear z0 zl e0 e1 e2 e3 hNe hbel
                    have x0 : w1.cell? ⟨W.heap.size, 0, none⟩ = some (.slice (some ⟨bv, ov, none⟩) vs.length k1) := by rw [← hA1]; exact hN1.c.cell 0
                    have xl := hN1.c.lt
                    have y0 : w1.cell? ⟨we.heap.size, 0, none⟩ = some (.int .i64 (ua : Int)) := hE2.cell 0
                    have y1 : w1.cell? ⟨we.heap.size, 1, none⟩ = some (.int .i64 (ub : Int)) := hE2.cell 1
                    have el := hE2.lt
                    replace hA1 := Lib.hid hA1
                    have qa1 : (ua : Int) < (vs.length : Int) := by omega
                    have qb1 : (ub : Int) < (vs.length : Int) := by omega
                    refine wp_region_monoT 15 (RL [PE (.pointer (some ⟨W.heap.size, 0, none⟩)), PE (.slice (some ⟨bv, ov, none⟩) vs.length k1), PE (.pointer (some ⟨we.heap.size, 0, none⟩)), PE (.int .i64 (ua : Int)), PE (.pointer (some ⟨bv, ov + ua * 3, none⟩)), PE (.agg #[.int .i64 pa.x, .int .i64 pa.y, .int .i64 pa.z]), PE (.pointer (some ⟨W.heap.size, 0, none⟩)), PE (.slice (some ⟨bv, ov, none⟩) vs.length k1), PE (.pointer (some ⟨we.heap.size, 1, none⟩)), PE (.int .i64 (ub : Int)), PE (.pointer (some ⟨bv, ov + ub * 3, none⟩)), PE (.agg #[.int .i64 pb.x, .int .i64 pb.y, .int .i64 pb.z]), PE (.agg #[.int .i64 ab.x, .int .i64 ab.y, .int .i64 ab.z]), PE (.agg #[.int .i64 s0.x, .int .i64 s0.y, .int .i64 s0.z]), PB w1.heap.size 42 #[.int .i64 0, .int .i64 0, .int .i64 0]]) (by kernel_rfl) _ rfl (by kernel_rfl) (by kernel_rfl) (by kernel_rfl) (by kernel_rfl) (by kernel_rfl) (RL.stays ?_) ?_ ?_
                    · intro p hp
                      simp only [List.mem_cons, List.not_mem_nil, or_false] at hp
                      rcases hp with rfl | rfl | rfl | rfl | rfl | rfl | rfl | rfl | rfl | rfl | rfl | rfl | rfl | rfl | rfl <;> first | exact PE.stays _ | exact PV.stays _ _ _ | exact PB.stays _ _ _
                    · simp only [List.take_succ_cons, List.take_zero]
                      refine ⟨?_, ?_, ?_, ?_, ?_, ?_, ?_, ?_, ?_, ?_, ?_, ?_, ?_, ?_, ?_, ?_⟩
                      · refine mono_val rfl (fun a w hB hk hp => ?_)
                        have es1 := (hk 1 (keep_of (by kernel_rfl))).trans (show _ = some (.pointer (some ⟨W.heap.size, 0, none⟩)) from rfl)
                        exact ⟨.pointer (some ⟨W.heap.size, 0, none⟩), w, by simp [execOp, go_sem, es1], Below.refl _ _, fun _ _ => rfl⟩
                      · refine mono_val rfl (fun a w hB hk hp => ?_)
                        obtain ⟨x0, ex0, rx0⟩ := hp ⟨0, .data⟩ (by simp) rfl _ _ rfl rfl
                        obtain rfl : x0 = _ := rx0
                        have fc0 := (hB.cell (p := ⟨W.heap.size, 0, none⟩) xl).trans x0
                        exact ⟨.slice (some ⟨bv, ov, none⟩) vs.length k1, w, by simp [execOp, go_sem, ex0, fc0], Below.refl _ _, fun _ _ => rfl⟩
                      · refine mono_val rfl (fun a w hB hk hp => ?_)
                        have es16 := (hk 16 (keep_of (by kernel_rfl))).trans (show _ = some (.pointer (some ⟨we.heap.size, 0, none⟩)) from rfl)
                        exact ⟨.pointer (some ⟨we.heap.size, 0, none⟩), w, by simp [execOp, go_sem, es16], Below.refl _ _, fun _ _ => rfl⟩
                      · refine mono_val rfl (fun a w hB hk hp => ?_)
                        obtain ⟨x2, ex2, rx2⟩ := hp ⟨2, .data⟩ (by simp) rfl _ _ rfl rfl
                        obtain rfl : x2 = _ := rx2
                        have fc0 := (hB.cell (p := ⟨we.heap.size, 0, none⟩) el).trans y0
                        exact ⟨.int .i64 (ua : Int), w, by simp [execOp, go_sem, ex2, fc0], Below.refl _ _, fun _ _ => rfl⟩
                      · refine mono_val rfl (fun a w hB hk hp => ?_)
                        obtain ⟨x1, ex1, rx1⟩ := hp ⟨1, .data⟩ (by simp) rfl _ _ rfl rfl
                        obtain rfl : x1 = _ := rx1
                        obtain ⟨x3, ex3, rx3⟩ := hp ⟨3, .data⟩ (by simp) rfl _ _ rfl rfl
                        obtain rfl : x3 = _ := rx3
                        have fc0 := qa1
                        exact ⟨.pointer (some ⟨bv, ov + ua * 3, none⟩), w, by simp [execOp, go_sem, ex1, ex3, fc0], Below.refl _ _, fun _ _ => rfl⟩
                      · refine mono_val rfl (fun a w hB hk hp => ?_)
                        obtain ⟨x4, ex4, rx4⟩ := hp ⟨4, .data⟩ (by simp) rfl _ _ rfl rfl
                        obtain rfl : x4 = _ := rx4
                        have fc0 := (hB.cell (p := ⟨bv, ov + ua * 3, none⟩) bvl).trans a0
                        have fc1 := (hB.cell (p := ⟨bv, ov + ua * 3 + 1, none⟩) bvl).trans a1
                        have fc2 := (hB.cell (p := ⟨bv, ov + ua * 3 + 2, none⟩) bvl).trans a2
                        exact ⟨.agg #[.int .i64 pa.x, .int .i64 pa.y, .int .i64 pa.z], w, ldmS_run _ _ _ 42 _ rfl (bv) (ov + ua * 3) (eval_tmp ex4) _ _ (rng3V fc0 fc1 fc2) Try.underlying42 rfl infoV3, Below.refl _ _, fun _ _ => rfl⟩
                      · refine mono_val rfl (fun a w hB hk hp => ?_)
                        have es1 := (hk 1 (keep_of (by kernel_rfl))).trans (show _ = some (.pointer (some ⟨W.heap.size, 0, none⟩)) from rfl)
                        exact ⟨.pointer (some ⟨W.heap.size, 0, none⟩), w, by simp [execOp, go_sem, es1], Below.refl _ _, fun _ _ => rfl⟩
                      · refine mono_val rfl (fun a w hB hk hp => ?_)
                        obtain ⟨x6, ex6, rx6⟩ := hp ⟨6, .data⟩ (by simp) rfl _ _ rfl rfl
                        obtain rfl : x6 = _ := rx6
                        have fc0 := (hB.cell (p := ⟨W.heap.size, 0, none⟩) xl).trans x0
                        exact ⟨.slice (some ⟨bv, ov, none⟩) vs.length k1, w, by simp [execOp, go_sem, ex6, fc0], Below.refl _ _, fun _ _ => rfl⟩
                      · refine mono_val rfl (fun a w hB hk hp => ?_)
                        have es16 := (hk 16 (keep_of (by kernel_rfl))).trans (show _ = some (.pointer (some ⟨we.heap.size, 0, none⟩)) from rfl)
                        exact ⟨.pointer (some ⟨we.heap.size, 1, none⟩), w, by simp [execOp, go_sem, es16], Below.refl _ _, fun _ _ => rfl⟩
                      · refine mono_val rfl (fun a w hB hk hp => ?_)
                        obtain ⟨x8, ex8, rx8⟩ := hp ⟨8, .data⟩ (by simp) rfl _ _ rfl rfl
                        obtain rfl : x8 = _ := rx8
                        have fc0 := (hB.cell (p := ⟨we.heap.size, 1, none⟩) el).trans y1
                        exact ⟨.int .i64 (ub : Int), w, by simp [execOp, go_sem, ex8, fc0], Below.refl _ _, fun _ _ => rfl⟩
                      · refine mono_val rfl (fun a w hB hk hp => ?_)
                        obtain ⟨x7, ex7, rx7⟩ := hp ⟨7, .data⟩ (by simp) rfl _ _ rfl rfl
                        obtain rfl : x7 = _ := rx7
                        obtain ⟨x9, ex9, rx9⟩ := hp ⟨9, .data⟩ (by simp) rfl _ _ rfl rfl
                        obtain rfl : x9 = _ := rx9
                        have fc0 := qb1
                        exact ⟨.pointer (some ⟨bv, ov + ub * 3, none⟩), w, by simp [execOp, go_sem, ex7, ex9, fc0], Below.refl _ _, fun _ _ => rfl⟩
                      · refine mono_val rfl (fun a w hB hk hp => ?_)
                        obtain ⟨x10, ex10, rx10⟩ := hp ⟨10, .data⟩ (by simp) rfl _ _ rfl rfl
                        obtain rfl : x10 = _ := rx10
                        have fc0 := (hB.cell (p := ⟨bv, ov + ub * 3, none⟩) bvl).trans b0
                        have fc1 := (hB.cell (p := ⟨bv, ov + ub * 3 + 1, none⟩) bvl).trans b1
                        have fc2 := (hB.cell (p := ⟨bv, ov + ub * 3 + 2, none⟩) bvl).trans b2
                        exact ⟨.agg #[.int .i64 pb.x, .int .i64 pb.y, .int .i64 pb.z], w, ldmS_run _ _ _ 42 _ rfl (bv) (ov + ub * 3) (eval_tmp ex10) _ _ (rng3V fc0 fc1 fc2) Try.underlying42 rfl infoV3, Below.refl _ _, fun _ _ => rfl⟩
                      · refine mono_call rfl (fun a w hB hk hp => ?_)
                        obtain ⟨x5, ex5, rx5⟩ := hp ⟨5, .data⟩ (by simp) rfl _ _ rfl rfl
                        obtain rfl : x5 = _ := rx5
                        obtain ⟨x11, ex11, rx11⟩ := hp ⟨11, .data⟩ (by simp) rfl _ _ rfl rfl
                        obtain rfl : x11 = _ := rx11
                        exact ⟨15, #[.agg #[.int .i64 pa.x, .int .i64 pa.y, .int .i64 pa.z], .agg #[.int .i64 pb.x, .int .i64 pb.y, .int .i64 pb.z]], by simp [execOp, go_sem, ex5, ex11], (kA.at_ w).mono fun e w' ⟨h1, xg, h2⟩ => ⟨_, h1, h2 ▸ bel_grow (Below.refl _ _) xg, fun _ _ => rfl⟩⟩
                      · refine mono_call rfl (fun a w hB hk hp => ?_)
                        obtain ⟨x12, ex12, rx12⟩ := hp ⟨12, .data⟩ (by simp) rfl _ _ rfl rfl
                        obtain rfl : x12 = _ := rx12
                        exact ⟨16, #[.agg #[.int .i64 ab.x, .int .i64 ab.y, .int .i64 ab.z], .int .i64 840], by simp [execOp, go_sem, ex12], (kS.at_ w).mono fun e w' ⟨h1, xg, h2⟩ => ⟨_, h1, h2 ▸ bel_grow (Below.refl _ _) xg, fun _ _ => rfl⟩⟩
                      · refine mono_val rfl (fun a w hB hk hp => ?_)
                        exact ⟨.pointer (some ⟨w.heap.size, 0, none⟩), w.alloc (.cells #[.int .i64 0, .int .i64 0, .int .i64 0] 42), alloc_V9 _ _ rfl w, bel_alloc (Below.refl _ _) _, fun _ _ => ⟨w.heap.size, rfl, hB.size, Blk.new _ _ _ _ rfl⟩⟩
                      · trivial
                    · intro a w2 hB hsz hdf hk hgot
                      obtain ⟨v13, ev13, rv13⟩ := hgot 13 _ 157 rfl rfl
                      obtain rfl : v13 = _ := rv13
                      obtain ⟨v14, ev14, rv14⟩ := hgot 14 _ 17 rfl rfl
                      obtain ⟨P, rfl, hgp, hP2⟩ : PB w1.heap.size 42 #[.int .i64 0, .int .i64 0, .int .i64 0] w2 v14 := rv14
                      obtain ⟨f, hf, rfl⟩ := frame_eq hsz hdf hk [144, 145, 146, 147, 148, 149, 150, 151, 152, 153, 154, 155, 156, 157, 17] (by rfl)
                      have f157 := hf 157 _ ev13
                      have f17 := hf 17 _ ev14
                      clear hsz hdf hk hgot hf ev13 ev14
                      simp only [List.drop_succ_cons, List.drop_zero, setAll, List.setIfInBounds_toArray, List.set_cons_succ, List.set_cons_zero, f157, f17]
                      clear f157 f17
                      generalize f 144 = uu144; generalize f 145 = uu145; generalize f 146 = uu146; generalize f 147 = uu147; generalize f 148 = uu148; generalize f 149 = uu149; generalize f 150 = uu150; generalize f 151 = uu151; generalize f 152 = uu152; generalize f 153 = uu153; generalize f 154 = uu154; generalize f 155 = uu155; generalize f 156 = uu156
                      have hP3 := ((hP2.set 0 (.int .i64 s0.x)).set 1 (.int .i64 s0.y)).set 2 (.int .i64 s0.z)
                      have hb13 : Below w1.heap.size w1 _ := bel_set (bel_set (bel_set hB (p := ⟨P, 0, none⟩) hgp (.int .i64 s0.x)) (p := ⟨P, 1, none⟩) hgp (.int .i64 s0.y)) (p := ⟨P, 2, none⟩) hgp (.int .i64 s0.z)
                      have f0 := hP2.frozen 0
                      have f1 := hP2.frozen 1
                      have f2 := hP2.frozen 2
                      have p0 := hP2.cell 0
                      have p1 := hP2.cell 1
                      have p2 := hP2.cell 2
                      have pl := hP2.lt
                      simp at p0 p1 p2
                      clear hP2 hB x0 xl y0 y1 a0 a1 a2 b0 b1 b2 bvl kA kS hN1
                      go_upto_region 33 with (fail)
                      generalize ((w2.setCell ⟨P, 0, none⟩ (.int .i64 s0.x)).setCell ⟨P, 1, none⟩ (.int .i64 s0.y)).setCell ⟨P, 2, none⟩ (.int .i64 s0.z) = w3 at *
                      clear f0 f1 f2 p0 p1 p2 pl
                      have hE3 := hE2.below hb13
                      have hb3z := bel_trans hb1z hb13
                      replace sc := (hb13.cell (p := ⟨g, _, none⟩) gl).trans sc
                      have gl3 := Nat.lt_of_lt_of_le gl hb13.size
                      have hPne : wz.heap.size ≤ P := by have := hb1z.size; omega
                      have p0 : w3.cell? ⟨P, 0, none⟩ = some (.int .i64 s0.x) := hP3.cell 0
                      have p1 : w3.cell? ⟨P, 1, none⟩ = some (.int .i64 s0.y) := hP3.cell 1
                      have p2 : w3.cell? ⟨P, 2, none⟩ = some (.int .i64 s0.z) := hP3.cell 2
                      have pl := hP3.lt
                      clear hE2 el hb1 hb1z hb13 gl w1 hgp
                      by_cases h0 : sv = 0
                      · as_aux_lemma =>
                          subst h0
                          obtain ⟨⟨hf1, hf2⟩, hg1', hg2'⟩ := hsoft.out rfl
                          obtain ⟨uf, huf⟩ : ∃ uf : Nat, e.f = (uf : Int) := ⟨e.f.toNat, by omega⟩
                          obtain ⟨ug, hug⟩ : ∃ ug : Nat, e.g = (ug : Int) := ⟨e.g.toNat, by omega⟩
                          rw [huf, hug] at hE3
                          rw [huf] at hf2
                          rw [hug] at hg2'
                          have huf2 : uf < (sumsL vs fs).length := by rw [sumsL_len]; omega
                          have hug2 : ug < (sumsL vs fs).length := by rw [sumsL_len]; omega
                          have hN0 : nearP (halfP vs (midsL vs fs) e 0) (adW s0 (adW (sumsL vs fs)[uf] (sumsL vs fs)[ug])) 3360 := fun g hg => by
                            have h1 := hnr.out g hg
                            rw [if_pos rfl, if_pos rfl, huf, hug, vat_nat _ _ huf2, vat_nat _ _ hug2] at h1
                            exact h1
                          have kN := nearV_G _ _ _ hN0
                          obtain ⟨bs, os, hAs, hbs, a0, a1, a2⟩ := (hVS.below hb3z).at_ uf huf2
                          obtain ⟨bs', os', hAs', hbs', b0, b1, b2⟩ := (hVS.below hb3z).at_ ug hug2
                          obtain ⟨rfl, rfl⟩ : bs = bs' ∧ os = os' := by have := hAs.symm.trans hAs'; simpa using this
                          generalize (sumsL vs fs)[uf] = sf at *
                          generalize (sumsL vs fs)[ug] = sg at *
                          generalize hfg : adW sf sg = fg at *
                          generalize hs1 : adW s0 fg = s1 at *
                          have kA2 : Gives Try.prog 15 #[.agg #[.int .i64 sf.x, .int .i64 sf.y, .int .i64 sf.z], .agg #[.int .i64 sg.x, .int .i64 sg.y, .int .i64 sg.z]] (.agg #[.int .i64 fg.x, .int .i64 fg.y, .int .i64 fg.z]) := by rw [← hfg]; exact rAdd_any sf.x sf.y sf.z sg.x sg.y sg.z
                          have kA3 : Gives Try.prog 15 #[.agg #[.int .i64 s0.x, .int .i64 s0.y, .int .i64 s0.z], .agg #[.int .i64 fg.x, .int .i64 fg.y, .int .i64 fg.z]] (.agg #[.int .i64 s1.x, .int .i64 s1.y, .int .i64 s1.z]) := by rw [← hs1]; exact rAdd_any s0.x s0.y s0.z fg.x fg.y fg.z
                          generalize halfP vs (midsL vs fs) e 0 = hp at *
                          have y2 : w3.cell? ⟨we.heap.size, 2, none⟩ = some (.int .i64 (uf : Int)) := hE3.cell 2
                          have y3 : w3.cell? ⟨we.heap.size, 3, none⟩ = some (.int .i64 (ug : Int)) := hE3.cell 3
                          have el := hE3.lt
                          have qf1 : (uf : Int) < (fs.length : Int) := by omega
                          have qg1 : (ug : Int) < (fs.length : Int) := by omega
                          have qf0 : (0 : Int) ≤ (uf : Int) := by omega
                          have qg0 : (0 : Int) ≤ (ug : Int) := by omega
                          replace huf := Lib.hid huf
                          replace hug := Lib.hid hug
                          replace hfg := Lib.hid hfg
                          replace hs1 := Lib.hid hs1
                          replace hAs' := Lib.hid hAs'
                          clear hN0 hE3
                          subst hAs
                          go_upto_region 35 with (fail)
                          refine wp_region_tail 13 ?_ (by kernel_rfl) (by kernel_rfl) (by kernel_rfl) (fun x => ?_) (fun x => ?_)
                          rotate_left
                          · simp only [List.take_succ_cons, List.take_zero]
                            repeat (go_big_quiet_step (((first | with_reducible exact kA2.quiet _ | with_reducible exact kA2.quiet2 _ _ | with_reducible exact kA3.quiet _ | with_reducible exact kA3.quiet2 _ _))))
                            refine wpQuiet_nil ?_
                            exact rfl
                          simp only [List.drop_succ_cons, List.drop_zero]
                          try simp only [Act.put, List.setIfInBounds_toArray, List.set_cons_succ, List.set_cons_zero]
                          have hP4 := hP3.below (bel_grow (Below.refl _ _) x)
                          have hb4z := bel_grow hb3z x
                          clear p0 p1 p2 pl a0 a1 a2 b0 b1 b2 y2 y3 el sc kA2 kA3 hP3 hb3z
                          generalize grow w3 x = w4 at *
                          have p0 := hP4.cell 0
                          have p1 := hP4.cell 1
                          have p2 := hP4.cell 2
                          have f0 := hP4.frozen 0
                          have f1 := hP4.frozen 1
                          have f2 := hP4.frozen 2
                          have pl := hP4.lt
                          simp at p0 p1 p2
                          have hP5 := ((hP4.set 0 (.int .i64 s1.x)).set 1 (.int .i64 s1.y)).set 2 (.int .i64 s1.z)
                          have hb5z := bel_set (bel_set (bel_set hb4z (p := ⟨P, 0, none⟩) hPne (.int .i64 s1.x)) (p := ⟨P, 1, none⟩) hPne (.int .i64 s1.y)) (p := ⟨P, 2, none⟩) hPne (.int .i64 s1.z)
                          clear hP4 hb4z
                          go_upto_region 37 with (fail)
                          generalize ((w4.setCell ⟨P, 0, none⟩ (.int .i64 s1.x)).setCell ⟨P, 1, none⟩ (.int .i64 s1.y)).setCell ⟨P, 2, none⟩ (.int .i64 s1.z) = w5 at *
                          clear f0 f1 f2 p0 p1 p2 pl
                          have p0 : w5.cell? ⟨P, 0, none⟩ = some (.int .i64 s1.x) := hP5.cell 0
                          have p1 : w5.cell? ⟨P, 1, none⟩ = some (.int .i64 s1.y) := hP5.cell 1
                          have p2 : w5.cell? ⟨P, 2, none⟩ = some (.int .i64 s1.z) := hP5.cell 2
                          have pl := hP5.lt
                          have hN6 := hN.below hb5z
                          obtain ⟨br, orr, hR1, hbr, m0, m1, m2⟩ := hN6.r1.at_ _ hidx
                          rw [hme.out] at m0 m1 m2
                          have t0 : w5.cell? ⟨T, 0, none⟩ = some (.slice (some ⟨br, orr, none⟩) r.vs.length c1) := by rw [← hR1]; exact hN6.a.cell 0
                          have tl := hN6.a.lt
                          have x0 : w5.cell? ⟨W.heap.size, 0, none⟩ = some (.slice A1 vs.length k1) := hN6.c.cell 0
                          have xl := hN6.c.lt
                          have q6 : (0 : Int) ≤ (vs.length : Int) + (j : Int) := by omega
                          have q7 : (vs.length : Int) + (j : Int) < (r.vs.length : Int) := by omega
                          replace hR1 := Lib.hid hR1
                          clear hN6
                          refine wp_region_grow (by kernel_rfl) (by kernel_rfl) ?_
                          repeat (go_big_quiet_step (((first | with_reducible exact kN.quiet _ | with_reducible exact kN.quiet2 _ _))))
                          refine wpQuiet_nil ?_
                          rintro _ ⟨xg, rfl⟩
                          have hb9 := bel_grow hb5z xg
                          go_wp2
                          go_roundw
                          case rel => exact ⟨j + 1, by go_num, by omega, hb9⟩
                          case measure => simp [intOf]; omega
                      · as_aux_lemma =>
                          have h0b : (sv == 0) = false := by simpa using h0
                          have hN0 : nearP (halfP vs (midsL vs fs) e sv) s0 1680 := fun g hg => by
                            have h1 := hnr.out g hg
                            rw [if_neg h0, if_neg h0] at h1
                            exact h1
                          have kN := nearV_G _ _ _ hN0
                          generalize halfP vs (midsL vs fs) e sv = hp at *
                          clear hN0 hsoft hE3
                          go_upto_region 37 with (fail)
                          clear sc h0b h0
                          have hN6 := hN.below hb3z
                          obtain ⟨br, orr, hR1, hbr, m0, m1, m2⟩ := hN6.r1.at_ _ hidx
                          rw [hme.out] at m0 m1 m2
                          have t0 : w3.cell? ⟨T, 0, none⟩ = some (.slice (some ⟨br, orr, none⟩) r.vs.length c1) := by rw [← hR1]; exact hN6.a.cell 0
                          have tl := hN6.a.lt
                          have x0 : w3.cell? ⟨W.heap.size, 0, none⟩ = some (.slice A1 vs.length k1) := hN6.c.cell 0
                          have xl := hN6.c.lt
                          have q6 : (0 : Int) ≤ (vs.length : Int) + (j : Int) := by omega
                          have q7 : (vs.length : Int) + (j : Int) < (r.vs.length : Int) := by omega
                          replace hR1 := Lib.hid hR1
                          clear hN6
                          refine wp_region_grow (by kernel_rfl) (by kernel_rfl) ?_
                          repeat (go_big_quiet_step (((first | with_reducible exact kN.quiet _ | with_reducible exact kN.quiet2 _ _))))
                          refine wpQuiet_nil ?_
                          rintro _ ⟨xg, rfl⟩
                          have hb9 := bel_grow hb3z xg
                          go_wp2
                          go_roundw
                          case rel => exact ⟨j + 1, by go_num, by omega, hb9⟩
                          case measure => simp [intOf]; omega
                · as_aux_lemma =>
                    obtain rfl : j = t.es.length := by omega
                    clear hjl hj1 hNe
                    go_wp2
                    clear z0 zl
                    go_loopw [19] (fun vv wv => ∃ v : Nat, vv = .int .i64 (v : Int) ∧ v ≤ vs.length ∧ Below wz.heap.size wz wv) (fun vv _ => vs.length - (intOf vv).toNat)
                    case atStart => exact ⟨0, rfl, by omega, hbe⟩
                    case round =>
                      obtain ⟨v, rfl, hv1, hbv⟩ := hrel
                      rename World => wv
                      have hNv := hN.below hbv
                      have x0 : wv.cell? ⟨W.heap.size, 0, none⟩ = some (.slice A1 vs.length k1) := hNv.c.cell 0
                      have xl := hNv.c.lt
                      clear hbe we
                      by_cases hvl : v < vs.length
                      · have hnf := hTS.out.nf
                        have hvf : v < t.fans.length := by omega
                        obtain ⟨bf, of, Bf, mf, hB2, hbf, hfc, hIL⟩ := hNv.tv.fans.at_ v hvf
                        obtain ⟨fan, hfan⟩ : ∃ fan, t.fans[v] = fan := ⟨_, rfl⟩
                        have hfr := fan_rng hTS.out (List.getElem_mem hvf)
                        have hfpos : 1 ≤ t.fans[v].length := by
                          have v2 : v < t.rs.length := by have := hTS.out.nr; omega
                          obtain ⟨L, hF, hl, hfm⟩ := hTS.out.fan v hvf v2
                          have := fan_pos hTS.out.walk (by omega) (by omega) hl
                          rw [hfm, List.length_map]; exact this
                        rw [hfan] at hfc hIL hfr hfpos
                        obtain ⟨n, hn⟩ : ∃ n, fan.length = n := ⟨_, rfl⟩
                        rw [hn] at hfc hfpos hfr
                        obtain ⟨hfr1, hfr2⟩ := hfr
                        have hn3 : n ≤ 300 := by omega
                        obtain ⟨w1, w2, w3, w4⟩ := n840 hn3 hfpos
                        have y1 : wv.cell? ⟨X, 1, none⟩ = some (.slice B2 t.fans.length d2) := hNv.x.cell 1
                        have yl := hNv.x.lt
                        rw [hB2] at y1
                        obtain ⟨bv, ov, hA1, hbvl, a0, a1, a2⟩ := hNv.v1.at_ v hvl
                        rw [hA1] at x0
                        obtain ⟨p, hp⟩ : ∃ p, vs[v] = p := ⟨_, rfl⟩
                        rw [hp] at a0 a1 a2
                        obtain ⟨s00, hs00⟩ : ∃ s00, scW p (840 * (n : Int) * ((n : Int) - 2)) = s00 := ⟨_, rfl⟩
                        have kS0 : Gives Try.prog 16 #[.agg #[.int .i64 p.x, .int .i64 p.y, .int .i64 p.z], .int .i64 (840 * (n : Int) * ((n : Int) - 2))] (.agg #[.int .i64 s00.x, .int .i64 s00.y, .int .i64 s00.z]) := by rw [← hs00]; exact rScale_any p.x p.y p.z _
                        have q0 : (0 : Int) ≤ (v : Int) := by omega
                        have q1 : (v : Int) < (vs.length : Int) := by omega
                        have q2 : (v : Int) < (t.fans.length : Int) := by omega
                        replace hfan := Lib.hid hfan
                        replace hn := Lib.hid hn
                        replace hnf := Lib.hid hnf
                        replace hB2 := Lib.hid hB2
                        replace hA1 := Lib.hid hA1
                        replace hp := Lib.hid hp
                        replace hs00 := Lib.hid hs00
                        replace hfr1 := Lib.hid hfr1
                        go_upto_region 45 with (first | (go_at_call 16; (with_reducible refine (kS0.at_ _).mono ?_); rintro e9 w' ⟨rfl, xg, rfl⟩) | fail)
                        have hP1 : Blk ((grow wv xg).alloc (.cells #[.int .i64 s00.x, .int .i64 s00.y, .int .i64 s00.z] 42)) (grow wv xg).heap.size 42 #[.int .i64 s00.x, .int .i64 s00.y, .int .i64 s00.z] := Blk.new _ _ _ _ rfl
                        have hb1 : Below wv.heap.size wv ((grow wv xg).alloc (.cells #[.int .i64 s00.x, .int .i64 s00.y, .int .i64 s00.z] 42)) := bel_alloc (bel_grow (Below.refl _ _) xg) _
                        have hPz : wz.heap.size ≤ (grow wv xg).heap.size := by have := hbv.size; have := (bel_grow (Below.refl _ wv) xg).size; omega
                        have hb1z := bel_trans hbv hb1
                        have hPg : g < (grow wv xg).heap.size := by have := hbz.size; omega
                        clear x0 xl y1 yl a0 a1 a2 hfc hIL hbf hbvl kS0 hNv hb1
                        generalize (grow wv xg).alloc (.cells #[.int .i64 s00.x, .int .i64 s00.y, .int .i64 s00.z] 42) = w5 at *
                        generalize (grow wv xg).heap.size = P at *
                        clear hbv
                        go_wp2
                        go_loopw [21, 23] (fun hv iv wi => ∃ (i h : Nat) (s : P3), hv = .int .i64 (h : Int) ∧ iv = .int .i64 (i : Int) ∧ i ≤ t.es.length ∧ Blk wi P 42 #[.int .i64 s.x, .int .i64 s.y, .int .i64 s.z] ∧ Below wz.heap.size wz wi ∧ h ≤ i ∧ Hid (h = (othS (v : Int) ((t.es.zip sh2).take i)).length) ∧ Hid (s = foldP s00 ((othE (v : Int) ((t.es.zip sh2).take i)).map fun u => scW (vat vs u) 840))) (fun _ iv _ => t.es.length - (intOf iv).toNat)
                        case atStart => exact ⟨0, 0, s00, rfl, rfl, by omega, hP1, hb1z, by omega, Lib.hid rfl, Lib.hid rfl⟩
                        case round =>
                          obtain ⟨i, h, s, rfl, rfl, hi1, hP, hbi, hhi, hh, hse⟩ := hrel
                          rename World => wi
                          clear hP1 hb1z w5
                          have hNi := hN.below hbi
                          have z0 : wi.cell? ⟨X, 0, none⟩ = some (.slice B1 t.es.length d1) := hNi.x.cell 0
                          have zl := hNi.x.lt
                          by_cases hil : i < t.es.length
                          · as_aux_lemma =>
                              obtain ⟨be, oe, hB1e, hbel, e0, e1, e2, e3⟩ : ∃ b off, B1 = some ⟨b, off, none⟩ ∧ b < wi.heap.size ∧ _ := by
                                obtain ⟨b, off, h1, h2, h3⟩ := hNi.tv.es (by omega)
                                exact ⟨b, off, h1, h2, h3 i hil⟩
                              have her := edge_rng hTS.out (List.getElem_mem hil)
                              have hsj : i < sh2.length := by rw [hsl.out]; exact hil
                              obtain ⟨bg, og, hge, hgl2, sc⟩ := hNi.g.at_ i hsj
                              obtain ⟨rfl, rfl⟩ : g = bg ∧ 0 = og := by simpa using hge
                              rw [Nat.zero_add] at sc
                              obtain ⟨hoE, hoS⟩ := oth_next (v : Int) t.es sh2 i hil hsj
                              generalize t.es[i] = e at *
                              generalize sh2[i] = sv at *
                              obtain ⟨ua, hua⟩ : ∃ ua : Nat, e.a = (ua : Int) := ⟨e.a.toNat, by omega⟩
                              obtain ⟨ub, hub⟩ : ∃ ub : Nat, e.b = (ub : Int) := ⟨e.b.toNat, by omega⟩
                              rw [hua] at e0 her
                              rw [hub] at e1 her
                              have hual : ua < vs.length := by omega
                              have hubl : ub < vs.length := by omega
                              have hne : ua ≠ ub := by omega
                              unfold other at hoE hoS
                              rw [hua, hub] at hoE hoS
                              rw [hB1e] at z0
                              replace hua := Lib.hid hua
                              replace hub := Lib.hid hub
                              replace hge := Lib.hid hge
                              replace hB1e := Lib.hid hB1e
                              have q0 : (0 : Int) ≤ (i : Int) := by omega
                              have q1 : (i : Int) < (t.es.length : Int) := by omega
                              have s0 := hP.cell 0
                              have s1 := hP.cell 1
                              have s2 := hP.cell 2
                              have sl := hP.lt
                              simp at s0 s1 s2
                              have x0 : wi.cell? ⟨W.heap.size, 0, none⟩ = some (.slice A1 vs.length k1) := hNi.c.cell 0
                              have xl := hNi.c.lt
                              clear e2 e3
                              by_cases hva : v = ua
                              · as_aux_lemma =>
                                  subst hva
                                  rw [if_pos rfl] at hoE hoS
                                  have hul : ub < vs.length := by omega
                                  obtain ⟨bv, ov, hA1, hbv, a0, a1, a2⟩ := hNi.v1.at_ ub hul
                                  obtain ⟨pu, hpu⟩ : ∃ pu, vs[ub] = pu := ⟨_, rfl⟩
                                  rw [hpu] at a0 a1 a2
                                  rw [hA1] at x0
                                  generalize hab : scW pu 840 = ab at *
                                  generalize hs1 : adW s ab = s9 at *
                                  have kS : Gives Try.prog 16 #[.agg #[.int .i64 pu.x, .int .i64 pu.y, .int .i64 pu.z], .int .i64 840] (.agg #[.int .i64 ab.x, .int .i64 ab.y, .int .i64 ab.z]) := by rw [← hab]; exact rScale_any pu.x pu.y pu.z 840
                                  have kA : Gives Try.prog 15 #[.agg #[.int .i64 s.x, .int .i64 s.y, .int .i64 s.z], .agg #[.int .i64 ab.x, .int .i64 ab.y, .int .i64 ab.z]] (.agg #[.int .i64 s9.x, .int .i64 s9.y, .int .i64 s9.z]) := by rw [← hs1]; exact rAdd_any s.x s.y s.z ab.x ab.y ab.z
                                  have hsn : Hid (s9 = foldP s00 ((othE (v : Int) ((t.es.zip sh2).take (i + 1))).map fun u => scW (vat vs u) 840)) := Lib.hid (by
                                    rw [hoE, List.map_append, ← hs1, hse.out, ← hab, ← hpu]
                                    simp only [Option.toList, List.map_cons, List.map_nil]
                                    rw [foldP_snoc, vat_nat vs ub hul])
                                  replace hA1 := Lib.hid hA1
                                  replace hpu := Lib.hid hpu
                                  replace hab := Lib.hid hab
                                  replace hs1 := Lib.hid hs1
                                  replace hoE := Lib.hid hoE
                                  replace hoS := Lib.hid hoS
                                  go_upto_region 49 with (fail)
                                  refine wp_region_tail 22 ?_ (by kernel_rfl) (by kernel_rfl) (by kernel_rfl) (fun x => ?_) (fun x => ?_)
                                  rotate_left
                                  · simp only [List.take_succ_cons, List.take_zero]
                                    repeat (go_big_quiet_step (((first | with_reducible exact kS.quiet _ | with_reducible exact kS.quiet2 _ _ | with_reducible exact kA.quiet _ | with_reducible exact kA.quiet2 _ _))))
                                    refine wpQuiet_nil ?_
                                    exact rfl
                                  simp only [List.drop_succ_cons, List.drop_zero]
                                  try simp only [Act.put, List.setIfInBounds_toArray, List.set_cons_succ, List.set_cons_zero]
                                  have hP4 := hP.below (bel_grow (Below.refl _ _) x)
                                  have hb4z := bel_grow hbi x
                                  have sc4 := ((bel_grow (Below.refl _ wi) x).cell (p := ⟨g, i, none⟩) hgl2).trans sc
                                  have gl4 := Nat.lt_of_lt_of_le hgl2 (bel_grow (Below.refl _ wi) x).size
                                  clear s0 s1 s2 sl a0 a1 a2 sc kA kS hP x0 xl e0 e1 z0 zl hbel hbv hgl2 hbi hNi
                                  generalize grow wi x = w4 at *
                                  have p0 := hP4.cell 0
                                  have p1 := hP4.cell 1
                                  have p2 := hP4.cell 2
                                  have f0 := hP4.frozen 0
                                  have f1 := hP4.frozen 1
                                  have f2 := hP4.frozen 2
                                  have pl := hP4.lt
                                  simp at p0 p1 p2
                                  have hP5 := ((hP4.set 0 (.int .i64 s9.x)).set 1 (.int .i64 s9.y)).set 2 (.int .i64 s9.z)
                                  have hb5 : Below w4.heap.size w4 _ := Below.refl _ _
                                  have hb5z := bel_set (bel_set (bel_set hb4z (p := ⟨P, 0, none⟩) hPz (.int .i64 s9.x)) (p := ⟨P, 1, none⟩) hPz (.int .i64 s9.y)) (p := ⟨P, 2, none⟩) hPz (.int .i64 s9.z)
                                  have gP : g ≠ P := by have := hPg; omega
                                  clear hb5
                                  clear hP4 hb4z
                                  by_cases hs0 : sv = 0
                                  · subst hs0
                                    have hh2 : Hid (h = (othS (v : Int) ((t.es.zip sh2).take (i + 1))).length) := Lib.hid (by rw [hoS.out, if_pos rfl]; simpa using hh.out)
                                    go_wp2
                                    go_roundw
                                    case rel => exact ⟨i + 1, h, s9, rfl, by go_num, by omega, hP5, hb5z, by omega, hh2, hsn⟩
                                    case measure => simp [intOf]; omega
                                  · have hh2 : Hid (h + 1 = (othS (v : Int) ((t.es.zip sh2).take (i + 1))).length) := Lib.hid (by rw [hoS.out, if_neg hs0, List.length_append, ← hh.out]; rfl)
                                    have hs0b : (sv != 0) = true := by simpa using hs0
                                    go_wp2
                                    go_roundw
                                    case rel => exact ⟨i + 1, h + 1, s9, by go_num, by go_num, by omega, hP5, hb5z, by omega, hh2, hsn⟩
                                    case measure => simp [intOf]; omega
                              · as_aux_lemma =>
                                  have hvab : ((ua : Int) == (v : Int)) = false := by simp; omega
                                  by_cases hvb : v = ub
                                  · as_aux_lemma =>
                                      subst hvb
                                      rw [if_neg (show ¬ (ua : Int) = (v : Int) by omega), if_pos rfl] at hoE hoS
                                      have hul : ua < vs.length := by omega
                                      obtain ⟨bv, ov, hA1, hbv, a0, a1, a2⟩ := hNi.v1.at_ ua hul
                                      obtain ⟨pu, hpu⟩ : ∃ pu, vs[ua] = pu := ⟨_, rfl⟩
                                      rw [hpu] at a0 a1 a2
                                      rw [hA1] at x0
                                      generalize hab : scW pu 840 = ab at *
                                      generalize hs1 : adW s ab = s9 at *
                                      have kS : Gives Try.prog 16 #[.agg #[.int .i64 pu.x, .int .i64 pu.y, .int .i64 pu.z], .int .i64 840] (.agg #[.int .i64 ab.x, .int .i64 ab.y, .int .i64 ab.z]) := by rw [← hab]; exact rScale_any pu.x pu.y pu.z 840
                                      have kA : Gives Try.prog 15 #[.agg #[.int .i64 s.x, .int .i64 s.y, .int .i64 s.z], .agg #[.int .i64 ab.x, .int .i64 ab.y, .int .i64 ab.z]] (.agg #[.int .i64 s9.x, .int .i64 s9.y, .int .i64 s9.z]) := by rw [← hs1]; exact rAdd_any s.x s.y s.z ab.x ab.y ab.z
                                      have hsn : Hid (s9 = foldP s00 ((othE (v : Int) ((t.es.zip sh2).take (i + 1))).map fun u => scW (vat vs u) 840)) := Lib.hid (by
                                        rw [hoE, List.map_append, ← hs1, hse.out, ← hab, ← hpu]
                                        simp only [Option.toList, List.map_cons, List.map_nil]
                                        rw [foldP_snoc, vat_nat vs ua hul])
                                      replace hA1 := Lib.hid hA1
                                      replace hpu := Lib.hid hpu
                                      replace hab := Lib.hid hab
                                      replace hs1 := Lib.hid hs1
                                      replace hoE := Lib.hid hoE
                                      replace hoS := Lib.hid hoS
                                      go_upto_region 49 with (fail)
                                      refine wp_region_tail 22 ?_ (by kernel_rfl) (by kernel_rfl) (by kernel_rfl) (fun x => ?_) (fun x => ?_)
                                      rotate_left
                                      · simp only [List.take_succ_cons, List.take_zero]
                                        repeat (go_big_quiet_step (((first | with_reducible exact kS.quiet _ | with_reducible exact kS.quiet2 _ _ | with_reducible exact kA.quiet _ | with_reducible exact kA.quiet2 _ _))))
                                        refine wpQuiet_nil ?_
                                        exact rfl
                                      simp only [List.drop_succ_cons, List.drop_zero]
                                      try simp only [Act.put, List.setIfInBounds_toArray, List.set_cons_succ, List.set_cons_zero]
                                      have hP4 := hP.below (bel_grow (Below.refl _ _) x)
                                      have hb4z := bel_grow hbi x
                                      have sc4 := ((bel_grow (Below.refl _ wi) x).cell (p := ⟨g, i, none⟩) hgl2).trans sc
                                      have gl4 := Nat.lt_of_lt_of_le hgl2 (bel_grow (Below.refl _ wi) x).size
                                      clear s0 s1 s2 sl a0 a1 a2 sc kA kS hP x0 xl e0 e1 z0 zl hbel hbv hgl2 hbi hNi
                                      generalize grow wi x = w4 at *
                                      have p0 := hP4.cell 0
                                      have p1 := hP4.cell 1
                                      have p2 := hP4.cell 2
                                      have f0 := hP4.frozen 0
                                      have f1 := hP4.frozen 1
                                      have f2 := hP4.frozen 2
                                      have pl := hP4.lt
                                      simp at p0 p1 p2
                                      have hP5 := ((hP4.set 0 (.int .i64 s9.x)).set 1 (.int .i64 s9.y)).set 2 (.int .i64 s9.z)
                                      have hb5 : Below w4.heap.size w4 _ := Below.refl _ _
                                      have hb5z := bel_set (bel_set (bel_set hb4z (p := ⟨P, 0, none⟩) hPz (.int .i64 s9.x)) (p := ⟨P, 1, none⟩) hPz (.int .i64 s9.y)) (p := ⟨P, 2, none⟩) hPz (.int .i64 s9.z)
                                      have gP : g ≠ P := by have := hPg; omega
                                      clear hb5
                                      clear hP4 hb4z
                                      by_cases hs0 : sv = 0
                                      · subst hs0
                                        have hh2 : Hid (h = (othS (v : Int) ((t.es.zip sh2).take (i + 1))).length) := Lib.hid (by rw [hoS.out, if_pos rfl]; simpa using hh.out)
                                        go_wp2
                                        go_roundw
                                        case rel => exact ⟨i + 1, h, s9, rfl, by go_num, by omega, hP5, hb5z, by omega, hh2, hsn⟩
                                        case measure => simp [intOf]; omega
                                      · have hh2 : Hid (h + 1 = (othS (v : Int) ((t.es.zip sh2).take (i + 1))).length) := Lib.hid (by rw [hoS.out, if_neg hs0, List.length_append, ← hh.out]; rfl)
                                        have hs0b : (sv != 0) = true := by simpa using hs0
                                        go_wp2
                                        go_roundw
                                        case rel => exact ⟨i + 1, h + 1, s9, by go_num, by go_num, by omega, hP5, hb5z, by omega, hh2, hsn⟩
                                        case measure => simp [intOf]; omega
                                  · as_aux_lemma =>
                                      have hvbb : ((ub : Int) == (v : Int)) = false := by simp; omega
                                      rw [if_neg (show ¬ (ua : Int) = (v : Int) by omega), if_neg (show ¬ (ub : Int) = (v : Int) by omega)] at hoE hoS
                                      have hh2 : Hid (h = (othS (v : Int) ((t.es.zip sh2).take (i + 1))).length) := Lib.hid (by rw [hoS, hh.out]; split <;> simp)
                                      have hse2 : Hid (s = foldP s00 ((othE (v : Int) ((t.es.zip sh2).take (i + 1))).map fun u => scW (vat vs u) 840)) := Lib.hid (by rw [hoE, hse.out]; simp)
                                      clear hoE hoS
                                      go_wp2
                                      go_roundw
                                      case rel => exact ⟨i + 1, h, s, rfl, by go_num, by omega, hP, hbi, by omega, hh2, hse2⟩
                                      case measure => simp [intOf]; omega
                          · as_aux_lemma =>
                              obtain rfl : i = t.es.length := by omega
                              have hlz : (t.es.zip sh2).length = t.es.length := by rw [List.length_zip, hsl.out]; omega
                              rw [List.take_of_length_le (by omega)] at hh hse
                              clear hi1 hil hNi hlz
                              go_wp2
                              clear z0 zl
                              go_loopw [24] (fun kv wk => ∃ (k : Nat) (s9 : P3), kv = .int .i64 (k : Int) ∧ k ≤ n ∧ Blk wk P 42 #[.int .i64 s9.x, .int .i64 s9.y, .int .i64 s9.z] ∧ Below wz.heap.size wz wk ∧ Hid (s9 = foldP s ((fan.take k).map (vat (sumsL vs fs))))) (fun kv _ => n - (intOf kv).toNat)
                              case atStart => exact ⟨0, s, rfl, by omega, hP, hbi, Lib.hid rfl⟩
                              case round =>
                                obtain ⟨k, s9, rfl, hk1, hPk, hbk, hs9⟩ := hrel
                                rename World => wk
                                clear hP hbi wi
                                have hP := hPk
                                clear hPk
                                have hNk := hN.below hbk
                                by_cases hkl : k < n
                                · as_aux_lemma =>
                                    have hfl : k < fan.length := by rw [hn.out]; exact hkl
                                    obtain ⟨bf2, of2, Bf2, mf2, hB22, hbf2, hfc, hIL⟩ := hNk.tv.fans.at_ v hvf
                                    rw [hfan.out] at hfc hIL
                                    rw [hn.out] at hfc
                                    obtain ⟨bi, oi, hBi, hbi2, hic⟩ := hIL.at_ k hfl
                                    subst hBi
                                    have hfr9 := hfr1.out _ (List.getElem_mem hfl)
                                    obtain ⟨uf, huf⟩ : ∃ uf : Nat, fan[k] = (uf : Int) := ⟨fan[k].toNat, by omega⟩
                                    rw [huf] at hic hfr9
                                    have hufl : uf < (sumsL vs fs).length := by rw [sumsL_len]; omega
                                    obtain ⟨bs, os, hAs, hbs, a0, a1, a2⟩ := (hVS.below hbk).at_ uf hufl
                                    obtain ⟨pu, hpu⟩ : ∃ pu, (sumsL vs fs)[uf] = pu := ⟨_, rfl⟩
                                    rw [hpu] at a0 a1 a2
                                    obtain ⟨s8, hs8⟩ : ∃ s8, adW s9 pu = s8 := ⟨_, rfl⟩
                                    have hnx : Hid (s8 = foldP s ((fan.take (k + 1)).map (vat (sumsL vs fs)))) := Lib.hid (by
                                      rw [List.take_succ_eq_append_getElem hfl, List.map_append, List.map_singleton, foldP_snoc, ← hs9.out, huf, vat_nat _ _ hufl, hpu, hs8])
                                    have kA : Gives Try.prog 15 #[.agg #[.int .i64 s9.x, .int .i64 s9.y, .int .i64 s9.z], .agg #[.int .i64 pu.x, .int .i64 pu.y, .int .i64 pu.z]] (.agg #[.int .i64 s8.x, .int .i64 s8.y, .int .i64 s8.z]) := by rw [← hs8]; exact rAdd_any s9.x s9.y s9.z pu.x pu.y pu.z
                                    have y1 : wk.cell? ⟨X, 1, none⟩ = some (.slice (some ⟨bf2, of2, none⟩) t.fans.length d2) := by rw [← hB22]; exact hNk.x.cell 1
                                    have yl := hNk.x.lt
                                    have s0 := hP.cell 0
                                    have s1 := hP.cell 1
                                    have s2 := hP.cell 2
                                    have sl := hP.lt
                                    simp at s0 s1 s2
                                    have r0 : (0 : Int) ≤ (k : Int) := by omega
                                    have r1 : (k : Int) < (n : Int) := by omega
                                    have r2 : (0 : Int) ≤ (uf : Int) := by omega
                                    have r3 : (uf : Int) < (fs.length : Int) := by omega
                                    replace huf := Lib.hid huf
                                    replace hpu := Lib.hid hpu
                                    replace hs8 := Lib.hid hs8
                                    replace hB22 := Lib.hid hB22
                                    replace hAs := Lib.hid hAs
                                    clear hNk hIL
                                    go_upto_region 55 with (fail)
                                    rw [hAs.out]
                                    refine wp_region_tail 13 ?_ (by kernel_rfl) (by kernel_rfl) (by kernel_rfl) (fun x => ?_) (fun x => ?_)
                                    rotate_left
                                    · simp only [List.take_succ_cons, List.take_zero]
                                      repeat (go_big_quiet_step (((first | with_reducible exact kA.quiet _ | with_reducible exact kA.quiet2 _ _))))
                                      refine wpQuiet_nil ?_
                                      exact rfl
                                    simp only [List.drop_succ_cons, List.drop_zero]
                                    try simp only [Act.put, List.setIfInBounds_toArray, List.set_cons_succ, List.set_cons_zero]
                                    have hP4 := hP.below (bel_grow (Below.refl _ _) x)
                                    have hb4z := bel_grow hbk x
                                    clear s0 s1 s2 sl a0 a1 a2 kA hP hbk y1 yl hfc hic hbs hbi2 hbf2
                                    generalize grow wk x = w4 at *
                                    have p0 := hP4.cell 0
                                    have p1 := hP4.cell 1
                                    have p2 := hP4.cell 2
                                    have f0 := hP4.frozen 0
                                    have f1 := hP4.frozen 1
                                    have f2 := hP4.frozen 2
                                    have pl := hP4.lt
                                    simp at p0 p1 p2
                                    have hP5 := ((hP4.set 0 (.int .i64 s8.x)).set 1 (.int .i64 s8.y)).set 2 (.int .i64 s8.z)
                                    have hb5z := bel_set (bel_set (bel_set hb4z (p := ⟨P, 0, none⟩) hPz (.int .i64 s8.x)) (p := ⟨P, 1, none⟩) hPz (.int .i64 s8.y)) (p := ⟨P, 2, none⟩) hPz (.int .i64 s8.z)
                                    clear hP4 hb4z
                                    rw [← hAs.out]
                                    go_wp2
                                    go_roundw
                                    case rel => exact ⟨k + 1, s8, by go_num, by omega, hP5, hb5z, hnx⟩
                                    case measure => simp [intOf]; omega
                                · as_aux_lemma =>
                                    obtain rfl : k = n := by omega
                                    have hfl2 : fan.take k = fan := List.take_of_length_le (by rw [hn.out]; exact Nat.le_refl _)
                                    rw [hfl2] at hs9
                                    have hrl2 : v < r.vs.length := by rw [hrl.out]; omega
                                    obtain ⟨br, orr, hR1, hbr, m0, m1, m2⟩ := hNk.r1.at_ v hrl2
                                    obtain ⟨bv, ov, hA19, hbvl, a0, a1, a2⟩ := hNk.v1.at_ v hvl
                                    have hme : r.vs[v] = placeA vs (midsL vs fs) t.fans (t.es.zip sh2) v := by
                                      have h1 := levN_vert (vs := vs) (fs := fs) (ks := ks) (t := t) (sh := sh2) v hvl
                                      rw [← hr.out, vat_nat _ _ hrl2] at h1
                                      exact h1
                                    rw [hme] at m0 m1 m2
                                    rw [hp.out] at a0 a1 a2
                                    have t0 : wk.cell? ⟨T, 0, none⟩ = some (.slice (some ⟨br, orr, none⟩) r.vs.length c1) := by rw [← hR1]; exact hNk.a.cell 0
                                    have tl := hNk.a.lt
                                    have x0 : wk.cell? ⟨W.heap.size, 0, none⟩ = some (.slice (some ⟨bv, ov, none⟩) vs.length k1) := by rw [← hA19]; exact hNk.c.cell 0
                                    have xl := hNk.c.lt
                                    have s0 := hP.cell 0
                                    have s1 := hP.cell 1
                                    have s2 := hP.cell 2
                                    have sl := hP.lt
                                    simp at s0 s1 s2
                                    have q7 : (v : Int) < (r.vs.length : Int) := by omega
                                    have hgd : t.fans.getD v [] = fan := by rw [List.getD_eq_getElem?_getD, List.getElem?_eq_getElem hvf, Option.getD_some, hfan.out]
                                    replace hR1 := Lib.hid hR1
                                    replace hA19 := Lib.hid hA19
                                    replace hme := Lib.hid hme
                                    replace hfl2 := Lib.hid hfl2
                                    by_cases h2 : h < 2
                                    · as_aux_lemma =>
                                        have kN := nearV_G (placeA vs (midsL vs fs) t.fans (t.es.zip sh2) v) s9 (840 * (k : Int) * (k : Int)) (fun g hg => by
                                          have h1 := vert_nrI hg hTS.out hsh.out hf.out (by omega) h8.out v hvl (by rw [← hh.out]; exact h2) fan hgd
                                          rw [hn.out, vat_nat vs v hvl, hp.out, hs00.out, ← hse.out, ← hs9.out] at h1
                                          exact h1)
                                        generalize placeA vs (midsL vs fs) t.fans (t.es.zip sh2) v = pm at *
                                        have c1' : (h : Int) < 2 := by omega
                                        have c2' : ¬ (2 : Int) < (h : Int) := by omega
                                        replace hgd := Lib.hid hgd
                                        clear hNk hP
                                        go_upto_region 56 with (fail)
                                        refine wp_region_grow (by kernel_rfl) (by kernel_rfl) ?_
                                        repeat (go_big_quiet_step (((first | with_reducible exact kN.quiet _ | with_reducible exact kN.quiet2 _ _))))
                                        refine wpQuiet_nil ?_
                                        rintro _ ⟨xg, rfl⟩
                                        have hb9 := bel_grow hbk xg
                                        go_wp2
                                        go_roundw
                                        case rel => exact ⟨v + 1, by go_num, by omega, hb9⟩
                                        case measure => simp [intOf]; omega
                                    · as_aux_lemma =>
                                        have c1' : ¬ (h : Int) < 2 := by omega
                                        replace hgd := Lib.hid hgd
                                        by_cases h3 : 2 < h
                                        · as_aux_lemma =>
                                            rw [place_hard _ _ _ v (by rw [← hh.out]; exact h3), vat_nat vs v hvl, hp.out] at m0 m1 m2
                                            have c2' : (2 : Int) < (h : Int) := by omega
                                            clear hNk hP
                                            go_upto_region 56 with (fail)
                                            refine wp_region_grow (by kernel_rfl) (by kernel_rfl) ?_
                                            repeat (go_big_quiet_step (((fail))))
                                            refine wpQuiet_nil ?_
                                            rintro _ ⟨xg, rfl⟩
                                            have hb9 := bel_grow hbk xg
                                            go_wp2
                                            go_roundw
                                            case rel => exact ⟨v + 1, by go_num, by omega, hb9⟩
                                            case measure => simp [intOf]; omega
                                        · as_aux_lemma =>
                                            have c2' : ¬ (2 : Int) < (h : Int) := by omega
                                            generalize placeA vs (midsL vs fs) t.fans (t.es.zip sh2) v = pm at *
                                            clear hNk hP
                                            go_upto_region 56 with (fail)
                                            refine wp_region_grow (by kernel_rfl) (by kernel_rfl) ?_
                                            repeat (go_big_quiet_step (((fail))))
                                            refine wpQuiet_nil ?_
                                            rintro _ ⟨xg, rfl⟩
                                            have hb9 := bel_grow hbk xg
                                            go_wp2
                                            go_roundw
                                            case rel => exact ⟨v + 1, by go_num, by omega, hb9⟩
                                            case measure => simp [intOf]; omega
                      · obtain rfl : v = vs.length := by omega
                        clear hN hNv hVS
                        go_wp2
                        go_ret
                        exact ⟨rfl, bel_trans hB7 (bel_trans hbz hbv)⟩

theorem own : ownKnob Try.prog.godebug = none := by kernel_rfl
set_option maxRecDepth 100000 in
theorem lifted (os : Os) (started : os.Started) (H : Type) (enc : TypeId × Value → H) :
    ReturnsInHanded {} Try.checked os 3 .any (Rows.subNearSpec.pre6 enc Try.prog Try.f3 Rows.subNearRow.domain false) (Rows.subNearSpec.post enc Try.prog Try.f3 false true false false) := by
  refine returnsInHanded_of_change_sized (C := Try.checked) own started (by kernel_rfl) Try.func3
    (ChangeSpec.witness6 (enc := enc) (C := Try.checked) false ⟨#[], #[.agg #[.slice none 0 0, .slice none 0 0, .slice none 0 0]], []⟩ 12 (by kernel_rfl) (by kernel_rfl) (by kernel_rfl) (by kernel_rfl)) ?_
  intro W base args ds gs before hval0 hW hcnd hwt _
  have hval : ∀ (j : Nat) t v, Try.f3.params[j]? = some t → args[j]? = some v → Value.okWide Try.prog W .any base t v := hval0
  have hW' := hW
  obtain ⟨p, q, hA0, hV, rfl, hfz, hnd⟩ := hW
  have hA : DataW.TrodAll enc Try.prog W 0 (fun _ => true) true Try.f3.params.toList args.toList ds p := hA0
  rw [Try.params3] at hA hval
  obtain ⟨v0, vs0, d0, ds0, p0, q0, hargs, rfl, rfl, h0, r0⟩ := trodAll_cons hA
  obtain ⟨rfl, rfl, rfl⟩ := trodAll_nil r0
  obtain rfl : args = #[v0] := by cases args; simp_all
  obtain ⟨cs0, rfl, hsz0⟩ := okWide_struct Try.underlying26 (hval 0 26 v0 rfl rfl)
  rw [szCg] at hsz0
  have hTW0 : TW enc Try.prog W 0 (fun _ => true) true 26 cs0.toList := by
    obtain ⟨fu, hfu⟩ := h0
    refine ⟨fu, _, hfu, fun n hn => ?_⟩
    have := List.all_eq_true.1 hwt n (DataW.weights_mem_each (j := 0) (t := 26) (d := d0) (by rw [Try.params3]; rfl) (by rfl) n hn)
    simpa using this
  obtain ⟨c0, A01, A02, A03, k01, k02, k03, ecs0, hraw0⟩ := open_Cage (by simpa using hsz0) hTW0
  obtain rfl : cs0 = #[.slice A01 c0.vs.length k01, .slice A02 c0.fs.length k02, .slice A03 c0.ks.length k03] := Array.ext' ecs0
  clear hTW0
  refine (walk W c0 A01 A02 A03 k01 k02 k03 hraw0).mono fun e W' ⟨he, hb⟩ => ?_
  subst he
  exact ⟨_, rfl, law_post (tb := 4) (by kernel_rfl) (by kernel_rfl) rfl rfl Try.underlying4 rfl rfl rfl hW' hb⟩

theorem over : Rows.subNearRow.holds Try.pinned (OpenSpec.ofChange Rows.subNearSpec) :=
  OpenClaim.holds_of_wide 3 Try.f3 rfl rfl rfl rfl rfl rfl rfl ⟨rfl, rfl, rfl, rfl, rfl⟩ rfl rfl rfl rfl rfl (by kernel_rfl) Try.func3 (by kernel_rfl)
    (of_decide_eq_true (by kernel_rfl)) (by unfold Func.isWrapper; first | (rw [if_pos (by decide +kernel)]; kernel_rfl) | (rw [if_neg (by decide +kernel)]; exact ⟨rfl, rfl⟩))
    (fun os started H enc _ => lifted os started H enc)

theorem proved : Rows.SubNearSaid :=
  over
#print axioms proved
end Go.Proofs.Ytiaikceoodeboaa.subNear
