/- WeaveFlat holds for every input: the row, out of the walk. No condition. -/
import Derived.Test.YtpdnaceggpdleaaRows
import Derived.Test.YtpdnaceggpdleaaWevPl
import Derived.Test.YtpdnaceggpdleaaC4
namespace Go.Proofs.Ytpdnaceggpdleaa.weaveFlat
open Go.ChangeShapes Go.WideShapes Go.ChangeAt Go.RowKit
set_option linter.unusedVariables false
set_option linter.unusedSimpArgs false
set_option maxRecDepth 100000 in
set_option maxHeartbeats 4000000 in
theorem walk (W : World) (q : Nat → Int) (hq : ∀ k, k < 4 → i64W (q k)) : Calls Try.prog 6 #[.agg (q4C q)] W fun e w' => e = .returned (.bool true) ∧ Below W.heap.size W w' := by
  have hb0 : Below W.heap.size W (W.alloc (.cells (q4C q) 22)) := bel_alloc (Below.refl _ _) _
  have hQ0 : Blk (W.alloc (.cells (q4C q) 22)) W.heap.size 22 (q4C q) := Blk.new _ _ _ _ rfl
  replace hq := Lib.hid hq
  go_enter Try.func6, Try.ntmps6
  go_upto_region 1 with (fail)
  generalize W.alloc (.cells (q4C q) 22) = w0 at *
  have cA := alive13_any w0
  replace cA := Lib.hid cA
  go_upto_region 3 with (first | (go_at_call 8; (refine cA.out.mono ?_); rintro e w1 ⟨rfl, hb1⟩) | fail)
  have hQ1 := hQ0.below hb1
  have hB1 := bel_trans hb0 hb1
  clear hb0 hQ0 hb1 cA
  have cP := weaveB w1 q hq.out
  replace cP := Lib.hid cP
  have x0 : w1.cell? ⟨W.heap.size, 0, none⟩ = some (.int .i64 (q 0)) := hQ1.cell 0
  have x1 : w1.cell? ⟨W.heap.size, 1, none⟩ = some (.int .i64 (q 1)) := hQ1.cell 1
  have x2 : w1.cell? ⟨W.heap.size, 2, none⟩ = some (.int .i64 (q 2)) := hQ1.cell 2
  have x3 : w1.cell? ⟨W.heap.size, 3, none⟩ = some (.int .i64 (q 3)) := hQ1.cell 3
  have xl := hQ1.lt
  go_upto_region 4 with (first | (go_at_call 9; (refine cP.out.mono ?_); rintro e w2 ⟨hb2, hA⟩; rcases hA with ⟨hok, A1, A2, c1, c2, rfl, hc1, hc2, hL1, hL2⟩ | ⟨hno, rfl⟩) | fail)
  · have hQ2 := hQ1.below hb2
    have hB2 := bel_trans hB1 hb2
    clear x0 x1 x2 x3 xl cP hQ1 hB1 hb2
    have hrb := okQ_r hok
    have hF := flat_any hrb
    have hlS := spotsW_lt hrb
    have hlT := trisW_lt hrb
    have hbd : ∀ s ∈ spotsW (rQ q), (0 ≤ (plc (rQ q) (mxR (rQ q) 4) s).1 ∧ (plc (rQ q) (mxR (rQ q) 4) s).1 ≤ 720720) ∧ (0 ≤ (plc (rQ q) (mxR (rQ q) 4) s).2 ∧ (plc (rQ q) (mxR (rQ q) 4) s).2 ≤ 720720) := fun s hs => plc_bd hrb (most_bd hrb).1 (most_bd hrb).2 hs
    have cPl := fun s (hs : s ∈ spotsW (rQ q)) => place_any q hok s hs
    have htk := fun i => sumA_take hF.pos i
    rw [hF.sum] at htk
    have hXl : (trisR (rQ q) (mxR (rQ q) 4)).length = (trisW (rQ q)).length := by rw [hF.num, numT_len]
    generalize trisR (rQ q) (mxR (rQ q) 4) = X at *
    obtain ⟨r, hr⟩ : ∃ r, r = rQ q := ⟨_, rfl⟩
    rw [← hr] at hF hlS hlT hbd cPl htk hXl hL1 hL2 hc1 hc2 ⊢
    obtain ⟨R, hRe⟩ : ∃ R, R = mxR r 4 := ⟨_, rfl⟩
    rw [← hRe] at hbd cPl htk
    replace hRe := Lib.hid hRe
    replace hr := Lib.hid hr
    clear hrb hok
    generalize spotsW r = S at *
    generalize trisW r = T at *
    replace hF := Lib.hid hF
    replace hbd := Lib.hid hbd
    replace cPl := Lib.hid cPl
    replace htk := Lib.hid htk
    replace hXl := Lib.hid hXl
    go_upto_region 8 with (fail)
    go_wp2
    go_loopw [8, 7] (fun iv sv wr => ∃ i : Nat, iv = .int .i64 (i : Int) ∧ sv = .int .i64 (sumA r R (X.take i)) ∧ i ≤ T.length ∧ Below w2.heap.size w2 wr) (fun iv _ _ => T.length - (intOf iv).toNat)
    case atStart => exact ⟨0, rfl, by simp [sumA], by omega, Below.refl _ _⟩
    case round =>
      obtain ⟨i, rfl, rfl, hi, hBr⟩ := hrel
      by_cases hlt : i < T.length
      · have hltX : i < X.length := by rw [hXl.out]; exact hlt
        have q0 : (0 : Int) ≤ (i : Int) := by omega
        have q1 : (i : Int) < (T.length : Int) := by omega
        obtain ⟨bt, ot, hA2, hbt, t0, t1, t2⟩ := (hL2.below hBr).at_ i (by simpa using hlt)
        have eT : T[i] = num3 S X[i] := by simp only [hF.out.num, numT, List.getElem_map]
        simp only [List.getElem_map, trZ, eT, num3] at t0 t1 t2
        have hmX := List.getElem_mem hltX
        obtain ⟨j1, j2, j3⟩ := hF.out.mem _ hmX
        have hps := hF.out.pos _ hmX
        rw [← hRe.out] at hps
        have hts := htk.out i
        have hsn : sumA r R (X.take (i + 1)) = sumA r R (X.take i) + arT r R X[i] := by
          rw [List.take_succ_eq_append_getElem hltX, sumA_app, sumA_cons]
          simp [sumA]
        have hts2 := htk.out (i + 1)
        rw [hsn] at hts2
        clear eT hmX
        generalize X[i] = t at *
        obtain ⟨ta, tb, tc⟩ := t
        simp only at t0 t1 t2 j1 j2 j3
        obtain ⟨bs, os, hA1, hbs, s0, s1, s2⟩ := (hL1.below hBr).at_ (nof S ta) (nof_lt j1)
        obtain ⟨bs2, os2, hA1b, hbs2, v0, v1, v2⟩ := (hL1.below hBr).at_ (nof S tb) (nof_lt j2)
        obtain ⟨bs3, os3, hA1c, hbs3, z0, z1, z2⟩ := (hL1.below hBr).at_ (nof S tc) (nof_lt j3)
        rw [hA1] at hA1b hA1c
        obtain ⟨rfl, rfl⟩ : bs = bs2 ∧ os = os2 := by injection hA1b with h; injection h with h1 h2; exact ⟨h1, h2⟩
        obtain ⟨rfl, rfl⟩ : bs = bs3 ∧ os = os3 := by injection hA1c with h; injection h with h1 h2; exact ⟨h1, h2⟩
        have ea : S[nof S ta]'(nof_lt j1) = ta := (List.getElem?_eq_some_iff.1 (nof_get j1)).2
        have eb : S[nof S tb]'(nof_lt j2) = tb := (List.getElem?_eq_some_iff.1 (nof_get j2)).2
        have ec : S[nof S tc]'(nof_lt j3) = tc := (List.getElem?_eq_some_iff.1 (nof_get j3)).2
        rw [ea] at s0 s1 s2
        rw [eb] at v0 v1 v2
        rw [ec] at z0 z1 z2
        have l1 := nof_lt j1
        have l2 := nof_lt j2
        have l3 := nof_lt j3
        have kA := cPl.out ta j1
        have kB := cPl.out tb j2
        have kC := cPl.out tc j3
        obtain ⟨⟨a1, a2⟩, a3, a4⟩ := hbd.out ta j1
        obtain ⟨⟨b1, b2⟩, b3, b4⟩ := hbd.out tb j2
        obtain ⟨⟨d1, d2⟩, d3, d4⟩ := hbd.out tc j3
        unfold arT are at hps hts2 hsn
        simp only at hps hts2 hsn
        clear ea eb ec hA1b hA1c hbs2 hbs3 j1 j2 j3
        generalize nof S ta = na at *
        generalize nof S tb = nb at *
        generalize nof S tc = nc at *
        generalize (plc r R ta).1 = xa at *
        generalize (plc r R ta).2 = ya at *
        generalize (plc r R tb).1 = xb at *
        generalize (plc r R tb).2 = yb at *
        generalize (plc r R tc).1 = xc at *
        generalize (plc r R tc).2 = yc at *
        generalize sumA r R (X.take i) = sm at *
        obtain ⟨p1, p2⟩ := mul_bdW (x := xb - xa) (y := yc - ya) (by omega) (by omega)
        obtain ⟨p3, p4⟩ := mul_bdW (x := yb - ya) (y := xc - xa) (by omega) (by omega)
        obtain ⟨h1, h2⟩ := hts
        obtain ⟨h3, h4⟩ := hts2
        have n1 : (0 : Int) ≤ (na : Int) := by omega
        have n2 : (na : Int) < (S.length : Int) := by omega
        have n3 : (0 : Int) ≤ (nb : Int) := by omega
        have n4 : (nb : Int) < (S.length : Int) := by omega
        have n5 : (0 : Int) ≤ (nc : Int) := by omega
        have n6 : (nc : Int) < (S.length : Int) := by omega
        have hQr := hQ2.below hBr
        have y0 : wr.cell? ⟨W.heap.size, 0, none⟩ = some (.int .i64 (q 0)) := hQr.cell 0
        have y1 : wr.cell? ⟨W.heap.size, 1, none⟩ = some (.int .i64 (q 1)) := hQr.cell 1
        have y2 : wr.cell? ⟨W.heap.size, 2, none⟩ = some (.int .i64 (q 2)) := hQr.cell 2
        have y3 : wr.cell? ⟨W.heap.size, 3, none⟩ = some (.int .i64 (q 3)) := hQr.cell 3
        have yl := hQr.lt
        rw [hA2, hA1]
        replace hA2 := Lib.hid hA2
        replace hA1 := Lib.hid hA1
        replace hsn := Lib.hid hsn
        go_upto_region 11 with (fail)
        refine wp_region_make 11 ?_ 9 (.cells #[.int .i64 0, .int .i64 0] 34) (by kernel_rfl) (by kernel_rfl) (by kernel_rfl) (fun d hd => by cases hd; exact ⟨_, rfl, rfl, rfl, fun A u => alloc_2i A _ rfl u⟩) (fun pp => ?_) (fun pp qq => ?_)
        rotate_left
        · simp only [List.take_succ_cons, List.take_zero]
          repeat (go_big_quiet_step (((first | with_reducible exact kA.quiet _ | with_reducible exact kA.quiet2 _ _))))
          refine wpQuiet_nil ?_
          exact rfl
        simp only [List.drop_succ_cons, List.drop_zero]
        try simp only [Act.put, List.setIfInBounds_toArray, List.set_cons_succ, List.set_cons_zero]
        have hD9 : Blk (Go.Proofs.Ytpdnaceggpdleaa.grow ((Go.Proofs.Ytpdnaceggpdleaa.grow wr pp).alloc (.cells #[.int .i64 0, .int .i64 0] 34)) qq) (Go.Proofs.Ytpdnaceggpdleaa.grow wr pp).heap.size 34 #[.int .i64 0, .int .i64 0] := (Blk.new _ _ _ _ rfl).grow qq
        have hb9 : Below wr.heap.size wr (Go.Proofs.Ytpdnaceggpdleaa.grow ((Go.Proofs.Ytpdnaceggpdleaa.grow wr pp).alloc (.cells #[.int .i64 0, .int .i64 0] 34)) qq) := bel_grow (bel_alloc (bel_grow (Below.refl _ _) pp) _) qq
        have hgl9 : wr.heap.size ≤ (Go.Proofs.Ytpdnaceggpdleaa.grow wr pp).heap.size := (pp.kept wr).size
        generalize Go.Proofs.Ytpdnaceggpdleaa.grow ((Go.Proofs.Ytpdnaceggpdleaa.grow wr pp).alloc (.cells #[.int .i64 0, .int .i64 0] 34)) qq = v9 at *
        generalize (Go.Proofs.Ytpdnaceggpdleaa.grow wr pp).heap.size = g9 at *
        have e9a : v9.cell? ⟨g9, 0, none⟩ = some (.int .i64 0) := hD9.cell 0
        have e9b : v9.cell? ⟨g9, 1, none⟩ = some (.int .i64 0) := hD9.cell 1
        have f9a := hD9.frozen 0
        have f9b := hD9.frozen 1
        have l9g := hD9.lt
        go_upto_region 12 with (fail)
        have hE9 : Blk ((v9.setCell ⟨g9, 0, none⟩ (.int .i64 xa)).setCell ⟨g9, 1, none⟩ (.int .i64 ya)) g9 34 #[.int .i64 xa, .int .i64 ya] := (hD9.set 0 _).set 1 _
        have hB9 : Below wr.heap.size wr ((v9.setCell ⟨g9, 0, none⟩ (.int .i64 xa)).setCell ⟨g9, 1, none⟩ (.int .i64 ya)) := bel_set (bel_set hb9 (by exact hgl9) _) (by exact hgl9) _
        generalize (v9.setCell ⟨g9, 0, none⟩ (.int .i64 xa)).setCell ⟨g9, 1, none⟩ (.int .i64 ya) = w5 at *
        clear hD9 hb9 hgl9 e9a e9b f9a f9b l9g
        replace hBr := bel_trans hBr hB9
        clear t0 s0 s1 s2 kA
        replace t1 := (hB9.cell (p := ⟨bt, _, none⟩) hbt).trans t1
        replace t2 := (hB9.cell (p := ⟨bt, _, none⟩) hbt).trans t2
        replace v0 := (hB9.cell (p := ⟨bs, _, none⟩) hbs).trans v0
        replace v1 := (hB9.cell (p := ⟨bs, _, none⟩) hbs).trans v1
        replace v2 := (hB9.cell (p := ⟨bs, _, none⟩) hbs).trans v2
        replace z0 := (hB9.cell (p := ⟨bs, _, none⟩) hbs).trans z0
        replace z1 := (hB9.cell (p := ⟨bs, _, none⟩) hbs).trans z1
        replace z2 := (hB9.cell (p := ⟨bs, _, none⟩) hbs).trans z2
        replace y0 := (hB9.cell (p := ⟨W.heap.size, _, none⟩) yl).trans y0
        replace y1 := (hB9.cell (p := ⟨W.heap.size, _, none⟩) yl).trans y1
        replace y2 := (hB9.cell (p := ⟨W.heap.size, _, none⟩) yl).trans y2
        replace y3 := (hB9.cell (p := ⟨W.heap.size, _, none⟩) yl).trans y3
        replace hbt := Nat.lt_of_lt_of_le hbt hB9.size
        replace hbs := Nat.lt_of_lt_of_le hbs hB9.size
        replace yl := Nat.lt_of_lt_of_le yl hB9.size
        clear hB9
        go_upto_region 12 with (fail)
        refine wp_region_make 11 ?_ 10 (.cells #[.int .i64 0, .int .i64 0] 34) (by kernel_rfl) (by kernel_rfl) (by kernel_rfl) (fun d hd => by cases hd; exact ⟨_, rfl, rfl, rfl, fun A u => alloc_2i A _ rfl u⟩) (fun pp => ?_) (fun pp qq => ?_)
        rotate_left
        · simp only [List.take_succ_cons, List.take_zero]
          repeat (go_big_quiet_step (((first | with_reducible exact kB.quiet _ | with_reducible exact kB.quiet2 _ _))))
          refine wpQuiet_nil ?_
          exact rfl
        simp only [List.drop_succ_cons, List.drop_zero]
        try simp only [Act.put, List.setIfInBounds_toArray, List.set_cons_succ, List.set_cons_zero]
        have hD10 : Blk (Go.Proofs.Ytpdnaceggpdleaa.grow ((Go.Proofs.Ytpdnaceggpdleaa.grow w5 pp).alloc (.cells #[.int .i64 0, .int .i64 0] 34)) qq) (Go.Proofs.Ytpdnaceggpdleaa.grow w5 pp).heap.size 34 #[.int .i64 0, .int .i64 0] := (Blk.new _ _ _ _ rfl).grow qq
        have hb10 : Below w5.heap.size w5 (Go.Proofs.Ytpdnaceggpdleaa.grow ((Go.Proofs.Ytpdnaceggpdleaa.grow w5 pp).alloc (.cells #[.int .i64 0, .int .i64 0] 34)) qq) := bel_grow (bel_alloc (bel_grow (Below.refl _ _) pp) _) qq
        have hgl10 : w5.heap.size ≤ (Go.Proofs.Ytpdnaceggpdleaa.grow w5 pp).heap.size := (pp.kept w5).size
        generalize Go.Proofs.Ytpdnaceggpdleaa.grow ((Go.Proofs.Ytpdnaceggpdleaa.grow w5 pp).alloc (.cells #[.int .i64 0, .int .i64 0] 34)) qq = v10 at *
        generalize (Go.Proofs.Ytpdnaceggpdleaa.grow w5 pp).heap.size = g10 at *
        have e10a : v10.cell? ⟨g10, 0, none⟩ = some (.int .i64 0) := hD10.cell 0
        have e10b : v10.cell? ⟨g10, 1, none⟩ = some (.int .i64 0) := hD10.cell 1
        have f10a := hD10.frozen 0
        have f10b := hD10.frozen 1
        have l10g := hD10.lt
        go_upto_region 13 with (fail)
        have hE10 : Blk ((v10.setCell ⟨g10, 0, none⟩ (.int .i64 xb)).setCell ⟨g10, 1, none⟩ (.int .i64 yb)) g10 34 #[.int .i64 xb, .int .i64 yb] := (hD10.set 0 _).set 1 _
        have hB10 : Below w5.heap.size w5 ((v10.setCell ⟨g10, 0, none⟩ (.int .i64 xb)).setCell ⟨g10, 1, none⟩ (.int .i64 yb)) := bel_set (bel_set hb10 (by exact hgl10) _) (by exact hgl10) _
        generalize (v10.setCell ⟨g10, 0, none⟩ (.int .i64 xb)).setCell ⟨g10, 1, none⟩ (.int .i64 yb) = w6 at *
        clear hD10 hb10 hgl10 e10a e10b f10a f10b l10g
        replace hE9 := hE9.below hB10
        replace hBr := bel_trans hBr hB10
        clear t1 v0 v1 v2 kB
        replace t2 := (hB10.cell (p := ⟨bt, _, none⟩) hbt).trans t2
        replace z0 := (hB10.cell (p := ⟨bs, _, none⟩) hbs).trans z0
        replace z1 := (hB10.cell (p := ⟨bs, _, none⟩) hbs).trans z1
        replace z2 := (hB10.cell (p := ⟨bs, _, none⟩) hbs).trans z2
        replace y0 := (hB10.cell (p := ⟨W.heap.size, _, none⟩) yl).trans y0
        replace y1 := (hB10.cell (p := ⟨W.heap.size, _, none⟩) yl).trans y1
        replace y2 := (hB10.cell (p := ⟨W.heap.size, _, none⟩) yl).trans y2
        replace y3 := (hB10.cell (p := ⟨W.heap.size, _, none⟩) yl).trans y3
        replace hbt := Nat.lt_of_lt_of_le hbt hB10.size
        replace hbs := Nat.lt_of_lt_of_le hbs hB10.size
        replace yl := Nat.lt_of_lt_of_le yl hB10.size
        clear hB10
        go_upto_region 13 with (fail)
        refine wp_region_make 11 ?_ 11 (.cells #[.int .i64 0, .int .i64 0] 34) (by kernel_rfl) (by kernel_rfl) (by kernel_rfl) (fun d hd => by cases hd; exact ⟨_, rfl, rfl, rfl, fun A u => alloc_2i A _ rfl u⟩) (fun pp => ?_) (fun pp qq => ?_)
        rotate_left
        · simp only [List.take_succ_cons, List.take_zero]
          repeat (go_big_quiet_step (((first | with_reducible exact kC.quiet _ | with_reducible exact kC.quiet2 _ _))))
          refine wpQuiet_nil ?_
          exact rfl
        simp only [List.drop_succ_cons, List.drop_zero]
        try simp only [Act.put, List.setIfInBounds_toArray, List.set_cons_succ, List.set_cons_zero]
        have hD11 : Blk (Go.Proofs.Ytpdnaceggpdleaa.grow ((Go.Proofs.Ytpdnaceggpdleaa.grow w6 pp).alloc (.cells #[.int .i64 0, .int .i64 0] 34)) qq) (Go.Proofs.Ytpdnaceggpdleaa.grow w6 pp).heap.size 34 #[.int .i64 0, .int .i64 0] := (Blk.new _ _ _ _ rfl).grow qq
        have hb11 : Below w6.heap.size w6 (Go.Proofs.Ytpdnaceggpdleaa.grow ((Go.Proofs.Ytpdnaceggpdleaa.grow w6 pp).alloc (.cells #[.int .i64 0, .int .i64 0] 34)) qq) := bel_grow (bel_alloc (bel_grow (Below.refl _ _) pp) _) qq
        have hgl11 : w6.heap.size ≤ (Go.Proofs.Ytpdnaceggpdleaa.grow w6 pp).heap.size := (pp.kept w6).size
        generalize Go.Proofs.Ytpdnaceggpdleaa.grow ((Go.Proofs.Ytpdnaceggpdleaa.grow w6 pp).alloc (.cells #[.int .i64 0, .int .i64 0] 34)) qq = v11 at *
        generalize (Go.Proofs.Ytpdnaceggpdleaa.grow w6 pp).heap.size = g11 at *
        have e11a : v11.cell? ⟨g11, 0, none⟩ = some (.int .i64 0) := hD11.cell 0
        have e11b : v11.cell? ⟨g11, 1, none⟩ = some (.int .i64 0) := hD11.cell 1
        have f11a := hD11.frozen 0
        have f11b := hD11.frozen 1
        have l11g := hD11.lt
        go_upto_region 14 with (fail)
        have hE11 : Blk ((v11.setCell ⟨g11, 0, none⟩ (.int .i64 xc)).setCell ⟨g11, 1, none⟩ (.int .i64 yc)) g11 34 #[.int .i64 xc, .int .i64 yc] := (hD11.set 0 _).set 1 _
        have hB11 : Below w6.heap.size w6 ((v11.setCell ⟨g11, 0, none⟩ (.int .i64 xc)).setCell ⟨g11, 1, none⟩ (.int .i64 yc)) := bel_set (bel_set hb11 (by exact hgl11) _) (by exact hgl11) _
        generalize (v11.setCell ⟨g11, 0, none⟩ (.int .i64 xc)).setCell ⟨g11, 1, none⟩ (.int .i64 yc) = w7 at *
        clear hD11 hb11 hgl11 e11a e11b f11a f11b l11g
        replace hE9 := hE9.below hB11
        replace hE10 := hE10.below hB11
        replace hBr := bel_trans hBr hB11
        clear t2 z0 z1 z2 kC y0 y1 y2 y3 yl hbt hbs hB11
        have c9a : w7.cell? ⟨g9, 0, none⟩ = some (.int .i64 xa) := hE9.cell 0
        have c9b : w7.cell? ⟨g9, 1, none⟩ = some (.int .i64 ya) := hE9.cell 1
        have l9g := hE9.lt
        have c10a : w7.cell? ⟨g10, 0, none⟩ = some (.int .i64 xb) := hE10.cell 0
        have c10b : w7.cell? ⟨g10, 1, none⟩ = some (.int .i64 yb) := hE10.cell 1
        have l10g := hE10.lt
        have c11a : w7.cell? ⟨g11, 0, none⟩ = some (.int .i64 xc) := hE11.cell 0
        have c11b : w7.cell? ⟨g11, 1, none⟩ = some (.int .i64 yc) := hE11.cell 1
        have l11g := hE11.lt
        go_wp2
        go_roundw
        case rel => exact ⟨i + 1, by go_num, by rw [hsn.out], by omega, hBr⟩
        case measure => simp [intOf]; omega
      · obtain rfl : i = T.length := by omega
        have hsm : sumA r R (X.take T.length) = 2 * 720720 * 720720 := by
          rw [List.take_of_length_le (by rw [hXl.out]; exact Nat.le_refl _), hRe.out]
          exact hF.out.sum
        rw [hsm]
        replace hsm := Lib.hid hsm
        have hBB := bel_trans hB2 hBr
        clear hlt
        go_wp2
        go_ret
        exact ⟨by rfl, hBB⟩
  · have hbb := bel_trans hB1 hb2
    go_wp2
    go_ret
    exact ⟨rfl, hbb⟩

theorem own : ownKnob Try.prog.godebug = none := by kernel_rfl
set_option maxRecDepth 100000 in
theorem lifted (os : Os) (started : os.Started) (H : Type) (enc : TypeId × Value → H) :
    ReturnsInHanded {} Try.checked os 6 .any (Rows.weaveFlatSpec.pre6 enc Try.prog Try.f6 Rows.weaveFlatRow.domain false) (Rows.weaveFlatSpec.post enc Try.prog Try.f6 false true false false) := by
  refine returnsInHanded_of_change (C := Try.checked) own started (by kernel_rfl) Try.func6
    (ChangeSpec.witness6 (enc := enc) (C := Try.checked) false ⟨#[], #[.agg #[.int .i64 0, .int .i64 0, .int .i64 0, .int .i64 0]], []⟩ 12 (by kernel_rfl) (by kernel_rfl) (by kernel_rfl) (by kernel_rfl)) ?_
  intro W base args ds gs before hval0 hW hcnd _
  have hval : ∀ (j : Nat) t v, Try.f6.params[j]? = some t → args[j]? = some v → Value.okWide Try.prog W .any base t v := hval0
  have hW' := hW
  obtain ⟨p, q, hA0, hV, rfl, hfz, hnd⟩ := hW
  have hA : DataW.TrodAll enc Try.prog W 0 (fun _ => true) true Try.f6.params.toList args.toList ds p := hA0
  rw [Try.params6] at hA hval
  obtain ⟨v0, vs0, d0, ds0, p0, q0, hargs, rfl, rfl, h0, r0⟩ := trodAll_cons hA
  obtain ⟨rfl, rfl, rfl⟩ := trodAll_nil r0
  obtain rfl : args = #[v0] := by cases args; simp_all
  obtain ⟨q0, rfl, k0⟩ := open_I4 (hval 0 22 v0 rfl rfl) h0
  refine (walk W q0 k0).mono fun e W' ⟨he, hb⟩ => ?_
  subst he
  exact ⟨_, rfl, law_post (tb := 4) (by kernel_rfl) (by kernel_rfl) rfl rfl Try.underlying4 rfl rfl rfl hW' hb⟩

theorem over : Rows.weaveFlatRow.holds Try.pinned (OpenSpec.ofChange Rows.weaveFlatSpec) :=
  OpenClaim.holds_of_wide 6 Try.f6 rfl rfl rfl rfl rfl rfl rfl ⟨rfl, rfl, rfl, rfl, rfl⟩ rfl rfl rfl rfl rfl (by kernel_rfl) Try.func6 (by kernel_rfl)
    (of_decide_eq_true (by kernel_rfl)) (by unfold Func.isWrapper; first | (rw [if_pos (by decide +kernel)]; kernel_rfl) | (rw [if_neg (by decide +kernel)]; exact ⟨rfl, rfl⟩))
    (fun os started H enc _ => lifted os started H enc)

theorem proved : Rows.WeaveFlatSaid :=
  over
#print axioms proved
end Go.Proofs.Ytpdnaceggpdleaa.weaveFlat
