/- The program's writer: all of a scene's lines. -/
import Derived.Test.YtdkgbdecmgligaaGreatDoorMPrtD
import Derived.Test.YtdkgbdecmgligaaGreatDoorMRegion
namespace Go.Proofs.YtdkgbdecmgligaaGreatDoor
open Go.RowKit
set_option linter.unusedVariables false
set_option linter.unusedSimpArgs false
set_option linter.unnecessarySimpa false
theorem infoCam16 : (Tryz.prog.info? 25).map (·.size) = some 16 := by kernel_rfl
theorem infoSk6 : (Tryz.prog.info? 55).map (·.size) = some 6 := by kernel_rfl
theorem infoCg3 : (Tryz.prog.info? 48).map (·.size) = some 3 := by kernel_rfl
theorem rng_blk {W : World} {b : Nat} {T : TypeId} {cs : Array Value} (hb : Blk W b T cs) (o : Nat) (vs : List Value) (h : ∀ j v, vs[j]? = some v → cs[o + j]? = some v) : W.rangeAt b o vs := fun j v hv => (hb.cell (o + j)).trans (h j v hv)
set_option maxRecDepth 100000 in
set_option maxHeartbeats 8000000 in
theorem all_w {base g cL cM cT cS cC : Nat} {aL aM aT aS aC : Option Addr} {W : World} {st : Option (List UInt8)} (gs : GS) (hw : WfG gs) (hp : placedG gs) (hb : SB base W gs aL aM aT aS aC) (a0 a1 a2 a3 a4 a5 a6 a7 a8 a9 a10 a11 a12 a13 a14 a15 s0 s1 s2 : Int) (hca : gs.cam = [a0, a1, a2, a3, a4, a5, a6, a7, a8, a9, a10, a11, a12, a13, a14, a15]) (hsk : gs.sky = [s0, s1, s2]) (hI : ItoaOk base W) (h : WX base g W st) :
    Calls Tryz.prog 14 #[.pointer (some ⟨g, 0, none⟩), .agg #[.int .i64 a0, .int .i64 a1, .int .i64 a2, .int .i64 a3, .int .i64 a4, .int .i64 a5, .int .i64 a6, .int .i64 a7, .int .i64 a8, .int .i64 a9, .int .i64 a10, .int .i64 a11, .int .i64 a12, .int .i64 a13, .int .i64 a14, .int .i64 a15, .int .i64 s0, .int .i64 s1, .int .i64 s2, .slice aL gs.lights.length cL, .slice aM gs.mats.length cM, .slice aT gs.texs.length cT, .slice aS gs.skins.length cS, .slice aC gs.cages.length cC]] W fun e W' => e = .returned (.tuple #[]) ∧ WX base g W' (addT st (textG gs)) ∧ FrB base W W' := by
  have hmf : ∀ (fn : Fn) (first cap : Array Value) (w : World), (Instr.makeFunc fn first cap).run Tryz.prog w = .ok (.func fn first cap) w := fun _ _ _ _ => rfl
  have hbs := h.bs
  have hica := hw.ic
  have hisk := hw.is
  rw [hca] at hica
  rw [hsk] at hisk
  obtain ⟨nL, hnL⟩ : ∃ n, gs.lights.length = n := ⟨_, rfl⟩
  obtain ⟨nM, hnM⟩ : ∃ n, gs.mats.length = n := ⟨_, rfl⟩
  obtain ⟨nT, hnT⟩ : ∃ n, gs.texs.length = n := ⟨_, rfl⟩
  obtain ⟨nS, hnS⟩ : ∃ n, gs.skins.length = n := ⟨_, rfl⟩
  have hnC : gs.cages.length = nS := by rw [← hnS]; exact hp.1
  rw [hnL, hnM, hnT, hnS, hnC]
  have mL := hw.nl; have mM := hw.nm; have mT := hw.nt; have mS := hw.ns; have mC := hw.nc
  rw [hnL] at mL; rw [hnM] at mM; rw [hnT] at mT; rw [hnS] at mS; rw [hnC] at mC
  go_enter Tryz.func14, Tryz.ntmps14
  go_upto_region 1 with fail
  refine wp_letP (fun V1 hVe => ?_)
  have hBV : Below W.heap.size W V1 := by rw [hVe]; exact bel_alloc (Below.refl _ _) _
  have K1 : Blk V1 W.heap.size 34 #[.int .i64 a0, .int .i64 a1, .int .i64 a2, .int .i64 a3, .int .i64 a4, .int .i64 a5, .int .i64 a6, .int .i64 a7, .int .i64 a8, .int .i64 a9, .int .i64 a10, .int .i64 a11, .int .i64 a12, .int .i64 a13, .int .i64 a14, .int .i64 a15, .int .i64 s0, .int .i64 s1, .int .i64 s2, .slice aL nL cL, .slice aM nM cM, .slice aT nT cT, .slice aS nS cS, .slice aC nS cC] := by rw [hVe]; exact Blk.new _ _ _ _ rfl
  clear hVe
  have hF1 := FrB.of hbs hBV
  have hX1 := h.below hBV
  have hI1 := hI.frb hF1
  have hb1 := hb.frb hF1
  clear h hI hb
  obtain ⟨q, hq⟩ : ∃ q, q = W.heap.size := ⟨_, rfl⟩
  rw [← hq] at K1
  rw [← hq]
  clear hq
  replace hF1 := Lib.hid hF1
  have r0 : V1.rangeAt q 0 [.int .i64 a0, .int .i64 a1, .int .i64 a2, .int .i64 a3, .int .i64 a4, .int .i64 a5, .int .i64 a6, .int .i64 a7, .int .i64 a8, .int .i64 a9, .int .i64 a10, .int .i64 a11, .int .i64 a12, .int .i64 a13, .int .i64 a14, .int .i64 a15] := rng_blk K1 0 _ (fun j v hv => by
    rw [Nat.zero_add]
    have hj := (List.getElem?_eq_some_iff.1 hv).1
    simp at hj
    rw [← hv]
    rcases (by omega : j = 0 ∨ j = 1 ∨ j = 2 ∨ j = 3 ∨ j = 4 ∨ j = 5 ∨ j = 6 ∨ j = 7 ∨ j = 8 ∨ j = 9 ∨ j = 10 ∨ j = 11 ∨ j = 12 ∨ j = 13 ∨ j = 14 ∨ j = 15) with rfl | rfl | rfl | rfl | rfl | rfl | rfl | rfl | rfl | rfl | rfl | rfl | rfl | rfl | rfl | rfl <;> rfl)
  have hql := K1.lt
  have C1 := Lib.hid (camera_w a0 a1 a2 a3 a4 a5 a6 a7 a8 a9 a10 a11 a12 a13 a14 a15 hica hI1 hX1)
  replace r0 := Lib.hid r0
  go_upto_region 2 with (first | (refine wpList_load_mid rfl 25 _ rfl q 0 rfl [.int .i64 a0, .int .i64 a1, .int .i64 a2, .int .i64 a3, .int .i64 a4, .int .i64 a5, .int .i64 a6, .int .i64 a7, .int .i64 a8, .int .i64 a9, .int .i64 a10, .int .i64 a11, .int .i64 a12, .int .i64 a13, .int .i64 a14, .int .i64 a15] _ r0.out Tryz.underlying25 rfl infoCam16 ?_) | (go_at_call 25; (with_reducible refine Calls.mono C1.out ?_); rintro e V2 ⟨rfl, hX2, hF2⟩))
  clear C1 r0 hql
  replace hF2 := Lib.hid hF2
  have K2 := hF2.out.blk K1 (by decide) (by decide)
  have hI2 := hI1.frb hF2.out
  have hb2 := hb1.frb hF2.out
  have d0 : V2.cell? ⟨q, 16, none⟩ = some (.int .i64 s0) := K2.cell 16
  have d1 : V2.cell? ⟨q, 17, none⟩ = some (.int .i64 s1) := K2.cell 17
  have d2 : V2.cell? ⟨q, 18, none⟩ = some (.int .i64 s2) := K2.cell 18
  have hql := K2.lt
  have hB2 : Below V2.heap.size V2 (V2.alloc (.cells #[.int .i64 s0, .int .i64 s1, .int .i64 s2] 3)) := bel_alloc (Below.refl _ _) _
  have hG2 := FrB.of hX2.bs hB2
  have C1 := Lib.hid (line_w (c := 3) (n := 3) (A := some ⟨V2.heap.size, 0, none⟩) ([115, 107, 121] : Wd) (by decide) [s0, s1, s2] rfl hisk (by decide) (hI2.frb hG2) (nfb_of (Blk.new V2 3 #[.int .i64 s0, .int .i64 s1, .int .i64 s2] _ rfl) (fun i hi => by rcases (by simp at hi; omega : i = 0 ∨ i = 1 ∨ i = 2) with rfl | rfl | rfl <;> rfl)) (hX2.below hB2))
  replace hG2 := Lib.hid hG2
  go_upto_region 3 with (go_at_call 26; (with_reducible refine Calls.mono C1.out ?_); rintro e V3 ⟨rfl, hX3, hF3⟩)
  clear C1 d0 d1 d2 hql hB2
  replace hX3 : WX base g V3 (addT (addT st (kCamera ++ jn ([a0, a1, a2, a3, a4, a5, a6, a7, a8, a9, a10, a11, a12, a13, a14, a15].map shW) ++ [10])) (kSky ++ jn ([s0, s1, s2].map shW) ++ [10])) := hX3
  replace hF3 := Lib.hid (hG2.out.trans hF3)
  have K3 := hF3.out.blk K2 (by decide) (by decide)
  have hI3 := hI2.frb hF3.out
  have hb3 := hb2.frb hF3.out
  have d0 : V3.cell? ⟨q, 19, none⟩ = some (.slice aL nL cL) := K3.cell 19
  have hql := K3.lt
  have C1 := Lib.hid (each_L (c := cL) gs.lights hnL hw.pl mL hI3 hb3.rl hX3)
  go_upto_region 4 with (go_at_call 27; (with_reducible refine Calls.mono C1.out ?_); rintro e V4 ⟨rfl, hX4, hF4⟩)
  clear C1 d0 hql
  replace hF4 := Lib.hid hF4
  have K4 := hF4.out.blk K3 (by decide) (by decide)
  have hI4 := hI3.frb hF4.out
  have hb4 := hb3.frb hF4.out
  have d0 : V4.cell? ⟨q, 21, none⟩ = some (.slice aT nT cT) := K4.cell 21
  have hql := K4.lt
  have C1 := Lib.hid (each_T (c := cT) gs.texs hnT hw.pt mT hI4 hb4.rt hX4)
  go_upto_region 5 with (go_at_call 29; (with_reducible refine Calls.mono C1.out ?_); rintro e V5 ⟨rfl, hX5, hF5⟩)
  clear C1 d0 hql
  replace hF5 := Lib.hid hF5
  have K5 := hF5.out.blk K4 (by decide) (by decide)
  have hI5 := hI4.frb hF5.out
  have hb5 := hb4.frb hF5.out
  have d0 : V5.cell? ⟨q, 20, none⟩ = some (.slice aM nM cM) := K5.cell 20
  have hql := K5.lt
  have C1 := Lib.hid (each_M (c := cM) gs.mats hnM hw.pm mM hI5 hb5.rm hX5)
  go_upto_region 6 with (go_at_call 31; (with_reducible refine Calls.mono C1.out ?_); rintro e V6 ⟨rfl, hX6, hF6⟩)
  clear C1 d0 hql
  replace hF6 := Lib.hid hF6
  have K6 := hF6.out.blk K5 (by decide) (by decide)
  have hI6 := hI5.frb hF6.out
  have hb6 := hb5.frb hF6.out
  have hE : addT (addT (addT (addT (addT st (kCamera ++ jn ([a0, a1, a2, a3, a4, a5, a6, a7, a8, a9, a10, a11, a12, a13, a14, a15].map shW) ++ [10])) (kSky ++ jn ([s0, s1, s2].map shW) ++ [10])) (tx kLight gs.lights)) (txN kTexture gs.texs)) (txN kMaterial gs.mats) = addT st (headG gs) := by
    unfold headG
    rw [addT_assoc, addT_assoc, addT_assoc, addT_assoc, hca, hsk]
  rw [hE] at hX6
  clear hE hX1 hX2 hX3 hX4 hX5 K1 K2 K3 K4 K5 hb1 hb2 hb3 hb4 hb5 hI1 hI2 hI3 hI4 hI5
  have hF06 := Lib.hid (hF1.out.trans (hF2.out.trans (hF3.out.trans (hF4.out.trans (hF5.out.trans hF6.out)))))
  clear hF1 hF2 hF3 hF4 hF5 hF6 hG2
  have d0 : V6.cell? ⟨q, 22, none⟩ = some (.slice aS nS cS) := K6.cell 22
  have hql := K6.lt
  replace hX6 := Lib.hid hX6
  replace hI6 := Lib.hid hI6
  replace hb6 := Lib.hid hb6
  go_upto_region 7 with fail
  go_loopw [44] (fun i wr => ∃ (j : Nat), i = .int .i64 (j : Int) ∧ j ≤ nS ∧ Hid (WX base g wr (addT (addT st (headG gs)) (cagesG gs.mats gs.texs ((gs.skins.zip gs.cages).take j)))) ∧ Hid (FrB base V6 wr)) (fun i _ => nS - (intOf i).toNat)
  case atStart => exact ⟨0, rfl, by omega, Lib.hid (by rw [show addT (addT st (headG gs)) (cagesG gs.mats gs.texs ((gs.skins.zip gs.cages).take 0)) = addT st (headG gs) from hX6.out.nil]; exact hX6.out), Lib.hid (FrB.refl _ _)⟩
  case round =>
    obtain ⟨j, rfl, hj, hX, hF⟩ := hrel
    by_cases hlt : j < nS
    · clear d0 hql
      have k0 : (0 : Int) ≤ (j : Int) := by omega
      have k1 : (j : Int) < (nS : Int) := by omega
      have hjs : j < gs.skins.length := by omega
      have hjc : j < gs.cages.length := by omega
      have hjz : j < (gs.skins.zip gs.cages).length := by simp; omega
      have hb7 := hb6.out.frb hF.out
      have hI7 := hI6.out.frb hF.out
      have K7 := hF.out.blk K6 (by decide) (by decide)
      obtain ⟨bS, oS, rfl, hbl, hr⟩ := hb7.rs.range j (by simpa using hjs)
      obtain ⟨hnm, hl5, h64⟩ := hw.ps gs.skins[j] (List.getElem_mem hjs)
      have hpl := hp.2 gs.skins[j] (List.getElem_mem hjs)
      obtain ⟨nm, mt, lv, un, tx0, ht, hqe⟩ : ∃ nm mt lv un tx0 ht, gs.skins[j] = (nm, [mt, lv, un, tx0, ht]) := by
        match gs.skins[j], hl5 with
        | (nm, [mt, lv, un, tx0, ht]), _ => exact ⟨nm, mt, lv, un, tx0, ht, rfl⟩
      have rng : wr.rangeAt bS (oS + j * 6) [.string ⟨nm.toArray⟩, .int .i64 mt, .int .i64 lv, .int .i64 un, .int .i64 tx0, .int .i64 ht] := by
        have e : (gs.skins.map sRow)[j]'(by simpa using hjs) = [.string ⟨nm.toArray⟩, .int .i64 mt, .int .i64 lv, .int .i64 un, .int .i64 tx0, .int .i64 ht] := by rw [List.getElem_map, hqe]; rfl
        rw [← e]; exact hr
      rw [hqe] at hnm h64 hpl
      simp only [List.getD_eq_getElem?_getD, List.getElem?_cons_zero, List.getElem?_cons_succ, Option.getD_some] at hpl
      obtain ⟨⟨p1, p2⟩, p3, p4⟩ := hpl
      rw [hnM] at p2
      rw [hnT] at p4
      obtain ⟨mi, rfl⟩ : ∃ mi : Nat, mt = mi := ⟨mt.toNat, by omega⟩
      have hmi : mi < gs.mats.length := by omega
      obtain ⟨bM, oM, eM, hKM, hrM⟩ := hb7.rm (by simp; omega)
      subst eM
      have hbMl := hKM.1
      have hmn : wr.cell? ⟨bM, oM + mi * 9, none⟩ = some (.string ⟨gs.mats[mi].1.toArray⟩) := by
        have := (hrM mi (by simpa using hmi)).2 0 (by omega)
        rw [Nat.add_zero] at this
        rw [this, List.getElem_map]; rfl
      have hmw := (hw.pm gs.mats[mi] (List.getElem_mem hmi)).1
      obtain ⟨bC, oC, eC, hKC, hcg⟩ := hb7.rc (by omega)
      obtain ⟨A1, A2, A3, e1, e2, e3, ⟨g1, g2, g3⟩, hCB⟩ := hcg j hjc
      subst eC
      have hbCl := hKC.1
      have rngC : wr.rangeAt bC (oC + j * 3) [.slice A1 gs.cages[j].verts.length e1, .slice A2 gs.cages[j].faces.length e2, .slice A3 gs.cages[j].creases.length e3] := rng3 g1 g2 g3
      replace rng := Lib.hid rng
      have d0 : wr.cell? ⟨q, 22, none⟩ = some (.slice (some ⟨bS, oS, none⟩) nS cS) := K7.cell 22
      have hql := K7.lt
      go_upto_region 9 with (refine wpList_load_mid rfl 55 _ rfl bS (oS + j * 6) rfl [.string ⟨nm.toArray⟩, .int .i64 mi, .int .i64 lv, .int .i64 un, .int .i64 tx0, .int .i64 ht] _ rng.out Tryz.underlying55 rfl infoSk6 ?_)
      refine wp_letP (fun V8 hVe => ?_)
      have hB8 : Below wr.heap.size wr V8 := by rw [hVe]; exact bel_alloc (Below.refl _ _) _
      have K8 : Blk V8 wr.heap.size 55 #[.string ⟨nm.toArray⟩, .int .i64 mi, .int .i64 lv, .int .i64 un, .int .i64 tx0, .int .i64 ht] := by rw [hVe]; exact Blk.new _ _ _ _ rfl
      clear hVe d0 hql rng
      have hF8 := FrB.of hX.out.bs hB8
      have hX8 := hX.out.below hB8
      have hI8 := hI7.frb hF8
      have Q8 := hF8.blk K7 (by decide) (by decide)
      have hmn8 : V8.cell? ⟨bM, oM + mi * 9, none⟩ = some (.string ⟨gs.mats[mi].1.toArray⟩) := (hB8.cell (p := ⟨bM, _, none⟩) hbMl).trans hmn
      have hCB8 := hCB.frb hF8
      have hKC8 := hKC.frb hF8
      have hb8 := hb7.frb hF8
      have rngC8 : V8.rangeAt bC (oC + j * 3) [.slice A1 gs.cages[j].verts.length e1, .slice A2 gs.cages[j].faces.length e2, .slice A3 gs.cages[j].creases.length e3] := rng3 ((hB8.cell (p := ⟨bC, _, none⟩) hbCl).trans g1) ((hB8.cell (p := ⟨bC, _, none⟩) hbCl).trans g2) ((hB8.cell (p := ⟨bC, _, none⟩) hbCl).trans g3)
      have hKM8 := hKM.frb hF8
      replace hF8 := Lib.hid (hF.out.trans hF8)
      obtain ⟨t, ht0⟩ : ∃ t, t = wr.heap.size := ⟨_, rfl⟩
      rw [← ht0] at K8
      rw [← ht0]
      clear ht0 hb7 hI7 K7 hr hrM hmn g1 g2 g3 hCB hKC hcg hbl hbMl hbCl rngC
      by_cases htx : 0 ≤ tx0
      · obtain ⟨ti, rfl⟩ : ∃ ti : Nat, tx0 = ti := ⟨tx0.toNat, by omega⟩
        have hti : ti < gs.texs.length := by omega
        obtain ⟨bT, oT, B, m, eT, hbTl, hrT, _⟩ := hb8.rt.at_ ti hti
        subst eT
        have htn : V8.cell? ⟨bT, oT + ti * 4, none⟩ = some (.string ⟨gs.texs[ti].1.toArray⟩) := by
          have := hrT 0 (.string ⟨gs.texs[ti].1.toArray⟩) rfl
          simpa using this
        have htw := (hw.pt gs.texs[ti] (List.getElem_mem hti)).1
        have d1 : V8.cell? ⟨t, 4, none⟩ = some (.int .i64 ti) := K8.cell 4
        have d2 : V8.cell? ⟨q, 21, none⟩ = some (.slice (some ⟨bT, oT, none⟩) nT cT) := Q8.cell 21
        have hql := Q8.lt
        have htl := K8.lt
        have k4 : (0 : Int) ≤ (ti : Int) := by omega
        have k5 : (ti : Int) < (nT : Int) := by omega
        have hg0 : 0 ≤ (ti : Int) := by omega
        go_upto_region 12 with fail
        clear d1 d2 htn hrT hbTl
        refine wp_region_held (S := fun w' => w'.cell? ⟨q, 20, none⟩ = some (.slice (some ⟨bM, oM, none⟩) nM cM) ∧ w'.cell? ⟨t, 1, none⟩ = some (.int .i64 mi) ∧ w'.cell? ⟨bM, oM + mi * 9, none⟩ = some (.string ⟨gs.mats[mi].1.toArray⟩) ∧ w'.rangeAt t 0 [.string ⟨nm.toArray⟩, .int .i64 mi, .int .i64 lv, .int .i64 un, .int .i64 ti, .int .i64 ht]) (by kernel_rfl) ?_
        refine anyH_letter (fun V9 hV9 => ?_)
        have hB9 : Below V8.heap.size V8 V9 := by rw [hV9]; exact bel_dr (Below.refl _ _) _
        clear hV9
        have hF9 := FrB.of hX8.bs hB9
        have Q9 := Q8.below hB9
        have K9 := K8.below hB9
        have hKM9 := hKM8.frb hF9
        have c20 : V9.cell? ⟨q, 20, none⟩ = some (.slice (some ⟨bM, oM, none⟩) nM cM) := Q9.cell 20
        have cb1 : V9.cell? ⟨t, 1, none⟩ = some (.int .i64 mi) := K9.cell 1
        have cmn : V9.cell? ⟨bM, oM + mi * 9, none⟩ = some (.string ⟨gs.mats[mi].1.toArray⟩) := (hKM8.cell hF9 _).trans hmn8
        have cbr0 : ∀ V : World, Blk V t 55 #[.string ⟨nm.toArray⟩, .int .i64 mi, .int .i64 lv, .int .i64 un, .int .i64 ti, .int .i64 ht] → V.rangeAt t 0 [.string ⟨nm.toArray⟩, .int .i64 mi, .int .i64 lv, .int .i64 un, .int .i64 ti, .int .i64 ht] := fun V hV => rng_blk hV 0 _ (fun i v hv => by
          rw [Nat.zero_add]
          have hi := (List.getElem?_eq_some_iff.1 hv).1
          simp at hi
          rw [← hv]
          rcases (by omega : i = 0 ∨ i = 1 ∨ i = 2 ∨ i = 3 ∨ i = 4 ∨ i = 5) with rfl | rfl | rfl | rfl | rfl | rfl <;> rfl)
        have cbr := cbr0 V9 K9
        have k6 : (0 : Int) ≤ (mi : Int) := by omega
        have k7 : (mi : Int) < (nM : Int) := by omega
        refine wpAnyH_take (i := 0) (v := .pointer (some ⟨g, 0, none⟩)) rfl (by kernel_rfl) (by kernel_rfl) (by kernel_rfl) (fun _ _ _ h => h) (.inl ⟨rfl, fun w hS => by simp [execOp, go_sem, Act.put]⟩) ⟨c20, cb1, cmn, cbr⟩ ?_
        simp only [Act.put, List.getElem_toArray, List.getElem_cons_zero, List.getElem_cons_succ, List.setIfInBounds_toArray, List.set_cons_succ, List.set_cons_zero]
        refine wpAnyH_take (i := 1) (v := .agg #[.string ⟨nm.toArray⟩, .int .i64 mi, .int .i64 lv, .int .i64 un, .int .i64 ti, .int .i64 ht]) rfl (by kernel_rfl) (by kernel_rfl) (by kernel_rfl) (fun _ _ _ h => h) (yieldsIf_load_mid rfl 55 _ rfl t 0 rfl [.string ⟨nm.toArray⟩, .int .i64 mi, .int .i64 lv, .int .i64 un, .int .i64 ti, .int .i64 ht] _ (fun w hS => hS.2.2.2) Tryz.underlying55 rfl infoSk6) ⟨c20, cb1, cmn, cbr⟩ ?_
        simp only [Act.put, List.getElem_toArray, List.getElem_cons_zero, List.getElem_cons_succ, List.setIfInBounds_toArray, List.set_cons_succ, List.set_cons_zero]
        refine wpAnyH_take (i := 2) (v := .pointer (some ⟨q, 20, none⟩)) rfl (by kernel_rfl) (by kernel_rfl) (by kernel_rfl) (fun _ _ _ h => h) (.inl ⟨rfl, fun w hS => by simp [execOp, go_sem, Act.put]⟩) ⟨c20, cb1, cmn, cbr⟩ ?_
        simp only [Act.put, List.getElem_toArray, List.getElem_cons_zero, List.getElem_cons_succ, List.setIfInBounds_toArray, List.set_cons_succ, List.set_cons_zero]
        refine wpAnyH_take (i := 3) (v := .slice (some ⟨bM, oM, none⟩) nM cM) rfl (by kernel_rfl) (by kernel_rfl) (by kernel_rfl) (fun _ _ _ h => h) (.inl ⟨rfl, fun w hS => by simp [execOp, go_sem, Act.put, hS.1]⟩) ⟨c20, cb1, cmn, cbr⟩ ?_
        simp only [Act.put, List.getElem_toArray, List.getElem_cons_zero, List.getElem_cons_succ, List.setIfInBounds_toArray, List.set_cons_succ, List.set_cons_zero]
        refine wpAnyH_take (i := 4) (v := .pointer (some ⟨t, 1, none⟩)) rfl (by kernel_rfl) (by kernel_rfl) (by kernel_rfl) (fun _ _ _ h => h) (.inl ⟨rfl, fun w hS => by simp [execOp, go_sem, Act.put]⟩) ⟨c20, cb1, cmn, cbr⟩ ?_
        simp only [Act.put, List.getElem_toArray, List.getElem_cons_zero, List.getElem_cons_succ, List.setIfInBounds_toArray, List.set_cons_succ, List.set_cons_zero]
        refine wpAnyH_take (i := 5) (v := .int .i64 mi) rfl (by kernel_rfl) (by kernel_rfl) (by kernel_rfl) (fun _ _ _ h => h) (.inl ⟨rfl, fun w hS => by simp [execOp, go_sem, Act.put, hS.2.1]⟩) ⟨c20, cb1, cmn, cbr⟩ ?_
        simp only [Act.put, List.getElem_toArray, List.getElem_cons_zero, List.getElem_cons_succ, List.setIfInBounds_toArray, List.set_cons_succ, List.set_cons_zero]
        refine wpAnyH_take (i := 6) (v := .pointer (some ⟨bM, oM + mi * 9, none⟩)) rfl (by kernel_rfl) (by kernel_rfl) (by kernel_rfl) (fun _ _ _ h => h) (.inl ⟨rfl, fun w hS => by simp [execOp, go_sem, Act.put, k6, k7]⟩) ⟨c20, cb1, cmn, cbr⟩ ?_
        simp only [Act.put, List.getElem_toArray, List.getElem_cons_zero, List.getElem_cons_succ, List.setIfInBounds_toArray, List.set_cons_succ, List.set_cons_zero]
        refine wpAnyH_take (i := 7) (v := .pointer (some ⟨bM, oM + mi * 9, none⟩)) rfl (by kernel_rfl) (by kernel_rfl) (by kernel_rfl) (fun _ _ _ h => h) (.inl ⟨rfl, fun w hS => by simp [execOp, go_sem, Act.put]⟩) ⟨c20, cb1, cmn, cbr⟩ ?_
        simp only [Act.put, List.getElem_toArray, List.getElem_cons_zero, List.getElem_cons_succ, List.setIfInBounds_toArray, List.set_cons_succ, List.set_cons_zero]
        refine wpAnyH_take (i := 8) (v := .string ⟨gs.mats[mi].1.toArray⟩) rfl (by kernel_rfl) (by kernel_rfl) (by kernel_rfl) (fun _ _ _ h => h) (.inl ⟨rfl, fun w hS => by simp [execOp, go_sem, Act.put, hS.2.2.1]⟩) ⟨c20, cb1, cmn, cbr⟩ ?_
        simp only [Act.put, List.getElem_toArray, List.getElem_cons_zero, List.getElem_cons_succ, List.setIfInBounds_toArray, List.set_cons_succ, List.set_cons_zero]
        refine wpAnyH_take (i := 9) (v := .string ⟨(gs.texs[ti].1).toArray⟩) rfl (by kernel_rfl) (by kernel_rfl) (by kernel_rfl) (fun _ _ _ h => h) (.inl ⟨rfl, fun w hS => by simp [execOp, go_sem, Act.put]⟩) ⟨c20, cb1, cmn, cbr⟩ ?_
        simp only [Act.put, List.getElem_toArray, List.getElem_cons_zero, List.getElem_cons_succ, List.setIfInBounds_toArray, List.set_cons_succ, List.set_cons_zero]
        refine wpAnyH_forced (i := 10) (by kernel_rfl) rfl rfl ?_
        refine wp_enter (f := 33) (args := #[.pointer (some ⟨g, 0, none⟩), .agg #[.string ⟨nm.toArray⟩, .int .i64 mi, .int .i64 lv, .int .i64 un, .int .i64 ti, .int .i64 ht], .string ⟨gs.mats[mi].1.toArray⟩, .string ⟨(gs.texs[ti].1).toArray⟩]) (w' := V9) (R := fun v w2 => v = .tuple #[] ∧ WX base g w2 (addT (addT (addT st (headG gs)) (cagesG gs.mats gs.texs ((gs.skins.zip gs.cages).take j))) (kCage ++ jn [nm, gs.mats[mi].1, shW lv, shW un, gs.texs[ti].1, shW ht] ++ [10])) ∧ FrB base V9 w2) (by simp [execOp, go_sem, Act.put]) ?_ ?_
        · refine (skin_w nm gs.mats[mi].1 (gs.texs[ti].1) hnm hmw htw mi lv un ti ht (fun x hx => h64 x (by simp at hx ⊢; rcases hx with rfl | rfl | rfl <;> simp)) (hI8.frb hF9) (hX8.below hB9)).mono ?_
          rintro e w' ⟨rfl, h1, h2⟩
          exact ⟨_, rfl, rfl, h1, h2⟩
        rintro v10 V10 ⟨rfl, hX10, hF10⟩
        refine ⟨⟨(hF10.blk Q9 (by decide) (by decide)).cell 20, (hF10.blk K9 (by decide) (by decide)).cell 1, (hKM9.cell hF10 _).trans cmn, cbr0 V10 (hF10.blk K9 (by decide) (by decide))⟩, ?_⟩
        refine wpAnyH_done (by kernel_rfl) ?_ _
        replace hF10 := hF9.trans hF10
        have K10 := hF10.blk Q8 (by decide) (by decide)
        have hI10 := hI8.frb hF10
        have c23 : V10.cell? ⟨q, 23, none⟩ = some (.slice (some ⟨bC, oC, none⟩) nS cC) := K10.cell 23
        have hql10 := K10.lt
        have hC10 := hCB8.frb hF10
        have rngC10 : V10.rangeAt bC (oC + j * 3) [.slice A1 gs.cages[j].verts.length e1, .slice A2 gs.cages[j].faces.length e2, .slice A3 gs.cages[j].creases.length e3] := rng3 ((hKC8.cell hF10 _).trans (rngC8 0 _ rfl)) ((hKC8.cell hF10 _).trans (rngC8 1 _ rfl)) ((hKC8.cell hF10 _).trans (rngC8 2 _ rfl))
        have hbC10 : bC < V10.heap.size := (hKC8.frb hF10).1
        have C1 := Lib.hid (cage_w (c1 := e1) (c2 := e2) (c3 := e3) gs.cages[j] hC10 hI10 hX10)
        have hEE := Lib.hid (show addT (addT (addT (addT st (headG gs)) (cagesG gs.mats gs.texs ((gs.skins.zip gs.cages).take j))) (kCage ++ jn [nm, gs.mats[mi].1, shW lv, shW un, gs.texs[ti].1, shW ht] ++ [10])) (cageT gs.cages[j]) = addT (addT st (headG gs)) (cagesG gs.mats gs.texs ((gs.skins.zip gs.cages).take (j + 1))) by
          rw [addT_assoc (addT st (headG gs)), addT_assoc (addT st (headG gs)), cagesG_take _ _ hjz, List.getElem_zip, hqe]
          unfold skG
          (simp [hmi, hti, List.append_assoc]) <;> rfl)
        replace rngC10 := Lib.hid rngC10
        clear hCB8 hKC8 rngC8 hI8 hX8 Q8 K8 Q9 K9 cbr0 c20 cb1 cbr cmn hmn8 hb8
        go_wp2_with (first | (refine wpList_load_mid rfl 48 _ rfl bC (oC + j * 3) rfl [.slice A1 gs.cages[j].verts.length e1, .slice A2 gs.cages[j].faces.length e2, .slice A3 gs.cages[j].creases.length e3] _ rngC10.out Tryz.underlying48 rfl infoCg3 ?_) | (go_at_call 34; (with_reducible refine Calls.mono C1.out ?_); rintro e V11 ⟨rfl, hX11, hF11⟩))
        go_roundw
        case rel => exact ⟨j + 1, by go_num, by omega, Lib.hid (by rw [← hEE.out]; exact hX11), Lib.hid (hF8.out.trans (hF10.trans hF11))⟩
        case measure => simp [intOf] <;> omega
      · have hg0 : ¬ (0 : Int) ≤ tx0 := htx
        have d1 : V8.cell? ⟨t, 4, none⟩ = some (.int .i64 tx0) := K8.cell 4
        have htl := K8.lt
        have hql := Q8.lt
        have htw : kNo.length ≤ 1000000 := by decide
        go_upto_region 12 with fail
        clear d1
        refine wp_region_held (S := fun w' => w'.cell? ⟨q, 20, none⟩ = some (.slice (some ⟨bM, oM, none⟩) nM cM) ∧ w'.cell? ⟨t, 1, none⟩ = some (.int .i64 mi) ∧ w'.cell? ⟨bM, oM + mi * 9, none⟩ = some (.string ⟨gs.mats[mi].1.toArray⟩) ∧ w'.rangeAt t 0 [.string ⟨nm.toArray⟩, .int .i64 mi, .int .i64 lv, .int .i64 un, .int .i64 tx0, .int .i64 ht]) (by kernel_rfl) ?_
        refine anyH_letter (fun V9 hV9 => ?_)
        have hB9 : Below V8.heap.size V8 V9 := by rw [hV9]; exact bel_dr (Below.refl _ _) _
        clear hV9
        have hF9 := FrB.of hX8.bs hB9
        have Q9 := Q8.below hB9
        have K9 := K8.below hB9
        have hKM9 := hKM8.frb hF9
        have c20 : V9.cell? ⟨q, 20, none⟩ = some (.slice (some ⟨bM, oM, none⟩) nM cM) := Q9.cell 20
        have cb1 : V9.cell? ⟨t, 1, none⟩ = some (.int .i64 mi) := K9.cell 1
        have cmn : V9.cell? ⟨bM, oM + mi * 9, none⟩ = some (.string ⟨gs.mats[mi].1.toArray⟩) := (hKM8.cell hF9 _).trans hmn8
        have cbr0 : ∀ V : World, Blk V t 55 #[.string ⟨nm.toArray⟩, .int .i64 mi, .int .i64 lv, .int .i64 un, .int .i64 tx0, .int .i64 ht] → V.rangeAt t 0 [.string ⟨nm.toArray⟩, .int .i64 mi, .int .i64 lv, .int .i64 un, .int .i64 tx0, .int .i64 ht] := fun V hV => rng_blk hV 0 _ (fun i v hv => by
          rw [Nat.zero_add]
          have hi := (List.getElem?_eq_some_iff.1 hv).1
          simp at hi
          rw [← hv]
          rcases (by omega : i = 0 ∨ i = 1 ∨ i = 2 ∨ i = 3 ∨ i = 4 ∨ i = 5) with rfl | rfl | rfl | rfl | rfl | rfl <;> rfl)
        have cbr := cbr0 V9 K9
        have k6 : (0 : Int) ≤ (mi : Int) := by omega
        have k7 : (mi : Int) < (nM : Int) := by omega
        refine wpAnyH_take (i := 0) (v := .pointer (some ⟨g, 0, none⟩)) rfl (by kernel_rfl) (by kernel_rfl) (by kernel_rfl) (fun _ _ _ h => h) (.inl ⟨rfl, fun w hS => by simp [execOp, go_sem, Act.put]⟩) ⟨c20, cb1, cmn, cbr⟩ ?_
        simp only [Act.put, List.getElem_toArray, List.getElem_cons_zero, List.getElem_cons_succ, List.setIfInBounds_toArray, List.set_cons_succ, List.set_cons_zero]
        refine wpAnyH_take (i := 1) (v := .agg #[.string ⟨nm.toArray⟩, .int .i64 mi, .int .i64 lv, .int .i64 un, .int .i64 tx0, .int .i64 ht]) rfl (by kernel_rfl) (by kernel_rfl) (by kernel_rfl) (fun _ _ _ h => h) (yieldsIf_load_mid rfl 55 _ rfl t 0 rfl [.string ⟨nm.toArray⟩, .int .i64 mi, .int .i64 lv, .int .i64 un, .int .i64 tx0, .int .i64 ht] _ (fun w hS => hS.2.2.2) Tryz.underlying55 rfl infoSk6) ⟨c20, cb1, cmn, cbr⟩ ?_
        simp only [Act.put, List.getElem_toArray, List.getElem_cons_zero, List.getElem_cons_succ, List.setIfInBounds_toArray, List.set_cons_succ, List.set_cons_zero]
        refine wpAnyH_take (i := 2) (v := .pointer (some ⟨q, 20, none⟩)) rfl (by kernel_rfl) (by kernel_rfl) (by kernel_rfl) (fun _ _ _ h => h) (.inl ⟨rfl, fun w hS => by simp [execOp, go_sem, Act.put]⟩) ⟨c20, cb1, cmn, cbr⟩ ?_
        simp only [Act.put, List.getElem_toArray, List.getElem_cons_zero, List.getElem_cons_succ, List.setIfInBounds_toArray, List.set_cons_succ, List.set_cons_zero]
        refine wpAnyH_take (i := 3) (v := .slice (some ⟨bM, oM, none⟩) nM cM) rfl (by kernel_rfl) (by kernel_rfl) (by kernel_rfl) (fun _ _ _ h => h) (.inl ⟨rfl, fun w hS => by simp [execOp, go_sem, Act.put, hS.1]⟩) ⟨c20, cb1, cmn, cbr⟩ ?_
        simp only [Act.put, List.getElem_toArray, List.getElem_cons_zero, List.getElem_cons_succ, List.setIfInBounds_toArray, List.set_cons_succ, List.set_cons_zero]
        refine wpAnyH_take (i := 4) (v := .pointer (some ⟨t, 1, none⟩)) rfl (by kernel_rfl) (by kernel_rfl) (by kernel_rfl) (fun _ _ _ h => h) (.inl ⟨rfl, fun w hS => by simp [execOp, go_sem, Act.put]⟩) ⟨c20, cb1, cmn, cbr⟩ ?_
        simp only [Act.put, List.getElem_toArray, List.getElem_cons_zero, List.getElem_cons_succ, List.setIfInBounds_toArray, List.set_cons_succ, List.set_cons_zero]
        refine wpAnyH_take (i := 5) (v := .int .i64 mi) rfl (by kernel_rfl) (by kernel_rfl) (by kernel_rfl) (fun _ _ _ h => h) (.inl ⟨rfl, fun w hS => by simp [execOp, go_sem, Act.put, hS.2.1]⟩) ⟨c20, cb1, cmn, cbr⟩ ?_
        simp only [Act.put, List.getElem_toArray, List.getElem_cons_zero, List.getElem_cons_succ, List.setIfInBounds_toArray, List.set_cons_succ, List.set_cons_zero]
        refine wpAnyH_take (i := 6) (v := .pointer (some ⟨bM, oM + mi * 9, none⟩)) rfl (by kernel_rfl) (by kernel_rfl) (by kernel_rfl) (fun _ _ _ h => h) (.inl ⟨rfl, fun w hS => by simp [execOp, go_sem, Act.put, k6, k7]⟩) ⟨c20, cb1, cmn, cbr⟩ ?_
        simp only [Act.put, List.getElem_toArray, List.getElem_cons_zero, List.getElem_cons_succ, List.setIfInBounds_toArray, List.set_cons_succ, List.set_cons_zero]
        refine wpAnyH_take (i := 7) (v := .pointer (some ⟨bM, oM + mi * 9, none⟩)) rfl (by kernel_rfl) (by kernel_rfl) (by kernel_rfl) (fun _ _ _ h => h) (.inl ⟨rfl, fun w hS => by simp [execOp, go_sem, Act.put]⟩) ⟨c20, cb1, cmn, cbr⟩ ?_
        simp only [Act.put, List.getElem_toArray, List.getElem_cons_zero, List.getElem_cons_succ, List.setIfInBounds_toArray, List.set_cons_succ, List.set_cons_zero]
        refine wpAnyH_take (i := 8) (v := .string ⟨gs.mats[mi].1.toArray⟩) rfl (by kernel_rfl) (by kernel_rfl) (by kernel_rfl) (fun _ _ _ h => h) (.inl ⟨rfl, fun w hS => by simp [execOp, go_sem, Act.put, hS.2.2.1]⟩) ⟨c20, cb1, cmn, cbr⟩ ?_
        simp only [Act.put, List.getElem_toArray, List.getElem_cons_zero, List.getElem_cons_succ, List.setIfInBounds_toArray, List.set_cons_succ, List.set_cons_zero]
        refine wpAnyH_take (i := 9) (v := .string ⟨(kNo).toArray⟩) rfl (by kernel_rfl) (by kernel_rfl) (by kernel_rfl) (fun _ _ _ h => h) (.inl ⟨rfl, fun w hS => by simp [execOp, go_sem, Act.put]; rfl⟩) ⟨c20, cb1, cmn, cbr⟩ ?_
        simp only [Act.put, List.getElem_toArray, List.getElem_cons_zero, List.getElem_cons_succ, List.setIfInBounds_toArray, List.set_cons_succ, List.set_cons_zero]
        refine wpAnyH_forced (i := 10) (by kernel_rfl) rfl rfl ?_
        refine wp_enter (f := 33) (args := #[.pointer (some ⟨g, 0, none⟩), .agg #[.string ⟨nm.toArray⟩, .int .i64 mi, .int .i64 lv, .int .i64 un, .int .i64 tx0, .int .i64 ht], .string ⟨gs.mats[mi].1.toArray⟩, .string ⟨(kNo).toArray⟩]) (w' := V9) (R := fun v w2 => v = .tuple #[] ∧ WX base g w2 (addT (addT (addT st (headG gs)) (cagesG gs.mats gs.texs ((gs.skins.zip gs.cages).take j))) (kCage ++ jn [nm, gs.mats[mi].1, shW lv, shW un, kNo, shW ht] ++ [10])) ∧ FrB base V9 w2) (by simp [execOp, go_sem, Act.put]) ?_ ?_
        · refine (skin_w nm gs.mats[mi].1 (kNo) hnm hmw htw mi lv un tx0 ht (fun x hx => h64 x (by simp at hx ⊢; rcases hx with rfl | rfl | rfl <;> simp)) (hI8.frb hF9) (hX8.below hB9)).mono ?_
          rintro e w' ⟨rfl, h1, h2⟩
          exact ⟨_, rfl, rfl, h1, h2⟩
        rintro v10 V10 ⟨rfl, hX10, hF10⟩
        refine ⟨⟨(hF10.blk Q9 (by decide) (by decide)).cell 20, (hF10.blk K9 (by decide) (by decide)).cell 1, (hKM9.cell hF10 _).trans cmn, cbr0 V10 (hF10.blk K9 (by decide) (by decide))⟩, ?_⟩
        refine wpAnyH_done (by kernel_rfl) ?_ _
        replace hF10 := hF9.trans hF10
        have K10 := hF10.blk Q8 (by decide) (by decide)
        have hI10 := hI8.frb hF10
        have c23 : V10.cell? ⟨q, 23, none⟩ = some (.slice (some ⟨bC, oC, none⟩) nS cC) := K10.cell 23
        have hql10 := K10.lt
        have hC10 := hCB8.frb hF10
        have rngC10 : V10.rangeAt bC (oC + j * 3) [.slice A1 gs.cages[j].verts.length e1, .slice A2 gs.cages[j].faces.length e2, .slice A3 gs.cages[j].creases.length e3] := rng3 ((hKC8.cell hF10 _).trans (rngC8 0 _ rfl)) ((hKC8.cell hF10 _).trans (rngC8 1 _ rfl)) ((hKC8.cell hF10 _).trans (rngC8 2 _ rfl))
        have hbC10 : bC < V10.heap.size := (hKC8.frb hF10).1
        have C1 := Lib.hid (cage_w (c1 := e1) (c2 := e2) (c3 := e3) gs.cages[j] hC10 hI10 hX10)
        have hEE := Lib.hid (show addT (addT (addT (addT st (headG gs)) (cagesG gs.mats gs.texs ((gs.skins.zip gs.cages).take j))) (kCage ++ jn [nm, gs.mats[mi].1, shW lv, shW un, kNo, shW ht] ++ [10])) (cageT gs.cages[j]) = addT (addT st (headG gs)) (cagesG gs.mats gs.texs ((gs.skins.zip gs.cages).take (j + 1))) by
          rw [addT_assoc (addT st (headG gs)), addT_assoc (addT st (headG gs)), cagesG_take _ _ hjz, List.getElem_zip, hqe]
          unfold skG
          (simp [hmi, htx, List.append_assoc]) <;> rfl)
        replace rngC10 := Lib.hid rngC10
        clear hCB8 hKC8 rngC8 hI8 hX8 Q8 K8 Q9 K9 cbr0 c20 cb1 cbr cmn hmn8 hb8
        go_wp2_with (first | (refine wpList_load_mid rfl 48 _ rfl bC (oC + j * 3) rfl [.slice A1 gs.cages[j].verts.length e1, .slice A2 gs.cages[j].faces.length e2, .slice A3 gs.cages[j].creases.length e3] _ rngC10.out Tryz.underlying48 rfl infoCg3 ?_) | (go_at_call 34; (with_reducible refine Calls.mono C1.out ?_); rintro e V11 ⟨rfl, hX11, hF11⟩))
        go_roundw
        case rel => exact ⟨j + 1, by go_num, by omega, Lib.hid (by rw [← hEE.out]; exact hX11), Lib.hid (hF8.out.trans (hF10.trans hF11))⟩
        case measure => simp [intOf] <;> omega
    · obtain rfl : j = nS := by omega
      have e : (gs.skins.zip gs.cages).take j = gs.skins.zip gs.cages := List.take_of_length_le (by simp; omega)
      rw [e] at hX
      go_wp2_with fail
      go_end0
      have e2 : addT (addT st (headG gs)) (cagesG gs.mats gs.texs (gs.skins.zip gs.cages)) = addT st (textG gs) := by rw [addT_assoc]; rfl
      rw [← e2]
      exact ⟨rfl, hX.out, hF06.out.trans hF.out⟩
end Go.Proofs.YtdkgbdecmgligaaGreatDoor
