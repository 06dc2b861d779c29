/- The program's Show: which scenes it tells, and how. -/
import Derived.Test.YtdkgbdecmgligaaGreatDoorPrtS
import Derived.Test.YtdkgbdecmgligaaGreatDoorMPrtT
import Derived.Test.YtdkgbdecmgligaaGreatDoorMPrtD
import Derived.Test.YtdkgbdecmgligaaGreatDoorScnQI
import Derived.Test.YtdkgbdecmgligaaGreatDoorMScnDE
import Derived.Lib.AppendIntMem
import Derived.Test.YtdkgbdecmgligaaGreatDoorTabsOf
namespace Go.Proofs.YtdkgbdecmgligaaGreatDoor
open Go.RowKit
set_option linter.unusedVariables false
set_option linter.unusedSimpArgs false
set_option linter.unnecessarySimpa false
def cam16 (sc : Scn) : List Int := [(camN sc).getD 0 0, (camN sc).getD 1 0, (camN sc).getD 2 0, (camN sc).getD 3 0, (camN sc).getD 4 0, (camN sc).getD 5 0, (camN sc).getD 6 0, (camN sc).getD 7 0, (camN sc).getD 8 0, (camN sc).getD 9 0, (camN sc).getD 10 0, (camN sc).getD 11 0, (camN sc).getD 12 0, (camN sc).getD 13 0, (camN sc).getD 14 0, (camN sc).getD 15 0]
def sky3 (sc : Scn) : List Int := [(skyN sc).getD 0 0, (skyN sc).getD 1 0, (skyN sc).getD 2 0]
/-- The scene that was read, as any scene. -/
def gsR (sc : Scn) : GS := gsOf sc (cam16 sc) (sky3 sc)
/-- A scene that is told: its text is short enough, and is read as it. -/
def okG (gs : GS) : Prop := placedG gs ∧ (textG gs).length ≤ 65536 ∧ ∃ sc, sceneT (textG gs) = .ok sc ∧ gs = gsR sc
theorem cam16_eq {sc : Scn} (hg : Good sc) {n : List Int} (hc : sc.cam = some n) : cam16 sc = n := by
  have l := (hg.cam n hc).1
  have e : camN sc = n := by unfold camN; rw [hc]; rfl
  unfold cam16
  rw [e]
  obtain ⟨a0, a1, a2, a3, a4, a5, a6, a7, a8, a9, a10, a11, a12, a13, a14, a15, rfl⟩ : ∃ a0 a1 a2 a3 a4 a5 a6 a7 a8 a9 a10 a11 a12 a13 a14 a15, n = [a0, a1, a2, a3, a4, a5, a6, a7, a8, a9, a10, a11, a12, a13, a14, a15] := by
    match n, l with
    | [a0, a1, a2, a3, a4, a5, a6, a7, a8, a9, a10, a11, a12, a13, a14, a15], _ => exact ⟨a0, a1, a2, a3, a4, a5, a6, a7, a8, a9, a10, a11, a12, a13, a14, a15, rfl⟩
  rfl
theorem sky3_good {sc : Scn} (hg : Good sc) : (sky3 sc).length = 3 ∧ wi (sky3 sc) 0 3 0 255 = true := by
  refine ⟨rfl, ?_⟩
  unfold sky3 skyN
  cases q : sc.sky with
  | none => decide
  | some n =>
    obtain ⟨l, hw⟩ := hg.sky n q
    obtain ⟨x, y, z, rfl⟩ : ∃ x y z, n = [x, y, z] := by
      match n, l with
      | [x, y, z], _ => exact ⟨x, y, z, rfl⟩
    exact hw
theorem gsR_wf {sc : Scn} (hg : Good sc) (hc : sc.cam ≠ none) : WfG (gsR sc) := by
  obtain ⟨n, hn⟩ := Option.ne_none_iff_exists'.1 hc
  have e := cam16_eq hg hn
  have hs := sky3_good hg
  refine good_wf hg rfl ?_ rfl (small5 (by rw [hs.1]; exact hs.2) (by omega) (by omega))
  rw [e]; exact cam_small hg hn
theorem sceneT_err {l : List UInt8} {n k : Nat} (h : sceneT l = .error (n, k)) : 10 ≤ k := by
  unfold sceneT at h
  cases q : linesP 1 [] (spl l) with
  | error m => rw [q] at h; cases h; omega
  | ok o =>
    rw [q] at h
    unfold sceneF at h
    cases r : runS scn0 (toW o) with
    | error e =>
      simp only [r] at h
      obtain ⟨e1, e2⟩ := e
      cases h
      exact (run_err _ _ _ _ r).1.1
    | ok sc =>
      simp only [r] at h
      split at h
      · cases h
      · cases h; omega
theorem textG_ne (gs : GS) : textG gs ≠ [] := by
  unfold textG headG kCamera
  simp
theorem at_ldSc {P : Program} {ops : Array Oper} {rest : List Oper} {d : Option Tmp} {x : Operand} {ty : TypeId} {ps : String} {af : Array Edge} {a : Act} {w : World} {Q : Exit → Act → World → Prop} (h : wpList P ops Q ({ dst := d, op := .load 34 x, type := ty, pos := ps, after := af, guard := none } :: rest) a w) : wpList P ops Q ({ dst := d, op := .load 34 x, type := ty, pos := ps, after := af, guard := none } :: rest) a w := h
theorem at_ldScG {P : Program} {ops : Array Oper} {rest : List Oper} {d : Option Tmp} {x : Operand} {ty : TypeId} {ps : String} {af : Array Edge} {a : Act} {w : World} {g : Nat × Bool} {Q : Exit → Act → World → Prop} (h : wpList P ops Q ({ dst := d, op := .load 34 x, type := ty, pos := ps, after := af, guard := some g } :: rest) a w) : wpList P ops Q ({ dst := d, op := .load 34 x, type := ty, pos := ps, after := af, guard := some g } :: rest) a w := h
theorem wp_load_midTo {P : Program} {op : Oper} {a : Act} {w : World} {K : Act → World → Prop} {Q : Exit → Act → World → Prop} (ty : TypeId) (x : Operand) (ho : op.op = .load ty x)
    (b o : Nat) (hx : a.eval x = .pointer (some ⟨b, o, none⟩)) (cs : List Value) (d : TypeDesc) (hc : w.rangeAt b o cs)
    (hu : P.underlying ty = some d) (hd : d.isRow = true) (hi : (P.info? ty).map (·.size) = some cs.length) (v : Value) (hv : v = .agg cs.toArray)
    (h : K (a.put op.dst v) w) : op.wp P a w K Q := by
  subst hv
  exact wp_load_mid ty x ho b o hx cs d hc hu hd hi h
theorem rg_blk {W : World} {b : Nat} {T : TypeId} {cs : Array Value} (K : Blk W b T cs) : W.rangeAt b 0 cs.toList := rng_blk K 0 _ (fun j v hv => by rw [Nat.zero_add]; simpa using hv)
set_option maxRecDepth 100000 in
set_option maxHeartbeats 8000000 in
theorem show_w {cL cM cT cS cC : Nat} {aL aM aT aS aC : Option Addr} {W : World} (gs : GS) (hw : WfG gs) (hb : SB W.heap.size W gs aL aM aT aS aC) (ht : Tabs W) (hI : ItoaOk W.heap.size W) (a0 a1 a2 a3 a4 a5 a6 a7 a8 a9 a10 a11 a12 a13 a14 a15 s0 s1 s2 : Int) (hca : gs.cam = [a0, a1, a2, a3, a4, a5, a6, a7, a8, a9, a10, a11, a12, a13, a14, a15]) (hsk : gs.sky = [s0, s1, s2]) (cs : Array Value) (hcs : cs = #[.int .i64 a0, .int .i64 a1, .int .i64 a2, .int .i64 a3, .int .i64 a4, .int .i64 a5, .int .i64 a6, .int .i64 a7, .int .i64 a8, .int .i64 a9, .int .i64 a10, .int .i64 a11, .int .i64 a12, .int .i64 a13, .int .i64 a14, .int .i64 a15, .int .i64 s0, .int .i64 s1, .int .i64 s2, .slice aL gs.lights.length cL, .slice aM gs.mats.length cM, .slice aT gs.texs.length cT, .slice aS gs.skins.length cS, .slice aC gs.cages.length cC]) :
    Calls Tryz.prog 9 #[.agg cs] W fun e w' => Below W.heap.size W w' ∧ ((okG gs ∧ e = .returned (.tuple #[.string ⟨(textG gs).toArray⟩, .int .i64 0])) ∨ (¬ okG gs ∧ e = .returned (.tuple #[.string ⟨#[]⟩, .int .i64 11]))) := by
  have hsz_cs : (Tryz.prog.info? 34).map (·.size) = some cs.toList.length := by rw [hcs]; exact infoSc
  have hB1 : Below W.heap.size W (W.alloc (.cells cs 34)) := bel_alloc (Below.refl _ _) _
  have K1 : Blk (W.alloc (.cells cs 34)) W.heap.size 34 cs := Blk.new _ _ _ _ rfl
  have CP := fun (V : World) (h : Below W.heap.size W V) => show Tells Tryz.prog 13 #[.agg cs] V (placedG gs) by
    rw [hcs]
    exact placed_w gs hw h.size (hb.frb (FrB.of (Nat.le_refl _) h)) hw.nc a0 a1 a2 a3 a4 a5 a6 a7 a8 a9 a10 a11 a12 a13 a14 a15 s0 s1 s2
  have hno : ¬ placedG gs → ¬ okG gs := fun h q => h q.1
  replace hcs := Lib.hid hcs
  replace hsz_cs := Lib.hid hsz_cs
  generalize hbs : W.heap.size = base at *
  have hb0 : base ≤ W.heap.size := Nat.le_of_eq hbs.symm
  go_enter Tryz.func9, Tryz.ntmps9
  go_upto_region 1 with fail
  generalize hV : W.alloc (.cells cs 34) = V at *
  clear hV
  try rw [hbs]
  have rg1 := Lib.hid (rg_blk K1)
  have hql := K1.lt
  by_cases hp : placedG gs
  · have C1 := Lib.hid ((CP V hB1).yes hp)
    clear hno
    go_upto_region 3 with (first | (with_reducible_and_instances refine at_ldSc ?_; refine wpList_load_midTo rfl 34 _ rfl base 0 rfl cs.toList _ rg1.out Tryz.underlying34 rfl hsz_cs.out (.agg cs) (by simp) ?_) | (go_at_call 13; (with_reducible refine Calls.mono C1.out ?_); rintro e W1 ⟨rfl, hB2⟩))
    have K2 := K1.below hB2
    replace hB2 := hB1.trans (hB2.mono (Nat.le_trans hb0 hB1.size))
    have hI2 := hI.frb (FrB.of hb0 (by rw [hbs]; exact hB2))
    have hb2 := hb.frb (FrB.of hb0 (by rw [hbs]; exact hB2))
    clear C1 K1 rg1 hql CP hb hI
    obtain ⟨W2, hW2⟩ : ∃ W2, W2 = W1.alloc (.cells #[.pointer none, .slice none 0 0, .bool false] 61) := ⟨_, rfl⟩
    have hB3 : Below W1.heap.size W1 W2 := by rw [hW2]; exact bel_alloc (Below.refl _ _) _
    obtain ⟨g, hg⟩ : ∃ g, g = W1.heap.size := ⟨_, rfl⟩
    have hgb : base ≤ g := by rw [hg]; exact Nat.le_trans hb0 hB2.size
    have KG : Blk W2 g 61 #[.pointer none, .slice none 0 0, .bool false] := by rw [hW2, hg]; exact Blk.new _ _ _ _ rfl
    have hX2 : WX base g W2 (some []) := ⟨[], false, ⟨_, .inl ⟨hgb, KG, World.ownsRow_nil _ _ _ _⟩⟩, by simp, rfl⟩
    have hG3 := FrB.of (Nat.le_trans hb0 hB2.size) hB3
    have K3 := K2.below hB3
    have hI3 := hI2.frb hG3
    have hb3 := hb2.frb hG3
    have hB03 := Lib.hid (hB2.trans (hB3.mono (Nat.le_trans hb0 hB2.size)))
    clear K2 hI2 hb2 hB2 hG3 KG
    go_upto_region 4 with fail
    rw [← hW2]
    try rw [← hg]
    clear hW2 hB3 hg
    have rg1 := Lib.hid (rg_blk K3)
    have hql := K3.lt
    have C1 := Lib.hid (show Calls Tryz.prog 14 #[.pointer (some ⟨g, 0, none⟩), .agg cs] W2 fun e W' => e = .returned (.tuple #[]) ∧ WX base g W' (addT (some []) (textG gs)) ∧ FrB base W2 W' by
      rw [hcs.out]; exact all_w gs hw hp hb3 a0 a1 a2 a3 a4 a5 a6 a7 a8 a9 a10 a11 a12 a13 a14 a15 s0 s1 s2 hca hsk hI3 hX2)
    have hgl : g < W2.heap.size := by obtain ⟨l0, o0, h0, _⟩ := hX2; exact h0.lt
    go_upto_region 5 with (first | (with_reducible_and_instances refine at_ldSc ?_; refine wpList_load_midTo rfl 34 _ rfl base 0 rfl cs.toList _ rg1.out Tryz.underlying34 rfl hsz_cs.out (.agg cs) (by simp) ?_) | (go_at_call 14; (with_reducible refine Calls.mono C1.out ?_); rintro e W3 ⟨rfl, hX3, hF3⟩))
    clear C1 rg1 hql hgl hX2
    have K4 := hF3.blk K3 (by decide) (by decide)
    have hb4 := hb3.frb hF3
    have hB04 := hB03.out.trans hF3.1
    replace hB04 := Lib.hid hB04
    clear K3 hb3 hI3 hB03
    obtain ⟨l, ov, hWW, hll, hst⟩ := hX3
    have c2 := hWW.c2
    have hgl := hWW.lt
    have e1 : addT (some []) (textG gs) = if 65536 < (textG gs).length then none else some (textG gs) := by rw [addT_some]; simp
    rw [e1] at hst
    clear e1
    by_cases hlen : 65536 < (textG gs).length
    · rw [if_pos hlen] at hst
      obtain rfl : ov = true := by cases ov with
        | true => rfl
        | false => simp at hst
      have hno := Lib.hid (show ¬ okG gs from fun q => by have := q.2.1; omega)
      clear hst hll hlen hp hb4 hWW
      go_wp2_with fail
      go_ret2
      exact ⟨hB04.out, .inr ⟨hno.out, rfl⟩⟩
    · rw [if_neg hlen] at hst
      have hlen2 : (textG gs).length ≤ 65536 := by omega
      have hlen3 := Lib.hid hlen2
      obtain rfl : ov = false := by cases ov with
        | true => simp at hst
        | false => rfl
      obtain rfl : textG gs = l := by simpa using hst
      have C1 := Lib.hid (string_w hWW (textG_ne gs) hlen2)
      clear hst hll hlen
      go_upto_region 8 with (go_at_call 15; (with_reducible refine Calls.mono C1.out ?_); rintro e W4 ⟨rfl, hF4⟩)
      clear C1 c2 hgl hWW
      have K5 := hF4.blk K4 (by decide) (by decide)
      have hb5 := hb4.frb hF4
      have hB05 := hB04.out.trans hF4.1
      have ht5 := ht.below (show Below W.heap.size W W4 by rw [hbs]; exact hB05)
      replace hB05 := Lib.hid hB05
      clear K4 hb4 hB04
      have CQ := Lib.hid (parse_any W4 ⟨(textG gs).toArray⟩ (by show (textG gs).toArray.size ≤ 65536; simpa using hlen2) ht5)
      clear ht5
      have eT : sceneT (⟨(textG gs).toArray⟩ : ByteArray).data.toList = sceneT (textG gs) := by simp
      unfold parsePost at CQ
      rw [eT] at CQ
      clear eT
      cases hT : sceneT (textG gs) with
      | error nk =>
        obtain ⟨n, k⟩ := nk
        rw [hT] at CQ
        have hk := sceneT_err hT
        have hk0 : ¬ (k : Int) = 0 := by omega
        have hno := Lib.hid (show ¬ okG gs from fun q => by obtain ⟨_, _, sc, h, _⟩ := q; rw [hT] at h; cases h)
        clear hT hlen2 hb5 hk K5 hp
        go_wp2_with (first | (go_at_call 11; (with_reducible refine Calls.mono CQ.out ?_); rintro e W5 ⟨hB6, rfl⟩) | (refine wpList_val rfl _ _ (alloc_Scene _ _ rfl _) ?_) | (refine wpList_store_rowTo rfl 34 _ _ rfl rfl W5.heap.size scZ rfl rfl 34 scZ (Blk.new _ _ _ _ rfl) infoSc rfl scZ_one ?_; rw [World.setRow_alloc_new]))
        go_ret2
        exact ⟨hB05.out.trans ((hB6.mono (Nat.le_trans hb0 hB05.out.size)).trans ((bel_alloc (Below.refl _ _) _).mono (Nat.le_trans (Nat.le_trans hb0 hB05.out.size) hB6.size))), .inr ⟨hno.out, rfl⟩⟩
      | ok sc =>
        rw [hT] at CQ
        obtain ⟨hgd, hcn⟩ := sceneT_good hT
        have CQ2 := Lib.hid (show Calls Tryz.prog 11 #[.string ⟨(textG gs).toArray⟩] W4 fun e w' => Below W4.heap.size W4 w' ∧ ∃ g val vs, vs = sceneV sc val ∧ e = .returned (.tuple #[.agg vs, .int .i64 0, .int .i64 0]) ∧ RepV g w' g 70 sc val from CQ.out.mono fun e w' ⟨h1, g, val, h2, h3, h4⟩ => ⟨h1, g, val, _, rfl, h2, h4⟩)
        clear CQ
        have hone : ∀ (g : Nat) (w : World) (val : Key → Value), RepV g w g 70 sc val → (sceneV sc val).all (·.oneCell') = true := fun g w val h => by simpa using h.one
        have hgl := K5.lt
        replace hT := Lib.hid hT
        replace hp := Lib.hid hp
        go_upto_region 9 with (first | (go_at_call 11; (with_reducible refine Calls.mono CQ2.out ?_); rintro e W5 ⟨hB6, g5, val, vs, hvs, rfl, hR⟩; have hsv : scZ.size = vs.size := (by rw [hvs]; rfl); have hs24 : (Tryz.prog.info? 34).map (·.size) = some vs.size := (by rw [hvs]; exact infoSc); have hon := hone _ _ _ hR; rw [← hvs] at hon; replace hvs := Lib.hid hvs) | (refine wpList_val rfl _ _ (alloc_Scene _ _ rfl _) ?_) | (refine wpList_store_rowTo rfl 34 _ _ rfl rfl W5.heap.size vs rfl rfl 34 scZ (Blk.new _ _ _ _ rfl) hs24 hsv hon ?_; rw [World.setRow_alloc_new]))
        have hB7 : Below W5.heap.size W5 (W5.alloc (.cells vs 34)) := bel_alloc (Below.refl _ _) _
        have K7 : Blk (W5.alloc (.cells vs 34)) W5.heap.size 34 vs := Blk.new _ _ _ _ rfl
        generalize W5.alloc (.cells vs 34) = W6 at *
        obtain ⟨h, hh⟩ : ∃ h, h = W5.heap.size := ⟨_, rfl⟩
        rw [← hh] at K7
        try rw [← hh]
        clear hh CQ2 hgl
        have hB8 := hB6.trans (hB7.mono hB6.size)
        have K8 := K5.below hB8
        have hbb : base ≤ W4.heap.size := Nat.le_trans hb0 hB05.out.size
        have SB1 := (hb5.frb (FrB.of hbb hB8)).up (show base ≤ W6.heap.size from Nat.le_trans hbb hB8.size)
        obtain ⟨bL, bM, bT, bS, bC, dL, dM, dT, dS, dC, e1, e2, e3, e4, e5, SB2⟩ := ((hR.sceneR hgd).below hB7).sb hgd (cam16 sc) (sky3 sc)
        have CS := show Tells Tryz.prog 16 #[.agg cs, .agg vs] W6 (gs = gsR sc) by
          have := same_w (cL := cL) (cM := cM) (cT := cT) (cS := cS) (cC := cC) (dL := dL) (dM := dM) (dT := dT) (dS := dS) (dC := dC) gs (gsR sc) hw (gsR_wf hgd hcn) (Nat.le_refl _) SB1 SB2 a0 a1 a2 a3 a4 a5 a6 a7 a8 a9 a10 a11 a12 a13 a14 a15 s0 s1 s2 ((camN sc).getD 0 0) ((camN sc).getD 1 0) ((camN sc).getD 2 0) ((camN sc).getD 3 0) ((camN sc).getD 4 0) ((camN sc).getD 5 0) ((camN sc).getD 6 0) ((camN sc).getD 7 0) ((camN sc).getD 8 0) ((camN sc).getD 9 0) ((camN sc).getD 10 0) ((camN sc).getD 11 0) ((camN sc).getD 12 0) ((camN sc).getD 13 0) ((camN sc).getD 14 0) ((camN sc).getD 15 0) ((skyN sc).getD 0 0) ((skyN sc).getD 1 0) ((skyN sc).getD 2 0) hca hsk rfl rfl
          rw [hcs.out, hvs.out]
          unfold sceneV
          rw [e1, e2, e3, e4, e5]
          exact this
        have hB9 := Lib.hid (hB05.out.trans (hB8.mono hbb))
        have rg1 := Lib.hid (rg_blk K8)
        have rg2 := Lib.hid (rg_blk K7)
        have hbl := K8.lt
        have hhl := K7.lt
        have hsz_vs := Lib.hid (show (Tryz.prog.info? 34).map (·.size) = some vs.toList.length by rw [hvs.out]; exact infoSc)
        clear SB1 SB2 e1 e2 e3 e4 e5 hR hB8 K8 K7 K5 hb5 hone hbb hB6 hB7 hsv hs24 hon hlen2
        by_cases hE : gs = gsR sc
        · have C1 := Lib.hid (CS.yes hE)
          have hok := Lib.hid (show okG gs from ⟨hp.out, hlen3.out, sc, hT.out, hE⟩)
          clear CS hE
          go_wp2_with (first | ((with_reducible_and_instances refine at_ldScG ?_); (refine wpList_guarded (by rfl) (fun K9 hK9 => ?_); refine wp_load_midTo 34 _ rfl base 0 rfl cs.toList _ rg1.out Tryz.underlying34 rfl hsz_cs.out (.agg cs) (by simp) (hK9 _ _ ?_)); try simp only [Act.put, List.setIfInBounds_toArray, List.set_cons_succ, List.set_cons_zero]) | ((with_reducible_and_instances refine at_ldScG ?_); (refine wpList_guarded (by rfl) (fun K9 hK9 => ?_); refine wp_load_midTo 34 _ rfl h 0 rfl vs.toList _ rg2.out Tryz.underlying34 rfl hsz_vs.out (.agg vs) (by simp) (hK9 _ _ ?_)); try simp only [Act.put, List.setIfInBounds_toArray, List.set_cons_succ, List.set_cons_zero]) | (go_at_call 16; (with_reducible refine Calls.mono C1.out ?_); rintro e W7 ⟨rfl, hB10⟩))
          go_ret2
          exact ⟨hB9.out.trans (hB10.mono (Nat.le_trans hb0 hB9.out.size)), .inl ⟨hok.out, rfl⟩⟩
        · have C1 := Lib.hid (CS.no hE)
          have hno := Lib.hid (show ¬ okG gs from fun q => by
            obtain ⟨_, _, sc2, h, h2⟩ := q
            rw [hT.out] at h
            cases h
            exact hE h2)
          clear CS hE
          go_wp2_with (first | ((with_reducible_and_instances refine at_ldScG ?_); (refine wpList_guarded (by rfl) (fun K9 hK9 => ?_); refine wp_load_midTo 34 _ rfl base 0 rfl cs.toList _ rg1.out Tryz.underlying34 rfl hsz_cs.out (.agg cs) (by simp) (hK9 _ _ ?_)); try simp only [Act.put, List.setIfInBounds_toArray, List.set_cons_succ, List.set_cons_zero]) | ((with_reducible_and_instances refine at_ldScG ?_); (refine wpList_guarded (by rfl) (fun K9 hK9 => ?_); refine wp_load_midTo 34 _ rfl h 0 rfl vs.toList _ rg2.out Tryz.underlying34 rfl hsz_vs.out (.agg vs) (by simp) (hK9 _ _ ?_)); try simp only [Act.put, List.setIfInBounds_toArray, List.set_cons_succ, List.set_cons_zero]) | (go_at_call 16; (with_reducible refine Calls.mono C1.out ?_); rintro e W7 ⟨rfl, hB10⟩))
          go_ret2
          exact ⟨hB9.out.trans (hB10.mono (Nat.le_trans hb0 hB9.out.size)), .inr ⟨hno.out, rfl⟩⟩
  · have C1 := Lib.hid ((CP V hB1).no hp)
    have hno' := Lib.hid (hno hp)
    clear hno hp
    go_wp2_with (first | (with_reducible_and_instances refine at_ldSc ?_; refine wpList_load_midTo rfl 34 _ rfl base 0 rfl cs.toList _ rg1.out Tryz.underlying34 rfl hsz_cs.out (.agg cs) (by simp) ?_) | (go_at_call 13; (with_reducible refine Calls.mono C1.out ?_); rintro e W1 ⟨rfl, hB2⟩))
    go_ret2
    exact ⟨hB1.trans (hB2.mono (Nat.le_trans hb0 hB1.size)), .inr ⟨hno'.out, rfl⟩⟩
end Go.Proofs.YtdkgbdecmgligaaGreatDoor

/- What is read is shown; layer 7's alive. -/
namespace Go.Proofs.YtdkgbdecmgligaaGreatDoor
open Go.RowKit
set_option linter.unusedVariables false
set_option linter.unusedSimpArgs false
set_option linter.unnecessarySimpa false
/-- What layer 7's walks ask of the library's tables. -/
def Tabs7 (w : World) : Prop := Tabs w ∧ 5 < w.heap.size ∧ Lib.TabIs Tryz.prog w "internal/strconv.uint64pow10" .u64 Lib.pow10Tab
theorem gPow : Tryz.prog.globalNamed "internal/strconv.uint64pow10" = some 5 := by kernel_rfl
theorem Tabs7.below {w w' : World} (h : Tabs7 w) (hb : Below w.heap.size w w') : Tabs7 w' := by
  obtain ⟨h1, h2, h3⟩ := h
  refine ⟨h1.below hb, Nat.lt_of_lt_of_le h2 hb.size, ?_⟩
  unfold Lib.TabIs World.var? at *
  rw [gPow] at *
  simp only [Option.bind_some, Option.bind_eq_bind] at *
  rw [hb.block _ h2]; exact h3
theorem itoa_ok {w : World} (h : Tabs7 w) : ItoaOk w.heap.size w := fun n hn W' hb => by
  refine (Tryz.strconv_Itoa n hn.1 hn.2 W' (h.below hb).2.2).mono ?_
  rintro e w' ⟨he, k, os, hw⟩
  have hbel : Below W'.heap.size W' w' := by rw [hw]; exact Lib.below_grow _ W' (Nat.le_refl _) k os
  exact ⟨by rw [he, itoa_sh], grow_of hbel⟩
theorem textG_R (sc : Scn) : textG (gsR sc) = showT sc (cam16 sc) (sky3 sc) := textG_of _ _ _
theorem gsR_sky (sc : Scn) : gsR { sc with sky := some (sky3 sc) } = gsR sc := rfl
theorem okG_read {sc : Scn} (hg : Good sc) (hc : sc.cam ≠ none) : okG (gsR sc) := by
  obtain ⟨n, hn⟩ := Option.ne_none_iff_exists'.1 hc
  have e := cam16_eq hg hn
  have hs := sky3_good hg
  refine ⟨good_placed hg _ _, ?_, { sc with sky := some (sky3 sc) }, ?_, (gsR_sky sc).symm⟩
  · rw [textG_R, e]; exact show_len hg hn hs
  · rw [textG_R, e]; exact show_back hg hn hs
/-- The text of a scene that was read is read as that scene, its sky told. -/
theorem back_read {sc : Scn} (hg : Good sc) (hc : sc.cam ≠ none) : sceneT (showT sc (cam16 sc) (sky3 sc)) = .ok { sc with sky := some (sky3 sc) } := by
  obtain ⟨n, hn⟩ := Option.ne_none_iff_exists'.1 hc
  rw [cam16_eq hg hn]; exact show_back hg hn (sky3_good hg)
theorem len_read {sc : Scn} (hg : Good sc) (hc : sc.cam ≠ none) : (showT sc (cam16 sc) (sky3 sc)).length ≤ 65536 := by
  rw [← textG_R]; exact (okG_read hg hc).2.1
theorem show_read {W : World} {g b : Nat} {TR : TypeId} {sc : Scn} {val : Key → Value} (hg : Good sc) (hc : sc.cam ≠ none) (hR : SceneR W (val .lights) (val .mats) (val .texs) (val .skins) (val .cages) sc) (ht : Tabs7 W) :
    Calls Tryz.prog 9 #[.agg (sceneV sc val)] W fun e w' => Below W.heap.size W w' ∧ e = .returned (.tuple #[.string ⟨(showT sc (cam16 sc) (sky3 sc)).toArray⟩, .int .i64 0]) := by
  obtain ⟨bL, bM, bT, bS, bC, dL, dM, dT, dS, dC, e1, e2, e3, e4, e5, hb⟩ := hR.sb hg (cam16 sc) (sky3 sc)
  refine (show_w (cL := dL) (cM := dM) (cT := dT) (cS := dS) (cC := dC) (gsR sc) (gsR_wf hg hc) hb ht.1 (itoa_ok ht) ((camN sc).getD 0 0) ((camN sc).getD 1 0) ((camN sc).getD 2 0) ((camN sc).getD 3 0) ((camN sc).getD 4 0) ((camN sc).getD 5 0) ((camN sc).getD 6 0) ((camN sc).getD 7 0) ((camN sc).getD 8 0) ((camN sc).getD 9 0) ((camN sc).getD 10 0) ((camN sc).getD 11 0) ((camN sc).getD 12 0) ((camN sc).getD 13 0) ((camN sc).getD 14 0) ((camN sc).getD 15 0) ((skyN sc).getD 0 0) ((skyN sc).getD 1 0) ((skyN sc).getD 2 0) rfl rfl (sceneV sc val) (by unfold sceneV; rw [e1, e2, e3, e4, e5]; rfl)).mono ?_
  rintro e w' ⟨h1, ⟨_, h2⟩ | ⟨h2, _⟩⟩
  · exact ⟨h1, by rw [h2, textG_R]⟩
  · exact absurd (okG_read hg hc) h2
def scA7 : Scn := ⟨some [0, 0, -9, 0, 0, 8, 1, 0, 0, 0, 1, 0, 2, 2, 1, 0], some [1, 2, 3], [], [], [], [], []⟩
def gs0 : GS := ⟨[0, 0, 0, 0, 0, 0, 0, 0, 0, 0, 0, 0, 0, 0, 0, 0], [0, 0, 0], [], [], [], [], []⟩
theorem scA7_read : sceneT [115, 107, 121, 32, 49, 32, 50, 32, 51, 35, 120, 10, 99, 97, 109, 101, 114, 97, 32, 48, 32, 48, 32, 45, 57, 32, 48, 32, 48, 32, 56, 32, 49, 32, 48, 32, 48, 32, 48, 32, 49, 32, 48, 32, 50, 32, 50, 32, 49, 32, 48, 10] = .ok scA7 := by kernel_rfl
theorem scA7_text : showT scA7 (cam16 scA7) (sky3 scA7) = [99, 97, 109, 101, 114, 97, 32, 48, 32, 48, 32, 45, 57, 32, 48, 32, 48, 32, 56, 32, 49, 32, 48, 32, 48, 32, 48, 32, 49, 32, 48, 32, 50, 32, 50, 32, 49, 32, 48, 10, 115, 107, 121, 32, 49, 32, 50, 32, 51, 10] := by kernel_rfl
theorem gs0_read : sceneT (textG gs0) = .error (1, 11) := by kernel_rfl
theorem gs0_not : ¬ okG gs0 := fun h => by
  obtain ⟨_, _, sc, h, _⟩ := h
  rw [gs0_read] at h; cases h
theorem gs0_wf : WfG gs0 := ⟨rfl, (fun x hx => by simp [gs0] at hx; omega), rfl, (fun x hx => by simp [gs0] at hx; omega), by decide, (fun q hq => by cases hq), by decide, (fun q hq => by cases hq), by decide, (fun q hq => by cases hq), by decide, (fun q hq => by cases hq), by decide⟩
theorem gs0_sb (b : Nat) (W : World) : SB b W gs0 none none none none none := ⟨(fun h => absurd h (by decide)), (fun h => absurd h (by decide)), (fun h => absurd h (by decide)), (fun h => absurd h (by decide)), (fun h => absurd h (by decide))⟩
set_option maxRecDepth 100000 in
theorem alive7_any (w : World) (ht : Tabs7 w) : Calls Tryz.prog 7 #[] w fun e w' => e = .returned (.bool true) ∧ Below w.heap.size w w' := by
  have hG : Good scA7 ∧ scA7.cam ≠ none := sceneT_good scA7_read
  have CQ := Lib.hid (show Calls Tryz.prog 11 #[.string ⟨#[115, 107, 121, 32, 49, 32, 50, 32, 51, 35, 120, 10, 99, 97, 109, 101, 114, 97, 32, 48, 32, 48, 32, 45, 57, 32, 48, 32, 48, 32, 56, 32, 49, 32, 48, 32, 48, 32, 48, 32, 49, 32, 48, 32, 50, 32, 50, 32, 49, 32, 48, 10]⟩] w fun e w' => Below w.heap.size w w' ∧ ∃ g val vs, vs = sceneV scA7 val ∧ e = .returned (.tuple #[.agg vs, .int .i64 0, .int .i64 0]) ∧ RepV g w' g 70 scA7 val by
    refine (parse_any w ⟨#[115, 107, 121, 32, 49, 32, 50, 32, 51, 35, 120, 10, 99, 97, 109, 101, 114, 97, 32, 48, 32, 48, 32, 45, 57, 32, 48, 32, 48, 32, 56, 32, 49, 32, 48, 32, 48, 32, 48, 32, 49, 32, 48, 32, 50, 32, 50, 32, 49, 32, 48, 10]⟩ (by decide) ht.1).mono ?_
    rintro e w' ⟨h1, h2⟩
    rw [show (⟨#[115, 107, 121, 32, 49, 32, 50, 32, 51, 35, 120, 10, 99, 97, 109, 101, 114, 97, 32, 48, 32, 48, 32, 45, 57, 32, 48, 32, 48, 32, 56, 32, 49, 32, 48, 32, 48, 32, 48, 32, 49, 32, 48, 32, 50, 32, 50, 32, 49, 32, 48, 10]⟩ : ByteArray).data.toList = [115, 107, 121, 32, 49, 32, 50, 32, 51, 35, 120, 10, 99, 97, 109, 101, 114, 97, 32, 48, 32, 48, 32, 45, 57, 32, 48, 32, 48, 32, 56, 32, 49, 32, 48, 32, 48, 32, 48, 32, 49, 32, 48, 32, 50, 32, 50, 32, 49, 32, 48, 10] from rfl, scA7_read] at h2
    obtain ⟨g, val, h2, h3, h4⟩ := h2
    exact ⟨h1, g, val, _, rfl, h2, h4⟩)
  go_enter Tryz.func7, Tryz.ntmps7
  go_upto_region 2 with (first | (go_at_call 11; (with_reducible refine Calls.mono CQ.out ?_); rintro e W1 ⟨hB1, g1, val, vs, hvs, rfl, hR⟩; have hsv : scZ.size = vs.size := (by rw [hvs]; rfl); have hs24 : (Tryz.prog.info? 34).map (·.size) = some vs.size := (by rw [hvs]; exact infoSc); have hon : vs.all (·.oneCell') = true := (by rw [hvs]; simpa using hR.one); replace hvs := Lib.hid hvs) | (refine wpList_val rfl _ _ (alloc_Scene _ _ rfl _) ?_) | (refine wpList_store_rowTo rfl 34 _ _ rfl rfl W1.heap.size vs rfl rfl 34 scZ (Blk.new _ _ _ _ rfl) hs24 hsv hon ?_; rw [World.setRow_alloc_new]))
  have hB7 : Below W1.heap.size W1 (W1.alloc (.cells vs 34)) := bel_alloc (Below.refl _ _) _
  have K7 : Blk (W1.alloc (.cells vs 34)) W1.heap.size 34 vs := Blk.new _ _ _ _ rfl
  generalize W1.alloc (.cells vs 34) = W2 at *
  obtain ⟨h, hh⟩ : ∃ h, h = W1.heap.size := ⟨_, rfl⟩
  rw [← hh] at K7
  try rw [← hh]
  clear hh CQ
  have hB2 := hB1.trans (hB7.mono hB1.size)
  have ht2 := ht.below hB2
  have CS := Lib.hid (show Calls Tryz.prog 9 #[.agg vs] W2 fun e w' => Below W2.heap.size W2 w' ∧ e = .returned (.tuple #[.string ⟨#[99, 97, 109, 101, 114, 97, 32, 48, 32, 48, 32, 45, 57, 32, 48, 32, 48, 32, 56, 32, 49, 32, 48, 32, 48, 32, 48, 32, 49, 32, 48, 32, 50, 32, 50, 32, 49, 32, 48, 10, 115, 107, 121, 32, 49, 32, 50, 32, 51, 10]⟩, .int .i64 0]) by
    rw [hvs.out]
    have := show_read (g := 0) (b := 0) (TR := 34) hG.1 hG.2 ((hR.sceneR hG.1).below hB7) ht2
    rw [scA7_text] at this
    exact this)
  have hsz_vs := Lib.hid (show (Tryz.prog.info? 34).map (·.size) = some vs.toList.length by rw [hvs.out]; exact infoSc)
  have rg := Lib.hid (rg_blk K7)
  have hhl := K7.lt
  have C0 := Lib.hid (fun (W3 : World) (h : Below W2.heap.size W2 W3) => show Calls Tryz.prog 9 #[.agg scZ] W3 fun e w' => Below W3.heap.size W3 w' ∧ e = .returned (.tuple #[.string ⟨#[]⟩, .int .i64 11]) from by
    refine (show_w (cL := 0) (cM := 0) (cT := 0) (cS := 0) (cC := 0) gs0 gs0_wf (gs0_sb _ _) (ht2.below h).1 (itoa_ok (ht2.below h)) 0 0 0 0 0 0 0 0 0 0 0 0 0 0 0 0 0 0 0 rfl rfl scZ rfl).mono ?_
    rintro e w' ⟨h1, ⟨h2, _⟩ | ⟨_, h2⟩⟩
    · exact absurd h2 gs0_not
    · exact ⟨h1, h2⟩)
  replace hB2 := Lib.hid hB2
  clear hR K7 hB1 hB7 hsv hs24 hon ht2 hG ht
  go_upto_region 3 with (first | ((with_reducible_and_instances refine at_ldSc ?_); refine wpList_load_midTo rfl 34 _ rfl h 0 rfl vs.toList _ rg.out Tryz.underlying34 rfl hsz_vs.out (.agg vs) (by simp) ?_) | (go_at_call 9; (with_reducible refine Calls.mono CS.out ?_); rintro e W3 ⟨hB3, rfl⟩))
  clear hhl
  go_wp2_with (first | (refine wpList_val rfl _ _ (build_Scene _ _ rfl _) ?_) | (go_at_call 9; (with_reducible refine Calls.mono (C0.out _ hB3) ?_); rintro e W4 ⟨hB4, rfl⟩))
  go_ret
  exact ⟨rfl, hB2.out.trans ((hB3.trans (hB4.mono hB3.size)).mono hB2.out.size)⟩
end Go.Proofs.YtdkgbdecmgligaaGreatDoor

/- What a row's condition on the library's tables gives layer 7's walks. -/
namespace Go.Proofs.YtdkgbdecmgligaaGreatDoor
open Go.RowKit
set_option linter.unusedVariables false
set_option linter.unusedSimpArgs false
set_option maxRecDepth 100000
theorem pow_datum : (Rows.laid_internal_strconv_uint64pow10 : DataW Unit) = Lib.tabData .u64 Lib.pow10Tab := by kernel_rfl
theorem tabs7_of {W : World} {laid : List (String × DataW Unit)} (hm : ("strings.asciiSpace", Rows.laid_strings_asciiSpace) ∈ laid) (hm2 : ("internal/strconv.uint64pow10", Rows.laid_internal_strconv_uint64pow10) ∈ laid) (hL : laidMet Tryz.prog laid W) (hS : W.ShapedOpen Tryz.prog) : Tabs7 W := by
  refine ⟨tabs_of hm hL hS, ?_⟩
  obtain ⟨g, t, cs, fuel, p, hg, ht, hv, hd⟩ := Lib.laidMet.reads hL hm2
  obtain rfl := Option.some.inj (gPow.symm.trans hg)
  have ty : (Tryz.prog.globals[5]?).map (·.type) = some 201 := by kernel_rfl
  obtain rfl := Option.some.inj (ty.symm.trans ht)
  refine ⟨lt_of_var gPow hv, ?_⟩
  unfold Lib.TabIs
  rw [pow_datum] at hd
  rw [hv, ← Lib.cells_of_tab Tryz.underlying201 Tryz.underlying188 (by kernel_rfl) (by kernel_rfl) hd]
end Go.Proofs.YtdkgbdecmgligaaGreatDoor
