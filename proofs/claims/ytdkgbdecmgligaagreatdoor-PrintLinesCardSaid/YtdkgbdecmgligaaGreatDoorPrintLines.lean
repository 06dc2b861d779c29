/- PrintLines holds for every input: the row, out of the walk; the card, tied. No condition but the row's own: the listed tables of the library read as the program's text lays them. -/
import Derived.Test.YtdkgbdecmgligaaGreatDoorRows
import Derived.Test.YtdkgbdecmgligaaGreatDoorCards
import Derived.Test.YtdkgbdecmgligaaGreatDoorTie
import Derived.Test.YtdkgbdecmgligaaGreatDoorMPrtV
import Derived.Test.YtdkgbdecmgligaaGreatDoorMPrtY
import Derived.Test.YtdkgbdecmgligaaGreatDoorMScnDE
import Derived.LaidMore
import Derived.Lay
import Derived.SevenTiedAt
namespace Go.Proofs.YtdkgbdecmgligaaGreatDoor.printLines
open Go.ChangeShapes Go.WideShapes Go.ChangeAt Go.RowKit
set_option linter.unusedVariables false
set_option linter.unusedSimpArgs false
set_option linter.unnecessarySimpa false
def nlT (T : ByteArray) (k : Nat) : Nat := nls (T.data.toList.take k)
theorem nlT_step (T : ByteArray) (k : Nat) (h : k < T.size) : nlT T (k + 1) = nlT T k + (if bt T k = 10 then 1 else 0) := by
  have hl : k < T.data.toList.length := by simpa using h
  have eb : bt T k = (T.data.toList[k]).toNat := by
    unfold bt
    rw [dif_pos h]
    show (T.data[k]'(by simpa using h)).toNat = _
    simp
  unfold nlT
  rw [List.take_succ_eq_append_getElem hl, nls_app, eb]
  generalize T.data.toList[k] = c
  congr 1
  unfold nls
  by_cases hc : c = 10
  · subst hc; rfl
  · have : ¬ c.toNat = 10 := fun e => hc (by rw [← UInt8.toNat_inj, e]; rfl)
    rw [if_neg this]
    simp [hc]
theorem nlT_le (T : ByteArray) : ∀ k, nlT T k ≤ k := fun k => by
  unfold nlT nls
  exact Nat.le_trans (List.length_filter_le _ _) (by simp; omega)
theorem nlT_all (l : List UInt8) : nlT ⟨l.toArray⟩ (⟨l.toArray⟩ : ByteArray).size = nls l := by
  unfold nlT
  show nls (l.toArray.toList.take l.toArray.size) = _
  simp
theorem cageN_le : ∀ (cs : List CageM), (∀ c ∈ cs, c.verts.length + c.faces.length + c.creases.length ≤ 900) → cageN cs ≤ 900 * cs.length
  | [], _ => by simp [cageN]
  | c :: cs, h => by
    have h1 := h c (by simp)
    have h2 := cageN_le cs (fun x hx => h x (by simp [hx]))
    have e : cageN (c :: cs) = (c.verts.length + c.faces.length + c.creases.length) + cageN cs := by unfold cageN; simp
    rw [e, List.length_cons]; omega
set_option maxRecDepth 100000 in
set_option maxHeartbeats 4000000 in
theorem walk (w : World) (gs : GS) (cs : Array Value) (hA : SceneA w gs cs) (ht : Tabs7 w) : Calls Tryz.prog 5 #[.agg cs] w fun e w' => e = .returned (.bool true) ∧ Below w.heap.size w w' := by
  have hB0 : Below w.heap.size w (w.alloc (.cells cs 34)) := bel_alloc (Below.refl _ _) _
  have K0 : Blk (w.alloc (.cells cs 34)) w.heap.size 34 cs := Blk.new _ _ _ _ rfl
  have ht0 := ht.below hB0
  have hA0 := hA.below hB0
  have hsz_cs := Lib.hid (show (Tryz.prog.info? 34).map (·.size) = some cs.toList.length by rw [Array.length_toList, hA.size]; exact infoSc)
  clear ht hA
  go_enter Tryz.func5, Tryz.ntmps5
  go_upto_region 1 with fail
  generalize Value.agg cs = PA
  generalize w.alloc (.cells cs 34) = V at *
  obtain ⟨q, hq⟩ : ∃ q, q = w.heap.size := ⟨_, rfl⟩
  rw [← hq] at K0
  try rw [← hq]
  replace hq := Lib.hid hq
  have CA := Lib.hid (alive7_any V ht0)
  replace hB0 := Lib.hid hB0
  go_upto_region 3 with (go_at_call 7; (with_reducible refine Calls.mono CA.out ?_); rintro e W1 ⟨rfl, hB1⟩)
  have K1 := K0.below hB1
  have ht1 := ht0.below hB1
  have hA1 := hA0.below hB1
  have hB01 := Lib.hid (hB0.out.trans (hB1.mono hB0.out.size))
  clear CA K0 ht0 hA0 hB1 hB0
  have rg := Lib.hid (rg_blk K1)
  have hql := K1.lt
  have CG := Lib.hid (great_A hA1)
  go_upto_region 5 with (first | ((with_reducible_and_instances refine at_ldSc ?_); refine wpList_load_midTo rfl 34 _ rfl q 0 rfl cs.toList _ rg.out Tryz.underlying34 rfl hsz_cs.out (.agg cs) (by simp) ?_) | (go_at_call 8; (with_reducible refine Calls.mono CG.out ?_); rintro e W2 ⟨b, rfl, hbs, hB2⟩; replace hbs := Lib.hid hbs; cases b))
  · have hsm := hbs.out (by first | rfl | trivial)
    have K2 := K1.below hB2
    have ht2 := ht1.below hB2
    have hA2 := hA1.below hB2
    have hB02 := Lib.hid (hB01.out.trans (hB2.mono hB01.out.size))
    clear CG rg hql K1 ht1 hA1 hB2 hB01 hbs
    have rg := Lib.hid (rg_blk K2)
    have hql := K2.lt
    have CS := Lib.hid (show_A hA2 hsm ht2)
    have hAs := Lib.hid hA2
    have hsm2 := Lib.hid hsm
    clear hsm ht2 hA2
    go_upto_region 6 with (first | ((with_reducible_and_instances refine at_ldSc ?_); refine wpList_load_midTo rfl 34 _ rfl q 0 rfl cs.toList _ rg.out Tryz.underlying34 rfl hsz_cs.out (.agg cs) (by simp) ?_) | (go_at_call 9; (with_reducible refine Calls.mono CS.out ?_); rintro e W3 ⟨hB3, ⟨hok, rfl⟩ | ⟨hok, rfl⟩⟩))
    · have hlin := okG_lines hok
      have hTl : (⟨(textG gs).toArray⟩ : ByteArray).size ≤ 65536 := by
        have := hok.2.1
        show (textG gs).toArray.size ≤ 65536
        simpa using this
      have hall := nlT_all (textG gs)
      rw [hlin] at hall
      have hB03 := Lib.hid (hB02.out.trans (hB3.mono hB02.out.size))
      have K3 := K2.below hB3
      have hA3 := hAs.out.below hB3
      clear CS rg hql K2 hB3 hok hB02 hlin hAs
      generalize (⟨(textG gs).toArray⟩ : ByteArray) = T at *
      obtain ⟨aL, aM, aT, aS, aC, cL, cM, cT, cS, cC, hraw, hsz, _, _, h19, h20, h21, h22, h23⟩ := hA3
      have p19 := (K3.cell 19).trans h19
      have p20 := (K3.cell 20).trans h20
      have p21 := (K3.cell 21).trans h21
      have p22 := (K3.cell 22).trans h22
      have p23 := (K3.cell 23).trans h23
      have hql := K3.lt
      have n5 := hsm2.out.n5
      have hcg := Lib.hid hsm2.out.cg
      replace hall := Lib.hid hall
      obtain ⟨nL, hnL⟩ : ∃ n, gs.lights.length = n := ⟨_, rfl⟩
      obtain ⟨nT, hnT⟩ : ∃ n, gs.texs.length = n := ⟨_, rfl⟩
      obtain ⟨nM, hnM⟩ : ∃ n, gs.mats.length = n := ⟨_, rfl⟩
      obtain ⟨nS, hnS⟩ : ∃ n, gs.skins.length = n := ⟨_, rfl⟩
      obtain ⟨nC, hnC⟩ : ∃ n, gs.cages.length = n := ⟨_, rfl⟩
      rw [hnL] at p19 n5
      rw [hnM] at p20 n5
      rw [hnT] at p21 n5
      rw [hnS] at p22 n5
      rw [hnC] at p23 n5
      have hnn := Lib.hid (show gs.lights.length = nL ∧ gs.texs.length = nT ∧ gs.mats.length = nM ∧ gs.skins.length = nS ∧ gs.cages.length = nC from ⟨hnL, hnT, hnM, hnS, hnC⟩)
      have hCr := Lib.hid hraw.rc
      have cell1 := Lib.hid (show ∀ V2 : World, Below W3.heap.size W3 V2 → q < V2.heap.size ∧ V2.cell? ⟨q, 23, none⟩ = some (.slice aC nC cC) from fun V2 h => ⟨(K3.below h).lt, (h.cell (p := ⟨q, 23, none⟩) hql).trans p23⟩)
      clear h19 h20 h21 h22 h23 hraw hsz hnL hnT hnM hnS hnC K3 hsm2
      go_wp2_with fail
      clear p19 p20 p21 p22 p23 hql
      go_loopw [5, 6] (fun n i wr => ∃ (j N : Nat), n = .int .i64 (N : Int) ∧ i = .int .i64 (j : Int) ∧ j ≤ nC ∧ N ≤ 62 + 900 * j ∧ Hid (N = 2 + nL + nT + nM + nS + cageN (gs.cages.take j)) ∧ Hid (Below W3.heap.size W3 wr)) (fun _ i _ => nC - (intOf i).toNat)
      case atStart => exact ⟨0, 2 + nL + nT + nM + nS, by go_num, rfl, by omega, by omega, Lib.hid (by rw [List.take_zero]; rfl), Lib.hid (Below.refl _ _)⟩
      case round =>
        obtain ⟨j, N, rfl, rfl, hj, hN, hE, hBr⟩ := hrel
        obtain ⟨hql, p23⟩ := cell1.out wr hBr.out
        by_cases hlt : j < nC
        · have hjl : j < gs.cages.length := by have := hnn.out.2.2.2.2; omega
          obtain ⟨b, off, eA, hK, hc⟩ := hCr.out (by omega)
          subst eA
          obtain ⟨A1, A2, A3, c1, c2, c3, ⟨q1, q2, q3⟩, _⟩ := hc j hjl
          have hfr := FrB.of (Nat.le_refl _) hBr.out
          have r1 := (hK.cell hfr _).trans q1
          have r2 := (hK.cell hfr _).trans q2
          have r3 := (hK.cell hfr _).trans q3
          have hbl := (hK.frb hfr).1
          obtain ⟨s1, s2, s3, _⟩ := hcg.out gs.cages[j] (List.getElem_mem hjl)
          have hE2 := cageN_take hjl
          have k0 : (0 : Int) ≤ (j : Int) := by omega
          have k1 : (j : Int) < (nC : Int) := by omega
          clear q1 q2 q3 hc hK hfr
          generalize gs.cages[j].verts.length = nv at *
          generalize gs.cages[j].faces.length = nf at *
          generalize gs.cages[j].creases.length = nc at *
          replace hE := Lib.hid (show N + (nv + nf + nc) = 2 + nL + nT + nM + nS + cageN (gs.cages.take (j + 1)) by rw [hE2]; have := hE.out; omega)
          clear hE2
          have hN2 : N + (nv + nf + nc) ≤ 62 + 900 * (j + 1) := by omega
          have hC60 : nC ≤ 60 := by omega
          go_upto_region 12 with fail
          go_quiet (fail)
          go_wp2_with fail
          go_roundw
          case rel => exact ⟨j + 1, N + (nv + nf + nc), by go_num, by go_num, by omega, hN2, hE, Lib.hid (bel_drewN hBr.out _)⟩
          case measure => simp [intOf] <;> omega
        · obtain rfl : j = nC := by omega
          have hNe : N = nlT T T.size := by
            have h1 := hE.out
            rw [List.take_of_length_le (by have := hnn.out.2.2.2.2; omega)] at h1
            have h2 := hall.out
            have h3 := hnn.out
            omega
          replace hNe := Lib.hid hNe
          have hN65 : N ≤ 65536 := by have := nlT_le T T.size; have := hNe.out; omega
          clear hN hE
          go_wp2_with fail
          clear p23 hql
          rename World => U3
          go_loop [7, 8] (fun n i => ∃ k M : Nat, n = .int .i64 (M : Int) ∧ i = .int .i64 (k : Int) ∧ k ≤ T.size ∧ M ≤ k ∧ Hid (M = nlT T k)) (fun _ i => T.size - (intOf i).toNat)
          case atStart => exact ⟨0, 0, rfl, rfl, Nat.zero_le _, Nat.le_refl _, Lib.hid (by unfold nlT; simp [nls])⟩
          case round =>
            obtain ⟨k, M, rfl, rfl, hk, hM, hMe⟩ := hrel
            by_cases hlt : k < T.size
            · have e := bt_at T k hlt
              have hs := nlT_step T k hlt
              by_cases hb : bt T k = 10
              · rw [if_pos hb] at hs
                rw [hb] at e
                replace hs := Lib.hid hs
                clear hb
                go_wp2_with fail
                go_round
                case rel => exact ⟨k + 1, M + 1, by go_num, by go_num, by omega, by omega, Lib.hid (by have := hs.out; have := hMe.out; omega)⟩
                case measure => simp [intOf] <;> omega
              · rw [if_neg hb] at hs
                replace hs := Lib.hid hs
                have n1 : ((bt T k : Int) == 10) = false := by simp; omega
                have n2 : ¬ (bt T k : Int) = 10 := by omega
                generalize bt T k = c at *
                go_wp2_with fail
                go_round
                case rel => exact ⟨k + 1, M, rfl, by go_num, by omega, by omega, Lib.hid (by have := hs.out; have := hMe.out; omega)⟩
                case measure => simp [intOf] <;> omega
            · obtain rfl : k = T.size := by omega
              obtain rfl : M = N := by have := hNe.out; have := hMe.out; omega
              go_wp2_with fail
              go_ret
              exact ⟨rfl, hB03.out.trans (hBr.out.mono hB03.out.size)⟩
    · have hB03 := Lib.hid (hB02.out.trans (hB3.mono hB02.out.size))
      clear CS rg hql K2 hB3 hok hB02
      go_wp2_with fail
      go_ret
      exact ⟨rfl, hB03.out⟩
  · clear CG rg hql
    go_wp2_with fail
    go_ret
    exact ⟨rfl, hB01.out.trans (hB2.mono hB01.out.size)⟩

theorem own : ownKnob Tryz.prog.godebug = none := by kernel_rfl
set_option maxRecDepth 100000 in
theorem lifted (os : Os) (started : os.Started) (H : Type) (enc : TypeId × Value → H) :
    ReturnsInHanded {} Tryz.checked os 5 .any (fun w args => (Rows.printLinesSpec.pre enc Tryz.prog Tryz.f5 [] false w args ∧ laidMetH Tryz.prog Rows.printLinesRow.laid w) ∧ sizedMet enc Tryz.prog Tryz.f5 (OpenSpec.ofChange Rows.printLinesSpec) false w args)
      (Rows.printLinesSpec.post enc Tryz.prog Tryz.f5 false true false false) := by
  refine returnsInHanded_of_calls (C := Tryz.checked) own started (by kernel_rfl)
    (ChangeSpec.witness_shaped (enc := enc) (C := Tryz.checked) (os := os) (X := fun w _ => laidMetH Tryz.prog Rows.printLinesRow.laid w) false (World.laidAll Tryz.prog os Rows.printLinesRow.laid) #[.agg scZ] 12 (World.laidAll_os _ _ _)
      (World.shaped_of_ZipB (by kernel_rfl) (by kernel_rfl)) (by kernel_rfl) (by kernel_rfl) (by kernel_rfl)
      (by rw [MakeChecks.laidMetH_plain _ _ _ (by kernel_rfl)]; exact laidMet_laidAll _ (by kernel_rfl) (by kernel_rfl))) ?_
  rintro w tape ⟨vars, args, fns⟩ _ hsh _ ⟨_, _, _, fn, hfn, _, _, _, _, hval⟩ ⟨⟨⟨ds, gs, before, hw, _⟩, hx⟩, ⟨_, ds2, gs2, before2, hw2, hwt⟩⟩ _
  obtain rfl := Option.some.inj (Tryz.func5.symm.trans hfn)
  have hW := DataW.Whole.of_heap (w' := w.forCall tape ⟨vars, args, fns⟩) (by rfl) hw
  have hW2 := DataW.Whole.of_heap (w' := w.forCall tape ⟨vars, args, fns⟩) (by rfl) hw2
  have hL := laidMetH.of_heap (w' := w.forCall tape ⟨vars, args, fns⟩) (by rfl) hx
  rw [MakeChecks.laidMetH_plain _ _ _ (by kernel_rfl)] at hL
  have ht : Tabs7 (w.forCall tape ⟨vars, args, fns⟩) := tabs7_of (by unfold Rows.printLinesRow; simp) (by unfold Rows.printLinesRow; simp) hL hsh
  generalize w.forCall tape ⟨vars, args, fns⟩ = W at *
  have hW' := hW
  obtain ⟨p, q, hA0, hV, rfl, hfz, hnd⟩ := hW
  have hA : DataW.TrodAll enc Tryz.prog W 0 (fun _ => true) true Tryz.f5.params.toList args.toList ds p := hA0
  rw [Tryz.params5] at hA hval
  obtain ⟨v0, vs0, d0, ds0, p0, q0, hargs, rfl, rfl, h0, r0⟩ := trodAll_cons hA
  obtain ⟨rfl, rfl, rfl⟩ := trodAll_nil r0
  obtain rfl : args = #[v0] := by cases args; simp_all
  obtain ⟨p2, q2, hA2, _⟩ := hW2
  have hA3 : DataW.TrodAll enc Tryz.prog W 0 (fun _ => true) true Tryz.f5.params.toList [v0] ds2 p2 := hA2
  rw [Tryz.params5] at hA3
  obtain ⟨v1, vs1, d1, ds1, p1, q1, hargs1, rfl, rfl, h1, r1⟩ := trodAll_cons hA3
  obtain ⟨rfl, rfl, rfl⟩ := trodAll_nil r1
  obtain rfl : v0 = v1 := by simpa using hargs1
  obtain ⟨cs, rfl, hsz⟩ := okWide_struct Tryz.underlying34 (hval 0 34 _ rfl rfl)
  rw [szSc] at hsz
  obtain ⟨fu, hfu⟩ := h1
  have hTW : TW enc Tryz.prog W 0 (fun _ => true) true 34 cs.toList := by
    refine ⟨fu, _, hfu, fun n hn => ?_⟩
    have := List.all_eq_true.1 hwt n (DataW.weights_mem_each (j := 0) (t := 34) (d := d1) (by rw [Tryz.params5]; rfl) rfl n hn)
    simpa using this
  obtain ⟨gs3, aL, aM, aT, aS, aC, cL, cM, cT, cS, cC, hraw, hc1, hc2, h19, h20, h21, h22, h23⟩ := open_Scene (by simpa using hsz) hTW
  have hSA : SceneA W gs3 cs := ⟨aL, aM, aT, aS, aC, cL, cM, cT, cS, cC, hraw, hsz, fun i hi => by simpa using hc1 i hi, fun i hi => by simpa using hc2 i hi, by simpa using h19, by simpa using h20, by simpa using h21, by simpa using h22, by simpa using h23⟩
  refine (walk W gs3 cs hSA ht).mono fun e W' ⟨he, hb⟩ => ?_
  subst he
  exact ChangeSpec.post_blind (law_post (tb := 4) (by kernel_rfl) (by kernel_rfl) rfl rfl Tryz.underlying4 rfl rfl rfl hW' hb)

theorem row : Rows.printLinesRow.holds Tryz.pinned (OpenSpec.ofChange Rows.printLinesSpec) :=
  OpenClaim.holds_of_wide 5 Tryz.f5 rfl rfl rfl rfl rfl rfl rfl ⟨rfl, rfl, rfl, rfl, rfl⟩ rfl rfl rfl rfl rfl (by kernel_rfl) Tryz.func5 (by kernel_rfl)
    (of_decide_eq_true (by kernel_rfl)) (by unfold Func.isWrapper; first | (rw [if_pos (by decide +kernel)]; kernel_rfl) | (rw [if_neg (by decide +kernel)]; exact ⟨rfl, rfl⟩))
    (fun os started H enc _ => lifted os started H enc)

theorem proved : Rows.PrintLinesCardSaid :=
  Claim7.holds_tied_plain_at .later [] [.data, .data, .data, .data, .listed, .data, .pinned] true _ _ row (fun _ h => by cases h) (by kernel_rfl) (fun _ h => by cases h) printLines_row_tie rfl ⟨rfl, rfl⟩ (by kernel_rfl) rfl
    (fun f fn hf hfn => by
      obtain rfl : f = 5 := Option.some.inj ((show Tryz.prog.funcNamed "relievo/relievolaw07.PrintLines" = some 5 by kernel_rfl).symm.trans hf) |>.symm
      obtain rfl : fn = Tryz.f5 := (Option.some.inj (Tryz.func5.symm.trans hfn)).symm
      exact ⟨by kernel_rfl, fun j t hj => by
        have hm : t ∈ Tryz.f5.params.toList := by
          have := Array.mem_of_getElem? hj
          simpa using this
        have hall : (Tryz.f5.params.toList.all fun u => !Tryz.prog.wantsStandIn u) = true := by kernel_rfl
        exact (show Tryz.prog.wantsStandIn t = false by simpa using List.all_eq_true.1 hall t hm)⟩)
    (by kernel_rfl)
#print axioms proved
end Go.Proofs.YtdkgbdecmgligaaGreatDoor.printLines
