/- PrintBack holds for every input: the row, out of the walk; the card, tied. No condition but the row's own: the listed tables of the library read as the program's text lays them. -/
import Derived.Test.YtdkgbdecmgligaaGreatDoorRows
import Derived.Test.YtdkgbdecmgligaaGreatDoorCards
import Derived.Test.YtdkgbdecmgligaaGreatDoorTie
import Derived.Test.YtdkgbdecmgligaaGreatDoorMPrtV
import Derived.Test.YtdkgbdecmgligaaGreatDoorMScnDE
import Derived.LaidMore
import Derived.Lay
import Derived.SevenTiedAt
namespace Go.Proofs.YtdkgbdecmgligaaGreatDoor.printBack
open Go.ChangeShapes Go.WideShapes Go.ChangeAt Go.RowKit
set_option linter.unusedVariables false
set_option linter.unusedSimpArgs false
set_option linter.unnecessarySimpa false
theorem parse_okW {w : World} {s : ByteArray} {sc : Scn} (hs : s.size ≤ 65536) (ht : Tabs w) (h : sceneT s.data.toList = .ok sc) :
    Calls Tryz.prog 11 #[.string s] w fun e w' => Below w.heap.size w w' ∧ ∃ g val vs, vs = sceneV sc val ∧ e = .returned (.tuple #[.agg vs, .int .i64 0, .int .i64 0]) ∧ RepV g w' g 70 sc val := by
  refine (parse_any w s hs ht).mono ?_
  rintro e w' ⟨h1, h2⟩
  rw [h] at h2
  obtain ⟨g, val, h2, h3, h4⟩ := h2
  exact ⟨h1, g, val, _, rfl, h2, h4⟩
theorem parse_errW {w : World} {s : ByteArray} {n k : Nat} (hs : s.size ≤ 65536) (ht : Tabs w) (h : sceneT s.data.toList = .error (n, k)) :
    Calls Tryz.prog 11 #[.string s] w fun e w' => Below w.heap.size w w' ∧ e = .returned (.tuple #[.agg scZ, .int .i64 (n : Int), .int .i64 (k : Int)]) := by
  refine (parse_any w s hs ht).mono ?_
  rintro e w' ⟨h1, h2⟩
  rw [h] at h2
  exact ⟨h1, h2⟩
set_option maxRecDepth 100000 in
set_option maxHeartbeats 4000000 in
theorem walk (w : World) (s0 : ByteArray) (b0 : s0.size ≤ maxLen) (ht : Tabs7 w) : Calls Tryz.prog 4 #[.string s0] w fun e w' => e = .returned (.bool true) ∧ Below w.heap.size w w' := by
  have CA := Lib.hid (alive7_any w ht)
  go_enter Tryz.func4, Tryz.ntmps4
  go_upto_region 3 with (go_at_call 7; (with_reducible refine Calls.mono CA.out ?_); rintro e W1 ⟨rfl, hB1⟩)
  have ht1 := ht.below hB1
  clear CA ht
  by_cases hlen : s0.size ≤ 8000
  · have hlen' : ¬ (8000 : Int) < (s0.size : Int) := by omega
    cases hT : sceneT s0.data.toList with
    | error nk =>
      obtain ⟨n, k⟩ := nk
      have hk := sceneT_err hT
      have hk0 : ¬ (k : Int) = 0 := by omega
      have CQ := Lib.hid (parse_errW (by omega) ht1.1 hT)
      replace hB1 := Lib.hid hB1
      clear hT ht1 hk hlen b0
      go_wp2_with (first | (go_at_call 11; (with_reducible refine Calls.mono CQ.out ?_); rintro e W2 ⟨hB2, rfl⟩) | (refine wpList_val rfl _ _ (alloc_Scene _ _ rfl _) ?_) | (refine wpList_store_rowTo rfl 34 _ _ rfl rfl W2.heap.size scZ rfl rfl 34 scZ (Blk.new _ _ _ _ rfl) infoSc rfl scZ_one ?_; rw [World.setRow_alloc_new]))
      go_ret
      exact ⟨rfl, hB1.out.trans ((hB2.trans ((bel_alloc (Below.refl _ _) _).mono hB2.size)).mono hB1.out.size)⟩
    | ok sc =>
      obtain ⟨hgd, hcn⟩ := sceneT_good hT
      have CQ := Lib.hid (parse_okW (by omega) ht1.1 hT)
      replace hB1 := Lib.hid hB1
      replace hgd := Lib.hid hgd
      replace hcn := Lib.hid hcn
      clear hT hlen b0
      go_upto_region 6 with (first | (go_at_call 11; (with_reducible refine Calls.mono CQ.out ?_); rintro e W2 ⟨hB2, g1, val, vs, hv_vs, rfl, hR⟩; have hsv : scZ.size = vs.size := (by rw [hv_vs]; rfl); have hs24 : (Tryz.prog.info? 34).map (·.size) = some vs.size := (by rw [hv_vs]; exact infoSc); have hon : vs.all (·.oneCell') = true := (by rw [hv_vs]; simpa using hR.one); replace hv_vs := Lib.hid hv_vs) | (refine wpList_val rfl _ _ (alloc_Scene _ _ rfl _) ?_) | (refine wpList_store_rowTo rfl 34 _ _ rfl rfl W2.heap.size vs rfl rfl 34 scZ (Blk.new _ _ _ _ rfl) hs24 hsv hon ?_; rw [World.setRow_alloc_new]))
      have hB3 : Below W2.heap.size W2 (W2.alloc (.cells vs 34)) := bel_alloc (Below.refl _ _) _
      have K3 : Blk (W2.alloc (.cells vs 34)) W2.heap.size 34 vs := Blk.new _ _ _ _ rfl
      generalize W2.alloc (.cells vs 34) = W3 at *
      obtain ⟨h1, hh⟩ : ∃ h, h = W2.heap.size := ⟨_, rfl⟩
      rw [← hh] at K3
      try rw [← hh]
      clear hh hsv hs24 hon
      have hsz_vs := Lib.hid (show (Tryz.prog.info? 34).map (·.size) = some vs.toList.length by rw [hv_vs.out]; exact infoSc)
      have hB13 := hB2.trans (hB3.mono hB2.size)
      have hRs := (hR.sceneR hgd.out).below hB3
      have ht3 := ht1.below hB13
      replace hB13 := Lib.hid (hB1.out.trans (hB13.mono hB1.out.size))
      clear CQ hB2 hB3 ht1 hR
      obtain ⟨T, eT⟩ : ∃ T : ByteArray, T = ⟨(showT sc (cam16 sc) (sky3 sc)).toArray⟩ := ⟨_, rfl⟩
      have CS := Lib.hid (show Calls Tryz.prog 9 #[.agg vs] W3 fun e w' => Below W3.heap.size W3 w' ∧ e = .returned (.tuple #[.string T, .int .i64 0]) by
        rw [hv_vs.out, eT]
        exact show_read (g := 0) (b := 0) (TR := 34) hgd.out hcn.out hRs ht3)
      replace eT := Lib.hid eT
      have rg1 := Lib.hid (rg_blk K3)
      have hhl := K3.lt
      go_upto_region 9 with (first | ((with_reducible_and_instances refine at_ldSc ?_); refine wpList_load_midTo rfl 34 _ rfl h1 0 rfl vs.toList _ rg1.out Tryz.underlying34 rfl hsz_vs.out (.agg vs) (by simp) ?_) | (go_at_call 9; (with_reducible refine Calls.mono CS.out ?_); rintro e W4 ⟨hB4, rfl⟩))
      have K4 := K3.below hB4
      have hRs4 := hRs.below hB4
      have ht4 := ht3.below hB4
      replace hB13 := Lib.hid (hB13.out.trans (hB4.mono hB13.out.size))
      clear CS rg1 hhl K3 hRs ht3 hB4
      have hTb : sceneT T.data.toList = .ok { sc with sky := some (sky3 sc) } := by
        rw [eT.out]
        exact back_read hgd.out hcn.out
      have hTl : T.size ≤ 65536 := by
        rw [eT.out]
        show (showT sc (cam16 sc) (sky3 sc)).toArray.size ≤ 65536
        have := len_read hgd.out hcn.out
        simpa using this
      obtain ⟨hgd2, hcn2⟩ := sceneT_good hTb
      have CQ := Lib.hid (parse_okW hTl ht4.1 hTb)
      replace hgd2 := Lib.hid hgd2
      replace hcn2 := Lib.hid hcn2
      clear hTb hTl
      go_upto_region 10 with (first | (go_at_call 11; (with_reducible refine Calls.mono CQ.out ?_); rintro e W5 ⟨hB5, g2, val2, us, hv_us, rfl, hR2⟩; have hsv : scZ.size = us.size := (by rw [hv_us]; rfl); have hs24 : (Tryz.prog.info? 34).map (·.size) = some us.size := (by rw [hv_us]; exact infoSc); have hon : us.all (·.oneCell') = true := (by rw [hv_us]; simpa using hR2.one); replace hv_us := Lib.hid hv_us) | (refine wpList_val rfl _ _ (alloc_Scene _ _ rfl _) ?_) | (refine wpList_store_rowTo rfl 34 _ _ rfl rfl W5.heap.size us rfl rfl 34 scZ (Blk.new _ _ _ _ rfl) hs24 hsv hon ?_; rw [World.setRow_alloc_new]))
      have hB6 : Below W5.heap.size W5 (W5.alloc (.cells us 34)) := bel_alloc (Below.refl _ _) _
      have K6 : Blk (W5.alloc (.cells us 34)) W5.heap.size 34 us := Blk.new _ _ _ _ rfl
      generalize W5.alloc (.cells us 34) = W6 at *
      obtain ⟨h2, hh⟩ : ∃ h, h = W5.heap.size := ⟨_, rfl⟩
      rw [← hh] at K6
      try rw [← hh]
      clear hh hsv hs24 hon
      have hsz_us := Lib.hid (show (Tryz.prog.info? 34).map (·.size) = some us.toList.length by rw [hv_us.out]; exact infoSc)
      have hB46 := hB5.trans (hB6.mono hB5.size)
      have hRs6 := (hR2.sceneR hgd2.out).below hB6
      have ht6 := ht4.below hB46
      have K46 := K4.below hB46
      have hRs46 := hRs4.below hB46
      replace hB13 := Lib.hid (hB13.out.trans (hB46.mono hB13.out.size))
      clear CQ hB5 hB6 ht4 hR2 K4 hRs4 hB46
      have CS := Lib.hid (show Calls Tryz.prog 9 #[.agg us] W6 fun e w' => Below W6.heap.size W6 w' ∧ e = .returned (.tuple #[.string T, .int .i64 0]) by
        rw [hv_us.out, eT.out]
        exact show_read (g := 0) (b := 0) (TR := 34) hgd2.out hcn2.out hRs6 ht6)
      have rg1 := Lib.hid (rg_blk K6)
      have hhl := K6.lt
      go_upto_region 11 with (first | ((with_reducible_and_instances refine at_ldSc ?_); refine wpList_load_midTo rfl 34 _ rfl h2 0 rfl us.toList _ rg1.out Tryz.underlying34 rfl hsz_us.out (.agg us) (by simp) ?_) | (go_at_call 9; (with_reducible refine Calls.mono CS.out ?_); rintro e W7 ⟨hB7, rfl⟩))
      have K7 := K6.below hB7
      have J7 := K46.below hB7
      have hRs7 := hRs6.below hB7
      have hRs17 := hRs46.below hB7
      replace hB13 := Lib.hid (hB13.out.trans (hB7.mono hB13.out.size))
      clear CS rg1 hhl K6 K46 hRs6 hRs46 ht6 hB7
      have CE := Lib.hid (show Calls Tryz.prog 12 #[.agg vs, .agg us] W7 fun e w' => e = .returned (.bool true) ∧ ∃ x, w' = grow W7 x by
        rw [hv_vs.out, hv_us.out]
        exact same_yes6 W7 (camN sc) (skyN sc) _ _ _ _ _ _ _ _ _ _ sc hgd.out.ns.1 hRs17 ⟨hRs7.lights, hRs7.mats, hRs7.texs, hRs7.skins, hRs7.cages⟩)
      have rg1 := Lib.hid (rg_blk J7)
      have rg2 := Lib.hid (rg_blk K7)
      have hl1 := J7.lt
      have hl2 := K7.lt
      clear K7 J7 hRs7 hRs17 hgd hcn hgd2 hcn2 eT
      go_wp2_with (first | ((with_reducible_and_instances refine at_ldScG ?_); (refine wpList_guarded (by rfl) (fun K9 hK9 => ?_); refine wp_load_midTo 34 _ rfl h1 0 rfl vs.toList _ rg1.out Tryz.underlying34 rfl hsz_vs.out (.agg vs) (by simp) (hK9 _ _ ?_)); try simp only [Act.put, List.setIfInBounds_toArray, List.set_cons_succ, List.set_cons_zero]) | ((with_reducible_and_instances refine at_ldScG ?_); (refine wpList_guarded (by rfl) (fun K9 hK9 => ?_); refine wp_load_midTo 34 _ rfl h2 0 rfl us.toList _ rg2.out Tryz.underlying34 rfl hsz_us.out (.agg us) (by simp) (hK9 _ _ ?_)); try simp only [Act.put, List.setIfInBounds_toArray, List.set_cons_succ, List.set_cons_zero]) | (go_at_call 12; (with_reducible refine Calls.mono CE.out ?_); rintro e _ ⟨rfl, x1, rfl⟩))
      go_ret
      exact ⟨rfl, hB13.out.trans ((bel_grow (Below.refl _ _) x1).mono hB13.out.size)⟩
  · have hlen' : (8000 : Int) < (s0.size : Int) := by omega
    clear ht1 b0 hlen
    go_wp2_with fail
    go_ret
    exact ⟨rfl, hB1⟩

theorem own : ownKnob Tryz.prog.godebug = none := by kernel_rfl
set_option maxRecDepth 100000 in
theorem lifted (os : Os) (started : os.Started) (H : Type) (enc : TypeId × Value → H) :
    ReturnsInHanded {} Tryz.checked os 4 .any (fun w args => (Rows.printBackSpec.pre enc Tryz.prog Tryz.f4 [] false w args ∧ laidMetH Tryz.prog Rows.printBackRow.laid w) ∧ sizedMet enc Tryz.prog Tryz.f4 (OpenSpec.ofChange Rows.printBackSpec) false w args)
      (Rows.printBackSpec.post enc Tryz.prog Tryz.f4 false true false false) := by
  refine returnsInHanded_of_calls (C := Tryz.checked) own started (by kernel_rfl)
    (ChangeSpec.witness_shaped (enc := enc) (C := Tryz.checked) (os := os) (X := fun w _ => laidMetH Tryz.prog Rows.printBackRow.laid w) false (World.laidAll Tryz.prog os Rows.printBackRow.laid) #[.string ByteArray.empty] 12 (World.laidAll_os _ _ _)
      (World.shaped_of_ZipB (by kernel_rfl) (by kernel_rfl)) (by kernel_rfl) (by kernel_rfl) (by kernel_rfl)
      (by rw [MakeChecks.laidMetH_plain _ _ _ (by kernel_rfl)]; exact laidMet_laidAll _ (by kernel_rfl) (by kernel_rfl))) ?_
  rintro w tape ⟨vars, args, fns⟩ _ hsh _ ⟨_, _, _, fn, hfn, _, _, _, _, hval⟩ ⟨⟨⟨ds, gs, before, hw, _⟩, hx⟩, _⟩ _
  obtain rfl := Option.some.inj (Tryz.func4.symm.trans hfn)
  have hW := DataW.Whole.of_heap (w' := w.forCall tape ⟨vars, args, fns⟩) (by rfl) hw
  have hL := laidMetH.of_heap (w' := w.forCall tape ⟨vars, args, fns⟩) (by rfl) hx
  rw [MakeChecks.laidMetH_plain _ _ _ (by kernel_rfl)] at hL
  have ht : Tabs7 (w.forCall tape ⟨vars, args, fns⟩) := tabs7_of (by unfold Rows.printBackRow; simp) (by unfold Rows.printBackRow; simp) hL hsh
  generalize w.forCall tape ⟨vars, args, fns⟩ = W at *
  have hW' := hW
  obtain ⟨p, q, hA0, hV, rfl, hfz, hnd⟩ := hW
  have hA : DataW.TrodAll enc Tryz.prog W 0 (fun _ => true) true Tryz.f4.params.toList args.toList ds p := hA0
  rw [Tryz.params4] at hA hval
  obtain ⟨v0, vs0, d0, ds0, p0, q0, hargs, rfl, rfl, h0, r0⟩ := trodAll_cons hA
  obtain ⟨rfl, rfl, rfl⟩ := trodAll_nil r0
  obtain rfl : args = #[v0] := by cases args; simp_all
  obtain ⟨s0, rfl, b0⟩ := open_Str (hval 0 9 v0 rfl rfl) h0
  refine (walk W s0 b0 ht).mono fun e W' ⟨he, hb⟩ => ?_
  subst he
  exact ChangeSpec.post_blind (law_post (tb := 4) (by kernel_rfl) (by kernel_rfl) rfl rfl Tryz.underlying4 rfl rfl rfl hW' hb)

theorem row : Rows.printBackRow.holds Tryz.pinned (OpenSpec.ofChange Rows.printBackSpec) :=
  OpenClaim.holds_of_wide 4 Tryz.f4 rfl rfl rfl rfl rfl rfl rfl ⟨rfl, rfl, rfl, rfl, rfl⟩ rfl rfl rfl rfl rfl (by kernel_rfl) Tryz.func4 (by kernel_rfl)
    (of_decide_eq_true (by kernel_rfl)) (by unfold Func.isWrapper; first | (rw [if_pos (by decide +kernel)]; kernel_rfl) | (rw [if_neg (by decide +kernel)]; exact ⟨rfl, rfl⟩))
    (fun os started H enc _ => lifted os started H enc)

theorem proved : Rows.PrintBackCardSaid :=
  Claim7.holds_tied_plain_at .later [] [.data, .data, .data, .data, .listed, .data, .pinned] true _ _ row (fun _ h => by cases h) (by kernel_rfl) (fun _ h => by cases h) printBack_row_tie rfl ⟨rfl, rfl⟩ (by kernel_rfl) rfl
    (fun f fn hf hfn => by
      obtain rfl : f = 4 := Option.some.inj ((show Tryz.prog.funcNamed "relievo/relievolaw07.PrintBack" = some 4 by kernel_rfl).symm.trans hf) |>.symm
      obtain rfl : fn = Tryz.f4 := (Option.some.inj (Tryz.func4.symm.trans hfn)).symm
      exact ⟨by kernel_rfl, fun j t hj => by
        have hm : t ∈ Tryz.f4.params.toList := by
          have := Array.mem_of_getElem? hj
          simpa using this
        have hall : (Tryz.f4.params.toList.all fun u => !Tryz.prog.wantsStandIn u) = true := by kernel_rfl
        exact (show Tryz.prog.wantsStandIn t = false by simpa using List.all_eq_true.1 hall t hm)⟩)
    (by kernel_rfl)
#print axioms proved
end Go.Proofs.YtdkgbdecmgligaaGreatDoor.printBack
