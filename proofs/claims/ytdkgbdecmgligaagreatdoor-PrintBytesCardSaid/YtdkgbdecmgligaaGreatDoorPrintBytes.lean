/- PrintBytes holds for every input: the row, out of the walk; the card, tied. No condition but the row's own: the listed tables of the library read as the program's text lays them. -/
import Derived.Test.YtdkgbdecmgligaaGreatDoorRows
import Derived.Test.YtdkgbdecmgligaaGreatDoorCards
import Derived.Test.YtdkgbdecmgligaaGreatDoorTie
import Derived.Test.YtdkgbdecmgligaaGreatDoorMPrtV
import Derived.Test.YtdkgbdecmgligaaGreatDoorMPrtY
import Derived.Test.YtdkgbdecmgligaaGreatDoorMScnDE
import Derived.LaidMore
import Derived.Lay
import Derived.SevenTiedAt
namespace Go.Proofs.YtdkgbdecmgligaaGreatDoor.printBytes
open Go.ChangeShapes Go.WideShapes Go.ChangeAt Go.RowKit
set_option linter.unusedVariables false
set_option linter.unusedSimpArgs false
set_option linter.unnecessarySimpa false
set_option maxRecDepth 100000 in
set_option maxHeartbeats 4000000 in
theorem walk (w : World) (gs : GS) (cs : Array Value) (hA : SceneA w gs cs) (ht : Tabs7 w) : Calls Tryz.prog 6 #[.agg cs] w fun e w' => e = .returned (.bool true) ∧ Below w.heap.size w w' := by
  have hB0 : Below w.heap.size w (w.alloc (.cells cs 34)) := bel_alloc (Below.refl _ _) _
  have K0 : Blk (w.alloc (.cells cs 34)) w.heap.size 34 cs := Blk.new _ _ _ _ rfl
  have ht0 := ht.below hB0
  have hA0 := hA.below hB0
  have hsz_cs := Lib.hid (show (Tryz.prog.info? 34).map (·.size) = some cs.toList.length by rw [Array.length_toList, hA.size]; exact infoSc)
  clear ht hA
  go_enter Tryz.func6, Tryz.ntmps6
  go_upto_region 1 with fail
  generalize Value.agg cs = PA
  generalize w.alloc (.cells cs 34) = V at *
  obtain ⟨q, hq⟩ : ∃ q, q = w.heap.size := ⟨_, rfl⟩
  rw [← hq] at K0
  try rw [← hq]
  replace hq := Lib.hid hq
  have CA := Lib.hid (alive7_any V ht0)
  replace hB0 := Lib.hid hB0
  go_upto_region 3 with (go_at_call 7; (with_reducible refine Calls.mono CA.out ?_); rintro e W1 ⟨rfl, hB1⟩)
  have K1 := K0.below hB1
  have ht1 := ht0.below hB1
  have hA1 := hA0.below hB1
  have hB01 := Lib.hid (hB0.out.trans (hB1.mono hB0.out.size))
  clear CA K0 ht0 hA0 hB1 hB0
  have rg := Lib.hid (rg_blk K1)
  have hql := K1.lt
  have CG := Lib.hid (great_A hA1)
  go_upto_region 5 with (first | ((with_reducible_and_instances refine at_ldSc ?_); refine wpList_load_midTo rfl 34 _ rfl q 0 rfl cs.toList _ rg.out Tryz.underlying34 rfl hsz_cs.out (.agg cs) (by simp) ?_) | (go_at_call 8; (with_reducible refine Calls.mono CG.out ?_); rintro e W2 ⟨b, rfl, hbs, hB2⟩; replace hbs := Lib.hid hbs; cases b))
  · have hsm := hbs.out (by first | rfl | trivial)
    have K2 := K1.below hB2
    have ht2 := ht1.below hB2
    have hA2 := hA1.below hB2
    have hB02 := Lib.hid (hB01.out.trans (hB2.mono hB01.out.size))
    clear CG rg hql K1 ht1 hA1 hB2 hB01 hbs
    have rg := Lib.hid (rg_blk K2)
    have hql := K2.lt
    have CS := Lib.hid (show_A hA2 hsm ht2)
    clear hsm ht2 hA2
    go_upto_region 6 with (first | ((with_reducible_and_instances refine at_ldSc ?_); refine wpList_load_midTo rfl 34 _ rfl q 0 rfl cs.toList _ rg.out Tryz.underlying34 rfl hsz_cs.out (.agg cs) (by simp) ?_) | (go_at_call 9; (with_reducible refine Calls.mono CS.out ?_); rintro e W3 ⟨hB3, ⟨hok, rfl⟩ | ⟨hok, rfl⟩⟩))
    · have hT := okG_text hok
      have hTl : (⟨(textG gs).toArray⟩ : ByteArray).size ≤ 65536 := by
        have := hok.2.1
        show (textG gs).toArray.size ≤ 65536
        simpa using this
      have hB03 := Lib.hid (hB02.out.trans (hB3.mono hB02.out.size))
      clear CS rg hql K2 hB3 hok hB02
      generalize (⟨(textG gs).toArray⟩ : ByteArray) = T at *
      replace hT := Lib.hid hT
      go_wp2_with fail
      go_loop [5] (fun i => ∃ k : Nat, k ≤ T.size ∧ i = .int .i64 (k : Int)) (fun i => T.size - (intOf i).toNat)
      case atStart => exact ⟨0, Nat.zero_le _, rfl⟩
      case round =>
        obtain ⟨k, hk, rfl⟩ := hrel
        by_cases hlt : k < T.size
        · have e := bt_at T k hlt
          have h35 := hT.out.no35 k hlt
          have hbl := hT.out.blank k hlt
          have hse := hT.out.seen k hlt
          by_cases hb : bt T k = 32 ∨ bt T k = 10
          · obtain ⟨h0, h1, h2⟩ := hbl hb
            obtain ⟨t, rfl⟩ : ∃ t, k = t + 1 := ⟨k - 1, by omega⟩
            have e2 := bt_at T t (by omega)
            simp only [Nat.add_sub_cancel] at h1 h2
            have htl : t < T.size := by omega
            have n1 : ((bt T t : Int) == 32) = false := by simp; omega
            have n2 : ((bt T t : Int) == 10) = false := by simp; omega
            have m1 : ¬ (bt T t : Int) = 32 := by omega
            have m2 : ¬ (bt T t : Int) = 10 := by omega
            generalize bt T t = d at *
            clear hbl hse h35
            rcases hb with hb | hb
            · rw [hb] at e
              clear hb
              go_wp2_with fail
              go_round
              case rel => exact ⟨t + 2, by omega, by go_num⟩
              case measure => simp [intOf] <;> omega
            · rw [hb] at e
              clear hb
              go_wp2_with fail
              go_round
              case rel => exact ⟨t + 2, by omega, by go_num⟩
              case measure => simp [intOf] <;> omega
          · have n1 : ¬ (bt T k : Int) = 32 := by omega
            have n2 : ¬ (bt T k : Int) = 10 := by omega
            have n3 : ¬ (bt T k : Int) = 35 := by omega
            have n4 : ¬ (bt T k : Int) < 32 := by omega
            have n5 : ¬ (126 : Int) < (bt T k : Int) := by omega
            generalize bt T k = c at *
            clear hbl hse h35 hb
            go_wp2_with fail
            go_round
            case rel => exact ⟨k + 1, by omega, by go_num⟩
            case measure => simp [intOf] <;> omega
        · obtain rfl : k = T.size := by omega
          have hpos := hT.out.pos
          have hl := hT.out.last
          obtain ⟨t, ht⟩ : ∃ t, T.size = t + 1 := ⟨T.size - 1, by omega⟩
          rw [show T.size - 1 = t by omega] at hl
          have e := bt_at T t (by omega)
          rw [hl] at e
          clear hl
          have ep : (0 : Int) < (T.size : Int) := by omega
          go_wp2_with fail
          go_ret
          exact ⟨rfl, hB03.out⟩
    · have hB03 := Lib.hid (hB02.out.trans (hB3.mono hB02.out.size))
      clear CS rg hql K2 hB3 hok hB02
      go_wp2_with fail
      go_ret
      exact ⟨rfl, hB03.out⟩
  · clear CG rg hql
    go_wp2_with fail
    go_ret
    exact ⟨rfl, hB01.out.trans (hB2.mono hB01.out.size)⟩

theorem own : ownKnob Tryz.prog.godebug = none := by kernel_rfl
set_option maxRecDepth 100000 in
theorem lifted (os : Os) (started : os.Started) (H : Type) (enc : TypeId × Value → H) :
    ReturnsInHanded {} Tryz.checked os 6 .any (fun w args => (Rows.printBytesSpec.pre enc Tryz.prog Tryz.f6 [] false w args ∧ laidMetH Tryz.prog Rows.printBytesRow.laid w) ∧ sizedMet enc Tryz.prog Tryz.f6 (OpenSpec.ofChange Rows.printBytesSpec) false w args)
      (Rows.printBytesSpec.post enc Tryz.prog Tryz.f6 false true false false) := by
  refine returnsInHanded_of_calls (C := Tryz.checked) own started (by kernel_rfl)
    (ChangeSpec.witness_shaped (enc := enc) (C := Tryz.checked) (os := os) (X := fun w _ => laidMetH Tryz.prog Rows.printBytesRow.laid w) false (World.laidAll Tryz.prog os Rows.printBytesRow.laid) #[.agg scZ] 12 (World.laidAll_os _ _ _)
      (World.shaped_of_ZipB (by kernel_rfl) (by kernel_rfl)) (by kernel_rfl) (by kernel_rfl) (by kernel_rfl)
      (by rw [MakeChecks.laidMetH_plain _ _ _ (by kernel_rfl)]; exact laidMet_laidAll _ (by kernel_rfl) (by kernel_rfl))) ?_
  rintro w tape ⟨vars, args, fns⟩ _ hsh _ ⟨_, _, _, fn, hfn, _, _, _, _, hval⟩ ⟨⟨⟨ds, gs, before, hw, _⟩, hx⟩, ⟨_, ds2, gs2, before2, hw2, hwt⟩⟩ _
  obtain rfl := Option.some.inj (Tryz.func6.symm.trans hfn)
  have hW := DataW.Whole.of_heap (w' := w.forCall tape ⟨vars, args, fns⟩) (by rfl) hw
  have hW2 := DataW.Whole.of_heap (w' := w.forCall tape ⟨vars, args, fns⟩) (by rfl) hw2
  have hL := laidMetH.of_heap (w' := w.forCall tape ⟨vars, args, fns⟩) (by rfl) hx
  rw [MakeChecks.laidMetH_plain _ _ _ (by kernel_rfl)] at hL
  have ht : Tabs7 (w.forCall tape ⟨vars, args, fns⟩) := tabs7_of (by unfold Rows.printBytesRow; simp) (by unfold Rows.printBytesRow; simp) hL hsh
  generalize w.forCall tape ⟨vars, args, fns⟩ = W at *
  have hW' := hW
  obtain ⟨p, q, hA0, hV, rfl, hfz, hnd⟩ := hW
  have hA : DataW.TrodAll enc Tryz.prog W 0 (fun _ => true) true Tryz.f6.params.toList args.toList ds p := hA0
  rw [Tryz.params6] at hA hval
  obtain ⟨v0, vs0, d0, ds0, p0, q0, hargs, rfl, rfl, h0, r0⟩ := trodAll_cons hA
  obtain ⟨rfl, rfl, rfl⟩ := trodAll_nil r0
  obtain rfl : args = #[v0] := by cases args; simp_all
  obtain ⟨p2, q2, hA2, _⟩ := hW2
  have hA3 : DataW.TrodAll enc Tryz.prog W 0 (fun _ => true) true Tryz.f6.params.toList [v0] ds2 p2 := hA2
  rw [Tryz.params6] at hA3
  obtain ⟨v1, vs1, d1, ds1, p1, q1, hargs1, rfl, rfl, h1, r1⟩ := trodAll_cons hA3
  obtain ⟨rfl, rfl, rfl⟩ := trodAll_nil r1
  obtain rfl : v0 = v1 := by simpa using hargs1
  obtain ⟨cs, rfl, hsz⟩ := okWide_struct Tryz.underlying34 (hval 0 34 _ rfl rfl)
  rw [szSc] at hsz
  obtain ⟨fu, hfu⟩ := h1
  have hTW : TW enc Tryz.prog W 0 (fun _ => true) true 34 cs.toList := by
    refine ⟨fu, _, hfu, fun n hn => ?_⟩
    have := List.all_eq_true.1 hwt n (DataW.weights_mem_each (j := 0) (t := 34) (d := d1) (by rw [Tryz.params6]; rfl) rfl n hn)
    simpa using this
  obtain ⟨gs3, aL, aM, aT, aS, aC, cL, cM, cT, cS, cC, hraw, hc1, hc2, h19, h20, h21, h22, h23⟩ := open_Scene (by simpa using hsz) hTW
  have hSA : SceneA W gs3 cs := ⟨aL, aM, aT, aS, aC, cL, cM, cT, cS, cC, hraw, hsz, fun i hi => by simpa using hc1 i hi, fun i hi => by simpa using hc2 i hi, by simpa using h19, by simpa using h20, by simpa using h21, by simpa using h22, by simpa using h23⟩
  refine (walk W gs3 cs hSA ht).mono fun e W' ⟨he, hb⟩ => ?_
  subst he
  exact ChangeSpec.post_blind (law_post (tb := 4) (by kernel_rfl) (by kernel_rfl) rfl rfl Tryz.underlying4 rfl rfl rfl hW' hb)

theorem row : Rows.printBytesRow.holds Tryz.pinned (OpenSpec.ofChange Rows.printBytesSpec) :=
  OpenClaim.holds_of_wide 6 Tryz.f6 rfl rfl rfl rfl rfl rfl rfl ⟨rfl, rfl, rfl, rfl, rfl⟩ rfl rfl rfl rfl rfl (by kernel_rfl) Tryz.func6 (by kernel_rfl)
    (of_decide_eq_true (by kernel_rfl)) (by unfold Func.isWrapper; first | (rw [if_pos (by decide +kernel)]; kernel_rfl) | (rw [if_neg (by decide +kernel)]; exact ⟨rfl, rfl⟩))
    (fun os started H enc _ => lifted os started H enc)

theorem proved : Rows.PrintBytesCardSaid :=
  Claim7.holds_tied_plain_at .later [] [.data, .data, .data, .data, .listed, .data, .pinned] true _ _ row (fun _ h => by cases h) (by kernel_rfl) (fun _ h => by cases h) printBytes_row_tie rfl ⟨rfl, rfl⟩ (by kernel_rfl) rfl
    (fun f fn hf hfn => by
      obtain rfl : f = 6 := Option.some.inj ((show Tryz.prog.funcNamed "relievo/relievolaw07.PrintBytes" = some 6 by kernel_rfl).symm.trans hf) |>.symm
      obtain rfl : fn = Tryz.f6 := (Option.some.inj (Tryz.func6.symm.trans hfn)).symm
      exact ⟨by kernel_rfl, fun j t hj => by
        have hm : t ∈ Tryz.f6.params.toList := by
          have := Array.mem_of_getElem? hj
          simpa using this
        have hall : (Tryz.f6.params.toList.all fun u => !Tryz.prog.wantsStandIn u) = true := by kernel_rfl
        exact (show Tryz.prog.wantsStandIn t = false by simpa using List.all_eq_true.1 hall t hm)⟩)
    (by kernel_rfl)
#print axioms proved
end Go.Proofs.YtdkgbdecmgligaaGreatDoor.printBytes
