/- The program's own scene: a text is read, the walk. -/
import Derived.Test.YtdkgbdecmgligaaGreatDoorMScnQG
import Derived.Test.YtdkgbdecmgligaaGreatDoorLexT
import Derived.Test.YtdkgbdecmgligaaGreatDoorLexS
import Derived.Test.YtdkgbdecmgligaaGreatDoorMRegion
import Derived.Deep.RegionHeld3
import Derived.Great.BuildSlice
namespace Go.Proofs.YtdkgbdecmgligaaGreatDoor
open Go.RowKit
set_option linter.unusedVariables false
set_option linter.unusedSimpArgs false
set_option linter.unnecessarySimpa false

set_option maxRecDepth 100000 in
set_option maxHeartbeats 4000000 in
theorem parse_any (w : World) (s : ByteArray) (hs : s.size ≤ 65536) (ht : Tabs w) :
    Calls Tryz.prog 11 #[.string s] w fun e w' => parsePost w s.data.toList e w' := by
  have HB1 : Below w.heap.size w (w.alloc (.cells scZ 34)) := bel_alloc (Below.refl _ _) _
  have KR : Blk (w.alloc (.cells scZ 34)) w.heap.size 34 scZ := Blk.new _ _ _ _ rfl
  have HT := Lib.hid (lLines_any (w.alloc (.cells scZ 34)) s hs (ht.below HB1))
  clear ht
  go_enter Tryz.func11, Tryz.ntmps11
  go_upto_region 2 with (first | (refine wpList_val rfl _ _ (alloc_Scene _ _ rfl _) ?_) | (go_at_call 19; (refine HT.out.mono ?_); rintro e W0 hp; obtain ⟨hB0, hp⟩ := lines_or hp; rcases hp with ⟨no, hL, rfl⟩ | ⟨A, c, ls, hL, rfl, hLN⟩))
  · have BR := KR.below hB0
    have HBw : Below w.heap.size w W0 := bel_trans HB1 hB0
    replace HBw := Lib.hid HBw
    have HP := Lib.hid (show sceneT s.data.toList = .error (no, 10) by unfold sceneT; rw [hL])
    clear KR hL HB1 hB0 HT
    go_wp2_with (first | (refine wpList_val rfl _ _ (build_Scene _ _ rfl _) ?_) | (refine wpList_store_rowTo rfl 34 _ _ rfl rfl w.heap.size (scZ) rfl rfl 34 scZ BR infoSc rfl scZ_one ?_))
    refine bodyPost_ret (v := .tuple #[.agg scZ, .int .i64 (no : Int), .int .i64 10]) (res_scene _ _ scZ _ _ _ (BR.setRow scZ) rfl rfl rfl rfl) rfl ⟨bel_setRow HBw.out (Nat.le_refl _) _, ?_⟩
    rw [HP.out]
    rfl
  · have BR := KR.below hB0
    have HBw : Below w.heap.size w W0 := bel_trans HB1 hB0
    have hRl : w.heap.size < W0.heap.size := BR.lt
    have hlen := own_max hLN.1
    have HO := Lib.hid (show sceneT s.data.toList = match runS scn0 (outW ls) with | .error e => .error e | .ok sc => if sc.cam.isSome then .ok sc else .error (0, 15) by unfold sceneT; rw [hL, outW_of rfl]; rfl)
    have HR0 := repV_new2 W0
    have HW1 : Below W0.heap.size W0 (W0.alloc (.cells (rcells scn0 fun _ => vNil) 70)) := bel_alloc (Below.refl _ _) _
    clear KR hL HB1 hB0 HT hs hp
    replace HBw := Lib.hid HBw
    replace hLN := Lib.hid hLN
    replace BR := Lib.hid BR
    obtain ⟨g, hg⟩ : ∃ g, g = W0.heap.size := ⟨_, rfl⟩
    rw [← hg] at HR0 HW1 hRl
    go_upto_block 0 with (refine wpList_val rfl _ _ (alloc_reader _ _ rfl _) ?_)
    rw [← hg]
    generalize W0.alloc (.cells (rcells scn0 fun _ => vNil) 70) = W1 at *
    replace hg := Lib.hid hg
    go_wp2_with fail
    go_loopw [25] (fun i wr => ∃ (k : Nat) (sc : Scn) (val : Key → Value), i = .int .i64 (k : Int) ∧ k ≤ ls.length ∧ Hid (runS scn0 ((outW ls).take k) = .ok sc) ∧ Hid (InvT sc) ∧ Hid (RepV g wr g 70 sc val) ∧ Hid (Below g W0 wr)) (fun i _ => ls.length - (intOf i).toNat)
    case atStart => exact ⟨0, scn0, fun _ => vNil, rfl, by omega, Lib.hid rfl, Lib.hid invT0, Lib.hid HR0, Lib.hid HW1⟩
    case round =>
      obtain ⟨k, sc, val, rfl, hk, hrun, hinv, hR, hbw⟩ := hrel
      clear HR0 HW1
      by_cases hlt : k < ls.length
      · obtain ⟨cw, ws, hq⟩ : ∃ cw ws, (ls[k]).words = cw :: ws := by
          have h0 := (hLN.out.2 ls[k] (List.getElem_mem hlt)).1
          cases q : (ls[k]).words with
          | nil => rw [q] at h0; simp at h0
          | cons a b => exact ⟨a, b, rfl⟩
        obtain ⟨ws1, ws2, _, ws4⟩ := hLN.out.2 ls[k] (List.getElem_mem hlt)
        obtain ⟨b2, c2, hat, hc2, hb2⟩ := own_cap ws4 ws1
        obtain ⟨bl, hA, hbl⟩ : ∃ bl, A = some ⟨bl, 0, none⟩ ∧ bl < W0.heap.size := by
          rcases hLN.out.1.2 with ⟨_, q⟩ | ⟨b, cp, cur, q1, q2, q3, _⟩
          · omega
          · cases q1; exact ⟨b, rfl, (Array.getElem?_eq_some_iff.1 q3).1⟩
        subst hA
        have hbw' : Below W0.heap.size W0 wr := by rw [← hg.out]; exact hbw.out
        obtain ⟨l1, l2⟩ := lnC_get ls k hlt
        have d0 : wr.cell? ⟨bl, k * 2, none⟩ = some (.int .i64 ((ls[k]).no : Int)) := (hbw'.cell (p := ⟨bl, k * 2, none⟩) hbl).trans ((hLN.out.1.cellAt (k * 2) (by omega)).trans l1)
        have d1 : wr.cell? ⟨bl, k * 2 + 1, none⟩ = some (.slice (some ⟨b2, 0, none⟩) (ws.length + 1) c2) := (hbw'.cell (p := ⟨bl, k * 2 + 1, none⟩) hbl).trans ((hLN.out.1.cellAt (k * 2 + 1) (by omega)).trans (by rw [l2, hat, hq]; rfl))
        have hSF : SFW W0 (some ⟨b2, 0, none⟩) (cw :: ws) := by
          rw [hat, hq] at ws4
          exact SFW_of_own ws4 rfl
        have hRl2 := hR.out.lt
        have hblr : bl < wr.heap.size := Nat.lt_of_lt_of_le hbl hbw'.size
        have k0 : (0 : Int) ≤ (k : Int) := by omega
        have k1 : (k : Int) < (ls.length : Int) := by omega
        have CR := Lib.hid (fun (W : World) (hb : Below wr.heap.size wr W) => pread W g ws.length c2 b2 0 70 (by decide) sc val cw ws rfl (by rw [hq] at ws2; simp at ws2; omega) (by rw [hq] at hc2; simpa using hc2) (hSF.below (hbw'.trans (hb.mono hbw'.size))) (hR.out.below hb) hinv.out)
        have HL := Lib.hid (show (outW ls)[k]? = some ((ls[k]).no, cw :: ws) by unfold outW; simp [hlt, hq])
        have HN := Lib.hid (show ∀ kk, lineF sc (cw :: ws) = .error kk → runS scn0 (outW ls) = .error ((ls[k]).no, kk) from fun kk he => by
          have e := (List.take_append_drop k (outW ls)).symm
          have hl : k < (outW ls).length := by unfold outW; simpa using hlt
          rw [e, List.drop_eq_getElem_cons hl]
          have e2 : (outW ls)[k] = ((ls[k]).no, cw :: ws) := by
            have := HL.out; rw [List.getElem?_eq_getElem hl] at this; injection this
          rw [e2]
          exact runS_stop hrun.out he)
        have HS := Lib.hid (show ∀ sc', lineF sc (cw :: ws) = .ok sc' → runS scn0 ((outW ls).take (k + 1)) = .ok sc' from fun sc' he => by
          have hl : k < (outW ls).length := by unfold outW; simpa using hlt
          have e2 : (outW ls)[k] = ((ls[k]).no, cw :: ws) := by
            have := HL.out; rw [List.getElem?_eq_getElem hl] at this; injection this
          rw [List.take_succ_eq_append_getElem hl, e2, runS_snoc, hrun.out]
          simp only [he])
        generalize (ls[k]).no = lno at *
        clear hSF ws1 ws2 ws4 hc2 hb2 l1 l2 hat hq HL
        go_upto_region 9 with (go_at_call 20; (with_reducible refine Calls.mono (CR.out _ ?_) ?_); exact (by repeat (first | with_reducible exact Below.refl _ _ | with_reducible refine bel_then ?_ _ | with_reducible refine bel_grow ?_ _ | with_reducible refine bel_alloc ?_ _ | with_reducible refine bel_drew ?_ | with_reducible refine bel_set ?_ (by simp) _ | with_reducible refine bel_setRow ?_ (by first | omega | (simp; done)) _)); rintro e W2 hp; obtain ⟨hB2, hp⟩ := readP_or hp; rcases hp with ⟨kk, hr, rfl, hfb⟩ | ⟨sc', val', hr, rfl, hR'⟩)
        · have hkk := line_err hr
          have hkz : ((kk : Int) == 0) = false := by simp; omega
          have hkz2 : ¬ (kk : Int) = 0 := by omega
          have hE := Lib.hid (show sceneT s.data.toList = .error (lno, kk) by rw [HO.out, HN.out kk hr])
          have KL : Blk W2 wr.heap.size 73 #[.int .i64 (lno : Int), .slice (some ⟨b2, 0, none⟩) (ws.length + 1) c2] := (Blk.new _ _ _ _ rfl).below hfb
          have kl0 : W2.cell? ⟨wr.heap.size, 0, none⟩ = some (.int .i64 (lno : Int)) := KL.cell 0
          have hb2g : Below g W0 W2 := hbw.out.trans (((bel_alloc (Below.refl _ _) _).mono (Nat.le_of_lt hRl2)).trans hB2)
          have BR2 : Blk W2 w.heap.size 34 scZ := (hb2g.block _ hRl).trans BR.out
          have HB2 : Below w.heap.size w W2 := HBw.out.trans (hb2g.mono (Nat.le_of_lt hRl))
          have hrk : wr.heap.size ≠ w.heap.size := by have := hbw'.size; omega
          replace HB2 := Lib.hid HB2
          have kl3 : (W2.setRow w.heap.size scZ).cell? ⟨wr.heap.size, 0, none⟩ = some (.int .i64 (lno : Int)) := (KL.farRow scZ (Ne.symm hrk)).cell 0
          replace kl3 := Lib.hid kl3
          clear hb2g KL hB2 hfb hbw hR hrun CR HN HS hkk
          go_wp2_with fail
          refine wp_region_held (S := fun w' => w'.cell? ⟨wr.heap.size, 0, none⟩ = some (.int .i64 (lno : Int)) ∧ ∃ d : Nat, w' = { W2 with drawn := d } ∨ w' = { W2.setRow w.heap.size scZ with drawn := d }) (by kernel_rfl) ?_
          refine wpAnyH_take (i := 0) (v := .agg scZ) rfl (by kernel_rfl) (by kernel_rfl) (by kernel_rfl) (fun _ _ _ h => h) (.inl ⟨rfl, fun w _ => build_Scene _ _ rfl w⟩) ⟨kl0, _, .inl rfl⟩ ?_
          refine wpAnyH_take (i := 1) (v := .pointer (some ⟨wr.heap.size, 0, none⟩)) rfl (by kernel_rfl) (by kernel_rfl) (by kernel_rfl) (fun _ _ _ h => h) (.inl ⟨rfl, fun w _ => by simp [execOp, go_sem, Act.put]⟩) ⟨kl0, _, .inl rfl⟩ ?_
          refine wpAnyH_take (i := 2) (v := .int .i64 (lno : Int)) rfl (by kernel_rfl) (by kernel_rfl) (by kernel_rfl) (fun _ _ _ h => h) (.inl ⟨rfl, fun w hS => by simp [execOp, go_sem, Act.put, hS.1]⟩) ⟨kl0, _, .inl rfl⟩ ?_
          refine wpAnyH_take (i := 3) (v := .int .i64 (kk : Int)) rfl (by kernel_rfl) (by kernel_rfl) (by kernel_rfl) (fun _ _ _ h => h) (.inl ⟨rfl, fun w _ => by simp [execOp, go_sem, Act.put]⟩) ⟨kl0, _, .inl rfl⟩ ?_
          refine wpAnyH_store (i := 4) (by kernel_rfl) rfl rfl ((storeS_row (P := Tryz.prog) 34 scZ scZ (.tmp 2) (.tmp 34) rfl rfl rfl rfl rfl infoSc rfl scZ_one).2.2 _ BR2) ⟨?_, _, .inr rfl⟩ ?_
          · exact kl3.out
          refine wpAnyH_take (i := 5) (v := .int .i64 (lno : Int)) rfl (by kernel_rfl) (by kernel_rfl) (by kernel_rfl) (fun _ _ _ h => h) (.inl ⟨rfl, fun w _ => by simp [execOp, go_sem, Act.put]⟩) ⟨kl3.out, _, .inr rfl⟩ ?_
          refine wpAnyH_take (i := 6) (v := .int .i64 (kk : Int)) rfl (by kernel_rfl) (by kernel_rfl) (by kernel_rfl) (fun _ _ _ h => h) (.inl ⟨rfl, fun w _ => by simp [execOp, go_sem, Act.put]⟩) ⟨kl3.out, _, .inr rfl⟩ ?_
          refine wpAnyH_done (by kernel_rfl) ?_ _
          go_wp2_with fail
          refine bodyPost_ret (v := .tuple #[.agg scZ, .int .i64 (lno : Int), .int .i64 (kk : Int)]) (res_scene _ _ scZ _ _ _ (BR2.setRow scZ) rfl rfl rfl rfl) rfl ⟨?_, by rw [hE.out]⟩
          have hb := bel_setRow HB2.out (Nat.le_refl w.heap.size) scZ
          exact ⟨hb.os, hb.tape, hb.output, hb.size, hb.block⟩
        · go_wp2_with fail
          go_roundw
          case rel => exact ⟨k + 1, sc', val', by go_num, by omega, Lib.hid (HS.out sc' hr), Lib.hid (invT_line hr hinv.out), Lib.hid hR', Lib.hid (hbw.out.trans (((bel_alloc (Below.refl _ _) _).mono (Nat.le_of_lt hRl2)).trans hB2))⟩
          case measure => simp [intOf] <;> omega
      · obtain rfl : k = ls.length := by omega
        have hRb : Below g W0 wr := hbw.out
        have BRr : Blk wr w.heap.size 34 scZ := (hRb.block _ hRl).trans BR.out
        have HBr : Below w.heap.size w wr := HBw.out.trans (hRb.mono (Nat.le_of_lt hRl))
        have hrun2 : runS scn0 (outW ls) = .ok sc := by
          have e : (outW ls).take ls.length = outW ls := List.take_of_length_le (by unfold outW; simp)
          rw [← e]; exact hrun.out
        have HO2 := Lib.hid (show sceneT s.data.toList = if sc.cam.isSome then .ok sc else .error (0, 15) by rw [HO.out, hrun2])
        have c24 : wr.cell? ⟨g, 24, none⟩ = some (.bool sc.cam.isSome) := hR.out.blk.cell 24
        have hrg : wr.rangeAt g 0 (sceneV sc val).toList := hR.out.range
        have hone := hR.out.one
        have hgl := hR.out.lt
        have hRg : w.heap.size ≠ g := by omega
        replace HBr := Lib.hid HBr
        clear hRb hrun hrun2 hbw HO BR HBw
        cases hcam : sc.cam.isSome
        · rw [hcam] at c24
          go_wp2_with (first | (refine wpList_val rfl _ _ (build_Scene _ _ rfl _) ?_) | (refine wpList_store_rowTo rfl 34 _ _ rfl rfl w.heap.size (scZ) rfl rfl 34 scZ BRr infoSc rfl scZ_one ?_))
          refine bodyPost_ret (v := .tuple #[.agg scZ, .int .i64 0, .int .i64 15]) (res_scene _ _ scZ _ _ _ (BRr.setRow scZ) rfl rfl rfl rfl) rfl ⟨bel_setRow HBr.out (Nat.le_refl _) _, ?_⟩
          rw [HO2.out, hcam]
          rfl
        · rw [hcam] at c24
          have hstore : Blk wr w.heap.size 34 scZ := BRr
          go_wp2_with (first | (refine wpList_load_mid rfl 34 _ rfl g 0 rfl (sceneV sc val).toList _ hrg Tryz.underlying34 rfl infoSc ?_) | (refine wpList_store_rowTo rfl 34 _ _ rfl rfl w.heap.size ((sceneV sc val).toList.toArray) rfl rfl 34 scZ BRr infoSc rfl hone ?_))
          refine bodyPost_ret (v := .tuple #[.agg (sceneV sc val), .int .i64 0, .int .i64 0]) (res_scene _ _ (sceneV sc val) _ _ _ (BRr.setRow _) rfl rfl rfl rfl) rfl ⟨bel_setRow HBr.out (Nat.le_refl _) _, ?_⟩
          rw [HO2.out, hcam]
          exact ⟨g, val, rfl, Nat.le_of_lt hRl, hR.out.asideRow BRr⟩

end Go.Proofs.YtdkgbdecmgligaaGreatDoor
