/- SceneCages holds for every input: the row, out of the walk; the card, tied. No condition but the row's own: the listed tables of the library read as the program's text lays them. -/
import Derived.Test.YtehmlofhiffanaaDoorRows
import Derived.Test.YtehmlofhiffanaaDoorCards
import Derived.Test.YtehmlofhiffanaaDoorTie
import Derived.Test.YtehmlofhiffanaaDoorTabsOf
import Derived.Test.YtehmlofhiffanaaDoorMScnL
import Derived.Test.YtehmlofhiffanaaDoorOpenS
import Derived.Test.YtehmlofhiffanaaDoorPost
import Derived.LaidMore
import Derived.Lay
import Derived.SevenTiedAt
namespace Go.Proofs.YtehmlofhiffanaaDoor.sceneCages
open Go.ChangeShapes Go.WideShapes Go.ChangeAt Go.RowKit
set_option linter.unusedVariables false
set_option linter.unusedSimpArgs false
set_option linter.unnecessarySimpa false
def hcnt (x : Wd) (l : List Ln) : Nat := cnt x (outW l)
theorem cnt_app (x : Wd) (a b : List (Nat × List Wd)) : cnt x (a ++ b) = cnt x a + cnt x b := by unfold cnt; simp
theorem cnt_le (x : Wd) (a : List (Nat × List Wd)) : cnt x a ≤ a.length := by unfold cnt; exact List.length_filter_le _ _
theorem hcnt_snoc (x : Wd) (ls : List Ln) (k : Nat) (h : k < ls.length) : hcnt x (ls.take (k + 1)) = hcnt x (ls.take k) + if (ls[k]).words.head? = some x then 1 else 0 := by
  unfold hcnt
  rw [List.take_succ_eq_append_getElem h]
  have e : outW (ls.take k ++ [ls[k]]) = outW (ls.take k) ++ [((ls[k]).no, (ls[k]).words)] := by unfold outW; rw [List.map_append]; rfl
  rw [e, cnt_app]
  congr 1
  rw [cnt_cons]
  simp [cnt]
theorem hcnt_le (x : Wd) (l : List Ln) : hcnt x l ≤ l.length := by
  have := cnt_le x (outW l)
  unfold hcnt
  unfold outW at *
  simpa using this
theorem lawS : Maps.Keyed Tryd.prog 9 := Maps.string_keyed Tryd.underlying9
theorem zeroI (w : World) : (zeroValue 3).run Tryd.prog w = .ok (.int .i64 0) w := by kernel_rfl
/-- A map that the call has made: words and how often. -/
def MapIs (W : World) (B k : Nat) (f : Wd → Nat) : Prop := ∃ D : DataW Unit, W.ownsMap Tryd.prog 9 (plainElem Tryd.prog 3) B k D ∧ ∀ x, D.atKey (.string x) (.lit (.int .i64 0)) = .lit (.int .i64 (f x : Int))
theorem MapIs.look {W : World} {B k : Nat} {f : Wd → Nat} (h : MapIs W B k f) (s : ByteArray) (hs : s.size ≤ maxLen) : (Instr.lookup 55 (.map (some B)) (.string s) false).run Tryd.prog W = .ok (.int .i64 (f s.data.toList : Int)) W := by
  obtain ⟨D, ho, hf⟩ := h
  obtain ⟨c, hr, ha, _⟩ := ho.lookup_int lawS Tryd.underlying55 Tryd.underlying3 (zeroI _) (WideMaps.keyOf_string_mk Tryd.underlying9 hs)
  have e := ha.symm.trans (hf s.data.toList)
  simp only [DataW.lit.injEq, Lit.int.injEq, true_and] at e
  rw [e] at hr
  exact hr
theorem sumOf_take (f : CageM → Nat) (l : List CageM) (k : Nat) (h : k < l.length) : sumOf f (l.take (k + 1)) = sumOf f (l.take k) + f l[k] ∧ sumOf f (l.take k) + f l[k] ≤ sumOf f l := by
  have e1 : sumOf f (l.take (k + 1)) = sumOf f (l.take k) + f l[k] := by
    rw [List.take_succ_eq_append_getElem h, sumOf_app]
    simp [sumOf]
  refine ⟨e1, ?_⟩
  rw [← e1]
  have := sumOf_app f (l.take (k + 1)) (l.drop (k + 1))
  rw [List.take_append_drop] at this
  omega
theorem lines_res (w : World) (s : ByteArray) (hs : s.size ≤ 65536) (ht : Tabs w) : Calls Tryd.prog 11 #[.string s] w fun e w' => ∃ (v : Value) (n k : Int), e = .returned (.tuple #[v, .int .i64 n, .int .i64 k]) ∧ Below w.heap.size w w' := by
  refine (lLines_any w s hs ht).mono ?_
  rintro e w' hp
  obtain ⟨hb, ⟨n, _, rfl⟩ | ⟨A, c, ls, _, rfl, _⟩⟩ := lines_or hp
  · exact ⟨_, _, _, rfl, hb⟩
  · exact ⟨_, _, _, rfl, hb⟩
theorem sceneT_ok {l : List UInt8} {sc : Scn} (h : sceneT l = .ok sc) : ∃ o, linesP 1 [] (spl l) = .ok o ∧ sceneF (toW o) = .ok sc := by
  unfold sceneT at h
  cases q : linesP 1 [] (spl l) with
  | error n => rw [q] at h; cases h
  | ok o => rw [q] at h; exact ⟨o, rfl, h⟩
theorem runS_err : ∀ (l : List (Nat × List Wd)) (sc : Scn) (n k : Nat), runS sc l = .error (n, k) → 10 ≤ k
  | [], sc, n, k, h => by unfold runS at h; cases h
  | q :: l, sc, n, k, h => by
    unfold runS at h
    cases e : lineF sc q.2 with
    | error j => rw [e] at h; injection h with h; injection h with _ h; subst h; exact (line_err e).1
    | ok s2 => rw [e] at h; exact runS_err l s2 n k h
theorem sceneT_err {l : List UInt8} {n k : Nat} (h : sceneT l = .error (n, k)) : 10 ≤ k := by
  unfold sceneT at h
  cases q : linesP 1 [] (spl l) with
  | error m => rw [q] at h; injection h with h; injection h with _ h; omega
  | ok o =>
    rw [q] at h
    simp only at h
    unfold sceneF at h
    cases r : runS scn0 (toW o) with
    | error m =>
      rw [r] at h
      injection h with h
      rw [h] at r
      exact runS_err _ _ _ _ r
    | ok s2 =>
      rw [r] at h
      simp only at h
      split at h
      · cases h
      · injection h with h; injection h with _ h; omega
theorem sceneF_run {l : List (Nat × List Wd)} {sc : Scn} (h : sceneF l = .ok sc) : runS scn0 l = .ok sc ∧ sc.cam.isSome = true := by
  unfold sceneF at h
  cases q : runS scn0 l with
  | error n => rw [q] at h; cases h
  | ok s2 =>
    rw [q] at h
    simp only at h
    split at h
    · rename_i hc
      injection h with h
      subst h
      exact ⟨rfl, hc⟩
    · cases h
theorem cages_counts {l : List (Nat × List Wd)} {sc : Scn} (h : sceneF l = .ok sc) : cnt kCamera l = 1 ∧ cnt kLight l = sc.lights.length ∧ cnt kTexture l = sc.texs.length ∧ cnt kMaterial l = sc.mats.length ∧ cnt kCage l = sc.cages.length ∧ cnt kV l = sumOf (fun c => c.verts.length) sc.cages ∧ cnt kF l = sumOf (fun c => c.faces.length) sc.cages ∧ cnt kCrease l = sumOf (fun c => c.creases.length) sc.cages := by
  obtain ⟨hr, hc⟩ := sceneF_run h
  have h1 := cnt_camera _ _ _ hr
  have h2 := cnt_light _ _ _ hr
  have h3 := cnt_texture _ _ _ hr
  have h4 := cnt_material _ _ _ hr
  have h5 := cnt_cage _ _ _ hr
  have h6 := cnt_parts kV (fun c => c.verts.length) rfl (.inl rfl) (fun c n => by simp) (fun c n => by simp [kV, kF]) (fun c n => by simp [kV, kCrease]) _ _ _ hr
  have h7 := cnt_parts kF (fun c => c.faces.length) rfl (.inr (.inl rfl)) (fun c n => by simp [kV, kF]) (fun c n => by simp) (fun c n => by simp [kF, kCrease]) _ _ _ hr
  have h8 := cnt_parts kCrease (fun c => c.creases.length) rfl (.inr (.inr rfl)) (fun c n => by simp [kV, kCrease]) (fun c n => by simp [kF, kCrease]) (fun c n => by simp) _ _ _ hr
  rw [hc] at h1
  have z : ∀ f : CageM → Nat, sumOf f scn0.cages = 0 := fun f => rfl
  rw [z] at h6 h7 h8
  simp [scn0] at h1 h2 h3 h4 h5
  exact ⟨by omega, by omega, by omega, by omega, by omega, by omega, by omega, by omega⟩
set_option maxRecDepth 100000 in
set_option maxHeartbeats 4000000 in
theorem walk_big (w : World) (s : ByteArray) (h1 : 8000 < s.size) (ht : Tabs w) : Calls Tryd.prog 6 #[.string s] w fun e w' => e = .returned (.bool true) ∧ Below w.heap.size w w' := by
  have cA := alive6_any w ht
  have h' : (8000 : Int) < (s.size : Int) := by omega
  go_enter Tryd.func6, Tryd.ntmps6
  go_wp2_with (first | (go_at_call 7; (with_reducible refine Calls.mono cA ?_); rintro e w1 ⟨rfl, hb1⟩))
  go_ret
  exact ⟨rfl, (by repeat (first | with_reducible exact Below.refl _ _ | with_reducible assumption | with_reducible refine bel_then ?_ _ | with_reducible refine bel_grow ?_ _ | with_reducible refine bel_alloc ?_ _ | with_reducible refine bel_drew ?_))⟩
set_option maxRecDepth 100000 in
set_option maxHeartbeats 4000000 in
theorem walk_e (w : World) (s : ByteArray) (h' : (s.size : Int) ≤ 8000) (ht : Tabs w) (n k : Nat) (hk : 10 ≤ k) (hsc : sceneT s.data.toList = .error (n, k)) : Calls Tryd.prog 6 #[.string s] w fun e w' => e = .returned (.bool true) ∧ Below w.heap.size w w' := by
  have cA := alive6_any w ht
  have c1 : ∀ w : World, Tabs w → Calls Tryd.prog 8 #[.string s] w fun e w' => e = .returned (.tuple #[.agg scZ, .int .i64 (n : Int), .int .i64 (k : Int)]) ∧ Below w.heap.size w w' := fun w ht => by
    refine (parse_any w s (by omega) ht).mono ?_
    rintro e w' ⟨hb, hp⟩
    rw [hsc] at hp
    exact ⟨hp, hb⟩
  have c2 := Lib.hid (fun (w : World) (ht : Tabs w) => lines_res w s (by omega) ht)
  have e1 : ((k : Int) == 0) = false := by simp; omega
  have e2 : ¬ (k : Int) = 0 := by omega
  replace c1 := Lib.hid c1
  clear hsc hk
  go_enter Tryd.func6, Tryd.ntmps6
  go_upto_region 6 with (first | (go_at_call 7; (with_reducible refine Calls.mono cA ?_); rintro e w1 ⟨rfl, hb1⟩) | (go_at_call 8; (with_reducible refine Calls.mono (c1.out _ (ht.below hb1)) ?_); rintro e W1 ⟨rfl, hb2⟩) | (refine wpList_val rfl _ _ (alloc_Scene _ _ rfl _) ?_) | (refine wpList_store_rowTo rfl 35 _ _ rfl rfl W1.heap.size (scZ) rfl rfl 35 scZ (Blk.new _ _ _ _ rfl) infoSc rfl scZ_one ?_; rw [World.setRow_alloc_new]))
  have hW2 : Below W1.heap.size W1 (W1.alloc (.cells scZ 35)) := bel_alloc (Below.refl _ _) _
  generalize W1.alloc (.cells scZ 35) = W2 at *
  have h02' := hb1.trans ((hb2.trans (hW2.mono hb2.size)).mono hb1.size)
  have h02 := Lib.hid h02'
  have ht2 := ht.below h02'
  clear hW2 hb1 hb2 c1 cA h02'
  go_wp2_with (first | (go_at_call 11; (with_reducible refine Calls.mono (c2.out _ ht2) ?_); rintro e W3 ⟨v, n3, k3, rfl, hb3⟩))
  go_ret
  exact ⟨by simp, h02.out.trans (hb3.mono h02.out.size)⟩
set_option maxRecDepth 100000 in
set_option maxHeartbeats 8000000 in
theorem walk_o (w : World) (s : ByteArray) (h' : (s.size : Int) ≤ 8000) (ht : Tabs w) (sc : Scn) (hsc : sceneT s.data.toList = .ok sc) : Calls Tryd.prog 6 #[.string s] w fun e w' => e = .returned (.bool true) ∧ Below w.heap.size w w' := by
  have hmm := @run_makeMap Tryd.prog
  have cA := alive6_any w ht
  obtain ⟨o, ho, hF⟩ := sceneT_ok hsc
  obtain ⟨n1, n2, n3, n4, n5, n6, n7, n8⟩ := cages_counts hF
  have hlw := lines_words ho
  have hol : o.length ≤ 8001 := by
    have := linesP_len _ _ _ _ ho
    have := spl_count s.data.toList
    simp at *
    omega
  have c1 : ∀ w : World, Tabs w → Calls Tryd.prog 8 #[.string s] w fun e w' => ∃ g val, e = .returned (.tuple #[.agg (sceneV sc val), .int .i64 0, .int .i64 0]) ∧ Below w.heap.size w w' ∧ RepV g w' g 57 sc val := fun w ht => by
    refine (parse_any w s (by omega) ht).mono ?_
    rintro e w' ⟨hb, hp⟩
    rw [hsc] at hp
    obtain ⟨g, val, he, _, hR⟩ := hp
    exact ⟨g, val, he, hb, hR⟩
  have c2 : ∀ w : World, Tabs w → Calls Tryd.prog 11 #[.string s] w fun e w' => ∃ A c ls, e = .returned (.tuple #[.slice A ls.length c, .int .i64 0, .int .i64 0]) ∧ Below w.heap.size w w' ∧ LNS w' w.heap.size (.slice A ls.length c) ls ∧ outOf ls = o := fun w ht => by
    refine (lines_ok w s (by omega) ht ho).mono ?_
    rintro e w' ⟨v, ls, he, hb, hL, hO⟩
    obtain ⟨A, c, rfl⟩ := own_form hL.1
    exact ⟨A, c, ls, he, hb, hL, hO⟩
  replace c1 := Lib.hid c1
  replace c2 := Lib.hid c2
  replace hlw := Lib.hid hlw
  have hN := Lib.hid (And.intro n1 (And.intro n2 (And.intro n3 (And.intro n4 (And.intro n5 (And.intro n6 (And.intro n7 n8)))))))
  replace hol := Lib.hid hol
  clear hsc ho hF n1 n2 n3 n4 n5 n6 n7 n8
  go_enter Tryd.func6, Tryd.ntmps6
  go_upto_region 6 with (first | (go_at_call 7; (with_reducible refine Calls.mono cA ?_); rintro e w1 ⟨rfl, hb1⟩) | (go_at_call 8; (with_reducible refine Calls.mono (c1.out _ (ht.below hb1)) ?_); rintro e W1 ⟨g, val, rfl, hb2, hR⟩) | (refine wpList_val rfl _ _ (alloc_Scene _ _ rfl _) ?_) | (refine wpList_store_rowTo rfl 35 _ _ rfl rfl W1.heap.size (sceneV sc val) rfl rfl 35 scZ (Blk.new _ _ _ _ rfl) infoSc rfl hR.one ?_; rw [World.setRow_alloc_new]))
  have hW2 : Below W1.heap.size W1 (W1.alloc (.cells (sceneV sc val) 35)) := bel_alloc (Below.refl _ _) _
  have KB : Blk (W1.alloc (.cells (sceneV sc val) 35)) W1.heap.size 35 (sceneV sc val) := Blk.new _ _ _ _ rfl
  generalize W1.alloc (.cells (sceneV sc val) 35) = W2 at *
  have h02 := hb1.trans ((hb2.trans (hW2.mono hb2.size)).mono hb1.size)
  have ht2 := ht.below h02
  replace hR := hR.below hW2
  clear hW2 hb1 hb2 c1 cA
  replace h02 := Lib.hid h02
  replace hR := Lib.hid hR
  replace KB := Lib.hid KB
  go_upto_region 9 with (first | (go_at_call 11; (with_reducible refine Calls.mono (c2.out _ ht2) ?_); rintro e W3 ⟨A, c, ls, rfl, hb3, hL, hO⟩))
  have h03 := Lib.hid (h02.out.trans (hb3.mono h02.out.size))
  have hR3 := Lib.hid (hR.out.below hb3)
  have KB3 := Lib.hid (KB.out.below hb3)
  clear h02 hR KB hb3 ht2 c2
  replace hL := Lib.hid hL
  have hll : ls.length ≤ 8001 := by rw [← show (outOf ls).length = ls.length by unfold outOf; simp, hO]; exact hol.out
  have hWo := outW_of hO
  replace hWo := Lib.hid hWo
  clear hO
  go_upto_region 10 with fail
  have hm0 : MapIs (W3.alloc (.map #[] 0)) W3.heap.size 0 (fun x => hcnt x (ls.take 0)) := ⟨.map [], World.ownsMap_made _ _ _ _, fun x => rfl⟩
  have hb4 : Below W3.heap.size W3 (W3.alloc (.map #[] 0)) := bel_alloc (Below.refl _ _) _
  replace hm0 := Lib.hid hm0
  replace hb4 := Lib.hid hb4
  generalize W3.alloc (.map #[] 0) = W4 at *
  have d19 := KB3.out.cell 19
  have d20 := KB3.out.cell 20
  have d21 := KB3.out.cell 21
  have d23 := KB3.out.cell 23
  have hltB : W1.heap.size < W3.heap.size := KB3.out.lt
  replace d19 := Lib.hid d19
  replace d20 := Lib.hid d20
  replace d21 := Lib.hid d21
  replace d23 := Lib.hid d23
  go_wp2_with fail
  go_loopw [10] (fun i wr => ∃ k : Nat, i = .int .i64 (k : Int) ∧ k ≤ ls.length ∧ Hid (MapIs wr W3.heap.size k (fun x => hcnt x (ls.take k))) ∧ Hid (Below W3.heap.size W3 wr)) (fun i _ => ls.length - (intOf i).toNat)
  case atStart => exact ⟨0, rfl, by omega, hm0, hb4⟩
  case round =>
    obtain ⟨k, rfl, hk, hmap, hbw⟩ := hrel
    clear hm0 hb4
    by_cases hlt : k < ls.length
    · obtain ⟨cw, ws, hq⟩ : ∃ cw ws, (ls[k]).words = cw :: ws := by
        have h0 := (hL.out.2 ls[k] (List.getElem_mem hlt)).1
        cases q : (ls[k]).words with
        | nil => rw [q] at h0; simp at h0
        | cons a b => exact ⟨a, b, rfl⟩
      obtain ⟨ws1, ws2, _, ws4⟩ := hL.out.2 ls[k] (List.getElem_mem hlt)
      obtain ⟨b2, c2, hat, hc2, hb2⟩ := own_cap ws4 ws1
      obtain ⟨bl, hA, hbl⟩ : ∃ bl, A = some ⟨bl, 0, none⟩ ∧ bl < W3.heap.size := by
        rcases hL.out.1.2 with ⟨_, q⟩ | ⟨b, cp, cur, q1, q2, q3, _⟩
        · omega
        · cases q1; exact ⟨b, rfl, (Array.getElem?_eq_some_iff.1 q3).1⟩
      subst hA
      obtain ⟨l1, l2⟩ := lnC_get ls k hlt
      have e1 : wr.cell? ⟨bl, k * 2 + 1, none⟩ = some (.slice (some ⟨b2, 0, none⟩) (ws.length + 1) c2) := (hbw.out.cell (p := ⟨bl, k * 2 + 1, none⟩) hbl).trans ((hL.out.1.cellAt (k * 2 + 1) (by omega)).trans (by rw [l2, hat, hq]; rfl))
      have e2 : wr.cell? ⟨b2, 0, none⟩ = some (.string ⟨cw.toArray⟩) := by
        rw [hat] at ws4
        refine (hbw.out.cell (p := ⟨b2, 0, none⟩) hb2).trans ((ws4.cellAt 0 (by omega)).trans ?_)
        rw [hq]
        rfl
      have hsz : (⟨cw.toArray⟩ : ByteArray).size ≤ maxLen := by
        have hm : cw ∈ (ls[k]).words := by rw [hq]; simp
        have h3 : (ls[k]).words ∈ noNo (toW o) := by
          rw [← hWo.out]
          unfold noNo outW
          rw [List.map_map]
          exact List.mem_map.2 ⟨ls[k], List.getElem_mem hlt, rfl⟩
        have h4 := word_le h3 hm
        have h5 := hlw.out.2
        have h6 : (⟨cw.toArray⟩ : ByteArray).size = cw.length := by simp [ByteArray.size]
        have h7 : s.data.toList.length = s.size := Array.length_toList
        rw [h6]
        unfold maxLen
        omega
      have hkey : keyOf Tryd.prog 9 (.string ⟨cw.toArray⟩) = some (.string cw) := WideMaps.keyOf_string_mk Tryd.underlying9 hsz
      replace hkey := Lib.hid hkey
      obtain ⟨D, hown, hf⟩ := hmap.out
      have HS := Lib.hid (fun x => hcnt_snoc x ls k hlt)
      rw [hq] at HS
      have hcl := hcnt_le cw (ls.take k)
      rw [List.length_take] at hcl
      have k0 : (0 : Int) ≤ (k : Int) := by omega
      have k1 : (k : Int) < (ls.length : Int) := by omega
      have hw1 : (0 : Int) < (ws.length : Int) + 1 := by omega
      have hfc := Lib.hid (hf cw)
      have hfx := Lib.hid hf
      clear hf hmap ws4 hat hq l1 l2 ws1 ws2 hc2 hsz
      obtain ⟨m, hm⟩ : ∃ m : Int, m = (hcnt cw (ls.take k) : Int) := ⟨_, rfl⟩
      have m0 : 0 ≤ m := by omega
      have m1 : m ≤ 8001 := by omega
      replace hm := Lib.hid hm
      go_wp2_with (first | (at_lookup; refine wpList_lookup_own_int _ rfl _ _ 55 rfl 9 3 .i64 lawS Tryd.underlying55 Tryd.underlying3 (zeroI _) W3.heap.size k _ rfl hown _ _ rfl hkey.out ?_; intro c hca hwc; obtain rfl : c = m := (by have e := hca.symm.trans hfc.out; simp only [DataW.lit.injEq, Lit.int.injEq, true_and] at e; rw [e, hm.out])) | (at_mapUpdate; refine wpList_mapUpdate_own _ rfl _ _ _ 55 rfl 9 3 lawS Tryd.underlying55 _ W3.heap.size k _ rfl hown (by unfold maxLen; omega) _ _ _ rfl rfl hkey.out _ [] (plainElem_int Tryd.underlying3 (WalkArith.wf_i64 ⟨by omega, by omega⟩)) ?_; intro w1 hown1 hgrow1; go_frame))
      go_roundw
      case rel =>
        refine ⟨k + 1, by go_num, by omega, Lib.hid ⟨_, hown1, fun x => ?_⟩, Lib.hid (hbw.out.grown hgrow1 hbw.out.size (fun j hj => by cases hj; exact Nat.le_refl _))⟩
        have hM := hown.isMap
        by_cases hx : x = cw
        · subst hx
          rw [Maps.atKey_put_same hM (by exact trivial)]
          show _ = DataW.lit (Lit.int .i64 ((hcnt x (ls.take (k + 1)) : Nat) : Int))
          rw [HS.out, hm.out]
          simp
        · rw [Maps.atKey_put_other (by simpa using hx), hfx.out]
          show DataW.lit (Lit.int .i64 ((hcnt x (ls.take k) : Nat) : Int)) = DataW.lit (Lit.int .i64 ((hcnt x (ls.take (k + 1)) : Nat) : Int))
          rw [HS.out]
          simp [Ne.symm hx]
      case measure => simp [intOf] <;> omega
    · obtain rfl : k = ls.length := by omega
      clear hlt hk
      have hT := hmap.out
      rw [List.take_length] at hT
      have hWn : ∀ x, hcnt x ls = cnt x (toW o) := fun x => by unfold hcnt; rw [hWo.out]
      have hRr := hR3.out.below hbw.out
      obtain ⟨A1, k1, f1⟩ := own_form (show wr.ownsRow g 63 6 (val .lights) sc.lights.length _ from hRr.own.row .lights)
      obtain ⟨A2, k2, f2⟩ := own_form (show wr.ownsRow g 65 9 (val .mats) sc.mats.length _ from hRr.own.row .mats)
      obtain ⟨A3, k3, f3⟩ := own_form (show wr.ownsRow g 67 4 (val .texs) sc.texs.length _ from hRr.own.row .texs)
      obtain ⟨A4, k4, f4⟩ := own_form (show wr.ownsRow g 47 3 (val .cages) sc.cages.length _ from hRr.own.row .cages)
      have e19 : wr.cell? ⟨W1.heap.size, 19, none⟩ = some (.slice A1 sc.lights.length k1) := (hbw.out.cell (p := ⟨W1.heap.size, 19, none⟩) hltB).trans (d19.out.trans (congrArg some f1))
      have e20 : wr.cell? ⟨W1.heap.size, 20, none⟩ = some (.slice A2 sc.mats.length k2) := (hbw.out.cell (p := ⟨W1.heap.size, 20, none⟩) hltB).trans (d20.out.trans (congrArg some f2))
      have e21 : wr.cell? ⟨W1.heap.size, 21, none⟩ = some (.slice A3 sc.texs.length k3) := (hbw.out.cell (p := ⟨W1.heap.size, 21, none⟩) hltB).trans (d21.out.trans (congrArg some f3))
      have e23 : wr.cell? ⟨W1.heap.size, 23, none⟩ = some (.slice A4 sc.cages.length k4) := (hbw.out.cell (p := ⟨W1.heap.size, 23, none⟩) hltB).trans (d23.out.trans (congrArg some f4))
      replace f4 := Lib.hid f4
      obtain ⟨n1, n2, n3, n4, n5, n6, n7, n8⟩ := hN.out
      have t1 := hcnt_le kV ls
      have t2 := hcnt_le kF ls
      have t3 := hcnt_le kCrease ls
      have t4 := hcnt_le kCage ls
      rw [hWn, n6] at t1
      rw [hWn, n7] at t2
      rw [hWn, n8] at t3
      rw [hWn, n5] at t4
      have lk : ∀ (q : ByteArray) (n : Nat), q.size ≤ 100 → cnt q.data.toList (toW o) = n → (Instr.lookup 55 (.map (some W3.heap.size)) (.string q) false).run Tryd.prog wr = .ok (.int .i64 (n : Int)) wr := fun q n hq hn => by
        have := hT.look q (by unfold maxLen; omega)
        rw [hWn, hn] at this
        exact this
      have L1 := Lib.hid (lk ⟨#[99, 97, 109, 101, 114, 97]⟩ 1 (by decide) n1)
      have L2 := Lib.hid (lk ⟨#[108, 105, 103, 104, 116]⟩ sc.lights.length (by decide) n2)
      have L3 := Lib.hid (lk ⟨#[116, 101, 120, 116, 117, 114, 101]⟩ sc.texs.length (by decide) n3)
      have L4 := Lib.hid (lk ⟨#[109, 97, 116, 101, 114, 105, 97, 108]⟩ sc.mats.length (by decide) n4)
      have L5 := Lib.hid (lk ⟨#[99, 97, 103, 101]⟩ sc.cages.length (by decide) n5)
      have L6 := Lib.hid (lk ⟨#[118]⟩ (sumOf (fun c => c.verts.length) sc.cages) (by decide) n6)
      have L7 := Lib.hid (lk ⟨#[102]⟩ (sumOf (fun c => c.faces.length) sc.cages) (by decide) n7)
      have L8 := Lib.hid (lk ⟨#[99, 114, 101, 97, 115, 101]⟩ (sumOf (fun c => c.creases.length) sc.cages) (by decide) n8)
      have hEnd := Lib.hid (h03.out.trans (hbw.out.mono h03.out.size))
      replace hRr := Lib.hid hRr
      clear lk n1 n2 n3 n4 n5 n6 n7 n8 hT hWn f1 f2 f3 hN hmap hlw hol hWo hL hR3 KB3 d19 d20 d21 d23
      replace e19 := Lib.hid e19
      replace e20 := Lib.hid e20
      replace e21 := Lib.hid e21
      go_wp2_with fail
      go_loop [14, 11, 12, 13] (fun i x y z => ∃ k : Nat, i = .int .i64 (k : Int) ∧ k ≤ sc.cages.length ∧ x = .int .i64 ((sumOf (fun c => c.verts.length) (sc.cages.take k) : Nat) : Int) ∧ y = .int .i64 ((sumOf (fun c => c.faces.length) (sc.cages.take k) : Nat) : Int) ∧ z = .int .i64 ((sumOf (fun c => c.creases.length) (sc.cages.take k) : Nat) : Int)) (fun i _ _ _ => sc.cages.length - (intOf i).toNat)
      case atStart => exact ⟨0, rfl, by omega, rfl, rfl, rfl⟩
      case round =>
        obtain ⟨k, rfl, hk, rfl, rfl, rfl⟩ := hrel
        by_cases hlt : k < sc.cages.length
        · obtain ⟨bc, nc, ec, rc⟩ := hRr.out.cage_at k hlt
          obtain ⟨AV, kV, fV⟩ := hRr.out.vert_form k
          obtain ⟨AF, kF, fF⟩ := hRr.out.face_form k
          obtain ⟨AC, kC, fC'⟩ := own_form (show wr.ownsRow g 76 3 (val (.crease k)) (cageAt sc k).creases.length _ from hRr.out.own.row (.crease k))
          rw [ec] at f4
          obtain ⟨rfl, rfl⟩ : A4 = some ⟨bc, 0, none⟩ ∧ k4 = nc := by
            have := f4.out
            injection this with t1 t2 t3
            exact ⟨t1.symm, t3.symm⟩
          rw [fV, fF, fC'] at rc
          have c0 : wr.cell? ⟨bc, k * 3, none⟩ = some (.slice AV (cageAt sc k).verts.length kV) := rc 0 _ rfl
          have c1 := rc 1 _ rfl
          have c2 := rc 2 _ rfl
          have ek : cageAt sc k = sc.cages[k] := by unfold cageAt; simp [List.getD, hlt]
          obtain ⟨s1, b1⟩ := sumOf_take (fun c => c.verts.length) sc.cages k hlt
          obtain ⟨s2, b2⟩ := sumOf_take (fun c => c.faces.length) sc.cages k hlt
          obtain ⟨s3, b3⟩ := sumOf_take (fun c => c.creases.length) sc.cages k hlt
          simp only [← ek] at s1 s2 s3 b1 b2 b3
          have k0 : (0 : Int) ≤ (k : Int) := by omega
          have k1 : (k : Int) < (sc.cages.length : Int) := by omega
          replace s1 := Lib.hid s1
          replace s2 := Lib.hid s2
          replace s3 := Lib.hid s3
          clear f4 ec rc fV fF fC' ek
          generalize sumOf (fun c => c.verts.length) (sc.cages.take k) = z1 at *
          generalize sumOf (fun c => c.faces.length) (sc.cages.take k) = z2 at *
          generalize sumOf (fun c => c.creases.length) (sc.cages.take k) = z3 at *
          generalize (cageAt sc k).verts.length = x1 at *
          generalize (cageAt sc k).faces.length = x2 at *
          generalize (cageAt sc k).creases.length = x3 at *
          have y1 : (z1 : Int) + x1 ≤ 8001 := by omega
          have y2 : (z2 : Int) + x2 ≤ 8001 := by omega
          have y3 : (z3 : Int) + x3 ≤ 8001 := by omega
          have y4 : (0 : Int) ≤ (z1 : Int) + x1 := by omega
          have y5 : (0 : Int) ≤ (z2 : Int) + x2 := by omega
          have y6 : (0 : Int) ≤ (z3 : Int) + x3 := by omega
          go_wp2_with fail
          go_round
          case rel => exact ⟨k + 1, by go_num, by omega, by rw [s1.out]; go_num, by rw [s2.out]; go_num, by rw [s3.out]; go_num⟩
          case measure => simp [intOf] <;> omega
        · obtain rfl : k = sc.cages.length := by omega
          simp only [List.take_length] at *
          have g19 := e19.out
          have g20 := e20.out
          have g21 := e21.out
          generalize sumOf (fun c => c.verts.length) sc.cages = z1 at *
          generalize sumOf (fun c => c.faces.length) sc.cages = z2 at *
          generalize sumOf (fun c => c.creases.length) sc.cages = z3 at *
          have l1 := L1.out
          have l2 := L2.out
          have l3 := L3.out
          have l4 := L4.out
          have l5 := L5.out
          have l6 := L6.out
          have l7 := L7.out
          have l8 := L8.out
          clear L1 L2 L3 L4 L5 L6 L7 L8 f4 e19 e20 e21
          go_wp2_with fail
          go_ret
          exact ⟨by simp, hEnd.out⟩
theorem walk (w : World) (s : ByteArray) (hs : s.size ≤ maxLen) (ht : Tabs w) : Calls Tryd.prog 6 #[.string s] w fun e w' => e = .returned (.bool true) ∧ Below w.heap.size w w' := by
  by_cases h1 : 8000 < s.size
  · exact walk_big w s h1 ht
  have h2 : (s.size : Int) ≤ 8000 := by omega
  cases q : sceneT s.data.toList with
  | error n => obtain ⟨n, k⟩ := n; exact walk_e w s h2 ht n k (sceneT_err q) q
  | ok sc => exact walk_o w s h2 ht sc q

theorem own : ownKnob Tryd.prog.godebug = none := by kernel_rfl
set_option maxRecDepth 100000 in
theorem lifted (os : Os) (started : os.Started) (H : Type) (enc : TypeId × Value → H) :
    ReturnsInHanded {} Tryd.checked os 6 .any (fun w args => (Rows.sceneCagesSpec.pre enc Tryd.prog Tryd.f6 [] false w args ∧ laidMetH Tryd.prog Rows.sceneCagesRow.laid w) ∧ sizedMet enc Tryd.prog Tryd.f6 (OpenSpec.ofChange Rows.sceneCagesSpec) false w args)
      (Rows.sceneCagesSpec.post enc Tryd.prog Tryd.f6 false true false false) := by
  refine returnsInHanded_of_calls (C := Tryd.checked) own started (by kernel_rfl)
    (ChangeSpec.witness_shaped (enc := enc) (C := Tryd.checked) (os := os) (X := fun w _ => laidMetH Tryd.prog Rows.sceneCagesRow.laid w) false (World.laidAll Tryd.prog os Rows.sceneCagesRow.laid) #[.string ByteArray.empty] 12 (World.laidAll_os _ _ _)
      (World.shaped_of_ZipB (by kernel_rfl) (by kernel_rfl)) (by kernel_rfl) (by kernel_rfl) (by kernel_rfl)
      (by rw [MakeChecks.laidMetH_plain _ _ _ (by kernel_rfl)]; exact laidMet_laidAll _ (by kernel_rfl) (by kernel_rfl))) ?_
  rintro w tape ⟨vars, args, fns⟩ _ hsh _ ⟨_, _, _, fn, hfn, _, _, _, _, hval⟩ ⟨⟨⟨ds, gs, before, hw, _⟩, hx⟩, _⟩ _
  obtain rfl := Option.some.inj (Tryd.func6.symm.trans hfn)
  have hW := DataW.Whole.of_heap (w' := w.forCall tape ⟨vars, args, fns⟩) (by rfl) hw
  have hL := laidMetH.of_heap (w' := w.forCall tape ⟨vars, args, fns⟩) (by rfl) hx
  rw [MakeChecks.laidMetH_plain _ _ _ (by kernel_rfl)] at hL
  have ht : Tabs (w.forCall tape ⟨vars, args, fns⟩) := tabs_of (by unfold Rows.sceneCagesRow; simp) hL hsh
  generalize w.forCall tape ⟨vars, args, fns⟩ = W at *
  have hW' := hW
  obtain ⟨p, q, hA0, hV, rfl, hfz, hnd⟩ := hW
  have hA : DataW.TrodAll enc Tryd.prog W 0 (fun _ => true) true Tryd.f6.params.toList args.toList ds p := hA0
  rw [Tryd.params6] at hA hval
  obtain ⟨v0, vs0, d0, ds0, p0, q0, hargs, rfl, rfl, h0, r0⟩ := trodAll_cons hA
  obtain ⟨rfl, rfl, rfl⟩ := trodAll_nil r0
  obtain rfl : args = #[v0] := by cases args; simp_all
  obtain ⟨s0, rfl, b0⟩ := open_Str (hval 0 9 v0 rfl rfl) h0
  refine (walk W s0 b0 ht).mono fun e W' ⟨he, hb⟩ => ?_
  subst he
  exact ChangeSpec.post_blind (law_post (tb := 4) (by kernel_rfl) (by kernel_rfl) rfl rfl Tryd.underlying4 rfl rfl rfl hW' hb)

theorem row : Rows.sceneCagesRow.holds Tryd.pinned (OpenSpec.ofChange Rows.sceneCagesSpec) :=
  OpenClaim.holds_of_wide 6 Tryd.f6 rfl rfl rfl rfl rfl rfl rfl ⟨rfl, rfl, rfl, rfl, rfl⟩ rfl rfl rfl rfl rfl (by kernel_rfl) Tryd.func6 (by kernel_rfl)
    (of_decide_eq_true (by kernel_rfl)) (by unfold Func.isWrapper; first | (rw [if_pos (by decide +kernel)]; kernel_rfl) | (rw [if_neg (by decide +kernel)]; exact ⟨rfl, rfl⟩))
    (fun os started H enc _ => lifted os started H enc)

theorem proved : Rows.SceneCagesCardSaid :=
  Claim7.holds_tied_plain_at .later [] [.data, .listed, .data, .pinned] true _ _ row (fun _ h => by cases h) (by kernel_rfl) (fun _ h => by cases h) sceneCages_row_tie rfl ⟨rfl, rfl⟩ (by kernel_rfl) rfl
    (fun f fn hf hfn => by
      obtain rfl : f = 6 := Option.some.inj ((show Tryd.prog.funcNamed "relievo/relievolaw06.SceneCages" = some 6 by kernel_rfl).symm.trans hf) |>.symm
      obtain rfl : fn = Tryd.f6 := (Option.some.inj (Tryd.func6.symm.trans hfn)).symm
      exact ⟨by kernel_rfl, fun j t hj => by
        have hm : t ∈ Tryd.f6.params.toList := by
          have := Array.mem_of_getElem? hj
          simpa using this
        have hall : (Tryd.f6.params.toList.all fun u => !Tryd.prog.wantsStandIn u) = true := by kernel_rfl
        exact (show Tryd.prog.wantsStandIn t = false by simpa using List.all_eq_true.1 hall t hm)⟩)
    (by kernel_rfl)
#print axioms proved
end Go.Proofs.YtehmlofhiffanaaDoor.sceneCages
