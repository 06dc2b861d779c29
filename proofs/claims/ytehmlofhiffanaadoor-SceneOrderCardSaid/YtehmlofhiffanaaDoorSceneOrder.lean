/- SceneOrder holds for every input: the row, out of the walk; the card, tied. No condition but the row's own: the listed tables of the library read as the program's text lays them. -/
import Derived.Test.YtehmlofhiffanaaDoorRows
import Derived.Test.YtehmlofhiffanaaDoorCards
import Derived.Test.YtehmlofhiffanaaDoorTie
import Derived.Test.YtehmlofhiffanaaDoorTabsOf
import Derived.Test.YtehmlofhiffanaaDoorMScnL
import Derived.Test.YtehmlofhiffanaaDoorOpenS
import Derived.Test.YtehmlofhiffanaaDoorPost
import Derived.LaidMore
import Derived.Lay
import Derived.SevenTiedAt
namespace Go.Proofs.YtehmlofhiffanaaDoor.sceneOrder
open Go.ChangeShapes Go.WideShapes Go.ChangeAt Go.RowKit
set_option linter.unusedVariables false
set_option linter.unusedSimpArgs false
set_option linter.unnecessarySimpa false
def oT (l : List (Nat × List Wd)) : List UInt8 := txtOf (l.map fun q => jn q.2)
theorem oT_nil : oT [] = [] := rfl
theorem oT_app (a b : List (Nat × List Wd)) : oT (a ++ b) = oT a ++ oT b := by unfold oT; rw [List.map_append, txtOf_app]
theorem oT_one (q : Nat × List Wd) : oT [q] = jn q.2 ++ [10] := by unfold oT txtOf; simp
theorem oT_len (l : List (Nat × List Wd)) : (oT l).length = tot (noNo l) := by
  induction l with
  | nil => rfl
  | cons q l ih =>
    have e : oT (q :: l) = oT [q] ++ oT l := oT_app [q] l
    rw [e, oT_one, List.length_append, ih]
    unfold noNo
    rw [List.map_cons, tot_cons]
    simp [jn_len]
theorem tot_filter (p : Nat × List Wd → Bool) (l : List (Nat × List Wd)) : tot (noNo (l.filter p)) ≤ tot (noNo l) := by
  induction l with
  | nil => simp [noNo, tot]
  | cons q l ih =>
    rw [List.filter_cons]
    unfold noNo at *
    split
    · rw [List.map_cons, List.map_cons, tot_cons, tot_cons]; omega
    · rw [List.map_cons, tot_cons]; omega
theorem tot_take (k : Nat) (l : List (Nat × List Wd)) : tot (noNo (l.take k)) ≤ tot (noNo l) := by
  have h : noNo l = noNo (l.take k) ++ noNo (l.drop k) := by unfold noNo; rw [← List.map_append, List.take_append_drop]
  rw [h, tot_app]
  omega
def fstT (l : List (Nat × List Wd)) (k : Nat) : List UInt8 := oT ((l.take k).filter isLS)
def rstT (l : List (Nat × List Wd)) (k : Nat) : List UInt8 := oT ((l.take k).filter fun q => !isLS q)
theorem fstT_le (l : List (Nat × List Wd)) (k : Nat) : (fstT l k).length ≤ tot (noNo l) := by
  unfold fstT; rw [oT_len]; exact Nat.le_trans (tot_filter _ _) (tot_take _ _)
theorem rstT_le (l : List (Nat × List Wd)) (k : Nat) : (rstT l k).length ≤ tot (noNo l) := by
  unfold rstT; rw [oT_len]; exact Nat.le_trans (tot_filter _ _) (tot_take _ _)
theorem fstT_yes (l : List (Nat × List Wd)) (k : Nat) (h : k < l.length) (hq : isLS l[k] = true) : fstT l (k + 1) = fstT l k ++ (jn l[k].2 ++ [10]) ∧ rstT l (k + 1) = rstT l k := by
  unfold fstT rstT
  rw [List.take_succ_eq_append_getElem h, List.filter_append, List.filter_append, oT_app, oT_app]
  simp [hq, oT_one, oT_nil]
theorem fstT_no (l : List (Nat × List Wd)) (k : Nat) (h : k < l.length) (hq : isLS l[k] = false) : rstT l (k + 1) = rstT l k ++ (jn l[k].2 ++ [10]) ∧ fstT l (k + 1) = fstT l k := by
  unfold fstT rstT
  rw [List.take_succ_eq_append_getElem h, List.filter_append, List.filter_append, oT_app, oT_app]
  simp [hq, oT_one, oT_nil]
theorem noNo_get (l : List (Nat × List Wd)) (i : Nat) (h : i < (noNo l).length) : (noNo l)[i] = (l[i]'(by unfold noNo at h; simpa using h)).2 := by simp [noNo]
theorem wl_len (ws : List Wd) : ws.length ≤ wl ws := by
  induction ws with
  | nil => simp
  | cons a t ih => rw [wl_cons, List.length_cons]; omega
theorem oT_scene (l : List (Nat × List Wd)) (h : ∀ q ∈ l, q.2 ≠ [] ∧ ∀ w ∈ q.2, okW w) : ∃ m, sceneT (oT l) = sceneF m ∧ noNo m = noNo l := by
  refine sceneT_text (l.map fun q => jn q.2) (noNo l) (by unfold noNo; simp) (fun i h1 h2 => ?_) (fun ws hw => ?_)
  · have h3 : i < l.length := by simpa using h1
    have e1 : (l.map fun q => jn q.2)[i] = jn l[i].2 := by simp
    have e2 : (noNo l)[i] = l[i].2 := noNo_get l i h2
    rw [e1, e2]
    exact lineOf_jn (h _ (List.getElem_mem h3)).2
  · unfold noNo at hw
    obtain ⟨q, hq, rfl⟩ := List.mem_map.1 hw
    exact (h q hq).1
/-- The lights' and the sky's lines ahead, or behind. -/
theorem order_texts {l : List (Nat × List Wd)} {sc : Scn} (hF : sceneF l = .ok sc) (h : ∀ q ∈ l, q.2 ≠ [] ∧ ∀ w ∈ q.2, okW w) : sceneT (fstT l l.length ++ rstT l l.length) = .ok sc ∧ sceneT (rstT l l.length ++ fstT l l.length) = .ok sc := by
  unfold fstT rstT
  rw [List.take_length, ← oT_app, ← oT_app]
  have hm : ∀ (p r : Nat × List Wd → Bool), ∀ q ∈ l.filter p ++ l.filter r, q.2 ≠ [] ∧ ∀ w ∈ q.2, okW w := fun p r q hq => by
    rcases List.mem_append.1 hq with hq | hq
    · exact h q (List.mem_filter.1 hq).1
    · exact h q (List.mem_filter.1 hq).1
  obtain ⟨m1, e1, n1⟩ := oT_scene _ (hm isLS fun q => !isLS q)
  obtain ⟨m2, e2, n2⟩ := oT_scene _ (hm (fun q => !isLS q) isLS)
  obtain ⟨s1, s2⟩ := scene_order hF n1 n2
  exact ⟨e1.trans s1, e2.trans s2⟩
theorem ba_app (a b : ByteArray) : (a ++ b).data.toList = a.data.toList ++ b.data.toList := by simp
theorem ba_one (a : ByteArray) : (a ++ (⟨#[10]⟩ : ByteArray)).data.toList = a.data.toList ++ [10] := by rw [ba_app]
theorem range_all {b : Nat} {W : World} {t : TypeId} {cs : Array Value} (h : Blk W b t cs) : W.rangeAt b 0 cs.toList := fun j v hj => by
  rw [Nat.zero_add, h.cell j]
  simpa using hj
theorem ba_size (a : ByteArray) : a.size = a.data.toList.length := Array.length_toList.symm
theorem lines_res (w : World) (s : ByteArray) (hs : s.size ≤ 65536) (ht : Tabs w) : Calls Tryd.prog 11 #[.string s] w fun e w' => ∃ (v : Value) (n k : Int), e = .returned (.tuple #[v, .int .i64 n, .int .i64 k]) ∧ Below w.heap.size w w' := by
  refine (lLines_any w s hs ht).mono ?_
  rintro e w' hp
  obtain ⟨hb, ⟨n, _, rfl⟩ | ⟨A, c, ls, _, rfl, _⟩⟩ := lines_or hp
  · exact ⟨_, _, _, rfl, hb⟩
  · exact ⟨_, _, _, rfl, hb⟩
theorem sceneT_ok {l : List UInt8} {sc : Scn} (h : sceneT l = .ok sc) : ∃ o, linesP 1 [] (spl l) = .ok o ∧ sceneF (toW o) = .ok sc := by
  unfold sceneT at h
  cases q : linesP 1 [] (spl l) with
  | error n => rw [q] at h; cases h
  | ok o => rw [q] at h; exact ⟨o, rfl, h⟩
theorem runS_err : ∀ (l : List (Nat × List Wd)) (sc : Scn) (n k : Nat), runS sc l = .error (n, k) → 10 ≤ k
  | [], sc, n, k, h => by unfold runS at h; cases h
  | q :: l, sc, n, k, h => by
    unfold runS at h
    cases e : lineF sc q.2 with
    | error j => rw [e] at h; injection h with h; injection h with _ h; subst h; exact (line_err e).1
    | ok s2 => rw [e] at h; exact runS_err l s2 n k h
theorem sceneT_err {l : List UInt8} {n k : Nat} (h : sceneT l = .error (n, k)) : 10 ≤ k := by
  unfold sceneT at h
  cases q : linesP 1 [] (spl l) with
  | error m => rw [q] at h; injection h with h; injection h with _ h; omega
  | ok o =>
    rw [q] at h
    simp only at h
    unfold sceneF at h
    cases r : runS scn0 (toW o) with
    | error m =>
      rw [r] at h
      injection h with h
      rw [h] at r
      exact runS_err _ _ _ _ r
    | ok s2 =>
      rw [r] at h
      simp only at h
      split at h
      · cases h
      · injection h with h; injection h with _ h; omega
theorem sceneF_run {l : List (Nat × List Wd)} {sc : Scn} (h : sceneF l = .ok sc) : runS scn0 l = .ok sc ∧ sc.cam.isSome = true := by
  unfold sceneF at h
  cases q : runS scn0 l with
  | error n => rw [q] at h; cases h
  | ok s2 =>
    rw [q] at h
    simp only at h
    split at h
    · rename_i hc
      injection h with h
      subst h
      exact ⟨rfl, hc⟩
    · cases h
set_option maxRecDepth 100000 in
set_option maxHeartbeats 4000000 in
theorem walk_big (w : World) (s : ByteArray) (h1 : 5000 < s.size) (ht : Tabs w) : Calls Tryd.prog 5 #[.string s] w fun e w' => e = .returned (.bool true) ∧ Below w.heap.size w w' := by
  have cA := alive6_any w ht
  have h' : (5000 : Int) < (s.size : Int) := by omega
  go_enter Tryd.func5, Tryd.ntmps5
  go_wp2_with (first | (go_at_call 7; (with_reducible refine Calls.mono cA ?_); rintro e w1 ⟨rfl, hb1⟩))
  go_ret
  exact ⟨rfl, (by repeat (first | with_reducible exact Below.refl _ _ | with_reducible assumption | with_reducible refine bel_then ?_ _ | with_reducible refine bel_grow ?_ _ | with_reducible refine bel_alloc ?_ _ | with_reducible refine bel_drew ?_))⟩
set_option maxRecDepth 100000 in
set_option maxHeartbeats 4000000 in
theorem walk_e (w : World) (s : ByteArray) (h' : (s.size : Int) ≤ 5000) (ht : Tabs w) (n k : Nat) (hk : 10 ≤ k) (hsc : sceneT s.data.toList = .error (n, k)) : Calls Tryd.prog 5 #[.string s] w fun e w' => e = .returned (.bool true) ∧ Below w.heap.size w w' := by
  have cA := alive6_any w ht
  have c1 : ∀ w : World, Tabs w → Calls Tryd.prog 8 #[.string s] w fun e w' => e = .returned (.tuple #[.agg scZ, .int .i64 (n : Int), .int .i64 (k : Int)]) ∧ Below w.heap.size w w' := fun w ht => by
    refine (parse_any w s (by omega) ht).mono ?_
    rintro e w' ⟨hb, hp⟩
    rw [hsc] at hp
    exact ⟨hp, hb⟩
  have c2 := Lib.hid (fun (w : World) (ht : Tabs w) => lines_res w s (by omega) ht)
  have e1 : ((k : Int) == 0) = false := by simp; omega
  have e2 : ¬ (k : Int) = 0 := by omega
  replace c1 := Lib.hid c1
  clear hsc hk
  go_enter Tryd.func5, Tryd.ntmps5
  go_upto_region 6 with (first | (go_at_call 7; (with_reducible refine Calls.mono cA ?_); rintro e w1 ⟨rfl, hb1⟩) | (go_at_call 8; (with_reducible refine Calls.mono (c1.out _ (ht.below hb1)) ?_); rintro e W1 ⟨rfl, hb2⟩) | (refine wpList_val rfl _ _ (alloc_Scene _ _ rfl _) ?_) | (refine wpList_store_rowTo rfl 35 _ _ rfl rfl W1.heap.size (scZ) rfl rfl 35 scZ (Blk.new _ _ _ _ rfl) infoSc rfl scZ_one ?_; rw [World.setRow_alloc_new]))
  have hW2 : Below W1.heap.size W1 (W1.alloc (.cells scZ 35)) := bel_alloc (Below.refl _ _) _
  generalize W1.alloc (.cells scZ 35) = W2 at *
  have h02' := hb1.trans ((hb2.trans (hW2.mono hb2.size)).mono hb1.size)
  have h02 := Lib.hid h02'
  have ht2 := ht.below h02'
  clear hW2 hb1 hb2 c1 cA h02'
  go_wp2_with (first | (go_at_call 11; (with_reducible refine Calls.mono (c2.out _ ht2) ?_); rintro e W3 ⟨v, n3, k3, rfl, hb3⟩))
  go_ret
  exact ⟨by simp, h02.out.trans (hb3.mono h02.out.size)⟩
set_option maxRecDepth 100000 in
set_option maxHeartbeats 8000000 in
theorem walk_o (w : World) (s : ByteArray) (h' : (s.size : Int) ≤ 5000) (ht : Tabs w) (sc : Scn) (hsc : sceneT s.data.toList = .ok sc) : Calls Tryd.prog 5 #[.string s] w fun e w' => e = .returned (.bool true) ∧ Below w.heap.size w w' := by
  have cA := alive6_any w ht
  obtain ⟨hgood, _⟩ := sceneT_good hsc
  obtain ⟨o, ho, hF⟩ := sceneT_ok hsc
  obtain ⟨hw1, hw2⟩ := lines_words ho
  have hOT := order_texts hF hw1
  have hS7 : s.data.toList.length = s.size := Array.length_toList
  have htot : tot (noNo (toW o)) ≤ 10002 := by omega
  have hol : o.length ≤ 5001 := by
    have := linesP_len _ _ _ _ ho
    have := spl_count s.data.toList
    simp at *
    omega
  have cP : ∀ (t : ByteArray), t.size ≤ 65536 → sceneT t.data.toList = .ok sc → ∀ w : World, Tabs w → Calls Tryd.prog 8 #[.string t] w fun e w' => ∃ g val, e = .returned (.tuple #[.agg (sceneV sc val), .int .i64 0, .int .i64 0]) ∧ Below w.heap.size w w' ∧ RepV g w' g 57 sc val := fun t hz htc w ht => by
    refine (parse_any w t hz ht).mono ?_
    rintro e w' ⟨hb, hp⟩
    rw [htc] at hp
    obtain ⟨g, val, he, _, hR⟩ := hp
    exact ⟨g, val, he, hb, hR⟩
  have c1 := Lib.hid (cP s (by omega) hsc)
  have c2 : ∀ w : World, Tabs w → Calls Tryd.prog 11 #[.string s] w fun e w' => ∃ A c ls, e = .returned (.tuple #[.slice A ls.length c, .int .i64 0, .int .i64 0]) ∧ Below w.heap.size w w' ∧ LNS w' w.heap.size (.slice A ls.length c) ls ∧ outOf ls = o := fun w ht => by
    refine (lines_ok w s (by omega) ht ho).mono ?_
    rintro e w' ⟨v, ls, he, hb, hL, hO⟩
    obtain ⟨A, c, rfl⟩ := own_form hL.1
    exact ⟨A, c, ls, he, hb, hL, hO⟩
  replace cP := Lib.hid cP
  replace c2 := Lib.hid c2
  replace hw1 := Lib.hid hw1
  replace hOT := Lib.hid hOT
  replace hol := Lib.hid hol
  replace hgood := Lib.hid hgood
  clear hsc ho hF hw2 hS7
  go_enter Tryd.func5, Tryd.ntmps5
  go_upto_region 6 with (first | (go_at_call 7; (with_reducible refine Calls.mono cA ?_); rintro e w1 ⟨rfl, hb1⟩) | (go_at_call 8; (with_reducible refine Calls.mono (c1.out _ (ht.below hb1)) ?_); rintro e W1 ⟨g, val, rfl, hb2, hR⟩) | (refine wpList_val rfl _ _ (alloc_Scene _ _ rfl _) ?_) | (refine wpList_store_rowTo rfl 35 _ _ rfl rfl W1.heap.size (sceneV sc val) rfl rfl 35 scZ (Blk.new _ _ _ _ rfl) infoSc rfl hR.one ?_; rw [World.setRow_alloc_new]))
  have hW2 : Below W1.heap.size W1 (W1.alloc (.cells (sceneV sc val) 35)) := bel_alloc (Below.refl _ _) _
  have KB : Blk (W1.alloc (.cells (sceneV sc val) 35)) W1.heap.size 35 (sceneV sc val) := Blk.new _ _ _ _ rfl
  generalize W1.alloc (.cells (sceneV sc val) 35) = W2 at *
  have h02 := hb1.trans ((hb2.trans (hW2.mono hb2.size)).mono hb1.size)
  have ht2 := ht.below h02
  replace hR := hR.below hW2
  clear hW2 hb1 hb2 c1 cA
  replace h02 := Lib.hid h02
  replace hR := Lib.hid hR
  replace KB := Lib.hid KB
  go_upto_region 9 with (first | (go_at_call 11; (with_reducible refine Calls.mono (c2.out _ ht2) ?_); rintro e W3 ⟨A, c, ls, rfl, hb3, hL, hO⟩))
  have h03 := Lib.hid (h02.out.trans (hb3.mono h02.out.size))
  have hR3 := Lib.hid (hR.out.below hb3)
  have KB3 := Lib.hid (KB.out.below hb3)
  have ht3 := Lib.hid (ht2.below hb3)
  clear h02 hR KB hb3 ht2 c2
  replace hL := Lib.hid hL
  have hll : ls.length ≤ 5001 := by rw [← show (outOf ls).length = ls.length by unfold outOf; simp, hO]; exact hol.out
  have hWo := outW_of hO
  replace hWo := Lib.hid hWo
  clear hO
  have hlw : (outW ls).length = ls.length := by unfold outW; simp
  replace hlw := Lib.hid hlw
  go_wp2_with fail
  go_loop [9, 10, 11] (fun x y i => ∃ (k : Nat) (F R : ByteArray), i = .int .i64 (k : Int) ∧ k ≤ ls.length ∧ x = .string F ∧ y = .string R ∧ F.size ≤ 10002 ∧ R.size ≤ 10002 ∧ Hid (F.data.toList = fstT (outW ls) k) ∧ Hid (R.data.toList = rstT (outW ls) k)) (fun _ _ i => ls.length - (intOf i).toNat)
  case atStart => exact ⟨0, ⟨#[]⟩, ⟨#[]⟩, rfl, by omega, rfl, rfl, by decide, by decide, Lib.hid rfl, Lib.hid rfl⟩
  case round =>
    obtain ⟨k, F, R, rfl, hk, rfl, rfl, hFz, hRz, hF, hR⟩ := hrel
    by_cases hlt : k < ls.length
    · obtain ⟨cw, ws, hq⟩ : ∃ cw ws, (ls[k]).words = cw :: ws := by
        have h0 := (hL.out.2 ls[k] (List.getElem_mem hlt)).1
        cases q : (ls[k]).words with
        | nil => rw [q] at h0; simp at h0
        | cons a b => exact ⟨a, b, rfl⟩
      obtain ⟨ws1, ws2, _, ws4⟩ := hL.out.2 ls[k] (List.getElem_mem hlt)
      obtain ⟨b2, c2, hat, hc2, hb2⟩ := own_cap ws4 ws1
      obtain ⟨bl, hA, hbl⟩ : ∃ bl, A = some ⟨bl, 0, none⟩ ∧ bl < W3.heap.size := by
        rcases hL.out.1.2 with ⟨_, q⟩ | ⟨b, cp, cur, q1, q2, q3, _⟩
        · omega
        · cases q1; exact ⟨b, rfl, (Array.getElem?_eq_some_iff.1 q3).1⟩
      subst hA
      obtain ⟨l1, l2⟩ := lnC_get ls k hlt
      obtain ⟨m, hm⟩ : ∃ m : Nat, m = (cw :: ws).length := ⟨_, rfl⟩
      have e1 : W3.cell? ⟨bl, k * 2 + 1, none⟩ = some (.slice (some ⟨b2, 0, none⟩) m c2) := (hL.out.1.cellAt (k * 2 + 1) (by omega)).trans (by rw [l2, hat, hq, hm])
      have e2 : ∀ j (h : j < (cw :: ws).length), W3.cell? ⟨b2, j, none⟩ = some (.string ⟨((cw :: ws)[j]).toArray⟩) := fun j h => by
        rw [hat] at ws4
        refine (ws4.cellAt j (by rw [hq]; omega)).trans ?_
        rw [strs_get _ j (by rw [hq]; exact h)]
        simp only [hq]
      have ek : (outW ls)[k]'(by rw [hlw.out]; exact hlt) = ((ls[k]).no, cw :: ws) := by unfold outW; simp [hq]
      have hin : cw :: ws ∈ noNo (toW o) := by
        rw [← hWo.out]
        unfold noNo
        refine List.mem_map.2 ⟨_, List.getElem_mem (by rw [hlw.out]; exact hlt), by rw [ek]⟩
      have htm := tot_mem _ _ hin
      have e20 := e2 0 (by simp)
      replace e20 := Lib.hid e20
      replace e2 := Lib.hid e2
      replace ek := Lib.hid ek
      replace hm := Lib.hid hm
      have hmz : m ≤ 10002 := by have := wl_len (cw :: ws); rw [← hm.out] at this; omega
      have hmp : 0 < m := by rw [hm.out]; simp
      have hmi : (0 : Int) < (m : Int) := by omega
      have k0 : (0 : Int) ≤ (k : Int) := by omega
      have k1 : (k : Int) < (ls.length : Int) := by omega
      clear ws4 hat hq l1 l2 ws1 ws2 hc2 hb2 hbl
      replace hin := Lib.hid hin
      go_wp2_with fail
      go_loop [12, 13] (fun x i => ∃ (j : Nat) (T : ByteArray), i = .int .i64 (j : Int) ∧ j ≤ m ∧ x = .string T ∧ T.size ≤ 10002 ∧ Hid (T.data.toList = jn ((cw :: ws).take j))) (fun _ i => m - (intOf i).toNat)
      case atStart => exact ⟨0, ⟨#[]⟩, rfl, by omega, rfl, by decide, Lib.hid rfl⟩
      case round =>
        obtain ⟨j, T, rfl, hj, rfl, hTz, hT⟩ := hrel
        by_cases hlj : j < m
        · have hlj2 : j < (cw :: ws).length := by rw [← hm.out]; exact hlj
          have ej := e2.out j hlj2
          obtain ⟨q, hq⟩ : ∃ q : ByteArray, q = ⟨((cw :: ws)[j]).toArray⟩ := ⟨_, rfl⟩
          rw [← hq] at ej
          have hq2 : q.data.toList = (cw :: ws)[j] := by rw [hq]
          have hn : jn ((cw :: ws).take (j + 1)) = jn ((cw :: ws).take j) ++ (32 :: (cw :: ws)[j]) := by
            rw [List.take_succ_eq_append_getElem hlj2, jn_app]
            simp [jn]
          have hTn : (jn ((cw :: ws).take (j + 1))).length ≤ wl (cw :: ws) := by
            rw [← jn_len]
            have e : jn (cw :: ws) = jn ((cw :: ws).take (j + 1)) ++ jn ((cw :: ws).drop (j + 1)) := by rw [← jn_app, List.take_append_drop]
            rw [e, List.length_append]
            omega
          have hqz : q.size ≤ 10002 := by
            rw [hn, List.length_append, List.length_cons, ← hq2, ← ba_size] at hTn
            omega
          have HN : Hid ((T ++ ((⟨#[32]⟩ : ByteArray) ++ q)).data.toList = jn ((cw :: ws).take (j + 1))) := Lib.hid (by rw [ba_app, ba_app, hT.out, hn, hq2]; rfl)
          have HZ : (T ++ ((⟨#[32]⟩ : ByteArray) ++ q)).size ≤ 10002 := by rw [ba_size, HN.out]; omega
          replace HZ := Lib.hid HZ
          have j0 : (0 : Int) ≤ (j : Int) := by omega
          have j1 : (j : Int) < (m : Int) := by omega
          clear hq hq2 hn hTn
          go_wp2_with fail
          go_round
          case rel => exact ⟨j + 1, _, by go_num, by omega, rfl, HZ.out, HN⟩
          case measure => simp [intOf] <;> omega
        · obtain rfl : j = m := by omega
          have hTj : T.data.toList = jn (cw :: ws) := by rw [hT.out, hm.out, List.take_length]
          have e0 : W3.cell? ⟨b2, 0, none⟩ = some (.string ⟨cw.toArray⟩) := e20.out
          have hkl : k < (outW ls).length := by rw [hlw.out]; exact hlt
          have fy := fstT_yes (outW ls) k hkl
          have fn := fstT_no (outW ls) k hkl
          have lF : (fstT (outW ls) (k + 1)).length ≤ 10002 := by
            have := fstT_le (outW ls) (k + 1)
            have e : tot (noNo (outW ls)) = tot (noNo (toW o)) := by rw [hWo.out]
            omega
          have lR : (rstT (outW ls) (k + 1)).length ≤ 10002 := by
            have := rstT_le (outW ls) (k + 1)
            have e : tot (noNo (outW ls)) = tot (noNo (toW o)) := by rw [hWo.out]
            omega
          rw [ek.out, ← hTj] at fy fn
          have isl : isLS ((ls[k]).no, cw :: ws) = (decide (cw = kLight) || decide (cw = kSky)) := by unfold isLS headIs; simp
          rw [isl] at fy fn
          have Y := fun h => (fy h).1
          have Y2 := fun h => (fy h).2
          have N := fun h => (fn h).1
          have N2 := fun h => (fn h).2
          rw [← ba_one T] at Y N
          replace lF := Lib.hid lF
          replace lR := Lib.hid lR
          replace Y := Lib.hid Y
          replace Y2 := Lib.hid Y2
          replace N := Lib.hid N
          replace N2 := Lib.hid N2
          have E2 := eqk2 cw
          have T2 := eqt2 cw
          have E1 := eqk1 cw
          have T1 := eqt1 cw
          clear fy fn isl hTj hT e20 e2 ek hin hm
          by_cases q2 : cw = kLight
          · have q2' : decide (cw = kLight) = true := by simp [q2]
            have HF := Lib.hid (Y.out (by rw [q2']; rfl))
            have HR := Lib.hid (Y2.out (by rw [q2']; rfl))
            rw [q2'] at E2 T2
            clear Y Y2 N N2 q2 q2' E1 T1
            have HN : Hid ((F ++ (T ++ (⟨#[10]⟩ : ByteArray))).data.toList = fstT (outW ls) (k + 1)) := Lib.hid (by rw [ba_app, HF.out, hF.out])
            have HZ := Lib.hid (show (F ++ (T ++ (⟨#[10]⟩ : ByteArray))).size ≤ 10002 by rw [ba_size, HN.out]; have := lF.out; omega)
            have HRn := Lib.hid (hR.out.trans HR.out.symm)
            clear HF HR lF lR
            generalize cw.toArray = ca at *
            go_wp2_with fail
            go_round
            case rel => exact ⟨k + 1, _, _, by go_num, by omega, rfl, rfl, HZ.out, hRz, HN, HRn⟩
            case measure => simp [intOf] <;> omega
          by_cases q1 : cw = kSky
          · have q1' : decide (cw = kSky) = true := by simp [q1]
            have q2' : decide (cw = kLight) = false := by simp [q2]
            have HF := Lib.hid (Y.out (by rw [q1']; simp))
            have HR := Lib.hid (Y2.out (by rw [q1']; simp))
            rw [q2'] at E2 T2
            rw [q1'] at E1 T1
            clear Y Y2 N N2 q2 q2' q1 q1'
            have HN : Hid ((F ++ (T ++ (⟨#[10]⟩ : ByteArray))).data.toList = fstT (outW ls) (k + 1)) := Lib.hid (by rw [ba_app, HF.out, hF.out])
            have HZ := Lib.hid (show (F ++ (T ++ (⟨#[10]⟩ : ByteArray))).size ≤ 10002 by rw [ba_size, HN.out]; have := lF.out; omega)
            have HRn := Lib.hid (hR.out.trans HR.out.symm)
            clear HF HR lF lR
            generalize cw.toArray = ca at *
            go_wp2_with fail
            go_round
            case rel => exact ⟨k + 1, _, _, by go_num, by omega, rfl, rfl, HZ.out, hRz, HN, HRn⟩
            case measure => simp [intOf] <;> omega
          · have q1' : decide (cw = kSky) = false := by simp [q1]
            have q2' : decide (cw = kLight) = false := by simp [q2]
            have HR := Lib.hid (N.out (by rw [q1', q2']; rfl))
            have HF := Lib.hid (N2.out (by rw [q1', q2']; rfl))
            rw [q2'] at E2 T2
            rw [q1'] at E1 T1
            clear Y Y2 N N2 q2 q2' q1 q1'
            have HN : Hid ((R ++ (T ++ (⟨#[10]⟩ : ByteArray))).data.toList = rstT (outW ls) (k + 1)) := Lib.hid (by rw [ba_app, HR.out, hR.out])
            have HZ := Lib.hid (show (R ++ (T ++ (⟨#[10]⟩ : ByteArray))).size ≤ 10002 by rw [ba_size, HN.out]; have := lR.out; omega)
            have HFn := Lib.hid (hF.out.trans HF.out.symm)
            clear HR HF lF lR
            generalize cw.toArray = ca at *
            go_wp2_with fail
            go_round
            case rel => exact ⟨k + 1, _, _, by go_num, by omega, rfl, rfl, hFz, HZ.out, HFn, HN⟩
            case measure => simp [intOf] <;> omega
    · obtain rfl : k = ls.length := by omega
      obtain ⟨o1, o2⟩ := hOT.out
      rw [← hWo.out, hlw.out, ← hF.out, ← hR.out, ← ba_app] at o1
      rw [← hWo.out, hlw.out, ← hF.out, ← hR.out, ← ba_app] at o2
      have c3 := Lib.hid (cP.out (F ++ R) (by rw [ByteArray.size_append]; omega) o1)
      have c4 := Lib.hid (cP.out (R ++ F) (by rw [ByteArray.size_append]; omega) o2)
      clear o1 o2 hOT hF hR hlw hWo cP hL hol hw1 hk hlt
      go_upto_region 23 with (first | (go_at_call 8; (with_reducible refine Calls.mono (c3.out _ ht3.out) ?_); rintro e W4 ⟨g4, val4, rfl, hb4, hR4⟩) | (refine wpList_val rfl _ _ (alloc_Scene _ _ rfl _) ?_) | (refine wpList_store_rowTo rfl 35 _ _ rfl rfl W4.heap.size (sceneV sc val4) rfl rfl 35 scZ (Blk.new _ _ _ _ rfl) infoSc rfl hR4.one ?_; rw [World.setRow_alloc_new]))
      have hW5 : Below W4.heap.size W4 (W4.alloc (.cells (sceneV sc val4) 35)) := bel_alloc (Below.refl _ _) _
      have KB5 : Blk (W4.alloc (.cells (sceneV sc val4) 35)) W4.heap.size 35 (sceneV sc val4) := Blk.new _ _ _ _ rfl
      generalize W4.alloc (.cells (sceneV sc val4) 35) = W5 at *
      have h35 := hb4.trans (hW5.mono hb4.size)
      have ht5 := ht3.out.below h35
      have hR5 := Lib.hid (hR4.below hW5)
      have hR35 := Lib.hid (hR3.out.below h35)
      have KB35 := Lib.hid (KB3.out.below h35)
      have h05 := Lib.hid (h03.out.trans (h35.mono h03.out.size))
      replace KB5 := Lib.hid KB5
      clear hW5 hb4 hR4 c3 h35 ht3 hR3 KB3 h03
      go_upto_region 24 with (first | (go_at_call 8; (with_reducible refine Calls.mono (c4.out _ ht5) ?_); rintro e W6 ⟨g6, val6, rfl, hb6, hR6⟩) | (refine wpList_val rfl _ _ (alloc_Scene _ _ rfl _) ?_) | (refine wpList_store_rowTo rfl 35 _ _ rfl rfl W6.heap.size (sceneV sc val6) rfl rfl 35 scZ (Blk.new _ _ _ _ rfl) infoSc rfl hR6.one ?_; rw [World.setRow_alloc_new]))
      have hW7 : Below W6.heap.size W6 (W6.alloc (.cells (sceneV sc val6) 35)) := bel_alloc (Below.refl _ _) _
      have KB7 : Blk (W6.alloc (.cells (sceneV sc val6) 35)) W6.heap.size 35 (sceneV sc val6) := Blk.new _ _ _ _ rfl
      generalize W6.alloc (.cells (sceneV sc val6) 35) = W7 at *
      have h57 := hb6.trans (hW7.mono hb6.size)
      have RC := Lib.hid (fun (W : World) (hb : Below W7.heap.size W7 W) => (hR6.below hW7).below hb)
      have RB := Lib.hid (fun (W : World) (hb : Below W7.heap.size W7 W) => (hR5.out.below h57).below hb)
      have RA := Lib.hid (fun (W : World) (hb : Below W7.heap.size W7 W) => (hR35.out.below h57).below hb)
      have LC := Lib.hid (fun (W : World) (hb : Below W7.heap.size W7 W) => range_all (KB7.below hb))
      have LB := Lib.hid (fun (W : World) (hb : Below W7.heap.size W7 W) => range_all ((KB5.out.below h57).below hb))
      have LA := Lib.hid (fun (W : World) (hb : Below W7.heap.size W7 W) => range_all ((KB35.out.below h57).below hb))
      have h07 := Lib.hid (h05.out.trans (h57.mono h05.out.size))
      clear hb6 hR6 hW7 KB7 h57 hR5 hR35 KB35 KB5 h05 c4 ht5
      have SB := Lib.hid (fun (W : World) (hb : Below W7.heap.size W7 W) => same_reps W hgood.out (RA.out W hb) (RB.out W hb))
      have SC := Lib.hid (fun (W : World) (hb : Below W7.heap.size W7 W) => same_reps W hgood.out (RA.out W hb) (RC.out W hb))
      clear RA RB RC
      go_wp2_with (first | (refine wpList_guarded (by rfl) (fun K6 hK6 => ?_); refine wp_load_mid 35 _ rfl W1.heap.size 0 rfl (sceneV sc val).toList _ (LA.out _ ?_) Tryd.underlying35 rfl infoSc (hK6 _ _ ?_); · (repeat (first | with_reducible exact Below.refl _ _ | with_reducible assumption | with_reducible refine bel_then ?_ _ | with_reducible refine bel_grow ?_ _ | with_reducible refine bel_alloc ?_ _ | with_reducible refine bel_drew ?_))) | (refine wpList_guarded (by rfl) (fun K6 hK6 => ?_); refine wp_load_mid 35 _ rfl W4.heap.size 0 rfl (sceneV sc val4).toList _ (LB.out _ ?_) Tryd.underlying35 rfl infoSc (hK6 _ _ ?_); · (repeat (first | with_reducible exact Below.refl _ _ | with_reducible assumption | with_reducible refine bel_then ?_ _ | with_reducible refine bel_grow ?_ _ | with_reducible refine bel_alloc ?_ _ | with_reducible refine bel_drew ?_))) | (refine wpList_guarded (by rfl) (fun K6 hK6 => ?_); refine wp_load_mid 35 _ rfl W6.heap.size 0 rfl (sceneV sc val6).toList _ (LC.out _ ?_) Tryd.underlying35 rfl infoSc (hK6 _ _ ?_); · (repeat (first | with_reducible exact Below.refl _ _ | with_reducible assumption | with_reducible refine bel_then ?_ _ | with_reducible refine bel_grow ?_ _ | with_reducible refine bel_alloc ?_ _ | with_reducible refine bel_drew ?_))) | (go_at_call 10; (with_reducible refine Calls.mono (SB.out _ ?_) ?_); (repeat (first | with_reducible exact Below.refl _ _ | with_reducible assumption | with_reducible refine bel_then ?_ _ | with_reducible refine bel_grow ?_ _ | with_reducible refine bel_alloc ?_ _ | with_reducible refine bel_drew ?_)); rintro e _ ⟨rfl, x8, rfl⟩) | (go_at_call 10; (with_reducible refine Calls.mono (SC.out _ ?_) ?_); (repeat (first | with_reducible exact Below.refl _ _ | with_reducible assumption | with_reducible refine bel_then ?_ _ | with_reducible refine bel_grow ?_ _ | with_reducible refine bel_alloc ?_ _ | with_reducible refine bel_drew ?_)); rintro e _ ⟨rfl, x9, rfl⟩))
      go_ret
      exact ⟨by simp, h07.out.trans (Below.mono (by repeat (first | with_reducible exact Below.refl _ _ | with_reducible assumption | with_reducible refine bel_then ?_ _ | with_reducible refine bel_grow ?_ _ | with_reducible refine bel_alloc ?_ _ | with_reducible refine bel_drew ?_)) h07.out.size)⟩
theorem walk (w : World) (s : ByteArray) (hs : s.size ≤ maxLen) (ht : Tabs w) : Calls Tryd.prog 5 #[.string s] w fun e w' => e = .returned (.bool true) ∧ Below w.heap.size w w' := by
  by_cases h1 : 5000 < s.size
  · exact walk_big w s h1 ht
  have h2 : (s.size : Int) ≤ 5000 := by omega
  cases q : sceneT s.data.toList with
  | error n => obtain ⟨n, k⟩ := n; exact walk_e w s h2 ht n k (sceneT_err q) q
  | ok sc => exact walk_o w s h2 ht sc q

theorem own : ownKnob Tryd.prog.godebug = none := by kernel_rfl
set_option maxRecDepth 100000 in
theorem lifted (os : Os) (started : os.Started) (H : Type) (enc : TypeId × Value → H) :
    ReturnsInHanded {} Tryd.checked os 5 .any (fun w args => (Rows.sceneOrderSpec.pre enc Tryd.prog Tryd.f5 [] false w args ∧ laidMetH Tryd.prog Rows.sceneOrderRow.laid w) ∧ sizedMet enc Tryd.prog Tryd.f5 (OpenSpec.ofChange Rows.sceneOrderSpec) false w args)
      (Rows.sceneOrderSpec.post enc Tryd.prog Tryd.f5 false true false false) := by
  refine returnsInHanded_of_calls (C := Tryd.checked) own started (by kernel_rfl)
    (ChangeSpec.witness_shaped (enc := enc) (C := Tryd.checked) (os := os) (X := fun w _ => laidMetH Tryd.prog Rows.sceneOrderRow.laid w) false (World.laidAll Tryd.prog os Rows.sceneOrderRow.laid) #[.string ByteArray.empty] 12 (World.laidAll_os _ _ _)
      (World.shaped_of_ZipB (by kernel_rfl) (by kernel_rfl)) (by kernel_rfl) (by kernel_rfl) (by kernel_rfl)
      (by rw [MakeChecks.laidMetH_plain _ _ _ (by kernel_rfl)]; exact laidMet_laidAll _ (by kernel_rfl) (by kernel_rfl))) ?_
  rintro w tape ⟨vars, args, fns⟩ _ hsh _ ⟨_, _, _, fn, hfn, _, _, _, _, hval⟩ ⟨⟨⟨ds, gs, before, hw, _⟩, hx⟩, _⟩ _
  obtain rfl := Option.some.inj (Tryd.func5.symm.trans hfn)
  have hW := DataW.Whole.of_heap (w' := w.forCall tape ⟨vars, args, fns⟩) (by rfl) hw
  have hL := laidMetH.of_heap (w' := w.forCall tape ⟨vars, args, fns⟩) (by rfl) hx
  rw [MakeChecks.laidMetH_plain _ _ _ (by kernel_rfl)] at hL
  have ht : Tabs (w.forCall tape ⟨vars, args, fns⟩) := tabs_of (by unfold Rows.sceneOrderRow; simp) hL hsh
  generalize w.forCall tape ⟨vars, args, fns⟩ = W at *
  have hW' := hW
  obtain ⟨p, q, hA0, hV, rfl, hfz, hnd⟩ := hW
  have hA : DataW.TrodAll enc Tryd.prog W 0 (fun _ => true) true Tryd.f5.params.toList args.toList ds p := hA0
  rw [Tryd.params5] at hA hval
  obtain ⟨v0, vs0, d0, ds0, p0, q0, hargs, rfl, rfl, h0, r0⟩ := trodAll_cons hA
  obtain ⟨rfl, rfl, rfl⟩ := trodAll_nil r0
  obtain rfl : args = #[v0] := by cases args; simp_all
  obtain ⟨s0, rfl, b0⟩ := open_Str (hval 0 9 v0 rfl rfl) h0
  refine (walk W s0 b0 ht).mono fun e W' ⟨he, hb⟩ => ?_
  subst he
  exact ChangeSpec.post_blind (law_post (tb := 4) (by kernel_rfl) (by kernel_rfl) rfl rfl Tryd.underlying4 rfl rfl rfl hW' hb)

theorem row : Rows.sceneOrderRow.holds Tryd.pinned (OpenSpec.ofChange Rows.sceneOrderSpec) :=
  OpenClaim.holds_of_wide 5 Tryd.f5 rfl rfl rfl rfl rfl rfl rfl ⟨rfl, rfl, rfl, rfl, rfl⟩ rfl rfl rfl rfl rfl (by kernel_rfl) Tryd.func5 (by kernel_rfl)
    (of_decide_eq_true (by kernel_rfl)) (by unfold Func.isWrapper; first | (rw [if_pos (by decide +kernel)]; kernel_rfl) | (rw [if_neg (by decide +kernel)]; exact ⟨rfl, rfl⟩))
    (fun os started H enc _ => lifted os started H enc)

theorem proved : Rows.SceneOrderCardSaid :=
  Claim7.holds_tied_plain_at .later [] [.data, .listed, .data, .pinned] true _ _ row (fun _ h => by cases h) (by kernel_rfl) (fun _ h => by cases h) sceneOrder_row_tie rfl ⟨rfl, rfl⟩ (by kernel_rfl) rfl
    (fun f fn hf hfn => by
      obtain rfl : f = 5 := Option.some.inj ((show Tryd.prog.funcNamed "relievo/relievolaw06.SceneOrder" = some 5 by kernel_rfl).symm.trans hf) |>.symm
      obtain rfl : fn = Tryd.f5 := (Option.some.inj (Tryd.func5.symm.trans hfn)).symm
      exact ⟨by kernel_rfl, fun j t hj => by
        have hm : t ∈ Tryd.f5.params.toList := by
          have := Array.mem_of_getElem? hj
          simpa using this
        have hall : (Tryd.f5.params.toList.all fun u => !Tryd.prog.wantsStandIn u) = true := by kernel_rfl
        exact (show Tryd.prog.wantsStandIn t = false by simpa using List.all_eq_true.1 hall t hm)⟩)
    (by kernel_rfl)
#print axioms proved
end Go.Proofs.YtehmlofhiffanaaDoor.sceneOrder
