/- SceneBounds holds for every input: the row, out of the walk; the card, tied. No condition but the row's own: the listed tables of the library read as the program's text lays them. -/
import Derived.Test.YtehmlofhiffanaaDoorRows
import Derived.Test.YtehmlofhiffanaaDoorCards
import Derived.Test.YtehmlofhiffanaaDoorTie
import Derived.Test.YtehmlofhiffanaaDoorTabsOf
import Derived.Test.YtehmlofhiffanaaDoorMScnL
import Derived.Test.YtehmlofhiffanaaDoorOpenS
import Derived.Test.YtehmlofhiffanaaDoorPost
import Derived.LaidMore
import Derived.Lay
import Derived.SevenTiedAt
namespace Go.Proofs.YtehmlofhiffanaaDoor.sceneBounds
open Go.ChangeShapes Go.WideShapes Go.ChangeAt Go.RowKit
set_option linter.unusedVariables false
set_option linter.unusedSimpArgs false
set_option linter.unnecessarySimpa false
theorem sizSk : (Tryd.prog.info? 42).map (·.size) = some 6 := by kernel_rfl
theorem sizCg : (Tryd.prog.info? 47).map (·.size) = some 3 := by kernel_rfl
def skZ : Array Value := #[.string ⟨#[]⟩, .int .i64 0, .int .i64 0, .int .i64 0, .int .i64 0, .int .i64 0]
def cgZ : Array Value := #[.slice none 0 0, .slice none 0 0, .slice none 0 0]
theorem alloc_Sk (a : Act) (o : Oper) (ho : o.op = .alloc 42) (w : World) : (execOp a.eval o).run Tryd.prog w = .ok (.value (.pointer (some ⟨w.heap.size, 0, none⟩))) (w.alloc (.cells skZ 42)) := by
  unfold execOp
  rw [ho]
  kernel_rfl
theorem alloc_Cg (a : Act) (o : Oper) (ho : o.op = .alloc 47) (w : World) : (execOp a.eval o).run Tryd.prog w = .ok (.value (.pointer (some ⟨w.heap.size, 0, none⟩))) (w.alloc (.cells cgZ 47)) := by
  unfold execOp
  rw [ho]
  kernel_rfl
def fSa (k : SkinM) : Array Value := #[.string ⟨k.name.toArray⟩, .int .i64 (k.mat : Int), .int .i64 k.levels, .int .i64 k.unit, .int .i64 k.tex, .int .i64 k.height]
def fCa (a b c : Value) : Array Value := #[a, b, c]
theorem cg_one {A1 A2 A3 : Option Addr} {n1 n2 n3 k1 k2 k3 : Nat} : (fCa (.slice A1 n1 k1) (.slice A2 n2 k2) (.slice A3 n3 k3)).all (·.oneCell') = true := by unfold fCa; simp [Value.oneCell']
theorem rangeAt_below {W W' : World} {b o : Nat} {l : List Value} (h : W.rangeAt b o l) (hb : b < W.heap.size) (hB : Below W.heap.size W W') : W'.rangeAt b o l := fun j v hj => (hB.cell (p := ⟨b, o + j, none⟩) hb).trans (h j v hj)
theorem cageAt_good {sc : Scn} (h : Good sc) {k : Nat} (hk : k < sc.cages.length) : GoodC (cageAt sc k) := by
  have e : cageAt sc k = sc.cages[k] := by unfold cageAt; simp [List.getD, hk]
  rw [e]
  exact h.cages _ (List.getElem_mem hk)
theorem fSa_one (k : SkinM) : (fSa k).all (·.oneCell') = true := by unfold fSa; simp [Value.oneCell']
theorem runS_err' : ∀ (l : List (Nat × List Wd)) (sc : Scn) (n k : Nat), runS sc l = .error (n, k) → 10 ≤ k
  | [], sc, n, k, h => by unfold runS at h; cases h
  | q :: l, sc, n, k, h => by
    unfold runS at h
    cases e : lineF sc q.2 with
    | error j => rw [e] at h; injection h with h; injection h with _ h; subst h; exact (line_err e).1
    | ok s2 => rw [e] at h; exact runS_err' l s2 n k h
theorem sceneT_err' {l : List UInt8} {n k : Nat} (h : sceneT l = .error (n, k)) : 10 ≤ k := by
  unfold sceneT at h
  cases q : linesP 1 [] (spl l) with
  | error m => rw [q] at h; injection h with h; injection h with _ h; omega
  | ok o =>
    rw [q] at h
    simp only at h
    unfold sceneF at h
    cases r : runS scn0 (toW o) with
    | error m =>
      rw [r] at h
      injection h with h
      rw [h] at r
      exact runS_err' _ _ _ _ r
    | ok s2 =>
      rw [r] at h
      simp only at h
      split at h
      · cases h
      · injection h with h; injection h with _ h; omega
theorem infoCam : (Tryd.prog.info? 26).map (·.size) = some 16 := by kernel_rfl
theorem build_Cam (a : Act) (o : Oper) (ho : o.op = .build 26 #[]) (w : World) : (execOp a.eval o).run Tryd.prog w = .ok (.value (.agg #[.int .i64 0, .int .i64 0, .int .i64 0, .int .i64 0, .int .i64 0, .int .i64 0, .int .i64 0, .int .i64 0, .int .i64 0, .int .i64 0, .int .i64 0, .int .i64 0, .int .i64 0, .int .i64 0, .int .i64 0, .int .i64 0])) w := by
  unfold execOp
  rw [ho]
  kernel_rfl
theorem alloc_Cam (a : Act) (o : Oper) (ho : o.op = .alloc 26) (w : World) : (execOp a.eval o).run Tryd.prog w = .ok (.value (.pointer (some ⟨w.heap.size, 0, none⟩))) (w.alloc (.cells #[.int .i64 0, .int .i64 0, .int .i64 0, .int .i64 0, .int .i64 0, .int .i64 0, .int .i64 0, .int .i64 0, .int .i64 0, .int .i64 0, .int .i64 0, .int .i64 0, .int .i64 0, .int .i64 0, .int .i64 0, .int .i64 0] 26)) := by
  unfold execOp
  rw [ho]
  kernel_rfl
theorem range_take {b : Nat} {W : World} {t : TypeId} {cs : Array Value} (h : Blk W b t cs) (l : List Value) (hl : ∀ (j : Nat) (v : Value), l[j]? = some v → cs[j]? = some v) : W.rangeAt b 0 l := fun j v hj => by
  rw [Nat.zero_add, h.cell j]
  exact hl j v hj
theorem zcam_range (j : Nat) (v : Value) (h : ([.int .i64 0, .int .i64 0, .int .i64 0, .int .i64 0, .int .i64 0, .int .i64 0, .int .i64 0, .int .i64 0, .int .i64 0, .int .i64 0, .int .i64 0, .int .i64 0, .int .i64 0, .int .i64 0, .int .i64 0, .int .i64 0] : List Value)[j]? = some v) : scZ[j]? = some v := by
  have hj : j < 16 := (List.getElem?_eq_some_iff.1 h).1
  rcases j with _ | _ | _ | _ | _ | _ | _ | _ | _ | _ | _ | _ | _ | _ | _ | _ | j <;> first | exact h | omega
theorem vcam_range (sc : Scn) (val : Key → Value) (j : Nat) (v : Value) (h : ([.int .i64 ((camN sc).getD 0 0), .int .i64 ((camN sc).getD 1 0), .int .i64 ((camN sc).getD 2 0), .int .i64 ((camN sc).getD 3 0), .int .i64 ((camN sc).getD 4 0), .int .i64 ((camN sc).getD 5 0), .int .i64 ((camN sc).getD 6 0), .int .i64 ((camN sc).getD 7 0), .int .i64 ((camN sc).getD 8 0), .int .i64 ((camN sc).getD 9 0), .int .i64 ((camN sc).getD 10 0), .int .i64 ((camN sc).getD 11 0), .int .i64 ((camN sc).getD 12 0), .int .i64 ((camN sc).getD 13 0), .int .i64 ((camN sc).getD 14 0), .int .i64 ((camN sc).getD 15 0)] : List Value)[j]? = some v) : (sceneV sc val)[j]? = some v := by
  have hj : j < 16 := (List.getElem?_eq_some_iff.1 h).1
  rcases j with _ | _ | _ | _ | _ | _ | _ | _ | _ | _ | _ | _ | _ | _ | _ | _ | j <;> first | exact h | omega
set_option maxRecDepth 100000 in
set_option maxHeartbeats 4000000 in
theorem walk_e (w : World) (s : ByteArray) (h' : (s.size : Int) ≤ 8000) (ht : Tabs w) (n k : Nat) (hk : 10 ≤ k) (hsc : sceneT s.data.toList = .error (n, k)) : Calls Tryd.prog 4 #[.string s] w fun e w' => e = .returned (.bool true) ∧ Below w.heap.size w w' := by
  have cA := alive6_any w ht
  have c1 : ∀ w : World, Tabs w → Calls Tryd.prog 8 #[.string s] w fun e w' => e = .returned (.tuple #[.agg scZ, .int .i64 (n : Int), .int .i64 (k : Int)]) ∧ Below w.heap.size w w' := fun w ht => by
    refine (parse_any w s (by omega) ht).mono ?_
    rintro e w' ⟨hb, hp⟩
    rw [hsc] at hp
    exact ⟨hp, hb⟩
  have e1 : ((k : Int) == 0) = false := by simp; omega
  have e2 : ¬ (k : Int) = 0 := by omega
  replace c1 := Lib.hid c1
  clear hsc hk
  go_enter Tryd.func4, Tryd.ntmps4
  go_upto_region 6 with (first | (go_at_call 7; (with_reducible refine Calls.mono cA ?_); rintro e w1 ⟨rfl, hb1⟩) | (go_at_call 8; (with_reducible refine Calls.mono (c1.out _ (ht.below hb1)) ?_); rintro e W1 ⟨rfl, hb2⟩) | (refine wpList_val rfl _ _ (alloc_Scene _ _ rfl _) ?_) | (refine wpList_store_rowTo rfl 35 _ _ rfl rfl W1.heap.size (scZ) rfl rfl 35 scZ (Blk.new _ _ _ _ rfl) infoSc rfl scZ_one ?_))
  have hW2 : Below W1.heap.size W1 (W1.alloc (.cells scZ 35)) := bel_alloc (Below.refl _ _) _
  have KB : Blk (W1.alloc (.cells scZ 35)) W1.heap.size 35 scZ := Blk.new _ _ _ _ rfl
  generalize W1.alloc (.cells scZ 35) = W2 at *
  have h02 := Lib.hid (hb1.trans ((hb2.trans (hW2.mono hb2.size)).mono hb1.size))
  have d23 : W2.cell? ⟨W1.heap.size, 23, none⟩ = some (.slice none 0 0) := KB.cell 23
  have z0 : W2.cell? ⟨W1.heap.size, 0, none⟩ = some (.int .i64 0) := KB.cell 0
  have z1 : W2.cell? ⟨W1.heap.size, 1, none⟩ = some (.int .i64 0) := KB.cell 1
  have z2 : W2.cell? ⟨W1.heap.size, 2, none⟩ = some (.int .i64 0) := KB.cell 2
  have z3 : W2.cell? ⟨W1.heap.size, 3, none⟩ = some (.int .i64 0) := KB.cell 3
  have z4 : W2.cell? ⟨W1.heap.size, 4, none⟩ = some (.int .i64 0) := KB.cell 4
  have z5 : W2.cell? ⟨W1.heap.size, 5, none⟩ = some (.int .i64 0) := KB.cell 5
  have z6 : W2.cell? ⟨W1.heap.size, 6, none⟩ = some (.int .i64 0) := KB.cell 6
  have z7 : W2.cell? ⟨W1.heap.size, 7, none⟩ = some (.int .i64 0) := KB.cell 7
  have z8 : W2.cell? ⟨W1.heap.size, 8, none⟩ = some (.int .i64 0) := KB.cell 8
  have z9 : W2.cell? ⟨W1.heap.size, 9, none⟩ = some (.int .i64 0) := KB.cell 9
  have z10 : W2.cell? ⟨W1.heap.size, 10, none⟩ = some (.int .i64 0) := KB.cell 10
  have z11 : W2.cell? ⟨W1.heap.size, 11, none⟩ = some (.int .i64 0) := KB.cell 11
  have z12 : W2.cell? ⟨W1.heap.size, 12, none⟩ = some (.int .i64 0) := KB.cell 12
  have z13 : W2.cell? ⟨W1.heap.size, 13, none⟩ = some (.int .i64 0) := KB.cell 13
  have z14 : W2.cell? ⟨W1.heap.size, 14, none⟩ = some (.int .i64 0) := KB.cell 14
  have z15 : W2.cell? ⟨W1.heap.size, 15, none⟩ = some (.int .i64 0) := KB.cell 15
  clear KB hW2 hb1 hb2 c1 cA
  go_wp2_with (first | (refine wpList_val rfl _ _ (build_Cam _ _ rfl _) ?_))
  go_ret
  exact ⟨by simp, h02.out⟩
def camV (sc : Scn) : Array Value := #[.int .i64 ((camN sc).getD 0 0), .int .i64 ((camN sc).getD 1 0), .int .i64 ((camN sc).getD 2 0), .int .i64 ((camN sc).getD 3 0), .int .i64 ((camN sc).getD 4 0), .int .i64 ((camN sc).getD 5 0), .int .i64 ((camN sc).getD 6 0), .int .i64 ((camN sc).getD 7 0), .int .i64 ((camN sc).getD 8 0), .int .i64 ((camN sc).getD 9 0), .int .i64 ((camN sc).getD 10 0), .int .i64 ((camN sc).getD 11 0), .int .i64 ((camN sc).getD 12 0), .int .i64 ((camN sc).getD 13 0), .int .i64 ((camN sc).getD 14 0), .int .i64 ((camN sc).getD 15 0)]
theorem camV_one (sc : Scn) : (camV sc).all (·.oneCell') = true := by unfold camV; simp [Value.oneCell']
set_option maxRecDepth 100000 in
set_option maxHeartbeats 8000000 in
theorem walk_o (w : World) (s : ByteArray) (h' : (s.size : Int) ≤ 8000) (ht : Tabs w) (sc : Scn) (hsc : sceneT s.data.toList = .ok sc) : Calls Tryd.prog 4 #[.string s] w fun e w' => e = .returned (.bool true) ∧ Below w.heap.size w w' := by
  have cA := alive6_any w ht
  obtain ⟨hi, hcam⟩ := sceneT_inv hsc
  have hgood := Lib.hid (sceneT_good hsc).1
  have c1 : ∀ w : World, Tabs w → Calls Tryd.prog 8 #[.string s] w fun e w' => ∃ g val, e = .returned (.tuple #[.agg (sceneV sc val), .int .i64 0, .int .i64 0]) ∧ Below w.heap.size w w' ∧ RepV g w' g 57 sc val := fun w ht => by
    refine (parse_any w s (by omega) ht).mono ?_
    rintro e w' ⟨hb, hp⟩
    rw [hsc] at hp
    obtain ⟨g, val, he, _, hR⟩ := hp
    exact ⟨g, val, he, hb, hR⟩
  replace c1 := Lib.hid c1
  clear hsc
  have hnum : (1 ≤ (camN sc).getD 12 0 ∧ (camN sc).getD 12 0 ≤ 64) ∧ (1 ≤ (camN sc).getD 13 0 ∧ (camN sc).getD 13 0 ≤ 64) ∧ (1 ≤ (camN sc).getD 14 0 ∧ (camN sc).getD 14 0 ≤ 4) ∧ 0 ≤ (camN sc).getD 15 0 ∧ (camN sc).getD 15 0 ≤ 8 := by
    unfold camN
    cases q : sc.cam with
    | none => exact absurd q hcam
    | some n => exact (hi.cam n q).2
  replace hnum := Lib.hid hnum
  go_enter Tryd.func4, Tryd.ntmps4
  go_upto_region 8 with (first | (go_at_call 7; (with_reducible refine Calls.mono cA ?_); rintro e w1 ⟨rfl, hb1⟩) | (go_at_call 8; (with_reducible refine Calls.mono (c1.out _ (ht.below hb1)) ?_); rintro e W1 ⟨g, val, rfl, hb2, hR⟩) | (refine wpList_val rfl _ _ (alloc_Scene _ _ rfl _) ?_) | (refine wpList_store_rowTo rfl 35 _ _ rfl rfl W1.heap.size (sceneV sc val) rfl rfl 35 scZ (Blk.new _ _ _ _ rfl) infoSc rfl hR.one ?_))
  have hW2 : Below W1.heap.size W1 (W1.alloc (.cells (sceneV sc val) 35)) := bel_alloc (Below.refl _ _) _
  have KB : Blk (W1.alloc (.cells (sceneV sc val) 35)) W1.heap.size 35 (sceneV sc val) := Blk.new _ _ _ _ rfl
  generalize W1.alloc (.cells (sceneV sc val) 35) = W2 at *
  have h02 := hb1.trans ((hb2.trans (hW2.mono hb2.size)).mono hb1.size)
  have hR2 := hR.below hW2
  have rng := Lib.hid (show W2.rangeAt W1.heap.size 0 (camV sc).toList from range_take KB (camV sc).toList (vcam_range sc val))
  replace hi := Lib.hid hi
  go_upto_region 9 with (first | (refine wpList_load_mid rfl 26 _ rfl W1.heap.size (0) rfl ((camV sc).toList) _ rng.out Tryd.underlying26 rfl infoCam ?_) | (refine wpList_val rfl _ _ (alloc_Cam _ _ rfl _) ?_) | (refine wpList_store_rowTo rfl 26 _ _ rfl rfl W2.heap.size (camV sc) rfl rfl 26 (#[.int .i64 0, .int .i64 0, .int .i64 0, .int .i64 0, .int .i64 0, .int .i64 0, .int .i64 0, .int .i64 0, .int .i64 0, .int .i64 0, .int .i64 0, .int .i64 0, .int .i64 0, .int .i64 0, .int .i64 0, .int .i64 0]) (Blk.new _ _ _ _ rfl) infoCam rfl (camV_one sc) ?_; rw [World.setRow_alloc_new]))
  have hW3 : Below W2.heap.size W2 (W2.alloc (.cells (camV sc) 26)) := bel_alloc (Below.refl _ _) _
  have KC : Blk (W2.alloc (.cells (camV sc) 26)) W2.heap.size 26 (camV sc) := Blk.new _ _ _ _ rfl
  generalize W2.alloc (.cells (camV sc) 26) = W3 at *
  have KB3 := KB.below hW3
  have hR3 := hR2.below hW3
  have h03 := Lib.hid (h02.trans (hW3.mono h02.size))
  obtain ⟨A1, k1, f1⟩ := own_form (show W3.ownsRow g 65 9 (val .mats) sc.mats.length _ from hR3.own.row .mats)
  obtain ⟨A2, k2, f2⟩ := own_form (show W3.ownsRow g 67 4 (val .texs) sc.texs.length _ from hR3.own.row .texs)
  obtain ⟨A3, k3, f3⟩ := own_form (show W3.ownsRow g 42 6 (val .skins) sc.skins.length _ from hR3.own.row .skins)
  obtain ⟨A4, k4, f4⟩ := own_form (show W3.ownsRow g 47 3 (val .cages) sc.cages.length _ from hR3.own.row .cages)
  have d20 : W3.cell? ⟨W1.heap.size, 20, none⟩ = some (val .mats) := KB3.cell 20
  have d21 : W3.cell? ⟨W1.heap.size, 21, none⟩ = some (val .texs) := KB3.cell 21
  have d22 : W3.cell? ⟨W1.heap.size, 22, none⟩ = some (val .skins) := KB3.cell 22
  have d23 : W3.cell? ⟨W1.heap.size, 23, none⟩ = some (val .cages) := KB3.cell 23
  have hq22 := Lib.hid d22
  have hq23 := Lib.hid d23
  have hlt3 : W1.heap.size < W3.heap.size := KB3.lt
  rw [f1] at d20
  rw [f2] at d21
  rw [f3, hi.out.skins.1] at d22
  rw [f4] at d23
  have c12 : W3.cell? ⟨W2.heap.size, 12, none⟩ = some (.int .i64 ((camN sc).getD 12 0)) := KC.cell 12
  have c13 : W3.cell? ⟨W2.heap.size, 13, none⟩ = some (.int .i64 ((camN sc).getD 13 0)) := KC.cell 13
  have c14 : W3.cell? ⟨W2.heap.size, 14, none⟩ = some (.int .i64 ((camN sc).getD 14 0)) := KC.cell 14
  have c15 : W3.cell? ⟨W2.heap.size, 15, none⟩ = some (.int .i64 ((camN sc).getD 15 0)) := KC.cell 15
  obtain ⟨⟨n1, n2⟩, ⟨n3, n4⟩, ⟨n5, n6⟩, n7, n8⟩ := hnum.out
  have n9 : (sc.cages.length : Int) ≤ 8 := by have := hi.out.skins.2; omega
  clear KC KB3 KB hW3 hW2 hR hR2 rng h02 hb1 hb2 c1 cA f1 f2 f3 f4 ht
  generalize (camN sc).getD 12 0 = x12 at *
  generalize (camN sc).getD 13 0 = x13 at *
  generalize (camN sc).getD 14 0 = x14 at *
  generalize (camN sc).getD 15 0 = x15 at *
  replace hR3 := Lib.hid hR3
  have m0 : (0 : Int) ≤ (sc.mats.length : Int) := by omega
  go_wp2_with fail
  go_loopw [7] (fun i wr => ∃ k : Nat, i = .int .i64 (k : Int) ∧ k ≤ sc.cages.length ∧ Hid (Below W3.heap.size W3 wr)) (fun i _ => sc.cages.length - (intOf i).toNat)
  case atStart => exact ⟨0, rfl, by omega, Lib.hid (Below.refl _ _)⟩
  case round =>
    obtain ⟨k, rfl, hk, hbw⟩ := hrel
    have cw : ∀ i, wr.cell? ⟨W1.heap.size, i, none⟩ = W3.cell? ⟨W1.heap.size, i, none⟩ := fun i => hbw.out.cell (p := ⟨W1.heap.size, i, none⟩) hlt3
    have e20 := (cw 20).trans d20
    have e21 := (cw 21).trans d21
    have e22 := (cw 22).trans d22
    have e23 := (cw 23).trans d23
    clear d20 d21 d22 d23 c12 c13 c14 c15
    have h22 := (cw 22).trans hq22.out
    have h23 := (cw 23).trans hq23.out
    replace cw := Lib.hid cw
    have hlt1 : W1.heap.size < wr.heap.size := Nat.lt_of_lt_of_le hlt3 hbw.out.size
    by_cases hlt : k < sc.cages.length
    · clear e22 e23
      have hR := hR3.out.below hbw.out
      obtain ⟨bs, ns, es, rs⟩ := hR.skin_at k (by rw [hi.out.skins.1]; exact hlt)
      obtain ⟨bc, nc, ec, rc⟩ := hR.cage_at k hlt
      rw [es, hi.out.skins.1] at h22
      rw [ec] at h23
      replace es := Lib.hid es
      replace ec := Lib.hid ec
      have hbs : bs < wr.heap.size := by
        have := hR.own.row .skins |>.lt bs (by show (val .skins).ownBlock = _; rw [es.out]; rfl)
        exact this.2
      have hbc : bc < wr.heap.size := by
        have := hR.own.row .cages |>.lt bc (by show (val .cages).ownBlock = _; rw [ec.out]; rfl)
        exact this.2
      obtain ⟨s1, s2, s3, s4, s5, s6⟩ := hi.out.skin (sc.skins[k]'(by rw [hi.out.skins.1]; exact hlt)) (List.getElem_mem _)
      obtain ⟨v1, v2, v3⟩ := inv_cage hi.out k hlt
      obtain ⟨AV, kV, fV⟩ := hR.vert_form k
      obtain ⟨AF, kF, fF⟩ := hR.face_form k
      obtain ⟨AC, kC, fC'⟩ := own_form (show wr.ownsRow g 76 3 (val (.crease k)) (cageAt sc k).creases.length _ from hR.own.row (.crease k))
      rw [fV, fF, fC'] at rc
      replace rc := Lib.hid rc
      replace rs := Lib.hid rs
      replace hR := Lib.hid hR
      replace v3 := Lib.hid v3
      have k0 : (0 : Int) ≤ (k : Int) := by omega
      have k1 : (k : Int) < (sc.cages.length : Int) := by omega
      generalize sc.skins[k]'(by rw [hi.out.skins.1]; exact hlt) = sk at *
      have t0 : (0 : Int) ≤ (sk.mat : Int) := by omega
      have t1 : (sk.mat : Int) < (sc.mats.length : Int) := by omega
      clear s1
      go_upto_region 15 with (first | (refine wpList_load_mid rfl 42 _ rfl _ _ rfl ((fSa sk).toList) _ ?_ Tryd.underlying42 rfl sizSk ?_; · (first | exact rs.out | (rw [Nat.zero_add]; exact rs.out))) | (refine wpList_val rfl _ _ (alloc_Sk _ _ rfl _) ?_) | (refine wpList_store_rowTo rfl 42 _ _ rfl rfl wr.heap.size (fSa sk) rfl rfl 42 skZ (Blk.new _ _ _ _ rfl) sizSk rfl (fSa_one sk) ?_; rw [World.setRow_alloc_new]))
      have hb4 : Below wr.heap.size wr (wr.alloc (.cells (fSa sk) 42)) := bel_alloc (Below.refl _ _) _
      have KS : Blk (wr.alloc (.cells (fSa sk) 42)) wr.heap.size 42 (fSa sk) := Blk.new _ _ _ _ rfl
      have f20 := (hb4.cell (p := ⟨W1.heap.size, 20, none⟩) hlt1).trans e20
      have f21 := (hb4.cell (p := ⟨W1.heap.size, 21, none⟩) hlt1).trans e21
      have f23 := (hb4.cell (p := ⟨W1.heap.size, 23, none⟩) hlt1).trans h23
      have rc4 := Lib.hid (rangeAt_below rc.out hbc hb4)
      have hR4 := Lib.hid (hR.out.below hb4)
      have hbw4 := Lib.hid (hbw.out.trans (hb4.mono hbw.out.size))
      have hbc4 : bc < (wr.alloc (.cells (fSa sk) 42)).heap.size := Nat.lt_of_lt_of_le hbc hb4.size
      have g1 : (wr.alloc (.cells (fSa sk) 42)).cell? ⟨wr.heap.size, 1, none⟩ = some (.int .i64 (sk.mat : Int)) := KS.cell 1
      have g2 : (wr.alloc (.cells (fSa sk) 42)).cell? ⟨wr.heap.size, 2, none⟩ = some (.int .i64 sk.levels) := KS.cell 2
      have g3 : (wr.alloc (.cells (fSa sk) 42)).cell? ⟨wr.heap.size, 3, none⟩ = some (.int .i64 sk.unit) := KS.cell 3
      have g4 : (wr.alloc (.cells (fSa sk) 42)).cell? ⟨wr.heap.size, 4, none⟩ = some (.int .i64 sk.tex) := KS.cell 4
      clear e20 e21 h22 h23 hb4 KS rc rs hR hbw hbs hbc
      generalize wr.alloc (.cells (fSa sk) 42) = W4 at *
      generalize (sk.mat : Int) = y1 at *
      generalize sk.levels = y2 at *
      generalize sk.unit = y3 at *
      generalize sk.tex = y4 at *
      go_upto_region 17 with fail
      clear g1 g2 g3 g4 f20 f21 t0 t1 s2 s3 s4 s5 s6
      go_upto_region 18 with (first | (refine wpList_load_mid rfl 47 _ rfl _ _ rfl ([.slice AV (cageAt sc k).verts.length kV, .slice AF (cageAt sc k).faces.length kF, (.slice AC (cageAt sc k).creases.length kC)]) _ ?_ Tryd.underlying47 rfl sizCg ?_; · (first | exact rc4.out | (rw [Nat.zero_add]; exact rc4.out))) | (refine wpList_val rfl _ _ (alloc_Cg _ _ rfl _) ?_) | (refine wpList_store_rowTo rfl 47 _ _ rfl rfl W4.heap.size (fCa (.slice AV (cageAt sc k).verts.length kV) (.slice AF (cageAt sc k).faces.length kF) (.slice AC (cageAt sc k).creases.length kC)) rfl rfl 47 cgZ (Blk.new _ _ _ _ rfl) sizCg rfl cg_one ?_; rw [World.setRow_alloc_new]))
      have hb5 : Below W4.heap.size W4 (W4.alloc (.cells (fCa (.slice AV (cageAt sc k).verts.length kV) (.slice AF (cageAt sc k).faces.length kF) (.slice AC (cageAt sc k).creases.length kC)) 47)) := bel_alloc (Below.refl _ _) _
      have KG : Blk (W4.alloc (.cells (fCa (.slice AV (cageAt sc k).verts.length kV) (.slice AF (cageAt sc k).faces.length kF) (.slice AC (cageAt sc k).creases.length kC)) 47)) W4.heap.size 47 (fCa (.slice AV (cageAt sc k).verts.length kV) (.slice AF (cageAt sc k).faces.length kF) (.slice AC (cageAt sc k).creases.length kC)) := Blk.new _ _ _ _ rfl
      generalize W4.alloc (.cells (fCa (.slice AV (cageAt sc k).verts.length kV) (.slice AF (cageAt sc k).faces.length kF) (.slice AC (cageAt sc k).creases.length kC)) 47) = W5 at *
      have g0 : W5.cell? ⟨W4.heap.size, 0, none⟩ = some (.slice AV (cageAt sc k).verts.length kV) := KG.cell 0
      have g1 : W5.cell? ⟨W4.heap.size, 1, none⟩ = some (.slice AF (cageAt sc k).faces.length kF) := KG.cell 1
      have hlt4 := KG.lt
      have hR5 := Lib.hid (hR4.out.below hb5)
      have hbw5 := Lib.hid (hbw4.out.trans (hb5.mono hbw4.out.size))
      clear f23 hb5 KG rc4 hR4 hbw4 hbc4
      have v1' : ((cageAt sc k).verts.length : Int) ≤ 64 := by omega
      have v2' : ((cageAt sc k).faces.length : Int) ≤ 64 := by omega
      replace fF := Lib.hid fF
      replace fV := Lib.hid fV
      have G0 := Lib.hid g0
      have G1 := Lib.hid g1
      go_wp2_with fail
      go_loopw [10] (fun i wq => ∃ f : Nat, i = .int .i64 (f : Int) ∧ f ≤ (cageAt sc k).faces.length ∧ Hid (Below W5.heap.size W5 wq)) (fun i _ => (cageAt sc k).faces.length - (intOf i).toNat)
      case atStart => exact ⟨0, rfl, by omega, Lib.hid (Below.refl _ _)⟩
      case round =>
        obtain ⟨f, rfl, hf, hbq⟩ := hrel
        rename World => wq
        clear g0 g1
        have g1q := (hbq.out.cell (p := ⟨W4.heap.size, 1, none⟩) hlt4).trans G1.out
        by_cases hlf : f < (cageAt sc k).faces.length
        · have hRq := hR5.out.below hbq.out
          obtain ⟨bf, cf, ef, cellf, hbf⟩ := hRq.face_at k f hlf
          obtain ⟨AR, kR, fR⟩ := hRq.frow_form k f
          obtain ⟨L, hLe⟩ : ∃ L : Nat, L = ((cageAt sc k).faces.getD f []).length := ⟨_, rfl⟩
          rw [← hLe] at fR
          have hL8 : (L : Int) ≤ 8 := by
            have h1 := good_face (cageAt_good hgood.out hlt) f
            rw [hLe]; omega
          replace hLe := Lib.hid hLe
          rw [ef] at fF
          obtain ⟨rfl, rfl⟩ : AF = some ⟨bf, 0, none⟩ ∧ kF = cf := by
            have := fF.out
            injection this with t1 t2 t3
            exact ⟨t1.symm, t3.symm⟩
          clear fF
          have cellf0 := Lib.hid cellf
          have q0 : (0 : Int) ≤ (f : Int) := by omega
          have q1 : (f : Int) < ((cageAt sc k).faces.length : Int) := by omega
          clear ef hRq cellf
          replace fR := Lib.hid fR
          have qh := Lib.hid g1q
          have hltq : W4.heap.size < wq.heap.size := Nat.lt_of_lt_of_le hlt4 hbq.out.size
          go_wp2_with fail
          go_loopw [11] (fun i wp => ∃ j : Nat, i = .int .i64 (j : Int) ∧ j ≤ L ∧ Hid (Below wq.heap.size wq wp)) (fun i _ => L - (intOf i).toNat)
          case atStart => exact ⟨0, rfl, by omega, Lib.hid (Below.refl _ _)⟩
          case round =>
            obtain ⟨j, rfl, hj, hbp⟩ := hrel
            rename World => wp
            clear g1q
            have g1p := (hbp.out.cell (p := ⟨W4.heap.size, 1, none⟩) hltq).trans qh.out
            have g0p := (hbp.out.cell (p := ⟨W4.heap.size, 0, none⟩) hltq).trans ((hbq.out.cell (p := ⟨W4.heap.size, 0, none⟩) hlt4).trans G0.out)
            have cellp := (hbp.out.cell (p := ⟨bf, f, none⟩) hbf).trans cellf0.out
            rw [fR.out] at cellp
            by_cases hlj : j < L
            · have hRp := (hR5.out.below hbq.out).below hbp.out
              obtain ⟨br, off, cr, er, cellr⟩ := hRp.frow_at k f j (by rw [← hLe.out]; exact hlj)
              rw [← hLe.out] at er
              have fRR := fR.out
              rw [er] at fRR
              obtain ⟨rfl, rfl⟩ : AR = some ⟨br, off, none⟩ ∧ kR = cr := by
                injection fRR with t1 t2 t3
                exact ⟨t1.symm, t3.symm⟩
              obtain ⟨x0, x1⟩ := v3.out f j hlf (by rw [← hLe.out]; exact hlj)
              have j0 : (0 : Int) ≤ (j : Int) := by omega
              have j1 : (j : Int) < (L : Int) := by omega
              clear fRR er hRp
              generalize ((cageAt sc k).faces.getD f []).getD j 0 = x at *
              have d0 : decide (x < 0) = false := by simpa using x0
              have d1 : decide (((cageAt sc k).verts.length : Int) ≤ x) = false := by simpa using x1
              go_upto_region 26 with fail
              go_quiet (fail)
              go_wp2_with fail
              go_roundw
              case rel => exact ⟨j + 1, by go_num, by omega, Lib.hid (bel_drewN hbp.out _)⟩
              case measure => simp [intOf] <;> omega
            · obtain rfl : j = L := by omega
              go_wp2_with fail
              go_roundw
              case rel => exact ⟨f + 1, by go_num, by omega, Lib.hid (hbq.out.trans (hbp.out.mono hbq.out.size))⟩
              case measure => simp [intOf] <;> omega
        · obtain rfl : f = (cageAt sc k).faces.length := by omega
          have f64 : (k : Int) ≤ 8 := by omega
          go_wp2_with fail
          go_roundw
          case rel => exact ⟨k + 1, by go_num, by omega, Lib.hid (hbw5.out.trans (hbq.out.mono hbw5.out.size))⟩
          case measure => simp [intOf] <;> omega
    · clear h22 h23
      obtain rfl : k = sc.cages.length := by omega
      have hEnd := Lib.hid (h03.out.trans (hbw.out.mono h03.out.size))
      go_wp2_with fail
      go_ret
      exact ⟨by simp, hEnd.out⟩
set_option maxRecDepth 100000 in
set_option maxHeartbeats 4000000 in
theorem walk_big (w : World) (s : ByteArray) (h1 : 8000 < s.size) (ht : Tabs w) : Calls Tryd.prog 4 #[.string s] w fun e w' => e = .returned (.bool true) ∧ Below w.heap.size w w' := by
  have cA := alive6_any w ht
  have h' : (8000 : Int) < (s.size : Int) := by omega
  go_enter Tryd.func4, Tryd.ntmps4
  go_wp2_with (first | (go_at_call 7; (with_reducible refine Calls.mono cA ?_); rintro e w1 ⟨rfl, hb1⟩))
  go_ret
  exact ⟨rfl, (by repeat (first | with_reducible exact Below.refl _ _ | with_reducible assumption | with_reducible refine bel_then ?_ _ | with_reducible refine bel_grow ?_ _ | with_reducible refine bel_alloc ?_ _ | with_reducible refine bel_drew ?_))⟩
theorem walk (w : World) (s : ByteArray) (hs : s.size ≤ maxLen) (ht : Tabs w) : Calls Tryd.prog 4 #[.string s] w fun e w' => e = .returned (.bool true) ∧ Below w.heap.size w w' := by
  by_cases h1 : 8000 < s.size
  · exact walk_big w s h1 ht
  have h2 : (s.size : Int) ≤ 8000 := by omega
  cases q : sceneT s.data.toList with
  | error n => obtain ⟨n, k⟩ := n; exact walk_e w s h2 ht n k (sceneT_err' q) q
  | ok sc => exact walk_o w s h2 ht sc q

theorem own : ownKnob Tryd.prog.godebug = none := by kernel_rfl
set_option maxRecDepth 100000 in
theorem lifted (os : Os) (started : os.Started) (H : Type) (enc : TypeId × Value → H) :
    ReturnsInHanded {} Tryd.checked os 4 .any (fun w args => (Rows.sceneBoundsSpec.pre enc Tryd.prog Tryd.f4 [] false w args ∧ laidMetH Tryd.prog Rows.sceneBoundsRow.laid w) ∧ sizedMet enc Tryd.prog Tryd.f4 (OpenSpec.ofChange Rows.sceneBoundsSpec) false w args)
      (Rows.sceneBoundsSpec.post enc Tryd.prog Tryd.f4 false true false false) := by
  refine returnsInHanded_of_calls (C := Tryd.checked) own started (by kernel_rfl)
    (ChangeSpec.witness_shaped (enc := enc) (C := Tryd.checked) (os := os) (X := fun w _ => laidMetH Tryd.prog Rows.sceneBoundsRow.laid w) false (World.laidAll Tryd.prog os Rows.sceneBoundsRow.laid) #[.string ByteArray.empty] 12 (World.laidAll_os _ _ _)
      (World.shaped_of_ZipB (by kernel_rfl) (by kernel_rfl)) (by kernel_rfl) (by kernel_rfl) (by kernel_rfl)
      (by rw [MakeChecks.laidMetH_plain _ _ _ (by kernel_rfl)]; exact laidMet_laidAll _ (by kernel_rfl) (by kernel_rfl))) ?_
  rintro w tape ⟨vars, args, fns⟩ _ hsh _ ⟨_, _, _, fn, hfn, _, _, _, _, hval⟩ ⟨⟨⟨ds, gs, before, hw, _⟩, hx⟩, _⟩ _
  obtain rfl := Option.some.inj (Tryd.func4.symm.trans hfn)
  have hW := DataW.Whole.of_heap (w' := w.forCall tape ⟨vars, args, fns⟩) (by rfl) hw
  have hL := laidMetH.of_heap (w' := w.forCall tape ⟨vars, args, fns⟩) (by rfl) hx
  rw [MakeChecks.laidMetH_plain _ _ _ (by kernel_rfl)] at hL
  have ht : Tabs (w.forCall tape ⟨vars, args, fns⟩) := tabs_of (by unfold Rows.sceneBoundsRow; simp) hL hsh
  generalize w.forCall tape ⟨vars, args, fns⟩ = W at *
  have hW' := hW
  obtain ⟨p, q, hA0, hV, rfl, hfz, hnd⟩ := hW
  have hA : DataW.TrodAll enc Tryd.prog W 0 (fun _ => true) true Tryd.f4.params.toList args.toList ds p := hA0
  rw [Tryd.params4] at hA hval
  obtain ⟨v0, vs0, d0, ds0, p0, q0, hargs, rfl, rfl, h0, r0⟩ := trodAll_cons hA
  obtain ⟨rfl, rfl, rfl⟩ := trodAll_nil r0
  obtain rfl : args = #[v0] := by cases args; simp_all
  obtain ⟨s0, rfl, b0⟩ := open_Str (hval 0 9 v0 rfl rfl) h0
  refine (walk W s0 b0 ht).mono fun e W' ⟨he, hb⟩ => ?_
  subst he
  exact ChangeSpec.post_blind (law_post (tb := 4) (by kernel_rfl) (by kernel_rfl) rfl rfl Tryd.underlying4 rfl rfl rfl hW' hb)

theorem row : Rows.sceneBoundsRow.holds Tryd.pinned (OpenSpec.ofChange Rows.sceneBoundsSpec) :=
  OpenClaim.holds_of_wide 4 Tryd.f4 rfl rfl rfl rfl rfl rfl rfl ⟨rfl, rfl, rfl, rfl, rfl⟩ rfl rfl rfl rfl rfl (by kernel_rfl) Tryd.func4 (by kernel_rfl)
    (of_decide_eq_true (by kernel_rfl)) (by unfold Func.isWrapper; first | (rw [if_pos (by decide +kernel)]; kernel_rfl) | (rw [if_neg (by decide +kernel)]; exact ⟨rfl, rfl⟩))
    (fun os started H enc _ => lifted os started H enc)

theorem proved : Rows.SceneBoundsCardSaid :=
  Claim7.holds_tied_plain_at .later [] [.data, .listed, .data, .pinned] true _ _ row (fun _ h => by cases h) (by kernel_rfl) (fun _ h => by cases h) sceneBounds_row_tie rfl ⟨rfl, rfl⟩ (by kernel_rfl) rfl
    (fun f fn hf hfn => by
      obtain rfl : f = 4 := Option.some.inj ((show Tryd.prog.funcNamed "relievo/relievolaw06.SceneBounds" = some 4 by kernel_rfl).symm.trans hf) |>.symm
      obtain rfl : fn = Tryd.f4 := (Option.some.inj (Tryd.func4.symm.trans hfn)).symm
      exact ⟨by kernel_rfl, fun j t hj => by
        have hm : t ∈ Tryd.f4.params.toList := by
          have := Array.mem_of_getElem? hj
          simpa using this
        have hall : (Tryd.f4.params.toList.all fun u => !Tryd.prog.wantsStandIn u) = true := by kernel_rfl
        exact (show Tryd.prog.wantsStandIn t = false by simpa using List.all_eq_true.1 hall t hm)⟩)
    (by kernel_rfl)
#print axioms proved
end Go.Proofs.YtehmlofhiffanaaDoor.sceneBounds
