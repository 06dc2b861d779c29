/- The program's own scene: the line of a crease. -/
import Derived.Test.YtdkgbdecmgligaaGreatDoorMScnQY
import Derived.Test.YtdkgbdecmgligaaGreatDoorScnQ7
import Derived.Test.YtdkgbdecmgligaaGreatDoorMLexP
namespace Go.Proofs.YtdkgbdecmgligaaGreatDoor
open Go.RowKit
set_option linter.unusedVariables false
set_option linter.unusedSimpArgs false
set_option linter.unnecessarySimpa false

theorem IF.at3 {V : World} {b : Nat} {ns : List Int} (h : IF V (some ⟨b, 0, none⟩) ns) (hl : ns.length = 3) : V.cell? ⟨b, 0, none⟩ = some (.int .i64 (ns.getD 0 0)) ∧ V.cell? ⟨b, 1, none⟩ = some (.int .i64 (ns.getD 1 0)) ∧ V.cell? ⟨b, 2, none⟩ = some (.int .i64 (ns.getD 2 0)) ∧ b < V.heap.size := by
  obtain ⟨b2, off, e, hb, hc⟩ := h (by omega)
  cases e
  have h0 := hc 0 (by omega)
  have h1 := hc 1 (by omega)
  have h2 := hc 2 (by omega)
  simp only [Nat.zero_add] at h0 h1 h2
  exact ⟨h0, h1, h2, hb⟩
theorem IF.new1 (w : World) (x : Int) (t : TypeId) : IF (w.alloc (.cells #[.int .i64 x] t)) (some ⟨w.heap.size, 0, none⟩) [x] := fun _ => by
  refine ⟨w.heap.size, 0, rfl, by simp, fun i hi => ?_⟩
  obtain rfl : i = 0 := by simp at hi; omega
  have h := Blk.cell (Blk.new w t #[.int .i64 x] w.heap.size rfl) 0
  simpa using h
theorem wi_one {ns : List Int} {a : Nat} (h : a < ns.length) (lo hi : Int) : wi ns a (a + 1) lo hi = inB lo hi [ns.getD a 0] := by
  rw [← inB_wi]
  congr 1
  rw [List.take_succ_eq_append_getElem h, List.drop_append_of_le_length (by simp; omega)]
  simp [List.getD, h]
theorem partC (sc : Scn) (ws : List Wd) : partF sc kCrease ws = (match numsF ws with | none => .error 10 | some n => if n.length ≠ 3 then .error 10 else match sc.cages.getLast? with
    | none => .error 15
    | some c => if 128 ≤ c.creases.length then .error 13 else if (wi n 0 2 0 ((c.verts.length : Int) - 1) && !decide (n.getD 0 0 = n.getD 1 0) && wi n 2 3 1 255) then .ok { sc with cages := onLast (fun c => { c with creases := c.creases ++ [n] }) sc.cages } else .error 11) := by
  have e : kCrease ≠ kF := by decide
  have e' : (kCrease = kV) = False := by simp; decide
  have e'' : (kCrease = kF) = False := by simp; decide
  unfold partF
  cases numsF ws with
  | none => rfl
  | some n =>
    simp only []
    by_cases h : n.length = 3
    · have e1 : ((kCrease ≠ kF ∧ n.length ≠ 3) ∨ (kCrease = kF ∧ (n.length < 3 ∨ 8 < n.length))) = False := by simp [e, h]
      have e2 : (n.length ≠ 3) = False := by simp [h]
      simp only [e1, if_false]
      simp only [e2, if_false]
      cases sc.cages.getLast? with
      | none => rfl
      | some c => simp only [e', e'', if_false]
    · rw [if_pos (.inl ⟨e, h⟩), if_pos h]
set_option maxRecDepth 100000 in
set_option maxHeartbeats 2000000 in
theorem pcrease (W : World) (g n c : Nat) (A : Option Addr) (TR : TypeId) (sc : Scn) (val : Key → Value) (ws : List Wd) (hn : ws.length = n) (hl : n ≤ 65537) (hA : SFW W A ws) (hR : RepV g W g TR sc val) (hI : InvS sc) :
    Calls Tryz.prog 87 #[.pointer (some ⟨g, 0, none⟩), .slice A n c] W fun e W' => lineP g TR W (partF sc kCrease ws) e W' := by
  obtain ⟨i0, hi0, hz0, hz1, hz2⟩ := info_parts infoCr
  have h8 := Lib.hid hI.skins.2
  have HVL := Lib.hid (show ∀ i, i + 1 = sc.cages.length → (cageAt sc i).verts.length ≤ 64 from fun i hi => (hI.cage _ (List.mem_of_getLast? (getLast_at hi))).1)
  have hgl := hR.lt
  have HR := Lib.hid hR
  clear hR hI
  have HF := Lib.hid (partC sc ws)
  go_enter Tryz.func87, Tryz.ntmps87
  go_wp2_with (first | (go_at_call 108; (with_reducible refine (need_any _ _ 10).mono ?_); rintro e w9 (⟨hb10, rfl, h9⟩ | ⟨hb10, rfl, h9⟩) <;> (replace h9 := h9.symm; subst h9); (first | (obtain rfl : n = 3 := (by simp at hb10; omega)) | skip)) | (go_at_call 108; (with_reducible refine (need_any _ _ 13).mono ?_); rintro e w9 (⟨hb13, rfl, h9⟩ | ⟨hb13, rfl, h9⟩) <;> (replace h9 := h9.symm; subst h9)) | (go_at_call 109; (with_reducible refine (pnumbers_any _ _ _ _ ws hn hl (hA.below (by repeat (first | with_reducible exact Below.refl _ _ | with_reducible refine bel_then ?_ _ | with_reducible refine bel_grow ?_ _ | with_reducible refine bel_alloc ?_ _ | with_reducible refine bel_drew ?_ | with_reducible refine bel_set ?_ (by simp) _ | with_reducible refine bel_setRow ?_ (by first | omega | (simp; done)) _)))).mono ?_); rintro e V hp; rcases pnums_or2 hp hn with ⟨hN, rfl, x2, rfl⟩ | ⟨ns, b2, hN, hL, rfl, hbV, hown⟩; rotate_left; (have HRV := Lib.hid (HR.out.below hbV.out); have HIV := Lib.hid (IF_of_own hown.out hL.out); have hVl := HRV.out.lt; obtain ⟨p0, hp0⟩ : ∃ p, p = ns.getD 0 0 := ⟨_, rfl⟩; obtain ⟨p1, hp1⟩ : ∃ p, p = ns.getD 1 0 := ⟨_, rfl⟩; obtain ⟨p2, hp2⟩ : ∃ p, p = ns.getD 2 0 := ⟨_, rfl⟩; obtain ⟨d0, d1, d2, db⟩ := HIV.out.at3 hL.out; rw [← hp0] at d0; rw [← hp1] at d1; rw [← hp2] at d2; replace hp0 := Lib.hid hp0; replace hp1 := Lib.hid hp1; replace hp2 := Lib.hid hp2)) | (go_at_call 117; (with_reducible refine (plast _ g g TR sc val (by first | with_reducible exact HRV.out | with_reducible exact HRV.out.grow _) h8.out).mono ?_); rintro e w9 (⟨hc0, rfl, x5, rfl⟩ | ⟨b, cap, i, hi, hv, rfl, x5, rfl⟩); rotate_left; (have HI0 := Lib.hid hi; have HV0 := Lib.hid hv; obtain ⟨⟨A0, a0, HV1, cv⟩, _, ⟨A1, a1, HV2, cc⟩, zb, hbl, hbg, hbne, cbk, hbt⟩ := HRV.out.cage_cell hi hv; have zv := zb (i * 3); have zc := zb (i * 3 + 2); have hvl := HVL.out i hi; have hwr : IntKind.i64.wrap (((cageAt sc i).verts.length : Int) - 1) = ((cageAt sc i).verts.length : Int) - 1 := IntWalk.i64_in _ (by omega); replace hvl := Lib.hid hvl; replace hbt := Lib.hid hbt; clear hi hv zb)))
  · simp at hb13
    have hl3 : ns.length = 3 := hL.out
    have HS0 := Lib.hid (show partF sc kCrease ws = if (wi ns 0 2 0 (((cageAt sc i).verts.length : Int) - 1) && !decide (p0 = p1) && wi ns 2 3 1 255) then .ok { sc with cages := onLast (fun c => { c with creases := c.creases ++ [ns] }) sc.cages } else .error 11 by
      rw [HF.out, hN]; simp only []; rw [if_neg (by omega), getLast_at HI0.out]; simp only []; rw [if_neg (by omega), hp0.out, hp1.out])
    clear HF
    refine wp_region_tail 8 ?_ (by kernel_rfl) (by kernel_rfl) (by kernel_rfl) (fun x => ?_) (fun x => ?_)
    rotate_left
    · simp only [List.take_succ_cons, List.take_zero]
      repeat (go_big_quiet_step ((fail)))
      refine wpQuiet_nil ?_
      exact rfl
    simp only [List.drop_succ_cons, List.drop_zero]
    try simp only [Act.put, List.setIfInBounds_toArray, List.set_cons_succ, List.set_cons_zero]
    go_wp2_with (go_at_call 110; (with_reducible refine (pwithin_any _ _ _ _ _ _ ((ns.take 2).drop 0) (by have := hL.out; simp; omega) (by decide) (IF.subE (HIV.out.below (by repeat (first | with_reducible exact Below.refl _ _ | with_reducible refine bel_then ?_ _ | with_reducible refine bel_grow ?_ _ | with_reducible refine bel_alloc ?_ _ | with_reducible refine bel_drew ?_ | with_reducible refine bel_set ?_ (by simp) _ | with_reducible refine bel_setRow ?_ (by first | omega | (simp; done)) _))) 0 2 0 (by have := hL.out; omega) rfl)).mono ?_); rintro e _ ⟨⟨hw1, rfl⟩ | ⟨hw1, rfl⟩, x3, rfl⟩)
    · refine wp_region_tail 7 ?_ (by kernel_rfl) (by kernel_rfl) (by kernel_rfl) (fun x => ?_) (fun x => ?_)
      rotate_left
      · simp only [List.take_succ_cons, List.take_zero]
        repeat (go_big_quiet_step ((fail)))
        refine wpQuiet_nil ?_
        exact rfl
      simp only [List.drop_succ_cons, List.drop_zero]
      try simp only [Act.put, List.setIfInBounds_toArray, List.set_cons_succ, List.set_cons_zero]
      go_wp2_with (first | (go_at_call 108; (with_reducible refine (need_any _ _ 11).mono ?_); rintro e w9 (⟨hb11, rfl, h9⟩ | ⟨hb11, rfl, h9⟩) <;> (replace h9 := h9.symm; subst h9)) | (go_at_call 110; (with_reducible refine (pwithin_any _ _ 1 _ _ _ ([p2]) (rfl) (by decide) (IF.new1 _ _ _)).mono ?_); rintro e _ ⟨⟨hw2, rfl⟩ | ⟨hw2, rfl⟩, x3, rfl⟩))
      · have HS := Lib.hid (show partF sc kCrease ws = .ok { sc with cages := onLast (fun c => { c with creases := c.creases ++ [ns] }) sc.cages } by
          rw [inB_wi] at hw1
          rw [HS0.out, hw1, show wi ns 2 3 1 255 = true from by rw [wi_one (by omega), ← hp2.out]; exact hw2]
          simp at hb11
          simp [hb11])
        clear HS0 hw1 hw2 hb11
        have OW : ∀ x, (grow V x).ownsRow g 98 3 (.slice A1 (cageAt sc i).creases.length a1) (cageAt sc i).creases.length (flat3 (cageAt sc i).creases) := by
          intro x; rw [← HV2.out]; exact (HRV.out.grow x).own.row (.crease i)
        replace OW := Lib.hid OW
        have HPS := Lib.hid (show [Value.int .i64 (ns.getD 0 0), Value.int .i64 (ns.getD 1 0), Value.int .i64 (ns.getD 2 0)] = [.int .i64 p0, .int .i64 p1, .int .i64 p2] by rw [hp0.out, hp1.out, hp2.out])
        clear hown hp
        refine wp_region_makeS_ 15 ?_ (.pointer (some ⟨b, i * 3, none⟩)) 58 (.cells #[.int .i64 p0, .int .i64 p1, .int .i64 p2] 98) (by kernel_rfl) (by kernel_rfl) (by kernel_rfl) rfl rfl rfl (fun _ _ _ h => h) ?_ (fun x => ?_) (fun x y => ?_)
        rotate_left 2
        · simp only [List.take_succ_cons, List.take_zero, List.tail_cons, Act.put, List.setIfInBounds_toArray, List.set_cons_succ, List.set_cons_zero]
          repeat (go_big_quiet_step ((fail)))
          refine wpQuiet_nil ?_
          exact rfl
        rotate_left
        · exact ⟨_, rfl, rfl, rfl, fun u => by simp [execOp, go_sem]⟩
        simp only [List.drop_succ_cons, List.drop_zero]
        try simp only [Act.put, List.setIfInBounds_toArray, List.set_cons_succ, List.set_cons_zero]
        go_wp2_with (at_builtin; go_loud (refine wpList_append_own_at _ rfl _ _ 46 rfl g 98 i0 _ 3 24 Tryz.underlying46 hi0 hz0 hz1 hz2 rfl (by decide) _ _ _ rfl (own_grow ((own_grow (own_grow ((own_grow (OW.out _) _).alloc _) _) _).alloc _) _) ⟨_, 0, none⟩ 1 1 [.int .i64 p0, .int .i64 p1, .int .i64 p2] rfl rfl (cell_newG _ [.int .i64 p0, .int .i64 p1, .int .i64 p2] _ _) (fun u hu => by simp at hu; rcases hu with rfl | rfl | rfl <;> rfl) (by unfold maxLen; omega) (by omega) (Nat.le_trans (Nat.le_of_lt hVl) (@Below.size V.heap.size V _ (by repeat (first | with_reducible exact Below.refl _ _ | with_reducible refine bel_then ?_ _ | with_reducible refine bel_grow ?_ _ | with_reducible refine bel_alloc ?_ _ | with_reducible refine bel_drew ?_ | with_reducible refine bel_set ?_ (by simp) _ | with_reducible refine bel_setRow ?_ (by first | omega | (simp; done)) _)))) ?_); intro v4 w4 hown4 hgr4 hnil4 hat4; clear hnil4; obtain ⟨A4, a4, rfl⟩ := own_form hown4; go_loud (obtain ⟨O4, R4⟩ := HRV.out.creaseP HI0.out HV0.out HV2.out ns HPS.out _ hgr4 hown4 hat4 (by repeat (first | with_reducible exact Below.refl _ _ | with_reducible refine bel_then ?_ _ | with_reducible refine bel_grow ?_ _ | with_reducible refine bel_alloc ?_ _ | with_reducible refine bel_drew ?_ | with_reducible refine bel_set ?_ (by simp) _ | with_reducible refine bel_setRow ?_ (by first | omega | (simp; done)) _)); have hB4 := fr_app (TR := TR) hbV.out hgl hgr4 (own_typed (OW.out More.none_)) (by decide) hbg hbt.out (fun _ => by decide) (i * 3 + 2) (.slice A4 ((cageAt sc i).creases.length + 1) a4) (by repeat (first | with_reducible exact Below.refl _ _ | with_reducible refine bel_then ?_ _ | with_reducible refine bel_grow ?_ _ | with_reducible refine bel_alloc ?_ _ | with_reducible refine bel_drew ?_ | with_reducible refine bel_set ?_ (by simp) _ | with_reducible refine bel_setRow ?_ (by first | omega | (simp; done)) _)); have c4 : w4.cell? ⟨b, i * 3 + 2, none⟩ = some (.slice A1 (cageAt sc i).creases.length a1) := (by rw [O4.cellAt (i * 3 + 2) (by have := HI0.out; omega), (cage_get HI0.out val).2.2, HV2.out]); have z4 := O4.frozenAt (i * 3 + 2); replace R4 := Lib.hid R4; replace hB4 := Lib.hid hB4; clear hgr4 hown4 hat4 O4))
        go_end0
        exact lineP_ok HS.out hB4.out R4.out
      · refine ⟨rfl, lineP_err 11 hgl (bel_trans hbV.out (by repeat (first | with_reducible exact Below.refl _ _ | with_reducible refine bel_then ?_ _ | with_reducible refine bel_grow ?_ _ | with_reducible refine bel_alloc ?_ _ | with_reducible refine bel_drew ?_ | with_reducible refine bel_set ?_ (by simp) _ | with_reducible refine bel_setRow ?_ (by first | omega | (simp; done)) _))) ?_⟩
        rw [HS0.out, show wi ns 2 3 1 255 = false from by rw [wi_one (by omega), ← hp2.out]; exact hw2]
        simp
      · refine ⟨rfl, lineP_err 11 hgl (bel_trans hbV.out (by repeat (first | with_reducible exact Below.refl _ _ | with_reducible refine bel_then ?_ _ | with_reducible refine bel_grow ?_ _ | with_reducible refine bel_alloc ?_ _ | with_reducible refine bel_drew ?_ | with_reducible refine bel_set ?_ (by simp) _ | with_reducible refine bel_setRow ?_ (by first | omega | (simp; done)) _))) ?_⟩
        rw [HS0.out]
        simp at hb11
        first | simp [hb11] | skip
    · refine ⟨rfl, lineP_err 11 hgl (bel_trans hbV.out (by repeat (first | with_reducible exact Below.refl _ _ | with_reducible refine bel_then ?_ _ | with_reducible refine bel_grow ?_ _ | with_reducible refine bel_alloc ?_ _ | with_reducible refine bel_drew ?_ | with_reducible refine bel_set ?_ (by simp) _ | with_reducible refine bel_setRow ?_ (by first | omega | (simp; done)) _))) ?_⟩
      rw [inB_wi] at hw1
      rw [HS0.out, hw1]
      simp
  · refine ⟨rfl, lineP_err 13 hgl (bel_trans hbV.out (by repeat (first | with_reducible exact Below.refl _ _ | with_reducible refine bel_then ?_ _ | with_reducible refine bel_grow ?_ _ | with_reducible refine bel_alloc ?_ _ | with_reducible refine bel_drew ?_ | with_reducible refine bel_set ?_ (by simp) _ | with_reducible refine bel_setRow ?_ (by first | omega | (simp; done)) _))) ?_⟩
    rw [HF.out, hN]
    simp at hb13
    have hl3 : ns.length = 3 := hL.out
    simp only []
    rw [if_neg (by omega), getLast_at HI0.out]
    simp only []
    rw [if_pos (by omega)]
  · refine ⟨rfl, lineP_err 15 hgl (bel_trans hbV.out (by repeat (first | with_reducible exact Below.refl _ _ | with_reducible refine bel_then ?_ _ | with_reducible refine bel_grow ?_ _ | with_reducible refine bel_alloc ?_ _ | with_reducible refine bel_drew ?_ | with_reducible refine bel_set ?_ (by simp) _ | with_reducible refine bel_setRow ?_ (by first | omega | (simp; done)) _))) ?_⟩
    have hl3 : ns.length = 3 := hL.out
    rw [HF.out, hN]
    simp [hl3, hc0]
  · refine ⟨rfl, lineP_err 10 hgl (by repeat (first | with_reducible exact Below.refl _ _ | with_reducible refine bel_then ?_ _ | with_reducible refine bel_grow ?_ _ | with_reducible refine bel_alloc ?_ _ | with_reducible refine bel_drew ?_ | with_reducible refine bel_set ?_ (by simp) _ | with_reducible refine bel_setRow ?_ (by first | omega | (simp; done)) _)) ?_⟩
    rw [HF.out, hN]
  · refine ⟨rfl, lineP_err 10 hgl (by repeat (first | with_reducible exact Below.refl _ _ | with_reducible refine bel_then ?_ _ | with_reducible refine bel_grow ?_ _ | with_reducible refine bel_alloc ?_ _ | with_reducible refine bel_drew ?_ | with_reducible refine bel_set ?_ (by simp) _ | with_reducible refine bel_setRow ?_ (by first | omega | (simp; done)) _)) ?_⟩
    rw [HF.out]
    cases hN : numsF ws with
    | none => rfl
    | some m =>
      have := numsF_len _ _ hN
      simp at hb10
      simp; omega
end Go.Proofs.YtdkgbdecmgligaaGreatDoor

/- The program's own scene: the line of a face. -/
namespace Go.Proofs.YtdkgbdecmgligaaGreatDoor
open Go.RowKit
set_option linter.unusedVariables false
set_option linter.unusedSimpArgs false
set_option linter.unnecessarySimpa false

theorem partFc (sc : Scn) (ws : List Wd) : partF sc kF ws = (match numsF ws with | none => .error 10 | some n => if n.length < 3 ∨ 8 < n.length then .error 10 else match sc.cages.getLast? with
    | none => .error 15
    | some c => if 64 ≤ c.faces.length then .error 13 else if wi n 0 n.length 0 ((c.verts.length : Int) - 1) then .ok { sc with cages := onLast (fun c => { c with faces := c.faces ++ [n] }) sc.cages } else .error 11) := by
  have e' : (kF = kV) = False := by simp; decide
  unfold partF
  cases numsF ws with
  | none => rfl
  | some n =>
    dsimp only
    by_cases h : n.length < 3 ∨ 8 < n.length
    · rw [if_pos (Or.inr ⟨rfl, h⟩), if_pos h]
    · have e1 : ¬ ((kF ≠ kF ∧ n.length ≠ 3) ∨ (kF = kF ∧ (n.length < 3 ∨ 8 < n.length))) := by
        rintro (q | q)
        · exact q.1 rfl
        · exact h q.2
      rw [if_neg e1, if_neg h]
      cases sc.cages.getLast? with
      | none => rfl
      | some c => simp only [e', if_false, if_true]
set_option maxRecDepth 100000 in
set_option maxHeartbeats 2000000 in
theorem pface (W : World) (g n c : Nat) (A : Option Addr) (TR : TypeId) (sc : Scn) (val : Key → Value) (ws : List Wd) (hn : ws.length = n) (hl : n ≤ 65537) (hA : SFW W A ws) (hR : RepV g W g TR sc val) (hI : InvS sc) :
    Calls Tryz.prog 86 #[.pointer (some ⟨g, 0, none⟩), .slice A n c] W fun e W' => lineP g TR W (partF sc kF ws) e W' := by
  obtain ⟨i0, hi0, hz0, hz1, hz2⟩ := info_parts infoIs
  have h8 := Lib.hid hI.skins.2
  have HVL := Lib.hid (show ∀ i, i + 1 = sc.cages.length → (cageAt sc i).verts.length ≤ 64 from fun i hi => (hI.cage _ (List.mem_of_getLast? (getLast_at hi))).1)
  have hgl := hR.lt
  have HR := Lib.hid hR
  clear hR hI
  have HF := Lib.hid (partFc sc ws)
  rcases (by omega : ((n : Int) < 3 ∧ ¬ (3 : Int) ≤ (n : Int)) ∨ ((3 : Int) ≤ (n : Int) ∧ (n : Int) ≤ 8) ∨ ((3 : Int) ≤ (n : Int) ∧ ¬ (n : Int) ≤ 8 ∧ 8 < (n : Int))) with ⟨hq, hq2⟩ | ⟨hq, hq2⟩ | ⟨hq, hq2, hq3⟩
  · go_enter Tryz.func86, Tryz.ntmps86
    go_wp2_with (go_at_call 108; (with_reducible refine (need_no _ 10).mono ?_); rintro e w9 ⟨rfl, h9⟩; replace h9 := h9.symm; subst h9)
    refine ⟨rfl, lineP_err 10 hgl (by repeat (first | with_reducible exact Below.refl _ _ | with_reducible refine bel_then ?_ _ | with_reducible refine bel_grow ?_ _ | with_reducible refine bel_alloc ?_ _ | with_reducible refine bel_drew ?_ | with_reducible refine bel_set ?_ (by simp) _ | with_reducible refine bel_setRow ?_ (by first | omega | (simp; done)) _)) ?_⟩
    rw [HF.out]
    cases hN : numsF ws with
    | none => rfl
    | some m =>
      have := numsF_len _ _ hN
      simp only []
      rw [if_pos (by omega)]
  · go_enter Tryz.func86, Tryz.ntmps86
    go_wp2_with (first | (go_at_call 108; (with_reducible refine (need_yes _ _).mono ?_); rintro e w9 ⟨rfl, h9⟩; replace h9 := h9.symm; subst h9) | (go_at_call 108; (with_reducible refine (need_any _ _ 13).mono ?_); rintro e w9 (⟨hb13, rfl, h9⟩ | ⟨hb13, rfl, h9⟩) <;> (replace h9 := h9.symm; subst h9); (first | (rw [decide_eq_true_eq] at hb13) | skip)) | (go_at_call 109; (with_reducible refine (pnumbers_any _ _ _ _ ws hn hl (hA.below (by repeat (first | with_reducible exact Below.refl _ _ | with_reducible refine bel_then ?_ _ | with_reducible refine bel_grow ?_ _ | with_reducible refine bel_alloc ?_ _ | with_reducible refine bel_drew ?_ | with_reducible refine bel_set ?_ (by simp) _ | with_reducible refine bel_setRow ?_ (by first | omega | (simp; done)) _)))).mono ?_); rintro e V hp; rcases pnums_or2 hp hn with ⟨hN, rfl, x2, rfl⟩ | ⟨ns, b2, hN, hL, rfl, hbV, hown⟩; rotate_left; (have HRV := Lib.hid (HR.out.below hbV.out); have HIV := Lib.hid (IF_of_own hown.out hL.out); have hVl := HRV.out.lt)) | (go_at_call 117; (with_reducible refine (plast _ g g TR sc val (by first | with_reducible exact HRV.out | with_reducible exact HRV.out.grow _) h8.out).mono ?_); rintro e w9 (⟨hc0, rfl, x5, rfl⟩ | ⟨b, cap, i, hi, hv, rfl, x5, rfl⟩); rotate_left; (have HI0 := Lib.hid hi; have HV0 := Lib.hid hv; obtain ⟨⟨A0, a0, HV1, cv⟩, ⟨A1, a1, HV2, cc⟩, _, zb, hbl, hbg, hbne, cbk, hbt⟩ := HRV.out.cage_cell hi hv; have zv := zb (i * 3); have zc := zb (i * 3 + 1); have hvl := HVL.out i hi; have hwr : IntKind.i64.wrap (((cageAt sc i).verts.length : Int) - 1) = ((cageAt sc i).verts.length : Int) - 1 := IntWalk.i64_in _ (by omega); replace hvl := Lib.hid hvl; replace hbt := Lib.hid hbt; have OW := Lib.hid (show ∀ x, (grow V x).ownsRow g 49 1 (.slice A1 (cageAt sc i).faces.length a1) (cageAt sc i).faces.length ((List.range (cageAt sc i).faces.length).map fun j => val (.frow i j)) from fun x => (by rw [← HV2.out]; exact (HRV.out.grow x).own.row (.face i))); clear hi hv zb)) | (go_at_call 110; (with_reducible refine (pwithin_any _ _ _ _ _ _ (ns) (hL.out) (len_big hl) (HIV.out.below (by repeat (first | with_reducible exact Below.refl _ _ | with_reducible refine bel_then ?_ _ | with_reducible refine bel_grow ?_ _ | with_reducible refine bel_alloc ?_ _ | with_reducible refine bel_drew ?_ | with_reducible refine bel_set ?_ (by simp) _ | with_reducible refine bel_setRow ?_ (by first | omega | (simp; done)) _)))).mono ?_); rintro e _ ⟨⟨hw1, rfl⟩ | ⟨hw1, rfl⟩, x3, rfl⟩) | (at_builtin; go_loud (refine wpList_append_own_at _ rfl _ _ 45 rfl g 49 i0 _ 1 24 Tryz.underlying45 hi0 hz0 hz1 hz2 rfl (by decide) _ _ _ rfl (((OW.out _).alloc _)) ⟨_, 0, none⟩ 1 1 [Value.slice (some ⟨b2, 0, none⟩) n n] rfl rfl (cell_new _ [Value.slice (some ⟨b2, 0, none⟩) n n] _) (fun u hu => by simp at hu; rcases hu with rfl <;> rfl) (by unfold maxLen; omega) (by omega) (Nat.le_trans (Nat.le_of_lt hVl) (@Below.size V.heap.size V _ (by repeat (first | with_reducible exact Below.refl _ _ | with_reducible refine bel_then ?_ _ | with_reducible refine bel_grow ?_ _ | with_reducible refine bel_alloc ?_ _ | with_reducible refine bel_drew ?_ | with_reducible refine bel_set ?_ (by simp) _ | with_reducible refine bel_setRow ?_ (by first | omega | (simp; done)) _)))) ?_); intro v4 w4 hown4 hgr4 hnil4 hat4; clear hnil4; obtain ⟨A4, a4, rfl⟩ := own_form hown4; go_loud (obtain ⟨O4, R4⟩ := HR.out.faceP HI0.out HV0.out HV2.out (.slice (some ⟨b2, 0, none⟩) n n) ns _ hgr4 hown4 hat4 (bel_trans hbV.out (by repeat (first | with_reducible exact Below.refl _ _ | with_reducible refine bel_then ?_ _ | with_reducible refine bel_grow ?_ _ | with_reducible refine bel_alloc ?_ _ | with_reducible refine bel_drew ?_ | with_reducible refine bel_set ?_ (by simp) _ | with_reducible refine bel_setRow ?_ (by first | omega | (simp; done)) _))) (by rw [hL.out]; exact ro_of_own (own_below hown.out (by repeat (first | with_reducible exact Below.refl _ _ | with_reducible refine bel_then ?_ _ | with_reducible refine bel_grow ?_ _ | with_reducible refine bel_alloc ?_ _ | with_reducible refine bel_drew ?_ | with_reducible refine bel_set ?_ (by simp) _ | with_reducible refine bel_setRow ?_ (by first | omega | (simp; done)) _)))); have hB4 := fr_app (TR := TR) hbV.out hgl hgr4 (own_typed (OW.out More.none_)) (by decide) hbg hbt.out (fun _ => by decide) (i * 3 + 1) (.slice A4 ((cageAt sc i).faces.length + 1) a4) (by repeat (first | with_reducible exact Below.refl _ _ | with_reducible refine bel_then ?_ _ | with_reducible refine bel_grow ?_ _ | with_reducible refine bel_alloc ?_ _ | with_reducible refine bel_drew ?_ | with_reducible refine bel_set ?_ (by simp) _ | with_reducible refine bel_setRow ?_ (by first | omega | (simp; done)) _)); have c4 : w4.cell? ⟨b, i * 3 + 1, none⟩ = some (.slice A1 (cageAt sc i).faces.length a1) := (by rw [O4.cellAt (i * 3 + 1) (by have := HI0.out; omega), (cage_get HI0.out val).2.1, HV2.out]); have z4 := O4.frozenAt (i * 3 + 1); replace R4 := Lib.hid R4; replace hB4 := Lib.hid hB4; clear hgr4 hown4 hat4 O4)))
    · go_end0
      rw [inB_all hL.out] at hw1
      refine lineP_ok ?_ hB4.out R4.out
      have hl0 := hL.out
      rw [HF.out, hN]
      dsimp only
      rw [if_neg (by omega), getLast_at HI0.out]
      dsimp only
      rw [if_neg (by omega), hl0, if_pos hw1]
    · refine ⟨rfl, lineP_err 11 hgl (bel_trans hbV.out (by repeat (first | with_reducible exact Below.refl _ _ | with_reducible refine bel_then ?_ _ | with_reducible refine bel_grow ?_ _ | with_reducible refine bel_alloc ?_ _ | with_reducible refine bel_drew ?_ | with_reducible refine bel_set ?_ (by simp) _ | with_reducible refine bel_setRow ?_ (by first | omega | (simp; done)) _))) ?_⟩
      rw [inB_all hL.out] at hw1
      have hl0 := hL.out
      rw [HF.out, hN]
      dsimp only
      rw [if_neg (by omega), getLast_at HI0.out]
      dsimp only
      rw [if_neg (by omega), hl0, if_neg (by rw [hw1]; simp)]
    · refine ⟨rfl, lineP_err 13 hgl (bel_trans hbV.out (by repeat (first | with_reducible exact Below.refl _ _ | with_reducible refine bel_then ?_ _ | with_reducible refine bel_grow ?_ _ | with_reducible refine bel_alloc ?_ _ | with_reducible refine bel_drew ?_ | with_reducible refine bel_set ?_ (by simp) _ | with_reducible refine bel_setRow ?_ (by first | omega | (simp; done)) _))) ?_⟩
      have hl0 := hL.out
      simp at hb13
      rw [HF.out, hN]
      dsimp only
      rw [if_neg (by omega), getLast_at HI0.out]
      dsimp only
      rw [if_pos (by omega)]
    · refine ⟨rfl, lineP_err 15 hgl (bel_trans hbV.out (by repeat (first | with_reducible exact Below.refl _ _ | with_reducible refine bel_then ?_ _ | with_reducible refine bel_grow ?_ _ | with_reducible refine bel_alloc ?_ _ | with_reducible refine bel_drew ?_ | with_reducible refine bel_set ?_ (by simp) _ | with_reducible refine bel_setRow ?_ (by first | omega | (simp; done)) _))) ?_⟩
      have hl0 := hL.out
      rw [HF.out, hN]
      dsimp only
      rw [if_neg (by omega), hc0]
      rfl
    · refine ⟨rfl, lineP_err 10 hgl (by repeat (first | with_reducible exact Below.refl _ _ | with_reducible refine bel_then ?_ _ | with_reducible refine bel_grow ?_ _ | with_reducible refine bel_alloc ?_ _ | with_reducible refine bel_drew ?_ | with_reducible refine bel_set ?_ (by simp) _ | with_reducible refine bel_setRow ?_ (by first | omega | (simp; done)) _)) ?_⟩
      rw [HF.out, hN]
  · go_enter Tryz.func86, Tryz.ntmps86
    go_wp2_with (go_at_call 108; (with_reducible refine (need_no _ 10).mono ?_); rintro e w9 ⟨rfl, h9⟩; replace h9 := h9.symm; subst h9)
    refine ⟨rfl, lineP_err 10 hgl (by repeat (first | with_reducible exact Below.refl _ _ | with_reducible refine bel_then ?_ _ | with_reducible refine bel_grow ?_ _ | with_reducible refine bel_alloc ?_ _ | with_reducible refine bel_drew ?_ | with_reducible refine bel_set ?_ (by simp) _ | with_reducible refine bel_setRow ?_ (by first | omega | (simp; done)) _)) ?_⟩
    rw [HF.out]
    cases hN : numsF ws with
    | none => rfl
    | some m =>
      have := numsF_len _ _ hN
      simp only []
      rw [if_pos (by omega)]
end Go.Proofs.YtdkgbdecmgligaaGreatDoor

/- The program's own scene: names in rows; numbers of two rows; the line of a texture. -/
namespace Go.Proofs.YtdkgbdecmgligaaGreatDoor
open Go.RowKit
set_option linter.unusedVariables false
set_option linter.unusedSimpArgs false
set_option linter.unnecessarySimpa false

theorem numV_small (s : ByteArray) (h : (numV s).2 = true) : -999999 ≤ (numV s).1 ∧ (numV s).1 ≤ 999999 := by
  have key : ∀ t : ByteArray, okU t = true → nv t t.size < 1000000 := fun t ht => by
    unfold okU at ht
    simp only [Bool.and_eq_true, decide_eq_true_eq] at ht
    exact nv_small t _ ht.2 ht.1.1.2
  unfold numV at h ⊢
  split
  · split
    · rename_i q; have := key _ q; simp only; omega
    · simp
  · split
    · simp
    · split
      · rename_i q; have := key _ q; simp only; omega
      · simp
theorem numsF_small : ∀ (ws : List Wd) (ns : List Int), numsF ws = some ns → ∀ x ∈ ns, -999999 ≤ x ∧ x ≤ 999999
  | [], ns, h, x, hx => by unfold numsF at h; injection h with h; subst h; cases hx
  | w :: ws, ns, h, x, hx => by
    unfold numsF at h
    split at h
    · rename_i q
      cases e : numsF ws with
      | none => rw [e] at h; cases h
      | some m =>
        rw [e] at h
        injection h with h
        subst h
        rcases List.mem_cons.1 hx with rfl | hx
        · exact numV_small _ q
        · exact numsF_small ws m e x hx
    · cases h
theorem numsF_app (l m : List Wd) : numsF (l ++ m) = match numsF l, numsF m with | some a, some b => some (a ++ b) | _, _ => none := by
  rw [numsF_eq, numsF_eq, numsF_eq, List.all_append, List.map_append]
  cases h1 : (l.all fun w => (nW w).2) <;> cases h2 : (m.all fun w => (nW w).2) <;> simp
theorem SFW.subE {W : World} {b off : Nat} {ws : List Wd} (h : SFW W (some ⟨b, off, none⟩) ws) (a e off' : Nat) (he : e ≤ ws.length) (ho : off' = off + a) : SFW W (some ⟨b, off', none⟩) ((ws.take e).drop a) := fun h0 => by
  have hl : a < e := by rw [List.length_drop, List.length_take] at h0; omega
  obtain ⟨b2, off2, q, hb, hc⟩ := h (by omega)
  cases q
  refine ⟨b, off + a, by rw [ho], hb, fun i hi => ?_⟩
  rw [List.length_drop, List.length_take] at hi
  rw [Nat.add_assoc, hc (a + i) (by omega)]
  have h1 : a + i < ws.length := by omega
  simp [List.getD, h1]
  rw [List.getElem?_take_of_lt (by omega)]
  simp [h1]
theorem RepV.ef_tex {W : World} {base g : Nat} {TR : TypeId} {sc : Scn} {val : Key → Value} (h : RepV base W g TR sc val) {A : Option Addr} {a : Nat} (hv : val .texs = .slice A sc.texs.length a) : EFtex W A (sc.texs.map (·.1)) := fun h0 => by
  rw [List.length_map] at h0
  have ho : W.ownsRow base 51 4 (val .texs) sc.texs.length ((texSS sc val).flatMap fT) := h.own.row .texs
  have hlen : (texSS sc val).length = sc.texs.length := by unfold texSS; simp
  rcases ho.2 with ⟨h1, h2⟩ | ⟨b, cap, cur, h1, _⟩
  · omega
  · rw [h1] at hv ho
    cases hv
    refine ⟨b, 0, rfl, (ho.lt b rfl).2, fun i hi => ?_⟩
    rw [List.length_map] at hi
    have G := fun j (hj : j < 4) => flat_get fT 4 (fun _ => rfl) (texSS sc val) i (by omega) j hj
    have e : (texSS sc val)[i] = (texAt sc i, val (.tex i)) := by unfold texSS; simp
    have en : (sc.texs.map (·.1)).getD i [] = (texAt sc i).1 := by unfold texAt; simp [List.getD, hi]
    simp only [e] at G
    have hr := h.own.row (.tex i)
    obtain ⟨A3, n3, c3, e3⟩ : ∃ A3 n3 c3, val (.tex i) = .slice A3 n3 c3 := by
      rcases (show roRow W base 3 (val (.tex i)) _ _ from hr).2 with ⟨q, _⟩ | ⟨bb, o2, cp, _, q, _⟩
      · exact ⟨_, _, _, q⟩
      · exact ⟨_, _, _, q⟩
    simp only [Nat.zero_add]
    refine ⟨by rw [ho.cellAt (i * 4) (by omega), show i * 4 = i * 4 + 0 by omega, G 0 (by omega), en]; rfl, (texAt sc i).2.getD 0 0, (texAt sc i).2.getD 1 0, A3, n3, c3, ?_, ?_, ?_⟩
    · rw [ho.cellAt (i * 4 + 1) (by omega), G 1 (by omega)]; rfl
    · rw [ho.cellAt (i * 4 + 2) (by omega), G 2 (by omega)]; rfl
    · rw [ho.cellAt (i * 4 + 3) (by omega), G 3 (by omega), ← e3]; rfl
theorem RepV.ef_mat {W : World} {base g : Nat} {TR : TypeId} {sc : Scn} {val : Key → Value} (h : RepV base W g TR sc val) {A : Option Addr} {a : Nat} (hv : val .mats = .slice A sc.mats.length a) : EFmat W A (sc.mats.map (·.1)) := fun h0 => by
  rw [List.length_map] at h0
  have ho : W.ownsRow base 53 9 (val .mats) sc.mats.length (sc.mats.flatMap fM) := h.own.row .mats
  rcases ho.2 with ⟨h1, h2⟩ | ⟨b, cap, cur, h1, _⟩
  · omega
  · rw [h1] at hv ho
    cases hv
    refine ⟨b, 0, rfl, (ho.lt b rfl).2, fun i hi => ?_⟩
    rw [List.length_map] at hi
    have G := fun j (hj : j < 9) => flat_get fM 9 (fun _ => rfl) sc.mats i hi j hj
    have en : (sc.mats.map (·.1)).getD i [] = (sc.mats[i]).1 := by simp [List.getD, hi]
    simp only [Nat.zero_add]
    refine ⟨by rw [ho.cellAt (i * 9) (by omega), show i * 9 = i * 9 + 0 by omega, G 0 (by omega), en]; rfl, (sc.mats[i]).2.getD 0 0, (sc.mats[i]).2.getD 1 0, (sc.mats[i]).2.getD 2 0, (sc.mats[i]).2.getD 3 0, (sc.mats[i]).2.getD 4 0, (sc.mats[i]).2.getD 5 0, (sc.mats[i]).2.getD 6 0, (sc.mats[i]).2.getD 7 0, ?_, ?_, ?_, ?_, ?_, ?_, ?_, ?_⟩
    · rw [ho.cellAt (i * 9 + 1) (by omega), G 1 (by omega)]; rfl
    · rw [ho.cellAt (i * 9 + 2) (by omega), G 2 (by omega)]; rfl
    · rw [ho.cellAt (i * 9 + 3) (by omega), G 3 (by omega)]; rfl
    · rw [ho.cellAt (i * 9 + 4) (by omega), G 4 (by omega)]; rfl
    · rw [ho.cellAt (i * 9 + 5) (by omega), G 5 (by omega)]; rfl
    · rw [ho.cellAt (i * 9 + 6) (by omega), G 6 (by omega)]; rfl
    · rw [ho.cellAt (i * 9 + 7) (by omega), G 7 (by omega)]; rfl
    · rw [ho.cellAt (i * 9 + 8) (by omega), G 8 (by omega)]; rfl
theorem RepV.ef_skin {W : World} {base g : Nat} {TR : TypeId} {sc : Scn} {val : Key → Value} (h : RepV base W g TR sc val) {A : Option Addr} {a : Nat} (hv : val .skins = .slice A sc.skins.length a) : EFskin W A (sc.skins.map (·.name)) := fun h0 => by
  rw [List.length_map] at h0
  have ho : W.ownsRow base 55 6 (val .skins) sc.skins.length (sc.skins.flatMap fS) := h.own.row .skins
  rcases ho.2 with ⟨h1, h2⟩ | ⟨b, cap, cur, h1, _⟩
  · omega
  · rw [h1] at hv ho
    cases hv
    refine ⟨b, 0, rfl, (ho.lt b rfl).2, fun i hi => ?_⟩
    rw [List.length_map] at hi
    have G := fun j (hj : j < 6) => flat_get fS 6 (fun _ => rfl) sc.skins i hi j hj
    have en : (sc.skins.map (·.name)).getD i [] = (sc.skins[i]).name := by simp [List.getD, hi]
    simp only [Nat.zero_add]
    refine ⟨by rw [ho.cellAt (i * 6) (by omega), show i * 6 = i * 6 + 0 by omega, G 0 (by omega), en]; rfl, ((sc.skins[i]).mat : Int), (sc.skins[i]).levels, (sc.skins[i]).unit, (sc.skins[i]).tex, (sc.skins[i]).height, ?_, ?_, ?_, ?_, ?_⟩
    · rw [ho.cellAt (i * 6 + 1) (by omega), G 1 (by omega)]; rfl
    · rw [ho.cellAt (i * 6 + 2) (by omega), G 2 (by omega)]; rfl
    · rw [ho.cellAt (i * 6 + 3) (by omega), G 3 (by omega)]; rfl
    · rw [ho.cellAt (i * 6 + 4) (by omega), G 4 (by omega)]; rfl
    · rw [ho.cellAt (i * 6 + 5) (by omega), G 5 (by omega)]; rfl
end Go.Proofs.YtdkgbdecmgligaaGreatDoor
