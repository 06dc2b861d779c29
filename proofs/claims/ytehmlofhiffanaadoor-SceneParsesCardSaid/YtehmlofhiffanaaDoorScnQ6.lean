/- The program's own scene: the line of a face. -/
import Derived.Test.YtehmlofhiffanaaDoorScnQ5
namespace Go.Proofs.YtehmlofhiffanaaDoor
open Go.RowKit
set_option linter.unusedVariables false
set_option linter.unusedSimpArgs false
set_option linter.unnecessarySimpa false

theorem partFc (sc : Scn) (ws : List Wd) : partF sc kF ws = (match numsF ws with | none => .error 10 | some n => if n.length < 3 ∨ 8 < n.length then .error 10 else match sc.cages.getLast? with
    | none => .error 15
    | some c => if 64 ≤ c.faces.length then .error 13 else if wi n 0 n.length 0 ((c.verts.length : Int) - 1) then .ok { sc with cages := onLast (fun c => { c with faces := c.faces ++ [n] }) sc.cages } else .error 11) := by
  have e' : (kF = kV) = False := by simp; decide
  unfold partF
  cases numsF ws with
  | none => rfl
  | some n =>
    dsimp only
    by_cases h : n.length < 3 ∨ 8 < n.length
    · rw [if_pos (Or.inr ⟨rfl, h⟩), if_pos h]
    · have e1 : ¬ ((kF ≠ kF ∧ n.length ≠ 3) ∨ (kF = kF ∧ (n.length < 3 ∨ 8 < n.length))) := by
        rintro (q | q)
        · exact q.1 rfl
        · exact h q.2
      rw [if_neg e1, if_neg h]
      cases sc.cages.getLast? with
      | none => rfl
      | some c => simp only [e', if_false, if_true]
set_option maxRecDepth 100000 in
set_option maxHeartbeats 2000000 in
theorem pface (W : World) (g n c : Nat) (A : Option Addr) (TR : TypeId) (sc : Scn) (val : Key → Value) (ws : List Wd) (hn : ws.length = n) (hl : n ≤ 65537) (hA : SFW W A ws) (hR : RepV g W g TR sc val) (hI : InvS sc) :
    Calls Tryd.prog 40 #[.pointer (some ⟨g, 0, none⟩), .slice A n c] W fun e W' => lineP g TR W (partF sc kF ws) e W' := by
  obtain ⟨i0, hi0, hz0, hz1, hz2⟩ := info_parts infoIs
  have h8 := Lib.hid hI.skins.2
  have HVL := Lib.hid (show ∀ i, i + 1 = sc.cages.length → (cageAt sc i).verts.length ≤ 64 from fun i hi => (hI.cage _ (List.mem_of_getLast? (getLast_at hi))).1)
  have hgl := hR.lt
  have HR := Lib.hid hR
  clear hR hI
  have HF := Lib.hid (partFc sc ws)
  rcases (by omega : ((n : Int) < 3 ∧ ¬ (3 : Int) ≤ (n : Int)) ∨ ((3 : Int) ≤ (n : Int) ∧ (n : Int) ≤ 8) ∨ ((3 : Int) ≤ (n : Int) ∧ ¬ (n : Int) ≤ 8 ∧ 8 < (n : Int))) with ⟨hq, hq2⟩ | ⟨hq, hq2⟩ | ⟨hq, hq2, hq3⟩
  · go_enter Tryd.func40, Tryd.ntmps40
    go_wp2_with (go_at_call 57; (with_reducible refine (need_no _ 10).mono ?_); rintro e w9 ⟨rfl, h9⟩; replace h9 := h9.symm; subst h9)
    refine ⟨rfl, lineP_err 10 hgl (by repeat (first | with_reducible exact Below.refl _ _ | with_reducible refine bel_then ?_ _ | with_reducible refine bel_grow ?_ _ | with_reducible refine bel_alloc ?_ _ | with_reducible refine bel_drew ?_ | with_reducible refine bel_set ?_ (by simp) _ | with_reducible refine bel_setRow ?_ (by first | omega | (simp; done)) _)) ?_⟩
    rw [HF.out]
    cases hN : numsF ws with
    | none => rfl
    | some m =>
      have := numsF_len _ _ hN
      simp only []
      rw [if_pos (by omega)]
  · go_enter Tryd.func40, Tryd.ntmps40
    go_wp2_with (first | (go_at_call 57; (with_reducible refine (need_yes _ _).mono ?_); rintro e w9 ⟨rfl, h9⟩; replace h9 := h9.symm; subst h9) | (go_at_call 57; (with_reducible refine (need_any _ _ 13).mono ?_); rintro e w9 (⟨hb13, rfl, h9⟩ | ⟨hb13, rfl, h9⟩) <;> (replace h9 := h9.symm; subst h9); (first | (rw [decide_eq_true_eq] at hb13) | skip)) | (go_at_call 58; (with_reducible refine (pnumbers_any _ _ _ _ ws hn hl (hA.below (by repeat (first | with_reducible exact Below.refl _ _ | with_reducible refine bel_then ?_ _ | with_reducible refine bel_grow ?_ _ | with_reducible refine bel_alloc ?_ _ | with_reducible refine bel_drew ?_ | with_reducible refine bel_set ?_ (by simp) _ | with_reducible refine bel_setRow ?_ (by first | omega | (simp; done)) _)))).mono ?_); rintro e V hp; rcases pnums_or2 hp hn with ⟨hN, rfl, x2, rfl⟩ | ⟨ns, b2, hN, hL, rfl, hbV, hown⟩; rotate_left; (have HRV := Lib.hid (HR.out.below hbV.out); have HIV := Lib.hid (IF_of_own hown.out hL.out); have hVl := HRV.out.lt)) | (go_at_call 66; (with_reducible refine (plast _ g g TR sc val (by first | with_reducible exact HRV.out | with_reducible exact HRV.out.grow _) h8.out).mono ?_); rintro e w9 (⟨hc0, rfl, x5, rfl⟩ | ⟨b, cap, i, hi, hv, rfl, x5, rfl⟩); rotate_left; (have HI0 := Lib.hid hi; have HV0 := Lib.hid hv; obtain ⟨⟨A0, a0, HV1, cv⟩, ⟨A1, a1, HV2, cc⟩, _, zb, hbl, hbg, hbne, cbk, hbt⟩ := HRV.out.cage_cell hi hv; have zv := zb (i * 3); have zc := zb (i * 3 + 1); have hvl := HVL.out i hi; have hwr : IntKind.i64.wrap (((cageAt sc i).verts.length : Int) - 1) = ((cageAt sc i).verts.length : Int) - 1 := IntWalk.i64_in _ (by omega); replace hvl := Lib.hid hvl; replace hbt := Lib.hid hbt; have OW := Lib.hid (show ∀ x, (grow V x).ownsRow g 48 1 (.slice A1 (cageAt sc i).faces.length a1) (cageAt sc i).faces.length ((List.range (cageAt sc i).faces.length).map fun j => val (.frow i j)) from fun x => (by rw [← HV2.out]; exact (HRV.out.grow x).own.row (.face i))); clear hi hv zb)) | (go_at_call 59; (with_reducible refine (pwithin_any _ _ _ _ _ _ (ns) (hL.out) (len_big hl) (HIV.out.below (by repeat (first | with_reducible exact Below.refl _ _ | with_reducible refine bel_then ?_ _ | with_reducible refine bel_grow ?_ _ | with_reducible refine bel_alloc ?_ _ | with_reducible refine bel_drew ?_ | with_reducible refine bel_set ?_ (by simp) _ | with_reducible refine bel_setRow ?_ (by first | omega | (simp; done)) _)))).mono ?_); rintro e _ ⟨⟨hw1, rfl⟩ | ⟨hw1, rfl⟩, x3, rfl⟩) | (at_builtin; go_loud (refine wpList_append_own_at _ rfl _ _ 44 rfl g 48 i0 _ 1 24 Tryd.underlying44 hi0 hz0 hz1 hz2 rfl (by decide) _ _ _ rfl (((OW.out _).alloc _)) ⟨_, 0, none⟩ 1 1 [Value.slice (some ⟨b2, 0, none⟩) n n] rfl rfl (cell_new _ [Value.slice (some ⟨b2, 0, none⟩) n n] _) (fun u hu => by simp at hu; rcases hu with rfl <;> rfl) (by unfold maxLen; omega) (by omega) (Nat.le_trans (Nat.le_of_lt hVl) (@Below.size V.heap.size V _ (by repeat (first | with_reducible exact Below.refl _ _ | with_reducible refine bel_then ?_ _ | with_reducible refine bel_grow ?_ _ | with_reducible refine bel_alloc ?_ _ | with_reducible refine bel_drew ?_ | with_reducible refine bel_set ?_ (by simp) _ | with_reducible refine bel_setRow ?_ (by first | omega | (simp; done)) _)))) ?_); intro v4 w4 hown4 hgr4 hnil4 hat4; clear hnil4; obtain ⟨A4, a4, rfl⟩ := own_form hown4; go_loud (obtain ⟨O4, R4⟩ := HR.out.faceP HI0.out HV0.out HV2.out (.slice (some ⟨b2, 0, none⟩) n n) ns _ hgr4 hown4 hat4 (bel_trans hbV.out (by repeat (first | with_reducible exact Below.refl _ _ | with_reducible refine bel_then ?_ _ | with_reducible refine bel_grow ?_ _ | with_reducible refine bel_alloc ?_ _ | with_reducible refine bel_drew ?_ | with_reducible refine bel_set ?_ (by simp) _ | with_reducible refine bel_setRow ?_ (by first | omega | (simp; done)) _))) (by rw [hL.out]; exact ro_of_own (own_below hown.out (by repeat (first | with_reducible exact Below.refl _ _ | with_reducible refine bel_then ?_ _ | with_reducible refine bel_grow ?_ _ | with_reducible refine bel_alloc ?_ _ | with_reducible refine bel_drew ?_ | with_reducible refine bel_set ?_ (by simp) _ | with_reducible refine bel_setRow ?_ (by first | omega | (simp; done)) _)))); have hB4 := fr_app (TR := TR) hbV.out hgl hgr4 (own_typed (OW.out More.none_)) (by decide) hbg hbt.out (fun _ => by decide) (i * 3 + 1) (.slice A4 ((cageAt sc i).faces.length + 1) a4) (by repeat (first | with_reducible exact Below.refl _ _ | with_reducible refine bel_then ?_ _ | with_reducible refine bel_grow ?_ _ | with_reducible refine bel_alloc ?_ _ | with_reducible refine bel_drew ?_ | with_reducible refine bel_set ?_ (by simp) _ | with_reducible refine bel_setRow ?_ (by first | omega | (simp; done)) _)); have c4 : w4.cell? ⟨b, i * 3 + 1, none⟩ = some (.slice A1 (cageAt sc i).faces.length a1) := (by rw [O4.cellAt (i * 3 + 1) (by have := HI0.out; omega), (cage_get HI0.out val).2.1, HV2.out]); have z4 := O4.frozenAt (i * 3 + 1); replace R4 := Lib.hid R4; replace hB4 := Lib.hid hB4; clear hgr4 hown4 hat4 O4)))
    · go_end0
      rw [inB_all hL.out] at hw1
      refine lineP_ok ?_ hB4.out R4.out
      have hl0 := hL.out
      rw [HF.out, hN]
      dsimp only
      rw [if_neg (by omega), getLast_at HI0.out]
      dsimp only
      rw [if_neg (by omega), hl0, if_pos hw1]
    · refine ⟨rfl, lineP_err 11 hgl (bel_trans hbV.out (by repeat (first | with_reducible exact Below.refl _ _ | with_reducible refine bel_then ?_ _ | with_reducible refine bel_grow ?_ _ | with_reducible refine bel_alloc ?_ _ | with_reducible refine bel_drew ?_ | with_reducible refine bel_set ?_ (by simp) _ | with_reducible refine bel_setRow ?_ (by first | omega | (simp; done)) _))) ?_⟩
      rw [inB_all hL.out] at hw1
      have hl0 := hL.out
      rw [HF.out, hN]
      dsimp only
      rw [if_neg (by omega), getLast_at HI0.out]
      dsimp only
      rw [if_neg (by omega), hl0, if_neg (by rw [hw1]; simp)]
    · refine ⟨rfl, lineP_err 13 hgl (bel_trans hbV.out (by repeat (first | with_reducible exact Below.refl _ _ | with_reducible refine bel_then ?_ _ | with_reducible refine bel_grow ?_ _ | with_reducible refine bel_alloc ?_ _ | with_reducible refine bel_drew ?_ | with_reducible refine bel_set ?_ (by simp) _ | with_reducible refine bel_setRow ?_ (by first | omega | (simp; done)) _))) ?_⟩
      have hl0 := hL.out
      simp at hb13
      rw [HF.out, hN]
      dsimp only
      rw [if_neg (by omega), getLast_at HI0.out]
      dsimp only
      rw [if_pos (by omega)]
    · refine ⟨rfl, lineP_err 15 hgl (bel_trans hbV.out (by repeat (first | with_reducible exact Below.refl _ _ | with_reducible refine bel_then ?_ _ | with_reducible refine bel_grow ?_ _ | with_reducible refine bel_alloc ?_ _ | with_reducible refine bel_drew ?_ | with_reducible refine bel_set ?_ (by simp) _ | with_reducible refine bel_setRow ?_ (by first | omega | (simp; done)) _))) ?_⟩
      have hl0 := hL.out
      rw [HF.out, hN]
      dsimp only
      rw [if_neg (by omega), hc0]
      rfl
    · refine ⟨rfl, lineP_err 10 hgl (by repeat (first | with_reducible exact Below.refl _ _ | with_reducible refine bel_then ?_ _ | with_reducible refine bel_grow ?_ _ | with_reducible refine bel_alloc ?_ _ | with_reducible refine bel_drew ?_ | with_reducible refine bel_set ?_ (by simp) _ | with_reducible refine bel_setRow ?_ (by first | omega | (simp; done)) _)) ?_⟩
      rw [HF.out, hN]
  · go_enter Tryd.func40, Tryd.ntmps40
    go_wp2_with (go_at_call 57; (with_reducible refine (need_no _ 10).mono ?_); rintro e w9 ⟨rfl, h9⟩; replace h9 := h9.symm; subst h9)
    refine ⟨rfl, lineP_err 10 hgl (by repeat (first | with_reducible exact Below.refl _ _ | with_reducible refine bel_then ?_ _ | with_reducible refine bel_grow ?_ _ | with_reducible refine bel_alloc ?_ _ | with_reducible refine bel_drew ?_ | with_reducible refine bel_set ?_ (by simp) _ | with_reducible refine bel_setRow ?_ (by first | omega | (simp; done)) _)) ?_⟩
    rw [HF.out]
    cases hN : numsF ws with
    | none => rfl
    | some m =>
      have := numsF_len _ _ hN
      simp only []
      rw [if_pos (by omega)]
end Go.Proofs.YtehmlofhiffanaaDoor
