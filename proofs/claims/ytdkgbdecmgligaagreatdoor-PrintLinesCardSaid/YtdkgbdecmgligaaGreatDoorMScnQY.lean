/- The program's own scene: the cage that lines belong to. -/
import Derived.Test.YtdkgbdecmgligaaGreatDoorMScnQA
import Derived.Test.YtdkgbdecmgligaaGreatDoorMLexC
import Derived.Test.YtdkgbdecmgligaaGreatDoorRegS
namespace Go.Proofs.YtdkgbdecmgligaaGreatDoor
open Go.RowKit
set_option linter.unusedVariables false
set_option linter.unusedSimpArgs false
set_option linter.unnecessarySimpa false

theorem cage_get {sc : Scn} {i : Nat} (hi : i + 1 = sc.cages.length) (val : Key → Value) : ((cageSS sc.cages.length val).flatMap fC)[i * 3]? = some (val (.vert i)) ∧ ((cageSS sc.cages.length val).flatMap fC)[i * 3 + 1]? = some (val (.face i)) ∧ ((cageSS sc.cages.length val).flatMap fC)[i * 3 + 2]? = some (val (.crease i)) := by
  rw [← hi, cage_cells]
  have h := cage_cells_len i val
  refine ⟨?_, ?_, ?_⟩
  · rw [List.getElem?_append_right (by omega), h]; simp
  · rw [List.getElem?_append_right (by omega), h, show i * 3 + 1 - i * 3 = 1 by omega]; simp
  · rw [List.getElem?_append_right (by omega), h, show i * 3 + 2 - i * 3 = 2 by omega]; simp
set_option maxRecDepth 100000 in
set_option maxHeartbeats 2000000 in
theorem plast (W : World) (base g : Nat) (TR : TypeId) (sc : Scn) (val : Key → Value) (hR : RepV base W g TR sc val) (h8 : sc.cages.length ≤ 8) :
    Calls Tryz.prog 117 #[.pointer (some ⟨g, 0, none⟩)] W fun e w' => (sc.cages = [] ∧ e = Ending.panicked [{ v := Value.iface 37 (.int .i64 15), recovered := false }] ∧ ∃ x, w' = grow W x) ∨
      (∃ b cap i, i + 1 = sc.cages.length ∧ val .cages = .slice (some ⟨b, 0, none⟩) sc.cages.length cap ∧ e = .returned (.pointer (some ⟨b, i * 3, none⟩)) ∧ ∃ x, w' = grow W x) := by
  have ho : W.ownsRow base 48 3 (val .cages) sc.cages.length ((cageSS sc.cages.length val).flatMap fC) := hR.own.row .cages
  rcases Nat.eq_zero_or_pos sc.cages.length with h0 | h0
  · have hnil : sc.cages = [] := List.length_eq_zero_iff.1 h0
    obtain ⟨A1, a1, hv⟩ := own_form ho
    have c23 : W.cell? ⟨g, 23, none⟩ = some (.slice A1 sc.cages.length a1) := by rw [← hv]; exact hR.blk.cell 23
    have z23 := hR.blk.frozen 23
    have hgl := hR.lt
    rw [h0] at c23
    clear hv ho hR
    go_enter Tryz.func117, Tryz.ntmps117
    go_wp2_with (first | (go_at_call 108; (with_reducible refine (need_any _ _ 15).mono ?_); rintro e w9 (⟨hb15, rfl, h9⟩ | ⟨hb15, rfl, h9⟩) <;> (replace h9 := h9.symm; subst h9)))
    · simp at hb15
    · exact ⟨rfl, .inl ⟨hnil, rfl, grow_of (by repeat (first | with_reducible exact Below.refl _ _ | with_reducible refine bel_then ?_ _ | with_reducible refine bel_grow ?_ _ | with_reducible refine bel_alloc ?_ _ | with_reducible refine bel_drew ?_ | with_reducible refine bel_set ?_ (by simp) _ | with_reducible refine bel_setRow ?_ (by first | omega | (simp; done)) _))⟩⟩
  · obtain ⟨b, cap, hv⟩ : ∃ b cap, val .cages = .slice (some ⟨b, 0, none⟩) sc.cages.length cap := by
      rcases ho.2 with ⟨h1, h2⟩ | ⟨b, cap, cur, h1, _⟩
      · omega
      · exact ⟨b, cap, h1⟩
    obtain ⟨i, hi⟩ : ∃ i, i + 1 = sc.cages.length := ⟨sc.cages.length - 1, by omega⟩
    have c23 : W.cell? ⟨g, 23, none⟩ = some (.slice (some ⟨b, 0, none⟩) sc.cages.length cap) := by rw [← hv]; exact hR.blk.cell 23
    have z23 := hR.blk.frozen 23
    have hgl := hR.lt
    have HE := Lib.hid hi
    have HV := Lib.hid hv
    have hiI : (sc.cages.length : Int) - 1 = (i : Int) := by omega
    have hiw : IntKind.i64.wrap ((sc.cages.length : Int) - 1) = (i : Int) := by rw [hiI]; exact IntWalk.i64_in _ (by omega)
    have hi0 : (0 : Int) ≤ (i : Int) := by omega
    have hi1 : (i : Int) < (sc.cages.length : Int) := by omega
    have hi2 : (0 : Int) < (sc.cages.length : Int) := by omega
    clear hi ho hR hv
    generalize hnn : sc.cages.length = nn at *
    go_enter Tryz.func117, Tryz.ntmps117
    go_wp2_with (first | (go_at_call 108; (with_reducible refine (need_any _ _ 15).mono ?_); rintro e w9 (⟨hb15, rfl, h9⟩ | ⟨hb15, rfl, h9⟩) <;> (replace h9 := h9.symm; subst h9)))
    · refine wp_region_grow (by kernel_rfl) (by kernel_rfl) ?_
      repeat (go_big_quiet_step ((fail)))
      refine wpQuiet_nil ?_
      rintro _ ⟨xg, rfl⟩
      go_wp2_with fail
      refine bodyPost_ret (v := .pointer (some ⟨b, i * 3, none⟩)) (by simp [results, Tryz.results117, go_sem]) rfl (.inr ⟨b, cap, i, HE.out, HV.out, rfl, grow_of (by repeat (first | with_reducible exact Below.refl _ _ | with_reducible refine bel_then ?_ _ | with_reducible refine bel_grow ?_ _ | with_reducible refine bel_alloc ?_ _ | with_reducible refine bel_drew ?_ | with_reducible refine bel_set ?_ (by simp) _ | with_reducible refine bel_setRow ?_ (by first | omega | (simp; done)) _))⟩)
    · simp at hb15
theorem RepV.cage_cell {W : World} {base g : Nat} {TR : TypeId} {sc : Scn} {val : Key → Value} (h : RepV base W g TR sc val) {b cap i : Nat} (hi : i + 1 = sc.cages.length) (hv : val .cages = .slice (some ⟨b, 0, none⟩) sc.cages.length cap) :
    (∃ A1 a1, Hid (val (.vert i) = .slice A1 (cageAt sc i).verts.length a1) ∧ W.cell? ⟨b, i * 3, none⟩ = some (.slice A1 (cageAt sc i).verts.length a1)) ∧ (∃ A1 a1, Hid (val (.face i) = .slice A1 (cageAt sc i).faces.length a1) ∧ W.cell? ⟨b, i * 3 + 1, none⟩ = some (.slice A1 (cageAt sc i).faces.length a1)) ∧
    (∃ A1 a1, Hid (val (.crease i) = .slice A1 (cageAt sc i).creases.length a1) ∧ W.cell? ⟨b, i * 3 + 2, none⟩ = some (.slice A1 (cageAt sc i).creases.length a1)) ∧ (∀ j, W.frozen? ⟨b, j, none⟩ = false) ∧ b < W.heap.size ∧ base ≤ b ∧ b ≠ g ∧ ∃ cur, Blk W b 48 cur := by
  have ho : W.ownsRow base 48 3 (val .cages) sc.cages.length ((cageSS sc.cages.length val).flatMap fC) := h.own.row .cages
  have hoff := h.own.off .cages
  rw [hv] at ho
  have hoff : (Value.slice (some ⟨b, 0, none⟩) sc.cages.length cap).ownBlock ≠ some g := by rw [← hv]; exact hoff
  obtain ⟨g1, g2, g3⟩ := cage_get hi val
  have hlt := ho.lt b rfl
  refine ⟨?_, ?_, ?_, fun j => ho.frozenAt j, hlt.2, hlt.1, fun e => hoff (by rw [e]; rfl), (own_typed ho b rfl).2⟩
  · obtain ⟨A1, a1, e⟩ := own_form (show W.ownsRow base 23 3 (val (.vert i)) (cageAt sc i).verts.length (flat3 (cageAt sc i).verts) from h.own.row (.vert i))
    exact ⟨A1, a1, Lib.hid e, by rw [ho.cellAt (i * 3) (by omega), g1, e]⟩
  · obtain ⟨A1, a1, e⟩ := own_form (show W.ownsRow base 49 1 (val (.face i)) (cageAt sc i).faces.length ((List.range (cageAt sc i).faces.length).map fun j => val (.frow i j)) from h.own.row (.face i))
    exact ⟨A1, a1, Lib.hid e, by rw [ho.cellAt (i * 3 + 1) (by omega), g2, e]⟩
  · obtain ⟨A1, a1, e⟩ := own_form (show W.ownsRow base 98 3 (val (.crease i)) (cageAt sc i).creases.length (flat3 (cageAt sc i).creases) from h.own.row (.crease i))
    exact ⟨A1, a1, Lib.hid e, by rw [ho.cellAt (i * 3 + 2) (by omega), g3, e]⟩
end Go.Proofs.YtdkgbdecmgligaaGreatDoor

/- The program's own scene: the line of a vertex. -/
namespace Go.Proofs.YtdkgbdecmgligaaGreatDoor
open Go.RowKit
set_option linter.unusedVariables false
set_option linter.unusedSimpArgs false
set_option linter.unnecessarySimpa false

theorem partV (sc : Scn) (ws : List Wd) : partF sc kV ws = (match numsF ws with | none => .error 10 | some n => if n.length ≠ 3 then .error 10 else match sc.cages.getLast? with
    | none => .error 15
    | some c => if 64 ≤ c.verts.length then .error 13 else if wi n 0 3 (-16384) 16384 then .ok { sc with cages := onLast (fun c => { c with verts := c.verts ++ [n] }) sc.cages } else .error 11) := by
  have e : kV ≠ kF := by decide
  unfold partF
  cases numsF ws with
  | none => rfl
  | some n =>
    simp only []
    by_cases h : n.length = 3
    · have e1 : ((kV ≠ kF ∧ n.length ≠ 3) ∨ (kV = kF ∧ (n.length < 3 ∨ 8 < n.length))) = False := by simp [e, h]
      have e2 : (n.length ≠ 3) = False := by simp [h]
      simp only [e1, if_false]
      simp only [e2, if_false]
      cases sc.cages.getLast? with
      | none => rfl
      | some c => simp only [if_true]
    · rw [if_pos (.inl ⟨e, h⟩), if_pos h]
theorem getLast_at {sc : Scn} {i : Nat} (hi : i + 1 = sc.cages.length) : sc.cages.getLast? = some (cageAt sc i) := by
  obtain ⟨ys, c, e⟩ : ∃ ys c, sc.cages = ys ++ [c] := by
    rcases List.eq_nil_or_concat sc.cages with h | ⟨ys, c, h⟩
    · rw [h] at hi; cases hi
    · exact ⟨ys, c, by rw [h]; simp⟩
  have hl : i = ys.length := by rw [e] at hi; simpa using hi
  unfold cageAt
  rw [e, hl]; simp
set_option maxRecDepth 100000 in
set_option maxHeartbeats 2000000 in
theorem pvertex (W : World) (g n c : Nat) (A : Option Addr) (TR : TypeId) (sc : Scn) (val : Key → Value) (ws : List Wd) (hn : ws.length = n) (hl : n ≤ 65537) (hA : SFW W A ws) (hR : RepV g W g TR sc val) (hI : InvS sc) :
    Calls Tryz.prog 85 #[.pointer (some ⟨g, 0, none⟩), .slice A n c] W fun e W' => lineP g TR W (partF sc kV ws) e W' := by
  obtain ⟨i0, hi0, hz0, hz1, hz2⟩ := info_parts infoVx
  have h8 := Lib.hid hI.skins.2
  have hgl := hR.lt
  have HR := Lib.hid hR
  clear hR hI
  have HF := Lib.hid (partV sc ws)
  go_enter Tryz.func85, Tryz.ntmps85
  go_wp2_with (first | (go_at_call 108; (with_reducible refine (need_any _ _ 10).mono ?_); rintro e w9 (⟨hb10, rfl, h9⟩ | ⟨hb10, rfl, h9⟩) <;> (replace h9 := h9.symm; subst h9); (first | (obtain rfl : n = 3 := (by simp at hb10; omega)) | skip)) | (go_at_call 108; (with_reducible refine (need_any _ _ 13).mono ?_); rintro e w9 (⟨hb13, rfl, h9⟩ | ⟨hb13, rfl, h9⟩) <;> (replace h9 := h9.symm; subst h9)) | (go_at_call 109; (with_reducible refine (pnumbers_any _ _ _ _ ws hn hl (hA.below (by repeat (first | with_reducible exact Below.refl _ _ | with_reducible refine bel_then ?_ _ | with_reducible refine bel_grow ?_ _ | with_reducible refine bel_alloc ?_ _ | with_reducible refine bel_drew ?_ | with_reducible refine bel_set ?_ (by simp) _ | with_reducible refine bel_setRow ?_ (by first | omega | (simp; done)) _)))).mono ?_); rintro e V hp; rcases pnums_or2 hp hn with ⟨hN, rfl, x2, rfl⟩ | ⟨ns, b2, hN, hL, rfl, hbV, hown⟩; rotate_left; (have HRV := Lib.hid (HR.out.below hbV.out); have HIV := Lib.hid (IF_of_own hown.out hL.out); have hVl := HRV.out.lt)) | (go_at_call 117; (with_reducible refine (plast _ g g TR sc val (by first | with_reducible exact HRV.out | with_reducible exact HRV.out.grow _) h8.out).mono ?_); rintro e w9 (⟨hc0, rfl, x5, rfl⟩ | ⟨b, cap, i, hi, hv, rfl, x5, rfl⟩); rotate_left; (have HI0 := Lib.hid hi; have HV0 := Lib.hid hv; obtain ⟨⟨A1, a1, HV1, cv⟩, _, _, zb, hbl, hbg, hbne, cbk, hbt⟩ := HRV.out.cage_cell hi hv; have zv := zb (i * 3); replace hbt := Lib.hid hbt; clear hi hv zb)) | (go_at_call 110; (with_reducible refine (pwithin_any _ _ _ _ _ _ (ns) (hL.out) (by decide) (HIV.out.below (by repeat (first | with_reducible exact Below.refl _ _ | with_reducible refine bel_then ?_ _ | with_reducible refine bel_grow ?_ _ | with_reducible refine bel_alloc ?_ _ | with_reducible refine bel_drew ?_ | with_reducible refine bel_set ?_ (by simp) _ | with_reducible refine bel_setRow ?_ (by first | omega | (simp; done)) _)))).mono ?_); rintro e _ ⟨⟨hw, rfl⟩ | ⟨hw, rfl⟩, x3, rfl⟩))
  · simp at hb13
    have hl3 : ns.length = 3 := hL.out
    rw [inB_all hl3] at hw
    have HS := Lib.hid (show partF sc kV ws = .ok { sc with cages := onLast (fun c => { c with verts := c.verts ++ [ns] }) sc.cages } by
      rw [HF.out, hN]; simp only []; rw [if_neg (by omega), getLast_at HI0.out]; simp only []; rw [if_neg (by omega), if_pos hw])
    clear HF hw
    have OW : ∀ x, (grow V x).ownsRow g 23 3 (.slice A1 (cageAt sc i).verts.length a1) (cageAt sc i).verts.length (flat3 (cageAt sc i).verts) := by
      intro x; rw [← HV1.out]; exact (HRV.out.grow x).own.row (.vert i)
    have CP := Lib.hid (fun (x : More) => ppoint_any (grow V x) (some ⟨b2, 0, none⟩) 3 3 ns hL.out (by decide) (by decide) (HIV.out.below (bel_grow (Below.refl _ _) x)))
    replace OW := Lib.hid OW
    have HNS := Lib.hid (show [Value.int .i64 (ns.getD 0 0), Value.int .i64 (ns.getD 1 0), Value.int .i64 (ns.getD 2 0)] = [.int .i64 (ns.getD 0 0), .int .i64 (ns.getD 1 0), .int .i64 (ns.getD 2 0)] from rfl)
    generalize hp0 : ns.getD 0 0 = p0 at *
    generalize hp1 : ns.getD 1 0 = p1 at *
    generalize hp2 : ns.getD 2 0 = p2 at *
    have HPS := Lib.hid (show [Value.int .i64 (ns.getD 0 0), Value.int .i64 (ns.getD 1 0), Value.int .i64 (ns.getD 2 0)] = [.int .i64 p0, .int .i64 p1, .int .i64 p2] by rw [hp0, hp1, hp2])
    clear hown hp hp0 hp1 hp2 HNS
    refine wp_region_makeS_ 7 ?_ (.pointer (some ⟨b, i * 3, none⟩)) 30 (.cells #[.int .i64 p0, .int .i64 p1, .int .i64 p2] 23) (by kernel_rfl) (by kernel_rfl) (by kernel_rfl) rfl rfl rfl (fun _ _ _ h => h) ?_ (fun x => ?_) (fun x y => ?_)
    rotate_left 2
    · simp only [List.take_succ_cons, List.take_zero, List.tail_cons, Act.put, List.setIfInBounds_toArray, List.set_cons_succ, List.set_cons_zero]
      repeat (go_big_quiet_step (((first | exact qq1 (CP.out _) | exact qq2 (CP.out _)))))
      refine wpQuiet_nil ?_
      exact rfl
    rotate_left
    · exact ⟨_, rfl, rfl, rfl, fun u => by simp [execOp, go_sem]⟩
    simp only [List.drop_succ_cons, List.drop_zero]
    try simp only [Act.put, List.setIfInBounds_toArray, List.set_cons_succ, List.set_cons_zero]
    go_wp2_with (at_builtin; go_loud (refine wpList_append_own_at _ rfl _ _ 44 rfl g 23 i0 _ 3 24 Tryz.underlying44 hi0 hz0 hz1 hz2 rfl (by decide) _ _ _ rfl (own_grow ((own_grow (OW.out _) _).alloc _) _) ⟨_, 0, none⟩ 1 1 [.int .i64 p0, .int .i64 p1, .int .i64 p2] rfl rfl (cell_newG _ [.int .i64 p0, .int .i64 p1, .int .i64 p2] _ _) (fun u hu => by simp at hu; rcases hu with rfl | rfl | rfl <;> rfl) (by unfold maxLen; omega) (by omega) (Nat.le_trans (Nat.le_of_lt hVl) (@Below.size V.heap.size V _ (by repeat (first | with_reducible exact Below.refl _ _ | with_reducible refine bel_then ?_ _ | with_reducible refine bel_grow ?_ _ | with_reducible refine bel_alloc ?_ _ | with_reducible refine bel_drew ?_ | with_reducible refine bel_set ?_ (by simp) _ | with_reducible refine bel_setRow ?_ (by first | omega | (simp; done)) _)))) ?_); intro v4 w4 hown4 hgr4 hnil4 hat4; clear hnil4; obtain ⟨A4, a4, rfl⟩ := own_form hown4; go_loud (obtain ⟨O4, R4⟩ := HRV.out.vertP HI0.out HV0.out HV1.out ns HPS.out _ hgr4 hown4 hat4 (by repeat (first | with_reducible exact Below.refl _ _ | with_reducible refine bel_then ?_ _ | with_reducible refine bel_grow ?_ _ | with_reducible refine bel_alloc ?_ _ | with_reducible refine bel_drew ?_ | with_reducible refine bel_set ?_ (by simp) _ | with_reducible refine bel_setRow ?_ (by first | omega | (simp; done)) _)); have hB4 := fr_app (TR := TR) hbV.out hgl hgr4 (own_typed (OW.out More.none_)) (by decide) hbg hbt.out (fun _ => by decide) (i * 3) (.slice A4 ((cageAt sc i).verts.length + 1) a4) (by repeat (first | with_reducible exact Below.refl _ _ | with_reducible refine bel_then ?_ _ | with_reducible refine bel_grow ?_ _ | with_reducible refine bel_alloc ?_ _ | with_reducible refine bel_drew ?_ | with_reducible refine bel_set ?_ (by simp) _ | with_reducible refine bel_setRow ?_ (by first | omega | (simp; done)) _)); have c4 : w4.cell? ⟨b, i * 3, none⟩ = some (.slice A1 (cageAt sc i).verts.length a1) := (by rw [O4.cellAt (i * 3) (by have := HI0.out; omega), (cage_get HI0.out val).1, HV1.out]); have z4 := O4.frozenAt (i * 3); replace R4 := Lib.hid R4; replace hB4 := Lib.hid hB4; clear hgr4 hown4 hat4 O4))
    go_end0
    exact lineP_ok HS.out hB4.out R4.out
  · refine ⟨rfl, lineP_err 11 hgl (bel_trans hbV.out (by repeat (first | with_reducible exact Below.refl _ _ | with_reducible refine bel_then ?_ _ | with_reducible refine bel_grow ?_ _ | with_reducible refine bel_alloc ?_ _ | with_reducible refine bel_drew ?_ | with_reducible refine bel_set ?_ (by simp) _ | with_reducible refine bel_setRow ?_ (by first | omega | (simp; done)) _))) ?_⟩
    rw [HF.out, hN]
    simp at hb13
    have hl3 : ns.length = 3 := hL.out
    rw [inB_all hl3] at hw
    simp only []
    rw [if_neg (by omega), getLast_at HI0.out]
    simp only []
    rw [if_neg (by omega), if_neg (by rw [hw]; simp)]
  · refine ⟨rfl, lineP_err 13 hgl (bel_trans hbV.out (by repeat (first | with_reducible exact Below.refl _ _ | with_reducible refine bel_then ?_ _ | with_reducible refine bel_grow ?_ _ | with_reducible refine bel_alloc ?_ _ | with_reducible refine bel_drew ?_ | with_reducible refine bel_set ?_ (by simp) _ | with_reducible refine bel_setRow ?_ (by first | omega | (simp; done)) _))) ?_⟩
    rw [HF.out, hN]
    simp at hb13
    have hl3 : ns.length = 3 := hL.out
    simp only []
    rw [if_neg (by omega), getLast_at HI0.out]
    simp only []
    rw [if_pos (by omega)]
  · refine ⟨rfl, lineP_err 15 hgl (bel_trans hbV.out (by repeat (first | with_reducible exact Below.refl _ _ | with_reducible refine bel_then ?_ _ | with_reducible refine bel_grow ?_ _ | with_reducible refine bel_alloc ?_ _ | with_reducible refine bel_drew ?_ | with_reducible refine bel_set ?_ (by simp) _ | with_reducible refine bel_setRow ?_ (by first | omega | (simp; done)) _))) ?_⟩
    have hl3 : ns.length = 3 := hL.out
    rw [HF.out, hN]
    simp [hl3, hc0]
  · refine ⟨rfl, lineP_err 10 hgl (by repeat (first | with_reducible exact Below.refl _ _ | with_reducible refine bel_then ?_ _ | with_reducible refine bel_grow ?_ _ | with_reducible refine bel_alloc ?_ _ | with_reducible refine bel_drew ?_ | with_reducible refine bel_set ?_ (by simp) _ | with_reducible refine bel_setRow ?_ (by first | omega | (simp; done)) _)) ?_⟩
    rw [HF.out, hN]
  · refine ⟨rfl, lineP_err 10 hgl (by repeat (first | with_reducible exact Below.refl _ _ | with_reducible refine bel_then ?_ _ | with_reducible refine bel_grow ?_ _ | with_reducible refine bel_alloc ?_ _ | with_reducible refine bel_drew ?_ | with_reducible refine bel_set ?_ (by simp) _ | with_reducible refine bel_setRow ?_ (by first | omega | (simp; done)) _)) ?_⟩
    rw [HF.out]
    cases hN : numsF ws with
    | none => rfl
    | some m =>
      have := numsF_len _ _ hN
      simp at hb10
      simp; omega
end Go.Proofs.YtdkgbdecmgligaaGreatDoor
