/- The program's own scene: the line of a cage. -/
import Derived.Test.YtdkgbdecmgligaaGreatDoorScnQB
namespace Go.Proofs.YtdkgbdecmgligaaGreatDoor
open Go.RowKit
set_option linter.unusedVariables false
set_option linter.unusedSimpArgs false
set_option linter.unnecessarySimpa false

theorem skinF_short (sc : Scn) (wl : List Wd) (h : wl.length ≠ 6) : skinF sc wl = .error 10 := by
  unfold skinF
  split
  · simp at h
  · rfl
set_option maxRecDepth 100000 in
set_option maxHeartbeats 2000000 in
theorem pcage_short (W : World) (g n c : Nat) (A : Option Addr) (TR : TypeId) (sc : Scn) (val : Key → Value) (wl : List Wd) (hn : wl.length = n) (h3 : ¬ (n : Int) = 6) (h4 : ((n : Int) == 6) = false) (hR : RepV g W g TR sc val) :
    Calls Tryz.prog 84 #[.pointer (some ⟨g, 0, none⟩), .slice A n c] W fun e W' => lineP g TR W (skinF sc wl) e W' := by
  have hgl := hR.lt
  have HF := Lib.hid (skinF_short sc wl (by omega))
  clear hR
  go_enter Tryz.func84, Tryz.ntmps84
  go_wp2_with (go_at_call 108; (with_reducible refine (need_no _ 10).mono ?_); rintro e w9 ⟨rfl, h9⟩; replace h9 := h9.symm; subst h9)
  refine ⟨rfl, lineP_err 10 hgl (by repeat (first | with_reducible exact Below.refl _ _ | with_reducible refine bel_then ?_ _ | with_reducible refine bel_grow ?_ _ | with_reducible refine bel_alloc ?_ _ | with_reducible refine bel_drew ?_ | with_reducible refine bel_set ?_ (by simp) _ | with_reducible refine bel_setRow ?_ (by first | omega | (simp; done)) _)) ?_⟩
  exact HF.out
theorem skinF_names (sc : Scn) (name mat w3 w4 tex w6 : Wd) (h : isN name = false ∨ isN mat = false ∨ (tex ≠ kNo ∧ isN tex = false)) : skinF sc [name, mat, w3, w4, tex, w6] = .error 10 := by
  unfold skinF
  dsimp only
  rw [if_pos h]
theorem eqNo (a : Wd) : (a == [45]) = decide (a = kNo) := by
  rw [Bool.eq_iff_iff, beq_iff_eq, decide_eq_true_eq]; rfl
theorem eqNo2 (a : Wd) : ((⟨a.toArray⟩ : ByteArray).toList == [45]) = decide (a = kNo) := by
  rw [ByteArray.toList_eq]; exact eqNo a
set_option maxRecDepth 100000 in
set_option maxHeartbeats 4000000 in
theorem pcage_names (W : World) (g c b off : Nat) (TR : TypeId) (sc : Scn) (val : Key → Value) (name mat w3 w4 tex w6 : Wd) (hA : SFW W (some ⟨b, off, none⟩) [name, mat, w3, w4, tex, w6]) (hR : RepV g W g TR sc val) (h : isN name = false ∨ isN mat = false ∨ (tex ≠ kNo ∧ isN tex = false)) :
    Calls Tryz.prog 84 #[.pointer (some ⟨g, 0, none⟩), .slice (some ⟨b, off, none⟩) 6 c] W fun e W' => lineP g TR W (skinF sc [name, mat, w3, w4, tex, w6]) e W' := by
  have hgl := hR.lt
  have hcell : ∀ i, i < 6 → W.cell? ⟨b, off + i, none⟩ = some (.string ⟨(([name, mat, w3, w4, tex, w6]).getD i []).toArray⟩) := by
    obtain ⟨b2, off2, q, hb, hcc⟩ := hA (by simp)
    cases q
    intro i hi
    exact hcc i (by simpa using hi)
  have hbl : b < W.heap.size := (hA (by simp)).elim fun b2 ⟨off2, q, hb, _⟩ => by cases q; exact hb
  have s0 : W.cell? ⟨b, off, none⟩ = some (.string ⟨name.toArray⟩) := hcell 0 (by omega)
  have s1 : W.cell? ⟨b, off + 1, none⟩ = some (.string ⟨mat.toArray⟩) := hcell 1 (by omega)
  have s2 : W.cell? ⟨b, off + 2, none⟩ = some (.string ⟨w3.toArray⟩) := hcell 2 (by omega)
  have s3 : W.cell? ⟨b, off + 3, none⟩ = some (.string ⟨w4.toArray⟩) := hcell 3 (by omega)
  have s4 : W.cell? ⟨b, off + 4, none⟩ = some (.string ⟨tex.toArray⟩) := hcell 4 (by omega)
  have s5 : W.cell? ⟨b, off + 5, none⟩ = some (.string ⟨w6.toArray⟩) := hcell 5 (by omega)
  have CN1 := lName_any ⟨name.toArray⟩
  have CN2 := lName_any ⟨mat.toArray⟩
  have CN3 := lName_any ⟨tex.toArray⟩
  clear hcell hA
  have HF := Lib.hid (skinF_names sc name mat w3 w4 tex w6 h)
  have EQT := eqNo tex
  have EQT2 := eqNo2 tex
  clear hR
  generalize hb3 : decide (tex = kNo) = bt at *
  unfold isN at h
  generalize nameB ⟨name.toArray⟩ = bn at *
  generalize nameB ⟨mat.toArray⟩ = bm at *
  generalize nameB ⟨tex.toArray⟩ = bx at *
  have h2 : bn = false ∨ bm = false ∨ (bt = false ∧ bx = false) := by
    rcases h with h | h | ⟨h, h'⟩
    · exact .inl h
    · exact .inr (.inl h)
    · exact .inr (.inr ⟨by rw [← hb3]; simpa using h, h'⟩)
  clear h hb3
  go_enter Tryz.func84, Tryz.ntmps84
  go_wp2_with (go_at_call 108; (with_reducible refine (need_yes _ _).mono ?_); rintro e w9 ⟨rfl, h9⟩; replace h9 := h9.symm; subst h9)
  refine wp_region_grow (by kernel_rfl) (by kernel_rfl) ?_
  repeat (go_big_quiet_step ((fail)))
  refine wpQuiet_nil ?_
  rintro _ ⟨xg, rfl⟩
  rcases (by revert h2; cases bn <;> cases bm <;> cases bt <;> cases bx <;> simp : bn = false ∨ (bn = true ∧ bm = false) ∨ (bn = true ∧ bm = true ∧ bt = false ∧ bx = false)) with rfl | ⟨rfl, rfl⟩ | ⟨rfl, rfl, rfl, rfl⟩
  all_goals go_wp2_with (first | (go_at_call 108; (with_reducible refine (need_no _ 10).mono ?_); rintro e w9 ⟨rfl, h9⟩; replace h9 := h9.symm; subst h9) | (go_at_call 108; (with_reducible refine (need_yes _ _).mono ?_); rintro e w9 ⟨rfl, h9⟩; replace h9 := h9.symm; subst h9) | (go_at_call 113; first | ((with_reducible refine (CN1.at_ _).mono ?_); rintro e _ ⟨rfl, x7, rfl⟩) | ((with_reducible refine (CN2.at_ _).mono ?_); rintro e _ ⟨rfl, x8, rfl⟩) | ((with_reducible refine (CN3.at_ _).mono ?_); rintro e _ ⟨rfl, x9, rfl⟩)))
  all_goals refine ⟨rfl, lineP_err 10 hgl (by repeat (first | with_reducible exact Below.refl _ _ | with_reducible refine bel_then ?_ _ | with_reducible refine bel_grow ?_ _ | with_reducible refine bel_alloc ?_ _ | with_reducible refine bel_drew ?_ | with_reducible refine bel_set ?_ (by simp) _ | with_reducible refine bel_setRow ?_ (by first | omega | (simp; done)) _)) HF.out⟩

theorem fr_app2 {g : Nat} {TR T : TypeId} {W X W1 W2 : World} {row : Option Nat} {cb : Array Value} (h1 : Fr g TR W X) (hg : g < X.heap.size) (hgr : W1.grownBy W2 row) (ho : ∀ k, row = some k → g ≤ k ∧ ∃ cur, X.heap[k]? = some (.cells cur T (0, 0))) (hT : T ≠ 37) (hbt : Blk X g TR cb) (i : Nat) (u : Value) (h2 : Below X.heap.size X W1) : Fr g TR W (W2.setCell ⟨g, i, none⟩ u) := by
  have h := fr_app (TR := TR) (Below.refl _ _) hg hgr ho hT (Nat.le_refl g) hbt (fun h => h) i u h2
  refine ⟨h1.1.trans h.1, fun ht j cs hj => ?_⟩
  have e := h1.2 ht j cs hj
  exact (h.2 ht j cs (e.trans hj)).trans e
theorem three_of {l : List Int} (h : l.length = 3) : ∃ a b c, l = [a, b, c] := by
  match l, h with
  | [a, b, c], _ => exact ⟨a, b, c, rfl⟩
theorem SFW.new3 (w : World) (x y z : Wd) (t : TypeId) : SFW (w.alloc (.cells #[.string ⟨x.toArray⟩, .string ⟨y.toArray⟩, .string ⟨z.toArray⟩] t)) (some ⟨w.heap.size, 0, none⟩) [x, y, z] := fun _ => by
  refine ⟨w.heap.size, 0, rfl, by simp, fun i hi => ?_⟩
  have h := Blk.cell (Blk.new w t #[.string ⟨x.toArray⟩, .string ⟨y.toArray⟩, .string ⟨z.toArray⟩] w.heap.size rfl) i
  rw [Nat.zero_add, h]
  have hi : i < 3 := by simpa using hi
  rcases (by omega : i = 0 ∨ i = 1 ∨ i = 2) with rfl | rfl | rfl <;> simp
theorem alloc_Skin (a : Act) (o : Oper) (ho : o.op = .alloc 55) (w : World) : (execOp a.eval o).run Tryz.prog w = .ok (.value (.pointer (some ⟨w.heap.size, 0, none⟩))) (w.alloc (.cells #[.string ⟨#[]⟩, .int .i64 0, .int .i64 0, .int .i64 0, .int .i64 0, .int .i64 0] 55)) := by
  unfold execOp
  rw [ho]
  kernel_rfl
theorem skinF_good (sc : Scn) (name mat w3 w4 tex w6 : Wd) (h1 : isN name = true) (h2 : isN mat = true) (h3 : tex = kNo ∨ isN tex = true) : skinF sc [name, mat, w3, w4, tex, w6] = match numsF [w3, w4, w6] with
    | none => .error 10
    | some n => if 8 ≤ sc.skins.length then .error 13
      else if (place name (sc.skins.map (·.name))).isSome ∨ place mat (sc.mats.map (·.1)) = none ∨ (tex ≠ kNo ∧ place tex (sc.texs.map (·.1)) = none) then .error 12
      else if (wi n 0 1 0 2 && wi n 1 2 1 65536 && wi n 2 3 0 255) then
        .ok { sc with skins := sc.skins ++ [⟨name, (place mat (sc.mats.map (·.1))).getD 0, n.getD 0 0, n.getD 1 0, placeI tex (sc.texs.map (·.1)), n.getD 2 0⟩], cages := sc.cages ++ [⟨[], [], []⟩] } else .error 11 := by
  unfold skinF
  dsimp only
  have hn : ¬ (isN name = false ∨ isN mat = false ∨ (tex ≠ kNo ∧ isN tex = false)) := by
    rintro (q | q | ⟨q, q'⟩)
    · rw [h1] at q; cases q
    · rw [h2] at q; cases q
    · rcases h3 with h | h
      · exact q h
      · rw [h] at q'; cases q'
  rw [if_neg hn]
  rfl
set_option maxRecDepth 100000 in
set_option maxHeartbeats 4000000 in
theorem pcage_long (W : World) (g c b off : Nat) (TR : TypeId) (sc : Scn) (val : Key → Value) (name mat w3 w4 tex w6 : Wd) (hA : SFW W (some ⟨b, off, none⟩) [name, mat, w3, w4, tex, w6]) (hR : RepV g W g TR sc val) (h1 : isN name = true) (h2 : isN mat = true) (h3 : tex = kNo ∨ isN tex = true) (hM8 : Hid (sc.mats.length ≤ 1048576)) (hT4 : Hid (sc.texs.length ≤ 1048576)) (hC8 : Hid (sc.cages.length ≤ 8)) :
    Calls Tryz.prog 84 #[.pointer (some ⟨g, 0, none⟩), .slice (some ⟨b, off, none⟩) 6 c] W fun e W' => lineP g TR W (skinF sc [name, mat, w3, w4, tex, w6]) e W' := by
  obtain ⟨i0, hi0, hz0, hz1, hz2⟩ := info_parts infoSk
  have hgl := hR.lt
  have hcell : ∀ i, i < 6 → W.cell? ⟨b, off + i, none⟩ = some (.string ⟨(([name, mat, w3, w4, tex, w6]).getD i []).toArray⟩) := by
    obtain ⟨b2, off2, q, hb, hcc⟩ := hA (by simp)
    cases q
    intro i hi
    exact hcc i (by simpa using hi)
  have hbl : b < W.heap.size := (hA (by simp)).elim fun b2 ⟨off2, q, hb, _⟩ => by cases q; exact hb
  have s0 : W.cell? ⟨b, off, none⟩ = some (.string ⟨name.toArray⟩) := hcell 0 (by omega)
  have s1 : W.cell? ⟨b, off + 1, none⟩ = some (.string ⟨mat.toArray⟩) := hcell 1 (by omega)
  have s2 : W.cell? ⟨b, off + 2, none⟩ = some (.string ⟨w3.toArray⟩) := hcell 2 (by omega)
  have s3 : W.cell? ⟨b, off + 3, none⟩ = some (.string ⟨w4.toArray⟩) := hcell 3 (by omega)
  have s4 : W.cell? ⟨b, off + 4, none⟩ = some (.string ⟨tex.toArray⟩) := hcell 4 (by omega)
  have s5 : W.cell? ⟨b, off + 5, none⟩ = some (.string ⟨w6.toArray⟩) := hcell 5 (by omega)
  have CN1 := lName_any ⟨name.toArray⟩
  have CN2 := lName_any ⟨mat.toArray⟩
  have CN3 := lName_any ⟨tex.toArray⟩
  clear hcell hA
  have HF := Lib.hid (skinF_good sc name mat w3 w4 tex w6 h1 h2 h3)
  have EQT := eqNo tex
  have EQT2 := eqNo2 tex
  have HT := Lib.hid hR
  clear hR
  have h1' : nameB ⟨name.toArray⟩ = true := h1
  have h2' : nameB ⟨mat.toArray⟩ = true := h2
  rw [h1'] at CN1
  rw [h2'] at CN2
  have h3' : decide (tex = kNo) = true ∨ decide (tex = kNo) = false ∧ nameB ⟨tex.toArray⟩ = true := by
    by_cases q : tex = kNo
    · exact .inl (by simp [q])
    · exact .inr ⟨by simp [q], h3.resolve_left q⟩
  have HBT := Lib.hid (show ∀ P : Prop, (decide (tex = kNo) = true → P) → True from fun _ _ => trivial)
  generalize hb3 : decide (tex = kNo) = bt at *
  generalize nameB ⟨tex.toArray⟩ = bx at *
  replace hb3 := Lib.hid hb3
  clear h1 h2 h3 h1' h2' HBT
  go_enter Tryz.func84, Tryz.ntmps84
  go_wp2_with (go_at_call 108; (with_reducible refine (need_yes _ _).mono ?_); rintro e w9 ⟨rfl, h9⟩; replace h9 := h9.symm; subst h9)
  refine wp_region_grow (by kernel_rfl) (by kernel_rfl) ?_
  repeat (go_big_quiet_step ((fail)))
  refine wpQuiet_nil ?_
  rintro _ ⟨xg, rfl⟩
  rcases h3' with rfl | ⟨rfl, rfl⟩
  all_goals go_wp2_with (first | (go_at_call 108; (with_reducible refine (need_yes _ _).mono ?_); rintro e w9 ⟨rfl, h9⟩; replace h9 := h9.symm; subst h9) | (go_at_call 113; first | ((with_reducible refine (CN1.at_ _).mono ?_); rintro e _ ⟨rfl, x7, rfl⟩) | ((with_reducible refine (CN2.at_ _).mono ?_); rintro e _ ⟨rfl, x8, rfl⟩) | ((with_reducible refine (CN3.at_ _).mono ?_); rintro e _ ⟨rfl, x9, rfl⟩)))
  all_goals
    refine wp_region_tail 9 ?_ (by kernel_rfl) (by kernel_rfl) (by kernel_rfl) (fun x => ?_) (fun x => ?_)
    rotate_left
    · simp only [List.take_succ_cons, List.take_zero]
      repeat (go_big_quiet_step ((fail)))
      refine wpQuiet_nil ?_
      exact rfl
    simp only [List.drop_succ_cons, List.drop_zero]
    try simp only [Act.put, List.setIfInBounds_toArray, List.set_cons_succ, List.set_cons_zero]
    go_wp2_with (first | (go_at_call 109; (with_reducible refine (pnumbers_any _ _ _ 3 [w3, w4, w6] rfl (by decide) (SFW.new3 _ _ _ _ _)).mono ?_); rintro e V hp; rcases pnums_or2 hp (n := 3) rfl with ⟨hN, rfl, x2, rfl⟩ | ⟨ns, b2, hN, hL, rfl, hbV0, hown⟩; rotate_left; (clear hp; have hbV : Below W.heap.size W V := (bel_trans (by repeat (first | with_reducible exact Below.refl _ _ | with_reducible refine bel_then ?_ _ | with_reducible refine bel_grow ?_ _ | with_reducible refine bel_alloc ?_ _ | with_reducible refine bel_drew ?_ | with_reducible refine bel_set ?_ (by simp) _ | with_reducible refine bel_setRow ?_ (by first | omega | (simp; done)) _)) hbV0.out); replace hbV := Lib.hid hbV; have HRV := Lib.hid (HT.out.below hbV.out); have HIV := Lib.hid (IF_of_own hown.out hL.out); obtain ⟨p0, p1, p2, rfl⟩ := three_of hL.out; obtain ⟨d0, d1, d2, dbl⟩ := HIV.out.at3 rfl; simp only [List.getD_cons_zero, List.getD_cons_succ] at d0 d1 d2; have hVl := HRV.out.lt; obtain ⟨A1, a1, hv⟩ := own_form (show V.ownsRow g 55 6 (val .skins) sc.skins.length (sc.skins.flatMap fS) from HRV.out.own.row .skins); have c22 : V.cell? ⟨g, 22, none⟩ = some (.slice A1 sc.skins.length a1) := (by rw [← hv]; exact HRV.out.blk.cell 22); have z22 := HRV.out.blk.frozen 22; replace hv := Lib.hid hv)) | (go_at_call 108; (with_reducible refine (need_any _ _ 13).mono ?_); rintro e w9 (⟨hb13, rfl, h9⟩ | ⟨hb13, rfl, h9⟩) <;> (replace h9 := h9.symm; subst h9)))
    · have hb13' := hb13
      simp at hb13'
      have HNM := Lib.hid (show ∀ x : More, Calls Tryz.prog 115 #[.pointer (some ⟨g, 0, none⟩), .string ⟨mat.toArray⟩] (grow V x) fun e w' => e = .returned (.int .i64 (placeI mat (sc.mats.map (·.1)))) ∧ ∃ y, w' = grow (grow V x) y from fun x => by
        obtain ⟨A8, a8, hv8⟩ := own_form (show V.ownsRow g 53 9 (val .mats) sc.mats.length (sc.mats.flatMap fM) from HRV.out.own.row .mats)
        exact mat_named (grow V x) g A8 sc.mats.length a8 (sc.mats.map (·.1)) mat (by simp) hM8.out ((HRV.out.grow x).ef_mat hv8) (by rw [← hv8]; exact (HRV.out.grow x).blk.cell 20))
      have HNT := Lib.hid (show ∀ x : More, Calls Tryz.prog 114 #[.pointer (some ⟨g, 0, none⟩), .string ⟨tex.toArray⟩] (grow V x) fun e w' => e = .returned (.int .i64 (placeI tex (sc.texs.map (·.1)))) ∧ ∃ y, w' = grow (grow V x) y from fun x => by
        obtain ⟨A8, a8, hv8⟩ := own_form (show V.ownsRow g 51 4 (val .texs) sc.texs.length ((texSS sc val).flatMap fT) from HRV.out.own.row .texs)
        exact tex_named (grow V x) g A8 sc.texs.length a8 (sc.texs.map (·.1)) tex (by simp) hT4.out ((HRV.out.grow x).ef_tex hv8) (by rw [← hv8]; exact (HRV.out.grow x).blk.cell 21))
      have HF2 := Lib.hid (show skinF sc [name, mat, w3, w4, tex, w6] = if (place name (sc.skins.map (·.name))).isSome ∨ place mat (sc.mats.map (·.1)) = none ∨ (tex ≠ kNo ∧ place tex (sc.texs.map (·.1)) = none) then .error 12
        else if (inB 0 2 [p0] && inB 1 65536 [p1] && inB 0 255 [p2]) then
          .ok { sc with skins := sc.skins ++ [⟨name, (place mat (sc.mats.map (·.1))).getD 0, p0, p1, placeI tex (sc.texs.map (·.1)), p2⟩], cages := sc.cages ++ [⟨[], [], []⟩] } else .error 11 from by
        rw [HF.out, hN]
        dsimp only
        rw [if_neg (by omega)]
        rfl)
      have HP := Lib.hid (show ((place name (sc.skins.map (·.name))).isSome = true ∨ place mat (sc.mats.map (·.1)) = none ∨ (tex ≠ kNo ∧ place tex (sc.texs.map (·.1)) = none)) ↔ (0 ≤ placeI name (sc.skins.map (·.name)) ∨ placeI mat (sc.mats.map (·.1)) < 0 ∨ (decide (tex = kNo) = false ∧ placeI tex (sc.texs.map (·.1)) < 0)) from by
        have e := fun (nm : Wd) (l : List Wd) => (show (place nm l).isSome = true ↔ 0 ≤ placeI nm l from by unfold placeI; cases place nm l <;> simp)
        have e2 := fun (nm : Wd) (l : List Wd) => (show place nm l = none ↔ placeI nm l < 0 from by unfold placeI; cases place nm l <;> simp)
        rw [e, e2, e2]
        simp)
      rw [hb3.out] at HP
      generalize hpm : placeI mat (sc.mats.map (·.1)) = qm at *
      generalize hpt : placeI tex (sc.texs.map (·.1)) = qt at *
      replace hpm := Lib.hid hpm
      replace hpt := Lib.hid hpt
      clear hN HF hown hbV0 hb13
      refine wp_region_make 17 ?_ 8 (.cells #[.string ⟨#[]⟩, .int .i64 0, .int .i64 0, .int .i64 0, .int .i64 0, .int .i64 0] 55) (by kernel_rfl) (by kernel_rfl) (by kernel_rfl) (fun d hd => by cases hd; exact ⟨_, rfl, rfl, rfl, fun A u => alloc_Skin A _ rfl u⟩) (fun pp => ?_) (fun pp qq => ?_)
      rotate_left
      · simp only [List.take_succ_cons, List.take_zero]
        repeat (go_big_quiet_step (((first | exact qq1 (HNM.out _) | exact qq2 (HNM.out _) | exact qq1 (HNT.out _) | exact qq2 (HNT.out _)))))
        refine wpQuiet_nil ?_
        exact rfl
      simp only [List.drop_succ_cons, List.drop_zero]
      try simp only [Act.put, List.setIfInBounds_toArray, List.set_cons_succ, List.set_cons_zero]
      go_wp2_with fail
      generalize hU : grow (World.alloc (grow V _) (Obj.cells #[.string ⟨name.toArray⟩, .int .i64 qm, .int .i64 p0, .int .i64 p1, .int .i64 qt, .int .i64 p2] 55)) _ = U
      have BU : Below V.heap.size V U := by rw [← hU]; exact (by repeat (first | with_reducible exact Below.refl _ _ | with_reducible refine bel_then ?_ _ | with_reducible refine bel_grow ?_ _ | with_reducible refine bel_alloc ?_ _ | with_reducible refine bel_drew ?_ | with_reducible refine bel_set ?_ (by simp) _ | with_reducible refine bel_setRow ?_ (by first | omega | (simp; done)) _))
      have KU := row_letter hU
      clear hU
      try simp only [grow_grow] at KU
      try simp only [grow_grow]
      generalize (grow V _).heap.size = k at KU ⊢
      have k0 : U.cell? ⟨k, 0, none⟩ = some (.string ⟨name.toArray⟩) := KU.cell 0
      have k1 : U.cell? ⟨k, 1, none⟩ = some (.int .i64 qm) := KU.cell 1
      have k2 : U.cell? ⟨k, 2, none⟩ = some (.int .i64 p0) := KU.cell 2
      have k3 : U.cell? ⟨k, 3, none⟩ = some (.int .i64 p1) := KU.cell 3
      have k4 : U.cell? ⟨k, 4, none⟩ = some (.int .i64 qt) := KU.cell 4
      have k5 : U.cell? ⟨k, 5, none⟩ = some (.int .i64 p2) := KU.cell 5
      have hkl := KU.lt
      have HRU := Lib.hid (HRV.out.below BU)
      have hbU := Lib.hid (bel_trans hbV.out BU)
      have c22 : U.cell? ⟨g, 22, none⟩ = some (.slice A1 sc.skins.length a1) := by rw [← hv.out]; exact HRU.out.blk.cell 22
      have z22 := HRU.out.blk.frozen 22
      have hUl := HRU.out.lt
      have HNK := Lib.hid (show ∀ x : More, Calls Tryz.prog 116 #[.pointer (some ⟨g, 0, none⟩), .string ⟨name.toArray⟩] (grow U x) fun e w' => e = .returned (.int .i64 (placeI name (sc.skins.map (·.name)))) ∧ ∃ y, w' = grow (grow U x) y from fun x => skin_named (grow U x) g A1 sc.skins.length a1 (sc.skins.map (·.name)) name (by simp) (by omega) ((HRU.out.grow x).ef_skin hv.out) (by rw [← hv.out]; exact (HRU.out.grow x).blk.cell 22))
      generalize hpk : placeI name (sc.skins.map (·.name)) = qk at *
      replace hpk := Lib.hid hpk
      clear KU HNM HNT
      have HP2 := Lib.hid (HP.out)
      rcases (by omega : qk < 0 ∨ ¬ qk < 0) with jk | jk
      all_goals go_wp2_with (first | (go_at_call 108; (with_reducible refine (need_yes _ _).mono ?_); rintro e w9 ⟨rfl, h9⟩; replace h9 := h9.symm; subst h9) | (go_at_call 108; (with_reducible refine (need_no _ 12).mono ?_); rintro e w9 ⟨rfl, h9⟩; replace h9 := h9.symm; subst h9) | (go_at_call 108; (with_reducible refine (need_any _ (decide (0 ≤ qm)) 12).mono ?_); rintro e w9 (⟨hm12, rfl, h9⟩ | ⟨hm12, rfl, h9⟩) <;> (replace h9 := h9.symm; subst h9)) | (go_at_call 108; (with_reducible refine (need_any _ (decide (0 ≤ qt)) 12).mono ?_); rintro e w9 (⟨ht12, rfl, h9⟩ | ⟨ht12, rfl, h9⟩) <;> (replace h9 := h9.symm; subst h9)) | (go_at_call 116; (first | (refine (HNK.out _).mono ?_) | (refine (HNK.out More.none_).mono ?_)); rintro e _ ⟨rfl, x8, rfl⟩) | (go_at_call 110; (with_reducible refine (pwithin_any _ _ 1 _ _ _ ([p0]) (rfl) (by decide) (IF.new1 _ _ _)).mono ?_); rintro e _ ⟨⟨hw1, rfl⟩ | ⟨hw1, rfl⟩, x3, rfl⟩) | (go_at_call 110; (with_reducible refine (pwithin_any _ _ 1 _ _ _ ([p1]) (rfl) (by decide) (IF.new1 _ _ _)).mono ?_); rintro e _ ⟨⟨hw2, rfl⟩ | ⟨hw2, rfl⟩, x3, rfl⟩) | (go_at_call 110; (with_reducible refine (pwithin_any _ _ 1 _ _ _ ([p2]) (rfl) (by decide) (IF.new1 _ _ _)).mono ?_); rintro e _ ⟨⟨hw3, rfl⟩ | ⟨hw3, rfl⟩, x3, rfl⟩))
      all_goals first
        | (refine ⟨rfl, lineP_err 12 hgl (bel_trans hbU.out (by repeat (first | with_reducible exact Below.refl _ _ | with_reducible refine bel_then ?_ _ | with_reducible refine bel_grow ?_ _ | with_reducible refine bel_alloc ?_ _ | with_reducible refine bel_drew ?_ | with_reducible refine bel_set ?_ (by simp) _ | with_reducible refine bel_setRow ?_ (by first | omega | (simp; done)) _))) ?_⟩; rw [HF2.out, if_pos (HP2.out.2 (by first | exact .inl (by omega) | exact .inr (.inl (by simp at hm12; omega)) | (right; right; simp at ht12; first | exact ⟨rfl, by omega⟩ | exact ⟨trivial, by omega⟩ | omega)))])
        | (refine ⟨rfl, lineP_err 11 hgl (bel_trans hbU.out (by repeat (first | with_reducible exact Below.refl _ _ | with_reducible refine bel_then ?_ _ | with_reducible refine bel_grow ?_ _ | with_reducible refine bel_alloc ?_ _ | with_reducible refine bel_drew ?_ | with_reducible refine bel_set ?_ (by simp) _ | with_reducible refine bel_setRow ?_ (by first | omega | (simp; done)) _))) ?_⟩; rw [HF2.out, if_neg (fun h => (HP2.out.1 h).elim (fun q => by omega) (fun q => q.elim (fun q => by simp at hm12; omega) (fun q => by first | (cases q.1; done) | (have := q.2; simp at ht12; omega)))), if_neg (by first | (rw [hw3]; simp; done) | (rw [hw2]; simp; done) | (rw [hw1]; simp; done))])
        | skip
      all_goals
        obtain ⟨sc1, hsc1⟩ : ∃ s : Scn, s = { sc with skins := sc.skins ++ [(SkinM.mk name ((place mat (sc.mats.map (·.1))).getD 0) p0 p1 qt p2)] } := ⟨_, rfl⟩
        have HS := Lib.hid (show skinF sc [name, mat, w3, w4, tex, w6] = .ok { sc1 with cages := sc1.cages ++ [⟨[], [], []⟩] } by
          rw [HF2.out, if_neg (fun h => (HP2.out.1 h).elim (fun q => by omega) (fun q => q.elim (fun q => by simp at hm12; omega) (fun q => by first | (cases q.1; done) | (have := q.2; simp at ht12; omega)))), hw1, hw2, hw3, hsc1]
          rfl)
        have HFS := Lib.hid (show fS (SkinM.mk name ((place mat (sc.mats.map (·.1))).getD 0) p0 p1 qt p2) = [.string ⟨name.toArray⟩, .int .i64 qm, .int .i64 p0, .int .i64 p1, .int .i64 qt, .int .i64 p2] by
          have : ((place mat (sc.mats.map (·.1))).getD 0 : Int) = qm := by
            simp at hm12
            have h := hpm.out
            unfold placeI at h
            cases q : place mat (sc.mats.map (·.1)) with
            | none => rw [q] at h; simp only at h; omega
            | some i => rw [q] at h; simpa using h
          unfold fS
          simp only [this])
        have hcg : Hid (sc1.cages = sc.cages) := Lib.hid (by rw [hsc1])
        replace hsc1 := Lib.hid hsc1
        have OWU := Lib.hid (show U.ownsRow g 55 6 (.slice A1 sc.skins.length a1) sc.skins.length (sc.skins.flatMap fS) from by rw [← hv.out]; exact HRU.out.own.row .skins)
        clear HF2 hw1 hw2 hw3 HP HP2
        refine wp_region_makeS_ 7 ?_ (.pointer (some ⟨g, 0, none⟩)) 109 (.cells #[.string ⟨name.toArray⟩, .int .i64 qm, .int .i64 p0, .int .i64 p1, .int .i64 qt, .int .i64 p2] 55) (by kernel_rfl) (by kernel_rfl) (by kernel_rfl) rfl rfl rfl (fun _ _ _ h => h) ?_ (fun x => ?_) (fun x y => ?_)
        rotate_left 2
        · simp only [List.take_succ_cons, List.take_zero, List.tail_cons, Act.put, List.setIfInBounds_toArray, List.set_cons_succ, List.set_cons_zero]
          repeat (go_big_quiet_step ((fail)))
          refine wpQuiet_nil ?_
          exact rfl
        rotate_left
        · exact ⟨_, rfl, rfl, rfl, fun u => by simp [execOp, go_sem]⟩
        simp only [List.drop_succ_cons, List.drop_zero]
        try simp only [Act.put, List.setIfInBounds_toArray, List.set_cons_succ, List.set_cons_zero]
        go_upto_region 13 with ((at_builtin; go_loud (refine wpList_append_own_at _ rfl _ _ 31 rfl g 55 i0 _ 6 56 Tryz.underlying31 hi0 hz0 hz1 hz2 rfl (by decide) _ _ _ rfl (own_below OWU.out (by repeat (first | with_reducible exact Below.refl _ _ | with_reducible refine bel_then ?_ _ | with_reducible refine bel_grow ?_ _ | with_reducible refine bel_alloc ?_ _ | with_reducible refine bel_drew ?_ | with_reducible refine bel_set ?_ (by simp) _ | with_reducible refine bel_setRow ?_ (by first | omega | (simp; done)) _))) ⟨_, 0, none⟩ 1 1 [.string ⟨name.toArray⟩, .int .i64 qm, .int .i64 p0, .int .i64 p1, .int .i64 qt, .int .i64 p2] rfl rfl (cell_newG _ [.string ⟨name.toArray⟩, .int .i64 qm, .int .i64 p0, .int .i64 p1, .int .i64 qt, .int .i64 p2] _ _) (fun u hu => by simp at hu; rcases hu with rfl | rfl | rfl | rfl | rfl | rfl <;> rfl) (by unfold maxLen; omega) (by omega) (Nat.le_trans (Nat.le_of_lt hUl) (@Below.size U.heap.size U _ (by repeat (first | with_reducible exact Below.refl _ _ | with_reducible refine bel_then ?_ _ | with_reducible refine bel_grow ?_ _ | with_reducible refine bel_alloc ?_ _ | with_reducible refine bel_drew ?_ | with_reducible refine bel_set ?_ (by simp) _ | with_reducible refine bel_setRow ?_ (by first | omega | (simp; done)) _)))) ?_); intro v4 w4 hown4 hgr4 hnil4 hat4; clear hnil4; obtain ⟨A4, a4, rfl⟩ := own_form hown4; go_loud (obtain ⟨B4, R4⟩ := HRU.out.skinsP hv.out (SkinM.mk name ((place mat (sc.mats.map (·.1))).getD 0) p0 p1 qt p2) HFS.out _ hgr4 hown4 hat4 (by repeat (first | with_reducible exact Below.refl _ _ | with_reducible refine bel_then ?_ _ | with_reducible refine bel_grow ?_ _ | with_reducible refine bel_alloc ?_ _ | with_reducible refine bel_drew ?_ | with_reducible refine bel_set ?_ (by simp) _ | with_reducible refine bel_setRow ?_ (by first | omega | (simp; done)) _)); have hB4 := fr_app (TR := TR) hbU.out hgl hgr4 (own_typed OWU.out) (by decide) (Nat.le_refl _) HRU.out.blk (fun h => h) 22 (.slice A4 (sc.skins.length + 1) a4) (by repeat (first | with_reducible exact Below.refl _ _ | with_reducible refine bel_then ?_ _ | with_reducible refine bel_grow ?_ _ | with_reducible refine bel_alloc ?_ _ | with_reducible refine bel_drew ?_ | with_reducible refine bel_set ?_ (by simp) _ | with_reducible refine bel_setRow ?_ (by first | omega | (simp; done)) _)); have c4 : w4.cell? ⟨g, 22, none⟩ = some (val .skins) := B4.cell 22; have z4 := B4.frozen 22; replace R4 := Lib.hid R4; replace hB4 := Lib.hid hB4; clear hgr4 hown4 hat4)))
        have hR4 := R4.out
        have hB5 := hB4.out
        generalize hX : World.setCell w4 _ _ = X at hR4 hB5 ⊢
        rw [← hsc1.out] at hR4
        generalize upd val Key.skins _ = val1 at hR4
        clear hX R4 hB4 B4 c4 z4
        obtain ⟨A5, a5, hv5⟩ := own_form (show X.ownsRow g 48 3 (val1 .cages) sc1.cages.length ((cageSS sc1.cages.length val1).flatMap fC) from hR4.own.row .cages)
        have c23 : X.cell? ⟨g, 23, none⟩ = some (.slice A5 sc1.cages.length a5) := by rw [← hv5]; exact hR4.blk.cell 23
        have z23 := hR4.blk.frozen 23
        have hXl := hR4.lt
        have hX8 : sc1.cages.length ≤ 8 := by rw [hcg.out]; exact hC8.out
        clear hcg
        have OWX := Lib.hid (show X.ownsRow g 48 3 (.slice A5 sc1.cages.length a5) sc1.cages.length ((cageSS sc1.cages.length val1).flatMap fC) from by rw [← hv5]; exact hR4.own.row .cages)
        replace hR4 := Lib.hid hR4
        replace hv5 := Lib.hid hv5
        replace hB5 := Lib.hid hB5
        obtain ⟨i1, hj0, hy0, hy1, hy2⟩ := info_parts infoCg
        go_wp2_with (at_builtin; go_loud (refine wpList_append_own_at _ rfl _ _ 32 rfl g 48 i1 _ 3 72 Tryz.underlying32 hj0 hy0 hy1 hy2 rfl (by decide) _ _ _ rfl (own_below OWX.out (by repeat (first | with_reducible exact Below.refl _ _ | with_reducible refine bel_then ?_ _ | with_reducible refine bel_grow ?_ _ | with_reducible refine bel_alloc ?_ _ | with_reducible refine bel_drew ?_ | with_reducible refine bel_set ?_ (by simp) _ | with_reducible refine bel_setRow ?_ (by first | omega | (simp; done)) _))) ⟨_, 0, none⟩ 1 1 [.slice none 0 0, .slice none 0 0, .slice none 0 0] rfl rfl (cell_new _ [.slice none 0 0, .slice none 0 0, .slice none 0 0] _) (fun u hu => by simp at hu; subst hu; rfl) (by unfold maxLen; omega) (by omega) (Nat.le_trans (Nat.le_of_lt hXl) (@Below.size X.heap.size X _ (by repeat (first | with_reducible exact Below.refl _ _ | with_reducible refine bel_then ?_ _ | with_reducible refine bel_grow ?_ _ | with_reducible refine bel_alloc ?_ _ | with_reducible refine bel_drew ?_ | with_reducible refine bel_set ?_ (by simp) _ | with_reducible refine bel_setRow ?_ (by first | omega | (simp; done)) _)))) ?_); intro v4 w4 hown4 hgr4 hnil4 hat4; clear hnil4; obtain ⟨A4, a4, rfl⟩ := own_form hown4; go_loud (obtain ⟨B5, R5⟩ := hR4.out.cagesP hv5.out _ hgr4 hown4 hat4 (by repeat (first | with_reducible exact Below.refl _ _ | with_reducible refine bel_then ?_ _ | with_reducible refine bel_grow ?_ _ | with_reducible refine bel_alloc ?_ _ | with_reducible refine bel_drew ?_ | with_reducible refine bel_set ?_ (by simp) _ | with_reducible refine bel_setRow ?_ (by first | omega | (simp; done)) _)); have hB6 := fr_app2 hB5.out hXl hgr4 (own_typed OWX.out) (by decide) hR4.out.blk 23 (.slice A4 (sc1.cages.length + 1) a4) (by repeat (first | with_reducible exact Below.refl _ _ | with_reducible refine bel_then ?_ _ | with_reducible refine bel_grow ?_ _ | with_reducible refine bel_alloc ?_ _ | with_reducible refine bel_drew ?_ | with_reducible refine bel_set ?_ (by simp) _ | with_reducible refine bel_setRow ?_ (by first | omega | (simp; done)) _)); have c5 : w4.cell? ⟨g, 23, none⟩ = some (val1 .cages) := B5.cell 23; have z5 := B5.frozen 23; replace R5 := Lib.hid R5; replace hB6 := Lib.hid hB6; clear hgr4 hown4 hat4))
        go_end0
        exact lineP_ok HS.out hB6.out R5.out
    · refine ⟨rfl, lineP_err 13 hgl (bel_trans hbV.out (by repeat (first | with_reducible exact Below.refl _ _ | with_reducible refine bel_then ?_ _ | with_reducible refine bel_grow ?_ _ | with_reducible refine bel_alloc ?_ _ | with_reducible refine bel_drew ?_ | with_reducible refine bel_set ?_ (by simp) _ | with_reducible refine bel_setRow ?_ (by first | omega | (simp; done)) _))) ?_⟩
      rw [HF.out, hN]
      simp at hb13
      dsimp only
      rw [if_pos (by omega)]
    · refine ⟨rfl, lineP_err 10 hgl (by repeat (first | with_reducible exact Below.refl _ _ | with_reducible refine bel_then ?_ _ | with_reducible refine bel_grow ?_ _ | with_reducible refine bel_alloc ?_ _ | with_reducible refine bel_drew ?_ | with_reducible refine bel_set ?_ (by simp) _ | with_reducible refine bel_setRow ?_ (by first | omega | (simp; done)) _)) ?_⟩
      rw [HF.out, hN]

end Go.Proofs.YtdkgbdecmgligaaGreatDoor

/- The program's own scene: the line of the camera; a line by its first word. -/
namespace Go.Proofs.YtdkgbdecmgligaaGreatDoor
open Go.RowKit
set_option linter.unusedVariables false
set_option linter.unusedSimpArgs false
set_option linter.unnecessarySimpa false

theorem wp_letter {P : Program} {c : Code} {Q : Exit → Act → World → Prop} {a : Act} {w : World} (h : ∀ V : World, V = w → c.wp P Q a V) : c.wp P Q a w := h w rfl
theorem gb_alloc {w w' : World} {r : Option Nat} (h : w.grownBy w' r) (o : Obj) : w.grownBy (w'.alloc o) r := h.trans (gb_of_below (bel_alloc (Below.refl _ _) o) r)
theorem IF.at16 {V : World} {b : Nat} {ns : List Int} (h : IF V (some ⟨b, 0, none⟩) ns) (hl : ns.length = 16) : V.cell? ⟨b, 12, none⟩ = some (.int .i64 (ns.getD 12 0)) ∧ V.cell? ⟨b, 13, none⟩ = some (.int .i64 (ns.getD 13 0)) ∧ V.cell? ⟨b, 14, none⟩ = some (.int .i64 (ns.getD 14 0)) ∧ V.cell? ⟨b, 15, none⟩ = some (.int .i64 (ns.getD 15 0)) ∧ b < V.heap.size := by
  obtain ⟨b2, off, e, hb, hc⟩ := h (by omega)
  cases e
  have h0 := hc 12 (by omega)
  have h1 := hc 13 (by omega)
  have h2 := hc 14 (by omega)
  have h3 := hc 15 (by omega)
  simp only [Nat.zero_add] at h0 h1 h2 h3
  exact ⟨h0, h1, h2, h3, hb⟩
theorem IF.new2 (w : World) (x y : Int) (t : TypeId) : IF (w.alloc (.cells #[.int .i64 x, .int .i64 y] t)) (some ⟨w.heap.size, 0, none⟩) [x, y] := fun _ => by
  refine ⟨w.heap.size, 0, rfl, by simp, fun i hi => ?_⟩
  have h := Blk.cell (Blk.new w t #[.int .i64 x, .int .i64 y] w.heap.size rfl) i
  rw [Nat.zero_add, h]
  have hi : i < 2 := by simpa using hi
  rcases (by omega : i = 0 ∨ i = 1) with rfl | rfl <;> simp
theorem wi_two {ns : List Int} {a : Nat} (h : a + 1 < ns.length) (lo hi : Int) : wi ns a (a + 2) lo hi = inB lo hi [ns.getD a 0, ns.getD (a + 1) 0] := by
  rw [← inB_wi]
  congr 1
  rw [show a + 2 = (a + 1) + 1 from rfl, List.take_succ_eq_append_getElem h, List.take_succ_eq_append_getElem (by omega), List.append_assoc, List.drop_append_of_le_length (by simp; omega)]
  simp [List.getD, h, show a < ns.length by omega]
set_option maxRecDepth 100000 in
theorem cam_end {g : Nat} {W V2 : World} {TR : TypeId} {sc : Scn} {val : Key → Value} (hR : RepV g W g TR sc val) (GW : W.grownBy V2 (some g)) (BV2 : Blk V2 g TR ((rcells sc val).setIfInBounds 24 (.bool true))) (ns : List Int) {p0 p1 p2 p3 p4 p5 p6 p7 p8 p9 p10 p11 p12 p13 p14 p15 : Int} (hp0 : p0 = ns.getD 0 0) (hp1 : p1 = ns.getD 1 0) (hp2 : p2 = ns.getD 2 0) (hp3 : p3 = ns.getD 3 0) (hp4 : p4 = ns.getD 4 0) (hp5 : p5 = ns.getD 5 0) (hp6 : p6 = ns.getD 6 0) (hp7 : p7 = ns.getD 7 0) (hp8 : p8 = ns.getD 8 0) (hp9 : p9 = ns.getD 9 0) (hp10 : p10 = ns.getD 10 0) (hp11 : p11 = ns.getD 11 0) (hp12 : p12 = ns.getD 12 0) (hp13 : p13 = ns.getD 13 0) (hp14 : p14 = ns.getD 14 0) (hp15 : p15 = ns.getD 15 0) (y : More) :
    Fr g TR W (grow ((((((((((((((((V2.setCell ⟨g, 0, none⟩ (.int .i64 p0)).setCell ⟨g, 1, none⟩ (.int .i64 p1)).setCell ⟨g, 2, none⟩ (.int .i64 p2)).setCell ⟨g, 3, none⟩ (.int .i64 p3)).setCell ⟨g, 4, none⟩ (.int .i64 p4)).setCell ⟨g, 5, none⟩ (.int .i64 p5)).setCell ⟨g, 6, none⟩ (.int .i64 p6)).setCell ⟨g, 7, none⟩ (.int .i64 p7)).setCell ⟨g, 8, none⟩ (.int .i64 p8)).setCell ⟨g, 9, none⟩ (.int .i64 p9)).setCell ⟨g, 10, none⟩ (.int .i64 p10)).setCell ⟨g, 11, none⟩ (.int .i64 p11)).setCell ⟨g, 12, none⟩ (.int .i64 p12)).setCell ⟨g, 13, none⟩ (.int .i64 p13)).setCell ⟨g, 14, none⟩ (.int .i64 p14)).setCell ⟨g, 15, none⟩ (.int .i64 p15)) y) ∧ RepV g (grow ((((((((((((((((V2.setCell ⟨g, 0, none⟩ (.int .i64 p0)).setCell ⟨g, 1, none⟩ (.int .i64 p1)).setCell ⟨g, 2, none⟩ (.int .i64 p2)).setCell ⟨g, 3, none⟩ (.int .i64 p3)).setCell ⟨g, 4, none⟩ (.int .i64 p4)).setCell ⟨g, 5, none⟩ (.int .i64 p5)).setCell ⟨g, 6, none⟩ (.int .i64 p6)).setCell ⟨g, 7, none⟩ (.int .i64 p7)).setCell ⟨g, 8, none⟩ (.int .i64 p8)).setCell ⟨g, 9, none⟩ (.int .i64 p9)).setCell ⟨g, 10, none⟩ (.int .i64 p10)).setCell ⟨g, 11, none⟩ (.int .i64 p11)).setCell ⟨g, 12, none⟩ (.int .i64 p12)).setCell ⟨g, 13, none⟩ (.int .i64 p13)).setCell ⟨g, 14, none⟩ (.int .i64 p14)).setCell ⟨g, 15, none⟩ (.int .i64 p15)) y) g TR { sc with cam := some ns } val := by
  have G : W.grownBy (grow ((((((((((((((((V2.setCell ⟨g, 0, none⟩ (.int .i64 p0)).setCell ⟨g, 1, none⟩ (.int .i64 p1)).setCell ⟨g, 2, none⟩ (.int .i64 p2)).setCell ⟨g, 3, none⟩ (.int .i64 p3)).setCell ⟨g, 4, none⟩ (.int .i64 p4)).setCell ⟨g, 5, none⟩ (.int .i64 p5)).setCell ⟨g, 6, none⟩ (.int .i64 p6)).setCell ⟨g, 7, none⟩ (.int .i64 p7)).setCell ⟨g, 8, none⟩ (.int .i64 p8)).setCell ⟨g, 9, none⟩ (.int .i64 p9)).setCell ⟨g, 10, none⟩ (.int .i64 p10)).setCell ⟨g, 11, none⟩ (.int .i64 p11)).setCell ⟨g, 12, none⟩ (.int .i64 p12)).setCell ⟨g, 13, none⟩ (.int .i64 p13)).setCell ⟨g, 14, none⟩ (.int .i64 p14)).setCell ⟨g, 15, none⟩ (.int .i64 p15)) y) (some g) := gb_grow (gb_set (gb_set (gb_set (gb_set (gb_set (gb_set (gb_set (gb_set (gb_set (gb_set (gb_set (gb_set (gb_set (gb_set (gb_set (gb_set GW 0 _) 1 _) 2 _) 3 _) 4 _) 5 _) 6 _) 7 _) 8 _) 9 _) 10 _) 11 _) 12 _) 13 _) 14 _) 15 _) y
  have B : Blk (grow ((((((((((((((((V2.setCell ⟨g, 0, none⟩ (.int .i64 p0)).setCell ⟨g, 1, none⟩ (.int .i64 p1)).setCell ⟨g, 2, none⟩ (.int .i64 p2)).setCell ⟨g, 3, none⟩ (.int .i64 p3)).setCell ⟨g, 4, none⟩ (.int .i64 p4)).setCell ⟨g, 5, none⟩ (.int .i64 p5)).setCell ⟨g, 6, none⟩ (.int .i64 p6)).setCell ⟨g, 7, none⟩ (.int .i64 p7)).setCell ⟨g, 8, none⟩ (.int .i64 p8)).setCell ⟨g, 9, none⟩ (.int .i64 p9)).setCell ⟨g, 10, none⟩ (.int .i64 p10)).setCell ⟨g, 11, none⟩ (.int .i64 p11)).setCell ⟨g, 12, none⟩ (.int .i64 p12)).setCell ⟨g, 13, none⟩ (.int .i64 p13)).setCell ⟨g, 14, none⟩ (.int .i64 p14)).setCell ⟨g, 15, none⟩ (.int .i64 p15)) y) g TR ((((((((((((((((((rcells sc val).setIfInBounds 24 (.bool true)).setIfInBounds 0 (.int .i64 p0)).setIfInBounds 1 (.int .i64 p1)).setIfInBounds 2 (.int .i64 p2)).setIfInBounds 3 (.int .i64 p3)).setIfInBounds 4 (.int .i64 p4)).setIfInBounds 5 (.int .i64 p5)).setIfInBounds 6 (.int .i64 p6)).setIfInBounds 7 (.int .i64 p7)).setIfInBounds 8 (.int .i64 p8)).setIfInBounds 9 (.int .i64 p9)).setIfInBounds 10 (.int .i64 p10)).setIfInBounds 11 (.int .i64 p11)).setIfInBounds 12 (.int .i64 p12)).setIfInBounds 13 (.int .i64 p13)).setIfInBounds 14 (.int .i64 p14)).setIfInBounds 15 (.int .i64 p15)) := Blk.grow ((((((((((((((((BV2.set 0 (.int .i64 p0)).set 1 (.int .i64 p1)).set 2 (.int .i64 p2)).set 3 (.int .i64 p3)).set 4 (.int .i64 p4)).set 5 (.int .i64 p5)).set 6 (.int .i64 p6)).set 7 (.int .i64 p7)).set 8 (.int .i64 p8)).set 9 (.int .i64 p9)).set 10 (.int .i64 p10)).set 11 (.int .i64 p11)).set 12 (.int .i64 p12)).set 13 (.int .i64 p13)).set 14 (.int .i64 p14)).set 15 (.int .i64 p15)) y
  have e : ((((((((((((((((((rcells sc val).setIfInBounds 24 (.bool true)).setIfInBounds 0 (.int .i64 p0)).setIfInBounds 1 (.int .i64 p1)).setIfInBounds 2 (.int .i64 p2)).setIfInBounds 3 (.int .i64 p3)).setIfInBounds 4 (.int .i64 p4)).setIfInBounds 5 (.int .i64 p5)).setIfInBounds 6 (.int .i64 p6)).setIfInBounds 7 (.int .i64 p7)).setIfInBounds 8 (.int .i64 p8)).setIfInBounds 9 (.int .i64 p9)).setIfInBounds 10 (.int .i64 p10)).setIfInBounds 11 (.int .i64 p11)).setIfInBounds 12 (.int .i64 p12)).setIfInBounds 13 (.int .i64 p13)).setIfInBounds 14 (.int .i64 p14)).setIfInBounds 15 (.int .i64 p15)) = rcells { sc with cam := some ns } val := by
    subst hp0 hp1 hp2 hp3 hp4 hp5 hp6 hp7 hp8 hp9 hp10 hp11 hp12 hp13 hp14 hp15
    simp only [rcells, camN, skyN, Option.getD_some, Option.isSome_some, List.setIfInBounds_toArray, List.set_cons_zero, List.set_cons_succ]
  rw [e] at B
  exact ⟨fr_gb G hR.blk, hR.but G B rfl rfl rfl⟩
set_option maxRecDepth 100000 in
set_option maxHeartbeats 4000000 in
theorem pcamera (W : World) (g n c : Nat) (A : Option Addr) (TR : TypeId) (sc : Scn) (val : Key → Value) (ws : List Wd) (hn : ws.length = n) (hl : n ≤ 65537) (hA : SFW W A ws) (hR : RepV g W g TR sc val) :
    Calls Tryz.prog 79 #[.pointer (some ⟨g, 0, none⟩), .slice A n c] W fun e W' => lineP g TR W (camF sc ws) e W' := by
  have hgl := hR.lt
  have HR := Lib.hid hR
  clear hR
  have HF := Lib.hid (show camF sc ws = (match numsF ws with
  | none => .error 10
  | some n => if n.length ≠ 16 then .error 10 else if sc.cam.isSome then .error 12
    else if (wi n 0 6 (-16384) 16384 && wi n 6 12 (-32) 32 && wi n 12 14 1 64 && wi n 14 15 1 4 && wi n 15 16 0 8) then .ok { sc with cam := some n } else .error 11) from rfl)
  generalize hsn : sc.cam.isSome = sn at *
  replace hsn := Lib.hid hsn
  go_enter Tryz.func79, Tryz.ntmps79
  go_wp2_with (first | (go_at_call 108; (with_reducible refine (need_any _ _ 10).mono ?_); rintro e w9 (⟨hb10, rfl, h9⟩ | ⟨hb10, rfl, h9⟩) <;> (replace h9 := h9.symm; subst h9); (first | (obtain rfl : n = 16 := (by simp at hb10; omega)) | skip)) | (go_at_call 108; (with_reducible refine (need_any _ _ 12).mono ?_); rintro e w9 (⟨hb12, rfl, h9⟩ | ⟨hb12, rfl, h9⟩) <;> (replace h9 := h9.symm; subst h9)) | (go_at_call 109; (with_reducible refine (pnumbers_any _ _ _ _ ws hn hl (hA.below (by repeat (first | with_reducible exact Below.refl _ _ | with_reducible refine bel_then ?_ _ | with_reducible refine bel_grow ?_ _ | with_reducible refine bel_alloc ?_ _ | with_reducible refine bel_drew ?_ | with_reducible refine bel_set ?_ (by simp) _ | with_reducible refine bel_setRow ?_ (by first | omega | (simp; done)) _)))).mono ?_); rintro e V hp; rcases pnums_or2 hp hn with ⟨hN, rfl, x2, rfl⟩ | ⟨ns, b2, hN, hL, rfl, hbV, hown⟩; rotate_left; (have HRV := Lib.hid (HR.out.below hbV.out); have HIV := Lib.hid (IF_of_own hown.out hL.out); have hVl := HRV.out.lt; have c24 : V.cell? ⟨g, 24, none⟩ = some (.bool sn) := (by rw [← hsn.out]; exact HRV.out.blk.cell 24); have z24 := HRV.out.blk.frozen 24; obtain ⟨d12, d13, d14, d15, dbl⟩ := HIV.out.at16 hL.out; obtain ⟨p12, hp12⟩ : ∃ p, p = ns.getD 12 0 := ⟨_, rfl⟩; obtain ⟨p13, hp13⟩ : ∃ p, p = ns.getD 13 0 := ⟨_, rfl⟩; obtain ⟨p14, hp14⟩ : ∃ p, p = ns.getD 14 0 := ⟨_, rfl⟩; obtain ⟨p15, hp15⟩ : ∃ p, p = ns.getD 15 0 := ⟨_, rfl⟩; rw [← hp12] at d12; replace hp12 := Lib.hid hp12; rw [← hp13] at d13; replace hp13 := Lib.hid hp13; rw [← hp14] at d14; replace hp14 := Lib.hid hp14; rw [← hp15] at d15; replace hp15 := Lib.hid hp15)) | (go_at_call 110; (with_reducible refine (pwithin_any _ _ 6 _ _ _ ((ns.take 6).drop 0) (by have := hL.out; simp; omega) (by decide) (IF.subE (HIV.out.below (by repeat (first | with_reducible exact Below.refl _ _ | with_reducible refine bel_then ?_ _ | with_reducible refine bel_grow ?_ _ | with_reducible refine bel_alloc ?_ _ | with_reducible refine bel_drew ?_ | with_reducible refine bel_set ?_ (by simp) _ | with_reducible refine bel_setRow ?_ (by first | omega | (simp; done)) _))) 0 6 0 (by have := hL.out; omega) rfl)).mono ?_); rintro e _ ⟨⟨hw1, rfl⟩ | ⟨hw1, rfl⟩, x3, rfl⟩) | (go_at_call 110; (with_reducible refine (pwithin_any _ _ 6 _ _ _ ((ns.take 12).drop 6) (by have := hL.out; simp; omega) (by decide) (IF.subE (HIV.out.below (by repeat (first | with_reducible exact Below.refl _ _ | with_reducible refine bel_then ?_ _ | with_reducible refine bel_grow ?_ _ | with_reducible refine bel_alloc ?_ _ | with_reducible refine bel_drew ?_ | with_reducible refine bel_set ?_ (by simp) _ | with_reducible refine bel_setRow ?_ (by first | omega | (simp; done)) _))) 6 12 6 (by have := hL.out; omega) rfl)).mono ?_); rintro e _ ⟨⟨hw2, rfl⟩ | ⟨hw2, rfl⟩, x3, rfl⟩))
  · simp at hb12
    have hl0 : ns.length = 16 := hL.out
    have HF2 := Lib.hid (show camF sc ws = if (wi ns 0 6 (-16384) 16384 && wi ns 6 12 (-32) 32 && inB 1 64 [p12, p13] && inB 1 4 [p14] && inB 0 8 [p15]) then .ok { sc with cam := some ns } else .error 11 by
      rw [HF.out, hN]
      dsimp only
      rw [if_neg (by omega), if_neg (by rw [hb12]; simp), wi_two (a := 12) (by omega), wi_one (a := 14) (by omega), wi_one (a := 15) (by omega), ← hp12.out, ← hp13.out, ← hp14.out, ← hp15.out])
    rw [inB_wi] at hw1 hw2
    clear HF
    refine wp_region_tail 6 ?_ (by kernel_rfl) (by kernel_rfl) (by kernel_rfl) (fun x => ?_) (fun x => ?_)
    rotate_left
    · simp only [List.take_succ_cons, List.take_zero]
      repeat (go_big_quiet_step ((fail)))
      refine wpQuiet_nil ?_
      exact rfl
    simp only [List.drop_succ_cons, List.drop_zero]
    try simp only [Act.put, List.setIfInBounds_toArray, List.set_cons_succ, List.set_cons_zero]
    go_wp2_with (first | (go_at_call 110; (with_reducible refine (pwithin_any _ _ 2 _ _ _ ([p12, p13]) (rfl) (by decide) (IF.new2 _ _ _ _)).mono ?_); rintro e _ ⟨⟨hw3, rfl⟩ | ⟨hw3, rfl⟩, x3, rfl⟩) | (go_at_call 110; (with_reducible refine (pwithin_any _ _ 1 _ _ _ ([p14]) (rfl) (by decide) (IF.new1 _ _ _)).mono ?_); rintro e _ ⟨⟨hw4, rfl⟩ | ⟨hw4, rfl⟩, x3, rfl⟩) | (go_at_call 110; (with_reducible refine (pwithin_any _ _ 1 _ _ _ ([p15]) (rfl) (by decide) (IF.new1 _ _ _)).mono ?_); rintro e _ ⟨⟨hw5, rfl⟩ | ⟨hw5, rfl⟩, x3, rfl⟩))
    · skip
      have HS := Lib.hid (show camF sc ws = .ok { sc with cam := some ns } by rw [HF2.out, hw1, hw2, hw3, hw4, hw5]; rfl)
      clear HF2 hw1 hw2 hw3 hw4 hw5
      refine wp_letter (fun V2 hV2 => ?_)
      have GV : V.grownBy V2 (some g) := by
        rw [hV2]
        repeat (first | with_reducible exact World.grownBy.refl _ _ | with_reducible refine gb_grow ?_ _ | with_reducible refine gb_set ?_ _ _ | with_reducible refine gb_alloc ?_ _)
      have BV2 : Blk V2 g TR ((rcells sc val).setIfInBounds 24 (.bool true)) := by
        rw [hV2]
        repeat (first | with_reducible exact HRV.out.blk | with_reducible refine Blk.grow ?_ _ | with_reducible refine Blk.alloc ?_ _ | with_reducible refine Blk.set ?_ _ _)
      clear hV2
      have GW : W.grownBy V2 (some g) := (gb_of_below hbV.out (some g)).trans GV
      have HI2 : IF V2 (some ⟨b2, 0, none⟩) ns := IF_but hown.out hL.out hgl GV
      obtain ⟨d12, d13, d14, d15, dbl⟩ := HI2.at16 hL.out
      obtain ⟨p0, hp0⟩ : ∃ p, p = ns.getD 0 0 := ⟨_, rfl⟩
      replace hp0 := Lib.hid hp0
      obtain ⟨p1, hp1⟩ : ∃ p, p = ns.getD 1 0 := ⟨_, rfl⟩
      replace hp1 := Lib.hid hp1
      obtain ⟨p2, hp2⟩ : ∃ p, p = ns.getD 2 0 := ⟨_, rfl⟩
      replace hp2 := Lib.hid hp2
      obtain ⟨p3, hp3⟩ : ∃ p, p = ns.getD 3 0 := ⟨_, rfl⟩
      replace hp3 := Lib.hid hp3
      obtain ⟨p4, hp4⟩ : ∃ p, p = ns.getD 4 0 := ⟨_, rfl⟩
      replace hp4 := Lib.hid hp4
      obtain ⟨p5, hp5⟩ : ∃ p, p = ns.getD 5 0 := ⟨_, rfl⟩
      replace hp5 := Lib.hid hp5
      obtain ⟨p6, hp6⟩ : ∃ p, p = ns.getD 6 0 := ⟨_, rfl⟩
      replace hp6 := Lib.hid hp6
      obtain ⟨p7, hp7⟩ : ∃ p, p = ns.getD 7 0 := ⟨_, rfl⟩
      replace hp7 := Lib.hid hp7
      obtain ⟨p8, hp8⟩ : ∃ p, p = ns.getD 8 0 := ⟨_, rfl⟩
      replace hp8 := Lib.hid hp8
      obtain ⟨p9, hp9⟩ : ∃ p, p = ns.getD 9 0 := ⟨_, rfl⟩
      replace hp9 := Lib.hid hp9
      obtain ⟨p10, hp10⟩ : ∃ p, p = ns.getD 10 0 := ⟨_, rfl⟩
      replace hp10 := Lib.hid hp10
      obtain ⟨p11, hp11⟩ : ∃ p, p = ns.getD 11 0 := ⟨_, rfl⟩
      replace hp11 := Lib.hid hp11
      rw [← hp12.out] at d12
      rw [← hp13.out] at d13
      rw [← hp14.out] at d14
      rw [← hp15.out] at d15
      have CP0 := Lib.hid (fun (x : More) => ppoint_any (grow V2 x) (some ⟨b2, 0, none⟩) 16 16 ns hL.out (by decide) (by decide) (HI2.below (bel_grow (Below.refl _ _) x)))
      rw [← hp0.out, ← hp1.out, ← hp2.out] at CP0
      have CP3 := Lib.hid (fun (x : More) => ppoint_any (grow V2 x) (some ⟨b2, 3, none⟩) 13 13 ((ns.take 16).drop 3) (by have := hL.out; simp; omega) (by decide) (by decide) ((HI2.subE 3 16 3 (by have := hL.out; omega) rfl).below (bel_grow (Below.refl _ _) x)))
      rw [sub_get ns 3 16 0 (by omega), sub_get ns 3 16 1 (by omega), sub_get ns 3 16 2 (by omega), show 3 + 0 = 3 from rfl, show 3 + 1 = 4 from rfl, show 3 + 2 = 5 from rfl, ← hp3.out, ← hp4.out, ← hp5.out] at CP3
      have CP6 := Lib.hid (fun (x : More) => ppoint_any (grow V2 x) (some ⟨b2, 6, none⟩) 10 10 ((ns.take 16).drop 6) (by have := hL.out; simp; omega) (by decide) (by decide) ((HI2.subE 6 16 6 (by have := hL.out; omega) rfl).below (bel_grow (Below.refl _ _) x)))
      rw [sub_get ns 6 16 0 (by omega), sub_get ns 6 16 1 (by omega), sub_get ns 6 16 2 (by omega), show 6 + 0 = 6 from rfl, show 6 + 1 = 7 from rfl, show 6 + 2 = 8 from rfl, ← hp6.out, ← hp7.out, ← hp8.out] at CP6
      have CP9 := Lib.hid (fun (x : More) => ppoint_any (grow V2 x) (some ⟨b2, 9, none⟩) 7 7 ((ns.take 16).drop 9) (by have := hL.out; simp; omega) (by decide) (by decide) ((HI2.subE 9 16 9 (by have := hL.out; omega) rfl).below (bel_grow (Below.refl _ _) x)))
      rw [sub_get ns 9 16 0 (by omega), sub_get ns 9 16 1 (by omega), sub_get ns 9 16 2 (by omega), show 9 + 0 = 9 from rfl, show 9 + 1 = 10 from rfl, show 9 + 2 = 11 from rfl, ← hp9.out, ← hp10.out, ← hp11.out] at CP9
      have c0 : V2.cell? ⟨g, 0, none⟩ = some (.int .i64 ((camN sc).getD 0 0)) := BV2.cell 0
      have z0 := BV2.frozen 0
      have c1 : V2.cell? ⟨g, 1, none⟩ = some (.int .i64 ((camN sc).getD 1 0)) := BV2.cell 1
      have z1 := BV2.frozen 1
      have c2 : V2.cell? ⟨g, 2, none⟩ = some (.int .i64 ((camN sc).getD 2 0)) := BV2.cell 2
      have z2 := BV2.frozen 2
      have c3 : V2.cell? ⟨g, 3, none⟩ = some (.int .i64 ((camN sc).getD 3 0)) := BV2.cell 3
      have z3 := BV2.frozen 3
      have c4 : V2.cell? ⟨g, 4, none⟩ = some (.int .i64 ((camN sc).getD 4 0)) := BV2.cell 4
      have z4 := BV2.frozen 4
      have c5 : V2.cell? ⟨g, 5, none⟩ = some (.int .i64 ((camN sc).getD 5 0)) := BV2.cell 5
      have z5 := BV2.frozen 5
      have c6 : V2.cell? ⟨g, 6, none⟩ = some (.int .i64 ((camN sc).getD 6 0)) := BV2.cell 6
      have z6 := BV2.frozen 6
      have c7 : V2.cell? ⟨g, 7, none⟩ = some (.int .i64 ((camN sc).getD 7 0)) := BV2.cell 7
      have z7 := BV2.frozen 7
      have c8 : V2.cell? ⟨g, 8, none⟩ = some (.int .i64 ((camN sc).getD 8 0)) := BV2.cell 8
      have z8 := BV2.frozen 8
      have c9 : V2.cell? ⟨g, 9, none⟩ = some (.int .i64 ((camN sc).getD 9 0)) := BV2.cell 9
      have z9 := BV2.frozen 9
      have c10 : V2.cell? ⟨g, 10, none⟩ = some (.int .i64 ((camN sc).getD 10 0)) := BV2.cell 10
      have z10 := BV2.frozen 10
      have c11 : V2.cell? ⟨g, 11, none⟩ = some (.int .i64 ((camN sc).getD 11 0)) := BV2.cell 11
      have z11 := BV2.frozen 11
      have c12 : V2.cell? ⟨g, 12, none⟩ = some (.int .i64 ((camN sc).getD 12 0)) := BV2.cell 12
      have z12 := BV2.frozen 12
      have c13 : V2.cell? ⟨g, 13, none⟩ = some (.int .i64 ((camN sc).getD 13 0)) := BV2.cell 13
      have z13 := BV2.frozen 13
      have c14 : V2.cell? ⟨g, 14, none⟩ = some (.int .i64 ((camN sc).getD 14 0)) := BV2.cell 14
      have z14 := BV2.frozen 14
      have c15 : V2.cell? ⟨g, 15, none⟩ = some (.int .i64 ((camN sc).getD 15 0)) := BV2.cell 15
      have z15 := BV2.frozen 15
      have hV2l := BV2.lt
      replace BV2 := Lib.hid BV2
      clear HI2
      refine wp_region_tail 25 ?_ (by kernel_rfl) (by kernel_rfl) (by kernel_rfl) (fun x => ?_) (fun x => ?_)
      rotate_left
      · simp only [List.take_succ_cons, List.take_zero]
        repeat (go_big_quiet_step (((first | with_reducible exact qq1 (CP0.out _) | with_reducible exact qq2 (CP0.out _) | with_reducible exact qq1 (CP3.out _) | with_reducible exact qq2 (CP3.out _) | with_reducible exact qq1 (CP6.out _) | with_reducible exact qq2 (CP6.out _) | with_reducible exact qq1 (CP9.out _) | with_reducible exact qq2 (CP9.out _)))))
        refine wpQuiet_nil ?_
        exact rfl
      simp only [List.drop_succ_cons, List.drop_zero]
      try simp only [Act.put, List.setIfInBounds_toArray, List.set_cons_succ, List.set_cons_zero]
      go_wp2_with fail
      go_end0
      obtain ⟨q1, q2⟩ := cam_end HR.out GW BV2.out ns hp0.out hp1.out hp2.out hp3.out hp4.out hp5.out hp6.out hp7.out hp8.out hp9.out hp10.out hp11.out hp12.out hp13.out hp14.out hp15.out _
      exact lineP_ok HS.out q1 q2
    · refine ⟨rfl, lineP_err 11 hgl (bel_trans hbV.out (by repeat (first | with_reducible exact Below.refl _ _ | with_reducible refine bel_then ?_ _ | with_reducible refine bel_grow ?_ _ | with_reducible refine bel_alloc ?_ _ | with_reducible refine bel_drew ?_ | with_reducible refine bel_set ?_ (by simp) _ | with_reducible refine bel_setRow ?_ (by first | omega | (simp; done)) _))) ?_⟩
      rw [HF2.out, hw5]; simp
    · refine ⟨rfl, lineP_err 11 hgl (bel_trans hbV.out (by repeat (first | with_reducible exact Below.refl _ _ | with_reducible refine bel_then ?_ _ | with_reducible refine bel_grow ?_ _ | with_reducible refine bel_alloc ?_ _ | with_reducible refine bel_drew ?_ | with_reducible refine bel_set ?_ (by simp) _ | with_reducible refine bel_setRow ?_ (by first | omega | (simp; done)) _))) ?_⟩
      rw [HF2.out, hw4]; simp
    · refine ⟨rfl, lineP_err 11 hgl (bel_trans hbV.out (by repeat (first | with_reducible exact Below.refl _ _ | with_reducible refine bel_then ?_ _ | with_reducible refine bel_grow ?_ _ | with_reducible refine bel_alloc ?_ _ | with_reducible refine bel_drew ?_ | with_reducible refine bel_set ?_ (by simp) _ | with_reducible refine bel_setRow ?_ (by first | omega | (simp; done)) _))) ?_⟩
      rw [HF2.out, hw3]; simp
  · refine ⟨rfl, lineP_err 11 hgl (bel_trans hbV.out (by repeat (first | with_reducible exact Below.refl _ _ | with_reducible refine bel_then ?_ _ | with_reducible refine bel_grow ?_ _ | with_reducible refine bel_alloc ?_ _ | with_reducible refine bel_drew ?_ | with_reducible refine bel_set ?_ (by simp) _ | with_reducible refine bel_setRow ?_ (by first | omega | (simp; done)) _))) ?_⟩
    simp at hb12
    have hl0 : ns.length = 16 := hL.out
    rw [inB_wi] at hw1 hw2
    rw [HF.out, hN]
    dsimp only
    rw [if_neg (by omega), if_neg (by rw [hb12]; simp), hw1, hw2]; rfl
  · refine ⟨rfl, lineP_err 11 hgl (bel_trans hbV.out (by repeat (first | with_reducible exact Below.refl _ _ | with_reducible refine bel_then ?_ _ | with_reducible refine bel_grow ?_ _ | with_reducible refine bel_alloc ?_ _ | with_reducible refine bel_drew ?_ | with_reducible refine bel_set ?_ (by simp) _ | with_reducible refine bel_setRow ?_ (by first | omega | (simp; done)) _))) ?_⟩
    simp at hb12
    have hl0 : ns.length = 16 := hL.out
    rw [inB_wi] at hw1
    rw [HF.out, hN]
    dsimp only
    rw [if_neg (by omega), if_neg (by rw [hb12]; simp), hw1]; rfl
  · refine ⟨rfl, lineP_err 12 hgl (bel_trans hbV.out (by repeat (first | with_reducible exact Below.refl _ _ | with_reducible refine bel_then ?_ _ | with_reducible refine bel_grow ?_ _ | with_reducible refine bel_alloc ?_ _ | with_reducible refine bel_drew ?_ | with_reducible refine bel_set ?_ (by simp) _ | with_reducible refine bel_setRow ?_ (by first | omega | (simp; done)) _))) ?_⟩
    simp at hb12
    have hl0 : ns.length = 16 := hL.out
    rw [HF.out, hN]
    dsimp only
    rw [if_neg (by omega), if_pos hb12]
  · refine ⟨rfl, lineP_err 10 hgl (by repeat (first | with_reducible exact Below.refl _ _ | with_reducible refine bel_then ?_ _ | with_reducible refine bel_grow ?_ _ | with_reducible refine bel_alloc ?_ _ | with_reducible refine bel_drew ?_ | with_reducible refine bel_set ?_ (by simp) _ | with_reducible refine bel_setRow ?_ (by first | omega | (simp; done)) _)) ?_⟩
    rw [HF.out, hN]
  · refine ⟨rfl, lineP_err 10 hgl (by repeat (first | with_reducible exact Below.refl _ _ | with_reducible refine bel_then ?_ _ | with_reducible refine bel_grow ?_ _ | with_reducible refine bel_alloc ?_ _ | with_reducible refine bel_drew ?_ | with_reducible refine bel_set ?_ (by simp) _ | with_reducible refine bel_setRow ?_ (by first | omega | (simp; done)) _)) ?_⟩
    rw [HF.out]
    cases hN : numsF ws with
    | none => rfl
    | some m =>
      have := numsF_len _ _ hN
      simp at hb10
      dsimp only
      rw [if_pos (by omega)]

end Go.Proofs.YtdkgbdecmgligaaGreatDoor
