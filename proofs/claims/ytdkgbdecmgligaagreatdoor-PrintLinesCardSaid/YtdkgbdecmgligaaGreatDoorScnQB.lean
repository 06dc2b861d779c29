/- The program's own scene: the line of a material. -/
import Derived.Test.YtdkgbdecmgligaaGreatDoorScnQ9
namespace Go.Proofs.YtdkgbdecmgligaaGreatDoor
open Go.RowKit
set_option linter.unusedVariables false
set_option linter.unusedSimpArgs false
set_option linter.unnecessarySimpa false

theorem eight_of {l : List Int} (h : l.length = 8) : ∃ a b c d e f g i, l = [a, b, c, d, e, f, g, i] := by
  match l, h with
  | [a, b, c, d, e, f, g, i], _ => exact ⟨a, b, c, d, e, f, g, i, rfl⟩
theorem IF.at8 {V : World} {b : Nat} {p0 p1 p2 p3 p4 p5 p6 p7 : Int} (h : IF V (some ⟨b, 0, none⟩) [p0, p1, p2, p3, p4, p5, p6, p7]) : V.cell? ⟨b, 3, none⟩ = some (.int .i64 p3) ∧ V.cell? ⟨b, 4, none⟩ = some (.int .i64 p4) ∧ V.cell? ⟨b, 5, none⟩ = some (.int .i64 p5) ∧ V.cell? ⟨b, 6, none⟩ = some (.int .i64 p6) ∧ V.cell? ⟨b, 7, none⟩ = some (.int .i64 p7) ∧ b < V.heap.size := by
  obtain ⟨b2, off, e, hb, hc⟩ := h (by simp)
  cases e
  have h3 := hc 3 (by simp)
  have h4 := hc 4 (by simp)
  have h5 := hc 5 (by simp)
  have h6 := hc 6 (by simp)
  have h7 := hc 7 (by simp)
  simp only [Nat.zero_add] at h3 h4 h5 h6 h7
  exact ⟨h3, h4, h5, h6, h7, hb⟩
theorem IF.new4 (w : World) (x y z u : Int) (t : TypeId) : IF (w.alloc (.cells #[.int .i64 x, .int .i64 y, .int .i64 z, .int .i64 u] t)) (some ⟨w.heap.size, 0, none⟩) [x, y, z, u] := fun _ => by
  refine ⟨w.heap.size, 0, rfl, by simp, fun i hi => ?_⟩
  have h := Blk.cell (Blk.new w t #[.int .i64 x, .int .i64 y, .int .i64 z, .int .i64 u] w.heap.size rfl) i
  rw [Nat.zero_add, h]
  have hi : i < 4 := by simpa using hi
  rcases (by omega : i = 0 ∨ i = 1 ∨ i = 2 ∨ i = 3) with rfl | rfl | rfl | rfl <;> simp
theorem row_letter {V0 U : World} {cs : Array Value} {T : TypeId} {Y : More} (h : grow (V0.alloc (.cells cs T)) Y = U) : Blk U V0.heap.size T cs := by
  subst h; exact (Blk.new _ _ _ _ rfl).grow _
theorem alloc_Mat (a : Act) (o : Oper) (ho : o.op = .alloc 53) (w : World) : (execOp a.eval o).run Tryz.prog w = .ok (.value (.pointer (some ⟨w.heap.size, 0, none⟩))) (w.alloc (.cells #[.string ⟨#[]⟩, .int .i64 0, .int .i64 0, .int .i64 0, .int .i64 0, .int .i64 0, .int .i64 0, .int .i64 0, .int .i64 0] 53)) := by
  unfold execOp
  rw [ho]
  kernel_rfl
theorem matF_short (sc : Scn) (wl : List Wd) (h : wl.length ≠ 9) : matF sc wl = .error 10 := by
  match wl, h with
  | [], _ => rfl
  | name :: ws, h => rw [matF_cons, if_pos (.inl (by simp at h; omega))]
set_option maxRecDepth 100000 in
set_option maxHeartbeats 2000000 in
theorem pmaterial_short (W : World) (g n c : Nat) (A : Option Addr) (TR : TypeId) (sc : Scn) (val : Key → Value) (wl : List Wd) (hn : wl.length = n) (h3 : ¬ (n : Int) = 9) (h4 : ((n : Int) == 9) = false) (hR : RepV g W g TR sc val) :
    Calls Tryz.prog 83 #[.pointer (some ⟨g, 0, none⟩), .slice A n c] W fun e W' => lineP g TR W (matF sc wl) e W' := by
  have hgl := hR.lt
  have HF := Lib.hid (matF_short sc wl (by omega))
  clear hR
  go_enter Tryz.func83, Tryz.ntmps83
  go_wp2_with (go_at_call 108; (with_reducible refine (need_no _ 10).mono ?_); rintro e w9 ⟨rfl, h9⟩; replace h9 := h9.symm; subst h9)
  refine ⟨rfl, lineP_err 10 hgl (by repeat (first | with_reducible exact Below.refl _ _ | with_reducible refine bel_then ?_ _ | with_reducible refine bel_grow ?_ _ | with_reducible refine bel_alloc ?_ _ | with_reducible refine bel_drew ?_ | with_reducible refine bel_set ?_ (by simp) _ | with_reducible refine bel_setRow ?_ (by first | omega | (simp; done)) _)) ?_⟩
  exact HF.out
set_option maxRecDepth 100000 in
set_option maxHeartbeats 4000000 in
theorem pmaterial_long (W : World) (g c b off : Nat) (TR : TypeId) (sc : Scn) (val : Key → Value) (name : Wd) (ws : List Wd) (hm : ws.length = 8) (hc : 9 ≤ c) (hA : SFW W (some ⟨b, off, none⟩) (name :: ws)) (hR : RepV g W g TR sc val) :
    Calls Tryz.prog 83 #[.pointer (some ⟨g, 0, none⟩), .slice (some ⟨b, off, none⟩) 9 c] W fun e W' => lineP g TR W (matF sc (name :: ws)) e W' := by
  obtain ⟨i0, hi0, hz0, hz1, hz2⟩ := info_parts infoMt
  have hgl := hR.lt
  have HF := Lib.hid (matF_cons sc name ws)
  have hS0 : W.cell? ⟨b, off, none⟩ = some (.string ⟨name.toArray⟩) := by
    obtain ⟨b2, off2, q, hb, hcc⟩ := hA (by simp)
    cases q
    have := hcc 0 (by simp)
    simpa using this
  have hbl : b < W.heap.size := (hA (by simp)).elim fun b2 ⟨off2, q, hb, _⟩ => by cases q; exact hb
  have HS1 := Lib.hid (show SFW W (some ⟨b, off + 1, none⟩) ws from by
    have := hA.subE 1 9 (off + 1) (by simp; omega) rfl
    simpa [List.take_of_length_le (Nat.le_of_eq hm)] using this)
  have HT := Lib.hid hR
  have hc1 : ¬ c = 1 := by omega
  have hc2 : (1 : Int) ≤ (c : Int) := by omega
  have HM := Lib.hid hm
  clear hA hR
  go_enter Tryz.func83, Tryz.ntmps83
  go_wp2_with (first | (go_at_call 108; (with_reducible refine (need_yes _ _).mono ?_); rintro e w9 ⟨rfl, h9⟩; replace h9 := h9.symm; subst h9) | (go_at_call 113; (refine ((lName_any ⟨(name).toArray⟩).at_ _).mono ?_); rintro e _ ⟨rfl, x7, rfl⟩) | (go_at_call 108; (with_reducible refine (need_any _ _ 10).mono ?_); rintro e w9 (⟨hb10, rfl, h9⟩ | ⟨hb10, rfl, h9⟩) <;> (replace h9 := h9.symm; subst h9)) | (go_at_call 108; (with_reducible refine (need_any _ _ 13).mono ?_); rintro e w9 (⟨hb13, rfl, h9⟩ | ⟨hb13, rfl, h9⟩) <;> (replace h9 := h9.symm; subst h9)) | (go_at_call 109; (with_reducible refine (pnumbers_any _ _ _ 8 ws hm (by decide) (HS1.out.below (by repeat (first | with_reducible exact Below.refl _ _ | with_reducible refine bel_then ?_ _ | with_reducible refine bel_grow ?_ _ | with_reducible refine bel_alloc ?_ _ | with_reducible refine bel_drew ?_ | with_reducible refine bel_set ?_ (by simp) _ | with_reducible refine bel_setRow ?_ (by first | omega | (simp; done)) _)))).mono ?_); rintro e V hp; rcases pnums_or2 hp hm with ⟨hN, rfl, x2, rfl⟩ | ⟨ns, b2, hN, hL, rfl, hbV0, hown⟩; rotate_left; (clear hp; have hbV : Below W.heap.size W V := (bel_trans (by repeat (first | with_reducible exact Below.refl _ _ | with_reducible refine bel_then ?_ _ | with_reducible refine bel_grow ?_ _ | with_reducible refine bel_alloc ?_ _ | with_reducible refine bel_drew ?_ | with_reducible refine bel_set ?_ (by simp) _ | with_reducible refine bel_setRow ?_ (by first | omega | (simp; done)) _)) hbV0.out); replace hbV := Lib.hid hbV; have HRV := Lib.hid (HT.out.below hbV.out); have HIV := Lib.hid (IF_of_own hown.out hL.out); obtain ⟨p0, p1, p2, p3, p4, p5, p6, p7, rfl⟩ := eight_of hL.out; obtain ⟨d3, d4, d5, d6, d7, dbl⟩ := HIV.out.at8; have hVl := HRV.out.lt; obtain ⟨A1, a1, hv⟩ := own_form (show V.ownsRow g 53 9 (val .mats) sc.mats.length (sc.mats.flatMap fM) from HRV.out.own.row .mats); have c20 : V.cell? ⟨g, 20, none⟩ = some (.slice A1 sc.mats.length a1) := (by rw [← hv]; exact HRV.out.blk.cell 20); have z20 := HRV.out.blk.frozen 20; have hb2l : b < V.heap.size := Nat.lt_of_lt_of_le hbl hbV.out.size; have cS : V.cell? ⟨b, off, none⟩ = some (.string ⟨name.toArray⟩) := (hbV.out.cell (p := ⟨b, off, none⟩) hbl).trans hS0; replace hv := Lib.hid hv)))
  · have hb13' := hb13
    simp at hb13'
    have HNM := Lib.hid (show ∀ x : More, Calls Tryz.prog 115 #[.pointer (some ⟨g, 0, none⟩), .string ⟨name.toArray⟩] (grow V x) fun e w' => e = .returned (.int .i64 (placeI name (sc.mats.map (·.1)))) ∧ ∃ y, w' = grow (grow V x) y from fun x => mat_named (grow V x) g A1 sc.mats.length a1 (sc.mats.map (·.1)) name (by simp) (by omega) ((HRV.out.grow x).ef_mat hv.out) (by rw [← hv.out]; exact (HRV.out.grow x).blk.cell 20))
    have HF2 := Lib.hid (show matF sc (name :: ws) = if (place name (sc.mats.map (·.1))).isSome then .error 12
      else if (inB 0 255 (([p0, p1, p2, p3, p4, p5, p6, p7].take 3).drop 0) && inB 0 256 [p3] && inB 1 64 [p4] && inB 0 256 [p5, p6] && decide (p5 + p6 ≤ 256) && inB 64 1024 [p7]) then .ok { sc with mats := sc.mats ++ [(name, [p0, p1, p2, p3, p4, p5, p6, p7])] } else .error 11 from by
      rw [HF.out, if_neg (by have := HM.out; simp [this]; exact hb10), hN]
      dsimp only
      rw [if_neg (by omega)]
      rfl)
    have bS := numsF_small _ _ hN
    have q5 := bS p5 (by simp)
    have q6 := bS p6 (by simp)
    have hsum : IntKind.i64.wrap (p5 + p6) = p5 + p6 := IntWalk.i64_in _ (by omega)
    have CC := Lib.hid (fun (x : More) => pcolor_any (grow V x) (some ⟨b2, 0, none⟩) 8 8 [p0, p1, p2, p3, p4, p5, p6, p7] rfl (by decide) (by decide) (HIV.out.below (bel_grow (Below.refl _ _) x)))
    simp only [List.getD_cons_zero, List.getD_cons_succ] at CC
    clear hN bS q5 q6 hS0 HF hb10 hown hbV0 hb13
    go_wp2_with (first | (go_at_call 115; (first | (refine (HNM.out _).mono ?_) | (refine (HNM.out More.none_).mono ?_)); rintro e _ ⟨rfl, x8, rfl⟩) | (go_at_call 108; (with_reducible refine (need_any _ _ 12).mono ?_); rintro e w9 (⟨hb12, rfl, h9⟩ | ⟨hb12, rfl, h9⟩) <;> (replace h9 := h9.symm; subst h9)))
    · refine wp_region_make 21 ?_ 5 (.cells #[.string ⟨#[]⟩, .int .i64 0, .int .i64 0, .int .i64 0, .int .i64 0, .int .i64 0, .int .i64 0, .int .i64 0, .int .i64 0] 53) (by kernel_rfl) (by kernel_rfl) (by kernel_rfl) (fun d hd => by cases hd; exact ⟨_, rfl, rfl, rfl, fun A u => alloc_Mat A _ rfl u⟩) (fun pp => ?_) (fun pp qq => ?_)
      rotate_left
      · simp only [List.take_succ_cons, List.take_zero]
        repeat (go_big_quiet_step (((first | exact qq1 (CC.out _) | exact qq2 (CC.out _)))))
        refine wpQuiet_nil ?_
        exact rfl
      simp only [List.drop_succ_cons, List.drop_zero]
      try simp only [Act.put, List.setIfInBounds_toArray, List.set_cons_succ, List.set_cons_zero]
      go_wp2_with fail
      generalize hU : grow (World.alloc (grow V _) (Obj.cells #[.string ⟨name.toArray⟩, .int .i64 p0, .int .i64 p1, .int .i64 p2, .int .i64 p3, .int .i64 p4, .int .i64 p5, .int .i64 p6, .int .i64 p7] 53)) _ = U
      have BU : Below V.heap.size V U := by rw [← hU]; exact (by repeat (first | with_reducible exact Below.refl _ _ | with_reducible refine bel_then ?_ _ | with_reducible refine bel_grow ?_ _ | with_reducible refine bel_alloc ?_ _ | with_reducible refine bel_drew ?_ | with_reducible refine bel_set ?_ (by simp) _ | with_reducible refine bel_setRow ?_ (by first | omega | (simp; done)) _))
      have KU := row_letter hU
      clear hU
      try simp only [grow_grow] at KU
      try simp only [grow_grow]
      generalize (grow V _).heap.size = k at KU ⊢
      have k0 : U.cell? ⟨k, 0, none⟩ = some (.string ⟨name.toArray⟩) := KU.cell 0
      have k1 : U.cell? ⟨k, 1, none⟩ = some (.int .i64 p0) := KU.cell 1
      have k2 : U.cell? ⟨k, 2, none⟩ = some (.int .i64 p1) := KU.cell 2
      have k3 : U.cell? ⟨k, 3, none⟩ = some (.int .i64 p2) := KU.cell 3
      have k4 : U.cell? ⟨k, 4, none⟩ = some (.int .i64 p3) := KU.cell 4
      have k5 : U.cell? ⟨k, 5, none⟩ = some (.int .i64 p4) := KU.cell 5
      have k6 : U.cell? ⟨k, 6, none⟩ = some (.int .i64 p5) := KU.cell 6
      have k7 : U.cell? ⟨k, 7, none⟩ = some (.int .i64 p6) := KU.cell 7
      have k8 : U.cell? ⟨k, 8, none⟩ = some (.int .i64 p7) := KU.cell 8
      have hkl := KU.lt
      have HRU := Lib.hid (HRV.out.below BU)
      have hbU := Lib.hid (bel_trans hbV.out BU)
      replace HIV := Lib.hid (HIV.out.below BU)
      have c20 : U.cell? ⟨g, 20, none⟩ = some (.slice A1 sc.mats.length a1) := by rw [← hv.out]; exact HRU.out.blk.cell 20
      have z20 := HRU.out.blk.frozen 20
      have hUl := HRU.out.lt
      have HV := hv.out
      replace HV := Lib.hid HV
      clear KU CC HNM
      go_wp2_with (first | (go_at_call 110; (with_reducible refine (pwithin_any _ _ 3 _ _ _ (([p0, p1, p2, p3, p4, p5, p6, p7].take 3).drop 0) (rfl) (by decide) (IF.subE (HIV.out.below (by repeat (first | with_reducible exact Below.refl _ _ | with_reducible refine bel_then ?_ _ | with_reducible refine bel_grow ?_ _ | with_reducible refine bel_alloc ?_ _ | with_reducible refine bel_drew ?_ | with_reducible refine bel_set ?_ (by simp) _ | with_reducible refine bel_setRow ?_ (by first | omega | (simp; done)) _))) 0 3 0 (by simp) rfl)).mono ?_); rintro e _ ⟨⟨hw1, rfl⟩ | ⟨hw1, rfl⟩, x3, rfl⟩) | (go_at_call 110; (with_reducible refine (pwithin_any _ _ 1 _ _ _ ([p4]) (rfl) (by decide) (IF.new1 _ _ _)).mono ?_); rintro e _ ⟨⟨hw2, rfl⟩ | ⟨hw2, rfl⟩, x3, rfl⟩) | (go_at_call 110; (with_reducible refine (pwithin_any _ _ 4 _ _ _ ([p3, p5, p6, p5 + p6]) (rfl) (by decide) (IF.new4 _ _ _ _ _ _)).mono ?_); rintro e _ ⟨⟨hw3, rfl⟩ | ⟨hw3, rfl⟩, x3, rfl⟩) | (go_at_call 110; (with_reducible refine (pwithin_any _ _ 1 _ _ _ ([p7]) (rfl) (by decide) (IF.new1 _ _ _)).mono ?_); rintro e _ ⟨⟨hw4, rfl⟩ | ⟨hw4, rfl⟩, x3, rfl⟩))
      · rw [placeI_neg] at hb12
        have HS := Lib.hid (show matF sc (name :: ws) = .ok { sc with mats := sc.mats ++ [(name, [p0, p1, p2, p3, p4, p5, p6, p7])] } by
          have h3 : inB 0 256 [p3] = true ∧ inB 0 256 [p5, p6] = true ∧ p5 + p6 ≤ 256 := by unfold inB at hw3 ⊢; simp at hw3 ⊢; omega
          rw [HF2.out, if_neg (by simpa using hb12), hw1, hw2, hw4, h3.1, h3.2.1, decide_eq_true h3.2.2]; rfl)
        clear HF2 hw1 hw2 hw3 hw4 hb12
        have OWU := Lib.hid (show U.ownsRow g 53 9 (.slice A1 sc.mats.length a1) sc.mats.length (sc.mats.flatMap fM) from by rw [← HV.out]; exact HRU.out.own.row .mats)
        refine wp_region_makeS_ 7 ?_ (.pointer (some ⟨g, 0, none⟩)) 85 (.cells #[.string ⟨name.toArray⟩, .int .i64 p0, .int .i64 p1, .int .i64 p2, .int .i64 p3, .int .i64 p4, .int .i64 p5, .int .i64 p6, .int .i64 p7] 53) (by kernel_rfl) (by kernel_rfl) (by kernel_rfl) rfl rfl rfl (fun _ _ _ h => h) ?_ (fun x => ?_) (fun x y => ?_)
        rotate_left 2
        · simp only [List.take_succ_cons, List.take_zero, List.tail_cons, Act.put, List.setIfInBounds_toArray, List.set_cons_succ, List.set_cons_zero]
          repeat (go_big_quiet_step ((fail)))
          refine wpQuiet_nil ?_
          exact rfl
        rotate_left
        · exact ⟨_, rfl, rfl, rfl, fun u => by simp [execOp, go_sem]⟩
        simp only [List.drop_succ_cons, List.drop_zero]
        try simp only [Act.put, List.setIfInBounds_toArray, List.set_cons_succ, List.set_cons_zero]
        go_wp2_with (at_builtin; go_loud (refine wpList_append_own_at _ rfl _ _ 29 rfl g 53 i0 _ 9 80 Tryz.underlying29 hi0 hz0 hz1 hz2 rfl (by decide) _ _ _ rfl (own_below OWU.out (by repeat (first | with_reducible exact Below.refl _ _ | with_reducible refine bel_then ?_ _ | with_reducible refine bel_grow ?_ _ | with_reducible refine bel_alloc ?_ _ | with_reducible refine bel_drew ?_ | with_reducible refine bel_set ?_ (by simp) _ | with_reducible refine bel_setRow ?_ (by first | omega | (simp; done)) _))) ⟨_, 0, none⟩ 1 1 [.string ⟨name.toArray⟩, .int .i64 p0, .int .i64 p1, .int .i64 p2, .int .i64 p3, .int .i64 p4, .int .i64 p5, .int .i64 p6, .int .i64 p7] rfl rfl (cell_newG _ [.string ⟨name.toArray⟩, .int .i64 p0, .int .i64 p1, .int .i64 p2, .int .i64 p3, .int .i64 p4, .int .i64 p5, .int .i64 p6, .int .i64 p7] _ _) (fun u hu => by simp at hu; rcases hu with rfl | rfl | rfl | rfl | rfl | rfl | rfl | rfl | rfl <;> rfl) (by unfold maxLen; omega) (by omega) (Nat.le_trans (Nat.le_of_lt hUl) (@Below.size U.heap.size U _ (by repeat (first | with_reducible exact Below.refl _ _ | with_reducible refine bel_then ?_ _ | with_reducible refine bel_grow ?_ _ | with_reducible refine bel_alloc ?_ _ | with_reducible refine bel_drew ?_ | with_reducible refine bel_set ?_ (by simp) _ | with_reducible refine bel_setRow ?_ (by first | omega | (simp; done)) _)))) ?_); intro v4 w4 hown4 hgr4 hnil4 hat4; clear hnil4; obtain ⟨A4, a4, rfl⟩ := own_form hown4; go_loud (obtain ⟨B4, R4⟩ := HRU.out.matsP HV.out (name, [p0, p1, p2, p3, p4, p5, p6, p7]) (show fM (name, [p0, p1, p2, p3, p4, p5, p6, p7]) = [.string ⟨name.toArray⟩, .int .i64 p0, .int .i64 p1, .int .i64 p2, .int .i64 p3, .int .i64 p4, .int .i64 p5, .int .i64 p6, .int .i64 p7] from rfl) _ hgr4 hown4 hat4 (by repeat (first | with_reducible exact Below.refl _ _ | with_reducible refine bel_then ?_ _ | with_reducible refine bel_grow ?_ _ | with_reducible refine bel_alloc ?_ _ | with_reducible refine bel_drew ?_ | with_reducible refine bel_set ?_ (by simp) _ | with_reducible refine bel_setRow ?_ (by first | omega | (simp; done)) _)); have hB4 := fr_app (TR := TR) hbU.out hgl hgr4 (own_typed OWU.out) (by decide) (Nat.le_refl _) HRU.out.blk (fun h => h) 20 (.slice A4 (sc.mats.length + 1) a4) (by repeat (first | with_reducible exact Below.refl _ _ | with_reducible refine bel_then ?_ _ | with_reducible refine bel_grow ?_ _ | with_reducible refine bel_alloc ?_ _ | with_reducible refine bel_drew ?_ | with_reducible refine bel_set ?_ (by simp) _ | with_reducible refine bel_setRow ?_ (by first | omega | (simp; done)) _)); have c4 : w4.cell? ⟨g, 20, none⟩ = some (val .mats) := B4.cell 20; have z4 := B4.frozen 20; replace R4 := Lib.hid R4; replace hB4 := Lib.hid hB4; clear hgr4 hown4 hat4))
        go_end0
        exact lineP_ok HS.out hB4.out R4.out
      · refine ⟨rfl, lineP_err 11 hgl (bel_trans hbU.out (by repeat (first | with_reducible exact Below.refl _ _ | with_reducible refine bel_then ?_ _ | with_reducible refine bel_grow ?_ _ | with_reducible refine bel_alloc ?_ _ | with_reducible refine bel_drew ?_ | with_reducible refine bel_set ?_ (by simp) _ | with_reducible refine bel_setRow ?_ (by first | omega | (simp; done)) _))) ?_⟩
        rw [placeI_neg] at hb12
        rw [HF2.out, if_neg (by simpa using hb12), hw4]; simp
      · refine ⟨rfl, lineP_err 11 hgl (bel_trans hbU.out (by repeat (first | with_reducible exact Below.refl _ _ | with_reducible refine bel_then ?_ _ | with_reducible refine bel_grow ?_ _ | with_reducible refine bel_alloc ?_ _ | with_reducible refine bel_drew ?_ | with_reducible refine bel_set ?_ (by simp) _ | with_reducible refine bel_setRow ?_ (by first | omega | (simp; done)) _))) ?_⟩
        rw [placeI_neg] at hb12
        rw [HF2.out, if_neg (by simpa using hb12), if_neg]
        intro h
        simp only [Bool.and_eq_true, decide_eq_true_eq] at h
        obtain ⟨⟨⟨⟨⟨h1, h2⟩, h3⟩, h4⟩, h5⟩, h6⟩ := h
        unfold inB at h2 h4 hw3
        simp at h2 h4 hw3
        omega
      · refine ⟨rfl, lineP_err 11 hgl (bel_trans hbU.out (by repeat (first | with_reducible exact Below.refl _ _ | with_reducible refine bel_then ?_ _ | with_reducible refine bel_grow ?_ _ | with_reducible refine bel_alloc ?_ _ | with_reducible refine bel_drew ?_ | with_reducible refine bel_set ?_ (by simp) _ | with_reducible refine bel_setRow ?_ (by first | omega | (simp; done)) _))) ?_⟩
        rw [placeI_neg] at hb12
        rw [HF2.out, if_neg (by simpa using hb12), hw2]; simp
      · refine ⟨rfl, lineP_err 11 hgl (bel_trans hbU.out (by repeat (first | with_reducible exact Below.refl _ _ | with_reducible refine bel_then ?_ _ | with_reducible refine bel_grow ?_ _ | with_reducible refine bel_alloc ?_ _ | with_reducible refine bel_drew ?_ | with_reducible refine bel_set ?_ (by simp) _ | with_reducible refine bel_setRow ?_ (by first | omega | (simp; done)) _))) ?_⟩
        rw [placeI_neg] at hb12
        rw [HF2.out, if_neg (by simpa using hb12), hw1]; simp
    · refine ⟨rfl, lineP_err 12 hgl (bel_trans hbV.out (by repeat (first | with_reducible exact Below.refl _ _ | with_reducible refine bel_then ?_ _ | with_reducible refine bel_grow ?_ _ | with_reducible refine bel_alloc ?_ _ | with_reducible refine bel_drew ?_ | with_reducible refine bel_set ?_ (by simp) _ | with_reducible refine bel_setRow ?_ (by first | omega | (simp; done)) _))) ?_⟩
      rw [placeI_neg] at hb12
      rw [HF2.out, if_pos (by simpa using hb12)]
  · refine ⟨rfl, lineP_err 13 hgl (bel_trans hbV.out (by repeat (first | with_reducible exact Below.refl _ _ | with_reducible refine bel_then ?_ _ | with_reducible refine bel_grow ?_ _ | with_reducible refine bel_alloc ?_ _ | with_reducible refine bel_drew ?_ | with_reducible refine bel_set ?_ (by simp) _ | with_reducible refine bel_setRow ?_ (by first | omega | (simp; done)) _))) ?_⟩
    rw [HF.out, if_neg (by have := HM.out; simp [this]; exact hb10), hN]
    simp at hb13
    dsimp only
    rw [if_pos (by omega)]
  · refine ⟨rfl, lineP_err 10 hgl (by repeat (first | with_reducible exact Below.refl _ _ | with_reducible refine bel_then ?_ _ | with_reducible refine bel_grow ?_ _ | with_reducible refine bel_alloc ?_ _ | with_reducible refine bel_drew ?_ | with_reducible refine bel_set ?_ (by simp) _ | with_reducible refine bel_setRow ?_ (by first | omega | (simp; done)) _)) ?_⟩
    rw [HF.out]
    split
    · rfl
    · rw [hN]
  · refine ⟨rfl, lineP_err 10 hgl (by repeat (first | with_reducible exact Below.refl _ _ | with_reducible refine bel_then ?_ _ | with_reducible refine bel_grow ?_ _ | with_reducible refine bel_alloc ?_ _ | with_reducible refine bel_drew ?_ | with_reducible refine bel_set ?_ (by simp) _ | with_reducible refine bel_setRow ?_ (by first | omega | (simp; done)) _)) ?_⟩
    rw [HF.out, if_pos (.inr hb10)]

theorem pmaterial (W : World) (g n c : Nat) (A : Option Addr) (TR : TypeId) (sc : Scn) (val : Key → Value) (wl : List Wd) (hn : wl.length = n) (hc : n ≤ c) (hA : SFW W A wl) (hR : RepV g W g TR sc val) :
    Calls Tryz.prog 83 #[.pointer (some ⟨g, 0, none⟩), .slice A n c] W fun e W' => lineP g TR W (matF sc wl) e W' := by
  by_cases q : n = 9
  · subst q
    match wl, hn, hA with
    | name :: ws, hn, hA =>
      obtain ⟨b, off, rfl, _, _⟩ := hA (by simp)
      exact pmaterial_long W g c b off TR sc val name ws (by simpa using hn) hc hA hR
  · exact pmaterial_short W g n c A TR sc val wl hn (by omega) (by simp; omega) hR
end Go.Proofs.YtdkgbdecmgligaaGreatDoor
