/- The program's own scene: the line of a texture. -/
import Derived.Test.YtdkgbdecmgligaaGreatDoorMScnQ5
namespace Go.Proofs.YtdkgbdecmgligaaGreatDoor
open Go.RowKit
set_option linter.unusedVariables false
set_option linter.unusedSimpArgs false
set_option linter.unnecessarySimpa false

theorem two_of {l : List Int} (h : l.length = 2) : ∃ a b, l = [a, b] := by
  match l, h with
  | [a, b], _ => exact ⟨a, b, rfl⟩
theorem IF.at2 {V : World} {b : Nat} {x y : Int} (h : IF V (some ⟨b, 0, none⟩) [x, y]) : V.cell? ⟨b, 0, none⟩ = some (.int .i64 x) ∧ V.cell? ⟨b, 1, none⟩ = some (.int .i64 y) ∧ b < V.heap.size := by
  obtain ⟨b2, off, e, hb, hc⟩ := h (by simp)
  cases e
  have h0 := hc 0 (by simp)
  have h1 := hc 1 (by simp)
  simp only [Nat.zero_add] at h0 h1
  exact ⟨h0, h1, hb⟩
theorem mul_small {a b : Int} (ha : -999999 ≤ a ∧ a ≤ 999999) (hb : -999999 ≤ b ∧ b ≤ 999999) : IntKind.i64.wrap (a * b) = a * b := by
  have h1 : (a * b).natAbs ≤ 999999 * 999999 := by
    rw [Int.natAbs_mul]
    exact Nat.mul_le_mul (by omega) (by omega)
  exact IntWalk.i64_in _ (by omega)
theorem tex_wi {s0 s1 : Int} {ns : List Int} {m : Nat} (h : ns.length = m) : (wi ([s0, s1] ++ ns) 0 2 1 16 && wi ([s0, s1] ++ ns) 2 ([s0, s1] ++ ns).length 0 255) = (wi [s0, s1] 0 2 1 16 && wi ns 0 m 0 255) := by
  unfold wi
  simp [h]
theorem tex_len {s0 s1 : Int} {ns : List Int} {m : Nat} (h : ns.length = m) : ((([s0, s1] ++ ns).length : Int) - 2) = m := by
  simp [h]; omega
theorem placeI_neg {name : Wd} {l : List Wd} : decide (placeI name l < 0) = !(place name l).isSome := by
  unfold placeI
  cases place name l with
  | none => rfl
  | some i => simp
theorem texF_short (sc : Scn) (wl : List Wd) (h : wl.length < 3) : texF sc wl = .error 10 := by
  match wl, h with
  | [], _ => rfl
  | name :: ws, h => rw [texF_cons, if_pos (.inl (by simp at h; omega))]
set_option maxRecDepth 100000 in
set_option maxHeartbeats 2000000 in
theorem ptexture_short (W : World) (g n c : Nat) (A : Option Addr) (TR : TypeId) (sc : Scn) (val : Key → Value) (wl : List Wd) (hn : wl.length = n) (h3 : ¬ (3 : Int) ≤ (n : Int)) (hR : RepV g W g TR sc val) :
    Calls Tryz.prog 82 #[.pointer (some ⟨g, 0, none⟩), .slice A n c] W fun e W' => lineP g TR W (texF sc wl) e W' := by
  have hgl := hR.lt
  have HF := Lib.hid (texF_short sc wl (by omega))
  clear hR
  go_enter Tryz.func82, Tryz.ntmps82
  go_wp2_with (go_at_call 108; (with_reducible refine (need_no _ 10).mono ?_); rintro e w9 ⟨rfl, h9⟩; replace h9 := h9.symm; subst h9)
  refine ⟨rfl, lineP_err 10 hgl (by repeat (first | with_reducible exact Below.refl _ _ | with_reducible refine bel_then ?_ _ | with_reducible refine bel_grow ?_ _ | with_reducible refine bel_alloc ?_ _ | with_reducible refine bel_drew ?_ | with_reducible refine bel_set ?_ (by simp) _ | with_reducible refine bel_setRow ?_ (by first | omega | (simp; done)) _)) ?_⟩
  exact HF.out

set_option maxRecDepth 100000 in
set_option maxHeartbeats 4000000 in
theorem ptexture_b (W : World) (g n m c b off : Nat) (TR : TypeId) (sc : Scn) (val : Key → Value) (name w1 w2 : Wd) (ws : List Wd) (hm : ws.length = m) (hmn : n = m + 3) (hl : n ≤ 65537) (hc : n ≤ c) (hc3 : ¬ c = 3) (hA : SFW W (some ⟨b, off, none⟩) (name :: w1 :: w2 :: ws)) (hR : RepV g W g TR sc val) :
    Calls Tryz.prog 82 #[.pointer (some ⟨g, 0, none⟩), .slice (some ⟨b, off, none⟩) n c] W fun e W' => lineP g TR W (texF sc (name :: w1 :: w2 :: ws)) e W' := by
  obtain ⟨i0, hi0, hz0, hz1, hz2⟩ := info_parts infoTx
  have hgl := hR.lt
  have HF := Lib.hid (texF_cons sc name (w1 :: w2 :: ws))
  have hS0 : W.cell? ⟨b, off, none⟩ = some (.string ⟨name.toArray⟩) := by
    obtain ⟨b2, off2, q, hb, hcc⟩ := hA (by simp)
    cases q
    have := hcc 0 (by simp)
    simpa using this
  have hbl : b < W.heap.size := (hA (by simp)).elim fun b2 ⟨off2, q, hb, _⟩ => by cases q; exact hb
  have HS1 := Lib.hid (show SFW W (some ⟨b, off + 1, none⟩) [w1, w2] from by simpa using hA.subE 1 3 (off + 1) (by simp) rfl)
  have HS2 := Lib.hid (show SFW W (some ⟨b, off + 3, none⟩) ws from by
    have := hA.subE 3 (m + 3) (off + 3) (by simp; omega) rfl
    simpa [List.take_of_length_le (Nat.le_of_eq hm)] using this)
  have HS3 := Lib.hid (show SFW W (some ⟨b, off + 3, none⟩) ws from by
    exact HS2.out)
  clear HS2
  have HT := Lib.hid hR
  have n0 : (0 : Int) < (n : Int) := by omega
  have n3 : (3 : Int) ≤ (n : Int) := by omega
  have n3' : 3 ≤ n := by omega
  have c3 : (3 : Int) ≤ (c : Int) := by omega
  have c3' : 3 ≤ c := by omega
  have nm : n - 3 = m := by omega
  have hlm : m ≤ 65537 := by omega
  clear hA hR hmn
  go_enter Tryz.func82, Tryz.ntmps82
  go_wp2_with (first | (go_at_call 108; (with_reducible refine (need_yes _ _).mono ?_); rintro e w9 ⟨rfl, h9⟩; replace h9 := h9.symm; subst h9) | (go_at_call 113; (refine ((lName_any ⟨(name).toArray⟩).at_ _).mono ?_); rintro e _ ⟨rfl, x7, rfl⟩) | (go_at_call 108; (with_reducible refine (need_any _ _ 10).mono ?_); rintro e w9 (⟨hb10, rfl, h9⟩ | ⟨hb10, rfl, h9⟩) <;> (replace h9 := h9.symm; subst h9)) | (go_at_call 109; (with_reducible refine (pnumbers_any _ _ _ 2 [w1, w2] rfl (by decide) (HS1.out.below (by repeat (first | with_reducible exact Below.refl _ _ | with_reducible refine bel_then ?_ _ | with_reducible refine bel_grow ?_ _ | with_reducible refine bel_alloc ?_ _ | with_reducible refine bel_drew ?_ | with_reducible refine bel_set ?_ (by simp) _ | with_reducible refine bel_setRow ?_ (by first | omega | (simp; done)) _)))).mono ?_); rintro e V1 hp; rcases pnums_or2 hp (n := 2) rfl with ⟨hN1, rfl, x2, rfl⟩ | ⟨sz, b2, hN1, hL1, rfl, hb1, hown1⟩; rotate_left; (clear hp; have hbV1 : Below W.heap.size W V1 := (bel_trans (by repeat (first | with_reducible exact Below.refl _ _ | with_reducible refine bel_then ?_ _ | with_reducible refine bel_grow ?_ _ | with_reducible refine bel_alloc ?_ _ | with_reducible refine bel_drew ?_ | with_reducible refine bel_set ?_ (by simp) _ | with_reducible refine bel_setRow ?_ (by first | omega | (simp; done)) _)) hb1.out); replace hbV1 := Lib.hid hbV1; have HT1 := Lib.hid (HT.out.below hbV1.out); obtain ⟨s0, s1, rfl⟩ := two_of hL1.out; have HI1 := Lib.hid (IF_of_own hown1.out hL1.out); have HSV := Lib.hid (HS3.out.below hbV1.out))) | (go_at_call 109; (with_reducible refine (pnumbers_any _ _ _ m ws hm hlm (HSV.out.below (by repeat (first | with_reducible exact Below.refl _ _ | with_reducible refine bel_then ?_ _ | with_reducible refine bel_grow ?_ _ | with_reducible refine bel_alloc ?_ _ | with_reducible refine bel_drew ?_ | with_reducible refine bel_set ?_ (by simp) _ | with_reducible refine bel_setRow ?_ (by first | omega | (simp; done)) _)))).mono ?_); rintro e V2 hp; rcases pnums_or2 hp hm with ⟨hN2, rfl, x3, rfl⟩ | ⟨ns, b3, hN2, hL2, rfl, hb2, hown2⟩; rotate_left; (clear hp; have hbV := Lib.hid (bel_trans hbV1.out hb2.out); have HRV := Lib.hid (HT1.out.below hb2.out); have HIV1 := Lib.hid (HI1.out.below hb2.out); have HIV := Lib.hid (IF_of_own hown2.out hL2.out); obtain ⟨d0, d1, dbl⟩ := HIV1.out.at2)))
  · have bS := numsF_small _ _ hN1
    have q0 := bS s0 (by simp)
    have q1 := bS s1 (by simp)
    have hmul : IntKind.i64.wrap (s0 * s1) = s0 * s1 := mul_small q0 q1
    have HP := Lib.hid (show numsF (w1 :: w2 :: ws) = some ([s0, s1] ++ ns) by
      rw [show w1 :: w2 :: ws = [w1, w2] ++ ws from rfl, numsF_app, hN1, hN2])
    obtain ⟨A1, a1, hv⟩ := own_form (show W.ownsRow g 51 4 (val .texs) sc.texs.length ((texSS sc val).flatMap fT) from HT.out.own.row .texs)
    have c21 : V2.cell? ⟨g, 21, none⟩ = some (.slice A1 sc.texs.length a1) := by rw [← hv]; exact HRV.out.blk.cell 21
    have z21 := HRV.out.blk.frozen 21
    have hVl := HRV.out.lt
    have hb2l : b < V2.heap.size := Nat.lt_of_lt_of_le hbl hbV.out.size
    have cS : V2.cell? ⟨b, off, none⟩ = some (.string ⟨name.toArray⟩) := (hbV.out.cell (p := ⟨b, off, none⟩) hbl).trans hS0
    have OW := Lib.hid (show ∀ x, (grow V2 x).ownsRow g 51 4 (.slice A1 sc.texs.length a1) sc.texs.length ((texSS sc val).flatMap fT) from fun x => by rw [← hv]; exact (HRV.out.grow x).own.row .texs)
    have HV := Lib.hid hv
    have TROW := Lib.hid (show ∀ W1, Below V2.heap.size V2 W1 → roRow W1 W.heap.size 3 (.slice (some ⟨b3, 0, none⟩) m m) (([s0, s1] ++ ns).drop 2).length (i64s (([s0, s1] ++ ns).drop 2)) from fun W1 hb => by
      have e : ([s0, s1] ++ ns).drop 2 = ns := rfl
      rw [e, hL2.out]
      exact ro_of_own (own_mono (own_below hown2.out hb) hbV1.out.size))
    have HF2 := Lib.hid (show isN name = true → texF sc (name :: w1 :: w2 :: ws) = if s0 * s1 ≠ (m : Int) then .error 10 else if 4 ≤ sc.texs.length then .error 13
      else if (place name (sc.texs.map (·.1))).isSome then .error 12
      else if (wi [s0, s1] 0 2 1 16 && wi ns 0 m 0 255) then .ok { sc with texs := sc.texs ++ [(name, [s0, s1] ++ ns)] } else .error 11 from fun hi => by
      rw [HF.out, if_neg (by simp [hi]), HP.out]
      dsimp only
      rw [tex_wi hL2.out, tex_len hL2.out]
      rfl)
    replace HF2 := Lib.hid (HF2.out hb10)
    clear hv hN1 hN2 bS q0 q1 hS0 HF HP hb10
    refine wp_region_tail 10 ?_ (by kernel_rfl) (by kernel_rfl) (by kernel_rfl) (fun x => ?_) (fun x => ?_)
    rotate_left
    · simp only [List.take_succ_cons, List.take_zero]
      repeat (go_big_quiet_step ((fail)))
      refine wpQuiet_nil ?_
      exact rfl
    simp only [List.drop_succ_cons, List.drop_zero]
    try simp only [Act.put, List.setIfInBounds_toArray, List.set_cons_succ, List.set_cons_zero]
    go_wp2_with (first | (go_at_call 108; (with_reducible refine (need_any _ _ 10).mono ?_); rintro e w9 (⟨hb10, rfl, h9⟩ | ⟨hb10, rfl, h9⟩) <;> (replace h9 := h9.symm; subst h9)) | (go_at_call 108; (with_reducible refine (need_any _ _ 13).mono ?_); rintro e w9 (⟨hb13, rfl, h9⟩ | ⟨hb13, rfl, h9⟩) <;> (replace h9 := h9.symm; subst h9)))
    · have hb13' := hb13
      simp at hb10 hb13'
      have HNM := Lib.hid (show ∀ x : More, Calls Tryz.prog 114 #[.pointer (some ⟨g, 0, none⟩), .string ⟨name.toArray⟩] (grow V2 x) fun e w' => e = .returned (.int .i64 (placeI name (sc.texs.map (·.1)))) ∧ ∃ y, w' = grow (grow V2 x) y from fun x => tex_named (grow V2 x) g A1 sc.texs.length a1 (sc.texs.map (·.1)) name (by simp) (by omega) ((HRV.out.grow x).ef_tex HV.out) (by rw [← HV.out]; exact (HRV.out.grow x).blk.cell 21))
      go_wp2_with (first | (go_at_call 114; (refine (HNM.out _).mono ?_); rintro e _ ⟨rfl, x8, rfl⟩) | (go_at_call 108; (with_reducible refine (need_any _ _ 12).mono ?_); rintro e w9 (⟨hb12, rfl, h9⟩ | ⟨hb12, rfl, h9⟩) <;> (replace h9 := h9.symm; subst h9)) | (go_at_call 110; (with_reducible refine (pwithin_any _ _ 2 _ _ _ ([s0, s1]) (rfl) (by decide) (HIV1.out.below (by repeat (first | with_reducible exact Below.refl _ _ | with_reducible refine bel_then ?_ _ | with_reducible refine bel_grow ?_ _ | with_reducible refine bel_alloc ?_ _ | with_reducible refine bel_drew ?_ | with_reducible refine bel_set ?_ (by simp) _ | with_reducible refine bel_setRow ?_ (by first | omega | (simp; done)) _)))).mono ?_); rintro e _ ⟨⟨hw1, rfl⟩ | ⟨hw1, rfl⟩, x3, rfl⟩) | (go_at_call 110; (with_reducible refine (pwithin_any _ _ _ _ _ _ (ns) (hL2.out) (len_big hlm) (HIV.out.below (by repeat (first | with_reducible exact Below.refl _ _ | with_reducible refine bel_then ?_ _ | with_reducible refine bel_grow ?_ _ | with_reducible refine bel_alloc ?_ _ | with_reducible refine bel_drew ?_ | with_reducible refine bel_set ?_ (by simp) _ | with_reducible refine bel_setRow ?_ (by first | omega | (simp; done)) _)))).mono ?_); rintro e _ ⟨⟨hw2, rfl⟩ | ⟨hw2, rfl⟩, x3, rfl⟩))
      · rw [inB_all (show [s0, s1].length = 2 from rfl)] at hw1
        rw [inB_all hL2.out] at hw2
        rw [placeI_neg] at hb12
        have HS := Lib.hid (show texF sc (name :: w1 :: w2 :: ws) = .ok { sc with texs := sc.texs ++ [(name, [s0, s1] ++ ns)] } by
          rw [HF2.out, if_neg (by omega), if_neg (by omega), if_neg (by simpa using hb12), hw1, hw2]; rfl)
        clear HF2 hw1 hw2 hb12 HNM
        refine wp_region_makeS_ 17 ?_ (.pointer (some ⟨g, 0, none⟩)) 68 (.cells #[.string ⟨name.toArray⟩, .int .i64 s0, .int .i64 s1, .slice (some ⟨b3, 0, none⟩) m m] 51) (by kernel_rfl) (by kernel_rfl) (by kernel_rfl) rfl rfl rfl (fun _ _ _ h => h) ?_ (fun x => ?_) (fun x y => ?_)
        rotate_left 2
        · simp only [List.take_succ_cons, List.take_zero, List.tail_cons, Act.put, List.setIfInBounds_toArray, List.set_cons_succ, List.set_cons_zero]
          repeat (go_big_quiet_step ((fail)))
          refine wpQuiet_nil ?_
          exact rfl
        rotate_left
        · exact ⟨_, rfl, rfl, rfl, fun u => by simp [execOp, go_sem]⟩
        simp only [List.drop_succ_cons, List.drop_zero]
        try simp only [Act.put, List.setIfInBounds_toArray, List.set_cons_succ, List.set_cons_zero]
        go_wp2_with (at_builtin; go_loud (refine wpList_append_own_at _ rfl _ _ 30 rfl g 51 i0 _ 4 56 Tryz.underlying30 hi0 hz0 hz1 hz2 rfl (by decide) _ _ _ rfl (own_grow ((own_grow (OW.out _) _).alloc _) _) ⟨_, 0, none⟩ 1 1 [.string ⟨name.toArray⟩, .int .i64 s0, .int .i64 s1, .slice (some ⟨b3, 0, none⟩) m m] rfl rfl (cell_newG _ [.string ⟨name.toArray⟩, .int .i64 s0, .int .i64 s1, .slice (some ⟨b3, 0, none⟩) m m] _ _) (fun u hu => by simp at hu; rcases hu with rfl | rfl | rfl | rfl <;> rfl) (by unfold maxLen; omega) (by omega) (Nat.le_trans (Nat.le_of_lt hVl) (@Below.size V2.heap.size V2 _ (by repeat (first | with_reducible exact Below.refl _ _ | with_reducible refine bel_then ?_ _ | with_reducible refine bel_grow ?_ _ | with_reducible refine bel_alloc ?_ _ | with_reducible refine bel_drew ?_ | with_reducible refine bel_set ?_ (by simp) _ | with_reducible refine bel_setRow ?_ (by first | omega | (simp; done)) _)))) ?_); intro v4 w4 hown4 hgr4 hnil4 hat4; clear hnil4; obtain ⟨A4, a4, rfl⟩ := own_form hown4; go_loud (obtain ⟨B4, R4⟩ := HT.out.texsP HV.out (name, [s0, s1] ++ ns) (.slice (some ⟨b3, 0, none⟩) m m) _ (show fT ((name, [s0, s1] ++ ns), .slice (some ⟨b3, 0, none⟩) m m) = [.string ⟨name.toArray⟩, .int .i64 s0, .int .i64 s1, .slice (some ⟨b3, 0, none⟩) m m] from rfl) hgr4 hown4 hat4 (bel_trans hbV.out (by repeat (first | with_reducible exact Below.refl _ _ | with_reducible refine bel_then ?_ _ | with_reducible refine bel_grow ?_ _ | with_reducible refine bel_alloc ?_ _ | with_reducible refine bel_drew ?_ | with_reducible refine bel_set ?_ (by simp) _ | with_reducible refine bel_setRow ?_ (by first | omega | (simp; done)) _))) (TROW.out _ (by repeat (first | with_reducible exact Below.refl _ _ | with_reducible refine bel_then ?_ _ | with_reducible refine bel_grow ?_ _ | with_reducible refine bel_alloc ?_ _ | with_reducible refine bel_drew ?_ | with_reducible refine bel_set ?_ (by simp) _ | with_reducible refine bel_setRow ?_ (by first | omega | (simp; done)) _))); have hB4 := fr_app (TR := TR) hbV.out hgl hgr4 (own_typed (OW.out More.none_)) (by decide) (Nat.le_refl _) HRV.out.blk (fun h => h) 21 (.slice A4 (sc.texs.length + 1) a4) (by repeat (first | with_reducible exact Below.refl _ _ | with_reducible refine bel_then ?_ _ | with_reducible refine bel_grow ?_ _ | with_reducible refine bel_alloc ?_ _ | with_reducible refine bel_drew ?_ | with_reducible refine bel_set ?_ (by simp) _ | with_reducible refine bel_setRow ?_ (by first | omega | (simp; done)) _)); have c4 : w4.cell? ⟨g, 21, none⟩ = some (val .texs) := B4.cell 21; have z4 := B4.frozen 21; replace R4 := Lib.hid R4; replace hB4 := Lib.hid hB4; clear hgr4 hown4 hat4))
        go_end0
        exact lineP_ok HS.out hB4.out R4.out
      · refine ⟨rfl, lineP_err 11 hgl (bel_trans hbV.out (by repeat (first | with_reducible exact Below.refl _ _ | with_reducible refine bel_then ?_ _ | with_reducible refine bel_grow ?_ _ | with_reducible refine bel_alloc ?_ _ | with_reducible refine bel_drew ?_ | with_reducible refine bel_set ?_ (by simp) _ | with_reducible refine bel_setRow ?_ (by first | omega | (simp; done)) _))) ?_⟩
        rw [inB_all (show [s0, s1].length = 2 from rfl)] at hw1
        rw [inB_all hL2.out] at hw2
        rw [placeI_neg] at hb12
        rw [HF2.out, if_neg (by omega), if_neg (by omega), if_neg (by simpa using hb12), hw1, hw2]; rfl
      · refine ⟨rfl, lineP_err 11 hgl (bel_trans hbV.out (by repeat (first | with_reducible exact Below.refl _ _ | with_reducible refine bel_then ?_ _ | with_reducible refine bel_grow ?_ _ | with_reducible refine bel_alloc ?_ _ | with_reducible refine bel_drew ?_ | with_reducible refine bel_set ?_ (by simp) _ | with_reducible refine bel_setRow ?_ (by first | omega | (simp; done)) _))) ?_⟩
        rw [inB_all (show [s0, s1].length = 2 from rfl)] at hw1
        rw [placeI_neg] at hb12
        rw [HF2.out, if_neg (by omega), if_neg (by omega), if_neg (by simpa using hb12), hw1]; rfl
      · refine ⟨rfl, lineP_err 12 hgl (bel_trans hbV.out (by repeat (first | with_reducible exact Below.refl _ _ | with_reducible refine bel_then ?_ _ | with_reducible refine bel_grow ?_ _ | with_reducible refine bel_alloc ?_ _ | with_reducible refine bel_drew ?_ | with_reducible refine bel_set ?_ (by simp) _ | with_reducible refine bel_setRow ?_ (by first | omega | (simp; done)) _))) ?_⟩
        rw [placeI_neg] at hb12
        rw [HF2.out, if_neg (by omega), if_neg (by omega), if_pos (by simpa using hb12)]
    · refine ⟨rfl, lineP_err 13 hgl (bel_trans hbV.out (by repeat (first | with_reducible exact Below.refl _ _ | with_reducible refine bel_then ?_ _ | with_reducible refine bel_grow ?_ _ | with_reducible refine bel_alloc ?_ _ | with_reducible refine bel_drew ?_ | with_reducible refine bel_set ?_ (by simp) _ | with_reducible refine bel_setRow ?_ (by first | omega | (simp; done)) _))) ?_⟩
      simp at hb10 hb13
      rw [HF2.out, if_neg (by omega), if_pos (by omega)]
    · refine ⟨rfl, lineP_err 10 hgl (bel_trans hbV.out (by repeat (first | with_reducible exact Below.refl _ _ | with_reducible refine bel_then ?_ _ | with_reducible refine bel_grow ?_ _ | with_reducible refine bel_alloc ?_ _ | with_reducible refine bel_drew ?_ | with_reducible refine bel_set ?_ (by simp) _ | with_reducible refine bel_setRow ?_ (by first | omega | (simp; done)) _))) ?_⟩
      simp at hb10
      rw [HF2.out, if_pos (by omega)]
  · refine ⟨rfl, lineP_err 10 hgl (bel_trans hbV1.out (by repeat (first | with_reducible exact Below.refl _ _ | with_reducible refine bel_then ?_ _ | with_reducible refine bel_grow ?_ _ | with_reducible refine bel_alloc ?_ _ | with_reducible refine bel_drew ?_ | with_reducible refine bel_set ?_ (by simp) _ | with_reducible refine bel_setRow ?_ (by first | omega | (simp; done)) _))) ?_⟩
    rw [HF.out]
    split
    · rfl
    · rw [show w1 :: w2 :: ws = [w1, w2] ++ ws from rfl, numsF_app, hN1, hN2]
  · refine ⟨rfl, lineP_err 10 hgl (by repeat (first | with_reducible exact Below.refl _ _ | with_reducible refine bel_then ?_ _ | with_reducible refine bel_grow ?_ _ | with_reducible refine bel_alloc ?_ _ | with_reducible refine bel_drew ?_ | with_reducible refine bel_set ?_ (by simp) _ | with_reducible refine bel_setRow ?_ (by first | omega | (simp; done)) _)) ?_⟩
    rw [HF.out]
    split
    · rfl
    · rw [show w1 :: w2 :: ws = [w1, w2] ++ ws from rfl, numsF_app, hN1]
  · refine ⟨rfl, lineP_err 10 hgl (by repeat (first | with_reducible exact Below.refl _ _ | with_reducible refine bel_then ?_ _ | with_reducible refine bel_grow ?_ _ | with_reducible refine bel_alloc ?_ _ | with_reducible refine bel_drew ?_ | with_reducible refine bel_set ?_ (by simp) _ | with_reducible refine bel_setRow ?_ (by first | omega | (simp; done)) _)) ?_⟩
    rw [HF.out, if_pos (.inr hb10)]

set_option maxRecDepth 100000 in
set_option maxHeartbeats 4000000 in
theorem ptexture_a (W : World) (g n m c b off : Nat) (TR : TypeId) (sc : Scn) (val : Key → Value) (name w1 w2 : Wd) (ws : List Wd) (hm : ws.length = m) (hmn : n = m + 3) (hl : n ≤ 65537) (hc : n ≤ c) (hc3 : c = 3) (hA : SFW W (some ⟨b, off, none⟩) (name :: w1 :: w2 :: ws)) (hR : RepV g W g TR sc val) :
    Calls Tryz.prog 82 #[.pointer (some ⟨g, 0, none⟩), .slice (some ⟨b, off, none⟩) n c] W fun e W' => lineP g TR W (texF sc (name :: w1 :: w2 :: ws)) e W' := by
  obtain ⟨i0, hi0, hz0, hz1, hz2⟩ := info_parts infoTx
  have hgl := hR.lt
  have HF := Lib.hid (texF_cons sc name (w1 :: w2 :: ws))
  have hS0 : W.cell? ⟨b, off, none⟩ = some (.string ⟨name.toArray⟩) := by
    obtain ⟨b2, off2, q, hb, hcc⟩ := hA (by simp)
    cases q
    have := hcc 0 (by simp)
    simpa using this
  have hbl : b < W.heap.size := (hA (by simp)).elim fun b2 ⟨off2, q, hb, _⟩ => by cases q; exact hb
  have HS1 := Lib.hid (show SFW W (some ⟨b, off + 1, none⟩) [w1, w2] from by simpa using hA.subE 1 3 (off + 1) (by simp) rfl)
  have HS2 := Lib.hid (show SFW W (some ⟨b, off + 3, none⟩) ws from by
    have := hA.subE 3 (m + 3) (off + 3) (by simp; omega) rfl
    simpa [List.take_of_length_le (Nat.le_of_eq hm)] using this)
  have HS3 := Lib.hid (show SFW W (some ⟨b, off, none⟩) ws from by
    intro h0; omega)
  clear HS2
  have HT := Lib.hid hR
  have n0 : (0 : Int) < (n : Int) := by omega
  have n3 : (3 : Int) ≤ (n : Int) := by omega
  have n3' : 3 ≤ n := by omega
  have c3 : (3 : Int) ≤ (c : Int) := by omega
  have c3' : 3 ≤ c := by omega
  have nm : n - 3 = m := by omega
  have hlm : m ≤ 65537 := by omega
  clear hA hR hmn
  go_enter Tryz.func82, Tryz.ntmps82
  go_wp2_with (first | (go_at_call 108; (with_reducible refine (need_yes _ _).mono ?_); rintro e w9 ⟨rfl, h9⟩; replace h9 := h9.symm; subst h9) | (go_at_call 113; (refine ((lName_any ⟨(name).toArray⟩).at_ _).mono ?_); rintro e _ ⟨rfl, x7, rfl⟩) | (go_at_call 108; (with_reducible refine (need_any _ _ 10).mono ?_); rintro e w9 (⟨hb10, rfl, h9⟩ | ⟨hb10, rfl, h9⟩) <;> (replace h9 := h9.symm; subst h9)) | (go_at_call 109; (with_reducible refine (pnumbers_any _ _ _ 2 [w1, w2] rfl (by decide) (HS1.out.below (by repeat (first | with_reducible exact Below.refl _ _ | with_reducible refine bel_then ?_ _ | with_reducible refine bel_grow ?_ _ | with_reducible refine bel_alloc ?_ _ | with_reducible refine bel_drew ?_ | with_reducible refine bel_set ?_ (by simp) _ | with_reducible refine bel_setRow ?_ (by first | omega | (simp; done)) _)))).mono ?_); rintro e V1 hp; rcases pnums_or2 hp (n := 2) rfl with ⟨hN1, rfl, x2, rfl⟩ | ⟨sz, b2, hN1, hL1, rfl, hb1, hown1⟩; rotate_left; (clear hp; have hbV1 : Below W.heap.size W V1 := (bel_trans (by repeat (first | with_reducible exact Below.refl _ _ | with_reducible refine bel_then ?_ _ | with_reducible refine bel_grow ?_ _ | with_reducible refine bel_alloc ?_ _ | with_reducible refine bel_drew ?_ | with_reducible refine bel_set ?_ (by simp) _ | with_reducible refine bel_setRow ?_ (by first | omega | (simp; done)) _)) hb1.out); replace hbV1 := Lib.hid hbV1; have HT1 := Lib.hid (HT.out.below hbV1.out); obtain ⟨s0, s1, rfl⟩ := two_of hL1.out; have HI1 := Lib.hid (IF_of_own hown1.out hL1.out); have HSV := Lib.hid (HS3.out.below hbV1.out))) | (go_at_call 109; (with_reducible refine (pnumbers_any _ _ _ m ws hm hlm (HSV.out.below (by repeat (first | with_reducible exact Below.refl _ _ | with_reducible refine bel_then ?_ _ | with_reducible refine bel_grow ?_ _ | with_reducible refine bel_alloc ?_ _ | with_reducible refine bel_drew ?_ | with_reducible refine bel_set ?_ (by simp) _ | with_reducible refine bel_setRow ?_ (by first | omega | (simp; done)) _)))).mono ?_); rintro e V2 hp; rcases pnums_or2 hp hm with ⟨hN2, rfl, x3, rfl⟩ | ⟨ns, b3, hN2, hL2, rfl, hb2, hown2⟩; rotate_left; (clear hp; have hbV := Lib.hid (bel_trans hbV1.out hb2.out); have HRV := Lib.hid (HT1.out.below hb2.out); have HIV1 := Lib.hid (HI1.out.below hb2.out); have HIV := Lib.hid (IF_of_own hown2.out hL2.out); obtain ⟨d0, d1, dbl⟩ := HIV1.out.at2)))
  · have bS := numsF_small _ _ hN1
    have q0 := bS s0 (by simp)
    have q1 := bS s1 (by simp)
    have hmul : IntKind.i64.wrap (s0 * s1) = s0 * s1 := mul_small q0 q1
    have HP := Lib.hid (show numsF (w1 :: w2 :: ws) = some ([s0, s1] ++ ns) by
      rw [show w1 :: w2 :: ws = [w1, w2] ++ ws from rfl, numsF_app, hN1, hN2])
    obtain ⟨A1, a1, hv⟩ := own_form (show W.ownsRow g 51 4 (val .texs) sc.texs.length ((texSS sc val).flatMap fT) from HT.out.own.row .texs)
    have c21 : V2.cell? ⟨g, 21, none⟩ = some (.slice A1 sc.texs.length a1) := by rw [← hv]; exact HRV.out.blk.cell 21
    have z21 := HRV.out.blk.frozen 21
    have hVl := HRV.out.lt
    have hb2l : b < V2.heap.size := Nat.lt_of_lt_of_le hbl hbV.out.size
    have cS : V2.cell? ⟨b, off, none⟩ = some (.string ⟨name.toArray⟩) := (hbV.out.cell (p := ⟨b, off, none⟩) hbl).trans hS0
    have OW := Lib.hid (show ∀ x, (grow V2 x).ownsRow g 51 4 (.slice A1 sc.texs.length a1) sc.texs.length ((texSS sc val).flatMap fT) from fun x => by rw [← hv]; exact (HRV.out.grow x).own.row .texs)
    have HV := Lib.hid hv
    have TROW := Lib.hid (show ∀ W1, Below V2.heap.size V2 W1 → roRow W1 W.heap.size 3 (.slice (some ⟨b3, 0, none⟩) m m) (([s0, s1] ++ ns).drop 2).length (i64s (([s0, s1] ++ ns).drop 2)) from fun W1 hb => by
      have e : ([s0, s1] ++ ns).drop 2 = ns := rfl
      rw [e, hL2.out]
      exact ro_of_own (own_mono (own_below hown2.out hb) hbV1.out.size))
    have HF2 := Lib.hid (show isN name = true → texF sc (name :: w1 :: w2 :: ws) = if s0 * s1 ≠ (m : Int) then .error 10 else if 4 ≤ sc.texs.length then .error 13
      else if (place name (sc.texs.map (·.1))).isSome then .error 12
      else if (wi [s0, s1] 0 2 1 16 && wi ns 0 m 0 255) then .ok { sc with texs := sc.texs ++ [(name, [s0, s1] ++ ns)] } else .error 11 from fun hi => by
      rw [HF.out, if_neg (by simp [hi]), HP.out]
      dsimp only
      rw [tex_wi hL2.out, tex_len hL2.out]
      rfl)
    replace HF2 := Lib.hid (HF2.out hb10)
    clear hv hN1 hN2 bS q0 q1 hS0 HF HP hb10
    refine wp_region_tail 10 ?_ (by kernel_rfl) (by kernel_rfl) (by kernel_rfl) (fun x => ?_) (fun x => ?_)
    rotate_left
    · simp only [List.take_succ_cons, List.take_zero]
      repeat (go_big_quiet_step ((fail)))
      refine wpQuiet_nil ?_
      exact rfl
    simp only [List.drop_succ_cons, List.drop_zero]
    try simp only [Act.put, List.setIfInBounds_toArray, List.set_cons_succ, List.set_cons_zero]
    go_wp2_with (first | (go_at_call 108; (with_reducible refine (need_any _ _ 10).mono ?_); rintro e w9 (⟨hb10, rfl, h9⟩ | ⟨hb10, rfl, h9⟩) <;> (replace h9 := h9.symm; subst h9)) | (go_at_call 108; (with_reducible refine (need_any _ _ 13).mono ?_); rintro e w9 (⟨hb13, rfl, h9⟩ | ⟨hb13, rfl, h9⟩) <;> (replace h9 := h9.symm; subst h9)))
    · have hb13' := hb13
      simp at hb10 hb13'
      have HNM := Lib.hid (show ∀ x : More, Calls Tryz.prog 114 #[.pointer (some ⟨g, 0, none⟩), .string ⟨name.toArray⟩] (grow V2 x) fun e w' => e = .returned (.int .i64 (placeI name (sc.texs.map (·.1)))) ∧ ∃ y, w' = grow (grow V2 x) y from fun x => tex_named (grow V2 x) g A1 sc.texs.length a1 (sc.texs.map (·.1)) name (by simp) (by omega) ((HRV.out.grow x).ef_tex HV.out) (by rw [← HV.out]; exact (HRV.out.grow x).blk.cell 21))
      go_wp2_with (first | (go_at_call 114; (refine (HNM.out _).mono ?_); rintro e _ ⟨rfl, x8, rfl⟩) | (go_at_call 108; (with_reducible refine (need_any _ _ 12).mono ?_); rintro e w9 (⟨hb12, rfl, h9⟩ | ⟨hb12, rfl, h9⟩) <;> (replace h9 := h9.symm; subst h9)) | (go_at_call 110; (with_reducible refine (pwithin_any _ _ 2 _ _ _ ([s0, s1]) (rfl) (by decide) (HIV1.out.below (by repeat (first | with_reducible exact Below.refl _ _ | with_reducible refine bel_then ?_ _ | with_reducible refine bel_grow ?_ _ | with_reducible refine bel_alloc ?_ _ | with_reducible refine bel_drew ?_ | with_reducible refine bel_set ?_ (by simp) _ | with_reducible refine bel_setRow ?_ (by first | omega | (simp; done)) _)))).mono ?_); rintro e _ ⟨⟨hw1, rfl⟩ | ⟨hw1, rfl⟩, x3, rfl⟩) | (go_at_call 110; (with_reducible refine (pwithin_any _ _ _ _ _ _ (ns) (hL2.out) (len_big hlm) (HIV.out.below (by repeat (first | with_reducible exact Below.refl _ _ | with_reducible refine bel_then ?_ _ | with_reducible refine bel_grow ?_ _ | with_reducible refine bel_alloc ?_ _ | with_reducible refine bel_drew ?_ | with_reducible refine bel_set ?_ (by simp) _ | with_reducible refine bel_setRow ?_ (by first | omega | (simp; done)) _)))).mono ?_); rintro e _ ⟨⟨hw2, rfl⟩ | ⟨hw2, rfl⟩, x3, rfl⟩))
      · rw [inB_all (show [s0, s1].length = 2 from rfl)] at hw1
        rw [inB_all hL2.out] at hw2
        rw [placeI_neg] at hb12
        have HS := Lib.hid (show texF sc (name :: w1 :: w2 :: ws) = .ok { sc with texs := sc.texs ++ [(name, [s0, s1] ++ ns)] } by
          rw [HF2.out, if_neg (by omega), if_neg (by omega), if_neg (by simpa using hb12), hw1, hw2]; rfl)
        clear HF2 hw1 hw2 hb12 HNM
        refine wp_region_makeS_ 17 ?_ (.pointer (some ⟨g, 0, none⟩)) 68 (.cells #[.string ⟨name.toArray⟩, .int .i64 s0, .int .i64 s1, .slice (some ⟨b3, 0, none⟩) m m] 51) (by kernel_rfl) (by kernel_rfl) (by kernel_rfl) rfl rfl rfl (fun _ _ _ h => h) ?_ (fun x => ?_) (fun x y => ?_)
        rotate_left 2
        · simp only [List.take_succ_cons, List.take_zero, List.tail_cons, Act.put, List.setIfInBounds_toArray, List.set_cons_succ, List.set_cons_zero]
          repeat (go_big_quiet_step ((fail)))
          refine wpQuiet_nil ?_
          exact rfl
        rotate_left
        · exact ⟨_, rfl, rfl, rfl, fun u => by simp [execOp, go_sem]⟩
        simp only [List.drop_succ_cons, List.drop_zero]
        try simp only [Act.put, List.setIfInBounds_toArray, List.set_cons_succ, List.set_cons_zero]
        go_wp2_with (at_builtin; go_loud (refine wpList_append_own_at _ rfl _ _ 30 rfl g 51 i0 _ 4 56 Tryz.underlying30 hi0 hz0 hz1 hz2 rfl (by decide) _ _ _ rfl (own_grow ((own_grow (OW.out _) _).alloc _) _) ⟨_, 0, none⟩ 1 1 [.string ⟨name.toArray⟩, .int .i64 s0, .int .i64 s1, .slice (some ⟨b3, 0, none⟩) m m] rfl rfl (cell_newG _ [.string ⟨name.toArray⟩, .int .i64 s0, .int .i64 s1, .slice (some ⟨b3, 0, none⟩) m m] _ _) (fun u hu => by simp at hu; rcases hu with rfl | rfl | rfl | rfl <;> rfl) (by unfold maxLen; omega) (by omega) (Nat.le_trans (Nat.le_of_lt hVl) (@Below.size V2.heap.size V2 _ (by repeat (first | with_reducible exact Below.refl _ _ | with_reducible refine bel_then ?_ _ | with_reducible refine bel_grow ?_ _ | with_reducible refine bel_alloc ?_ _ | with_reducible refine bel_drew ?_ | with_reducible refine bel_set ?_ (by simp) _ | with_reducible refine bel_setRow ?_ (by first | omega | (simp; done)) _)))) ?_); intro v4 w4 hown4 hgr4 hnil4 hat4; clear hnil4; obtain ⟨A4, a4, rfl⟩ := own_form hown4; go_loud (obtain ⟨B4, R4⟩ := HT.out.texsP HV.out (name, [s0, s1] ++ ns) (.slice (some ⟨b3, 0, none⟩) m m) _ (show fT ((name, [s0, s1] ++ ns), .slice (some ⟨b3, 0, none⟩) m m) = [.string ⟨name.toArray⟩, .int .i64 s0, .int .i64 s1, .slice (some ⟨b3, 0, none⟩) m m] from rfl) hgr4 hown4 hat4 (bel_trans hbV.out (by repeat (first | with_reducible exact Below.refl _ _ | with_reducible refine bel_then ?_ _ | with_reducible refine bel_grow ?_ _ | with_reducible refine bel_alloc ?_ _ | with_reducible refine bel_drew ?_ | with_reducible refine bel_set ?_ (by simp) _ | with_reducible refine bel_setRow ?_ (by first | omega | (simp; done)) _))) (TROW.out _ (by repeat (first | with_reducible exact Below.refl _ _ | with_reducible refine bel_then ?_ _ | with_reducible refine bel_grow ?_ _ | with_reducible refine bel_alloc ?_ _ | with_reducible refine bel_drew ?_ | with_reducible refine bel_set ?_ (by simp) _ | with_reducible refine bel_setRow ?_ (by first | omega | (simp; done)) _))); have hB4 := fr_app (TR := TR) hbV.out hgl hgr4 (own_typed (OW.out More.none_)) (by decide) (Nat.le_refl _) HRV.out.blk (fun h => h) 21 (.slice A4 (sc.texs.length + 1) a4) (by repeat (first | with_reducible exact Below.refl _ _ | with_reducible refine bel_then ?_ _ | with_reducible refine bel_grow ?_ _ | with_reducible refine bel_alloc ?_ _ | with_reducible refine bel_drew ?_ | with_reducible refine bel_set ?_ (by simp) _ | with_reducible refine bel_setRow ?_ (by first | omega | (simp; done)) _)); have c4 : w4.cell? ⟨g, 21, none⟩ = some (val .texs) := B4.cell 21; have z4 := B4.frozen 21; replace R4 := Lib.hid R4; replace hB4 := Lib.hid hB4; clear hgr4 hown4 hat4))
        go_end0
        exact lineP_ok HS.out hB4.out R4.out
      · refine ⟨rfl, lineP_err 11 hgl (bel_trans hbV.out (by repeat (first | with_reducible exact Below.refl _ _ | with_reducible refine bel_then ?_ _ | with_reducible refine bel_grow ?_ _ | with_reducible refine bel_alloc ?_ _ | with_reducible refine bel_drew ?_ | with_reducible refine bel_set ?_ (by simp) _ | with_reducible refine bel_setRow ?_ (by first | omega | (simp; done)) _))) ?_⟩
        rw [inB_all (show [s0, s1].length = 2 from rfl)] at hw1
        rw [inB_all hL2.out] at hw2
        rw [placeI_neg] at hb12
        rw [HF2.out, if_neg (by omega), if_neg (by omega), if_neg (by simpa using hb12), hw1, hw2]; rfl
      · refine ⟨rfl, lineP_err 11 hgl (bel_trans hbV.out (by repeat (first | with_reducible exact Below.refl _ _ | with_reducible refine bel_then ?_ _ | with_reducible refine bel_grow ?_ _ | with_reducible refine bel_alloc ?_ _ | with_reducible refine bel_drew ?_ | with_reducible refine bel_set ?_ (by simp) _ | with_reducible refine bel_setRow ?_ (by first | omega | (simp; done)) _))) ?_⟩
        rw [inB_all (show [s0, s1].length = 2 from rfl)] at hw1
        rw [placeI_neg] at hb12
        rw [HF2.out, if_neg (by omega), if_neg (by omega), if_neg (by simpa using hb12), hw1]; rfl
      · refine ⟨rfl, lineP_err 12 hgl (bel_trans hbV.out (by repeat (first | with_reducible exact Below.refl _ _ | with_reducible refine bel_then ?_ _ | with_reducible refine bel_grow ?_ _ | with_reducible refine bel_alloc ?_ _ | with_reducible refine bel_drew ?_ | with_reducible refine bel_set ?_ (by simp) _ | with_reducible refine bel_setRow ?_ (by first | omega | (simp; done)) _))) ?_⟩
        rw [placeI_neg] at hb12
        rw [HF2.out, if_neg (by omega), if_neg (by omega), if_pos (by simpa using hb12)]
    · refine ⟨rfl, lineP_err 13 hgl (bel_trans hbV.out (by repeat (first | with_reducible exact Below.refl _ _ | with_reducible refine bel_then ?_ _ | with_reducible refine bel_grow ?_ _ | with_reducible refine bel_alloc ?_ _ | with_reducible refine bel_drew ?_ | with_reducible refine bel_set ?_ (by simp) _ | with_reducible refine bel_setRow ?_ (by first | omega | (simp; done)) _))) ?_⟩
      simp at hb10 hb13
      rw [HF2.out, if_neg (by omega), if_pos (by omega)]
    · refine ⟨rfl, lineP_err 10 hgl (bel_trans hbV.out (by repeat (first | with_reducible exact Below.refl _ _ | with_reducible refine bel_then ?_ _ | with_reducible refine bel_grow ?_ _ | with_reducible refine bel_alloc ?_ _ | with_reducible refine bel_drew ?_ | with_reducible refine bel_set ?_ (by simp) _ | with_reducible refine bel_setRow ?_ (by first | omega | (simp; done)) _))) ?_⟩
      simp at hb10
      rw [HF2.out, if_pos (by omega)]
  · refine ⟨rfl, lineP_err 10 hgl (bel_trans hbV1.out (by repeat (first | with_reducible exact Below.refl _ _ | with_reducible refine bel_then ?_ _ | with_reducible refine bel_grow ?_ _ | with_reducible refine bel_alloc ?_ _ | with_reducible refine bel_drew ?_ | with_reducible refine bel_set ?_ (by simp) _ | with_reducible refine bel_setRow ?_ (by first | omega | (simp; done)) _))) ?_⟩
    rw [HF.out]
    split
    · rfl
    · rw [show w1 :: w2 :: ws = [w1, w2] ++ ws from rfl, numsF_app, hN1, hN2]
  · refine ⟨rfl, lineP_err 10 hgl (by repeat (first | with_reducible exact Below.refl _ _ | with_reducible refine bel_then ?_ _ | with_reducible refine bel_grow ?_ _ | with_reducible refine bel_alloc ?_ _ | with_reducible refine bel_drew ?_ | with_reducible refine bel_set ?_ (by simp) _ | with_reducible refine bel_setRow ?_ (by first | omega | (simp; done)) _)) ?_⟩
    rw [HF.out]
    split
    · rfl
    · rw [show w1 :: w2 :: ws = [w1, w2] ++ ws from rfl, numsF_app, hN1]
  · refine ⟨rfl, lineP_err 10 hgl (by repeat (first | with_reducible exact Below.refl _ _ | with_reducible refine bel_then ?_ _ | with_reducible refine bel_grow ?_ _ | with_reducible refine bel_alloc ?_ _ | with_reducible refine bel_drew ?_ | with_reducible refine bel_set ?_ (by simp) _ | with_reducible refine bel_setRow ?_ (by first | omega | (simp; done)) _)) ?_⟩
    rw [HF.out, if_pos (.inr hb10)]

theorem ptexture (W : World) (g n c : Nat) (A : Option Addr) (TR : TypeId) (sc : Scn) (val : Key → Value) (wl : List Wd) (hn : wl.length = n) (hl : n ≤ 65537) (hc : n ≤ c) (hA : SFW W A wl) (hR : RepV g W g TR sc val) :
    Calls Tryz.prog 82 #[.pointer (some ⟨g, 0, none⟩), .slice A n c] W fun e W' => lineP g TR W (texF sc wl) e W' := by
  match wl, hn, hA with
  | [], hn, hA => exact ptexture_short W g n c A TR sc val [] hn (by simp at hn; omega) hR
  | [x], hn, hA => exact ptexture_short W g n c A TR sc val [x] hn (by simp at hn; omega) hR
  | [x, y], hn, hA => exact ptexture_short W g n c A TR sc val [x, y] hn (by simp at hn; omega) hR
  | name :: w1 :: w2 :: ws, hn, hA =>
    obtain ⟨b, off, rfl, _, _⟩ := hA (by simp)
    by_cases q : c = 3
    · exact ptexture_a W g n ws.length c b off TR sc val name w1 w2 ws rfl (by simp at hn; omega) hl hc q hA hR
    · exact ptexture_b W g n ws.length c b off TR sc val name w1 w2 ws rfl (by simp at hn; omega) hl hc q hA hR
end Go.Proofs.YtdkgbdecmgligaaGreatDoor
