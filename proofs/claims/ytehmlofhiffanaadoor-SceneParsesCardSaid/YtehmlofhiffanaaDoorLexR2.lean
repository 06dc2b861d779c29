/- The document's own Lines. -/
import Derived.Test.YtehmlofhiffanaaDoorLexR1
namespace Go.Proofs.YtehmlofhiffanaaDoor
open Go.RowKit
set_option linter.unusedVariables false
set_option linter.unusedSimpArgs false
theorem infoS : (Tryd.prog.info? 9).map (fun i => (i.zero, i.size, i.bytes)) = some (some (.string ByteArray.empty), 1, 16) := by kernel_rfl
theorem rLines_long (s : ByteArray) (h : 65536 < s.size) : Gives Tryd.prog 13 #[.string s] (.tuple #[.slice none 0 0, .int .i64 0, .int .i64 13]) := by
  refine Gives.mk fun w => ?_
  go_enter Tryd.func13, Tryd.ntmps13
  go_wp2
  refine bodyPost_ret (v := .tuple #[.slice none 0 0, .int .i64 0, .int .i64 13]) (by simp [results, Tryd.results13, go_sem]) rfl ⟨rfl, (by repeat (first | with_reducible exact Below.refl _ _ | with_reducible refine bel_then ?_ _ | with_reducible refine bel_grow ?_ _ | with_reducible refine bel_alloc ?_ _ | with_reducible refine bel_drew ?_ | with_reducible refine bel_set ?_ (by simp) _ | with_reducible refine bel_setRow ?_ (by first | omega | (simp; done)) _))⟩
def runPost (w : World) (L : List Nat) (e : Ending) (w' : World) : Prop := Below w.heap.size w w' ∧ match runL st0 L with
  | .error n => e = .returned (.tuple #[.slice none 0 0, .int .i64 (n : Int), .int .i64 10])
  | .ok t => ∃ v ls, e = .returned (.tuple #[v, .int .i64 0, .int .i64 0]) ∧ LNS w' w.heap.size v ls ∧ outOf ls = t.out
theorem conv_wd (a : Act) (op : Oper) (x : Operand) (w : World) (ho : op.op = .convert 74 9 x) (g n cap : Nat) (wd : List UInt8) (hx : a.eval x = .slice (some ⟨g, 0, none⟩) n cap) (hl : wd.length = n) (hc : ∀ k (hk : k < (nb wd).length), w.cell? ⟨g, k, none⟩ = some (.int .u8 ((nb wd)[k] : Int))) :
    (execOp a.eval op).run Tryd.prog w = .ok (.value (.string ⟨wd.toArray⟩)) w := by
  have k := conv_text a op x w ho g n cap (nb wd) hx (by unfold nb; simpa using hl) hc
  rw [textOf_nb] at k
  exact k
theorem RR_start (w : World) : RR w (((w.alloc (.cells #[] 54)).alloc (.cells #[] 9)).alloc (.cells #[] 5)) (.slice (some ⟨w.heap.size, 0, none⟩) 0 0) (.slice (some ⟨w.heap.size + 1, 0, none⟩) 0 0) (.slice (some ⟨w.heap.size + 2, 0, none⟩) 0 0) [] [] [] w.heap.size := by
  have h1 := World.ownsRow_made (base := w.heap.size) (e := 54) (size := 2) w #[] 0 (Nat.le_refl _) (by unfold maxLen; omega) rfl
  have h2 := World.ownsRow_made (base := w.heap.size) (e := 9) (size := 1) (w.alloc (.cells #[] 54)) #[] 0 (by simp) (by unfold maxLen; omega) rfl
  have h3 := World.ownsRow_made (base := w.heap.size) (e := 5) (size := 1) ((w.alloc (.cells #[] 54)).alloc (.cells #[] 9)) #[] 0 (by simp; omega) (by unfold maxLen; omega) rfl
  simp only [World.size_alloc] at h2 h3
  exact ⟨⟨(h1.alloc _).alloc _, (fun q hq => by cases hq)⟩, (fun q hq => by cases hq), h2.alloc _, h3, Nat.le_refl _, by simp; omega, bel_alloc (bel_alloc (bel_alloc (Below.refl _ _) _) _) _⟩
set_option maxRecDepth 100000 in
set_option maxHeartbeats 4000000 in
theorem rLines_any (w : World) (s : ByteArray) (hs : s.size ≤ 65536) :
    Calls Tryd.prog 13 #[.string s] w fun e w' => runPost w (nb s.data.toList ++ [10]) e w' := by
  obtain ⟨i0, hi0, hz0, hz1, hz2⟩ := info_parts infoLn
  obtain ⟨j0, hj0, hy0, hy1, hy2⟩ := info_parts infoS
  obtain ⟨b0, hb0, hx0, hx1, hx2⟩ := info_parts info8
  obtain ⟨L, hL⟩ : ∃ L, nb s.data.toList ++ [10] = L := ⟨_, rfl⟩
  have hLn : L.length = s.size + 1 := by rw [← hL]; unfold nb; simp
  have hLb := Lib.hid (show ∀ k, k < s.size → ∃ x : UInt8, x.toNat = bt s k ∧ L.drop k = bt s k :: L.drop (k + 1) from fun k hk => by
    have e := T_bt s k (by rw [T_len]; exact hk)
    unfold T at e
    rw [List.getElem_map] at e
    refine ⟨_, e, ?_⟩
    rw [List.drop_eq_getElem_cons (by omega)]
    congr 1
    rw [← e]
    simp only [← hL]
    rw [List.getElem_append_left (by unfold nb; simpa using hk)]
    unfold nb
    simp)
  have hLe := Lib.hid (show L.drop s.size = [10] by
    rw [← hL, List.drop_append_of_le_length (by unfold nb; simp)]
    have : (nb s.data.toList).drop s.size = [] := List.drop_eq_nil_of_le (by unfold nb; simp)
    rw [this]; rfl)
  rw [hL]
  clear hL
  have RS := RR_start w
  replace RS := Lib.hid RS
  go_enter Tryd.func13, Tryd.ntmps13
  go_wp2
  go_loopw [5, 6, 7, 8, 9, 10] (fun v no vw vb rm i wr => ∃ (k : Nat) (ls : List Ln) (W : List (List UInt8)) (wd : List UInt8) (r : Bool) (B N : Nat), no = .int .i64 (N : Int) ∧ rm = .bool r ∧ i = .int .i64 (k : Int) ∧ k ≤ L.length ∧ RR w wr v vw vb ls W wd B ∧ N ≤ k + 1 ∧ W.length ≤ k ∧ wd.length ≤ k ∧ ls.length ≤ k ∧ Hid (runL st0 L = runL (stOf N W wd r ls) (L.drop k))) (fun _ _ _ _ _ i _ => L.length - (intOf i).toNat)
  case atStart => exact ⟨0, [], [], [], false, w.heap.size, 1, rfl, rfl, rfl, by omega, RS.out, by omega, by simp, by simp, by simp, Lib.hid rfl⟩
  case round =>
    clear RS
    obtain ⟨k, ls, W, wd, r, B, N, rfl, rfl, rfl, hk, R, hN, hW, hwd, hls, HO⟩ := hrel
    obtain ⟨A1, c1, rfl⟩ := own_form R.out.1
    obtain ⟨Aw, cw, rfl⟩ := own_form R.words
    obtain ⟨Ab, cb0, rfl⟩ := own_form R.word
    have k0 : (0 : Int) ≤ (k : Int) := by omega
    by_cases hlt : k < s.size
    · have k1 : (k : Int) ≤ (s.size : Int) := by omega
      have k2 : (k : Int) < (s.size : Int) := by omega
      obtain ⟨x, hxc, hd⟩ := hLb.out k hlt
      have e := bt_at s k hlt
      have lt := bt_lt s k
      have HB := Lib.hid (show badC (bt s k) = true → runL st0 L = .error N from fun q => by rw [HO.out, hd]; simp only [runL, q, if_true]; rfl)
      have HG := Lib.hid (show badC (bt s k) = false → runL st0 L = runL (step1 (stOf N W wd r ls) (bt s k)) (L.drop (k + 1)) from fun q => by rw [HO.out, hd]; simp only [runL, q, Bool.false_eq_true, if_false])
      clear hd HO
      generalize bt s k = c at *
      by_cases c10 : c = 10
      · subst c10
        have H3 := Lib.hid (HG.out rfl)
        clear HB HG
        by_cases hwe : wd = []
        · subst hwe
          by_cases hWe : W = []
          · subst hWe
            have H4 := Lib.hid (show runL st0 L = runL (stOf (N + 1) [] [] false ls) (L.drop (k + 1)) by rw [H3.out, step_end N [] [] r ls (.slice none 0 0)]; rfl)
            go_wp2
            go_roundw
            case rel => exact ⟨k + 1, ls, [], [], false, B, N + 1, by go_num, rfl, by go_num, by omega, R.nowords.noword, by omega, by simp, by simp, by omega, H4⟩
            case measure => simp [intOf] <;> omega
          · have hWz : 0 < W.length := List.length_pos_iff.2 hWe
            have hWz1 : (0 : Int) < (W.length : Int) := by omega
            have H4 := Lib.hid (show runL st0 L = runL (stOf (N + 1) [] [] false (ls ++ [⟨N, .slice Aw W.length cw, W⟩])) (L.drop (k + 1)) by rw [H3.out, step_end N W [] r ls (.slice Aw W.length cw)]; simp only [if_true, if_neg hWe])
            go_wp2_with (at_builtin; refine wpList_append_own _ rfl _ _ 49 rfl w.heap.size 54 i0 _ 2 32 Tryd.underlying49 hi0 hz0 hz1 hz2 rfl (by decide) _ _ _ rfl (R.out.1.alloc _) ⟨wr.heap.size, 0, none⟩ 1 1 [.int .i64 (N : Int), .slice Aw W.length cw] rfl rfl (cell_two_new _ _ _ _) (fun x hx => by simp at hx; rcases hx with rfl | rfl <;> rfl) (by unfold maxLen; omega) (by omega) (by have := R.bel.size; simp; omega) ?_; intro v'' w5 hown2 hgrow2 hnil2; have R5 := R.endl N (by omega) (by omega) (by omega) hown2 hgrow2; clear hown2 hgrow2 hnil2)
            go_roundw
            case rel => exact ⟨k + 1, ls ++ [⟨N, .slice Aw W.length cw, W⟩], [], [], false, _, N + 1, by go_num, rfl, by go_num, by omega, R5.noword, by omega, by simp, by simp, by simp; omega, H4⟩
            case measure => simp [intOf] <;> omega
        · have hwz : 0 < wd.length := List.length_pos_iff.2 hwe
          obtain ⟨gb, cb, hvb, _, _, _, _, hcb⟩ := own_bytes R.word (by unfold nb; simp) hwz
          injection hvb with hvb1 hvb2 hvb3
          subst hvb1 hvb3
          replace hcb := Lib.hid hcb
          have hwz1 : (0 : Int) < (wd.length : Int) := by omega
          obtain ⟨W4, hW4⟩ : ∃ W4, W ++ [wd] = W4 := ⟨_, rfl⟩
          have hWn : W4.length = W.length + 1 := by rw [← hW4]; simp
          have hWz1 : (0 : Int) < (W4.length : Int) := by omega
          have hWe : W4 ≠ [] := fun e => by rw [e] at hWn; simp at hWn
          have H3' := Lib.hid (show ∀ a, runL st0 L = runL (stOf (N + 1) [] [] false (ls ++ [⟨N, a, W4⟩])) (L.drop (k + 1)) from fun a => by rw [H3.out, step_end N W wd r ls a]; simp only [if_neg hwe, hW4, if_neg hWe])
          go_wp2_with (first | (refine wpList_val rfl _ _ (conv_wd _ _ _ _ rfl gb wd.length _ wd rfl rfl hcb.out) ?_) | (at_builtin; refine wpList_append_own _ rfl _ _ 52 rfl B 9 j0 _ 1 16 Tryd.underlying52 hj0 hy0 hy1 hy2 rfl (by decide) _ _ _ rfl (R.words.alloc _) ⟨wr.heap.size, 0, none⟩ 1 1 [.string ⟨wd.toArray⟩] rfl rfl (cell_one_new _ _ _) (fun x hx => by simp at hx; subst hx; rfl) (by unfold maxLen; omega) (by omega) (by have := R.b2; simp; omega) ?_; intro v' w4 hown' hgrow hnil; have R4 := R.endw hown' hgrow; obtain ⟨A4, c4, rfl⟩ := own_form R4.words; rw [hW4] at R4 ⊢; simp only [hWn] at R4 ⊢; clear hown' hgrow hnil) | (at_builtin; refine wpList_append_own _ rfl _ _ 49 rfl w.heap.size 54 i0 _ 2 32 Tryd.underlying49 hi0 hz0 hz1 hz2 rfl (by decide) _ _ _ rfl (R4.out.1.alloc _) ⟨w4.heap.size, 0, none⟩ 1 1 [.int .i64 (N : Int), .slice A4 (W.length + 1) c4] rfl rfl (cell_two_new _ _ _ _) (fun x hx => by simp at hx; rcases hx with rfl | rfl <;> rfl) (by unfold maxLen; omega) (by omega) (by have := R4.bel.size; simp; omega) ?_; intro v'' w5 hown2 hgrow2 hnil2; have R5 := R4.endl N (by omega) (by omega) (by omega) hown2 hgrow2; clear hown2 hgrow2 hnil2))
          go_roundw
          case rel => exact ⟨k + 1, ls ++ [⟨N, .slice A4 (W.length + 1) c4, W4⟩], [], [], false, _, N + 1, by go_num, rfl, by go_num, by omega, R5, by omega, by simp, by simp, by simp; omega, Lib.hid (H3'.out _)⟩
          case measure => simp [intOf] <;> omega
      · have n10 : ((c : Int) == 10) = false := by simp; omega
        by_cases c35 : c = 35
        · subst c35
          have H3 := Lib.hid (HG.out rfl)
          clear HB HG
          obtain ⟨c, hc⟩ : ∃ c : Nat, c = 35 := ⟨_, rfl⟩
          rw [← hc] at H3
          have H4 := Lib.hid (show runL st0 L = runL (stOf N (if wd = [] then W else W ++ [wd]) [] true ls) (L.drop (k + 1)) by rw [H3.out, step_blank N W wd r ls c (by omega) (.inr (.inl hc)), hc]; simp)
          by_cases hwe : wd = []
          · subst hwe
            rw [if_pos rfl] at H4
            go_wp2
            go_roundw
            case rel => exact ⟨k + 1, ls, W, [], true, B, N, by go_num, rfl, by go_num, by omega, R.noword, by omega, by omega, by simp, by omega, H4⟩
            case measure => simp [intOf] <;> omega
          · have hwz : 0 < wd.length := List.length_pos_iff.2 hwe
            rw [if_neg hwe] at H4
            obtain ⟨gb, cb, hvb, _, _, _, _, hcb⟩ := own_bytes R.word (by unfold nb; simp) hwz
            injection hvb with hvb1 hvb2 hvb3
            subst hvb1 hvb3
            replace hcb := Lib.hid hcb
            have hwz1 : (0 : Int) < (wd.length : Int) := by omega
            obtain ⟨W4, hW4⟩ : ∃ W4, W ++ [wd] = W4 := ⟨_, rfl⟩
            have hWn : W4.length = W.length + 1 := by rw [← hW4]; simp
            rw [hW4] at H4
            go_wp2_with (first | (refine wpList_val rfl _ _ (conv_wd _ _ _ _ rfl gb wd.length _ wd rfl rfl hcb.out) ?_) | (at_builtin; refine wpList_append_own _ rfl _ _ 52 rfl B 9 j0 _ 1 16 Tryd.underlying52 hj0 hy0 hy1 hy2 rfl (by decide) _ _ _ rfl (R.words.alloc _) ⟨wr.heap.size, 0, none⟩ 1 1 [.string ⟨wd.toArray⟩] rfl rfl (cell_one_new _ _ _) (fun x hx => by simp at hx; subst hx; rfl) (by unfold maxLen; omega) (by omega) (by have := R.b2; simp; omega) ?_; intro v' w4 hown' hgrow hnil; have R4 := R.endw hown' hgrow; obtain ⟨A4, c4, rfl⟩ := own_form R4.words; rw [hW4] at R4 ⊢; simp only [hWn] at R4 ⊢; clear hown' hgrow hnil))
            go_roundw
            case rel => exact ⟨k + 1, ls, W4, [], true, B, N, by go_num, rfl, by go_num, by omega, R4, by omega, by omega, by simp, by omega, H4⟩
            case measure => simp [intOf] <;> omega
        · have n35 : ((c : Int) == 35) = false := by simp; omega
          by_cases c32 : c = 32
          · subst c32
            have H3 := Lib.hid (HG.out rfl)
            clear HB HG
            obtain ⟨c, hc⟩ : ∃ c : Nat, c = 32 := ⟨_, rfl⟩
            rw [← hc] at H3
            have H4 := Lib.hid (show runL st0 L = runL (stOf N (if wd = [] then W else W ++ [wd]) [] r ls) (L.drop (k + 1)) by rw [H3.out, step_blank N W wd r ls c (by omega) (.inl hc), hc]; simp)
            by_cases hwe : wd = []
            · subst hwe
              rw [if_pos rfl] at H4
              go_wp2
              go_roundw
              case rel => exact ⟨k + 1, ls, W, [], r, B, N, by go_num, rfl, by go_num, by omega, R.noword, by omega, by omega, by simp, by omega, H4⟩
              case measure => simp [intOf] <;> omega
            · have hwz : 0 < wd.length := List.length_pos_iff.2 hwe
              rw [if_neg hwe] at H4
              obtain ⟨gb, cb, hvb, _, _, _, _, hcb⟩ := own_bytes R.word (by unfold nb; simp) hwz
              injection hvb with hvb1 hvb2 hvb3
              subst hvb1 hvb3
              replace hcb := Lib.hid hcb
              have hwz1 : (0 : Int) < (wd.length : Int) := by omega
              obtain ⟨W4, hW4⟩ : ∃ W4, W ++ [wd] = W4 := ⟨_, rfl⟩
              have hWn : W4.length = W.length + 1 := by rw [← hW4]; simp
              rw [hW4] at H4
              go_wp2_with (first | (refine wpList_val rfl _ _ (conv_wd _ _ _ _ rfl gb wd.length _ wd rfl rfl hcb.out) ?_) | (at_builtin; refine wpList_append_own _ rfl _ _ 52 rfl B 9 j0 _ 1 16 Tryd.underlying52 hj0 hy0 hy1 hy2 rfl (by decide) _ _ _ rfl (R.words.alloc _) ⟨wr.heap.size, 0, none⟩ 1 1 [.string ⟨wd.toArray⟩] rfl rfl (cell_one_new _ _ _) (fun x hx => by simp at hx; subst hx; rfl) (by unfold maxLen; omega) (by omega) (by have := R.b2; simp; omega) ?_; intro v' w4 hown' hgrow hnil; have R4 := R.endw hown' hgrow; obtain ⟨A4, c4, rfl⟩ := own_form R4.words; rw [hW4] at R4 ⊢; simp only [hWn] at R4 ⊢; clear hown' hgrow hnil))
              go_roundw
              case rel => exact ⟨k + 1, ls, W4, [], r, B, N, by go_num, rfl, by go_num, by omega, R4, by omega, by omega, by simp, by omega, H4⟩
              case measure => simp [intOf] <;> omega
          · have n32 : ((c : Int) == 32) = false := by simp; omega
            by_cases cb_ : 32 ≤ c ∧ c ≤ 126
            · have hg := badC_plain cb_
              have H3 := Lib.hid (HG.out hg)
              clear HB HG hg
              have lo : (32 : Int) ≤ (c : Int) := by omega
              have hi : (c : Int) ≤ 126 := by omega
              cases r
              · have H4 := Lib.hid (show runL st0 L = runL (stOf N W (wd ++ [x]) false ls) (L.drop (k + 1)) by rw [H3.out, ← hxc, step_byte N W wd ls x (by omega) (by omega) (by omega)])
                clear H3
                go_wp2_with (at_builtin; refine wpList_append_own _ rfl _ _ 74 rfl w.heap.size 5 b0 _ 1 1 Tryd.underlying74 hb0 hx0 hx1 hx2 rfl (by decide) _ _ _ rfl (R.word.alloc _) ⟨wr.heap.size, 0, none⟩ 1 1 [.int .u8 (c : Int)] rfl rfl (cell_one_new _ _ _) (fun x hx => by simp at hx; subst hx; rfl) (by unfold maxLen; omega) (by omega) (by have := R.bel.size; simp; omega) ?_; intro v' w4 hown' hgrow hnil; have R4 := R.byte x c hxc hown' hgrow; clear hown' hgrow hnil)
                go_roundw
                case rel => exact ⟨k + 1, ls, W, wd ++ [x], false, B, N, by go_num, rfl, by go_num, by omega, R4, by omega, by omega, by first | omega | (simp; omega), by omega, H4⟩
                case measure => simp [intOf] <;> omega
              · skip
                have H4 := Lib.hid (show runL st0 L = runL (stOf N (if wd = [] then W else W ++ [wd]) [] true ls) (L.drop (k + 1)) by rw [H3.out, step_blank N W wd true ls c (by omega) (.inr (.inr rfl))]; rfl)
                by_cases hwe : wd = []
                · subst hwe
                  rw [if_pos rfl] at H4
                  go_wp2
                  go_roundw
                  case rel => exact ⟨k + 1, ls, W, [], true, B, N, by go_num, rfl, by go_num, by omega, R.noword, by omega, by omega, by simp, by omega, H4⟩
                  case measure => simp [intOf] <;> omega
                · have hwz : 0 < wd.length := List.length_pos_iff.2 hwe
                  rw [if_neg hwe] at H4
                  obtain ⟨gb, cb, hvb, _, _, _, _, hcb⟩ := own_bytes R.word (by unfold nb; simp) hwz
                  injection hvb with hvb1 hvb2 hvb3
                  subst hvb1 hvb3
                  replace hcb := Lib.hid hcb
                  have hwz1 : (0 : Int) < (wd.length : Int) := by omega
                  obtain ⟨W4, hW4⟩ : ∃ W4, W ++ [wd] = W4 := ⟨_, rfl⟩
                  have hWn : W4.length = W.length + 1 := by rw [← hW4]; simp
                  rw [hW4] at H4
                  go_wp2_with (first | (refine wpList_val rfl _ _ (conv_wd _ _ _ _ rfl gb wd.length _ wd rfl rfl hcb.out) ?_) | (at_builtin; refine wpList_append_own _ rfl _ _ 52 rfl B 9 j0 _ 1 16 Tryd.underlying52 hj0 hy0 hy1 hy2 rfl (by decide) _ _ _ rfl (R.words.alloc _) ⟨wr.heap.size, 0, none⟩ 1 1 [.string ⟨wd.toArray⟩] rfl rfl (cell_one_new _ _ _) (fun x hx => by simp at hx; subst hx; rfl) (by unfold maxLen; omega) (by omega) (by have := R.b2; simp; omega) ?_; intro v' w4 hown' hgrow hnil; have R4 := R.endw hown' hgrow; obtain ⟨A4, c4, rfl⟩ := own_form R4.words; rw [hW4] at R4 ⊢; simp only [hWn] at R4 ⊢; clear hown' hgrow hnil))
                  go_roundw
                  case rel => exact ⟨k + 1, ls, W4, [], true, B, N, by go_num, rfl, by go_num, by omega, R4, by omega, by omega, by simp, by omega, H4⟩
                  case measure => simp [intOf] <;> omega
            · have HE := Lib.hid (HB.out (by unfold badC; simp; omega))
              clear HB HG
              rcases (by omega : c < 32 ∨ 126 < c) with q | q
              · have q1 : (c : Int) < 32 := by omega
                go_wp2
                refine bodyPost_ret (v := .tuple #[.slice none 0 0, .int .i64 (N : Int), .int .i64 10]) (by simp [results, Tryd.results13, go_sem]) rfl ?_
                unfold runPost
                rw [HE.out]
                exact ⟨R.bel, rfl⟩
              · have q1 : (126 : Int) < (c : Int) := by omega
                have q2 : (32 : Int) ≤ (c : Int) := by omega
                go_wp2
                refine bodyPost_ret (v := .tuple #[.slice none 0 0, .int .i64 (N : Int), .int .i64 10]) (by simp [results, Tryd.results13, go_sem]) rfl ?_
                unfold runPost
                rw [HE.out]
                exact ⟨R.bel, rfl⟩
    · by_cases hke : k = s.size
      · have H3 := Lib.hid (show runL st0 L = runL (step1 (stOf N W wd r ls) 10) (L.drop (k + 1)) by
          rw [HO.out, hke, hLe.out, List.drop_eq_nil_of_le (by omega)]; rfl)
        clear HO
        have k1 : (k : Int) ≤ (s.size : Int) := by omega
        have k2 : (s.size : Int) ≤ (k : Int) := by omega
        by_cases hwe : wd = []
        · subst hwe
          by_cases hWe : W = []
          · subst hWe
            have H4 := Lib.hid (show runL st0 L = runL (stOf (N + 1) [] [] false ls) (L.drop (k + 1)) by rw [H3.out, step_end N [] [] r ls (.slice none 0 0)]; rfl)
            go_wp2
            go_roundw
            case rel => exact ⟨k + 1, ls, [], [], false, B, N + 1, by go_num, rfl, by go_num, by omega, R.nowords.noword, by omega, by simp, by simp, by omega, H4⟩
            case measure => simp [intOf] <;> omega
          · have hWz : 0 < W.length := List.length_pos_iff.2 hWe
            have hWz1 : (0 : Int) < (W.length : Int) := by omega
            have H4 := Lib.hid (show runL st0 L = runL (stOf (N + 1) [] [] false (ls ++ [⟨N, .slice Aw W.length cw, W⟩])) (L.drop (k + 1)) by rw [H3.out, step_end N W [] r ls (.slice Aw W.length cw)]; simp only [if_true, if_neg hWe])
            go_wp2_with (at_builtin; refine wpList_append_own _ rfl _ _ 49 rfl w.heap.size 54 i0 _ 2 32 Tryd.underlying49 hi0 hz0 hz1 hz2 rfl (by decide) _ _ _ rfl (R.out.1.alloc _) ⟨wr.heap.size, 0, none⟩ 1 1 [.int .i64 (N : Int), .slice Aw W.length cw] rfl rfl (cell_two_new _ _ _ _) (fun x hx => by simp at hx; rcases hx with rfl | rfl <;> rfl) (by unfold maxLen; omega) (by omega) (by have := R.bel.size; simp; omega) ?_; intro v'' w5 hown2 hgrow2 hnil2; have R5 := R.endl N (by omega) (by omega) (by omega) hown2 hgrow2; clear hown2 hgrow2 hnil2)
            go_roundw
            case rel => exact ⟨k + 1, ls ++ [⟨N, .slice Aw W.length cw, W⟩], [], [], false, _, N + 1, by go_num, rfl, by go_num, by omega, R5.noword, by omega, by simp, by simp, by simp; omega, H4⟩
            case measure => simp [intOf] <;> omega
        · have hwz : 0 < wd.length := List.length_pos_iff.2 hwe
          obtain ⟨gb, cb, hvb, _, _, _, _, hcb⟩ := own_bytes R.word (by unfold nb; simp) hwz
          injection hvb with hvb1 hvb2 hvb3
          subst hvb1 hvb3
          replace hcb := Lib.hid hcb
          have hwz1 : (0 : Int) < (wd.length : Int) := by omega
          obtain ⟨W4, hW4⟩ : ∃ W4, W ++ [wd] = W4 := ⟨_, rfl⟩
          have hWn : W4.length = W.length + 1 := by rw [← hW4]; simp
          have hWz1 : (0 : Int) < (W4.length : Int) := by omega
          have hWe : W4 ≠ [] := fun e => by rw [e] at hWn; simp at hWn
          have H3' := Lib.hid (show ∀ a, runL st0 L = runL (stOf (N + 1) [] [] false (ls ++ [⟨N, a, W4⟩])) (L.drop (k + 1)) from fun a => by rw [H3.out, step_end N W wd r ls a]; simp only [if_neg hwe, hW4, if_neg hWe])
          go_wp2_with (first | (refine wpList_val rfl _ _ (conv_wd _ _ _ _ rfl gb wd.length _ wd rfl rfl hcb.out) ?_) | (at_builtin; refine wpList_append_own _ rfl _ _ 52 rfl B 9 j0 _ 1 16 Tryd.underlying52 hj0 hy0 hy1 hy2 rfl (by decide) _ _ _ rfl (R.words.alloc _) ⟨wr.heap.size, 0, none⟩ 1 1 [.string ⟨wd.toArray⟩] rfl rfl (cell_one_new _ _ _) (fun x hx => by simp at hx; subst hx; rfl) (by unfold maxLen; omega) (by omega) (by have := R.b2; simp; omega) ?_; intro v' w4 hown' hgrow hnil; have R4 := R.endw hown' hgrow; obtain ⟨A4, c4, rfl⟩ := own_form R4.words; rw [hW4] at R4 ⊢; simp only [hWn] at R4 ⊢; clear hown' hgrow hnil) | (at_builtin; refine wpList_append_own _ rfl _ _ 49 rfl w.heap.size 54 i0 _ 2 32 Tryd.underlying49 hi0 hz0 hz1 hz2 rfl (by decide) _ _ _ rfl (R4.out.1.alloc _) ⟨w4.heap.size, 0, none⟩ 1 1 [.int .i64 (N : Int), .slice A4 (W.length + 1) c4] rfl rfl (cell_two_new _ _ _ _) (fun x hx => by simp at hx; rcases hx with rfl | rfl <;> rfl) (by unfold maxLen; omega) (by omega) (by have := R4.bel.size; simp; omega) ?_; intro v'' w5 hown2 hgrow2 hnil2; have R5 := R4.endl N (by omega) (by omega) (by omega) hown2 hgrow2; clear hown2 hgrow2 hnil2))
          go_roundw
          case rel => exact ⟨k + 1, ls ++ [⟨N, .slice A4 (W.length + 1) c4, W4⟩], [], [], false, _, N + 1, by go_num, rfl, by go_num, by omega, R5, by omega, by simp, by simp, by simp; omega, Lib.hid (H3'.out _)⟩
          case measure => simp [intOf] <;> omega
      · obtain rfl : k = s.size + 1 := by omega
        have HF := Lib.hid (show runL st0 L = .ok (stOf N W wd r ls) by rw [HO.out, List.drop_eq_nil_of_le (by omega)]; rfl)
        clear HO
        go_wp2
        refine bodyPost_ret (v := .tuple #[.slice A1 ls.length c1, .int .i64 0, .int .i64 0]) (by simp [results, Tryd.results13, go_sem]) rfl ?_
        unfold runPost
        rw [HF.out]
        exact ⟨R.bel, _, ls, rfl, R.out, rfl⟩
end Go.Proofs.YtehmlofhiffanaaDoor
