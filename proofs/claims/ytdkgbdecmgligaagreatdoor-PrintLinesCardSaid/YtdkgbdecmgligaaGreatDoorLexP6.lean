/- The program's own Lines. -/
import Derived.Test.YtdkgbdecmgligaaGreatDoorMLexQ
namespace Go.Proofs.YtdkgbdecmgligaaGreatDoor
open Go.RowKit
set_option linter.unusedVariables false
set_option linter.unusedSimpArgs false
theorem lLines_long (s : ByteArray) (h : 65536 < s.size) : Gives Tryz.prog 19 #[.string s] (.tuple #[.slice none 0 0, .int .i64 0, .int .i64 13]) := by
  refine Gives.mk fun w => ?_
  go_enter Tryz.func19, Tryz.ntmps19
  go_wp2
  refine bodyPost_ret (v := .tuple #[.slice none 0 0, .int .i64 0, .int .i64 13]) (by simp [results, Tryz.results19, go_sem]) rfl ⟨rfl, (by repeat (first | with_reducible exact Below.refl _ _ | with_reducible refine bel_then ?_ _ | with_reducible refine bel_grow ?_ _ | with_reducible refine bel_alloc ?_ _ | with_reducible refine bel_drew ?_ | with_reducible refine bel_set ?_ (by simp) _ | with_reducible refine bel_setRow ?_ (by first | omega | (simp; done)) _))⟩
theorem linesP_cons (n : Nat) (O : List (Nat × List (List Nat))) (p : List UInt8) (ps : List (List UInt8)) : linesP n O (p :: ps) = if plainL p then linesP (n + 1) (lineO n O p) ps else .error n := rfl
def linesPost (w : World) (P : List (List UInt8)) (e : Ending) (w' : World) : Prop := Below w.heap.size w w' ∧ match linesP 1 [] P with
  | .error n => e = .returned (.tuple #[.slice none 0 0, .int .i64 (n : Int), .int .i64 10])
  | .ok o => ∃ v ls, e = .returned (.tuple #[v, .int .i64 0, .int .i64 0]) ∧ LNS w' w.heap.size v ls ∧ outOf ls = o
set_option maxRecDepth 100000 in
set_option maxHeartbeats 2000000 in
theorem lLines_any (w : World) (s : ByteArray) (hs : s.size ≤ 65536) (ht : Tabs w) :
    Calls Tryz.prog 19 #[.string s] w fun e w' => linesPost w (spl s.data.toList) e w' := by
  obtain ⟨i0, hi0, hz0, hz1, hz2⟩ := info_parts infoLn
  obtain ⟨P, hP⟩ : ∃ P, P = spl s.data.toList := ⟨_, rfl⟩
  have hPn : P.length ≤ 65537 := by
    have := spl_len s.data.toList
    rw [hP]; simp at this; omega
  have hPx : ∀ p ∈ P, p.length ≤ 65536 := fun p hp => by
    have := spl_le s.data.toList p (hP ▸ hp)
    simp at this; omega
  have cS : Calls Tryz.prog 52 #[.string s, .string ⟨#[10]⟩] w fun e w' => e = .returned (.slice (some ⟨w.heap.size, 0, none⟩) P.length P.length) ∧ w' = w.alloc (.cells (strs P).toArray 9) := by
    obtain ⟨m, hm⟩ := ht.2.2.1
    obtain ⟨k1, k2⟩ := split10 s
    have k := Tryz.strings_Split s ⟨#[10]⟩ m w (by omega) hm (by decide)
    rw [k1, k2, ← hP] at k
    exact k
  rw [← hP]
  have own0 : (w.alloc (.cells (strs P).toArray 9)).ownsRow w.heap.size 9 1 (.slice (some ⟨w.heap.size, 0, none⟩) P.length P.length) P.length (strs P) := by
    have k := World.ownsRow_lit (base := w.heap.size) (e := 9) (size := 1) w (strs P).toArray P.length (Nat.le_refl _) (by unfold maxLen; omega) (by simp [strs_len])
    simpa using k
  have hbw0 : Below w.heap.size w (w.alloc (.cells (strs P).toArray 9)) := bel_alloc (Below.refl _ _) _
  replace hPx := Lib.hid hPx
  clear hP
  go_enter Tryz.func19, Tryz.ntmps19
  go_wp2_with (go_at_call 52; refine cS.mono ?_; rintro e w1 ⟨rfl, hw1⟩; rw [hw1]; clear hw1 w1)
  clear cS
  have ht0 := ht.below hbw0
  obtain ⟨w0, hw0⟩ : ∃ w0, w0 = w.alloc (.cells (strs P).toArray 9) := ⟨_, rfl⟩
  rw [← hw0] at own0 hbw0 ht0
  have hg0 : w.heap.size < w0.heap.size := (own0.lt _ rfl).2
  go_loopw [15, 5] (fun i v wr => ∃ (k : Nat) (ls : List Ln), i = .int .i64 k ∧ k ≤ P.length ∧ LNS wr w0.heap.size v ls ∧ ls.length ≤ k ∧ Below w0.heap.size w0 wr ∧ Hid (linesP 1 [] P = linesP (k + 1) (outOf ls) (P.drop k))) (fun i _ _ => P.length - (intOf i).toNat)
  case atStart => exact ⟨0, [], rfl, by omega, LNS_nil _ _, by simp, by rw [hw0]; exact Below.refl _ _, Lib.hid rfl⟩
  case round =>
    obtain ⟨k, ls, rfl, hk, hL, hlk, hbw, HO⟩ := hrel
    by_cases hlt : k < P.length
    · have hown1 := own_below own0 hbw
      have hc := hown1.cellAt k (by omega)
      rw [strs_get P k hlt] at hc
      have hgl := (hown1.lt _ rfl).2
      have hx := hPx.out _ (List.getElem_mem hlt)
      have HO2 := Lib.hid (show linesP 1 [] P = linesP (k + 1) (outOf ls) (P[k] :: P.drop (k + 1)) by rw [HO.out, List.drop_eq_getElem_cons hlt])
      have ht1 := ht0.below hbw
      have k0 : (0 : Int) ≤ (k : Int) := by omega
      have k1 : (k : Int) < (P.length : Int) := by omega
      clear HO hown1
      generalize P[k] = X at *
      have hXs : (⟨X.toArray⟩ : ByteArray).size = X.length := by simp [ByteArray.size]
      have cP := plain_any ⟨X.toArray⟩ (by omega)
      rw [plain_dec] at cP
      have eX : (⟨X.toArray⟩ : ByteArray).data.toList = X := by simp
      rw [eX] at cP
      by_cases q : plainL X
      · rw [decide_eq_true q] at cP
        have cW : ∀ x : More, Calls Tryz.prog 54 #[.string ⟨X.toArray⟩] (grow wr x) fun e w' => ∃ v, e = .returned v ∧ Below (grow wr x).heap.size (grow wr x) w' ∧ w'.ownsRow (grow wr x).heap.size 9 1 v (wordsOf X).length (strs (wordsOf X)) := fun x => by
          have k := split_any (grow wr x) ⟨X.toArray⟩ (by omega) (by rw [eX]; exact q) (ht1.below (x.kept wr))
          rw [eX] at k
          exact k
        have hWn : (wordsOf X).length ≤ 65536 := Nat.le_trans (words_of_plain X) hx
        have HO3 := Lib.hid (show linesP 1 [] P = linesP (k + 2) (lineO (k + 1) (outOf ls) X) (P.drop (k + 1)) by
          have e := HO2.out
          rw [linesP_cons, if_pos q] at e
          exact e)
        have hbwr : Below w0.heap.size w0 wr := hbw
        have SPL : ∀ (x3 : More) (w2 : World) (v2 : Value) (L : List (List UInt8)), Below (grow wr x3).heap.size (grow wr x3) w2 → w2.ownsRow (grow wr x3).heap.size 9 1 v2 L.length (strs L) → LNS w2 w0.heap.size u5 ls ∧ Below w0.heap.size w0 w2 ∧ w2.ownsRow w0.heap.size 9 1 v2 L.length (strs L) := fun x3 w2 v2 L hb ho => by
          have h1 := (x3.kept wr).size
          have h0 := hbwr.size
          refine ⟨(hL.below (x3.kept wr)).below hb, (bel_grow hbwr x3).trans (hb.mono ?_), own_mono ho ?_⟩
          · exact Nat.le_trans h0 h1
          · exact Nat.le_trans h0 h1
        replace SPL := Lib.hid SPL
        have HO3 := Lib.hid (show linesP 1 [] P = linesP (k + 2) (if wordsOf X = [] then outOf ls else outOf ls ++ [(k + 1, (wordsOf X).map nb)]) (P.drop (k + 1)) from HO3.out)
        generalize wordsOf X = L at *
        clear HO2 hL hbw own0 hw0 ht1
        rcases Nat.eq_zero_or_pos L.length with hz | hz
        · obtain rfl : L = [] := List.eq_nil_of_length_eq_zero hz
          have HO4 := Lib.hid (show linesP 1 [] P = linesP (k + 2) (outOf ls) (P.drop (k + 1)) by
            rw [HO3.out, if_pos rfl])
          clear HO3
          go_wp2_with (first
            | (go_at_call 53; refine (cP _).mono ?_; rintro e _ ⟨rfl, x3, rfl⟩)
            | (go_at_call 54; refine (cW x3).mono ?_; rintro e w2 ⟨v2, rfl, hb2, ho2⟩; obtain ⟨A2, c2, rfl⟩ := own_form ho2))
          obtain ⟨hL2, hbw2, hos2⟩ := SPL.out x3 w2 _ _ hb2 ho2
          go_roundw
          case rel => exact ⟨k + 1, ls, by go_num, by omega, hL2, by omega, hbw2, HO4⟩
          case measure => simp [intOf] <;> omega
        · have HO4 := Lib.hid (show linesP 1 [] P = linesP (k + 2) (outOf ls ++ [(k + 1, L.map nb)]) (P.drop (k + 1)) by
            rw [HO3.out, if_neg (by intro e; rw [e] at hz; simp at hz)])
          clear HO3
          have hz1' : (0 : Int) < (L.length : Int) := by omega
          go_wp2_with (first
            | (go_at_call 53; refine (cP _).mono ?_; rintro e _ ⟨rfl, x3, rfl⟩)
            | (go_at_call 54; refine (cW x3).mono ?_; rintro e w2 ⟨v2, rfl, hb2, ho2⟩; obtain ⟨A2, c2, rfl⟩ := own_form ho2; obtain ⟨hL2, hbw2, hos2⟩ := SPL.out x3 w2 _ _ hb2 ho2; clear hb2 ho2)
            | (at_builtin; refine wpList_append_own _ rfl _ _ 66 rfl w0.heap.size 73 i0 _ 2 32 Tryz.underlying66 hi0 hz0 hz1 hz2 rfl (by decide) _ _ _ rfl (hL2.1.alloc _) ⟨w2.heap.size, 0, none⟩ 1 1 [.int .i64 ((k : Int) + 1), .slice A2 L.length c2] rfl rfl (cell_two_new _ _ _ _) (fun x hx => by simp at hx; rcases hx with rfl | rfl <;> rfl) (by unfold maxLen; omega) (by omega) (by have := hbw2.size; simp; omega) ?_; intro v' w4 hown' hgrow hnil))
          have hws : WS (w2.alloc (.cells #[.int .i64 ((k : Int) + 1), .slice A2 L.length c2] 73)) w0.heap.size ⟨k + 1, .slice A2 L.length c2, L⟩ := ⟨hz, by simp only; omega, trivial, hos2.alloc _⟩
          have hL4 : LNS w4 w0.heap.size v' (ls ++ [⟨k + 1, .slice A2 L.length c2, L⟩]) := by
            refine LNS.grown (hL2.below (bel_alloc (Below.refl _ _) _)) (fun q hq => ?_) hgrow ?_
            · rw [List.mem_singleton] at hq; subst hq; exact hws
            · rw [lnC_app]
              have e : lnC [⟨k + 1, .slice A2 L.length c2, L⟩] = [.int .i64 ((k : Int) + 1), .slice A2 L.length c2] := by unfold lnC; simp
              rw [e]
              simpa using hown'
          have hbw4 : Below w0.heap.size w0 w4 := (bel_alloc hbw2 _).grown hgrow (by have := hbw2.size; simp; omega) (fun k hk => (hL2.1.lt k hk).1)
          have HO5 := Lib.hid (show linesP 1 [] P = linesP (k + 2) (outOf (ls ++ [⟨k + 1, .slice A2 L.length c2, L⟩])) (P.drop (k + 1)) by
            rw [outOf_app]; exact HO4.out)
          clear hown' hgrow hnil hL2 hbw2 hos2 hws HO4
          go_roundw
          case rel => exact ⟨k + 1, ls ++ [⟨k + 1, .slice A2 L.length c2, L⟩], by go_num, by omega, hL4, by simp; omega, hbw4, HO5⟩
          case measure => simp [intOf] <;> omega
      · rw [decide_eq_false q] at cP
        have HE := Lib.hid (show linesP 1 [] P = .error (k + 1) by
          have e := HO2.out
          rw [linesP_cons, if_neg q] at e
          exact e)
        go_wp2_with (go_at_call 53; refine (cP _).mono ?_; rintro e _ ⟨rfl, x3, rfl⟩)
        refine bodyPost_ret (v := .tuple #[.slice none 0 0, .int .i64 ((k : Int) + 1), .int .i64 10]) (by simp [results, Tryz.results19, go_sem]) rfl ?_
        unfold linesPost
        rw [HE.out]
        exact ⟨bel_grow (hbw0.trans (hbw.mono hbw0.size)) _, by simp only [Int.natCast_add, Int.cast_ofNat_Int]⟩
    · obtain rfl : k = P.length := by omega
      have HF := Lib.hid (show linesP 1 [] P = .ok (outOf ls) by rw [HO.out, List.drop_length]; rfl)
      obtain ⟨A, c, hvA⟩ : ∃ A c, u5 = .slice A ls.length c := by
        rcases hL.1.2 with ⟨h, h2⟩ | ⟨g, cap, cur, h, _⟩
        · exact ⟨none, 0, by rw [h, h2]⟩
        · exact ⟨_, cap, h⟩
      subst hvA
      go_wp2
      refine bodyPost_ret (v := .tuple #[.slice A ls.length c, .int .i64 0, .int .i64 0]) (by simp [results, Tryz.results19, go_sem]) rfl ?_
      unfold linesPost
      rw [HF.out]
      exact ⟨hbw0.trans (hbw.mono hbw0.size), _, ls, rfl, hL.mono hbw0.size, rfl⟩
end Go.Proofs.YtdkgbdecmgligaaGreatDoor
