/- The program's own scene: numbers. -/
import Derived.Test.YtehmlofhiffanaaDoorScnP2
import Derived.Test.YtehmlofhiffanaaDoorLexP3
namespace Go.Proofs.YtehmlofhiffanaaDoor
open Go.RowKit
set_option linter.unusedVariables false
set_option linter.unusedSimpArgs false
def pnumsPost (w : World) (l : List Wd) (e : Ending) (w' : World) : Prop := Below w.heap.size w w' ∧ match numsF l with
  | none => e = Ending.panicked [{ v := Value.iface 36 (.int .i64 10), recovered := false }]
  | some ns => ∃ b, e = .returned (.slice (some ⟨b, 0, none⟩) ns.length ns.length) ∧ w'.ownsRow w.heap.size 3 1 (.slice (some ⟨b, 0, none⟩) ns.length ns.length) ns.length (i64s ns)
theorem zeros_made (n : Nat) : (madeCells (Value.int IntKind.i64 0).cells (n * 1)).toList = List.replicate n (.int .i64 0) := by
  rw [Nat.mul_one]
  exact toList_madeCells_one _ n
theorem set_made (l : List Int) (n k : Nat) (x : Int) (hk : k < n) (hl : l.length = k) : (i64s l ++ List.replicate (n - k) (Value.int .i64 0)).set k (.int .i64 x) = i64s (l ++ [x]) ++ List.replicate (n - (k + 1)) (Value.int .i64 0) := by
  have e : n - k = (n - (k + 1)) + 1 := by omega
  have hl2 : (i64s l).length = k := by rw [i64s_len, hl]
  rw [e, List.replicate_succ, List.set_append_right _ _ (by omega), hl2, Nat.sub_self, List.set_cons_zero, ← i64s_app]
  simp
set_option maxHeartbeats 1000000 in
theorem pnumbers_any (w : World) (A : Option Addr) (c n : Nat) (l : List Wd) (hn : l.length = n) (hl : n ≤ 65537) (hA : SFW w A l) :
    Calls Tryd.prog 58 #[.slice A n c] w fun e w' => pnumsPost w l e w' := by
  obtain ⟨i0, hi0, hz0, hz1, hz2⟩ := info_parts infoI
  have hAll := Lib.hid (numsF_eq l)
  go_enter Tryd.func58, Tryd.ntmps58
  go_wp2_with (at_make; refine wpList_make_full w rfl _ _ 48 rfl w.heap.size 3 i0 _ 1 Tryd.underlying48 hi0 hz0 hz1 .i64 .i64 _ _ n rfl rfl rfl rfl (by rw [hz2]; omega) (by unfold maxLen; omega) (Nat.le_refl _) ?_; intro w1 hown0 hgr0; rw [zeros_made] at hown0)
  have hb0 : Below w.heap.size w w1 := ⟨hgr0.os, hgr0.tape, hgr0.output, hgr0.size, fun k hk => hgr0.block k hk (by simp)⟩
  obtain ⟨g, hg⟩ : ∃ g, g = w.heap.size := ⟨_, rfl⟩
  rw [← hg]
  rw [← hg] at hown0
  have hgl : w.heap.size ≤ g := by omega
  clear hg
  go_loopw [13] (fun i wr => ∃ k : Nat, i = .int .i64 (k : Int) ∧ k ≤ n ∧ wr.ownsRow g 3 1 (.slice (some ⟨g, 0, none⟩) n n) n (i64s ((l.take k).map fun w => (nW w).1) ++ List.replicate (n - k) (.int .i64 0)) ∧ Below w.heap.size w wr ∧ Hid (((l.take k).all fun w => (nW w).2) = true)) (fun i _ => n - (intOf i).toNat)
  case atStart => exact ⟨0, rfl, by omega, by simpa [i64s] using hown0, hb0, Lib.hid rfl⟩
  case round =>
    obtain ⟨k, rfl, hk, hown, hbw, hall⟩ := hrel
    by_cases hlt : k < n
    · have hlk : k < l.length := by omega
      obtain ⟨b, off, rfl, hbl, hcell⟩ := hA (by omega)
      have hc := (hbw.cell (p := ⟨b, off + k, none⟩) hbl).trans (hcell k hlk)
      have he : l.getD k [] = l[k] := by simp [List.getD, hlk]
      simp only [he] at hc
      have ht : l.take (k + 1) = l.take k ++ [l[k]] := List.take_succ_eq_append_getElem hlk
      have hbr : b < wr.heap.size := Nat.lt_of_lt_of_le hbl hbw.size
      have hgr : g < wr.heap.size := (hown.lt g rfl).2
      have cN := lNum_any ⟨(l[k]).toArray⟩
      have k0 : (0 : Int) ≤ (k : Int) := by omega
      have k1 : (k : Int) < (n : Int) := by omega
      have NX := Lib.hid (set_made ((l.take k).map fun w => (nW w).1) n k (nW l[k]).1 hlt (by simp; omega))
      have NX2 := Lib.hid (show (l.take (k + 1)).map (fun w => (nW w).1) = (l.take k).map (fun w => (nW w).1) ++ [(nW l[k]).1] by rw [ht, List.map_append]; rfl)
      have AX := Lib.hid (show (nW l[k]).2 = true → ((l.take (k + 1)).all fun w => (nW w).2) = true from fun q => by rw [ht, List.all_append, hall.out]; simp [q])
      have AN := Lib.hid (show (nW l[k]).2 = false → numsF l = none from fun q => by
        rw [hAll.out, if_neg]
        intro h
        have := List.all_eq_true.1 h l[k] (List.getElem_mem hlk)
        rw [q] at this
        cases this)
      have HO := Lib.hid (hown.stored k (.int .i64 (nW l[k]).1)).1
      have e1 : numV ⟨(l[k]).toArray⟩ = nW l[k] := rfl
      rw [e1] at cN
      rw [← NX2.out] at NX
      clear NX2 he
      generalize (nW l[k]).1 = N at *
      cases q : (nW l[k]).2
      · rw [q] at cN
        have HN := Lib.hid (AN.out q)
        clear AX AN NX e1 q HO
        go_wp2_with (first | (go_at_call 73; refine (cN.at_ _).mono ?_; rintro e _ ⟨rfl, x, rfl⟩) | (go_at_call 57; refine (need_no _ _).mono ?_; rintro e _ ⟨rfl, rfl⟩))
        refine ⟨rfl, ?_⟩
        unfold pnumsPost
        rw [HN.out]
        exact ⟨bel_grow hbw _, rfl⟩
      · rw [q] at cN
        have HN := Lib.hid (AX.out q)
        clear AX AN e1 q
        have hv0 : wr.cell? ⟨g, k, none⟩ = some ((i64s ((l.take k).map fun w => (nW w).1) ++ List.replicate (n - k) (Value.int .i64 0))[k]'(by have := hown.1; omega)) := (hown.cellAt k (by omega)).trans (List.getElem?_eq_getElem _)
        generalize (i64s ((l.take k).map fun w => (nW w).1) ++ List.replicate (n - k) (Value.int .i64 0))[k]'(by have := hown.1; omega) = v0 at hv0
        have hz0 := hown.frozenAt k
        go_wp2_with (first | (go_at_call 73; refine (cN.at_ _).mono ?_; rintro e _ ⟨rfl, x, rfl⟩))
        go_wp2_with (go_at_call 57; refine (need_yes _ _).mono ?_; rintro e _ ⟨rfl, rfl⟩)
        have h1 := HO.out
        rw [NX.out] at h1
        go_roundw
        case rel => exact ⟨k + 1, by go_num, by omega, own_grow h1 _, bel_grow (bel_set hbw hgl _) _, HN⟩
        case measure => simp [intOf] <;> omega
    · obtain rfl : k = n := by omega
      have HF := Lib.hid (show numsF l = some (l.map fun w => (nW w).1) by
        have h := hall.out
        rw [← hn, List.take_length] at h
        rw [hAll.out, if_pos h])
      have hown2 : wr.ownsRow w.heap.size 3 1 (.slice (some ⟨g, 0, none⟩) (l.map fun w => (nW w).1).length (l.map fun w => (nW w).1).length) (l.map fun w => (nW w).1).length (i64s (l.map fun w => (nW w).1)) := by
        have hown := own_mono hown hgl
        rw [Nat.sub_self, List.replicate_zero, List.append_nil, ← hn, List.take_length] at hown
        simpa using hown
      have hlm : (l.map fun w => (nW w).1).length = k := by simp [hn]
      go_wp2
      refine bodyPost_ret (v := .slice (some ⟨g, 0, none⟩) k k) (by simp [results, Tryd.results58, go_sem]) rfl ?_
      unfold pnumsPost
      rw [HF.out]
      refine ⟨hbw, g, ?_, hown2⟩
      rw [hlm]
end Go.Proofs.YtehmlofhiffanaaDoor
