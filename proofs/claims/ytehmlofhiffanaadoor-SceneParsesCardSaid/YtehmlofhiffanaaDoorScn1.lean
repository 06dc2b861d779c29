/- The document's own numbers and within (scenes). -/
import Derived.Test.YtehmlofhiffanaaDoorScnB
import Derived.Test.YtehmlofhiffanaaDoorMLexB
import Derived.Test.YtehmlofhiffanaaDoorMLexQ
namespace Go.Proofs.YtehmlofhiffanaaDoor
open Go.RowKit
set_option linter.unusedVariables false
set_option linter.unusedSimpArgs false
/-- A row of words lies from an address on. -/
def SFW (W : World) (A : Option Addr) (l : List Wd) : Prop := SF W A l.length (fun i => ⟨(l.getD i []).toArray⟩)
theorem SFW.below {W W' : World} {A : Option Addr} {l : List Wd} (h : SFW W A l) (hb : Below W.heap.size W W') : SFW W' A l := SF.below h hb
def i64s (l : List Int) : List Value := l.map fun x => .int .i64 x
theorem i64s_len (l : List Int) : (i64s l).length = l.length := by unfold i64s; simp
theorem i64s_app (l : List Int) (x : Int) : i64s l ++ [.int .i64 x] = i64s (l ++ [x]) := by unfold i64s; simp
theorem i64s_get (l : List Int) (k : Nat) (h : k < l.length) : (i64s l)[k]? = some (.int .i64 (l.getD k 0)) := by unfold i64s; simp [List.getD, h]
theorem numsF_eq : ∀ l : List Wd, numsF l = if (l.all fun w => (nW w).2) = true then some (l.map fun w => (nW w).1) else none
  | [] => rfl
  | w :: l => by
    unfold numsF
    rw [numsF_eq l]
    cases h : (nW w).2
    · simp [h]
    · simp only [if_true, List.all_cons, h, Bool.true_and, List.map_cons]
      split <;> rfl
theorem infoI : (Tryd.prog.info? 3).map (fun i => (i.zero, i.size, i.bytes)) = some (some (.int .i64 0), 1, 8) := by kernel_rfl
def numsPost (w : World) (l : List Wd) (e : Ending) (w' : World) : Prop := Below w.heap.size w w' ∧ match numsF l with
  | none => e = .returned (.tuple #[.slice none 0 0, .bool false])
  | some ns => ∃ v, e = .returned (.tuple #[v, .bool true]) ∧ w'.ownsRow w.heap.size 3 1 v ns.length (i64s ns)
set_option maxHeartbeats 1000000 in
theorem numbers_any (w : World) (A : Option Addr) (c n : Nat) (l : List Wd) (hn : l.length = n) (hl : n ≤ 65537) (hA : SFW w A l) :
    Calls Tryd.prog 42 #[.slice A n c] w fun e w' => numsPost w l e w' := by
  obtain ⟨i0, hi0, hz0, hz1, hz2⟩ := info_parts infoI
  have hAll := Lib.hid (numsF_eq l)
  go_enter Tryd.func42, Tryd.ntmps42
  go_wp2
  go_loopw [5, 4] (fun i v wr => ∃ k : Nat, i = .int .i64 (k : Int) ∧ k ≤ n ∧ wr.ownsRow w.heap.size 3 1 v k (i64s ((l.take k).map fun w => (nW w).1)) ∧ Below w.heap.size w wr ∧ Hid (((l.take k).all fun w => (nW w).2) = true)) (fun i _ _ => n - (intOf i).toNat)
  case atStart => exact ⟨0, rfl, by omega, World.ownsRow_made _ _ _ (Nat.le_refl _) (by unfold maxLen; omega) rfl, bel_alloc (Below.refl _ _) _, Lib.hid rfl⟩
  case round =>
    obtain ⟨k, rfl, hk, hown, hbw, hall⟩ := hrel
    by_cases hlt : k < n
    · have hlk : k < l.length := by omega
      obtain ⟨b, off, rfl, hbl, hcell⟩ := hA (by omega)
      have hc := (hbw.cell (p := ⟨b, off + k, none⟩) hbl).trans (hcell k hlk)
      have hg : l.getD k [] = l[k] := by simp [List.getD, hlk]
      simp only [hg] at hc
      have ht : l.take (k + 1) = l.take k ++ [l[k]] := List.take_succ_eq_append_getElem hlk
      have hbr : b < wr.heap.size := Nat.lt_of_lt_of_le hbl hbw.size
      have cN := rNum_any ⟨(l[k]).toArray⟩
      have k0 : (0 : Int) ≤ (k : Int) := by omega
      have k1 : (k : Int) < (n : Int) := by omega
      have NX := Lib.hid (show i64s ((l.take k).map fun w => (nW w).1) ++ [.int .i64 (nW l[k]).1] = i64s ((l.take (k + 1)).map fun w => (nW w).1) by rw [i64s_app, ht, List.map_append]; rfl)
      have AX := Lib.hid (show (nW l[k]).2 = true → ((l.take (k + 1)).all fun w => (nW w).2) = true from fun q => by rw [ht, List.all_append, hall.out]; simp [q])
      have AN := Lib.hid (show (nW l[k]).2 = false → numsF l = none from fun q => by
        rw [hAll.out, if_neg]
        intro h
        have := List.all_eq_true.1 h l[k] (List.getElem_mem hlk)
        rw [q] at this
        cases this)
      have e1 : numV ⟨(l[k]).toArray⟩ = nW l[k] := rfl
      rw [e1] at cN
      generalize (nW l[k]).1 = N at *
      cases q : (nW l[k]).2
      · rw [q] at cN
        have HN := Lib.hid (AN.out q)
        clear AX AN NX e1 q
        go_wp2_with (go_at_call 67; refine (cN _).mono ?_; rintro e _ ⟨rfl, x, rfl⟩)
        refine bodyPost_ret (v := .tuple #[.slice none 0 0, .bool false]) (by simp [results, Tryd.results42, go_sem]) rfl ?_
        unfold numsPost
        rw [HN.out]
        exact ⟨bel_grow hbw _, rfl⟩
      · rw [q] at cN
        have HN := Lib.hid (AX.out q)
        clear AX AN e1 q
        go_wp2_with (first | (go_at_call 67; refine (cN _).mono ?_; rintro e _ ⟨rfl, x, rfl⟩; have hown1 := own_grow hown x; have hbw1 := bel_grow hbw x) | (at_builtin; refine wpList_append_own _ rfl _ _ 48 rfl w.heap.size 3 i0 _ 1 8 Tryd.underlying48 hi0 hz0 hz1 hz2 rfl (by decide) _ _ _ rfl (hown1.alloc _) ⟨(grow wr x).heap.size, 0, none⟩ 1 1 [.int .i64 N] rfl rfl (cell_one_new _ _ _) (fun x hx => by simp at hx; subst hx; rfl) (by unfold maxLen; omega) (by omega) (by have := hbw1.size; simp; omega) ?_; intro v' w4 hown' hgrow hnil))
        have hb4 : Below w.heap.size w w4 := (bel_alloc hbw1 _).grown hgrow (by have := hbw1.size; simp; omega) (fun k hk => (hown.lt k hk).1)
        rw [NX.out] at hown'
        go_roundw
        case rel => exact ⟨k + 1, by go_num, by omega, hown', hb4, HN⟩
        case measure => simp [intOf] <;> omega
    · obtain rfl : k = n := by omega
      have HF := Lib.hid (show numsF l = some (l.map fun w => (nW w).1) by
        have h := hall.out
        rw [← hn, List.take_length] at h
        rw [hAll.out, if_pos h])
      have hown2 : wr.ownsRow w.heap.size 3 1 u4 (l.map fun w => (nW w).1).length (i64s (l.map fun w => (nW w).1)) := by
        rw [← hn, List.take_length] at hown
        simpa using hown
      obtain ⟨A2, c2, rfl⟩ := own_form hown2
      go_wp2
      refine bodyPost_ret (v := .tuple #[.slice A2 (l.map fun w => (nW w).1).length c2, .bool true]) (by simp [results, Tryd.results42, go_sem]) rfl ?_
      unfold numsPost
      rw [HF.out]
      exact ⟨hbw, _, rfl, hown2⟩
end Go.Proofs.YtehmlofhiffanaaDoor
