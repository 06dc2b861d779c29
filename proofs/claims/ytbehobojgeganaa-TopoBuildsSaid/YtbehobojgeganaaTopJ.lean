/- Copies of rows and of faces that may be empty. -/
import Derived.Test.YtbehobojgeganaaTopQ
import Derived.Deep.Upon
import Derived.Test.YtbehobojgeganaaArr
namespace Go.Proofs.Ytbehobojgeganaa
open Go.RowKit
set_option linter.unusedVariables false
set_option linter.unusedSimpArgs false
set_option linter.unnecessarySimpa false
set_option maxRecDepth 100000
theorem srcN (w : World) (A : Option Addr) (c size : Nat) : Src Try.prog size 41 (.slice A 0 c) 0 [] w :=
  by
  cases A with
  | none => exact Src.ofNil w Try.underlying41 c
  | some a => exact Src.ofSlice w Try.underlying41 a 0 c [] (by simp) (fun j u h => by simp at h) (fun u h => by cases h)
set_option maxHeartbeats 1000000 in
theorem copyI_any0 (W : World) (A : Option Addr) (c : Nat) (ns : List Int) (hA : IL W A ns) (hn : ns.length < 1099511627776) :
    Calls Try.prog 39 #[.slice A ns.length c] W fun e W' => ∃ B d, e = .returned (.slice B ns.length d) ∧ W'.ownsRow W.heap.size 3 1 (.slice B ns.length d) ns.length (ints ns) ∧ Below W.heap.size W W' := by
  by_cases hpos : 0 < ns.length
  · exact copyI_any W A c ns hA hpos hn
  · obtain rfl : ns = [] := List.eq_nil_of_length_eq_zero (by omega)
    have hi : ∃ i, Try.prog.info? 3 = some i := by
      obtain ⟨i0, hi0, _⟩ := info_parts infoI
      exact ⟨i0, hi0⟩
    obtain ⟨i0, hi0⟩ := hi
    have hown := own_empty W W.heap.size 3 (Nat.le_refl _)
    have hb0 : Below W.heap.size W (W.alloc (.cells #[] 3)) := bel_alloc (Below.refl _ _) _
    have hrun := run_append_nothing (P := Try.prog) (W.alloc (.cells #[] 3)) 41 41 41 3 i0 Try.underlying41 hi0 (some ⟨W.heap.size, 0, none⟩) 0 0 (Nat.le_refl _) (.slice A 0 c) (srcN _ A c _)
    go_enter Try.func39, Try.ntmps39
    go_upto_region 2 with (fail)
    generalize hWe : W.alloc (.cells #[] 3) = W1 at *
    go_wp2_with (first | (at_builtin; go_loud (refine wpList_val rfl (.slice (some ⟨W.heap.size, 0, none⟩) 0 0) W1 (by unfold execOp; simp only [resolve, invoke, builtin, Sem.run_bind, Sem.run_pure, Result.andThen_ok, List.map_toArray, List.map_cons, List.map_nil]; exact congrArg (fun r => Result.andThen r (fun a w' => Result.ok (Next.value a) w')) hrun) ?_)) | fail)
    go_ret
    exact ⟨_, 0, rfl, by simpa [ints] using hown, hb0⟩
set_option maxHeartbeats 1000000 in
theorem copyF_any0 (W : World) (A : Option Addr) (k : Nat) (fs : List (List Int)) (hA : FL W A fs) (hl : fs.length < 1099511627776) (hx : ∀ x ∈ fs, x.length < 1099511627776) :
    Calls Try.prog 16 #[.slice A fs.length k] W fun e W' => ∃ B d, e = .returned (.slice B fs.length d) ∧ OwnF W' W.heap.size B d fs ∧ Below W.heap.size W W' := by
  obtain ⟨i1, hi1, hy0, hy1, hy2⟩ := info_parts infoIS
  have hown0 := own_empty W W.heap.size 41 (Nat.le_refl _)
  have hb0 : Below W.heap.size W (W.alloc (.cells #[] 41)) := bel_alloc (Below.refl _ _) _
  go_enter Try.func16, Try.ntmps16
  go_upto_region 2 with (fail)
  generalize hWe : W.alloc (.cells #[] 41) = W1 at *
  clear hWe
  go_wp2
  go_loopw [3, 4] (fun bv fv wr => ∃ (f : Nat) (A9 : Option Addr) (c9 : Nat), fv = .int .i64 (f : Int) ∧ f ≤ fs.length ∧ bv = .slice A9 f c9 ∧ OwnF wr W.heap.size A9 c9 (fs.take f) ∧ Below W.heap.size W wr) (fun _ fv _ => fs.length - (intOf fv).toNat)
  case atStart => exact ⟨0, some ⟨W.heap.size, 0, none⟩, 0, rfl, by omega, by simp, ⟨[], by simpa using hown0, fun i hi => by simp at hi⟩, hb0⟩
  case round =>
    obtain ⟨f, A9, c9, rfl, hf, rfl, hOF, hbel⟩ := hrel
    clear hown0 hb0
    by_cases hfl : f < fs.length
    · obtain ⟨b, off, Bf, m, rfl, hbl, hcell, hIL⟩ := (hA.below hbel).at_ f hfl
      have htk : fs.take (f + 1) = fs.take f ++ [fs[f]] := List.take_succ_eq_append_getElem hfl
      have hx2 := hx _ (List.getElem_mem hfl)
      have hl9 : (fs.take f).length = f := by simp; omega
      replace hl9 := Lib.hid hl9
      generalize fs[f] = x at *
      replace htk := Lib.hid htk
      have k0 : (0 : Int) ≤ (f : Int) := by omega
      have k1 : (f : Int) < (fs.length : Int) := by omega
      have cC := copyI_any0 wr Bf m x hIL hx2
      have hsz0 := hbel.size
      go_wp2_with (first
        | (go_at_call 39; (with_reducible refine cC.mono ?_); rintro e W2 ⟨A2, c2, rfl, hown, hb2⟩; have hOF2 := hOF.lay hb2; obtain ⟨vals, hO1b, hO2⟩ := hOF2.row; have hO1 : W2.ownsRow W.heap.size 41 1 (.slice A9 f c9) f vals := (by have h9 := hO1b; rw [hl9.out] at h9; exact h9); replace hO1b := Lib.hid hO1b; have hob := own_block hO1; have hsz2 := hb2.size)
        | (at_builtin; (refine wpList_append_own _ rfl _ _ 22 rfl W.heap.size 41 i1 _ 1 24 Try.underlying22 hi1 hy0 hy1 hy2 rfl (by decide) _ _ _ rfl (hO1.alloc _) ⟨W2.heap.size, 0, none⟩ 1 1 [.slice A2 x.length c2] rfl rfl (cell_one_new _ _ _) (fun x hx => by simp at hx; subst hx; rfl) (by unfold maxLen; omega) (by omega) (by simp; omega) ?_); intro v6 W6 hown6 hg6 hnil; have hg56 : W2.grownBy W6 (Value.slice A9 f c9).ownBlock := (World.grownBy_alloc _ _ _).trans hg6; clear hg6 hnil; obtain ⟨A6b, c6b, rfl⟩ := own_form hown6) | fail)
      have hOF6 := OwnF.add (x := x) hO2 hO1b.out (own_base hown hsz0) (by rw [hl9.out]; exact hg56) (by rw [hl9.out]; exact hown6)
      have hb6 := bel_own (bel_trans hbel hb2) hg56 (fun k hk => (hob k hk).1)
      go_roundw
      case rel => exact ⟨f + 1, A6b, c6b, by go_num, by omega, rfl, by rw [htk.out]; exact hOF6, hb6⟩
      case measure => simp [intOf]; omega
    · obtain rfl : f = fs.length := by omega
      simp only [List.take_length] at hOF
      go_wp2
      go_ret
      exact ⟨A9, c9, rfl, hOF, hbel⟩
end Go.Proofs.Ytbehobojgeganaa
