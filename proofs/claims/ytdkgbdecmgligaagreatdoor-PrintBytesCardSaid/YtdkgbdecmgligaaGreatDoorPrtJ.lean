/- The program's comparisons: two lists of structs are one. -/
import Derived.Test.YtdkgbdecmgligaaGreatDoorPrtH
namespace Go.Proofs.YtdkgbdecmgligaaGreatDoor
open Go.RowKit
set_option linter.unusedVariables false
set_option linter.unusedSimpArgs false
set_option linter.unnecessarySimpa false
theorem rng_bel {W W1 : World} {b o : Nat} {vs : List Value} (h : W.rangeAt b o vs) (hb : b < W.heap.size) (hB : Below W.heap.size W W1) : W1.rangeAt b o vs := fun j v hv => (hB.cell (p := ⟨b, o + j, none⟩) hb).trans (h j v hv)
theorem take_step {α : Type} {ps qs : List α} {j : Nat} (h1 : j < ps.length) (h2 : j < qs.length) (h : ps.take j = qs.take j) (e : ps[j] = qs[j]) : ps.take (j + 1) = qs.take (j + 1) := by
  rw [List.take_succ_eq_append_getElem h1, List.take_succ_eq_append_getElem h2, h, e]
theorem str_inj {a b : List UInt8} : ((⟨a.toArray⟩ : ByteArray).toList = (⟨b.toArray⟩ : ByteArray).toList) ↔ a = b := by
  constructor
  · intro h
    have e := congrArg (fun l : List UInt8 => l) h
    rw [ByteArray.toList_eq, ByteArray.toList_eq] at e
    simpa using e
  · intro h; rw [h]
theorem ite_skip {p : Prop} [Decidable p] {α : Type} {x y : α} (h : p → x = y) : (if p then x else y) = y := by
  split
  · rename_i c; exact h c
  · rfl
theorem infoInt1 : (Tryz.prog.info? 3).map (·.size) = some 1 := by kernel_rfl
set_option maxRecDepth 100000 in
set_option maxHeartbeats 2000000 in
theorem eq_V {base n m c d : Nat} {A B : Option Addr} {W : World} (ps qs : List (List Int)) (hn : ps.length = n) (hm : qs.length = m) (hp : ∀ q ∈ ps, q.length = 3) (hq : ∀ q ∈ qs, q.length = 3) (hnm : n ≤ 1048576) (hA : RB base 3 W A (ps.map vRow)) (hB : RB base 3 W B (qs.map vRow)) :
    Calls Tryz.prog 39 #[.slice A n c, .slice B m d] W fun e w' => ∃ b : Bool, e = .returned (.bool b) ∧ (b = true ↔ ps = qs) ∧ Below W.heap.size W w' := by
  by_cases hl : n = m
  · subst hl
    go_enter Tryz.func39, Tryz.ntmps39
    go_wp2_with fail
    go_loopw [13] (fun i wr => ∃ (j : Nat), i = .int .i64 (j : Int) ∧ j ≤ n ∧ ps.take j = qs.take j ∧ Hid (Below W.heap.size W wr)) (fun i _ => n - (intOf i).toNat)
    case atStart => exact ⟨0, rfl, by omega, rfl, Lib.hid (Below.refl _ _)⟩
    case round =>
      obtain ⟨j, rfl, hj, hT, hBr⟩ := hrel
      by_cases hlt : j < n
      · have h1 : j < ps.length := by omega
        have h2 : j < qs.length := by omega
        obtain ⟨b, off, rfl, ral, ra⟩ := hA.range j (by simpa using h1)
        obtain ⟨b2, off2, rfl, rbl, rb⟩ := hB.range j (by simpa using h2)
        have k0 : (0 : Int) ≤ (j : Int) := by omega
        have k1 : (j : Int) < (n : Int) := by omega
        have l1 := hp ps[j] (List.getElem_mem h1)
        have l2 := hq qs[j] (List.getElem_mem h2)
        obtain ⟨x0, x1, x2, e1⟩ : ∃ x0 x1 x2, ps[j] = [x0, x1, x2] := by
          match ps[j], l1 with
          | [x0, x1, x2], _ => exact ⟨x0, x1, x2, rfl⟩
        obtain ⟨y0, y1, y2, e2⟩ : ∃ y0 y1 y2, qs[j] = [y0, y1, y2] := by
          match qs[j], l2 with
          | [y0, y1, y2], _ => exact ⟨y0, y1, y2, rfl⟩
        rw [List.getElem_map, e1] at ra
        rw [List.getElem_map, e2] at rb
        replace ra : W.rangeAt b (off + j * 3) [.int .i64 x0, .int .i64 x1, .int .i64 x2] := ra
        replace rb : W.rangeAt b2 (off2 + j * 3) [.int .i64 y0, .int .i64 y1, .int .i64 y2] := rb
        go_upto_region 6 with fail
        refine wp_region_held (S := fun w' => Below W.heap.size W w') (by kernel_rfl) ?_
        refine anyH_letter (fun V9 hV9 => ?_)
        have hB9 : Below W.heap.size W V9 := hBr.out.trans (by rw [hV9]; exact bel_dr (Below.refl _ _) _ |>.mono hBr.out.size)
        clear hV9
        refine wpAnyH_take (i := 0) (v := .slice (some ⟨b, off, none⟩) n c) rfl (by kernel_rfl) (by kernel_rfl) (by kernel_rfl) (fun _ _ _ h => h) (.inl ⟨rfl, fun w hS => by simp [execOp, go_sem, Act.put]⟩) hB9 ?_
        simp only [Act.put, List.getElem_toArray, List.getElem_cons_zero, List.getElem_cons_succ, List.setIfInBounds_toArray, List.set_cons_succ, List.set_cons_zero]
        refine wpAnyH_take (i := 1) (v := .int .i64 (j : Int)) rfl (by kernel_rfl) (by kernel_rfl) (by kernel_rfl) (fun _ _ _ h => h) (.inl ⟨rfl, fun w hS => by simp [execOp, go_sem, Act.put]⟩) hB9 ?_
        simp only [Act.put, List.getElem_toArray, List.getElem_cons_zero, List.getElem_cons_succ, List.setIfInBounds_toArray, List.set_cons_succ, List.set_cons_zero]
        refine wpAnyH_take (i := 2) (v := .pointer (some ⟨b, off + j * 3, none⟩)) rfl (by kernel_rfl) (by kernel_rfl) (by kernel_rfl) (fun _ _ _ h => h) (.inl ⟨rfl, fun w hS => by simp [execOp, go_sem, Act.put, k0, k1]⟩) hB9 ?_
        simp only [Act.put, List.getElem_toArray, List.getElem_cons_zero, List.getElem_cons_succ, List.setIfInBounds_toArray, List.set_cons_succ, List.set_cons_zero]
        refine wpAnyH_take (i := 3) (v := .agg #[.int .i64 x0, .int .i64 x1, .int .i64 x2]) rfl (by kernel_rfl) (by kernel_rfl) (by kernel_rfl) (fun _ _ _ h => h) (yieldsIf_load_mid rfl 23 _ rfl b (off + j * 3) rfl [.int .i64 x0, .int .i64 x1, .int .i64 x2] _ (fun w hS => rng_bel ra ral hS) Tryz.underlying23 rfl infoV3) hB9 ?_
        simp only [Act.put, List.getElem_toArray, List.getElem_cons_zero, List.getElem_cons_succ, List.setIfInBounds_toArray, List.set_cons_succ, List.set_cons_zero]
        refine wpAnyH_take (i := 4) (v := .slice (some ⟨b2, off2, none⟩) n d) rfl (by kernel_rfl) (by kernel_rfl) (by kernel_rfl) (fun _ _ _ h => h) (.inl ⟨rfl, fun w hS => by simp [execOp, go_sem, Act.put]⟩) hB9 ?_
        simp only [Act.put, List.getElem_toArray, List.getElem_cons_zero, List.getElem_cons_succ, List.setIfInBounds_toArray, List.set_cons_succ, List.set_cons_zero]
        refine wpAnyH_take (i := 5) (v := .int .i64 (j : Int)) rfl (by kernel_rfl) (by kernel_rfl) (by kernel_rfl) (fun _ _ _ h => h) (.inl ⟨rfl, fun w hS => by simp [execOp, go_sem, Act.put]⟩) hB9 ?_
        simp only [Act.put, List.getElem_toArray, List.getElem_cons_zero, List.getElem_cons_succ, List.setIfInBounds_toArray, List.set_cons_succ, List.set_cons_zero]
        refine wpAnyH_take (i := 6) (v := .pointer (some ⟨b2, off2 + j * 3, none⟩)) rfl (by kernel_rfl) (by kernel_rfl) (by kernel_rfl) (fun _ _ _ h => h) (.inl ⟨rfl, fun w hS => by simp [execOp, go_sem, Act.put, k0, k1]⟩) hB9 ?_
        simp only [Act.put, List.getElem_toArray, List.getElem_cons_zero, List.getElem_cons_succ, List.setIfInBounds_toArray, List.set_cons_succ, List.set_cons_zero]
        refine wpAnyH_take (i := 7) (v := .agg #[.int .i64 y0, .int .i64 y1, .int .i64 y2]) rfl (by kernel_rfl) (by kernel_rfl) (by kernel_rfl) (fun _ _ _ h => h) (yieldsIf_load_mid rfl 23 _ rfl b2 (off2 + j * 3) rfl [.int .i64 y0, .int .i64 y1, .int .i64 y2] _ (fun w hS => rng_bel rb rbl hS) Tryz.underlying23 rfl infoV3) hB9 ?_
        simp only [Act.put, List.getElem_toArray, List.getElem_cons_zero, List.getElem_cons_succ, List.setIfInBounds_toArray, List.set_cons_succ, List.set_cons_zero]
        by_cases hxy : ps[j] = qs[j]
        · have hT2 := take_step h1 h2 hT hxy
          have hxy2 := hxy
          rw [e1, e2] at hxy2
          simp only [Prod.mk.injEq, List.cons.injEq, and_true] at hxy2
          obtain ⟨rfl, rfl, rfl⟩ := hxy2
          refine wpAnyH_take (i := 8) (v := .bool false) rfl (by kernel_rfl) (by kernel_rfl) (by kernel_rfl) (fun _ _ _ h => h) (.inl ⟨rfl, fun w hS => by simp [execOp, go_sem, Act.put]⟩) hB9 ?_
          simp only [Act.put, List.getElem_toArray, List.getElem_cons_zero, List.getElem_cons_succ, List.setIfInBounds_toArray, List.set_cons_succ, List.set_cons_zero]
          refine wpAnyH_done (by kernel_rfl) ?_ _
          go_wp2_with fail
          go_roundw
          case rel => exact ⟨j + 1, by go_num, by omega, hT2, Lib.hid hB9⟩
          case measure => simp [intOf] <;> omega
        · have hxy2 := hxy
          rw [e1, e2] at hxy2
          simp only [Prod.mk.injEq, List.cons.injEq, and_true] at hxy2
          refine wpAnyH_take (i := 8) (v := .bool true) rfl (by kernel_rfl) (by kernel_rfl) (by kernel_rfl) (fun _ _ _ h => h) (.inl ⟨rfl, fun w hS => by simp [execOp, go_sem, Act.put]; exact fun c0 c1 c2 => hxy2 ⟨c0, c1, c2⟩⟩) hB9 ?_
          simp only [Act.put, List.getElem_toArray, List.getElem_cons_zero, List.getElem_cons_succ, List.setIfInBounds_toArray, List.set_cons_succ, List.set_cons_zero]
          refine wpAnyH_done (by kernel_rfl) ?_ _
          go_wp2_with fail
          go_ret
          refine ⟨false, rfl, ⟨fun h => (by cases h), fun h => ?_⟩, hB9⟩
          subst h
          exact absurd rfl hxy
      · obtain rfl : j = n := by omega
        go_wp2_with fail
        go_ret
        refine ⟨true, rfl, ⟨fun _ => ?_, fun _ => rfl⟩, hBr.out⟩
        rw [List.take_of_length_le (by omega), List.take_of_length_le (by omega)] at hT
        exact hT
  · have hl2 : ¬ (n : Int) = (m : Int) := by omega
    go_enter Tryz.func39, Tryz.ntmps39
    go_wp2_with fail
    go_ret
    exact ⟨false, rfl, ⟨fun h => (by cases h), fun h => absurd (by rw [← hn, ← hm, h]) hl⟩, Below.refl _ _⟩
set_option maxRecDepth 100000 in
set_option maxHeartbeats 2000000 in
theorem eq_C {base n m c d : Nat} {A B : Option Addr} {W : World} (ps qs : List (List Int)) (hn : ps.length = n) (hm : qs.length = m) (hp : ∀ q ∈ ps, q.length = 3) (hq : ∀ q ∈ qs, q.length = 3) (hnm : n ≤ 1048576) (hA : RB base 3 W A (ps.map vRow)) (hB : RB base 3 W B (qs.map vRow)) :
    Calls Tryz.prog 41 #[.slice A n c, .slice B m d] W fun e w' => ∃ b : Bool, e = .returned (.bool b) ∧ (b = true ↔ ps = qs) ∧ Below W.heap.size W w' := by
  by_cases hl : n = m
  · subst hl
    go_enter Tryz.func41, Tryz.ntmps41
    go_wp2_with fail
    go_loopw [13] (fun i wr => ∃ (j : Nat), i = .int .i64 (j : Int) ∧ j ≤ n ∧ ps.take j = qs.take j ∧ Hid (Below W.heap.size W wr)) (fun i _ => n - (intOf i).toNat)
    case atStart => exact ⟨0, rfl, by omega, rfl, Lib.hid (Below.refl _ _)⟩
    case round =>
      obtain ⟨j, rfl, hj, hT, hBr⟩ := hrel
      by_cases hlt : j < n
      · have h1 : j < ps.length := by omega
        have h2 : j < qs.length := by omega
        obtain ⟨b, off, rfl, ral, ra⟩ := hA.range j (by simpa using h1)
        obtain ⟨b2, off2, rfl, rbl, rb⟩ := hB.range j (by simpa using h2)
        have k0 : (0 : Int) ≤ (j : Int) := by omega
        have k1 : (j : Int) < (n : Int) := by omega
        have l1 := hp ps[j] (List.getElem_mem h1)
        have l2 := hq qs[j] (List.getElem_mem h2)
        obtain ⟨x0, x1, x2, e1⟩ : ∃ x0 x1 x2, ps[j] = [x0, x1, x2] := by
          match ps[j], l1 with
          | [x0, x1, x2], _ => exact ⟨x0, x1, x2, rfl⟩
        obtain ⟨y0, y1, y2, e2⟩ : ∃ y0 y1 y2, qs[j] = [y0, y1, y2] := by
          match qs[j], l2 with
          | [y0, y1, y2], _ => exact ⟨y0, y1, y2, rfl⟩
        rw [List.getElem_map, e1] at ra
        rw [List.getElem_map, e2] at rb
        replace ra : W.rangeAt b (off + j * 3) [.int .i64 x0, .int .i64 x1, .int .i64 x2] := ra
        replace rb : W.rangeAt b2 (off2 + j * 3) [.int .i64 y0, .int .i64 y1, .int .i64 y2] := rb
        go_upto_region 6 with fail
        refine wp_region_held (S := fun w' => Below W.heap.size W w') (by kernel_rfl) ?_
        refine anyH_letter (fun V9 hV9 => ?_)
        have hB9 : Below W.heap.size W V9 := hBr.out.trans (by rw [hV9]; exact bel_dr (Below.refl _ _) _ |>.mono hBr.out.size)
        clear hV9
        refine wpAnyH_take (i := 0) (v := .slice (some ⟨b, off, none⟩) n c) rfl (by kernel_rfl) (by kernel_rfl) (by kernel_rfl) (fun _ _ _ h => h) (.inl ⟨rfl, fun w hS => by simp [execOp, go_sem, Act.put]⟩) hB9 ?_
        simp only [Act.put, List.getElem_toArray, List.getElem_cons_zero, List.getElem_cons_succ, List.setIfInBounds_toArray, List.set_cons_succ, List.set_cons_zero]
        refine wpAnyH_take (i := 1) (v := .int .i64 (j : Int)) rfl (by kernel_rfl) (by kernel_rfl) (by kernel_rfl) (fun _ _ _ h => h) (.inl ⟨rfl, fun w hS => by simp [execOp, go_sem, Act.put]⟩) hB9 ?_
        simp only [Act.put, List.getElem_toArray, List.getElem_cons_zero, List.getElem_cons_succ, List.setIfInBounds_toArray, List.set_cons_succ, List.set_cons_zero]
        refine wpAnyH_take (i := 2) (v := .pointer (some ⟨b, off + j * 3, none⟩)) rfl (by kernel_rfl) (by kernel_rfl) (by kernel_rfl) (fun _ _ _ h => h) (.inl ⟨rfl, fun w hS => by simp [execOp, go_sem, Act.put, k0, k1]⟩) hB9 ?_
        simp only [Act.put, List.getElem_toArray, List.getElem_cons_zero, List.getElem_cons_succ, List.setIfInBounds_toArray, List.set_cons_succ, List.set_cons_zero]
        refine wpAnyH_take (i := 3) (v := .agg #[.int .i64 x0, .int .i64 x1, .int .i64 x2]) rfl (by kernel_rfl) (by kernel_rfl) (by kernel_rfl) (fun _ _ _ h => h) (yieldsIf_load_mid rfl 98 _ rfl b (off + j * 3) rfl [.int .i64 x0, .int .i64 x1, .int .i64 x2] _ (fun w hS => rng_bel ra ral hS) Tryz.underlying98 rfl infoCr3) hB9 ?_
        simp only [Act.put, List.getElem_toArray, List.getElem_cons_zero, List.getElem_cons_succ, List.setIfInBounds_toArray, List.set_cons_succ, List.set_cons_zero]
        refine wpAnyH_take (i := 4) (v := .slice (some ⟨b2, off2, none⟩) n d) rfl (by kernel_rfl) (by kernel_rfl) (by kernel_rfl) (fun _ _ _ h => h) (.inl ⟨rfl, fun w hS => by simp [execOp, go_sem, Act.put]⟩) hB9 ?_
        simp only [Act.put, List.getElem_toArray, List.getElem_cons_zero, List.getElem_cons_succ, List.setIfInBounds_toArray, List.set_cons_succ, List.set_cons_zero]
        refine wpAnyH_take (i := 5) (v := .int .i64 (j : Int)) rfl (by kernel_rfl) (by kernel_rfl) (by kernel_rfl) (fun _ _ _ h => h) (.inl ⟨rfl, fun w hS => by simp [execOp, go_sem, Act.put]⟩) hB9 ?_
        simp only [Act.put, List.getElem_toArray, List.getElem_cons_zero, List.getElem_cons_succ, List.setIfInBounds_toArray, List.set_cons_succ, List.set_cons_zero]
        refine wpAnyH_take (i := 6) (v := .pointer (some ⟨b2, off2 + j * 3, none⟩)) rfl (by kernel_rfl) (by kernel_rfl) (by kernel_rfl) (fun _ _ _ h => h) (.inl ⟨rfl, fun w hS => by simp [execOp, go_sem, Act.put, k0, k1]⟩) hB9 ?_
        simp only [Act.put, List.getElem_toArray, List.getElem_cons_zero, List.getElem_cons_succ, List.setIfInBounds_toArray, List.set_cons_succ, List.set_cons_zero]
        refine wpAnyH_take (i := 7) (v := .agg #[.int .i64 y0, .int .i64 y1, .int .i64 y2]) rfl (by kernel_rfl) (by kernel_rfl) (by kernel_rfl) (fun _ _ _ h => h) (yieldsIf_load_mid rfl 98 _ rfl b2 (off2 + j * 3) rfl [.int .i64 y0, .int .i64 y1, .int .i64 y2] _ (fun w hS => rng_bel rb rbl hS) Tryz.underlying98 rfl infoCr3) hB9 ?_
        simp only [Act.put, List.getElem_toArray, List.getElem_cons_zero, List.getElem_cons_succ, List.setIfInBounds_toArray, List.set_cons_succ, List.set_cons_zero]
        by_cases hxy : ps[j] = qs[j]
        · have hT2 := take_step h1 h2 hT hxy
          have hxy2 := hxy
          rw [e1, e2] at hxy2
          simp only [Prod.mk.injEq, List.cons.injEq, and_true] at hxy2
          obtain ⟨rfl, rfl, rfl⟩ := hxy2
          refine wpAnyH_take (i := 8) (v := .bool false) rfl (by kernel_rfl) (by kernel_rfl) (by kernel_rfl) (fun _ _ _ h => h) (.inl ⟨rfl, fun w hS => by simp [execOp, go_sem, Act.put]⟩) hB9 ?_
          simp only [Act.put, List.getElem_toArray, List.getElem_cons_zero, List.getElem_cons_succ, List.setIfInBounds_toArray, List.set_cons_succ, List.set_cons_zero]
          refine wpAnyH_done (by kernel_rfl) ?_ _
          go_wp2_with fail
          go_roundw
          case rel => exact ⟨j + 1, by go_num, by omega, hT2, Lib.hid hB9⟩
          case measure => simp [intOf] <;> omega
        · have hxy2 := hxy
          rw [e1, e2] at hxy2
          simp only [Prod.mk.injEq, List.cons.injEq, and_true] at hxy2
          refine wpAnyH_take (i := 8) (v := .bool true) rfl (by kernel_rfl) (by kernel_rfl) (by kernel_rfl) (fun _ _ _ h => h) (.inl ⟨rfl, fun w hS => by simp [execOp, go_sem, Act.put]; exact fun c0 c1 c2 => hxy2 ⟨c0, c1, c2⟩⟩) hB9 ?_
          simp only [Act.put, List.getElem_toArray, List.getElem_cons_zero, List.getElem_cons_succ, List.setIfInBounds_toArray, List.set_cons_succ, List.set_cons_zero]
          refine wpAnyH_done (by kernel_rfl) ?_ _
          go_wp2_with fail
          go_ret
          refine ⟨false, rfl, ⟨fun h => (by cases h), fun h => ?_⟩, hB9⟩
          subst h
          exact absurd rfl hxy
      · obtain rfl : j = n := by omega
        go_wp2_with fail
        go_ret
        refine ⟨true, rfl, ⟨fun _ => ?_, fun _ => rfl⟩, hBr.out⟩
        rw [List.take_of_length_le (by omega), List.take_of_length_le (by omega)] at hT
        exact hT
  · have hl2 : ¬ (n : Int) = (m : Int) := by omega
    go_enter Tryz.func41, Tryz.ntmps41
    go_wp2_with fail
    go_ret
    exact ⟨false, rfl, ⟨fun h => (by cases h), fun h => absurd (by rw [← hn, ← hm, h]) hl⟩, Below.refl _ _⟩
set_option maxRecDepth 100000 in
set_option maxHeartbeats 2000000 in
theorem eq_L {base n m c d : Nat} {A B : Option Addr} {W : World} (ps qs : List (List Int)) (hn : ps.length = n) (hm : qs.length = m) (hp : ∀ q ∈ ps, q.length = 6) (hq : ∀ q ∈ qs, q.length = 6) (hnm : n ≤ 1048576) (hA : RB base 6 W A (ps.map lRow)) (hB : RB base 6 W B (qs.map lRow)) :
    Calls Tryz.prog 42 #[.slice A n c, .slice B m d] W fun e w' => ∃ b : Bool, e = .returned (.bool b) ∧ (b = true ↔ ps = qs) ∧ Below W.heap.size W w' := by
  by_cases hl : n = m
  · subst hl
    go_enter Tryz.func42, Tryz.ntmps42
    go_wp2_with fail
    go_loopw [13] (fun i wr => ∃ (j : Nat), i = .int .i64 (j : Int) ∧ j ≤ n ∧ ps.take j = qs.take j ∧ Hid (Below W.heap.size W wr)) (fun i _ => n - (intOf i).toNat)
    case atStart => exact ⟨0, rfl, by omega, rfl, Lib.hid (Below.refl _ _)⟩
    case round =>
      obtain ⟨j, rfl, hj, hT, hBr⟩ := hrel
      by_cases hlt : j < n
      · have h1 : j < ps.length := by omega
        have h2 : j < qs.length := by omega
        obtain ⟨b, off, rfl, ral, ra⟩ := hA.range j (by simpa using h1)
        obtain ⟨b2, off2, rfl, rbl, rb⟩ := hB.range j (by simpa using h2)
        have k0 : (0 : Int) ≤ (j : Int) := by omega
        have k1 : (j : Int) < (n : Int) := by omega
        have l1 := hp ps[j] (List.getElem_mem h1)
        have l2 := hq qs[j] (List.getElem_mem h2)
        obtain ⟨x0, x1, x2, x3, x4, x5, e1⟩ : ∃ x0 x1 x2 x3 x4 x5, ps[j] = [x0, x1, x2, x3, x4, x5] := by
          match ps[j], l1 with
          | [x0, x1, x2, x3, x4, x5], _ => exact ⟨x0, x1, x2, x3, x4, x5, rfl⟩
        obtain ⟨y0, y1, y2, y3, y4, y5, e2⟩ : ∃ y0 y1 y2 y3 y4 y5, qs[j] = [y0, y1, y2, y3, y4, y5] := by
          match qs[j], l2 with
          | [y0, y1, y2, y3, y4, y5], _ => exact ⟨y0, y1, y2, y3, y4, y5, rfl⟩
        rw [List.getElem_map, e1] at ra
        rw [List.getElem_map, e2] at rb
        replace ra : W.rangeAt b (off + j * 6) [.int .i64 x0, .int .i64 x1, .int .i64 x2, .int .i64 x3, .int .i64 x4, .int .i64 x5] := ra
        replace rb : W.rangeAt b2 (off2 + j * 6) [.int .i64 y0, .int .i64 y1, .int .i64 y2, .int .i64 y3, .int .i64 y4, .int .i64 y5] := rb
        go_upto_region 6 with fail
        refine wp_region_held (S := fun w' => Below W.heap.size W w') (by kernel_rfl) ?_
        refine anyH_letter (fun V9 hV9 => ?_)
        have hB9 : Below W.heap.size W V9 := hBr.out.trans (by rw [hV9]; exact bel_dr (Below.refl _ _) _ |>.mono hBr.out.size)
        clear hV9
        refine wpAnyH_take (i := 0) (v := .slice (some ⟨b, off, none⟩) n c) rfl (by kernel_rfl) (by kernel_rfl) (by kernel_rfl) (fun _ _ _ h => h) (.inl ⟨rfl, fun w hS => by simp [execOp, go_sem, Act.put]⟩) hB9 ?_
        simp only [Act.put, List.getElem_toArray, List.getElem_cons_zero, List.getElem_cons_succ, List.setIfInBounds_toArray, List.set_cons_succ, List.set_cons_zero]
        refine wpAnyH_take (i := 1) (v := .int .i64 (j : Int)) rfl (by kernel_rfl) (by kernel_rfl) (by kernel_rfl) (fun _ _ _ h => h) (.inl ⟨rfl, fun w hS => by simp [execOp, go_sem, Act.put]⟩) hB9 ?_
        simp only [Act.put, List.getElem_toArray, List.getElem_cons_zero, List.getElem_cons_succ, List.setIfInBounds_toArray, List.set_cons_succ, List.set_cons_zero]
        refine wpAnyH_take (i := 2) (v := .pointer (some ⟨b, off + j * 6, none⟩)) rfl (by kernel_rfl) (by kernel_rfl) (by kernel_rfl) (fun _ _ _ h => h) (.inl ⟨rfl, fun w hS => by simp [execOp, go_sem, Act.put, k0, k1]⟩) hB9 ?_
        simp only [Act.put, List.getElem_toArray, List.getElem_cons_zero, List.getElem_cons_succ, List.setIfInBounds_toArray, List.set_cons_succ, List.set_cons_zero]
        refine wpAnyH_take (i := 3) (v := .agg #[.int .i64 x0, .int .i64 x1, .int .i64 x2, .int .i64 x3, .int .i64 x4, .int .i64 x5]) rfl (by kernel_rfl) (by kernel_rfl) (by kernel_rfl) (fun _ _ _ h => h) (yieldsIf_load_mid rfl 76 _ rfl b (off + j * 6) rfl [.int .i64 x0, .int .i64 x1, .int .i64 x2, .int .i64 x3, .int .i64 x4, .int .i64 x5] _ (fun w hS => rng_bel ra ral hS) Tryz.underlying76 rfl infoL6) hB9 ?_
        simp only [Act.put, List.getElem_toArray, List.getElem_cons_zero, List.getElem_cons_succ, List.setIfInBounds_toArray, List.set_cons_succ, List.set_cons_zero]
        refine wpAnyH_take (i := 4) (v := .slice (some ⟨b2, off2, none⟩) n d) rfl (by kernel_rfl) (by kernel_rfl) (by kernel_rfl) (fun _ _ _ h => h) (.inl ⟨rfl, fun w hS => by simp [execOp, go_sem, Act.put]⟩) hB9 ?_
        simp only [Act.put, List.getElem_toArray, List.getElem_cons_zero, List.getElem_cons_succ, List.setIfInBounds_toArray, List.set_cons_succ, List.set_cons_zero]
        refine wpAnyH_take (i := 5) (v := .int .i64 (j : Int)) rfl (by kernel_rfl) (by kernel_rfl) (by kernel_rfl) (fun _ _ _ h => h) (.inl ⟨rfl, fun w hS => by simp [execOp, go_sem, Act.put]⟩) hB9 ?_
        simp only [Act.put, List.getElem_toArray, List.getElem_cons_zero, List.getElem_cons_succ, List.setIfInBounds_toArray, List.set_cons_succ, List.set_cons_zero]
        refine wpAnyH_take (i := 6) (v := .pointer (some ⟨b2, off2 + j * 6, none⟩)) rfl (by kernel_rfl) (by kernel_rfl) (by kernel_rfl) (fun _ _ _ h => h) (.inl ⟨rfl, fun w hS => by simp [execOp, go_sem, Act.put, k0, k1]⟩) hB9 ?_
        simp only [Act.put, List.getElem_toArray, List.getElem_cons_zero, List.getElem_cons_succ, List.setIfInBounds_toArray, List.set_cons_succ, List.set_cons_zero]
        refine wpAnyH_take (i := 7) (v := .agg #[.int .i64 y0, .int .i64 y1, .int .i64 y2, .int .i64 y3, .int .i64 y4, .int .i64 y5]) rfl (by kernel_rfl) (by kernel_rfl) (by kernel_rfl) (fun _ _ _ h => h) (yieldsIf_load_mid rfl 76 _ rfl b2 (off2 + j * 6) rfl [.int .i64 y0, .int .i64 y1, .int .i64 y2, .int .i64 y3, .int .i64 y4, .int .i64 y5] _ (fun w hS => rng_bel rb rbl hS) Tryz.underlying76 rfl infoL6) hB9 ?_
        simp only [Act.put, List.getElem_toArray, List.getElem_cons_zero, List.getElem_cons_succ, List.setIfInBounds_toArray, List.set_cons_succ, List.set_cons_zero]
        by_cases hxy : ps[j] = qs[j]
        · have hT2 := take_step h1 h2 hT hxy
          have hxy2 := hxy
          rw [e1, e2] at hxy2
          simp only [Prod.mk.injEq, List.cons.injEq, and_true] at hxy2
          obtain ⟨rfl, rfl, rfl, rfl, rfl, rfl⟩ := hxy2
          refine wpAnyH_take (i := 8) (v := .bool false) rfl (by kernel_rfl) (by kernel_rfl) (by kernel_rfl) (fun _ _ _ h => h) (.inl ⟨rfl, fun w hS => by simp [execOp, go_sem, Act.put]⟩) hB9 ?_
          simp only [Act.put, List.getElem_toArray, List.getElem_cons_zero, List.getElem_cons_succ, List.setIfInBounds_toArray, List.set_cons_succ, List.set_cons_zero]
          refine wpAnyH_done (by kernel_rfl) ?_ _
          go_wp2_with fail
          go_roundw
          case rel => exact ⟨j + 1, by go_num, by omega, hT2, Lib.hid hB9⟩
          case measure => simp [intOf] <;> omega
        · have hxy2 := hxy
          rw [e1, e2] at hxy2
          simp only [Prod.mk.injEq, List.cons.injEq, and_true] at hxy2
          refine wpAnyH_take (i := 8) (v := .bool true) rfl (by kernel_rfl) (by kernel_rfl) (by kernel_rfl) (fun _ _ _ h => h) (.inl ⟨rfl, fun w hS => by simp [execOp, go_sem, Act.put]; exact fun c0 c1 c2 c3 c4 c5 => hxy2 ⟨c0, c1, c2, c3, c4, c5⟩⟩) hB9 ?_
          simp only [Act.put, List.getElem_toArray, List.getElem_cons_zero, List.getElem_cons_succ, List.setIfInBounds_toArray, List.set_cons_succ, List.set_cons_zero]
          refine wpAnyH_done (by kernel_rfl) ?_ _
          go_wp2_with fail
          go_ret
          refine ⟨false, rfl, ⟨fun h => (by cases h), fun h => ?_⟩, hB9⟩
          subst h
          exact absurd rfl hxy
      · obtain rfl : j = n := by omega
        go_wp2_with fail
        go_ret
        refine ⟨true, rfl, ⟨fun _ => ?_, fun _ => rfl⟩, hBr.out⟩
        rw [List.take_of_length_le (by omega), List.take_of_length_le (by omega)] at hT
        exact hT
  · have hl2 : ¬ (n : Int) = (m : Int) := by omega
    go_enter Tryz.func42, Tryz.ntmps42
    go_wp2_with fail
    go_ret
    exact ⟨false, rfl, ⟨fun h => (by cases h), fun h => absurd (by rw [← hn, ← hm, h]) hl⟩, Below.refl _ _⟩
set_option maxRecDepth 100000 in
set_option maxHeartbeats 2000000 in
theorem eq_M {base n m c d : Nat} {A B : Option Addr} {W : World} (ps qs : List (Wd × List Int)) (hn : ps.length = n) (hm : qs.length = m) (hp : ∀ q ∈ ps, q.2.length = 8) (hq : ∀ q ∈ qs, q.2.length = 8) (hnm : n ≤ 1048576) (hA : RB base 9 W A (ps.map mRow)) (hB : RB base 9 W B (qs.map mRow)) :
    Calls Tryz.prog 44 #[.slice A n c, .slice B m d] W fun e w' => ∃ b : Bool, e = .returned (.bool b) ∧ (b = true ↔ ps = qs) ∧ Below W.heap.size W w' := by
  by_cases hl : n = m
  · subst hl
    go_enter Tryz.func44, Tryz.ntmps44
    go_wp2_with fail
    go_loopw [13] (fun i wr => ∃ (j : Nat), i = .int .i64 (j : Int) ∧ j ≤ n ∧ ps.take j = qs.take j ∧ Hid (Below W.heap.size W wr)) (fun i _ => n - (intOf i).toNat)
    case atStart => exact ⟨0, rfl, by omega, rfl, Lib.hid (Below.refl _ _)⟩
    case round =>
      obtain ⟨j, rfl, hj, hT, hBr⟩ := hrel
      by_cases hlt : j < n
      · have h1 : j < ps.length := by omega
        have h2 : j < qs.length := by omega
        obtain ⟨b, off, rfl, ral, ra⟩ := hA.range j (by simpa using h1)
        obtain ⟨b2, off2, rfl, rbl, rb⟩ := hB.range j (by simpa using h2)
        have k0 : (0 : Int) ≤ (j : Int) := by omega
        have k1 : (j : Int) < (n : Int) := by omega
        have l1 := hp ps[j] (List.getElem_mem h1)
        have l2 := hq qs[j] (List.getElem_mem h2)
        obtain ⟨nx, x0, x1, x2, x3, x4, x5, x6, x7, e1⟩ : ∃ nx x0 x1 x2 x3 x4 x5 x6 x7, ps[j] = (nx, [x0, x1, x2, x3, x4, x5, x6, x7]) := by
          match ps[j], l1 with
          | (nx, [x0, x1, x2, x3, x4, x5, x6, x7]), _ => exact ⟨nx, x0, x1, x2, x3, x4, x5, x6, x7, rfl⟩
        obtain ⟨ny, y0, y1, y2, y3, y4, y5, y6, y7, e2⟩ : ∃ ny y0 y1 y2 y3 y4 y5 y6 y7, qs[j] = (ny, [y0, y1, y2, y3, y4, y5, y6, y7]) := by
          match qs[j], l2 with
          | (ny, [y0, y1, y2, y3, y4, y5, y6, y7]), _ => exact ⟨ny, y0, y1, y2, y3, y4, y5, y6, y7, rfl⟩
        rw [List.getElem_map, e1] at ra
        rw [List.getElem_map, e2] at rb
        replace ra : W.rangeAt b (off + j * 9) [.string ⟨nx.toArray⟩, .int .i64 x0, .int .i64 x1, .int .i64 x2, .int .i64 x3, .int .i64 x4, .int .i64 x5, .int .i64 x6, .int .i64 x7] := ra
        replace rb : W.rangeAt b2 (off2 + j * 9) [.string ⟨ny.toArray⟩, .int .i64 y0, .int .i64 y1, .int .i64 y2, .int .i64 y3, .int .i64 y4, .int .i64 y5, .int .i64 y6, .int .i64 y7] := rb
        go_upto_region 6 with fail
        refine wp_region_held (S := fun w' => Below W.heap.size W w') (by kernel_rfl) ?_
        refine anyH_letter (fun V9 hV9 => ?_)
        have hB9 : Below W.heap.size W V9 := hBr.out.trans (by rw [hV9]; exact bel_dr (Below.refl _ _) _ |>.mono hBr.out.size)
        clear hV9
        refine wpAnyH_take (i := 0) (v := .slice (some ⟨b, off, none⟩) n c) rfl (by kernel_rfl) (by kernel_rfl) (by kernel_rfl) (fun _ _ _ h => h) (.inl ⟨rfl, fun w hS => by simp [execOp, go_sem, Act.put]⟩) hB9 ?_
        simp only [Act.put, List.getElem_toArray, List.getElem_cons_zero, List.getElem_cons_succ, List.setIfInBounds_toArray, List.set_cons_succ, List.set_cons_zero]
        refine wpAnyH_take (i := 1) (v := .int .i64 (j : Int)) rfl (by kernel_rfl) (by kernel_rfl) (by kernel_rfl) (fun _ _ _ h => h) (.inl ⟨rfl, fun w hS => by simp [execOp, go_sem, Act.put]⟩) hB9 ?_
        simp only [Act.put, List.getElem_toArray, List.getElem_cons_zero, List.getElem_cons_succ, List.setIfInBounds_toArray, List.set_cons_succ, List.set_cons_zero]
        refine wpAnyH_take (i := 2) (v := .pointer (some ⟨b, off + j * 9, none⟩)) rfl (by kernel_rfl) (by kernel_rfl) (by kernel_rfl) (fun _ _ _ h => h) (.inl ⟨rfl, fun w hS => by simp [execOp, go_sem, Act.put, k0, k1]⟩) hB9 ?_
        simp only [Act.put, List.getElem_toArray, List.getElem_cons_zero, List.getElem_cons_succ, List.setIfInBounds_toArray, List.set_cons_succ, List.set_cons_zero]
        refine wpAnyH_take (i := 3) (v := .agg #[.string ⟨nx.toArray⟩, .int .i64 x0, .int .i64 x1, .int .i64 x2, .int .i64 x3, .int .i64 x4, .int .i64 x5, .int .i64 x6, .int .i64 x7]) rfl (by kernel_rfl) (by kernel_rfl) (by kernel_rfl) (fun _ _ _ h => h) (yieldsIf_load_mid rfl 53 _ rfl b (off + j * 9) rfl [.string ⟨nx.toArray⟩, .int .i64 x0, .int .i64 x1, .int .i64 x2, .int .i64 x3, .int .i64 x4, .int .i64 x5, .int .i64 x6, .int .i64 x7] _ (fun w hS => rng_bel ra ral hS) Tryz.underlying53 rfl infoM9) hB9 ?_
        simp only [Act.put, List.getElem_toArray, List.getElem_cons_zero, List.getElem_cons_succ, List.setIfInBounds_toArray, List.set_cons_succ, List.set_cons_zero]
        refine wpAnyH_take (i := 4) (v := .slice (some ⟨b2, off2, none⟩) n d) rfl (by kernel_rfl) (by kernel_rfl) (by kernel_rfl) (fun _ _ _ h => h) (.inl ⟨rfl, fun w hS => by simp [execOp, go_sem, Act.put]⟩) hB9 ?_
        simp only [Act.put, List.getElem_toArray, List.getElem_cons_zero, List.getElem_cons_succ, List.setIfInBounds_toArray, List.set_cons_succ, List.set_cons_zero]
        refine wpAnyH_take (i := 5) (v := .int .i64 (j : Int)) rfl (by kernel_rfl) (by kernel_rfl) (by kernel_rfl) (fun _ _ _ h => h) (.inl ⟨rfl, fun w hS => by simp [execOp, go_sem, Act.put]⟩) hB9 ?_
        simp only [Act.put, List.getElem_toArray, List.getElem_cons_zero, List.getElem_cons_succ, List.setIfInBounds_toArray, List.set_cons_succ, List.set_cons_zero]
        refine wpAnyH_take (i := 6) (v := .pointer (some ⟨b2, off2 + j * 9, none⟩)) rfl (by kernel_rfl) (by kernel_rfl) (by kernel_rfl) (fun _ _ _ h => h) (.inl ⟨rfl, fun w hS => by simp [execOp, go_sem, Act.put, k0, k1]⟩) hB9 ?_
        simp only [Act.put, List.getElem_toArray, List.getElem_cons_zero, List.getElem_cons_succ, List.setIfInBounds_toArray, List.set_cons_succ, List.set_cons_zero]
        refine wpAnyH_take (i := 7) (v := .agg #[.string ⟨ny.toArray⟩, .int .i64 y0, .int .i64 y1, .int .i64 y2, .int .i64 y3, .int .i64 y4, .int .i64 y5, .int .i64 y6, .int .i64 y7]) rfl (by kernel_rfl) (by kernel_rfl) (by kernel_rfl) (fun _ _ _ h => h) (yieldsIf_load_mid rfl 53 _ rfl b2 (off2 + j * 9) rfl [.string ⟨ny.toArray⟩, .int .i64 y0, .int .i64 y1, .int .i64 y2, .int .i64 y3, .int .i64 y4, .int .i64 y5, .int .i64 y6, .int .i64 y7] _ (fun w hS => rng_bel rb rbl hS) Tryz.underlying53 rfl infoM9) hB9 ?_
        simp only [Act.put, List.getElem_toArray, List.getElem_cons_zero, List.getElem_cons_succ, List.setIfInBounds_toArray, List.set_cons_succ, List.set_cons_zero]
        by_cases hxy : ps[j] = qs[j]
        · have hT2 := take_step h1 h2 hT hxy
          have hxy2 := hxy
          rw [e1, e2] at hxy2
          simp only [Prod.mk.injEq, List.cons.injEq, and_true] at hxy2
          obtain ⟨rfl, rfl, rfl, rfl, rfl, rfl, rfl, rfl, rfl⟩ := hxy2
          refine wpAnyH_take (i := 8) (v := .bool false) rfl (by kernel_rfl) (by kernel_rfl) (by kernel_rfl) (fun _ _ _ h => h) (.inl ⟨rfl, fun w hS => by simp [execOp, go_sem, Act.put]⟩) hB9 ?_
          simp only [Act.put, List.getElem_toArray, List.getElem_cons_zero, List.getElem_cons_succ, List.setIfInBounds_toArray, List.set_cons_succ, List.set_cons_zero]
          refine wpAnyH_done (by kernel_rfl) ?_ _
          go_wp2_with fail
          go_roundw
          case rel => exact ⟨j + 1, by go_num, by omega, hT2, Lib.hid hB9⟩
          case measure => simp [intOf] <;> omega
        · have hxy2 := hxy
          rw [e1, e2] at hxy2
          simp only [Prod.mk.injEq, List.cons.injEq, and_true] at hxy2
          refine wpAnyH_take (i := 8) (v := .bool true) rfl (by kernel_rfl) (by kernel_rfl) (by kernel_rfl) (fun _ _ _ h => h) (.inl ⟨rfl, fun w hS => by simp [execOp, go_sem, Act.put, str_inj]; exact fun c0 c1 c2 c3 c4 c5 c6 c7 c8 => hxy2 ⟨c0, c1, c2, c3, c4, c5, c6, c7, c8⟩⟩) hB9 ?_
          simp only [Act.put, List.getElem_toArray, List.getElem_cons_zero, List.getElem_cons_succ, List.setIfInBounds_toArray, List.set_cons_succ, List.set_cons_zero]
          refine wpAnyH_done (by kernel_rfl) ?_ _
          go_wp2_with fail
          go_ret
          refine ⟨false, rfl, ⟨fun h => (by cases h), fun h => ?_⟩, hB9⟩
          subst h
          exact absurd rfl hxy
      · obtain rfl : j = n := by omega
        go_wp2_with fail
        go_ret
        refine ⟨true, rfl, ⟨fun _ => ?_, fun _ => rfl⟩, hBr.out⟩
        rw [List.take_of_length_le (by omega), List.take_of_length_le (by omega)] at hT
        exact hT
  · have hl2 : ¬ (n : Int) = (m : Int) := by omega
    go_enter Tryz.func44, Tryz.ntmps44
    go_wp2_with fail
    go_ret
    exact ⟨false, rfl, ⟨fun h => (by cases h), fun h => absurd (by rw [← hn, ← hm, h]) hl⟩, Below.refl _ _⟩
set_option maxRecDepth 100000 in
set_option maxHeartbeats 2000000 in
theorem eq_S {base n m c d : Nat} {A B : Option Addr} {W : World} (ps qs : List (Wd × List Int)) (hn : ps.length = n) (hm : qs.length = m) (hp : ∀ q ∈ ps, q.2.length = 5) (hq : ∀ q ∈ qs, q.2.length = 5) (hnm : n ≤ 1048576) (hA : RB base 6 W A (ps.map sRow)) (hB : RB base 6 W B (qs.map sRow)) :
    Calls Tryz.prog 45 #[.slice A n c, .slice B m d] W fun e w' => ∃ b : Bool, e = .returned (.bool b) ∧ (b = true ↔ ps = qs) ∧ Below W.heap.size W w' := by
  by_cases hl : n = m
  · subst hl
    go_enter Tryz.func45, Tryz.ntmps45
    go_wp2_with fail
    go_loopw [13] (fun i wr => ∃ (j : Nat), i = .int .i64 (j : Int) ∧ j ≤ n ∧ ps.take j = qs.take j ∧ Hid (Below W.heap.size W wr)) (fun i _ => n - (intOf i).toNat)
    case atStart => exact ⟨0, rfl, by omega, rfl, Lib.hid (Below.refl _ _)⟩
    case round =>
      obtain ⟨j, rfl, hj, hT, hBr⟩ := hrel
      by_cases hlt : j < n
      · have h1 : j < ps.length := by omega
        have h2 : j < qs.length := by omega
        obtain ⟨b, off, rfl, ral, ra⟩ := hA.range j (by simpa using h1)
        obtain ⟨b2, off2, rfl, rbl, rb⟩ := hB.range j (by simpa using h2)
        have k0 : (0 : Int) ≤ (j : Int) := by omega
        have k1 : (j : Int) < (n : Int) := by omega
        have l1 := hp ps[j] (List.getElem_mem h1)
        have l2 := hq qs[j] (List.getElem_mem h2)
        obtain ⟨nx, x0, x1, x2, x3, x4, e1⟩ : ∃ nx x0 x1 x2 x3 x4, ps[j] = (nx, [x0, x1, x2, x3, x4]) := by
          match ps[j], l1 with
          | (nx, [x0, x1, x2, x3, x4]), _ => exact ⟨nx, x0, x1, x2, x3, x4, rfl⟩
        obtain ⟨ny, y0, y1, y2, y3, y4, e2⟩ : ∃ ny y0 y1 y2 y3 y4, qs[j] = (ny, [y0, y1, y2, y3, y4]) := by
          match qs[j], l2 with
          | (ny, [y0, y1, y2, y3, y4]), _ => exact ⟨ny, y0, y1, y2, y3, y4, rfl⟩
        rw [List.getElem_map, e1] at ra
        rw [List.getElem_map, e2] at rb
        replace ra : W.rangeAt b (off + j * 6) [.string ⟨nx.toArray⟩, .int .i64 x0, .int .i64 x1, .int .i64 x2, .int .i64 x3, .int .i64 x4] := ra
        replace rb : W.rangeAt b2 (off2 + j * 6) [.string ⟨ny.toArray⟩, .int .i64 y0, .int .i64 y1, .int .i64 y2, .int .i64 y3, .int .i64 y4] := rb
        go_upto_region 6 with fail
        refine wp_region_held (S := fun w' => Below W.heap.size W w') (by kernel_rfl) ?_
        refine anyH_letter (fun V9 hV9 => ?_)
        have hB9 : Below W.heap.size W V9 := hBr.out.trans (by rw [hV9]; exact bel_dr (Below.refl _ _) _ |>.mono hBr.out.size)
        clear hV9
        refine wpAnyH_take (i := 0) (v := .slice (some ⟨b, off, none⟩) n c) rfl (by kernel_rfl) (by kernel_rfl) (by kernel_rfl) (fun _ _ _ h => h) (.inl ⟨rfl, fun w hS => by simp [execOp, go_sem, Act.put]⟩) hB9 ?_
        simp only [Act.put, List.getElem_toArray, List.getElem_cons_zero, List.getElem_cons_succ, List.setIfInBounds_toArray, List.set_cons_succ, List.set_cons_zero]
        refine wpAnyH_take (i := 1) (v := .int .i64 (j : Int)) rfl (by kernel_rfl) (by kernel_rfl) (by kernel_rfl) (fun _ _ _ h => h) (.inl ⟨rfl, fun w hS => by simp [execOp, go_sem, Act.put]⟩) hB9 ?_
        simp only [Act.put, List.getElem_toArray, List.getElem_cons_zero, List.getElem_cons_succ, List.setIfInBounds_toArray, List.set_cons_succ, List.set_cons_zero]
        refine wpAnyH_take (i := 2) (v := .pointer (some ⟨b, off + j * 6, none⟩)) rfl (by kernel_rfl) (by kernel_rfl) (by kernel_rfl) (fun _ _ _ h => h) (.inl ⟨rfl, fun w hS => by simp [execOp, go_sem, Act.put, k0, k1]⟩) hB9 ?_
        simp only [Act.put, List.getElem_toArray, List.getElem_cons_zero, List.getElem_cons_succ, List.setIfInBounds_toArray, List.set_cons_succ, List.set_cons_zero]
        refine wpAnyH_take (i := 3) (v := .agg #[.string ⟨nx.toArray⟩, .int .i64 x0, .int .i64 x1, .int .i64 x2, .int .i64 x3, .int .i64 x4]) rfl (by kernel_rfl) (by kernel_rfl) (by kernel_rfl) (fun _ _ _ h => h) (yieldsIf_load_mid rfl 55 _ rfl b (off + j * 6) rfl [.string ⟨nx.toArray⟩, .int .i64 x0, .int .i64 x1, .int .i64 x2, .int .i64 x3, .int .i64 x4] _ (fun w hS => rng_bel ra ral hS) Tryz.underlying55 rfl infoSk6) hB9 ?_
        simp only [Act.put, List.getElem_toArray, List.getElem_cons_zero, List.getElem_cons_succ, List.setIfInBounds_toArray, List.set_cons_succ, List.set_cons_zero]
        refine wpAnyH_take (i := 4) (v := .slice (some ⟨b2, off2, none⟩) n d) rfl (by kernel_rfl) (by kernel_rfl) (by kernel_rfl) (fun _ _ _ h => h) (.inl ⟨rfl, fun w hS => by simp [execOp, go_sem, Act.put]⟩) hB9 ?_
        simp only [Act.put, List.getElem_toArray, List.getElem_cons_zero, List.getElem_cons_succ, List.setIfInBounds_toArray, List.set_cons_succ, List.set_cons_zero]
        refine wpAnyH_take (i := 5) (v := .int .i64 (j : Int)) rfl (by kernel_rfl) (by kernel_rfl) (by kernel_rfl) (fun _ _ _ h => h) (.inl ⟨rfl, fun w hS => by simp [execOp, go_sem, Act.put]⟩) hB9 ?_
        simp only [Act.put, List.getElem_toArray, List.getElem_cons_zero, List.getElem_cons_succ, List.setIfInBounds_toArray, List.set_cons_succ, List.set_cons_zero]
        refine wpAnyH_take (i := 6) (v := .pointer (some ⟨b2, off2 + j * 6, none⟩)) rfl (by kernel_rfl) (by kernel_rfl) (by kernel_rfl) (fun _ _ _ h => h) (.inl ⟨rfl, fun w hS => by simp [execOp, go_sem, Act.put, k0, k1]⟩) hB9 ?_
        simp only [Act.put, List.getElem_toArray, List.getElem_cons_zero, List.getElem_cons_succ, List.setIfInBounds_toArray, List.set_cons_succ, List.set_cons_zero]
        refine wpAnyH_take (i := 7) (v := .agg #[.string ⟨ny.toArray⟩, .int .i64 y0, .int .i64 y1, .int .i64 y2, .int .i64 y3, .int .i64 y4]) rfl (by kernel_rfl) (by kernel_rfl) (by kernel_rfl) (fun _ _ _ h => h) (yieldsIf_load_mid rfl 55 _ rfl b2 (off2 + j * 6) rfl [.string ⟨ny.toArray⟩, .int .i64 y0, .int .i64 y1, .int .i64 y2, .int .i64 y3, .int .i64 y4] _ (fun w hS => rng_bel rb rbl hS) Tryz.underlying55 rfl infoSk6) hB9 ?_
        simp only [Act.put, List.getElem_toArray, List.getElem_cons_zero, List.getElem_cons_succ, List.setIfInBounds_toArray, List.set_cons_succ, List.set_cons_zero]
        by_cases hxy : ps[j] = qs[j]
        · have hT2 := take_step h1 h2 hT hxy
          have hxy2 := hxy
          rw [e1, e2] at hxy2
          simp only [Prod.mk.injEq, List.cons.injEq, and_true] at hxy2
          obtain ⟨rfl, rfl, rfl, rfl, rfl, rfl⟩ := hxy2
          refine wpAnyH_take (i := 8) (v := .bool false) rfl (by kernel_rfl) (by kernel_rfl) (by kernel_rfl) (fun _ _ _ h => h) (.inl ⟨rfl, fun w hS => by simp [execOp, go_sem, Act.put]⟩) hB9 ?_
          simp only [Act.put, List.getElem_toArray, List.getElem_cons_zero, List.getElem_cons_succ, List.setIfInBounds_toArray, List.set_cons_succ, List.set_cons_zero]
          refine wpAnyH_done (by kernel_rfl) ?_ _
          go_wp2_with fail
          go_roundw
          case rel => exact ⟨j + 1, by go_num, by omega, hT2, Lib.hid hB9⟩
          case measure => simp [intOf] <;> omega
        · have hxy2 := hxy
          rw [e1, e2] at hxy2
          simp only [Prod.mk.injEq, List.cons.injEq, and_true] at hxy2
          refine wpAnyH_take (i := 8) (v := .bool true) rfl (by kernel_rfl) (by kernel_rfl) (by kernel_rfl) (fun _ _ _ h => h) (.inl ⟨rfl, fun w hS => by simp [execOp, go_sem, Act.put, str_inj]; exact fun c0 c1 c2 c3 c4 c5 => hxy2 ⟨c0, c1, c2, c3, c4, c5⟩⟩) hB9 ?_
          simp only [Act.put, List.getElem_toArray, List.getElem_cons_zero, List.getElem_cons_succ, List.setIfInBounds_toArray, List.set_cons_succ, List.set_cons_zero]
          refine wpAnyH_done (by kernel_rfl) ?_ _
          go_wp2_with fail
          go_ret
          refine ⟨false, rfl, ⟨fun h => (by cases h), fun h => ?_⟩, hB9⟩
          subst h
          exact absurd rfl hxy
      · obtain rfl : j = n := by omega
        go_wp2_with fail
        go_ret
        refine ⟨true, rfl, ⟨fun _ => ?_, fun _ => rfl⟩, hBr.out⟩
        rw [List.take_of_length_le (by omega), List.take_of_length_le (by omega)] at hT
        exact hT
  · have hl2 : ¬ (n : Int) = (m : Int) := by omega
    go_enter Tryz.func45, Tryz.ntmps45
    go_wp2_with fail
    go_ret
    exact ⟨false, rfl, ⟨fun h => (by cases h), fun h => absurd (by rw [← hn, ← hm, h]) hl⟩, Below.refl _ _⟩
end Go.Proofs.YtdkgbdecmgligaaGreatDoor
