/- The program's comparisons: numbers, faces. -/
import Derived.Test.YtdkgbdecmgligaaGreatDoorPrtJ
import Derived.Test.YtdkgbdecmgligaaGreatDoorPrtH
namespace Go.Proofs.YtdkgbdecmgligaaGreatDoor
open Go.RowKit
set_option linter.unusedVariables false
set_option linter.unusedSimpArgs false
set_option linter.unnecessarySimpa false
set_option maxRecDepth 100000 in
set_option maxHeartbeats 2000000 in
theorem eq_I {base n m c d : Nat} {A B : Option Addr} {W : World} (ps qs : List Int) (hn : ps.length = n) (hm : qs.length = m) (hnm : n ≤ 1048576) (hA : NFB base W A ps) (hB : NFB base W B qs) :
    Calls Tryz.prog 36 #[.slice A n c, .slice B m d] W fun e w' => ∃ b : Bool, e = .returned (.bool b) ∧ (b = true ↔ ps = qs) ∧ Below W.heap.size W w' := by
  by_cases hl : n = m
  · subst hl
    go_enter Tryz.func36, Tryz.ntmps36
    go_wp2_with fail
    go_loopw [13] (fun i wr => ∃ (j : Nat), i = .int .i64 (j : Int) ∧ j ≤ n ∧ ps.take j = qs.take j ∧ Hid (Below W.heap.size W wr)) (fun i _ => n - (intOf i).toNat)
    case atStart => exact ⟨0, rfl, by omega, rfl, Lib.hid (Below.refl _ _)⟩
    case round =>
      obtain ⟨j, rfl, hj, hT, hBr⟩ := hrel
      by_cases hlt : j < n
      · have h1 : j < ps.length := by omega
        have h2 : j < qs.length := by omega
        obtain ⟨b, off, rfl, hb1, hc1⟩ := hA (by omega)
        obtain ⟨b2, off2, rfl, hb2, hc2⟩ := hB (by omega)
        have c1 := hc1 j h1
        have c2 := hc2 j h2
        have k0 : (0 : Int) ≤ (j : Int) := by omega
        have k1 : (j : Int) < (n : Int) := by omega
        obtain ⟨x, e1⟩ : ∃ x, ps[j] = x := ⟨_, rfl⟩
        obtain ⟨y, e2⟩ : ∃ y, qs[j] = y := ⟨_, rfl⟩
        rw [e1] at c1
        rw [e2] at c2
        go_upto_region 6 with fail
        refine wp_region_held (S := fun w' => Below W.heap.size W w') (by kernel_rfl) ?_
        refine anyH_letter (fun V9 hV9 => ?_)
        have hB9 : Below W.heap.size W V9 := hBr.out.trans (by rw [hV9]; exact bel_dr (Below.refl _ _) _ |>.mono hBr.out.size)
        clear hV9
        refine wpAnyH_take (i := 0) (v := .slice (some ⟨b, off, none⟩) n c) rfl (by kernel_rfl) (by kernel_rfl) (by kernel_rfl) (fun _ _ _ h => h) (.inl ⟨rfl, fun w hS => by simp [execOp, go_sem, Act.put]⟩) hB9 ?_
        simp only [Act.put, List.getElem_toArray, List.getElem_cons_zero, List.getElem_cons_succ, List.setIfInBounds_toArray, List.set_cons_succ, List.set_cons_zero]
        refine wpAnyH_take (i := 1) (v := .int .i64 (j : Int)) rfl (by kernel_rfl) (by kernel_rfl) (by kernel_rfl) (fun _ _ _ h => h) (.inl ⟨rfl, fun w hS => by simp [execOp, go_sem, Act.put]⟩) hB9 ?_
        simp only [Act.put, List.getElem_toArray, List.getElem_cons_zero, List.getElem_cons_succ, List.setIfInBounds_toArray, List.set_cons_succ, List.set_cons_zero]
        refine wpAnyH_take (i := 2) (v := .pointer (some ⟨b, off + j, none⟩)) rfl (by kernel_rfl) (by kernel_rfl) (by kernel_rfl) (fun _ _ _ h => h) (.inl ⟨rfl, fun w hS => by simp [execOp, go_sem, Act.put, k0, k1]⟩) hB9 ?_
        simp only [Act.put, List.getElem_toArray, List.getElem_cons_zero, List.getElem_cons_succ, List.setIfInBounds_toArray, List.set_cons_succ, List.set_cons_zero]
        refine wpAnyH_take (i := 3) (v := .int .i64 x) rfl (by kernel_rfl) (by kernel_rfl) (by kernel_rfl) (fun _ _ _ h => h) (.inl ⟨rfl, fun w hS => by have hc := (Below.cell hS (p := ⟨b, off + j, none⟩) hb1.1).trans c1; simp [execOp, go_sem, Act.put, hc]⟩) hB9 ?_
        simp only [Act.put, List.getElem_toArray, List.getElem_cons_zero, List.getElem_cons_succ, List.setIfInBounds_toArray, List.set_cons_succ, List.set_cons_zero]
        refine wpAnyH_take (i := 4) (v := .slice (some ⟨b2, off2, none⟩) n d) rfl (by kernel_rfl) (by kernel_rfl) (by kernel_rfl) (fun _ _ _ h => h) (.inl ⟨rfl, fun w hS => by simp [execOp, go_sem, Act.put]⟩) hB9 ?_
        simp only [Act.put, List.getElem_toArray, List.getElem_cons_zero, List.getElem_cons_succ, List.setIfInBounds_toArray, List.set_cons_succ, List.set_cons_zero]
        refine wpAnyH_take (i := 5) (v := .int .i64 (j : Int)) rfl (by kernel_rfl) (by kernel_rfl) (by kernel_rfl) (fun _ _ _ h => h) (.inl ⟨rfl, fun w hS => by simp [execOp, go_sem, Act.put]⟩) hB9 ?_
        simp only [Act.put, List.getElem_toArray, List.getElem_cons_zero, List.getElem_cons_succ, List.setIfInBounds_toArray, List.set_cons_succ, List.set_cons_zero]
        refine wpAnyH_take (i := 6) (v := .pointer (some ⟨b2, off2 + j, none⟩)) rfl (by kernel_rfl) (by kernel_rfl) (by kernel_rfl) (fun _ _ _ h => h) (.inl ⟨rfl, fun w hS => by simp [execOp, go_sem, Act.put, k0, k1]⟩) hB9 ?_
        simp only [Act.put, List.getElem_toArray, List.getElem_cons_zero, List.getElem_cons_succ, List.setIfInBounds_toArray, List.set_cons_succ, List.set_cons_zero]
        refine wpAnyH_take (i := 7) (v := .int .i64 y) rfl (by kernel_rfl) (by kernel_rfl) (by kernel_rfl) (fun _ _ _ h => h) (.inl ⟨rfl, fun w hS => by have hc := (Below.cell hS (p := ⟨b2, off2 + j, none⟩) hb2.1).trans c2; simp [execOp, go_sem, Act.put, hc]⟩) hB9 ?_
        simp only [Act.put, List.getElem_toArray, List.getElem_cons_zero, List.getElem_cons_succ, List.setIfInBounds_toArray, List.set_cons_succ, List.set_cons_zero]
        by_cases hxy : x = y
        · have hT2 := take_step h1 h2 hT (by rw [e1, e2, hxy])
          subst hxy
          refine wpAnyH_take (i := 8) (v := .bool false) rfl (by kernel_rfl) (by kernel_rfl) (by kernel_rfl) (fun _ _ _ h => h) (.inl ⟨rfl, fun w hS => by simp [execOp, go_sem, Act.put]⟩) hB9 ?_
          simp only [Act.put, List.getElem_toArray, List.getElem_cons_zero, List.getElem_cons_succ, List.setIfInBounds_toArray, List.set_cons_succ, List.set_cons_zero]
          refine wpAnyH_done (by kernel_rfl) ?_ _
          go_wp2_with fail
          go_roundw
          case rel => exact ⟨j + 1, by go_num, by omega, hT2, Lib.hid hB9⟩
          case measure => simp [intOf] <;> omega
        · have hxy2 : ¬ x = y := hxy
          refine wpAnyH_take (i := 8) (v := .bool true) rfl (by kernel_rfl) (by kernel_rfl) (by kernel_rfl) (fun _ _ _ h => h) (.inl ⟨rfl, fun w hS => by simp [execOp, go_sem, Act.put, hxy2]⟩) hB9 ?_
          simp only [Act.put, List.getElem_toArray, List.getElem_cons_zero, List.getElem_cons_succ, List.setIfInBounds_toArray, List.set_cons_succ, List.set_cons_zero]
          refine wpAnyH_done (by kernel_rfl) ?_ _
          go_wp2_with fail
          go_ret
          refine ⟨false, rfl, ⟨fun h => (by cases h), fun h => ?_⟩, hB9⟩
          subst h
          exact absurd (e1.symm.trans e2) hxy
      · obtain rfl : j = n := by omega
        go_wp2_with fail
        go_ret
        refine ⟨true, rfl, ⟨fun _ => ?_, fun _ => rfl⟩, hBr.out⟩
        rw [List.take_of_length_le (by omega), List.take_of_length_le (by omega)] at hT
        exact hT
  · have hl2 : ¬ (n : Int) = (m : Int) := by omega
    go_enter Tryz.func36, Tryz.ntmps36
    go_wp2_with fail
    go_ret
    exact ⟨false, rfl, ⟨fun h => (by cases h), fun h => absurd (by rw [← hn, ← hm, h]) hl⟩, Below.refl _ _⟩
/-- A call that answers whether p. -/
def Tells (P : Program) (f : FuncId) (args : Array Value) (W : World) (p : Prop) : Prop := Calls P f args W fun e w' => ∃ b : Bool, e = .returned (.bool b) ∧ (b = true ↔ p) ∧ Below W.heap.size W w'
theorem Tells.yes {P : Program} {f : FuncId} {args : Array Value} {W : World} {p : Prop} (h : Tells P f args W p) (hp : p) : Calls P f args W fun e w' => e = .returned (.bool true) ∧ Below W.heap.size W w' :=
  h.mono fun e w' ⟨b, e1, e2, e3⟩ => ⟨by rw [e1, e2.2 hp], e3⟩
theorem Tells.no {P : Program} {f : FuncId} {args : Array Value} {W : World} {p : Prop} (h : Tells P f args W p) (hp : ¬ p) : Calls P f args W fun e w' => e = .returned (.bool false) ∧ Below W.heap.size W w' :=
  h.mono fun e w' ⟨b, e1, e2, e3⟩ => ⟨by cases b with | false => exact e1 | true => exact absurd (e2.1 rfl) hp, e3⟩
theorem NFB.bel {base : Nat} {W W1 : World} {A : Option Addr} {ns : List Int} (h : NFB base W A ns) (hb : base ≤ W.heap.size) (hB : Below W.heap.size W W1) : NFB base W1 A ns := h.frb (FrB.of hb hB)
set_option maxRecDepth 100000 in
theorem sm1 {base n m c d : Nat} {A B : Option Addr} {W : World} (ps qs : List Int) (hn : ps.length = n) (hm : qs.length = m) (hnm : n ≤ 1048576) (hA : NFB base W A ps) (hB : NFB base W B qs) :
    Tells Tryz.prog 35 #[.slice A n c, .slice B m d] W (ps = qs) := by
  unfold Tells
  have C := Lib.hid (eq_I (c := c) (d := d) ps qs hn hm hnm hA hB)
  clear hA hB
  go_enter Tryz.func35, Tryz.ntmps35
  go_wp2_with (go_at_call 36; (with_reducible refine Calls.mono C.out ?_); rintro e W1 ⟨b1, rfl, hb1, hB1⟩)
  go_ret
  exact ⟨b1, rfl, hb1, hB1⟩
set_option maxRecDepth 100000 in
set_option maxHeartbeats 2000000 in
theorem eq_F {base n m c d : Nat} {A B : Option Addr} {W : World} (ps qs : List (List Int)) (hn : ps.length = n) (hm : qs.length = m) (hp : ∀ q ∈ ps, q.length ≤ 1048576) (hnm : n ≤ 1048576) (hbs : base ≤ W.heap.size) (hA : FRB base W A ps) (hB : FRB base W B qs) :
    Tells Tryz.prog 40 #[.slice A n c, .slice B m d, .func (Fn.func 35) #[] #[]] W (ps = qs) := by
  unfold Tells
  by_cases hl : n = m
  · subst hl
    go_enter Tryz.func40, Tryz.ntmps40
    go_wp2_with fail
    go_loopw [17] (fun i wr => ∃ (j : Nat), i = .int .i64 (j : Int) ∧ j ≤ n ∧ ps.take j = qs.take j ∧ Hid (Below W.heap.size W wr)) (fun i _ => n - (intOf i).toNat)
    case atStart => exact ⟨0, rfl, by omega, rfl, Lib.hid (Below.refl _ _)⟩
    case round =>
      obtain ⟨j, rfl, hj, hT, hBr⟩ := hrel
      by_cases hlt : j < n
      · have h1 : j < ps.length := by omega
        have h2 : j < qs.length := by omega
        have hFr := FrB.of hbs hBr.out
        obtain ⟨b, off, A1, a1, rfl, hbl, hr, hN⟩ := (hA.frb hFr).at_ j h1
        obtain ⟨b2, off2, B1, a2, rfl, hbl2, hr2, hN2⟩ := (hB.frb hFr).at_ j h2
        have k0 : (0 : Int) ≤ (j : Int) := by omega
        have k1 : (j : Int) < (n : Int) := by omega
        have hpl := hp ps[j] (List.getElem_mem h1)
        have C := sm1 (c := a1) (d := a2) ps[j] qs[j] rfl rfl hpl hN hN2
        have hT2 := take_step h1 h2 hT
        have hno : ps[j] ≠ qs[j] → ps ≠ qs := fun h e => h (by subst e; rfl)
        clear hN hN2 hA hB hp hpl
        generalize ps[j] = p1 at *
        generalize qs[j] = q1 at *
        generalize p1.length = l1 at *
        generalize q1.length = l2 at *
        by_cases hxy : p1 = q1
        · replace C := Lib.hid (C.yes hxy)
          replace hT2 := hT2 hxy
          go_wp2_with (go_at_call 35; (with_reducible refine Calls.mono C.out ?_); rintro e W1 ⟨rfl, hB1⟩)
          go_roundw
          case rel => exact ⟨j + 1, by go_num, by omega, hT2, Lib.hid (hBr.out.trans (hB1.mono hBr.out.size))⟩
          case measure => simp [intOf] <;> omega
        · replace C := Lib.hid (C.no hxy)
          go_wp2_with (go_at_call 35; (with_reducible refine Calls.mono C.out ?_); rintro e W1 ⟨rfl, hB1⟩)
          go_ret
          exact ⟨false, rfl, ⟨fun h => (by cases h), fun h => absurd h (hno hxy)⟩, hBr.out.trans (hB1.mono hBr.out.size)⟩
      · obtain rfl : j = n := by omega
        go_wp2_with fail
        go_ret
        refine ⟨true, rfl, ⟨fun _ => ?_, fun _ => rfl⟩, hBr.out⟩
        rw [List.take_of_length_le (by omega), List.take_of_length_le (by omega)] at hT
        exact hT
  · have hl2 : ¬ (n : Int) = (m : Int) := by omega
    go_enter Tryz.func40, Tryz.ntmps40
    go_wp2_with fail
    go_ret
    exact ⟨false, rfl, ⟨fun h => (by cases h), fun h => absurd (by rw [← hn, ← hm, h]) hl⟩, Below.refl _ _⟩
end Go.Proofs.YtdkgbdecmgligaaGreatDoor

/- The program's comparisons: textures, cages, scenes. -/
namespace Go.Proofs.YtdkgbdecmgligaaGreatDoor
open Go.RowKit
set_option linter.unusedVariables false
set_option linter.unusedSimpArgs false
set_option linter.unnecessarySimpa false
theorem tells_no {P : Program} {f : FuncId} {args : Array Value} {W : World} {p : Prop} (hp : ¬ p) (h : Calls P f args W fun e w' => e = .returned (.bool false) ∧ Below W.heap.size W w') : Tells P f args W p :=
  h.mono fun e w' ⟨e1, e2⟩ => ⟨false, e1, ⟨fun h => (by cases h), fun h => absurd h hp⟩, e2⟩
theorem Tells.iff {P : Program} {f : FuncId} {args : Array Value} {W : World} {p q : Prop} (h : Tells P f args W p) (hpq : p ↔ q) : Tells P f args W q :=
  h.mono fun e w' ⟨b, e1, e2, e3⟩ => ⟨b, e1, e2.trans hpq, e3⟩
set_option maxRecDepth 100000 in
set_option maxHeartbeats 2000000 in
theorem sm2 {base n1 n2 m1 m2 : Nat} {A B : Option Addr} {W : World} (nm nm2 : Wd) (x y x2 y2 : Int) (r r2 : List Int) (hn1 : r.length = n1) (hn2 : r2.length = n2) (hl1 : n1 ≤ 1048576) (hbs : base ≤ W.heap.size) (hA : NFB base W A r) (hB : NFB base W B r2) :
    Tells Tryz.prog 37 #[.agg #[.string ⟨nm.toArray⟩, .int .i64 x, .int .i64 y, .slice A n1 m1], .agg #[.string ⟨nm2.toArray⟩, .int .i64 x2, .int .i64 y2, .slice B n2 m2]] W ((nm, x :: y :: r) = (nm2, x2 :: y2 :: r2)) := by
  have hb2 : Below W.heap.size W ((W.alloc (.cells #[.string ⟨nm.toArray⟩, .int .i64 x, .int .i64 y, .slice A n1 m1] 51)).alloc (.cells #[.string ⟨nm2.toArray⟩, .int .i64 x2, .int .i64 y2, .slice B n2 m2] 51)) := bel_alloc (bel_alloc (Below.refl _ _) _) _
  have C := Lib.hid (eq_I (c := m1) (d := m2) r r2 hn1 hn2 hl1 (hA.bel hbs hb2) (hB.bel hbs hb2))
  clear hA hB
  by_cases h1 : nm = nm2
  · subst h1
    by_cases h2 : x = x2
    · subst h2
      by_cases h3 : y = y2
      · subst h3
        unfold Tells
        go_enter Tryz.func37, Tryz.ntmps37
        go_wp2_with (go_at_call 36; (with_reducible refine Calls.mono C.out ?_); rintro e W1 ⟨b1, rfl, hb1, hB1⟩)
        go_ret
        exact ⟨b1, rfl, by rw [hb1]; simp, bel_trans hb2 hB1⟩
      · have h3' : ¬ y = y2 := h3
        refine tells_no (by simp [h3]) ?_
        go_enter Tryz.func37, Tryz.ntmps37
        go_wp2_with fail
        go_ret
        exact ⟨rfl, hb2⟩
    · have h2' : ¬ x = x2 := h2
      refine tells_no (by simp [h2]) ?_
      go_enter Tryz.func37, Tryz.ntmps37
      go_wp2_with fail
      go_ret
      exact ⟨rfl, hb2⟩
  · have h1' : ¬ ((⟨nm.toArray⟩ : ByteArray).toList = (⟨nm2.toArray⟩ : ByteArray).toList) := fun h => h1 (str_inj.1 h)
    refine tells_no (by simp [h1]) ?_
    go_enter Tryz.func37, Tryz.ntmps37
    go_wp2_with fail
    go_ret
    exact ⟨rfl, hb2⟩
set_option maxRecDepth 100000 in
set_option maxHeartbeats 4000000 in
theorem eq_T {base n m c d : Nat} {A B : Option Addr} {W : World} (ps qs : List (Wd × List Int)) (hn : ps.length = n) (hm : qs.length = m) (hp : ∀ q ∈ ps, 2 ≤ q.2.length ∧ q.2.length ≤ 1048576) (hq : ∀ q ∈ qs, 2 ≤ q.2.length) (hnm : n ≤ 1048576) (hbs : base ≤ W.heap.size) (hA : TRB base W A ps) (hB : TRB base W B qs) :
    Tells Tryz.prog 43 #[.slice A n c, .slice B m d, .func (Fn.func 37) #[] #[]] W (ps = qs) := by
  unfold Tells
  by_cases hl : n = m
  · subst hl
    go_enter Tryz.func43, Tryz.ntmps43
    go_wp2_with fail
    go_loopw [17] (fun i wr => ∃ (j : Nat), i = .int .i64 (j : Int) ∧ j ≤ n ∧ ps.take j = qs.take j ∧ Hid (Below W.heap.size W wr)) (fun i _ => n - (intOf i).toNat)
    case atStart => exact ⟨0, rfl, by omega, rfl, Lib.hid (Below.refl _ _)⟩
    case round =>
      obtain ⟨j, rfl, hj, hT, hBr⟩ := hrel
      by_cases hlt : j < n
      · have h1 : j < ps.length := by omega
        have h2 : j < qs.length := by omega
        have hFr := FrB.of hbs hBr.out
        obtain ⟨b, off, A1, a1, rfl, hbl, hr, hN⟩ := (hA.frb hFr).at_ j h1
        obtain ⟨b2, off2, B1, a2, rfl, hbl2, hr2, hN2⟩ := (hB.frb hFr).at_ j h2
        have k0 : (0 : Int) ≤ (j : Int) := by omega
        have k1 : (j : Int) < (n : Int) := by omega
        obtain ⟨hp2, hpm⟩ := hp ps[j] (List.getElem_mem h1)
        have hq2 := hq qs[j] (List.getElem_mem h2)
        have hT2 := take_step h1 h2 hT
        have hno : ps[j] ≠ qs[j] → ps ≠ qs := fun h e => h (by subst e; rfl)
        clear hA hB hp hq
        generalize ps[j] = p1 at *
        generalize qs[j] = q1 at *
        obtain ⟨nm, x, y, r, rfl⟩ : ∃ nm x y r, p1 = (nm, x :: y :: r) := by
          match p1, hp2 with
          | (nm, x :: y :: r), _ => exact ⟨nm, x, y, r, rfl⟩
        obtain ⟨nm2, x2, y2, r2, rfl⟩ : ∃ nm x y r, q1 = (nm, x :: y :: r) := by
          match q1, hq2 with
          | (nm, x :: y :: r), _ => exact ⟨nm, x, y, r, rfl⟩
        obtain ⟨l1, hl1⟩ : ∃ l, r.length = l := ⟨_, rfl⟩
        obtain ⟨l2, hl2⟩ : ∃ l, r2.length = l := ⟨_, rfl⟩
        replace hr : wr.rangeAt b (off + j * 4) [.string ⟨nm.toArray⟩, .int .i64 x, .int .i64 y, .slice A1 l1 a1] := by rw [← hl1]; exact hr
        replace hr2 : wr.rangeAt b2 (off2 + j * 4) [.string ⟨nm2.toArray⟩, .int .i64 x2, .int .i64 y2, .slice B1 l2 a2] := by rw [← hl2]; exact hr2
        have hlm : l1 ≤ 1048576 := by simp at hpm; omega
        have hbs2 : base ≤ wr.heap.size := Nat.le_trans hbs hBr.out.size
        have hB1 : Below wr.heap.size wr (wr.alloc (.cells #[.string ⟨nm.toArray⟩, .int .i64 x, .int .i64 y, .slice A1 l1 a1] 51)) := bel_alloc (Below.refl _ _) _
        have hr3 := rng_bel hr2 hbl2 hB1
        have hB2 : Below wr.heap.size wr ((wr.alloc (.cells #[.string ⟨nm.toArray⟩, .int .i64 x, .int .i64 y, .slice A1 l1 a1] 51)).alloc (.cells #[.string ⟨nm2.toArray⟩, .int .i64 x2, .int .i64 y2, .slice B1 l2 a2] 51)) := bel_alloc (bel_alloc (Below.refl _ _) _) _
        have C := sm2 (m1 := a1) (m2 := a2) nm nm2 x y x2 y2 r r2 hl1 hl2 hlm (Nat.le_trans hbs2 hB2.size) ((show NFB base wr A1 r from hN).bel hbs2 hB2) ((show NFB base wr B1 r2 from hN2).bel hbs2 hB2)
        replace hr := Lib.hid hr
        replace hr3 := Lib.hid hr3
        replace hB2 := Lib.hid (hBr.out.trans (hB2.mono hBr.out.size))
        clear hN hN2 hr2 hB1 hpm hl1 hl2
        by_cases hxy : (nm, x :: y :: r) = (nm2, x2 :: y2 :: r2)
        · replace C := Lib.hid (C.yes hxy)
          replace hT2 := hT2 hxy
          clear hxy hno
          go_wp2_with (first | (refine wpList_load_mid rfl 51 _ rfl b (off + j * 4) rfl [.string ⟨nm.toArray⟩, .int .i64 x, .int .i64 y, .slice A1 l1 a1] _ hr.out Tryz.underlying51 rfl infoT4 ?_) | (refine wpList_load_mid rfl 51 _ rfl b2 (off2 + j * 4) rfl [.string ⟨nm2.toArray⟩, .int .i64 x2, .int .i64 y2, .slice B1 l2 a2] _ hr3.out Tryz.underlying51 rfl infoT4 ?_) | (go_at_call 37; (with_reducible refine Calls.mono C.out ?_); rintro e W1 ⟨rfl, hB3⟩))
          go_roundw
          case rel => exact ⟨j + 1, by go_num, by omega, hT2, Lib.hid (hB2.out.trans (hB3.mono hB2.out.size))⟩
          case measure => simp [intOf] <;> omega
        · have hne := Lib.hid (hno hxy)
          replace C := Lib.hid (C.no hxy)
          clear hxy hno hT2
          go_wp2_with (first | (refine wpList_load_mid rfl 51 _ rfl b (off + j * 4) rfl [.string ⟨nm.toArray⟩, .int .i64 x, .int .i64 y, .slice A1 l1 a1] _ hr.out Tryz.underlying51 rfl infoT4 ?_) | (refine wpList_load_mid rfl 51 _ rfl b2 (off2 + j * 4) rfl [.string ⟨nm2.toArray⟩, .int .i64 x2, .int .i64 y2, .slice B1 l2 a2] _ hr3.out Tryz.underlying51 rfl infoT4 ?_) | (go_at_call 37; (with_reducible refine Calls.mono C.out ?_); rintro e W1 ⟨rfl, hB3⟩))
          go_ret
          exact ⟨false, rfl, ⟨fun h => (by cases h), fun h => absurd h hne.out⟩, hB2.out.trans (hB3.mono hB2.out.size)⟩
      · obtain rfl : j = n := by omega
        go_wp2_with fail
        go_ret
        refine ⟨true, rfl, ⟨fun _ => ?_, fun _ => rfl⟩, hBr.out⟩
        rw [List.take_of_length_le (by omega), List.take_of_length_le (by omega)] at hT
        exact hT
  · have hl2 : ¬ (n : Int) = (m : Int) := by omega
    go_enter Tryz.func43, Tryz.ntmps43
    go_wp2_with fail
    go_ret
    exact ⟨false, rfl, ⟨fun h => (by cases h), fun h => absurd (by rw [← hn, ← hm, h]) hl⟩, Below.refl _ _⟩
end Go.Proofs.YtdkgbdecmgligaaGreatDoor

/- The program's comparisons: cages. -/
namespace Go.Proofs.YtdkgbdecmgligaaGreatDoor
open Go.RowKit
set_option linter.unusedVariables false
set_option linter.unusedSimpArgs false
set_option linter.unnecessarySimpa false
set_option maxRecDepth 100000 in
set_option maxHeartbeats 4000000 in
theorem sm3 {base c1 c2 c3 d1 d2 d3 k : Nat} {A1 A2 A3 B1 B2 B3 : Option Addr} {W : World} (p q : CageM) (hbs : base ≤ W.heap.size) (hA : CB base W A1 A2 A3 p) (hB : CB base W B1 B2 B3 q) (hk : Blk W k 77 #[.func (Fn.func 35) #[] #[]]) :
    Tells Tryz.prog 38 #[.agg #[.slice A1 p.verts.length c1, .slice A2 p.faces.length c2, .slice A3 p.creases.length c3], .agg #[.slice B1 q.verts.length d1, .slice B2 q.faces.length d2, .slice B3 q.creases.length d3], .pointer (some ⟨k, 0, none⟩)] W (p = q) := by
  obtain ⟨n1, e1⟩ : ∃ n, p.verts.length = n := ⟨_, rfl⟩
  obtain ⟨n2, e2⟩ : ∃ n, p.faces.length = n := ⟨_, rfl⟩
  obtain ⟨n3, e3⟩ : ∃ n, p.creases.length = n := ⟨_, rfl⟩
  obtain ⟨m1, f1⟩ : ∃ n, q.verts.length = n := ⟨_, rfl⟩
  obtain ⟨m2, f2⟩ : ∃ n, q.faces.length = n := ⟨_, rfl⟩
  obtain ⟨m3, f3⟩ : ∃ n, q.creases.length = n := ⟨_, rfl⟩
  rw [e1, e2, e3, f1, f2, f3]
  have hb2 : Below W.heap.size W ((W.alloc (.cells #[.slice A1 n1 c1, .slice A2 n2 c2, .slice A3 n3 c3] 48)).alloc (.cells #[.slice B1 m1 d1, .slice B2 m2 d2, .slice B3 m3 d3] 48)) := bel_alloc (bel_alloc (Below.refl _ _) _) _
  have KA : Blk ((W.alloc (.cells #[.slice A1 n1 c1, .slice A2 n2 c2, .slice A3 n3 c3] 48)).alloc (.cells #[.slice B1 m1 d1, .slice B2 m2 d2, .slice B3 m3 d3] 48)) W.heap.size 48 #[.slice A1 n1 c1, .slice A2 n2 c2, .slice A3 n3 c3] := (Blk.new _ _ _ _ rfl).alloc _
  have KB : Blk ((W.alloc (.cells #[.slice A1 n1 c1, .slice A2 n2 c2, .slice A3 n3 c3] 48)).alloc (.cells #[.slice B1 m1 d1, .slice B2 m2 d2, .slice B3 m3 d3] 48)) (W.heap.size + 1) 48 #[.slice B1 m1 d1, .slice B2 m2 d2, .slice B3 m3 d3] := Blk.new _ _ _ _ (by simp)
  have kk := hk.below hb2
  have hE : p = q ↔ p.verts = q.verts ∧ p.faces = q.faces ∧ p.creases = q.creases := by
    cases p; cases q; simp
  have hA0 := hA.frb (FrB.of hbs hb2)
  have hB0 := hB.frb (FrB.of hbs hb2)
  have hbs1 : base ≤ ((W.alloc (.cells #[.slice A1 n1 c1, .slice A2 n2 c2, .slice A3 n3 c3] 48)).alloc (.cells #[.slice B1 m1 d1, .slice B2 m2 d2, .slice B3 m3 d3] 48)).heap.size := Nat.le_trans hbs hb2.size
  clear hA hB hk
  unfold Tells
  go_enter Tryz.func38, Tryz.ntmps38
  go_upto_region 1 with fail
  generalize hV : ((W.alloc (.cells #[.slice A1 n1 c1, .slice A2 n2 c2, .slice A3 n3 c3] 48)).alloc (.cells #[.slice B1 m1 d1, .slice B2 m2 d2, .slice B3 m3 d3] 48)) = V at *
  clear hV
  obtain ⟨g1, hg1⟩ : ∃ g, g = W.heap.size := ⟨_, rfl⟩
  obtain ⟨g2, hg2⟩ : ∃ g, g = W.heap.size + 1 := ⟨_, rfl⟩
  rw [← hg1] at KA
  rw [← hg2] at KB
  try rw [← hg2]
  try rw [← hg1]
  clear hg1 hg2
  replace hb2 := Lib.hid hb2
  have cell1 : ∀ V2 : World, Below V.heap.size V V2 → g1 < V2.heap.size ∧ g2 < V2.heap.size ∧ k < V2.heap.size ∧ V2.cell? ⟨g1, 0, none⟩ = some (.slice A1 n1 c1) ∧ V2.cell? ⟨g1, 1, none⟩ = some (.slice A2 n2 c2) ∧ V2.cell? ⟨g1, 2, none⟩ = some (.slice A3 n3 c3) ∧ V2.cell? ⟨g2, 0, none⟩ = some (.slice B1 m1 d1) ∧ V2.cell? ⟨g2, 1, none⟩ = some (.slice B2 m2 d2) ∧ V2.cell? ⟨g2, 2, none⟩ = some (.slice B3 m3 d3) ∧ V2.cell? ⟨k, 0, none⟩ = some (.func (Fn.func 35) #[] #[]) :=
    fun V2 h => ⟨(KA.below h).lt, (KB.below h).lt, (kk.below h).lt, (KA.below h).cell 0, (KA.below h).cell 1, (KA.below h).cell 2, (KB.below h).cell 0, (KB.below h).cell 1, (KB.below h).cell 2, (kk.below h).cell 0⟩
  obtain ⟨x1, x2, x3, x4, x5, x6, x7, x8, x9, x10⟩ := cell1 V (Below.refl _ _)
  have C1 := eq_V (c := c1) (d := d1) p.verts q.verts e1 f1 (fun z hz => (hA0.pv z hz).1) (fun z hz => (hB0.pv z hz).1) (by have := hA0.nv; omega) hA0.rv hB0.rv
  have C2 := Lib.hid (fun V2 (h : Below V.heap.size V V2) => eq_F (c := c2) (d := d2) p.faces q.faces e2 f2 (fun z hz => (hA0.pf z hz).1) (by have := hA0.nf; omega) (Nat.le_trans hbs1 h.size) (hA0.rf.frb (FrB.of hbs1 h)) (hB0.rf.frb (FrB.of hbs1 h)))
  have C3 := Lib.hid (fun V2 (h : Below V.heap.size V V2) => eq_C (c := c3) (d := d3) p.creases q.creases e3 f3 (fun z hz => (hA0.pc z hz).1) (fun z hz => (hB0.pc z hz).1) (by have := hA0.nc; omega) (hA0.rc.frb (FrB.of hbs1 h)) (hB0.rc.frb (FrB.of hbs1 h)))
  have C1' := Lib.hid (show Tells Tryz.prog 39 _ V (p.verts = q.verts) from C1)
  clear C1 hA0 hB0 KA KB kk
  replace cell1 := Lib.hid cell1
  by_cases h1 : p.verts = q.verts
  · by_cases h2 : p.faces = q.faces
    · go_wp2_with (first
        | (go_at_call 39; (with_reducible refine Calls.mono (C1'.out.yes h1) ?_); rintro e V1 ⟨rfl, hB1⟩; obtain ⟨y1, y2, y3, y4, y5, y6, y7, y8, y9, y10⟩ := cell1.out V1 hB1)
        | (go_at_call 40; (with_reducible refine Calls.mono ((C2.out _ hB1).yes h2) ?_); rintro e V2 ⟨rfl, hB2⟩; replace hB2 := hB1.trans (hB2.mono hB1.size); obtain ⟨z1, z2, z3, z4, z5, z6, z7, z8, z9, z10⟩ := cell1.out V2 hB2)
        | (go_at_call 41; (with_reducible refine Calls.mono (C3.out _ hB2) ?_); rintro e V3 ⟨b3, rfl, hb3, hB3⟩))
      go_ret
      exact ⟨b3, rfl, by rw [hb3, hE]; simp [h1, h2], hb2.out.trans ((hB2.trans (hB3.mono hB2.size)).mono hb2.out.size)⟩
    · go_wp2_with (first
        | (go_at_call 39; (with_reducible refine Calls.mono (C1'.out.yes h1) ?_); rintro e V1 ⟨rfl, hB1⟩; obtain ⟨y1, y2, y3, y4, y5, y6, y7, y8, y9, y10⟩ := cell1.out V1 hB1)
        | (go_at_call 40; (with_reducible refine Calls.mono ((C2.out _ hB1).no h2) ?_); rintro e V2 ⟨rfl, hB2⟩; replace hB2 := hB1.trans (hB2.mono hB1.size)))
      go_ret
      exact ⟨false, rfl, ⟨fun h => (by cases h), fun h => absurd (hE.1 h).2.1 h2⟩, hb2.out.trans (hB2.mono hb2.out.size)⟩
  · go_wp2_with (go_at_call 39; (with_reducible refine Calls.mono (C1'.out.no h1) ?_); rintro e V1 ⟨rfl, hB1⟩)
    go_ret
    exact ⟨false, rfl, ⟨fun h => (by cases h), fun h => absurd (hE.1 h).1 h1⟩, hb2.out.trans (hB1.mono hb2.out.size)⟩
end Go.Proofs.YtdkgbdecmgligaaGreatDoor

/- The program's comparisons: lists of cages, scenes. -/
namespace Go.Proofs.YtdkgbdecmgligaaGreatDoor
open Go.RowKit
set_option linter.unusedVariables false
set_option linter.unusedSimpArgs false
set_option linter.unnecessarySimpa false
theorem CRB.at_ {base : Nat} {W : World} {A : Option Addr} {cs : List CageM} (h : CRB base W A cs) (i : Nat) (hi : i < cs.length) : ∃ b off A1 A2 A3 c1 c2 c3, A = some ⟨b, off, none⟩ ∧ b < W.heap.size ∧ W.rangeAt b (off + i * 3) [.slice A1 cs[i].verts.length c1, .slice A2 cs[i].faces.length c2, .slice A3 cs[i].creases.length c3] ∧ CB base W A1 A2 A3 cs[i] := by
  obtain ⟨b, off, e, hb, hc⟩ := h (by omega)
  obtain ⟨A1, A2, A3, c1, c2, c3, ⟨h1, h2, h3⟩, h4⟩ := hc i hi
  exact ⟨b, off, A1, A2, A3, c1, c2, c3, e, hb.1, rng3 h1 h2 h3, h4⟩
set_option maxRecDepth 100000 in
set_option maxHeartbeats 4000000 in
theorem eq_Cg {base n m c d k : Nat} {A B : Option Addr} {W : World} (ps qs : List CageM) (hn : ps.length = n) (hm : qs.length = m) (hnm : n ≤ 1048576) (hbs : base ≤ W.heap.size) (hA : CRB base W A ps) (hB : CRB base W B qs) (hk : Blk W k 77 #[.func (Fn.func 35) #[] #[]]) :
    Tells Tryz.prog 46 #[.slice A n c, .slice B m d, .func (Fn.func 38) #[] #[.pointer (some ⟨k, 0, none⟩)]] W (ps = qs) := by
  unfold Tells
  by_cases hl : n = m
  · subst hl
    go_enter Tryz.func46, Tryz.ntmps46
    go_wp2_with fail
    go_loopw [17] (fun i wr => ∃ (j : Nat), i = .int .i64 (j : Int) ∧ j ≤ n ∧ ps.take j = qs.take j ∧ Hid (Below W.heap.size W wr)) (fun i _ => n - (intOf i).toNat)
    case atStart => exact ⟨0, rfl, by omega, rfl, Lib.hid (Below.refl _ _)⟩
    case round =>
      obtain ⟨j, rfl, hj, hT, hBr⟩ := hrel
      by_cases hlt : j < n
      · have h1 : j < ps.length := by omega
        have h2 : j < qs.length := by omega
        have hFr := FrB.of hbs hBr.out
        obtain ⟨b, off, A1, A2, A3, a1, a2, a3, rfl, hbl, hr, hN⟩ := (hA.frb hFr).at_ j h1
        obtain ⟨b2, off2, B1, B2, B3, b1, b22, b3, rfl, hbl2, hr2, hN2⟩ := (hB.frb hFr).at_ j h2
        have hk2 := hk.below hBr.out
        have k0 : (0 : Int) ≤ (j : Int) := by omega
        have k1 : (j : Int) < (n : Int) := by omega
        have hT2 := take_step h1 h2 hT
        have hno : ps[j] ≠ qs[j] → ps ≠ qs := fun h e => h (by subst e; rfl)
        clear hA hB hk
        generalize ps[j] = p1 at *
        generalize qs[j] = q1 at *
        have hbs2 : base ≤ wr.heap.size := Nat.le_trans hbs hBr.out.size
        obtain ⟨v1, e1⟩ : ∃ v, v = Value.slice A1 p1.verts.length a1 := ⟨_, rfl⟩
        obtain ⟨v2, e2⟩ : ∃ v, v = Value.slice A2 p1.faces.length a2 := ⟨_, rfl⟩
        obtain ⟨v3, e3⟩ : ∃ v, v = Value.slice A3 p1.creases.length a3 := ⟨_, rfl⟩
        obtain ⟨u1, f1⟩ : ∃ v, v = Value.slice B1 q1.verts.length b1 := ⟨_, rfl⟩
        obtain ⟨u2, f2⟩ : ∃ v, v = Value.slice B2 q1.faces.length b22 := ⟨_, rfl⟩
        obtain ⟨u3, f3⟩ : ∃ v, v = Value.slice B3 q1.creases.length b3 := ⟨_, rfl⟩
        have hB1 : Below wr.heap.size wr (wr.alloc (.cells #[.slice A1 p1.verts.length a1, .slice A2 p1.faces.length a2, .slice A3 p1.creases.length a3] 48)) := bel_alloc (Below.refl _ _) _
        have hr3 := rng_bel hr2 hbl2 hB1
        have hB2 : Below wr.heap.size wr ((wr.alloc (.cells #[.slice A1 p1.verts.length a1, .slice A2 p1.faces.length a2, .slice A3 p1.creases.length a3] 48)).alloc (.cells #[.slice B1 q1.verts.length b1, .slice B2 q1.faces.length b22, .slice B3 q1.creases.length b3] 48)) := bel_alloc (bel_alloc (Below.refl _ _) _) _
        have C := sm3 (c1 := a1) (c2 := a2) (c3 := a3) (d1 := b1) (d2 := b22) (d3 := b3) p1 q1 (Nat.le_trans hbs2 hB2.size) (hN.frb (FrB.of hbs2 hB2)) (hN2.frb (FrB.of hbs2 hB2)) (hk2.below hB2)
        clear e1 e2 e3 f1 f2 f3
        generalize p1.verts.length = l1 at *
        generalize p1.faces.length = l2 at *
        generalize p1.creases.length = l3 at *
        generalize q1.verts.length = m1 at *
        generalize q1.faces.length = m2 at *
        generalize q1.creases.length = m3 at *
        replace hr := Lib.hid hr
        replace hr3 := Lib.hid hr3
        replace hB2 := Lib.hid (hBr.out.trans (hB2.mono hBr.out.size))
        clear hN hN2 hr2 hB1 hk2
        by_cases hxy : p1 = q1
        · replace C := Lib.hid (C.yes hxy)
          replace hT2 := hT2 hxy
          clear hxy hno
          go_wp2_with (first | (refine wpList_load_mid rfl 48 _ rfl b (off + j * 3) rfl [.slice A1 l1 a1, .slice A2 l2 a2, .slice A3 l3 a3] _ hr.out Tryz.underlying48 rfl infoCg3 ?_) | (refine wpList_load_mid rfl 48 _ rfl b2 (off2 + j * 3) rfl [.slice B1 m1 b1, .slice B2 m2 b22, .slice B3 m3 b3] _ hr3.out Tryz.underlying48 rfl infoCg3 ?_) | (go_at_call 38; (with_reducible refine Calls.mono C.out ?_); rintro e W1 ⟨rfl, hB3⟩))
          go_roundw
          case rel => exact ⟨j + 1, by go_num, by omega, hT2, Lib.hid (hB2.out.trans (hB3.mono hB2.out.size))⟩
          case measure => simp [intOf] <;> omega
        · have hne := Lib.hid (hno hxy)
          replace C := Lib.hid (C.no hxy)
          clear hxy hno hT2
          go_wp2_with (first | (refine wpList_load_mid rfl 48 _ rfl b (off + j * 3) rfl [.slice A1 l1 a1, .slice A2 l2 a2, .slice A3 l3 a3] _ hr.out Tryz.underlying48 rfl infoCg3 ?_) | (refine wpList_load_mid rfl 48 _ rfl b2 (off2 + j * 3) rfl [.slice B1 m1 b1, .slice B2 m2 b22, .slice B3 m3 b3] _ hr3.out Tryz.underlying48 rfl infoCg3 ?_) | (go_at_call 38; (with_reducible refine Calls.mono C.out ?_); rintro e W1 ⟨rfl, hB3⟩))
          go_ret
          exact ⟨false, rfl, ⟨fun h => (by cases h), fun h => absurd h hne.out⟩, hB2.out.trans (hB3.mono hB2.out.size)⟩
      · obtain rfl : j = n := by omega
        go_wp2_with fail
        go_ret
        refine ⟨true, rfl, ⟨fun _ => ?_, fun _ => rfl⟩, hBr.out⟩
        rw [List.take_of_length_le (by omega), List.take_of_length_le (by omega)] at hT
        exact hT
  · have hl2 : ¬ (n : Int) = (m : Int) := by omega
    go_enter Tryz.func46, Tryz.ntmps46
    go_wp2_with fail
    go_ret
    exact ⟨false, rfl, ⟨fun h => (by cases h), fun h => absurd (by rw [← hn, ← hm, h]) hl⟩, Below.refl _ _⟩
end Go.Proofs.YtdkgbdecmgligaaGreatDoor
