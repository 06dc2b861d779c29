/- The program's own scene: what must hold; points and colours. -/
import Derived.Test.YtdkgbdecmgligaaGreatDoorScnO
import Derived.WalkLawsBesides
import Derived.Test.YtdkgbdecmgligaaGreatDoorProg
import Derived.Test.YtdkgbdecmgligaaGreatDoorLeaf
import Derived.Test.YtdkgbdecmgligaaGreatDoorMScnAB
import Derived.Test.YtdkgbdecmgligaaGreatDoorLexP3
namespace Go.Proofs.YtdkgbdecmgligaaGreatDoor
open Go.RowKit
set_option linter.unusedVariables false
set_option linter.unusedSimpArgs false
/-- The program's own panic, by an error. -/
def pan (k : Int) : Ending := .panicked [{ v := .iface 37 (.int .i64 k), recovered := false }]
theorem need_yes (w : World) (k : Int) :
    Calls Tryz.prog 108 #[.bool true, .int .i64 k] w fun e w' => e = .returned (.tuple #[]) ∧ w' = w := by
  go_enter Tryz.func108, Tryz.ntmps108
  go_wp2
  go_end0
  exact ⟨rfl, rfl⟩
theorem need_no (w : World) (k : Int) :
    Calls Tryz.prog 108 #[.bool false, .int .i64 k] w fun e w' => e = .panicked [{ v := .iface 37 (.int .i64 k), recovered := false }] ∧ w' = w := by
  go_enter Tryz.func108, Tryz.ntmps108
  go_wp2
  exact ⟨rfl, rfl, rfl⟩
theorem need_any (w : World) (b : Bool) (k : Int) :
    Calls Tryz.prog 108 #[.bool b, .int .i64 k] w fun e w' => (b = true ∧ e = .returned (.tuple #[]) ∧ w' = w) ∨ (b = false ∧ e = .panicked [{ v := .iface 37 (.int .i64 k), recovered := false }] ∧ w' = w) := by
  cases b
  · exact (need_no w k).mono fun e w' h => .inr ⟨rfl, h.1, h.2⟩
  · exact (need_yes w k).mono fun e w' h => .inl ⟨rfl, h.1, h.2⟩
end Go.Proofs.YtdkgbdecmgligaaGreatDoor

/- The program's own scene: within, point, color. -/
namespace Go.Proofs.YtdkgbdecmgligaaGreatDoor
open Go.RowKit
set_option linter.unusedVariables false
set_option linter.unusedSimpArgs false
/-- All are from the least on up to the most. -/
def inB (lo hi : Int) (l : List Int) : Bool := l.all fun x => decide (lo ≤ x) && decide (x ≤ hi)
theorem inB_wi (n : List Int) (a b : Nat) (lo hi : Int) : inB lo hi ((n.take b).drop a) = wi n a b lo hi := rfl
theorem inB_one (lo hi x : Int) : inB lo hi [x] = (decide (lo ≤ x) && decide (x ≤ hi)) := by unfold inB; simp
theorem inB_succ (lo hi : Int) (l : List Int) (k : Nat) (h : k < l.length) : inB lo hi (l.take (k + 1)) = (inB lo hi (l.take k) && (decide (lo ≤ l.getD k 0) && decide (l.getD k 0 ≤ hi))) := by
  unfold inB
  rw [List.take_succ_eq_append_getElem h, List.all_append]
  simp [List.getD, h]
theorem inB_false (lo hi : Int) (l : List Int) (k : Nat) (h : k < l.length) (hq : ¬ (lo ≤ l.getD k 0 ∧ l.getD k 0 ≤ hi)) : inB lo hi l = false := by
  cases e : inB lo hi l
  · rfl
  · exfalso
    unfold inB at e
    have := List.all_eq_true.1 e (l.getD k 0) (by simp [List.getD, h])
    simp only [Bool.and_eq_true, decide_eq_true_eq] at this
    exact hq this
theorem IF.sub {W : World} {b off : Nat} {ns : List Int} (h : IF W (some ⟨b, off, none⟩) ns) (a e : Nat) (he : e ≤ ns.length) : IF W (some ⟨b, off + a, none⟩) ((ns.take e).drop a) := fun h0 => by
  have hl : a < e := by rw [List.length_drop, List.length_take] at h0; omega
  obtain ⟨b2, off2, q, hb, hc⟩ := h (by omega)
  cases q
  refine ⟨b, off + a, rfl, hb, fun i hi => ?_⟩
  rw [List.length_drop, List.length_take] at hi
  rw [Nat.add_assoc, hc (a + i) (by omega)]
  congr 2
  have h1 : a + i < ns.length := by omega
  simp [List.getD, h1]
  rw [List.getElem?_take_of_lt (by omega)]
  simp [h1]
set_option maxHeartbeats 1000000 in
theorem pwithin_core (w : World) (A : Option Addr) (n c : Nat) (lo hi : Int) (l : List Int) (hn : l.length = n) (hn2 : n ≤ 1048576) (hI : IF w A l) (r : Bool) (hr : inB lo hi l = r) (E : Ending) (hE : Hid ((r = true → E = .returned (.tuple #[])) ∧ (r = false → E = Ending.panicked [{ v := Value.iface 37 (.int .i64 11), recovered := false }]))) :
    Calls Tryz.prog 110 #[.int .i64 lo, .int .i64 hi, .slice A n c] w fun e w' => e = E ∧ ∃ x, w' = grow w x := by
  have HR := Lib.hid hr
  clear hr
  go_enter Tryz.func110, Tryz.ntmps110
  go_wp2
  go_loop [10] (fun i => ∃ k : Nat, i = .int .i64 (k : Int) ∧ k ≤ n ∧ Hid (inB lo hi (l.take k) = true)) (fun i => n - (intOf i).toNat)
  case atStart => exact ⟨0, rfl, by omega, Lib.hid rfl⟩
  case round =>
    obtain ⟨k, rfl, hk, hall⟩ := hrel
    by_cases hlt : k < n
    · obtain ⟨b, off, rfl, hbl, hcell⟩ := hI (by omega)
      have hx := hcell k (by omega)
      have k0 : (0 : Int) ≤ (k : Int) := by omega
      have k1 : (k : Int) < (n : Int) := by omega
      have ON := Lib.hid (show lo ≤ l.getD k 0 → l.getD k 0 ≤ hi → inB lo hi (l.take (k + 1)) = true from fun q1 q2 => by
        rw [inB_succ lo hi l k (by omega), hall.out, decide_eq_true q1, decide_eq_true q2]; rfl)
      have OFF := Lib.hid (show ¬ (lo ≤ l.getD k 0 ∧ l.getD k 0 ≤ hi) → r = false from fun q => by rw [← HR.out]; exact inB_false lo hi l k (by omega) q)
      generalize l.getD k 0 = x at *
      clear hcell hI
      rcases (by omega : x < lo ∨ (lo ≤ x ∧ hi < x) ∨ (lo ≤ x ∧ x ≤ hi)) with q | ⟨q, q2⟩ | ⟨q, q2⟩
      · have HF := Lib.hid (OFF.out (by omega))
        clear ON OFF
        go_wp2_with (go_at_call 108; refine (need_no _ _).mono ?_; rintro e _ ⟨rfl, rfl⟩)
        exact ⟨rfl, (hE.out.2 HF.out).symm, grow_of (Below.refl _ _)⟩
      · have HF := Lib.hid (OFF.out (by omega))
        have q3 : ¬ x ≤ hi := by omega
        clear ON OFF q2
        go_wp2_with (go_at_call 108; refine (need_no _ _).mono ?_; rintro e _ ⟨rfl, rfl⟩)
        exact ⟨rfl, (hE.out.2 HF.out).symm, grow_of (Below.refl _ _)⟩
      · have HT := Lib.hid (ON.out q q2)
        clear ON OFF
        go_wp2_with (go_at_call 108; refine (need_yes _ _).mono ?_; rintro e _ ⟨rfl, rfl⟩)
        go_round
        case rel => exact ⟨k + 1, by go_num, by omega, HT⟩
        case measure => simp [intOf] <;> omega
    · obtain rfl : k = n := by omega
      have HT := Lib.hid (show r = true by rw [← HR.out, ← hall.out, ← hn, List.take_length])
      go_wp2
      go_end0
      exact ⟨(hE.out.1 HT.out).symm, grow_of (Below.refl _ _)⟩
theorem pwithin_any (w : World) (A : Option Addr) (n c : Nat) (lo hi : Int) (l : List Int) (hn : l.length = n) (hn2 : n ≤ 1048576) (hI : IF w A l) :
    Calls Tryz.prog 110 #[.int .i64 lo, .int .i64 hi, .slice A n c] w fun e w' => ((inB lo hi l = true ∧ e = .returned (.tuple #[])) ∨ (inB lo hi l = false ∧ e = Ending.panicked [{ v := Value.iface 37 (.int .i64 11), recovered := false }])) ∧ ∃ x, w' = grow w x :=
  by
  cases q : inB lo hi l
  · exact (pwithin_core w A n c lo hi l hn hn2 hI _ q _ (Lib.hid ⟨fun h => (by cases h), fun _ => rfl⟩)).mono fun e w' ⟨h, hx⟩ => ⟨.inr ⟨rfl, h⟩, hx⟩
  · exact (pwithin_core w A n c lo hi l hn hn2 hI _ q _ (Lib.hid ⟨fun _ => rfl, fun h => (by cases h)⟩)).mono fun e w' ⟨h, hx⟩ => ⟨.inl ⟨rfl, h⟩, hx⟩
set_option maxHeartbeats 1000000 in
theorem ppoint_any (w : World) (A : Option Addr) (n c : Nat) (ns : List Int) (hn : ns.length = n) (hn2 : n ≤ 1048576) (ha : 3 ≤ n) (hI : IF w A ns) :
    Calls Tryz.prog 111 #[.slice A n c] w fun e w' => e = .returned (.agg #[.int .i64 (ns.getD 0 0), .int .i64 (ns.getD 1 0), .int .i64 (ns.getD 2 0)]) ∧ ∃ x, w' = grow w x := by
  obtain ⟨g, off, rfl, hgl, hcell⟩ := hI (by omega)
  have c0 := hcell 0 (by omega)
  rw [Nat.add_zero] at c0
  have c1 := hcell 1 (by omega)
  have c2 := hcell 2 (by omega)
  have k1 : (2 : Int) < (n : Int) := by omega
  generalize ns.getD 0 0 = p1 at *
  generalize ns.getD 1 0 = p2 at *
  generalize ns.getD 2 0 = p3 at *
  clear hcell hI
  go_enter Tryz.func111, Tryz.ntmps111
  go_wp2_with fail
  refine wp_region_tail 9 ?_ (by kernel_rfl) (by kernel_rfl) (by kernel_rfl) (fun x => ?_) (fun x => ?_)
  rotate_left
  · simp only [List.take_succ_cons, List.take_zero]
    repeat (go_big_quiet_step (((fail))))
    refine wpQuiet_nil ?_
    exact rfl
  simp only [List.drop_succ_cons, List.drop_zero]
  try simp only [Act.put, List.setIfInBounds_toArray, List.set_cons_succ, List.set_cons_zero]
  go_wp2_with fail
  refine bodyPost_ret (v := .agg #[.int .i64 p1, .int .i64 p2, .int .i64 p3]) (by simp [results, Tryz.results111, go_sem]) rfl ⟨rfl, grow_of (by repeat (first | with_reducible exact Below.refl _ _ | with_reducible refine bel_then ?_ _ | with_reducible refine bel_grow ?_ _ | with_reducible refine bel_alloc ?_ _ | with_reducible refine bel_drew ?_ | with_reducible refine bel_set ?_ (by simp) _ | with_reducible refine bel_setRow ?_ (by first | omega | (simp; done)) _))⟩
set_option maxHeartbeats 1000000 in
theorem pcolor_any (w : World) (A : Option Addr) (n c : Nat) (ns : List Int) (hn : ns.length = n) (hn2 : n ≤ 1048576) (ha : 3 ≤ n) (hI : IF w A ns) :
    Calls Tryz.prog 112 #[.slice A n c] w fun e w' => e = .returned (.agg #[.int .i64 (ns.getD 0 0), .int .i64 (ns.getD 1 0), .int .i64 (ns.getD 2 0)]) ∧ ∃ x, w' = grow w x := by
  obtain ⟨g, off, rfl, hgl, hcell⟩ := hI (by omega)
  have c0 := hcell 0 (by omega)
  rw [Nat.add_zero] at c0
  have c1 := hcell 1 (by omega)
  have c2 := hcell 2 (by omega)
  have k1 : (2 : Int) < (n : Int) := by omega
  generalize ns.getD 0 0 = p1 at *
  generalize ns.getD 1 0 = p2 at *
  generalize ns.getD 2 0 = p3 at *
  clear hcell hI
  go_enter Tryz.func112, Tryz.ntmps112
  go_wp2_with fail
  refine wp_region_tail 9 ?_ (by kernel_rfl) (by kernel_rfl) (by kernel_rfl) (fun x => ?_) (fun x => ?_)
  rotate_left
  · simp only [List.take_succ_cons, List.take_zero]
    repeat (go_big_quiet_step (((fail))))
    refine wpQuiet_nil ?_
    exact rfl
  simp only [List.drop_succ_cons, List.drop_zero]
  try simp only [Act.put, List.setIfInBounds_toArray, List.set_cons_succ, List.set_cons_zero]
  go_wp2_with fail
  refine bodyPost_ret (v := .agg #[.int .i64 p1, .int .i64 p2, .int .i64 p3]) (by simp [results, Tryz.results112, go_sem]) rfl ⟨rfl, grow_of (by repeat (first | with_reducible exact Below.refl _ _ | with_reducible refine bel_then ?_ _ | with_reducible refine bel_grow ?_ _ | with_reducible refine bel_alloc ?_ _ | with_reducible refine bel_drew ?_ | with_reducible refine bel_set ?_ (by simp) _ | with_reducible refine bel_setRow ?_ (by first | omega | (simp; done)) _))⟩
end Go.Proofs.YtdkgbdecmgligaaGreatDoor

/- The program's own scene: numbers. -/
namespace Go.Proofs.YtdkgbdecmgligaaGreatDoor
open Go.RowKit
set_option linter.unusedVariables false
set_option linter.unusedSimpArgs false
def pnumsPost (w : World) (l : List Wd) (e : Ending) (w' : World) : Prop := Below w.heap.size w w' ∧ match numsF l with
  | none => e = Ending.panicked [{ v := Value.iface 37 (.int .i64 10), recovered := false }]
  | some ns => ∃ b, e = .returned (.slice (some ⟨b, 0, none⟩) ns.length ns.length) ∧ w'.ownsRow w.heap.size 3 1 (.slice (some ⟨b, 0, none⟩) ns.length ns.length) ns.length (i64s ns)
theorem zeros_made (n : Nat) : (madeCells (Value.int IntKind.i64 0).cells (n * 1)).toList = List.replicate n (.int .i64 0) := by
  rw [Nat.mul_one]
  exact toList_madeCells_one _ n
theorem set_made (l : List Int) (n k : Nat) (x : Int) (hk : k < n) (hl : l.length = k) : (i64s l ++ List.replicate (n - k) (Value.int .i64 0)).set k (.int .i64 x) = i64s (l ++ [x]) ++ List.replicate (n - (k + 1)) (Value.int .i64 0) := by
  have e : n - k = (n - (k + 1)) + 1 := by omega
  have hl2 : (i64s l).length = k := by rw [i64s_len, hl]
  rw [e, List.replicate_succ, List.set_append_right _ _ (by omega), hl2, Nat.sub_self, List.set_cons_zero, ← i64s_app]
  simp
set_option maxHeartbeats 1000000 in
theorem pnumbers_any (w : World) (A : Option Addr) (c n : Nat) (l : List Wd) (hn : l.length = n) (hl : n ≤ 65537) (hA : SFW w A l) :
    Calls Tryz.prog 109 #[.slice A n c] w fun e w' => pnumsPost w l e w' := by
  obtain ⟨i0, hi0, hz0, hz1, hz2⟩ := info_parts infoI
  have hAll := Lib.hid (numsF_eq l)
  go_enter Tryz.func109, Tryz.ntmps109
  go_wp2_with (at_make; refine wpList_make_full w rfl _ _ 49 rfl w.heap.size 3 i0 _ 1 Tryz.underlying49 hi0 hz0 hz1 .i64 .i64 _ _ n rfl rfl rfl rfl (by rw [hz2]; omega) (by unfold maxLen; omega) (Nat.le_refl _) ?_; intro w1 hown0 hgr0; rw [zeros_made] at hown0)
  have hb0 : Below w.heap.size w w1 := ⟨hgr0.os, hgr0.tape, hgr0.output, hgr0.size, fun k hk => hgr0.block k hk (by simp)⟩
  obtain ⟨g, hg⟩ : ∃ g, g = w.heap.size := ⟨_, rfl⟩
  rw [← hg]
  rw [← hg] at hown0
  have hgl : w.heap.size ≤ g := by omega
  clear hg
  go_loopw [13] (fun i wr => ∃ k : Nat, i = .int .i64 (k : Int) ∧ k ≤ n ∧ wr.ownsRow g 3 1 (.slice (some ⟨g, 0, none⟩) n n) n (i64s ((l.take k).map fun w => (nW w).1) ++ List.replicate (n - k) (.int .i64 0)) ∧ Below w.heap.size w wr ∧ Hid (((l.take k).all fun w => (nW w).2) = true)) (fun i _ => n - (intOf i).toNat)
  case atStart => exact ⟨0, rfl, by omega, by simpa [i64s] using hown0, hb0, Lib.hid rfl⟩
  case round =>
    obtain ⟨k, rfl, hk, hown, hbw, hall⟩ := hrel
    by_cases hlt : k < n
    · have hlk : k < l.length := by omega
      obtain ⟨b, off, rfl, hbl, hcell⟩ := hA (by omega)
      have hc := (hbw.cell (p := ⟨b, off + k, none⟩) hbl).trans (hcell k hlk)
      have he : l.getD k [] = l[k] := by simp [List.getD, hlk]
      simp only [he] at hc
      have ht : l.take (k + 1) = l.take k ++ [l[k]] := List.take_succ_eq_append_getElem hlk
      have hbr : b < wr.heap.size := Nat.lt_of_lt_of_le hbl hbw.size
      have hgr : g < wr.heap.size := (hown.lt g rfl).2
      have cN := lNum_any ⟨(l[k]).toArray⟩
      have k0 : (0 : Int) ≤ (k : Int) := by omega
      have k1 : (k : Int) < (n : Int) := by omega
      have NX := Lib.hid (set_made ((l.take k).map fun w => (nW w).1) n k (nW l[k]).1 hlt (by simp; omega))
      have NX2 := Lib.hid (show (l.take (k + 1)).map (fun w => (nW w).1) = (l.take k).map (fun w => (nW w).1) ++ [(nW l[k]).1] by rw [ht, List.map_append]; rfl)
      have AX := Lib.hid (show (nW l[k]).2 = true → ((l.take (k + 1)).all fun w => (nW w).2) = true from fun q => by rw [ht, List.all_append, hall.out]; simp [q])
      have AN := Lib.hid (show (nW l[k]).2 = false → numsF l = none from fun q => by
        rw [hAll.out, if_neg]
        intro h
        have := List.all_eq_true.1 h l[k] (List.getElem_mem hlk)
        rw [q] at this
        cases this)
      have HO := Lib.hid (hown.stored k (.int .i64 (nW l[k]).1)).1
      have e1 : numV ⟨(l[k]).toArray⟩ = nW l[k] := rfl
      rw [e1] at cN
      rw [← NX2.out] at NX
      clear NX2 he
      generalize (nW l[k]).1 = N at *
      cases q : (nW l[k]).2
      · rw [q] at cN
        have HN := Lib.hid (AN.out q)
        clear AX AN NX e1 q HO
        go_wp2_with (first | (go_at_call 126; refine (cN.at_ _).mono ?_; rintro e _ ⟨rfl, x, rfl⟩) | (go_at_call 108; refine (need_no _ _).mono ?_; rintro e _ ⟨rfl, rfl⟩))
        refine ⟨rfl, ?_⟩
        unfold pnumsPost
        rw [HN.out]
        exact ⟨bel_grow hbw _, rfl⟩
      · rw [q] at cN
        have HN := Lib.hid (AX.out q)
        clear AX AN e1 q
        have hv0 : wr.cell? ⟨g, k, none⟩ = some ((i64s ((l.take k).map fun w => (nW w).1) ++ List.replicate (n - k) (Value.int .i64 0))[k]'(by have := hown.1; omega)) := (hown.cellAt k (by omega)).trans (List.getElem?_eq_getElem _)
        generalize (i64s ((l.take k).map fun w => (nW w).1) ++ List.replicate (n - k) (Value.int .i64 0))[k]'(by have := hown.1; omega) = v0 at hv0
        have hz0 := hown.frozenAt k
        go_wp2_with (first | (go_at_call 126; refine (cN.at_ _).mono ?_; rintro e _ ⟨rfl, x, rfl⟩))
        go_wp2_with (go_at_call 108; refine (need_yes _ _).mono ?_; rintro e _ ⟨rfl, rfl⟩)
        have h1 := HO.out
        rw [NX.out] at h1
        go_roundw
        case rel => exact ⟨k + 1, by go_num, by omega, own_grow h1 _, bel_grow (bel_set hbw hgl _) _, HN⟩
        case measure => simp [intOf] <;> omega
    · obtain rfl : k = n := by omega
      have HF := Lib.hid (show numsF l = some (l.map fun w => (nW w).1) by
        have h := hall.out
        rw [← hn, List.take_length] at h
        rw [hAll.out, if_pos h])
      have hown2 : wr.ownsRow w.heap.size 3 1 (.slice (some ⟨g, 0, none⟩) (l.map fun w => (nW w).1).length (l.map fun w => (nW w).1).length) (l.map fun w => (nW w).1).length (i64s (l.map fun w => (nW w).1)) := by
        have hown := own_mono hown hgl
        rw [Nat.sub_self, List.replicate_zero, List.append_nil, ← hn, List.take_length] at hown
        simpa using hown
      have hlm : (l.map fun w => (nW w).1).length = k := by simp [hn]
      go_wp2
      refine bodyPost_ret (v := .slice (some ⟨g, 0, none⟩) k k) (by simp [results, Tryz.results109, go_sem]) rfl ?_
      unfold pnumsPost
      rw [HF.out]
      refine ⟨hbw, g, ?_, hown2⟩
      rw [hlm]
end Go.Proofs.YtdkgbdecmgligaaGreatDoor
