/- The document's own numbers and within (scenes). -/
import Derived.Test.YtdkgbdecmgligaaGreatDoorMScnMB
import Derived.Test.YtdkgbdecmgligaaGreatDoorMLexB
import Derived.Test.YtdkgbdecmgligaaGreatDoorMLexQ
namespace Go.Proofs.YtdkgbdecmgligaaGreatDoor
open Go.RowKit
set_option linter.unusedVariables false
set_option linter.unusedSimpArgs false
/-- A row of words lies from an address on. -/
def SFW (W : World) (A : Option Addr) (l : List Wd) : Prop := SF W A l.length (fun i => ⟨(l.getD i []).toArray⟩)
theorem SFW.below {W W' : World} {A : Option Addr} {l : List Wd} (h : SFW W A l) (hb : Below W.heap.size W W') : SFW W' A l := SF.below h hb
def i64s (l : List Int) : List Value := l.map fun x => .int .i64 x
theorem i64s_len (l : List Int) : (i64s l).length = l.length := by unfold i64s; simp
theorem i64s_app (l : List Int) (x : Int) : i64s l ++ [.int .i64 x] = i64s (l ++ [x]) := by unfold i64s; simp
theorem i64s_get (l : List Int) (k : Nat) (h : k < l.length) : (i64s l)[k]? = some (.int .i64 (l.getD k 0)) := by unfold i64s; simp [List.getD, h]
theorem numsF_eq : ∀ l : List Wd, numsF l = if (l.all fun w => (nW w).2) = true then some (l.map fun w => (nW w).1) else none
  | [] => rfl
  | w :: l => by
    unfold numsF
    rw [numsF_eq l]
    cases h : (nW w).2
    · simp [h]
    · simp only [if_true, List.all_cons, h, Bool.true_and, List.map_cons]
      split <;> rfl
theorem infoI : (Tryz.prog.info? 3).map (fun i => (i.zero, i.size, i.bytes)) = some (some (.int .i64 0), 1, 8) := by kernel_rfl
def numsPost (w : World) (l : List Wd) (e : Ending) (w' : World) : Prop := Below w.heap.size w w' ∧ match numsF l with
  | none => e = .returned (.tuple #[.slice none 0 0, .bool false])
  | some ns => ∃ v, e = .returned (.tuple #[v, .bool true]) ∧ w'.ownsRow w.heap.size 3 1 v ns.length (i64s ns)
set_option maxHeartbeats 1000000 in
theorem numbers_any (w : World) (A : Option Addr) (c n : Nat) (l : List Wd) (hn : l.length = n) (hl : n ≤ 65537) (hA : SFW w A l) :
    Calls Tryz.prog 93 #[.slice A n c] w fun e w' => numsPost w l e w' := by
  obtain ⟨i0, hi0, hz0, hz1, hz2⟩ := info_parts infoI
  have hAll := Lib.hid (numsF_eq l)
  go_enter Tryz.func93, Tryz.ntmps93
  go_wp2
  go_loopw [5, 4] (fun i v wr => ∃ k : Nat, i = .int .i64 (k : Int) ∧ k ≤ n ∧ wr.ownsRow w.heap.size 3 1 v k (i64s ((l.take k).map fun w => (nW w).1)) ∧ Below w.heap.size w wr ∧ Hid (((l.take k).all fun w => (nW w).2) = true)) (fun i _ _ => n - (intOf i).toNat)
  case atStart => exact ⟨0, rfl, by omega, World.ownsRow_made _ _ _ (Nat.le_refl _) (by unfold maxLen; omega) rfl, bel_alloc (Below.refl _ _) _, Lib.hid rfl⟩
  case round =>
    obtain ⟨k, rfl, hk, hown, hbw, hall⟩ := hrel
    by_cases hlt : k < n
    · have hlk : k < l.length := by omega
      obtain ⟨b, off, rfl, hbl, hcell⟩ := hA (by omega)
      have hc := (hbw.cell (p := ⟨b, off + k, none⟩) hbl).trans (hcell k hlk)
      have hg : l.getD k [] = l[k] := by simp [List.getD, hlk]
      simp only [hg] at hc
      have ht : l.take (k + 1) = l.take k ++ [l[k]] := List.take_succ_eq_append_getElem hlk
      have hbr : b < wr.heap.size := Nat.lt_of_lt_of_le hbl hbw.size
      have cN := rNum_any ⟨(l[k]).toArray⟩
      have k0 : (0 : Int) ≤ (k : Int) := by omega
      have k1 : (k : Int) < (n : Int) := by omega
      have NX := Lib.hid (show i64s ((l.take k).map fun w => (nW w).1) ++ [.int .i64 (nW l[k]).1] = i64s ((l.take (k + 1)).map fun w => (nW w).1) by rw [i64s_app, ht, List.map_append]; rfl)
      have AX := Lib.hid (show (nW l[k]).2 = true → ((l.take (k + 1)).all fun w => (nW w).2) = true from fun q => by rw [ht, List.all_append, hall.out]; simp [q])
      have AN := Lib.hid (show (nW l[k]).2 = false → numsF l = none from fun q => by
        rw [hAll.out, if_neg]
        intro h
        have := List.all_eq_true.1 h l[k] (List.getElem_mem hlk)
        rw [q] at this
        cases this)
      have e1 : numV ⟨(l[k]).toArray⟩ = nW l[k] := rfl
      rw [e1] at cN
      generalize (nW l[k]).1 = N at *
      cases q : (nW l[k]).2
      · rw [q] at cN
        have HN := Lib.hid (AN.out q)
        clear AX AN NX e1 q
        go_wp2_with (go_at_call 120; refine (cN _).mono ?_; rintro e _ ⟨rfl, x, rfl⟩)
        refine bodyPost_ret (v := .tuple #[.slice none 0 0, .bool false]) (by simp [results, Tryz.results93, go_sem]) rfl ?_
        unfold numsPost
        rw [HN.out]
        exact ⟨bel_grow hbw _, rfl⟩
      · rw [q] at cN
        have HN := Lib.hid (AX.out q)
        clear AX AN e1 q
        go_wp2_with (first | (go_at_call 120; refine (cN _).mono ?_; rintro e _ ⟨rfl, x, rfl⟩; have hown1 := own_grow hown x; have hbw1 := bel_grow hbw x) | (at_builtin; refine wpList_append_own _ rfl _ _ 49 rfl w.heap.size 3 i0 _ 1 8 Tryz.underlying49 hi0 hz0 hz1 hz2 rfl (by decide) _ _ _ rfl (hown1.alloc _) ⟨(grow wr x).heap.size, 0, none⟩ 1 1 [.int .i64 N] rfl rfl (cell_one_new _ _ _) (fun x hx => by simp at hx; subst hx; rfl) (by unfold maxLen; omega) (by omega) (by have := hbw1.size; simp; omega) ?_; intro v' w4 hown' hgrow hnil))
        have hb4 : Below w.heap.size w w4 := (bel_alloc hbw1 _).grown hgrow (by have := hbw1.size; simp; omega) (fun k hk => (hown.lt k hk).1)
        rw [NX.out] at hown'
        go_roundw
        case rel => exact ⟨k + 1, by go_num, by omega, hown', hb4, HN⟩
        case measure => simp [intOf] <;> omega
    · obtain rfl : k = n := by omega
      have HF := Lib.hid (show numsF l = some (l.map fun w => (nW w).1) by
        have h := hall.out
        rw [← hn, List.take_length] at h
        rw [hAll.out, if_pos h])
      have hown2 : wr.ownsRow w.heap.size 3 1 u4 (l.map fun w => (nW w).1).length (i64s (l.map fun w => (nW w).1)) := by
        rw [← hn, List.take_length] at hown
        simpa using hown
      obtain ⟨A2, c2, rfl⟩ := own_form hown2
      go_wp2
      refine bodyPost_ret (v := .tuple #[.slice A2 (l.map fun w => (nW w).1).length c2, .bool true]) (by simp [results, Tryz.results93, go_sem]) rfl ?_
      unfold numsPost
      rw [HF.out]
      exact ⟨hbw, _, rfl, hown2⟩
end Go.Proofs.YtdkgbdecmgligaaGreatDoor

/- The document's own within, color, point. -/
namespace Go.Proofs.YtdkgbdecmgligaaGreatDoor
open Go.RowKit
set_option linter.unusedVariables false
set_option linter.unusedSimpArgs false
/-- A row of numbers lies from an address on. -/
def IF (W : World) (A : Option Addr) (ns : List Int) : Prop := 0 < ns.length → ∃ b off, A = some ⟨b, off, none⟩ ∧ b < W.heap.size ∧ ∀ i, i < ns.length → W.cell? ⟨b, off + i, none⟩ = some (.int .i64 (ns.getD i 0))
theorem IF.below {W W' : World} {A : Option Addr} {ns : List Int} (h : IF W A ns) (hb : Below W.heap.size W W') : IF W' A ns := fun hn => by
  obtain ⟨b, off, e, hl, hc⟩ := h hn
  exact ⟨b, off, e, Nat.lt_of_lt_of_le hl hb.size, fun i hi => (hb.cell (p := ⟨b, _, none⟩) hl).trans (hc i hi)⟩
theorem IF_of_own {W : World} {base : Nat} {A : Option Addr} {n c : Nat} {ns : List Int} (h : W.ownsRow base 3 1 (.slice A n c) n (i64s ns)) (hn : ns.length = n) : IF W A ns := fun h0 => by
  rcases h.2 with ⟨h1, h2⟩ | ⟨g, cap, cur, h1, _, hg, _⟩
  · omega
  · injection h1 with hA _ hc
    subst hA hc
    refine ⟨g, 0, rfl, (h.lt g rfl).2, fun i hi => ?_⟩
    rw [Nat.zero_add, h.cellAt i (by omega), i64s_get ns i hi]
theorem wi_iff (n : List Int) (a b : Nat) (lo hi : Int) (hb : b ≤ n.length) : wi n a b lo hi = true ↔ ∀ j, a ≤ j → j < b → lo ≤ n.getD j 0 ∧ n.getD j 0 ≤ hi := by
  constructor
  · intro h j h1 h2
    exact wi_at h j h1 h2 (by omega)
  · intro h
    unfold wi
    rw [List.all_eq_true]
    intro x hx
    obtain ⟨j, hj, rfl⟩ := List.getElem_of_mem hx
    rw [List.length_drop, List.length_take] at hj
    have k := h (a + j) (by omega) (by omega)
    rw [List.getElem_drop, List.getElem_take]
    have e : n.getD (a + j) 0 = n[a + j]'(by omega) := by
      have : a + j < n.length := by omega
      simp [List.getD, this]
    rw [e] at k
    simp only [Bool.and_eq_true, decide_eq_true_eq]
    exact k
set_option maxHeartbeats 1000000 in
theorem within_core (w : World) (A : Option Addr) (n c a b : Nat) (lo hi : Int) (ns : List Int) (hn : ns.length = n) (hn2 : n ≤ 1048576) (hab : a ≤ b) (hb : b ≤ n) (hI : IF w A ns) (r : Bool) (hr : wi ns a b lo hi = r) :
    Calls Tryz.prog 94 #[.slice A n c, .int .i64 (a : Int), .int .i64 (b : Int), .int .i64 lo, .int .i64 hi] w fun e w' => e = .returned (.bool r) ∧ ∃ x, w' = grow w x := by
  have HW := Lib.hid (And.intro hr (wi_iff ns a b lo hi (by omega)))
  clear hr
  go_enter Tryz.func94, Tryz.ntmps94
  go_wp2
  go_loop [11] (fun i => ∃ k : Nat, i = .int .i64 (k : Int) ∧ a ≤ k ∧ k ≤ b ∧ Hid (∀ j, a ≤ j → j < k → lo ≤ ns.getD j 0 ∧ ns.getD j 0 ≤ hi)) (fun i => b - (intOf i).toNat)
  case atStart => exact ⟨a, rfl, Nat.le_refl _, hab, Lib.hid (fun j h1 h2 => by omega)⟩
  case round =>
    obtain ⟨k, rfl, hk1, hk2, hall⟩ := hrel
    by_cases hlt : k < b
    · obtain ⟨g, off, rfl, hgl, hcell⟩ := hI (by omega)
      have hc := hcell k (by omega)
      have k0 : (0 : Int) ≤ (k : Int) := by omega
      have k1 : (k : Int) < (n : Int) := by omega
      have k2 : (k : Int) < (b : Int) := by omega
      have ON := Lib.hid (show (lo ≤ ns.getD k 0 ∧ ns.getD k 0 ≤ hi) → ∀ j, a ≤ j → j < k + 1 → lo ≤ ns.getD j 0 ∧ ns.getD j 0 ≤ hi from fun q j h1 h2 => by
        by_cases e : j = k
        · subst e; exact q
        · exact hall.out j h1 (by omega))
      have OFF := Lib.hid (show ¬ (lo ≤ ns.getD k 0 ∧ ns.getD k 0 ≤ hi) → r = false from fun q => by
        cases r
        · rfl
        · exact absurd ((HW.out.2.1 HW.out.1) k hk1 hlt) q)
      generalize ns.getD k 0 = x at *
      rcases (by omega : x < lo ∨ (lo ≤ x ∧ hi < x) ∨ (lo ≤ x ∧ x ≤ hi)) with q | ⟨q, q2⟩ | ⟨q, q2⟩
      · have HF := Lib.hid (OFF.out (by omega))
        clear ON OFF
        go_wp2
        go_ret
        exact ⟨by rw [HF.out]; rfl, grow_of (Below.refl _ _)⟩
      · have HF := Lib.hid (OFF.out (by omega))
        clear ON OFF
        go_wp2
        go_ret
        exact ⟨by rw [HF.out]; rfl, grow_of (Below.refl _ _)⟩
      · have HT := Lib.hid (ON.out ⟨q, q2⟩)
        clear ON OFF
        go_wp2
        go_round
        case rel => exact ⟨k + 1, by go_num, by omega, by omega, HT⟩
        case measure => simp [intOf] <;> omega
    · obtain rfl : k = b := by omega
      have HT := Lib.hid (show r = true by rw [← HW.out.1]; exact HW.out.2.2 hall.out)
      go_wp2
      go_ret
      exact ⟨by rw [HT.out]; rfl, grow_of (Below.refl _ _)⟩
theorem within_any (w : World) (A : Option Addr) (n c a b : Nat) (lo hi : Int) (ns : List Int) (hn : ns.length = n) (hn2 : n ≤ 1048576) (hab : a ≤ b) (hb : b ≤ n) (hI : IF w A ns) :
    Calls Tryz.prog 94 #[.slice A n c, .int .i64 (a : Int), .int .i64 (b : Int), .int .i64 lo, .int .i64 hi] w fun e w' => e = .returned (.bool (wi ns a b lo hi)) ∧ ∃ x, w' = grow w x :=
  within_core w A n c a b lo hi ns hn hn2 hab hb hI _ rfl
set_option maxHeartbeats 1000000 in
theorem color_any (w : World) (A : Option Addr) (n c a : Nat) (ns : List Int) (hn : ns.length = n) (hn2 : n ≤ 1048576) (ha : a + 3 ≤ n) (hI : IF w A ns) :
    Calls Tryz.prog 96 #[.slice A n c, .int .i64 (a : Int)] w fun e w' => e = .returned (.agg #[.int .i64 (ns.getD a 0), .int .i64 (ns.getD (a + 1) 0), .int .i64 (ns.getD (a + 2) 0)]) ∧ ∃ x, w' = grow w x := by
  obtain ⟨g, off, rfl, hgl, hcell⟩ := hI (by omega)
  have c0 := hcell a (by omega)
  have c1 := hcell (a + 1) (by omega)
  have c2 := hcell (a + 2) (by omega)
  have k0 : (0 : Int) ≤ (a : Int) := by omega
  have k1 : (a : Int) + 2 < (n : Int) := by omega
  generalize ns.getD a 0 = p1 at *
  generalize ns.getD (a + 1) 0 = p2 at *
  generalize ns.getD (a + 2) 0 = p3 at *
  clear hcell hI
  go_enter Tryz.func96, Tryz.ntmps96
  go_wp2_with fail
  refine wp_region_tail 15 ?_ (by kernel_rfl) (by kernel_rfl) (by kernel_rfl) (fun x => ?_) (fun x => ?_)
  rotate_left
  · simp only [List.take_succ_cons, List.take_zero]
    repeat (go_big_quiet_step (((fail))))
    refine wpQuiet_nil ?_
    exact rfl
  simp only [List.drop_succ_cons, List.drop_zero]
  try simp only [Act.put, List.setIfInBounds_toArray, List.set_cons_succ, List.set_cons_zero]
  go_wp2_with fail
  refine bodyPost_ret (v := .agg #[.int .i64 p1, .int .i64 p2, .int .i64 p3]) (by simp [results, Tryz.results96, go_sem]) rfl ⟨rfl, grow_of (by repeat (first | with_reducible exact Below.refl _ _ | with_reducible refine bel_then ?_ _ | with_reducible refine bel_grow ?_ _ | with_reducible refine bel_alloc ?_ _ | with_reducible refine bel_drew ?_ | with_reducible refine bel_set ?_ (by simp) _ | with_reducible refine bel_setRow ?_ (by first | omega | (simp; done)) _))⟩
set_option maxHeartbeats 1000000 in
theorem point_any (w : World) (A : Option Addr) (n c a : Nat) (ns : List Int) (hn : ns.length = n) (hn2 : n ≤ 1048576) (ha : a + 3 ≤ n) (hI : IF w A ns) :
    Calls Tryz.prog 95 #[.slice A n c, .int .i64 (a : Int)] w fun e w' => e = .returned (.agg #[.int .i64 (ns.getD a 0), .int .i64 (ns.getD (a + 1) 0), .int .i64 (ns.getD (a + 2) 0)]) ∧ ∃ x, w' = grow w x := by
  obtain ⟨g, off, rfl, hgl, hcell⟩ := hI (by omega)
  have c0 := hcell a (by omega)
  have c1 := hcell (a + 1) (by omega)
  have c2 := hcell (a + 2) (by omega)
  have k0 : (0 : Int) ≤ (a : Int) := by omega
  have k1 : (a : Int) + 2 < (n : Int) := by omega
  generalize ns.getD a 0 = p1 at *
  generalize ns.getD (a + 1) 0 = p2 at *
  generalize ns.getD (a + 2) 0 = p3 at *
  clear hcell hI
  go_enter Tryz.func95, Tryz.ntmps95
  go_wp2_with fail
  refine wp_region_tail 15 ?_ (by kernel_rfl) (by kernel_rfl) (by kernel_rfl) (fun x => ?_) (fun x => ?_)
  rotate_left
  · simp only [List.take_succ_cons, List.take_zero]
    repeat (go_big_quiet_step (((fail))))
    refine wpQuiet_nil ?_
    exact rfl
  simp only [List.drop_succ_cons, List.drop_zero]
  try simp only [Act.put, List.setIfInBounds_toArray, List.set_cons_succ, List.set_cons_zero]
  go_wp2_with fail
  refine bodyPost_ret (v := .agg #[.int .i64 p1, .int .i64 p2, .int .i64 p3]) (by simp [results, Tryz.results95, go_sem]) rfl ⟨rfl, grow_of (by repeat (first | with_reducible exact Below.refl _ _ | with_reducible refine bel_then ?_ _ | with_reducible refine bel_grow ?_ _ | with_reducible refine bel_alloc ?_ _ | with_reducible refine bel_drew ?_ | with_reducible refine bel_set ?_ (by simp) _ | with_reducible refine bel_setRow ?_ (by first | omega | (simp; done)) _))⟩
end Go.Proofs.YtdkgbdecmgligaaGreatDoor
