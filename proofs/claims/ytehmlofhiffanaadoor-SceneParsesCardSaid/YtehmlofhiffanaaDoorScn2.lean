/- The document's own within, color, point. -/
import Derived.Test.YtehmlofhiffanaaDoorScn1
namespace Go.Proofs.YtehmlofhiffanaaDoor
open Go.RowKit
set_option linter.unusedVariables false
set_option linter.unusedSimpArgs false
/-- A row of numbers lies from an address on. -/
def IF (W : World) (A : Option Addr) (ns : List Int) : Prop := 0 < ns.length → ∃ b off, A = some ⟨b, off, none⟩ ∧ b < W.heap.size ∧ ∀ i, i < ns.length → W.cell? ⟨b, off + i, none⟩ = some (.int .i64 (ns.getD i 0))
theorem IF.below {W W' : World} {A : Option Addr} {ns : List Int} (h : IF W A ns) (hb : Below W.heap.size W W') : IF W' A ns := fun hn => by
  obtain ⟨b, off, e, hl, hc⟩ := h hn
  exact ⟨b, off, e, Nat.lt_of_lt_of_le hl hb.size, fun i hi => (hb.cell (p := ⟨b, _, none⟩) hl).trans (hc i hi)⟩
theorem IF_of_own {W : World} {base : Nat} {A : Option Addr} {n c : Nat} {ns : List Int} (h : W.ownsRow base 3 1 (.slice A n c) n (i64s ns)) (hn : ns.length = n) : IF W A ns := fun h0 => by
  rcases h.2 with ⟨h1, h2⟩ | ⟨g, cap, cur, h1, _, hg, _⟩
  · omega
  · injection h1 with hA _ hc
    subst hA hc
    refine ⟨g, 0, rfl, (h.lt g rfl).2, fun i hi => ?_⟩
    rw [Nat.zero_add, h.cellAt i (by omega), i64s_get ns i hi]
theorem wi_iff (n : List Int) (a b : Nat) (lo hi : Int) (hb : b ≤ n.length) : wi n a b lo hi = true ↔ ∀ j, a ≤ j → j < b → lo ≤ n.getD j 0 ∧ n.getD j 0 ≤ hi := by
  constructor
  · intro h j h1 h2
    exact wi_at h j h1 h2 (by omega)
  · intro h
    unfold wi
    rw [List.all_eq_true]
    intro x hx
    obtain ⟨j, hj, rfl⟩ := List.getElem_of_mem hx
    rw [List.length_drop, List.length_take] at hj
    have k := h (a + j) (by omega) (by omega)
    rw [List.getElem_drop, List.getElem_take]
    have e : n.getD (a + j) 0 = n[a + j]'(by omega) := by
      have : a + j < n.length := by omega
      simp [List.getD, this]
    rw [e] at k
    simp only [Bool.and_eq_true, decide_eq_true_eq]
    exact k
set_option maxHeartbeats 1000000 in
theorem within_core (w : World) (A : Option Addr) (n c a b : Nat) (lo hi : Int) (ns : List Int) (hn : ns.length = n) (hn2 : n ≤ 1048576) (hab : a ≤ b) (hb : b ≤ n) (hI : IF w A ns) (r : Bool) (hr : wi ns a b lo hi = r) :
    Calls Tryd.prog 43 #[.slice A n c, .int .i64 (a : Int), .int .i64 (b : Int), .int .i64 lo, .int .i64 hi] w fun e w' => e = .returned (.bool r) ∧ ∃ x, w' = grow w x := by
  have HW := Lib.hid (And.intro hr (wi_iff ns a b lo hi (by omega)))
  clear hr
  go_enter Tryd.func43, Tryd.ntmps43
  go_wp2
  go_loop [11] (fun i => ∃ k : Nat, i = .int .i64 (k : Int) ∧ a ≤ k ∧ k ≤ b ∧ Hid (∀ j, a ≤ j → j < k → lo ≤ ns.getD j 0 ∧ ns.getD j 0 ≤ hi)) (fun i => b - (intOf i).toNat)
  case atStart => exact ⟨a, rfl, Nat.le_refl _, hab, Lib.hid (fun j h1 h2 => by omega)⟩
  case round =>
    obtain ⟨k, rfl, hk1, hk2, hall⟩ := hrel
    by_cases hlt : k < b
    · obtain ⟨g, off, rfl, hgl, hcell⟩ := hI (by omega)
      have hc := hcell k (by omega)
      have k0 : (0 : Int) ≤ (k : Int) := by omega
      have k1 : (k : Int) < (n : Int) := by omega
      have k2 : (k : Int) < (b : Int) := by omega
      have ON := Lib.hid (show (lo ≤ ns.getD k 0 ∧ ns.getD k 0 ≤ hi) → ∀ j, a ≤ j → j < k + 1 → lo ≤ ns.getD j 0 ∧ ns.getD j 0 ≤ hi from fun q j h1 h2 => by
        by_cases e : j = k
        · subst e; exact q
        · exact hall.out j h1 (by omega))
      have OFF := Lib.hid (show ¬ (lo ≤ ns.getD k 0 ∧ ns.getD k 0 ≤ hi) → r = false from fun q => by
        cases r
        · rfl
        · exact absurd ((HW.out.2.1 HW.out.1) k hk1 hlt) q)
      generalize ns.getD k 0 = x at *
      rcases (by omega : x < lo ∨ (lo ≤ x ∧ hi < x) ∨ (lo ≤ x ∧ x ≤ hi)) with q | ⟨q, q2⟩ | ⟨q, q2⟩
      · have HF := Lib.hid (OFF.out (by omega))
        clear ON OFF
        go_wp2
        go_ret
        exact ⟨by rw [HF.out]; rfl, grow_of (Below.refl _ _)⟩
      · have HF := Lib.hid (OFF.out (by omega))
        clear ON OFF
        go_wp2
        go_ret
        exact ⟨by rw [HF.out]; rfl, grow_of (Below.refl _ _)⟩
      · have HT := Lib.hid (ON.out ⟨q, q2⟩)
        clear ON OFF
        go_wp2
        go_round
        case rel => exact ⟨k + 1, by go_num, by omega, by omega, HT⟩
        case measure => simp [intOf] <;> omega
    · obtain rfl : k = b := by omega
      have HT := Lib.hid (show r = true by rw [← HW.out.1]; exact HW.out.2.2 hall.out)
      go_wp2
      go_ret
      exact ⟨by rw [HT.out]; rfl, grow_of (Below.refl _ _)⟩
theorem within_any (w : World) (A : Option Addr) (n c a b : Nat) (lo hi : Int) (ns : List Int) (hn : ns.length = n) (hn2 : n ≤ 1048576) (hab : a ≤ b) (hb : b ≤ n) (hI : IF w A ns) :
    Calls Tryd.prog 43 #[.slice A n c, .int .i64 (a : Int), .int .i64 (b : Int), .int .i64 lo, .int .i64 hi] w fun e w' => e = .returned (.bool (wi ns a b lo hi)) ∧ ∃ x, w' = grow w x :=
  within_core w A n c a b lo hi ns hn hn2 hab hb hI _ rfl
set_option maxHeartbeats 1000000 in
theorem color_any (w : World) (A : Option Addr) (n c a : Nat) (ns : List Int) (hn : ns.length = n) (hn2 : n ≤ 1048576) (ha : a + 3 ≤ n) (hI : IF w A ns) :
    Calls Tryd.prog 45 #[.slice A n c, .int .i64 (a : Int)] w fun e w' => e = .returned (.agg #[.int .i64 (ns.getD a 0), .int .i64 (ns.getD (a + 1) 0), .int .i64 (ns.getD (a + 2) 0)]) ∧ ∃ x, w' = grow w x := by
  obtain ⟨g, off, rfl, hgl, hcell⟩ := hI (by omega)
  have c0 := hcell a (by omega)
  have c1 := hcell (a + 1) (by omega)
  have c2 := hcell (a + 2) (by omega)
  have k0 : (0 : Int) ≤ (a : Int) := by omega
  have k1 : (a : Int) + 2 < (n : Int) := by omega
  generalize ns.getD a 0 = p1 at *
  generalize ns.getD (a + 1) 0 = p2 at *
  generalize ns.getD (a + 2) 0 = p3 at *
  clear hcell hI
  go_enter Tryd.func45, Tryd.ntmps45
  go_wp2_with fail
  refine wp_region_tail 15 ?_ (by kernel_rfl) (by kernel_rfl) (by kernel_rfl) (fun x => ?_) (fun x => ?_)
  rotate_left
  · simp only [List.take_succ_cons, List.take_zero]
    repeat (go_big_quiet_step (((fail))))
    refine wpQuiet_nil ?_
    exact rfl
  simp only [List.drop_succ_cons, List.drop_zero]
  try simp only [Act.put, List.setIfInBounds_toArray, List.set_cons_succ, List.set_cons_zero]
  go_wp2_with fail
  refine bodyPost_ret (v := .agg #[.int .i64 p1, .int .i64 p2, .int .i64 p3]) (by simp [results, Tryd.results45, go_sem]) rfl ⟨rfl, grow_of (by repeat (first | with_reducible exact Below.refl _ _ | with_reducible refine bel_then ?_ _ | with_reducible refine bel_grow ?_ _ | with_reducible refine bel_alloc ?_ _ | with_reducible refine bel_drew ?_ | with_reducible refine bel_set ?_ (by simp) _ | with_reducible refine bel_setRow ?_ (by first | omega | (simp; done)) _))⟩
set_option maxHeartbeats 1000000 in
theorem point_any (w : World) (A : Option Addr) (n c a : Nat) (ns : List Int) (hn : ns.length = n) (hn2 : n ≤ 1048576) (ha : a + 3 ≤ n) (hI : IF w A ns) :
    Calls Tryd.prog 44 #[.slice A n c, .int .i64 (a : Int)] w fun e w' => e = .returned (.agg #[.int .i64 (ns.getD a 0), .int .i64 (ns.getD (a + 1) 0), .int .i64 (ns.getD (a + 2) 0)]) ∧ ∃ x, w' = grow w x := by
  obtain ⟨g, off, rfl, hgl, hcell⟩ := hI (by omega)
  have c0 := hcell a (by omega)
  have c1 := hcell (a + 1) (by omega)
  have c2 := hcell (a + 2) (by omega)
  have k0 : (0 : Int) ≤ (a : Int) := by omega
  have k1 : (a : Int) + 2 < (n : Int) := by omega
  generalize ns.getD a 0 = p1 at *
  generalize ns.getD (a + 1) 0 = p2 at *
  generalize ns.getD (a + 2) 0 = p3 at *
  clear hcell hI
  go_enter Tryd.func44, Tryd.ntmps44
  go_wp2_with fail
  refine wp_region_tail 15 ?_ (by kernel_rfl) (by kernel_rfl) (by kernel_rfl) (fun x => ?_) (fun x => ?_)
  rotate_left
  · simp only [List.take_succ_cons, List.take_zero]
    repeat (go_big_quiet_step (((fail))))
    refine wpQuiet_nil ?_
    exact rfl
  simp only [List.drop_succ_cons, List.drop_zero]
  try simp only [Act.put, List.setIfInBounds_toArray, List.set_cons_succ, List.set_cons_zero]
  go_wp2_with fail
  refine bodyPost_ret (v := .agg #[.int .i64 p1, .int .i64 p2, .int .i64 p3]) (by simp [results, Tryd.results44, go_sem]) rfl ⟨rfl, grow_of (by repeat (first | with_reducible exact Below.refl _ _ | with_reducible refine bel_then ?_ _ | with_reducible refine bel_grow ?_ _ | with_reducible refine bel_alloc ?_ _ | with_reducible refine bel_drew ?_ | with_reducible refine bel_set ?_ (by simp) _ | with_reducible refine bel_setRow ?_ (by first | omega | (simp; done)) _))⟩
end Go.Proofs.YtehmlofhiffanaaDoor
