/- The program's own scene: within, point, color. -/
import Derived.Test.YtehmlofhiffanaaDoorScnP1
import Derived.Test.YtehmlofhiffanaaDoorScn2
namespace Go.Proofs.YtehmlofhiffanaaDoor
open Go.RowKit
set_option linter.unusedVariables false
set_option linter.unusedSimpArgs false
/-- All are from the least on up to the most. -/
def inB (lo hi : Int) (l : List Int) : Bool := l.all fun x => decide (lo ≤ x) && decide (x ≤ hi)
theorem inB_wi (n : List Int) (a b : Nat) (lo hi : Int) : inB lo hi ((n.take b).drop a) = wi n a b lo hi := rfl
theorem inB_one (lo hi x : Int) : inB lo hi [x] = (decide (lo ≤ x) && decide (x ≤ hi)) := by unfold inB; simp
theorem inB_succ (lo hi : Int) (l : List Int) (k : Nat) (h : k < l.length) : inB lo hi (l.take (k + 1)) = (inB lo hi (l.take k) && (decide (lo ≤ l.getD k 0) && decide (l.getD k 0 ≤ hi))) := by
  unfold inB
  rw [List.take_succ_eq_append_getElem h, List.all_append]
  simp [List.getD, h]
theorem inB_false (lo hi : Int) (l : List Int) (k : Nat) (h : k < l.length) (hq : ¬ (lo ≤ l.getD k 0 ∧ l.getD k 0 ≤ hi)) : inB lo hi l = false := by
  cases e : inB lo hi l
  · rfl
  · exfalso
    unfold inB at e
    have := List.all_eq_true.1 e (l.getD k 0) (by simp [List.getD, h])
    simp only [Bool.and_eq_true, decide_eq_true_eq] at this
    exact hq this
theorem IF.sub {W : World} {b off : Nat} {ns : List Int} (h : IF W (some ⟨b, off, none⟩) ns) (a e : Nat) (he : e ≤ ns.length) : IF W (some ⟨b, off + a, none⟩) ((ns.take e).drop a) := fun h0 => by
  have hl : a < e := by rw [List.length_drop, List.length_take] at h0; omega
  obtain ⟨b2, off2, q, hb, hc⟩ := h (by omega)
  cases q
  refine ⟨b, off + a, rfl, hb, fun i hi => ?_⟩
  rw [List.length_drop, List.length_take] at hi
  rw [Nat.add_assoc, hc (a + i) (by omega)]
  congr 2
  have h1 : a + i < ns.length := by omega
  simp [List.getD, h1]
  rw [List.getElem?_take_of_lt (by omega)]
  simp [h1]
set_option maxHeartbeats 1000000 in
theorem pwithin_core (w : World) (A : Option Addr) (n c : Nat) (lo hi : Int) (l : List Int) (hn : l.length = n) (hn2 : n ≤ 1048576) (hI : IF w A l) (r : Bool) (hr : inB lo hi l = r) (E : Ending) (hE : Hid ((r = true → E = .returned (.tuple #[])) ∧ (r = false → E = Ending.panicked [{ v := Value.iface 36 (.int .i64 11), recovered := false }]))) :
    Calls Tryd.prog 59 #[.int .i64 lo, .int .i64 hi, .slice A n c] w fun e w' => e = E ∧ ∃ x, w' = grow w x := by
  have HR := Lib.hid hr
  clear hr
  go_enter Tryd.func59, Tryd.ntmps59
  go_wp2
  go_loop [10] (fun i => ∃ k : Nat, i = .int .i64 (k : Int) ∧ k ≤ n ∧ Hid (inB lo hi (l.take k) = true)) (fun i => n - (intOf i).toNat)
  case atStart => exact ⟨0, rfl, by omega, Lib.hid rfl⟩
  case round =>
    obtain ⟨k, rfl, hk, hall⟩ := hrel
    by_cases hlt : k < n
    · obtain ⟨b, off, rfl, hbl, hcell⟩ := hI (by omega)
      have hx := hcell k (by omega)
      have k0 : (0 : Int) ≤ (k : Int) := by omega
      have k1 : (k : Int) < (n : Int) := by omega
      have ON := Lib.hid (show lo ≤ l.getD k 0 → l.getD k 0 ≤ hi → inB lo hi (l.take (k + 1)) = true from fun q1 q2 => by
        rw [inB_succ lo hi l k (by omega), hall.out, decide_eq_true q1, decide_eq_true q2]; rfl)
      have OFF := Lib.hid (show ¬ (lo ≤ l.getD k 0 ∧ l.getD k 0 ≤ hi) → r = false from fun q => by rw [← HR.out]; exact inB_false lo hi l k (by omega) q)
      generalize l.getD k 0 = x at *
      clear hcell hI
      rcases (by omega : x < lo ∨ (lo ≤ x ∧ hi < x) ∨ (lo ≤ x ∧ x ≤ hi)) with q | ⟨q, q2⟩ | ⟨q, q2⟩
      · have HF := Lib.hid (OFF.out (by omega))
        clear ON OFF
        go_wp2_with (go_at_call 57; refine (need_no _ _).mono ?_; rintro e _ ⟨rfl, rfl⟩)
        exact ⟨rfl, (hE.out.2 HF.out).symm, grow_of (Below.refl _ _)⟩
      · have HF := Lib.hid (OFF.out (by omega))
        have q3 : ¬ x ≤ hi := by omega
        clear ON OFF q2
        go_wp2_with (go_at_call 57; refine (need_no _ _).mono ?_; rintro e _ ⟨rfl, rfl⟩)
        exact ⟨rfl, (hE.out.2 HF.out).symm, grow_of (Below.refl _ _)⟩
      · have HT := Lib.hid (ON.out q q2)
        clear ON OFF
        go_wp2_with (go_at_call 57; refine (need_yes _ _).mono ?_; rintro e _ ⟨rfl, rfl⟩)
        go_round
        case rel => exact ⟨k + 1, by go_num, by omega, HT⟩
        case measure => simp [intOf] <;> omega
    · obtain rfl : k = n := by omega
      have HT := Lib.hid (show r = true by rw [← HR.out, ← hall.out, ← hn, List.take_length])
      go_wp2
      go_end0
      exact ⟨(hE.out.1 HT.out).symm, grow_of (Below.refl _ _)⟩
theorem pwithin_any (w : World) (A : Option Addr) (n c : Nat) (lo hi : Int) (l : List Int) (hn : l.length = n) (hn2 : n ≤ 1048576) (hI : IF w A l) :
    Calls Tryd.prog 59 #[.int .i64 lo, .int .i64 hi, .slice A n c] w fun e w' => ((inB lo hi l = true ∧ e = .returned (.tuple #[])) ∨ (inB lo hi l = false ∧ e = Ending.panicked [{ v := Value.iface 36 (.int .i64 11), recovered := false }])) ∧ ∃ x, w' = grow w x :=
  by
  cases q : inB lo hi l
  · exact (pwithin_core w A n c lo hi l hn hn2 hI _ q _ (Lib.hid ⟨fun h => (by cases h), fun _ => rfl⟩)).mono fun e w' ⟨h, hx⟩ => ⟨.inr ⟨rfl, h⟩, hx⟩
  · exact (pwithin_core w A n c lo hi l hn hn2 hI _ q _ (Lib.hid ⟨fun _ => rfl, fun h => (by cases h)⟩)).mono fun e w' ⟨h, hx⟩ => ⟨.inl ⟨rfl, h⟩, hx⟩
set_option maxHeartbeats 1000000 in
theorem ppoint_any (w : World) (A : Option Addr) (n c : Nat) (ns : List Int) (hn : ns.length = n) (hn2 : n ≤ 1048576) (ha : 3 ≤ n) (hI : IF w A ns) :
    Calls Tryd.prog 60 #[.slice A n c] w fun e w' => e = .returned (.agg #[.int .i64 (ns.getD 0 0), .int .i64 (ns.getD 1 0), .int .i64 (ns.getD 2 0)]) ∧ ∃ x, w' = grow w x := by
  obtain ⟨g, off, rfl, hgl, hcell⟩ := hI (by omega)
  have c0 := hcell 0 (by omega)
  rw [Nat.add_zero] at c0
  have c1 := hcell 1 (by omega)
  have c2 := hcell 2 (by omega)
  have k1 : (2 : Int) < (n : Int) := by omega
  generalize ns.getD 0 0 = p1 at *
  generalize ns.getD 1 0 = p2 at *
  generalize ns.getD 2 0 = p3 at *
  clear hcell hI
  go_enter Tryd.func60, Tryd.ntmps60
  go_wp2_with fail
  refine wp_region_tail 9 ?_ (by kernel_rfl) (by kernel_rfl) (by kernel_rfl) (fun x => ?_) (fun x => ?_)
  rotate_left
  · simp only [List.take_succ_cons, List.take_zero]
    repeat (go_big_quiet_step (((fail))))
    refine wpQuiet_nil ?_
    exact rfl
  simp only [List.drop_succ_cons, List.drop_zero]
  try simp only [Act.put, List.setIfInBounds_toArray, List.set_cons_succ, List.set_cons_zero]
  go_wp2_with fail
  refine bodyPost_ret (v := .agg #[.int .i64 p1, .int .i64 p2, .int .i64 p3]) (by simp [results, Tryd.results60, go_sem]) rfl ⟨rfl, grow_of (by repeat (first | with_reducible exact Below.refl _ _ | with_reducible refine bel_then ?_ _ | with_reducible refine bel_grow ?_ _ | with_reducible refine bel_alloc ?_ _ | with_reducible refine bel_drew ?_ | with_reducible refine bel_set ?_ (by simp) _ | with_reducible refine bel_setRow ?_ (by first | omega | (simp; done)) _))⟩
set_option maxHeartbeats 1000000 in
theorem pcolor_any (w : World) (A : Option Addr) (n c : Nat) (ns : List Int) (hn : ns.length = n) (hn2 : n ≤ 1048576) (ha : 3 ≤ n) (hI : IF w A ns) :
    Calls Tryd.prog 61 #[.slice A n c] w fun e w' => e = .returned (.agg #[.int .i64 (ns.getD 0 0), .int .i64 (ns.getD 1 0), .int .i64 (ns.getD 2 0)]) ∧ ∃ x, w' = grow w x := by
  obtain ⟨g, off, rfl, hgl, hcell⟩ := hI (by omega)
  have c0 := hcell 0 (by omega)
  rw [Nat.add_zero] at c0
  have c1 := hcell 1 (by omega)
  have c2 := hcell 2 (by omega)
  have k1 : (2 : Int) < (n : Int) := by omega
  generalize ns.getD 0 0 = p1 at *
  generalize ns.getD 1 0 = p2 at *
  generalize ns.getD 2 0 = p3 at *
  clear hcell hI
  go_enter Tryd.func61, Tryd.ntmps61
  go_wp2_with fail
  refine wp_region_tail 9 ?_ (by kernel_rfl) (by kernel_rfl) (by kernel_rfl) (fun x => ?_) (fun x => ?_)
  rotate_left
  · simp only [List.take_succ_cons, List.take_zero]
    repeat (go_big_quiet_step (((fail))))
    refine wpQuiet_nil ?_
    exact rfl
  simp only [List.drop_succ_cons, List.drop_zero]
  try simp only [Act.put, List.setIfInBounds_toArray, List.set_cons_succ, List.set_cons_zero]
  go_wp2_with fail
  refine bodyPost_ret (v := .agg #[.int .i64 p1, .int .i64 p2, .int .i64 p3]) (by simp [results, Tryd.results61, go_sem]) rfl ⟨rfl, grow_of (by repeat (first | with_reducible exact Below.refl _ _ | with_reducible refine bel_then ?_ _ | with_reducible refine bel_grow ?_ _ | with_reducible refine bel_alloc ?_ _ | with_reducible refine bel_drew ?_ | with_reducible refine bel_set ?_ (by simp) _ | with_reducible refine bel_setRow ?_ (by first | omega | (simp; done)) _))⟩
end Go.Proofs.YtehmlofhiffanaaDoor
