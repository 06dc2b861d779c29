/- Words: the program's own digit, small, plain. -/
import Derived.Test.YtdkgbdecmgligaaGreatDoorMLexA
import Derived.Lib.OthersKept
namespace Go.Proofs.YtdkgbdecmgligaaGreatDoor
open Go.RowKit
set_option linter.unusedVariables false
set_option linter.unusedSimpArgs false
theorem digit_any (r : Int) : Gives Tryz.prog 128 #[.int .i32 r] (.bool (decide (48 ≤ r) && decide (r ≤ 57))) := by
  refine Gives.mk fun w => ?_
  cases h1 : decide ((48 : Int) ≤ r) <;> cases h2 : decide (r ≤ (57 : Int))
  all_goals
    go_enter Tryz.func128, Tryz.ntmps128
    go_wp2
    go_ret
    exact ⟨rfl, (by repeat (first | with_reducible exact Below.refl _ _ | with_reducible refine bel_then ?_ _ | with_reducible refine bel_grow ?_ _ | with_reducible refine bel_alloc ?_ _ | with_reducible refine bel_drew ?_ | with_reducible refine bel_set ?_ (by simp) _ | with_reducible refine bel_setRow ?_ (by first | omega | (simp; done)) _))⟩
theorem small_any (r : Int) : Gives Tryz.prog 127 #[.int .i32 r] (.bool (decide (97 ≤ r) && decide (r ≤ 122))) := by
  refine Gives.mk fun w => ?_
  cases h1 : decide ((97 : Int) ≤ r) <;> cases h2 : decide (r ≤ (122 : Int))
  all_goals
    go_enter Tryz.func127, Tryz.ntmps127
    go_wp2
    go_ret
    exact ⟨rfl, (by repeat (first | with_reducible exact Below.refl _ _ | with_reducible refine bel_then ?_ _ | with_reducible refine bel_grow ?_ _ | with_reducible refine bel_alloc ?_ _ | with_reducible refine bel_drew ?_ | with_reducible refine bel_set ?_ (by simp) _ | with_reducible refine bel_setRow ?_ (by first | omega | (simp; done)) _))⟩
def plAt (j c : Nat) : Bool := decide (32 ≤ c) && decide (c ≤ 126)
theorem plAt_iff (j c : Nat) : plAt j c = true ↔ 32 ≤ c ∧ c ≤ 126 := by unfold plAt; simp
theorem plAt_no {j c : Nat} (h : ¬ (32 ≤ c ∧ c ≤ 126)) : plAt j c = false := by
  cases q : plAt j c
  · rfl
  · exact absurd ((plAt_iff j c).1 q) h
set_option maxHeartbeats 1000000 in
theorem plain_core (s : ByteArray) (hs : s.size ≤ 65536) (b : Bool) (hb : allAt plAt s s.size = b) : Gives Tryz.prog 53 #[.string s] (.bool b) := by
  refine Gives.mk fun w => ?_
  have HB := Lib.hid hb
  clear hb
  go_enter Tryz.func53, Tryz.ntmps53
  go_wp2
  go_loop [6] (fun i => ∃ k : Nat, k ≤ s.size ∧ i = .int .i64 k ∧ Hid (allAt plAt s k = true)) (fun i => s.size - (intOf i).toNat)
  case atStart => exact ⟨0, Nat.zero_le _, rfl, Lib.hid rfl⟩
  case round =>
    obtain ⟨k, hk, rfl, hall⟩ := hrel
    by_cases hlt : k < s.size
    · have e := bt_at s k hlt
      have lt := bt_lt s k
      have ON := Lib.hid (show ∀ q, plAt k (bt s k) = q → allAt plAt s (k + 1) = q from fun q hq => by unfold allAt; rw [hall.out, hq]; rfl)
      have OFF := Lib.hid (show plAt k (bt s k) = false → b = false from fun q => by rw [← HB.out]; exact allAt_no _ _ k q _ hlt)
      replace e := Lib.hid e
      go_wp2
      all_goals
        have e := e.out
        first
        | (exfalso
           simp only [Bool.not_eq_true', Bool.not_eq_false', decide_eq_true_eq, decide_eq_false_iff_not, beq_iff_eq, beq_eq_false_iff_ne, ne_eq] at *
           omega)
        | (go_round
           case rel => exact ⟨k + 1, by omega, by go_num, Lib.hid (ON.out true ((plAt_iff k (bt s k)).2 (by (try simp only [beq_iff_eq, beq_eq_false_iff_ne, ne_eq] at *); omega)))⟩
           case measure => simp [intOf] <;> omega)
        | (go_ret
           exact ⟨ret_bool (OFF.out (plAt_no (j := k) (c := bt s k) (by (try simp only [beq_iff_eq, beq_eq_false_iff_ne, ne_eq] at *); omega))).symm, (by repeat (first | with_reducible exact Below.refl _ _ | with_reducible refine bel_then ?_ _ | with_reducible refine bel_grow ?_ _ | with_reducible refine bel_alloc ?_ _ | with_reducible refine bel_drew ?_ | with_reducible refine bel_set ?_ (by simp) _ | with_reducible refine bel_setRow ?_ (by first | omega | (simp; done)) _))⟩)
    · obtain rfl : k = s.size := by omega
      go_wp2
      go_ret
      exact ⟨ret_bool (by rw [← HB.out, hall.out]), (by repeat (first | with_reducible exact Below.refl _ _ | with_reducible refine bel_then ?_ _ | with_reducible refine bel_grow ?_ _ | with_reducible refine bel_alloc ?_ _ | with_reducible refine bel_drew ?_ | with_reducible refine bel_set ?_ (by simp) _ | with_reducible refine bel_setRow ?_ (by first | omega | (simp; done)) _))⟩
theorem plain_any (s : ByteArray) (hs : s.size ≤ 65536) : Gives Tryz.prog 53 #[.string s] (.bool (allAt plAt s s.size)) := plain_core s hs _ rfl
end Go.Proofs.YtdkgbdecmgligaaGreatDoor

/- Words: the program's own Name. -/
namespace Go.Proofs.YtdkgbdecmgligaaGreatDoor
open Go.RowKit
set_option linter.unusedVariables false
set_option linter.unusedSimpArgs false
/-- What stands at a place of a text, as the walk decodes it. -/
theorem dec_at (s : ByteArray) (k : Nat) (h : k < s.size) : (bt s k < 128 ∧ (Utf8.decode s k).1 = bt s k ∧ (Utf8.decode s k).2 = 1) ∨ (128 ≤ bt s k ∧ 128 ≤ (Utf8.decode s k).1 ∧ 1 ≤ (Utf8.decode s k).2) := by
  have e := bt_at s k h
  by_cases q : bt s k < 128
  · have k2 := decode_ascii s k h (by rw [e]; exact q)
    exact .inl ⟨q, by rw [k2, e], by rw [k2]⟩
  · have := decode_high s k h (by rw [e]; omega)
    exact .inr ⟨by omega, this⟩
theorem lName_short (s : ByteArray) (h : s.size < 1 ∨ 16 < s.size) : Gives Tryz.prog 113 #[.string s] (.bool false) := by
  refine Gives.mk fun w => ?_
  rcases h with h | h
  all_goals
    go_enter Tryz.func113, Tryz.ntmps113
    go_wp2
    go_ret
    exact ⟨rfl, (by repeat (first | with_reducible exact Below.refl _ _ | with_reducible refine bel_then ?_ _ | with_reducible refine bel_grow ?_ _ | with_reducible refine bel_alloc ?_ _ | with_reducible refine bel_drew ?_ | with_reducible refine bel_set ?_ (by simp) _ | with_reducible refine bel_setRow ?_ (by first | omega | (simp; done)) _))⟩
set_option maxHeartbeats 1000000 in
theorem lName_core (s : ByteArray) (h1 : 1 ≤ s.size) (h2 : s.size ≤ 16) (b : Bool) (hb : allAt okAt s s.size = b) : Gives Tryz.prog 113 #[.string s] (.bool b) := by
  refine Gives.mk fun w => ?_
  have HB := Lib.hid hb
  clear hb
  go_enter Tryz.func113, Tryz.ntmps113
  go_wp2
  go_loopw [] (fun wr => ∃ k : Nat, k ≤ s.size ∧ Hid (allAt okAt s k = true) ∧ wr.heap[w.heap.size]? = some (.stringIter s k) ∧ Below w.heap.size w wr) (fun wr => s.size - wr.iterPos w.heap.size)
  case atStart => exact ⟨0, by omega, Lib.hid rfl, World.iter_heap _ _ _, (Below.refl _ w).alloc (Nat.le_refl _) _⟩
  case round =>
    obtain ⟨k, hk, hall, hit, hbw⟩ := hrel
    have hsz : w.heap.size < wr.heap.size := (Array.getElem?_eq_some_iff.1 hit).1
    by_cases hlt : k < s.size
    · have hnx : ∀ ty, (Instr.next (.pointer (some ⟨w.heap.size, 0, none⟩)) true ty).run Tryz.prog wr = _ := fun ty => Lib.run_next_any_at wr w.heap.size s k ty hit hlt
      have D := Lib.hid (dec_at s k hlt)
      have lt := bt_lt s k
      have hit2 := Lib.hid (Lib.iterAt_heap wr w.heap.size s k (k + (Utf8.decode s k).2) hit)
      have hbw2 := Lib.hid (Lib.below_iterAt hbw (k := w.heap.size) (Nat.le_refl _) s (k + (Utf8.decode s k).2))
      have hsz2 : w.heap.size < (wr.iterAt w.heap.size s (k + (Utf8.decode s k).2)).heap.size := by rw [Lib.iterAt_size]; exact hsz
      have OFF := Lib.hid (show okAt k (bt s k) = false → b = false from fun q => by rw [← HB.out]; exact allAt_no _ _ k q _ hlt)
      have ON := Lib.hid (show ∀ q, okAt k (bt s k) = q → allAt okAt s (k + 1) = q from fun q hq => by unfold allAt; rw [hall.out, hq]; rfl)
      have MS := Lib.hid (show s.size - wr.iterPos w.heap.size = s.size - k by simp only [World.iterPos, hit])
      generalize (Utf8.decode s k).1 = r at *
      generalize (Utf8.decode s k).2 = d at *
      generalize hw2 : wr.iterAt w.heap.size s (k + d) = w2 at *
      have C0 := Lib.hid (show ∀ x : More, (grow w2 x).heap[w.heap.size]? = some (.stringIter s (k + d)) ∧ Below w.heap.size w (grow w2 x) from fun x => ⟨((x.kept w2).block _ hsz2).trans hit2.out, hbw2.out.trans ((x.kept w2).mono (by omega))⟩)
      have MS2 := Lib.hid (show ∀ x : More, s.size - (grow w2 x).iterPos w.heap.size = s.size - (k + d) from fun x => by simp only [World.iterPos, (C0.out x).1])
      have W1 := small_any (r : Int)
      have W2 := digit_any (r : Int)
      clear hit2 hbw2 hsz hit hbw
      go_wp2_with (first | (go_at_call 127; refine (W1 _).mono ?_; rintro e _ ⟨rfl, x3, rfl⟩) | (go_at_call 128; refine (W2 _).mono ?_; rintro e _ ⟨rfl, x4, rfl⟩))
      all_goals
        have D := D.out
        first
        | (exfalso
           simp only [Bool.and_eq_true, Bool.and_eq_false_iff, Bool.not_eq_true', Bool.not_eq_false', decide_eq_true_eq, decide_eq_false_iff_not, beq_iff_eq, beq_eq_false_iff_ne, bne_iff_ne, ne_eq] at *
           omega)
        | (have dd : d = 1 ∧ okAt k (bt s k) = true := by
             rw [okAt_iff]
             simp only [Bool.and_eq_true, Bool.and_eq_false_iff, Bool.not_eq_true', Bool.not_eq_false', decide_eq_true_eq, decide_eq_false_iff_not, beq_iff_eq, beq_eq_false_iff_ne, bne_iff_ne, bne_eq_false_iff_eq, ne_eq] at *
             omega
           go_roundw
           case rel => exact ⟨k + d, by omega, Lib.hid (by rw [dd.1]; exact ON.out true dd.2), (C0.out _).1, (C0.out _).2⟩
           case measure => rw [MS.out, MS2.out]; omega)
        | (have dd : okAt k (bt s k) = false := okAt_no (by
             simp only [Bool.and_eq_true, Bool.and_eq_false_iff, Bool.not_eq_true', Bool.not_eq_false', decide_eq_true_eq, decide_eq_false_iff_not, beq_iff_eq, beq_eq_false_iff_ne, bne_iff_ne, bne_eq_false_iff_eq, ne_eq] at *
             omega)
           go_ret
           exact ⟨ret_bool (OFF.out dd).symm, (C0.out _).2⟩)

    · obtain rfl : k = s.size := by omega
      have hnx : ∀ ty, (Instr.next (.pointer (some ⟨w.heap.size, 0, none⟩)) true ty).run Tryz.prog wr = _ := fun ty => Lib.run_next_end_at wr w.heap.size s s.size ty hit hlt
      go_wp2
      go_ret
      exact ⟨ret_bool (by rw [← HB.out, hall.out]), hbw⟩
theorem lName_any (s : ByteArray) : Gives Tryz.prog 113 #[.string s] (.bool (nameB s)) := by
  by_cases h1 : 1 ≤ s.size
  · by_cases h2 : s.size ≤ 16
    · have e : nameB s = allAt okAt s s.size := by unfold nameB; simp [h1, h2]
      rw [e]
      exact lName_core s h1 h2 _ rfl
    · have e : nameB s = false := by unfold nameB; simp [h2]
      rw [e]
      exact lName_short s (.inr (by omega))
  · have e : nameB s = false := by unfold nameB; simp [h1]
    rw [e]
    exact lName_short s (.inl (by omega))
end Go.Proofs.YtdkgbdecmgligaaGreatDoor
