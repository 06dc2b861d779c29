/- Words: the document's own Name and Number. -/
import Derived.Test.YtdkgbdecmgligaaGreatDoorMRegion
import Derived.Test.YtdkgbdecmgligaaGreatDoorProg
namespace Go.Proofs.YtdkgbdecmgligaaGreatDoor
open Go.RowKit
set_option linter.unusedVariables false
set_option linter.unusedSimpArgs false
theorem ret_bool {a b : Bool} (h : a = b) : Ending.returned (.bool a) = .returned (.bool b) := by rw [h]
/-- A text's bytes as numbers; behind its end noughts. -/
def bt (s : ByteArray) (k : Nat) : Nat := if h : k < s.size then s[k].toNat else 0
theorem bt_at (s : ByteArray) (k : Nat) (h : k < s.size) : s[k].toNat = bt s k := by unfold bt; rw [dif_pos h]
theorem bt_lt (s : ByteArray) (k : Nat) : bt s k < 256 := by
  unfold bt
  split
  · exact s[k].toNat_lt
  · omega
def okAt (j c : Nat) : Bool := (decide (97 ≤ c) && decide (c ≤ 122)) || (!decide (j = 0) && ((decide (48 ≤ c) && decide (c ≤ 57)) || decide (c = 95) || decide (c = 46)))
theorem okAt_iff (j c : Nat) : okAt j c = true ↔ (97 ≤ c ∧ c ≤ 122) ∨ (j ≠ 0 ∧ ((48 ≤ c ∧ c ≤ 57) ∨ c = 95 ∨ c = 46)) := by
  unfold okAt
  simp
  omega
theorem okAt_no {j c : Nat} (h : ¬ ((97 ≤ c ∧ c ≤ 122) ∨ (j ≠ 0 ∧ ((48 ≤ c ∧ c ≤ 57) ∨ c = 95 ∨ c = 46)))) : okAt j c = false := by
  cases q : okAt j c
  · rfl
  · exact absurd ((okAt_iff j c).1 q) h
def allAt (f : Nat → Nat → Bool) (s : ByteArray) : Nat → Bool
  | 0 => true
  | k + 1 => allAt f s k && f k (bt s k)
theorem allAt_no (f : Nat → Nat → Bool) (s : ByteArray) (k : Nat) (h : f k (bt s k) = false) : ∀ n, k < n → allAt f s n = false
  | 0, hn => by omega
  | n + 1, hn => by
    unfold allAt
    by_cases e : k = n
    · subst e; rw [h]; simp
    · rw [allAt_no f s k h n (by omega)]; rfl
def nameB (s : ByteArray) : Bool := decide (1 ≤ s.size) && decide (s.size ≤ 16) && allAt okAt s s.size
theorem rName_short (s : ByteArray) (h : s.size < 1 ∨ 16 < s.size) : Gives Tryz.prog 97 #[.string s] (.bool false) := by
  refine Gives.mk fun w => ?_
  rcases h with h | h
  all_goals
    go_enter Tryz.func97, Tryz.ntmps97
    go_wp2
    go_ret
    exact ⟨rfl, (by repeat (first | with_reducible exact Below.refl _ _ | with_reducible refine bel_then ?_ _ | with_reducible refine bel_grow ?_ _ | with_reducible refine bel_alloc ?_ _ | with_reducible refine bel_drew ?_ | with_reducible refine bel_set ?_ (by simp) _ | with_reducible refine bel_setRow ?_ (by first | omega | (simp; done)) _))⟩
set_option maxHeartbeats 1000000 in
theorem rName_core (s : ByteArray) (h1 : 1 ≤ s.size) (h2 : s.size ≤ 16) (b : Bool) (hb : allAt okAt s s.size = b) : Gives Tryz.prog 97 #[.string s] (.bool b) := by
  refine Gives.mk fun w => ?_
  have HB := Lib.hid hb
  clear hb
  go_enter Tryz.func97, Tryz.ntmps97
  go_wp2
  go_loop [3] (fun i => ∃ k : Nat, k ≤ s.size ∧ i = .int .i64 k ∧ Hid (allAt okAt s k = true)) (fun i => s.size - (intOf i).toNat)
  case atStart => exact ⟨0, Nat.zero_le _, rfl, Lib.hid rfl⟩
  case round =>
    obtain ⟨k, hk, rfl, hall⟩ := hrel
    by_cases hlt : k < s.size
    · have e := bt_at s k hlt
      have lt := bt_lt s k
      have ON := Lib.hid (show ∀ q, okAt k (bt s k) = q → allAt okAt s (k + 1) = q from fun q hq => by unfold allAt; rw [hall.out, hq]; rfl)
      have OFF := Lib.hid (show okAt k (bt s k) = false → b = false from fun q => by rw [← HB.out]; exact allAt_no _ _ k q _ hlt)
      replace e := Lib.hid e
      go_wp2
      all_goals
        have e := e.out
        first
        | (exfalso
           simp only [Bool.not_eq_true', Bool.not_eq_false', decide_eq_true_eq, decide_eq_false_iff_not, beq_iff_eq, beq_eq_false_iff_ne, ne_eq] at *
           omega)
        | (go_round
           case rel => exact ⟨k + 1, by omega, by go_num, Lib.hid (ON.out true ((okAt_iff k (bt s k)).2 (by simp only [beq_iff_eq, beq_eq_false_iff_ne, ne_eq] at *; omega)))⟩
           case measure => simp [intOf] <;> omega)
        | (go_ret
           exact ⟨ret_bool (OFF.out (okAt_no (j := k) (c := bt s k) (by simp only [beq_iff_eq, beq_eq_false_iff_ne, ne_eq] at *; omega))).symm, (by repeat (first | with_reducible exact Below.refl _ _ | with_reducible refine bel_then ?_ _ | with_reducible refine bel_grow ?_ _ | with_reducible refine bel_alloc ?_ _ | with_reducible refine bel_drew ?_ | with_reducible refine bel_set ?_ (by simp) _ | with_reducible refine bel_setRow ?_ (by first | omega | (simp; done)) _))⟩)
    · obtain rfl : k = s.size := by omega
      go_wp2
      go_ret
      exact ⟨ret_bool (by rw [← HB.out, hall.out]), (by repeat (first | with_reducible exact Below.refl _ _ | with_reducible refine bel_then ?_ _ | with_reducible refine bel_grow ?_ _ | with_reducible refine bel_alloc ?_ _ | with_reducible refine bel_drew ?_ | with_reducible refine bel_set ?_ (by simp) _ | with_reducible refine bel_setRow ?_ (by first | omega | (simp; done)) _))⟩
end Go.Proofs.YtdkgbdecmgligaaGreatDoor

/- Words: the document's own Number. -/
namespace Go.Proofs.YtdkgbdecmgligaaGreatDoor
open Go.RowKit
set_option linter.unusedVariables false
set_option linter.unusedSimpArgs false
theorem rName_any (s : ByteArray) : Gives Tryz.prog 97 #[.string s] (.bool (nameB s)) := by
  by_cases h : s.size < 1 ∨ 16 < s.size
  · have e : nameB s = false := by
      unfold nameB
      rcases h with h | h
      · simp [show ¬ 1 ≤ s.size by omega]
      · simp [show ¬ s.size ≤ 16 by omega]
    rw [e]
    exact rName_short s h
  · have e : nameB s = allAt okAt s s.size := by
      unfold nameB
      simp [show 1 ≤ s.size by omega, show s.size ≤ 16 by omega]
    rw [e]
    exact rName_core s (by omega) (by omega) _ rfl
def dgAt (_ c : Nat) : Bool := decide (48 ≤ c) && decide (c ≤ 57)
theorem dgAt_iff (j c : Nat) : dgAt j c = true ↔ 48 ≤ c ∧ c ≤ 57 := by unfold dgAt; simp
/-- What the first k digits come to. -/
def nv (s : ByteArray) : Nat → Nat
  | 0 => 0
  | k + 1 => nv s k * 10 + (bt s k - 48)
theorem nv_lt (s : ByteArray) : ∀ k, allAt dgAt s k = true → nv s k < 10 ^ k
  | 0, _ => by unfold nv; decide
  | k + 1, h => by
    unfold allAt at h
    simp only [Bool.and_eq_true] at h
    have h1 := nv_lt s k h.1
    have h2 := (dgAt_iff _ _).1 h.2
    unfold nv
    rw [Nat.pow_succ]
    omega
theorem nv_small (s : ByteArray) (k : Nat) (h : allAt dgAt s k = true) (hk : k ≤ 6) : nv s k < 1000000 :=
  Nat.lt_of_lt_of_le (nv_lt s k h) (Nat.pow_le_pow_right (by decide) hk)
set_option maxHeartbeats 1000000 in
theorem rNum_pos (s : ByteArray) (h0 : 0 < s.size) (n45 : ((bt s 0 : Int) == 45) = false) (nz : (s.toList == [48]) = false) (h1 : 1 ≤ s.size) (h6 : s.size ≤ 6) (n48 : ((bt s 0 : Int) == 48) = false) (b : Bool) (hb : allAt dgAt s s.size = b) (N : Int) (hN : (if b then (nv s s.size : Int) else 0) = N) : Gives Tryz.prog 120 #[.string s] (.tuple #[.int .i64 N, .bool b]) := by
  refine Gives.mk fun w => ?_
  have HB := Lib.hid (And.intro hb hN)
  clear hb hN
  have e := bt_at s 0 h0
  go_enter Tryz.func120, Tryz.ntmps120
  go_wp2
  go_loop [6, 5] (fun i n => ∃ k : Nat, k ≤ s.size ∧ i = .int .i64 k ∧ n = .int .i64 (nv s k : Int) ∧ Hid (allAt dgAt s k = true)) (fun i _ => s.size - (intOf i).toNat)
  case atStart => exact ⟨0, Nat.zero_le _, rfl, rfl, Lib.hid rfl⟩
  case round =>
    obtain ⟨k, hk, rfl, rfl, hall⟩ := hrel
    by_cases hlt : k < s.size
    · have e := bt_at s k hlt
      have lt := bt_lt s k
      have sm := nv_small s k hall.out (by omega)
      have ON := Lib.hid (show ∀ q, dgAt k (bt s k) = q → allAt dgAt s (k + 1) = q from fun q hq => by unfold allAt; rw [hall.out, hq]; rfl)
      have OFF := Lib.hid (show dgAt k (bt s k) = false → b = false ∧ N = 0 from fun q => by
        obtain ⟨u1, u2⟩ := HB.out
        have u3 : b = false := by rw [← u1]; exact allAt_no _ _ k q _ hlt
        rw [u3] at u2
        exact ⟨u3, u2.symm⟩)
      have NX := Lib.hid (show nv s (k + 1) = nv s k * 10 + (bt s k - 48) from rfl)
      by_cases dg : 48 ≤ bt s k ∧ bt s k ≤ 57
      · obtain ⟨d1, d2⟩ := dg
        have d1' : (48 : Int) ≤ (bt s k : Int) := by omega
        have d2' : (bt s k : Int) ≤ 57 := by omega
        go_wp2
        go_round
        case rel => exact ⟨k + 1, by omega, by go_num, congrArg (Value.int .i64) (by rw [NX.out]; omega), Lib.hid (ON.out true ((dgAt_iff k (bt s k)).2 ⟨d1, d2⟩))⟩
        case measure => simp [intOf] <;> omega
      · have hf : dgAt k (bt s k) = false := by
          cases q : dgAt k (bt s k)
          · rfl
          · exact absurd ((dgAt_iff _ _).1 q) dg
        have HF := Lib.hid (OFF.out hf)
        clear hf
        have dd : bt s k < 48 ∨ 57 < bt s k := by omega
        rcases dd with d | d
        · have d' : (bt s k : Int) < 48 := by omega
          clear dg
          go_wp2
          refine bodyPost_ret (v := .tuple #[.int .i64 0, .bool false]) (by simp [results, Tryz.results120, go_sem]) rfl ⟨by obtain ⟨u1, u2⟩ := HF.out; rw [u1, u2], (by repeat (first | with_reducible exact Below.refl _ _ | with_reducible refine bel_then ?_ _ | with_reducible refine bel_grow ?_ _ | with_reducible refine bel_alloc ?_ _ | with_reducible refine bel_drew ?_ | with_reducible refine bel_set ?_ (by simp) _ | with_reducible refine bel_setRow ?_ (by first | omega | (simp; done)) _))⟩
        · have d' : (57 : Int) < (bt s k : Int) := by omega
          have d'' : (48 : Int) ≤ (bt s k : Int) := by omega
          clear dg
          go_wp2
          refine bodyPost_ret (v := .tuple #[.int .i64 0, .bool false]) (by simp [results, Tryz.results120, go_sem]) rfl ⟨by obtain ⟨u1, u2⟩ := HF.out; rw [u1, u2], (by repeat (first | with_reducible exact Below.refl _ _ | with_reducible refine bel_then ?_ _ | with_reducible refine bel_grow ?_ _ | with_reducible refine bel_alloc ?_ _ | with_reducible refine bel_drew ?_ | with_reducible refine bel_set ?_ (by simp) _ | with_reducible refine bel_setRow ?_ (by first | omega | (simp; done)) _))⟩
    · obtain rfl : k = s.size := by omega
      have sm := nv_small s s.size hall.out (by omega)
      have HT := Lib.hid (show b = true ∧ N = (nv s s.size : Int) from by
        obtain ⟨u1, u2⟩ := HB.out
        have u3 : b = true := by rw [← u1, hall.out]
        rw [u3] at u2
        exact ⟨u3, u2.symm⟩)
      go_wp2
      refine bodyPost_ret (v := .tuple #[.int .i64 (nv s s.size : Int), .bool true]) (by simp [results, Tryz.results120, go_sem]) rfl ⟨by obtain ⟨u1, u2⟩ := HT.out; rw [u1, u2], (by repeat (first | with_reducible exact Below.refl _ _ | with_reducible refine bel_then ?_ _ | with_reducible refine bel_grow ?_ _ | with_reducible refine bel_alloc ?_ _ | with_reducible refine bel_drew ?_ | with_reducible refine bel_set ?_ (by simp) _ | with_reducible refine bel_setRow ?_ (by first | omega | (simp; done)) _))⟩
set_option maxHeartbeats 1000000 in
theorem rNum_neg (s : ByteArray) (h0 : 0 < s.size) (t : ByteArray) (et : s.extract 1 s.size = t) (p45 : ((bt s 0 : Int) == 45) = true) (nz : (t.toList == [48]) = false) (h1 : 1 ≤ t.size) (h6 : t.size ≤ 6) (n48 : ((bt t 0 : Int) == 48) = false) (b : Bool) (hb : allAt dgAt t t.size = b) (N : Int) (hN : (if b then (-(nv t t.size : Int)) else 0) = N) : Gives Tryz.prog 120 #[.string s] (.tuple #[.int .i64 N, .bool b]) := by
  refine Gives.mk fun w => ?_
  have HB := Lib.hid (And.intro hb hN)
  clear hb hN
  have e := bt_at s 0 h0
  have e1 := bt_at t 0 (by omega)
  go_enter Tryz.func120, Tryz.ntmps120
  go_wp2
  go_loop [6, 5] (fun i n => ∃ k : Nat, k ≤ t.size ∧ i = .int .i64 k ∧ n = .int .i64 (nv t k : Int) ∧ Hid (allAt dgAt t k = true)) (fun i _ => t.size - (intOf i).toNat)
  case atStart => exact ⟨0, Nat.zero_le _, rfl, rfl, Lib.hid rfl⟩
  case round =>
    obtain ⟨k, hk, rfl, rfl, hall⟩ := hrel
    by_cases hlt : k < t.size
    · have e := bt_at t k hlt
      have lt := bt_lt t k
      have sm := nv_small t k hall.out (by omega)
      have ON := Lib.hid (show ∀ q, dgAt k (bt t k) = q → allAt dgAt t (k + 1) = q from fun q hq => by unfold allAt; rw [hall.out, hq]; rfl)
      have OFF := Lib.hid (show dgAt k (bt t k) = false → b = false ∧ N = 0 from fun q => by
        obtain ⟨u1, u2⟩ := HB.out
        have u3 : b = false := by rw [← u1]; exact allAt_no _ _ k q _ hlt
        rw [u3] at u2
        exact ⟨u3, u2.symm⟩)
      have NX := Lib.hid (show nv t (k + 1) = nv t k * 10 + (bt t k - 48) from rfl)
      by_cases dg : 48 ≤ bt t k ∧ bt t k ≤ 57
      · obtain ⟨d1, d2⟩ := dg
        have d1' : (48 : Int) ≤ (bt t k : Int) := by omega
        have d2' : (bt t k : Int) ≤ 57 := by omega
        go_wp2
        go_round
        case rel => exact ⟨k + 1, by omega, by go_num, congrArg (Value.int .i64) (by rw [NX.out]; omega), Lib.hid (ON.out true ((dgAt_iff k (bt t k)).2 ⟨d1, d2⟩))⟩
        case measure => simp [intOf] <;> omega
      · have hf : dgAt k (bt t k) = false := by
          cases q : dgAt k (bt t k)
          · rfl
          · exact absurd ((dgAt_iff _ _).1 q) dg
        have HF := Lib.hid (OFF.out hf)
        clear hf
        have dd : bt t k < 48 ∨ 57 < bt t k := by omega
        rcases dd with d | d
        · have d' : (bt t k : Int) < 48 := by omega
          clear dg
          go_wp2
          refine bodyPost_ret (v := .tuple #[.int .i64 0, .bool false]) (by simp [results, Tryz.results120, go_sem]) rfl ⟨by obtain ⟨u1, u2⟩ := HF.out; rw [u1, u2], (by repeat (first | with_reducible exact Below.refl _ _ | with_reducible refine bel_then ?_ _ | with_reducible refine bel_grow ?_ _ | with_reducible refine bel_alloc ?_ _ | with_reducible refine bel_drew ?_ | with_reducible refine bel_set ?_ (by simp) _ | with_reducible refine bel_setRow ?_ (by first | omega | (simp; done)) _))⟩
        · have d' : (57 : Int) < (bt t k : Int) := by omega
          have d'' : (48 : Int) ≤ (bt t k : Int) := by omega
          clear dg
          go_wp2
          refine bodyPost_ret (v := .tuple #[.int .i64 0, .bool false]) (by simp [results, Tryz.results120, go_sem]) rfl ⟨by obtain ⟨u1, u2⟩ := HF.out; rw [u1, u2], (by repeat (first | with_reducible exact Below.refl _ _ | with_reducible refine bel_then ?_ _ | with_reducible refine bel_grow ?_ _ | with_reducible refine bel_alloc ?_ _ | with_reducible refine bel_drew ?_ | with_reducible refine bel_set ?_ (by simp) _ | with_reducible refine bel_setRow ?_ (by first | omega | (simp; done)) _))⟩
    · obtain rfl : k = t.size := by omega
      have sm := nv_small t t.size hall.out (by omega)
      have HT := Lib.hid (show b = true ∧ N = (-(nv t t.size : Int)) from by
        obtain ⟨u1, u2⟩ := HB.out
        have u3 : b = true := by rw [← u1, hall.out]
        rw [u3] at u2
        exact ⟨u3, u2.symm⟩)
      go_wp2
      refine bodyPost_ret (v := .tuple #[.int .i64 (-(nv t t.size : Int)), .bool true]) (by simp [results, Tryz.results120, go_sem]) rfl ⟨by obtain ⟨u1, u2⟩ := HT.out; rw [u1, u2], (by repeat (first | with_reducible exact Below.refl _ _ | with_reducible refine bel_then ?_ _ | with_reducible refine bel_grow ?_ _ | with_reducible refine bel_alloc ?_ _ | with_reducible refine bel_drew ?_ | with_reducible refine bel_set ?_ (by simp) _ | with_reducible refine bel_setRow ?_ (by first | omega | (simp; done)) _))⟩
theorem rNum_empty (s : ByteArray) (h0 : s.size = 0) (l0 : s.toList = []) (l1 : s.toList.isEmpty = true) : Gives Tryz.prog 120 #[.string s] (.tuple #[.int .i64 0, .bool false]) := by
  refine Gives.mk fun w => ?_
  go_enter Tryz.func120, Tryz.ntmps120
  go_wp2
  refine bodyPost_ret (v := .tuple #[.int .i64 0, .bool false]) (by simp [results, Tryz.results120, go_sem]) rfl ⟨rfl, (by repeat (first | with_reducible exact Below.refl _ _ | with_reducible refine bel_then ?_ _ | with_reducible refine bel_grow ?_ _ | with_reducible refine bel_alloc ?_ _ | with_reducible refine bel_drew ?_ | with_reducible refine bel_set ?_ (by simp) _ | with_reducible refine bel_setRow ?_ (by first | omega | (simp; done)) _))⟩
theorem rNum_zero (s : ByteArray) (h0 : 0 < s.size) (n45 : ((bt s 0 : Int) == 45) = false) (nz : (s.toList == [48]) = true) : Gives Tryz.prog 120 #[.string s] (.tuple #[.int .i64 0, .bool true]) := by
  refine Gives.mk fun w => ?_
  have e := bt_at s 0 h0
  go_enter Tryz.func120, Tryz.ntmps120
  go_wp2
  refine bodyPost_ret (v := .tuple #[.int .i64 0, .bool true]) (by simp [results, Tryz.results120, go_sem]) rfl ⟨rfl, (by repeat (first | with_reducible exact Below.refl _ _ | with_reducible refine bel_then ?_ _ | with_reducible refine bel_grow ?_ _ | with_reducible refine bel_alloc ?_ _ | with_reducible refine bel_drew ?_ | with_reducible refine bel_set ?_ (by simp) _ | with_reducible refine bel_setRow ?_ (by first | omega | (simp; done)) _))⟩
theorem rNum_long (s : ByteArray) (h0 : 0 < s.size) (n45 : ((bt s 0 : Int) == 45) = false) (nz : (s.toList == [48]) = false) (h6 : 6 < s.size) : Gives Tryz.prog 120 #[.string s] (.tuple #[.int .i64 0, .bool false]) := by
  refine Gives.mk fun w => ?_
  have e := bt_at s 0 h0
  go_enter Tryz.func120, Tryz.ntmps120
  go_wp2
  refine bodyPost_ret (v := .tuple #[.int .i64 0, .bool false]) (by simp [results, Tryz.results120, go_sem]) rfl ⟨rfl, (by repeat (first | with_reducible exact Below.refl _ _ | with_reducible refine bel_then ?_ _ | with_reducible refine bel_grow ?_ _ | with_reducible refine bel_alloc ?_ _ | with_reducible refine bel_drew ?_ | with_reducible refine bel_set ?_ (by simp) _ | with_reducible refine bel_setRow ?_ (by first | omega | (simp; done)) _))⟩
theorem rNum_nought (s : ByteArray) (h0 : 0 < s.size) (n45 : ((bt s 0 : Int) == 45) = false) (nz : (s.toList == [48]) = false) (h6 : s.size ≤ 6) (n48 : ((bt s 0 : Int) == 48) = true) : Gives Tryz.prog 120 #[.string s] (.tuple #[.int .i64 0, .bool false]) := by
  refine Gives.mk fun w => ?_
  have e := bt_at s 0 h0
  go_enter Tryz.func120, Tryz.ntmps120
  go_wp2
  refine bodyPost_ret (v := .tuple #[.int .i64 0, .bool false]) (by simp [results, Tryz.results120, go_sem]) rfl ⟨rfl, (by repeat (first | with_reducible exact Below.refl _ _ | with_reducible refine bel_then ?_ _ | with_reducible refine bel_grow ?_ _ | with_reducible refine bel_alloc ?_ _ | with_reducible refine bel_drew ?_ | with_reducible refine bel_set ?_ (by simp) _ | with_reducible refine bel_setRow ?_ (by first | omega | (simp; done)) _))⟩
theorem rNum_nempty (s : ByteArray) (h0 : 0 < s.size) (t : ByteArray) (et : s.extract 1 s.size = t) (p45 : ((bt s 0 : Int) == 45) = true) (nz : (t.toList == [48]) = false) (h1 : t.size = 0) : Gives Tryz.prog 120 #[.string s] (.tuple #[.int .i64 0, .bool false]) := by
  refine Gives.mk fun w => ?_
  have e := bt_at s 0 h0
  go_enter Tryz.func120, Tryz.ntmps120
  go_wp2
  refine bodyPost_ret (v := .tuple #[.int .i64 0, .bool false]) (by simp [results, Tryz.results120, go_sem]) rfl ⟨rfl, (by repeat (first | with_reducible exact Below.refl _ _ | with_reducible refine bel_then ?_ _ | with_reducible refine bel_grow ?_ _ | with_reducible refine bel_alloc ?_ _ | with_reducible refine bel_drew ?_ | with_reducible refine bel_set ?_ (by simp) _ | with_reducible refine bel_setRow ?_ (by first | omega | (simp; done)) _))⟩
theorem rNum_nlong (s : ByteArray) (h0 : 0 < s.size) (t : ByteArray) (et : s.extract 1 s.size = t) (p45 : ((bt s 0 : Int) == 45) = true) (nz : (t.toList == [48]) = false) (h6 : 6 < t.size) : Gives Tryz.prog 120 #[.string s] (.tuple #[.int .i64 0, .bool false]) := by
  refine Gives.mk fun w => ?_
  have e := bt_at s 0 h0
  go_enter Tryz.func120, Tryz.ntmps120
  go_wp2
  refine bodyPost_ret (v := .tuple #[.int .i64 0, .bool false]) (by simp [results, Tryz.results120, go_sem]) rfl ⟨rfl, (by repeat (first | with_reducible exact Below.refl _ _ | with_reducible refine bel_then ?_ _ | with_reducible refine bel_grow ?_ _ | with_reducible refine bel_alloc ?_ _ | with_reducible refine bel_drew ?_ | with_reducible refine bel_set ?_ (by simp) _ | with_reducible refine bel_setRow ?_ (by first | omega | (simp; done)) _))⟩
theorem rNum_nnought (s : ByteArray) (h0 : 0 < s.size) (t : ByteArray) (et : s.extract 1 s.size = t) (p45 : ((bt s 0 : Int) == 45) = true) (nz : (t.toList == [48]) = false) (h1 : 1 ≤ t.size) (h6 : t.size ≤ 6) (n48 : ((bt t 0 : Int) == 48) = true) : Gives Tryz.prog 120 #[.string s] (.tuple #[.int .i64 0, .bool false]) := by
  refine Gives.mk fun w => ?_
  have e := bt_at s 0 h0
  have e1 := bt_at t 0 (by omega)
  go_enter Tryz.func120, Tryz.ntmps120
  go_wp2
  refine bodyPost_ret (v := .tuple #[.int .i64 0, .bool false]) (by simp [results, Tryz.results120, go_sem]) rfl ⟨rfl, (by repeat (first | with_reducible exact Below.refl _ _ | with_reducible refine bel_then ?_ _ | with_reducible refine bel_grow ?_ _ | with_reducible refine bel_alloc ?_ _ | with_reducible refine bel_drew ?_ | with_reducible refine bel_set ?_ (by simp) _ | with_reducible refine bel_setRow ?_ (by first | omega | (simp; done)) _))⟩
theorem rNum_nnought0 (s : ByteArray) (h0 : 0 < s.size) (t : ByteArray) (et : s.extract 1 s.size = t) (p45 : ((bt s 0 : Int) == 45) = true) (nz : (t.toList == [48]) = true) (h1 : 1 ≤ t.size) (h6 : t.size ≤ 6) (n48 : ((bt t 0 : Int) == 48) = true) : Gives Tryz.prog 120 #[.string s] (.tuple #[.int .i64 0, .bool false]) := by
  refine Gives.mk fun w => ?_
  have e := bt_at s 0 h0
  have e1 := bt_at t 0 (by omega)
  go_enter Tryz.func120, Tryz.ntmps120
  go_wp2
  refine bodyPost_ret (v := .tuple #[.int .i64 0, .bool false]) (by simp [results, Tryz.results120, go_sem]) rfl ⟨rfl, (by repeat (first | with_reducible exact Below.refl _ _ | with_reducible refine bel_then ?_ _ | with_reducible refine bel_grow ?_ _ | with_reducible refine bel_alloc ?_ _ | with_reducible refine bel_drew ?_ | with_reducible refine bel_set ?_ (by simp) _ | with_reducible refine bel_setRow ?_ (by first | omega | (simp; done)) _))⟩
/-- A number without its sign. -/
def okU (t : ByteArray) : Bool := decide (1 ≤ t.size) && decide (t.size ≤ 6) && !decide (bt t 0 = 48) && allAt dgAt t t.size
/-- What Number answers. -/
def numV (s : ByteArray) : Int × Bool :=
  if 0 < s.size ∧ bt s 0 = 45 then (if okU (s.extract 1 s.size) then (-(nv (s.extract 1 s.size) (s.extract 1 s.size).size : Int), true) else (0, false))
  else if s.toList = [48] then (0, true) else if okU s then ((nv s s.size : Int), true) else (0, false)
theorem toList_one {t : ByteArray} {c : UInt8} (h : t.toList = [c]) : t.size = 1 ∧ bt t 0 = c.toNat := by
  have e : t.data.toList = [c] := by rw [ByteArray.toList_eq] at h; exact h
  have hs : t.size = 1 := by
    have : t.data.toList.length = 1 := by rw [e]; rfl
    simpa using this
  refine ⟨hs, ?_⟩
  have h0 : 0 < t.size := by omega
  rw [← bt_at t 0 h0]
  have : t.data.toList[0]'(by rw [e]; simp) = c := by simp [e]
  have e2 : t.data[0]'(by simpa using h0) = c := by simpa using this
  exact congrArg UInt8.toNat e2
theorem rNum_any (s : ByteArray) : Gives Tryz.prog 120 #[.string s] (.tuple #[.int .i64 (numV s).1, .bool (numV s).2]) := by
  have B : ∀ a c : Nat, ((a : Int) == (c : Int)) = decide (a = c) := fun a c => by
    rw [Bool.eq_iff_iff]; simp; omega
  by_cases h0 : 0 < s.size
  · by_cases q : bt s 0 = 45
    · have p45 : ((bt s 0 : Int) == 45) = true := by simp [q]
      have ev : numV s = if okU (s.extract 1 s.size) then (-(nv (s.extract 1 s.size) (s.extract 1 s.size).size : Int), true) else (0, false) := by
        unfold numV; rw [if_pos ⟨h0, q⟩]
      rw [ev]
      generalize et : s.extract 1 s.size = t
      by_cases h1 : 1 ≤ t.size
      · by_cases h6 : t.size ≤ 6
        · by_cases q8 : bt t 0 = 48
          · have n48 : ((bt t 0 : Int) == 48) = true := by simp [q8]
            have eo : okU t = false := by unfold okU; simp [q8]
            rw [eo]
            cases z : (t.toList == [48])
            · exact rNum_nnought s h0 t et p45 z h1 h6 n48
            · exact rNum_nnought0 s h0 t et p45 z h1 h6 n48
          · have n48 : ((bt t 0 : Int) == 48) = false := by simp; omega
            have z : (t.toList == [48]) = false := by
              cases z : (t.toList == [48])
              · rfl
              · exact absurd (toList_one (by simpa using z)).2 q8
            have eo : okU t = allAt dgAt t t.size := by unfold okU; simp [h1, h6, q8]
            rw [eo]
            have k := rNum_neg s h0 t et p45 z h1 h6 n48 _ rfl _ rfl
            cases hb : allAt dgAt t t.size
            · rw [hb] at k; exact k
            · rw [hb] at k; exact k
        · have eo : okU t = false := by unfold okU; simp [h6]
          have z : (t.toList == [48]) = false := by
            cases z : (t.toList == [48])
            · rfl
            · exact absurd (toList_one (by simpa using z)).1 (by omega)
          rw [eo]
          exact rNum_nlong s h0 t et p45 z (by omega)
      · have eo : okU t = false := by unfold okU; simp [show ¬ 1 ≤ t.size from h1]
        have z : (t.toList == [48]) = false := by
          cases z : (t.toList == [48])
          · rfl
          · exact absurd (toList_one (by simpa using z)).1 (by omega)
        rw [eo]
        exact rNum_nempty s h0 t et p45 z (by omega)
    · have n45 : ((bt s 0 : Int) == 45) = false := by simp; omega
      have ev : numV s = if s.toList = [48] then (0, true) else if okU s then ((nv s s.size : Int), true) else (0, false) := by
        unfold numV; rw [if_neg (by omega)]
      rw [ev]
      by_cases z : s.toList = [48]
      · rw [if_pos z]
        exact rNum_zero s h0 n45 (by simp [z])
      · rw [if_neg z]
        have nz : (s.toList == [48]) = false := by simpa using z
        by_cases h6 : s.size ≤ 6
        · by_cases q8 : bt s 0 = 48
          · have eo : okU s = false := by unfold okU; simp [q8]
            rw [eo]
            exact rNum_nought s h0 n45 nz h6 (by simp [q8])
          · have eo : okU s = allAt dgAt s s.size := by unfold okU; simp [show 1 ≤ s.size from h0, h6, q8]
            rw [eo]
            have k := rNum_pos s h0 n45 nz h0 h6 (by simp; omega) _ rfl _ rfl
            cases hb : allAt dgAt s s.size
            · rw [hb] at k; exact k
            · rw [hb] at k; exact k
        · have eo : okU s = false := by unfold okU; simp [h6]
          rw [eo]
          exact rNum_long s h0 n45 nz (by omega)
  · have l0 : s.toList = [] := by
      rw [ByteArray.toList_eq]
      have : s.data.toList.length = 0 := by simpa using (show s.size = 0 by omega)
      exact List.eq_nil_of_length_eq_zero this
    have ev : numV s = (0, false) := by
      unfold numV
      rw [if_neg (by omega), l0, if_neg (by simp)]
      have eo : okU s = false := by unfold okU; simp [show ¬ 1 ≤ s.size from h0]
      rw [eo]; rfl
    rw [ev]
    exact rNum_empty s (by omega) l0 (by rw [l0]; rfl)
end Go.Proofs.YtdkgbdecmgligaaGreatDoor
