/- Words: the program's own Number. -/
import Derived.Test.YtdkgbdecmgligaaGreatDoorMLexP
import Derived.Test.YtdkgbdecmgligaaGreatDoorLex6
import Derived.Test.YtdkgbdecmgligaaGreatDoorShelf
namespace Go.Proofs.YtdkgbdecmgligaaGreatDoor
open Go.RowKit
set_option linter.unusedVariables false
set_option linter.unusedSimpArgs false
theorem lNum_zero (s : ByteArray) (nz : (s.toList == [48]) = true) : Gives Tryz.prog 126 #[.string s] (.tuple #[.int .i64 0, .bool true]) := by
  refine Gives.mk fun w => ?_
  go_enter Tryz.func126, Tryz.ntmps126
  go_wp2
  refine bodyPost_ret (v := .tuple #[.int .i64 0, .bool true]) (by simp [results, Tryz.results126, go_sem]) rfl ⟨rfl, (by repeat (first | with_reducible exact Below.refl _ _ | with_reducible refine bel_then ?_ _ | with_reducible refine bel_grow ?_ _ | with_reducible refine bel_alloc ?_ _ | with_reducible refine bel_drew ?_ | with_reducible refine bel_set ?_ (by simp) _ | with_reducible refine bel_setRow ?_ (by first | omega | (simp; done)) _))⟩
theorem lNum_size (s t : ByteArray) (b : Bool) (CP : ∀ w : World, Calls Tryz.prog 143 #[.string s, .string ⟨#[45]⟩] w fun e w' => e = .returned (.tuple #[.string t, .bool b]) ∧ w' = w) (nz : (s.toList == [48]) = false) (h : t.size < 1 ∨ 6 < t.size) : Gives Tryz.prog 126 #[.string s] (.tuple #[.int .i64 0, .bool false]) := by
  refine Gives.mk fun w => ?_
  rcases h with h | h
  all_goals
    go_enter Tryz.func126, Tryz.ntmps126
    go_wp2_with (go_at_call 143; refine (CP _).mono ?_; rintro e w0 ⟨rfl, hw0⟩; rw [hw0]; clear hw0 w0)
    refine bodyPost_ret (v := .tuple #[.int .i64 0, .bool false]) (by simp [results, Tryz.results126, go_sem]) rfl ⟨rfl, (by repeat (first | with_reducible exact Below.refl _ _ | with_reducible refine bel_then ?_ _ | with_reducible refine bel_grow ?_ _ | with_reducible refine bel_alloc ?_ _ | with_reducible refine bel_drew ?_ | with_reducible refine bel_set ?_ (by simp) _ | with_reducible refine bel_setRow ?_ (by first | omega | (simp; done)) _))⟩
theorem lNum_nought (s t : ByteArray) (b : Bool) (CP : ∀ w : World, Calls Tryz.prog 143 #[.string s, .string ⟨#[45]⟩] w fun e w' => e = .returned (.tuple #[.string t, .bool b]) ∧ w' = w) (nz : (s.toList == [48]) = false) (h1 : 1 ≤ t.size) (h6 : t.size ≤ 6) (n48 : ((bt t 0 : Int) == 48) = true) : Gives Tryz.prog 126 #[.string s] (.tuple #[.int .i64 0, .bool false]) := by
  refine Gives.mk fun w => ?_
  have e1 := bt_at t 0 (by omega)
  go_enter Tryz.func126, Tryz.ntmps126
  go_wp2_with (go_at_call 143; refine (CP _).mono ?_; rintro e w0 ⟨rfl, hw0⟩; rw [hw0]; clear hw0 w0)
  refine bodyPost_ret (v := .tuple #[.int .i64 0, .bool false]) (by simp [results, Tryz.results126, go_sem]) rfl ⟨rfl, (by repeat (first | with_reducible exact Below.refl _ _ | with_reducible refine bel_then ?_ _ | with_reducible refine bel_grow ?_ _ | with_reducible refine bel_alloc ?_ _ | with_reducible refine bel_drew ?_ | with_reducible refine bel_set ?_ (by simp) _ | with_reducible refine bel_setRow ?_ (by first | omega | (simp; done)) _))⟩
set_option maxHeartbeats 1000000 in
theorem lNum_core (s t : ByteArray) (b : Bool) (CP : ∀ w : World, Calls Tryz.prog 143 #[.string s, .string ⟨#[45]⟩] w fun e w' => e = .returned (.tuple #[.string t, .bool b]) ∧ w' = w) (nz : (s.toList == [48]) = false) (h1 : 1 ≤ t.size) (h6 : t.size ≤ 6) (n48 : ((bt t 0 : Int) == 48) = false) (q : Bool) (hq : allAt dgAt t t.size = q) (N : Int) (hN : (if q then (if b then -(nv t t.size : Int) else (nv t t.size : Int)) else 0) = N) : Gives Tryz.prog 126 #[.string s] (.tuple #[.int .i64 N, .bool q]) := by
  refine Gives.mk fun w => ?_
  have HB := Lib.hid (And.intro hq hN)
  clear hq hN
  have e1 := bt_at t 0 (by omega)
  go_enter Tryz.func126, Tryz.ntmps126
  go_wp2_with (go_at_call 143; refine (CP _).mono ?_; rintro e w0 ⟨rfl, hw0⟩; rw [hw0]; clear hw0 w0)
  go_loopw [6] (fun n wr => ∃ k : Nat, k ≤ t.size ∧ n = .int .i64 (nv t k : Int) ∧ Hid (allAt dgAt t k = true) ∧ wr.heap[w.heap.size]? = some (.stringIter t k) ∧ Below w.heap.size w wr) (fun _ wr => t.size - wr.iterPos w.heap.size)
  case atStart => exact ⟨0, by omega, rfl, Lib.hid rfl, World.iter_heap _ _ _, (Below.refl _ w).alloc (Nat.le_refl _) _⟩
  case round =>
    obtain ⟨k, hk, rfl, hall, hit, hbw⟩ := hrel
    have hsz : w.heap.size < wr.heap.size := (Array.getElem?_eq_some_iff.1 hit).1
    by_cases hlt : k < t.size
    · have hnx : ∀ ty, (Instr.next (.pointer (some ⟨w.heap.size, 0, none⟩)) true ty).run Tryz.prog wr = _ := fun ty => Lib.run_next_any_at wr w.heap.size t k ty hit hlt
      have D := Lib.hid (dec_at t k hlt)
      have lt := bt_lt t k
      have sm := nv_small t k hall.out (by omega)
      have hit2 := Lib.hid (Lib.iterAt_heap wr w.heap.size t k (k + (Utf8.decode t k).2) hit)
      have hbw2 := Lib.hid (Lib.below_iterAt hbw (k := w.heap.size) (Nat.le_refl _) t (k + (Utf8.decode t k).2))
      have hsz2 : w.heap.size < (wr.iterAt w.heap.size t (k + (Utf8.decode t k).2)).heap.size := by rw [Lib.iterAt_size]; exact hsz
      have ON := Lib.hid (show ∀ q, dgAt k (bt t k) = q → allAt dgAt t (k + 1) = q from fun q hq => by unfold allAt; rw [hall.out, hq]; rfl)
      have OFF := Lib.hid (show dgAt k (bt t k) = false → q = false ∧ N = 0 from fun z => by
        obtain ⟨u1, u2⟩ := HB.out
        have u3 : q = false := by rw [← u1]; exact allAt_no _ _ k z _ hlt
        rw [u3] at u2
        exact ⟨u3, u2.symm⟩)
      have NX := Lib.hid (show nv t (k + 1) = nv t k * 10 + (bt t k - 48) from rfl)
      have MS := Lib.hid (show t.size - wr.iterPos w.heap.size = t.size - k by simp only [World.iterPos, hit])
      generalize (Utf8.decode t k).1 = r at *
      generalize (Utf8.decode t k).2 = d at *
      generalize hw2 : wr.iterAt w.heap.size t (k + d) = w2 at *
      have C0 := Lib.hid (show ∀ x : More, (grow w2 x).heap[w.heap.size]? = some (.stringIter t (k + d)) ∧ Below w.heap.size w (grow w2 x) from fun x => ⟨((x.kept w2).block _ hsz2).trans hit2.out, hbw2.out.trans ((x.kept w2).mono (by omega))⟩)
      have MS2 := Lib.hid (show ∀ x : More, t.size - (grow w2 x).iterPos w.heap.size = t.size - (k + d) from fun x => by simp only [World.iterPos, (C0.out x).1])
      have W2 := digit_any (r : Int)
      clear hit2 hbw2 hsz hit hbw
      by_cases dg : 48 ≤ r ∧ r ≤ 57
      · have f1 : decide ((48 : Int) ≤ (r : Int)) = true := by simp; omega
        have f2 : decide ((r : Int) ≤ 57) = true := by simp; omega
        rw [f1, f2] at W2
        have dd : d = 1 ∧ dgAt k (bt t k) = true ∧ bt t k = r := by
          have D := D.out
          rw [dgAt_iff]; omega
        obtain ⟨rfl, d2, d3⟩ := dd
        have NX2 := Lib.hid (show nv t (k + 1) = nv t k * 10 + (r - 48) by rw [NX.out, d3])
        have ON2 := Lib.hid (ON.out true d2)
        obtain ⟨g1, g2⟩ := dg
        clear f1 f2 d2 d3
        go_wp2_with (go_at_call 128; refine (W2 _).mono ?_; rintro e _ ⟨rfl, x4, rfl⟩)
        go_roundw
        case rel => exact ⟨k + 1, by omega, congrArg (Value.int .i64) (by rw [NX2.out]; omega), ON2, (C0.out _).1, (C0.out _).2⟩
        case measure => rw [MS.out, MS2.out]; omega
      · have W3 : Gives Tryz.prog 128 #[.int .i32 (r : Int)] (.bool false) := by
          have e : (decide ((48 : Int) ≤ (r : Int)) && decide ((r : Int) ≤ 57)) = false := by
            cases q : (decide ((48 : Int) ≤ (r : Int)) && decide ((r : Int) ≤ 57))
            · rfl
            · simp at q; omega
          rw [e] at W2; exact W2
        have dd : dgAt k (bt t k) = false := by
          cases q : dgAt k (bt t k)
          · rfl
          · have := (dgAt_iff _ _).1 q
            have D := D.out
            omega
        have HF := Lib.hid (OFF.out dd)
        clear dd W2 dg
        go_wp2_with (go_at_call 128; refine (W3 _).mono ?_; rintro e _ ⟨rfl, x4, rfl⟩)
        refine bodyPost_ret (v := .tuple #[.int .i64 0, .bool false]) (by simp [results, Tryz.results126, go_sem]) rfl ⟨by obtain ⟨u1, u2⟩ := HF.out; rw [u1, u2], (C0.out _).2⟩
    · obtain rfl : k = t.size := by omega
      have sm := nv_small t t.size hall.out (by omega)
      have hnx : ∀ ty, (Instr.next (.pointer (some ⟨w.heap.size, 0, none⟩)) true ty).run Tryz.prog wr = _ := fun ty => Lib.run_next_end_at wr w.heap.size t t.size ty hit hlt
      have HT := Lib.hid (show q = true ∧ N = (if b then -(nv t t.size : Int) else (nv t t.size : Int)) from by
        obtain ⟨u1, u2⟩ := HB.out
        have u3 : q = true := by rw [← u1, hall.out]
        rw [u3] at u2
        exact ⟨u3, u2.symm⟩)
      clear CP
      cases b
      · go_wp2
        refine bodyPost_ret (v := .tuple #[.int .i64 (nv t t.size : Int), .bool true]) (by simp [results, Tryz.results126, go_sem]) rfl ⟨by obtain ⟨u1, u2⟩ := HT.out; rw [u1, u2]; rfl, hbw⟩
      · go_wp2
        refine bodyPost_ret (v := .tuple #[.int .i64 (-(nv t t.size : Int)), .bool true]) (by simp [results, Tryz.results126, go_sem]) rfl ⟨by obtain ⟨u1, u2⟩ := HT.out; rw [u1, u2]; rfl, hbw⟩
theorem pre45 (s : ByteArray) : Lib.hasPrefix s.data.toList [45] = decide (0 < s.size ∧ bt s 0 = 45) := by
  unfold Lib.hasPrefix
  have hl := T_len s
  have hb := T_bt s 0
  unfold T at hl hb
  cases e : s.data.toList with
  | nil => rw [e] at hl; simp at hl; simp [List.isPrefixOf, ← hl]
  | cons c l =>
    rw [e] at hl
    simp only [e] at hb
    simp only [List.map_cons, List.length_cons, List.length_map] at hl
    have hb := hb (by simp)
    simp only [List.map_cons, List.getElem_cons_zero] at hb
    have h0 : 0 < s.size := by omega
    rw [← hb]
    simp only [List.isPrefixOf, Bool.and_true, h0, true_and]
    rw [Bool.eq_iff_iff]
    simp only [beq_iff_eq, decide_eq_true_eq]
    constructor
    · rintro rfl; rfl
    · intro h; exact (UInt8.toNat_inj.1 h).symm
theorem cut45 (s : ByteArray) : (⟨(Lib.trimPrefix s.data.toList [45]).toArray⟩ : ByteArray) = if 0 < s.size ∧ bt s 0 = 45 then s.extract 1 s.size else s := by
  have hp := pre45 s
  have hr := Lib.hasPrefix_raw s ⟨#[45]⟩
  change _ = Lib.hasPrefix s.data.toList [45] at hr
  by_cases h : 0 < s.size ∧ bt s 0 = 45
  · rw [if_pos h]
    rw [hp, decide_eq_true h] at hr
    simp only [Bool.and_eq_true, decide_eq_true_eq] at hr
    exact Lib.trimPrefix_hit s ⟨#[45]⟩ hr.1 hr.2
  · rw [if_neg h]
    rw [hp, decide_eq_false h] at hr
    exact Lib.trimPrefix_miss s ⟨#[45]⟩ hr
theorem lNum_any (s : ByteArray) : Gives Tryz.prog 126 #[.string s] (.tuple #[.int .i64 (numV s).1, .bool (numV s).2]) := by
  by_cases z : s.toList = [48]
  · have ev : numV s = (0, true) := by
      have e := toList_one z
      have e2 : (48 : UInt8).toNat = 48 := rfl
      unfold numV
      rw [if_neg (by omega), if_pos z]
    rw [ev]
    exact lNum_zero s (by simp [z])
  · have nz : (s.toList == [48]) = false := by simpa using z
    have CP : ∀ w : World, Calls Tryz.prog 143 #[.string s, .string ⟨#[45]⟩] w fun e w' => e = .returned (.tuple #[.string (if 0 < s.size ∧ bt s 0 = 45 then s.extract 1 s.size else s), .bool (decide (0 < s.size ∧ bt s 0 = 45))]) ∧ w' = w := fun w => by
      rw [← cut45, ← pre45]
      exact Tryz.strings_CutPrefix s ⟨#[45]⟩ w
    have ev : numV s = if okU (if 0 < s.size ∧ bt s 0 = 45 then s.extract 1 s.size else s) then ((if decide (0 < s.size ∧ bt s 0 = 45) then -(nv (if 0 < s.size ∧ bt s 0 = 45 then s.extract 1 s.size else s) (if 0 < s.size ∧ bt s 0 = 45 then s.extract 1 s.size else s).size : Int) else (nv (if 0 < s.size ∧ bt s 0 = 45 then s.extract 1 s.size else s) (if 0 < s.size ∧ bt s 0 = 45 then s.extract 1 s.size else s).size : Int)), true) else (0, false) := by
      unfold numV
      by_cases h : 0 < s.size ∧ bt s 0 = 45
      · simp only [if_pos h, decide_eq_true h, if_true]
      · simp only [if_neg h, if_neg z, decide_eq_false h, Bool.false_eq_true, if_false]
    rw [ev]
    generalize (if 0 < s.size ∧ bt s 0 = 45 then s.extract 1 s.size else s) = t at *
    generalize decide (0 < s.size ∧ bt s 0 = 45) = b at *
    by_cases h1 : 1 ≤ t.size
    · by_cases h6 : t.size ≤ 6
      · by_cases q8 : bt t 0 = 48
        · have eo : okU t = false := by unfold okU; simp [q8]
          rw [eo]
          exact lNum_nought s t b CP nz h1 h6 (by simp [q8])
        · have eo : okU t = allAt dgAt t t.size := by unfold okU; simp [h1, h6, q8]
          rw [eo]
          have k := lNum_core s t b CP nz h1 h6 (by simp; omega) _ rfl _ rfl
          cases hb : allAt dgAt t t.size
          · rw [hb] at k; exact k
          · rw [hb] at k; exact k
      · have eo : okU t = false := by unfold okU; simp [h6]
        rw [eo]
        exact lNum_size s t b CP nz (.inr (by omega))
    · have eo : okU t = false := by unfold okU; simp [h1]
      rw [eo]
      exact lNum_size s t b CP nz (.inl (by omega))
end Go.Proofs.YtdkgbdecmgligaaGreatDoor
