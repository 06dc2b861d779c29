/- The document's own numbers: long division. -/
import Derived.Test.YtgfgaaecpdbgeaaMRefC
import Derived.Test.YtgfgaaecpdbgeaaMDig
import Derived.Test.YtgfgaaecpdbgeaaSideM
import Derived.Test.YtgfgaaecpdbgeaaMWideB
namespace Go.Proofs.Ytgfgaaecpdbgeaa
open Go.RowKit
set_option linter.unusedVariables false
set_option linter.unusedSimpArgs false
theorem grow_self12 (w : World) (x : More) : ((grow w x).heap.size + 1 < x.top w + 1 + 1) = True := eq_true (Nat.succ_lt_succ (Nat.lt_succ_self _))
theorem i64_and_1 (n : Nat) (h : n < 9223372036854775808) : bits .and .i64 (n : Int) 1 = ((n % 2 : Nat) : Int) := by
  have ha : (BitVec.ofInt 64 (n : Int)).toNat = n := by rw [BitVec.toNat_ofInt]; omega
  have h1 : (BitVec.ofInt 64 1).toNat = 1 := by decide
  show IntKind.i64.wrap ((BitVec.ofInt 64 (n : Int) &&& BitVec.ofInt 64 1).toNat : Int) = _
  rw [BitVec.toNat_and, ha, h1, Nat.and_one_is_mod, IntKind.wrap_i64]
  omega
theorem bit_eq (N q u : Nat) : bits .and .i64 (dg N q / 2 ^ u) 1 = ((dN N q / 2 ^ u % 2 : Nat) : Int) := by
  have e : dg N q / 2 ^ u = ((dN N q / 2 ^ u : Nat) : Int) := by rw [dg_dN, Int.natCast_ediv]; simp
  have l : dN N q / 2 ^ u ≤ dN N q := Nat.div_le_self _ _
  have a := dN_lt N q
  rw [e, i64_and_1 _ (by omega)]
set_option maxRecDepth 100000 in
set_option maxHeartbeats 4000000 in
theorem div_1 (a c : Int) (N D : Nat) (hN : N < 65536 ^ 18) (d0 : 1 ≤ D) (d1 : D ≤ 9223372036854775807) (rr : Nat) (hrr : N % D = rr) (hml : rr < D) (u1 u2 : Int)
    (fr : Gives Try.prog 40 #[.agg #[.int .i64 a, .int .u64 c]] (.agg (numc false (dg N)))) (ti : Gives Try.prog 44 #[.agg (numc false (dg (N / D)))] (.tuple #[.agg #[.int .i64 u1, .int .u64 u2], .bool true])) :
    Gives Try.prog 15 #[.agg #[.int .i64 a, .int .u64 c], .int .i64 (D : Int)] (.tuple #[.agg #[.int .i64 u1, .int .u64 u2], .int .i64 ((rr : Int)), .bool true]) := by
  refine Gives.mk fun w => ?_
  have first := Lib.hid (RR_first N D hN)
  have e0 : numc false (fun _ => 0) = numc false (fun j => ((EE N D 18 0 j : Nat) : Int)) := numc_congr fun j hj => by rw [EE_first N D j hj]; rfl
  have E0 := Lib.hid e0
  clear e0
  have dz0 : (1 : Int) ≤ (D : Int) := by omega
  have dz1 : (D : Int) ≤ 9223372036854775807 := by omega
  go_enter Try.func15, Try.ntmps15
  go_wp2_with (first | (refine wpList_val rfl _ _ (alloc_num _ _ rfl _ _ rfl) ?_; try simp only [size_setRow, World.size_alloc]) | (go_at_call 40; ((with_reducible refine (fr.at_ _).mono ?_); rintro e w' ⟨rfl, xf, rfl⟩)) | (refine wpList_val rfl _ _ (build_num0 _ _ rfl _) ?_) | (refine wpList_store_row rfl 70 _ _ rfl ((grow ((w.alloc (.cells #[.int .i64 a, .int .u64 c] 24)).alloc (.cells #[.int .i64 0, .int .u64 0] 24)) xf).heap.size) (numc false (dg N)) rfl rfl 70 (numc false fun _ => 0) (by simp only [grow_heap, alloc_heap_at, alloc_heap_past, setRow_alloc_at, setRow_alloc_past, grow_setRow, size_setRow, World.size_alloc, grow_lt, grow_lt1, grow_lt2, grow_lt3, grow_lt4, grow_lt5, grow_lt6, grow_self1, grow_self2, grow_self3, or_true, ltd2, ltd3, ltd4, ltd5, ltd6, ltd7, Nat.lt_add_one, true_or, if_true, ite_true]) (by rw [numc_size]; exact info30) (by simp only [numc_size]) (numc_one _ _) ?_) | (refine wpList_store_row rfl 70 _ _ rfl (((grow ((w.alloc (.cells #[.int .i64 a, .int .u64 c] 24)).alloc (.cells #[.int .i64 0, .int .u64 0] 24)) xf).heap.size + 1)) (numc false fun _ => 0) rfl rfl 70 (numc false fun _ => 0) (by simp only [grow_heap, alloc_heap_at, alloc_heap_past, setRow_alloc_at, setRow_alloc_past, grow_setRow, size_setRow, World.size_alloc, grow_lt, grow_lt1, grow_lt2, grow_lt3, grow_lt4, grow_lt5, grow_lt6, grow_self1, grow_self2, grow_self3, or_true, ltd2, ltd3, ltd4, ltd5, ltd6, ltd7, Nat.lt_add_one, true_or, if_true, ite_true]) (by rw [numc_size]; exact info30) (by simp only [numc_size]) (numc_one _ _) ?_))
  go_loopw [9, 10] (fun r i wr => ∃ (p : Int) (m : Nat), (m : Int) = p + 1 ∧ m ≤ 18 ∧ i = .int .i64 p ∧ r = .int .u64 ((RR N D m 0 : Nat) : Int) ∧ ∃ x, wr = grow (((grow ((w.alloc (.cells #[.int .i64 a, .int .u64 c] 24)).alloc (.cells #[.int .i64 0, .int .u64 0] 24)) xf).alloc (.cells (numc false (dg N)) 70)).alloc (.cells (numc false (fun j => ((EE N D m 0 j : Nat) : Int))) 70)) x) (fun _ i _ => (intOf i + 1).toNat)
  case atStart => exact ⟨17, 18, by omega, by omega, rfl, by rw [first.out]; rfl, by rw [← E0.out]; exact grow_of (by repeat (first | exact Below.refl _ _ | refine bel_then ?_ _ | refine bel_grow ?_ _ | refine bel_alloc ?_ _ | refine bel_drew ?_ | refine bel_set ?_ (by simp) _ | refine bel_setRow ?_ (by first | omega | (simp; done) | (refine Nat.le_trans ?_ (top_le _ _); simp; done) | (refine Nat.le_succ_of_le (Nat.le_trans ?_ (top_le _ _)); simp; done) | (refine Nat.le_trans ?_ (top_le _ _); simp only [World.size_alloc]; refine Nat.le_succ_of_le (Nat.le_trans ?_ (top_le _ _)); simp; done)) _))⟩
  case round =>
    obtain ⟨p, m, hm, hm18, rfl, rfl, xx, rfl⟩ := hrel
    clear first E0
    by_cases hp : 0 ≤ p
    · obtain ⟨q, rfl⟩ : ∃ q : Nat, p = (q : Int) := ⟨p.toNat, by omega⟩
      obtain rfl : m = q + 1 := by omega
      have r16 := Lib.hid (RR_next N D q)
      have e16 := Lib.hid (show numc false (fun j => ((EE N D (q + 1) 0 j : Nat) : Int)) = numc false (fun j => ((EE N D q 16 j : Nat) : Int)) from numc_congr fun j hj => by rw [EE_next])
      clear hm
      go_wp2_with fail
      go_loopw [9, 11] (fun r b wr => ∃ (v : Int) (t : Nat), (t : Int) = v + 1 ∧ t ≤ 16 ∧ b = .int .i64 v ∧ r = .int .u64 ((RR N D q t : Nat) : Int) ∧ ∃ x, wr = grow (((grow ((w.alloc (.cells #[.int .i64 a, .int .u64 c] 24)).alloc (.cells #[.int .i64 0, .int .u64 0] 24)) xf).alloc (.cells (numc false (dg N)) 70)).alloc (.cells (numc false (fun j => ((EE N D q t j : Nat) : Int))) 70)) x) (fun _ b _ => (intOf b + 1).toNat)
      case atStart => exact ⟨15, 16, by omega, by omega, rfl, by rw [r16.out], by rw [← e16.out]; exact grow_of (by repeat (first | exact Below.refl _ _ | refine bel_then ?_ _ | refine bel_grow ?_ _ | refine bel_alloc ?_ _ | refine bel_drew ?_ | refine bel_set ?_ (by simp) _ | refine bel_setRow ?_ (by first | omega | (simp; done) | (refine Nat.le_trans ?_ (top_le _ _); simp; done) | (refine Nat.le_succ_of_le (Nat.le_trans ?_ (top_le _ _)); simp; done) | (refine Nat.le_trans ?_ (top_le _ _); simp only [World.size_alloc]; refine Nat.le_succ_of_le (Nat.le_trans ?_ (top_le _ _)); simp; done)) _))⟩
      case round =>
        obtain ⟨v, t, ht, ht16, rfl, rfl, yy, rfl⟩ := hrel
        clear r16 e16
        by_cases hv : 0 ≤ v
        · obtain ⟨u, rfl⟩ : ∃ u : Nat, v = (u : Int) := ⟨v.toNat, by omega⟩
          obtain rfl : t = u + 1 := by omega
          have hd := div_step N D q u (by omega) (by omega)
          have hr := RR_lt N D q (u + 1) (by omega)
          have he := EE_lt N D q (u + 1) (by omega)
          have he2 : 2 ^ (16 - (u + 1)) ≤ 2 ^ 15 := Nat.pow_le_pow_right (by omega) (by omega)
          have n0 : (0 : Int) ≤ (q : Int) := by omega
          have n1 : (q : Int) < 18 := by omega
          have n2 : (0 : Int) ≤ (u : Int) := by omega
          have n3 : (u : Int) < 16 := by omega
          have hb := bit_eq N q u
          have hb2 := Nat.mod_lt (dN N q / 2 ^ u) (show 0 < 2 by omega)
          have he3 : EE N D q (u + 1) q < 32768 := Nat.lt_of_lt_of_le he he2
          clear he he2
          generalize dN N q / 2 ^ u % 2 = bt at *
          generalize RR N D q (u + 1) = rr at *
          by_cases hl : 2 * rr + bt < D
          · have hl1 : (rr : Int) * 2 + (bt : Int) < (D : Int) := by omega
            obtain ⟨k1, k2⟩ := hd.1 hl
            have ew := Lib.hid (show numc false (fun j => if j = q then ((EE N D q (u + 1) q : Nat) : Int) * 2 else ((EE N D q (u + 1) j : Nat) : Int)) = numc false (fun j => ((EE N D q u j : Nat) : Int)) from numc_congr fun j _ => by
              rw [k2 j]
              by_cases hj : j = q
              · simp only [if_pos hj]; omega
              · simp only [if_neg hj])
            replace k1 := Lib.hid k1
            clear k2 hd
            go_wp2_with fail
            go_roundw
            case rel => exact ⟨(u : Int) - 1, u, by omega, by omega, rfl, congrArg (Value.int .u64) (by have := k1.out; omega), by rw [← ew.out]; exact grow_of (by repeat (first | exact Below.refl _ _ | refine bel_then ?_ _ | refine bel_grow ?_ _ | refine bel_alloc ?_ _ | refine bel_drew ?_ | refine bel_set ?_ (by simp) _ | refine bel_setRow ?_ (by first | omega | (simp; done) | (refine Nat.le_trans ?_ (top_le _ _); simp; done) | (refine Nat.le_succ_of_le (Nat.le_trans ?_ (top_le _ _)); simp; done) | (refine Nat.le_trans ?_ (top_le _ _); simp only [World.size_alloc]; refine Nat.le_succ_of_le (Nat.le_trans ?_ (top_le _ _)); simp; done)) _))⟩
            case measure => simp [intOf] <;> omega
          · have hl1 : (D : Int) ≤ (rr : Int) * 2 + (bt : Int) := by omega
            obtain ⟨k1, k2⟩ := hd.2 (by omega)
            have ew := Lib.hid (show numc false (fun j => if j = q then ((EE N D q (u + 1) q : Nat) : Int) * 2 + 1 else if j = q then ((EE N D q (u + 1) q : Nat) : Int) * 2 else ((EE N D q (u + 1) j : Nat) : Int)) = numc false (fun j => ((EE N D q u j : Nat) : Int)) from numc_congr fun j _ => by
              rw [k2 j]
              by_cases hj : j = q
              · simp only [if_pos hj]; omega
              · simp only [if_neg hj])
            replace k1 := Lib.hid k1
            clear k2 hd
            go_wp2_with fail
            go_roundw
            case rel => exact ⟨(u : Int) - 1, u, by omega, by omega, rfl, congrArg (Value.int .u64) (by have := k1.out; omega), by rw [← ew.out]; exact grow_of (by repeat (first | exact Below.refl _ _ | refine bel_then ?_ _ | refine bel_grow ?_ _ | refine bel_alloc ?_ _ | refine bel_drew ?_ | refine bel_set ?_ (by simp) _ | refine bel_setRow ?_ (by first | omega | (simp; done) | (refine Nat.le_trans ?_ (top_le _ _); simp; done) | (refine Nat.le_succ_of_le (Nat.le_trans ?_ (top_le _ _)); simp; done) | (refine Nat.le_trans ?_ (top_le _ _); simp only [World.size_alloc]; refine Nat.le_succ_of_le (Nat.le_trans ?_ (top_le _ _)); simp; done)) _))⟩
            case measure => simp [intOf] <;> omega
        · obtain rfl : v = -1 := by omega
          obtain rfl : t = 0 := by omega
          clear ht
          go_wp2_with fail
          go_roundw
          case rel => exact ⟨(q : Int) - 1, q, by omega, by omega, by go_num, rfl, grow_of (by repeat (first | exact Below.refl _ _ | refine bel_then ?_ _ | refine bel_grow ?_ _ | refine bel_alloc ?_ _ | refine bel_drew ?_ | refine bel_set ?_ (by simp) _ | refine bel_setRow ?_ (by first | omega | (simp; done) | (refine Nat.le_trans ?_ (top_le _ _); simp; done) | (refine Nat.le_succ_of_le (Nat.le_trans ?_ (top_le _ _)); simp; done) | (refine Nat.le_trans ?_ (top_le _ _); simp only [World.size_alloc]; refine Nat.le_succ_of_le (Nat.le_trans ?_ (top_le _ _)); simp; done)) _))⟩
          case measure => simp [intOf] <;> omega
    · obtain rfl : p = -1 := by omega
      obtain rfl : m = 0 := by omega
      clear hm hp
      have e18 : numc false (fun j => ((EE N D 0 0 j : Nat) : Int)) = numc false (dg (N / D)) := numc_congr fun j hj => by rw [EE_last]; rfl
      rw [e18, RR_last]
      clear e18
      rw [hrr]
      have r2 : (rr : Int) < (D : Int) := by omega
      clear hrr hml
      go_wp2_with (first | (refine wpList_load_row rfl 70 _ rfl (((grow ((w.alloc (.cells #[.int .i64 a, .int .u64 c] 24)).alloc (.cells #[.int .i64 0, .int .u64 0] 24)) xf).heap.size + 1)) rfl 70 (numc false (dg (N / D))) (0, 0) _ (by simp only [grow_heap, alloc_heap_at, alloc_heap_past, setRow_alloc_at, setRow_alloc_past, grow_setRow, size_setRow, World.size_alloc, grow_lt, grow_lt1, grow_lt2, grow_lt3, grow_lt4, grow_lt5, grow_lt6, grow_self1, grow_self12, grow_self2, grow_self3, or_true, ltd2, ltd3, ltd4, ltd5, ltd6, ltd7, Nat.lt_add_one, true_or, if_true, ite_true]) Try.underlying70 rfl (by rw [numc_size]; exact info30) ?_) | (go_at_call 44; first | ((with_reducible refine (ti.at_ _).mono ?_); rintro e w' ⟨rfl, xg, rfl⟩)))
      refine bodyPost_ret (v := .tuple #[.agg #[.int .i64 u1, .int .u64 u2], .int .i64 ((rr : Int)), .bool true]) (by simp [results, Try.results15, go_sem]) rfl ⟨rfl, (by repeat (first | exact Below.refl _ _ | refine bel_then ?_ _ | refine bel_grow ?_ _ | refine bel_alloc ?_ _ | refine bel_drew ?_ | refine bel_set ?_ (by simp) _ | refine bel_setRow ?_ (by first | omega | (simp; done) | (refine Nat.le_trans ?_ (top_le _ _); simp; done) | (refine Nat.le_succ_of_le (Nat.le_trans ?_ (top_le _ _)); simp; done) | (refine Nat.le_trans ?_ (top_le _ _); simp only [World.size_alloc]; refine Nat.le_succ_of_le (Nat.le_trans ?_ (top_le _ _)); simp; done)) _))⟩
set_option maxRecDepth 100000 in
set_option maxHeartbeats 4000000 in
theorem div_2 (a c : Int) (N D : Nat) (hN : N < 65536 ^ 18) (d0 : 1 ≤ D) (d1 : D ≤ 9223372036854775807) (rr : Nat) (hrr : N % D = rr) (hml : rr < D) (u1 u2 : Int)
    (fr : Gives Try.prog 40 #[.agg #[.int .i64 a, .int .u64 c]] (.agg (numc true (dg N)))) (h0 : rr = 0) (z : Gives Try.prog 41 #[.agg (digs (dg (N / D)))] (.bool false)) (ti : Gives Try.prog 44 #[.agg (numc true (dg (N / D)))] (.tuple #[.agg #[.int .i64 u1, .int .u64 u2], .bool true])) :
    Gives Try.prog 15 #[.agg #[.int .i64 a, .int .u64 c], .int .i64 (D : Int)] (.tuple #[.agg #[.int .i64 u1, .int .u64 u2], .int .i64 (0), .bool true]) := by
  refine Gives.mk fun w => ?_
  have first := Lib.hid (RR_first N D hN)
  have e0 : numc false (fun _ => 0) = numc false (fun j => ((EE N D 18 0 j : Nat) : Int)) := numc_congr fun j hj => by rw [EE_first N D j hj]; rfl
  have E0 := Lib.hid e0
  clear e0
  have dz0 : (1 : Int) ≤ (D : Int) := by omega
  have dz1 : (D : Int) ≤ 9223372036854775807 := by omega
  go_enter Try.func15, Try.ntmps15
  go_wp2_with (first | (refine wpList_val rfl _ _ (alloc_num _ _ rfl _ _ rfl) ?_; try simp only [size_setRow, World.size_alloc]) | (go_at_call 40; ((with_reducible refine (fr.at_ _).mono ?_); rintro e w' ⟨rfl, xf, rfl⟩)) | (refine wpList_val rfl _ _ (build_num0 _ _ rfl _) ?_) | (refine wpList_store_row rfl 70 _ _ rfl ((grow ((w.alloc (.cells #[.int .i64 a, .int .u64 c] 24)).alloc (.cells #[.int .i64 0, .int .u64 0] 24)) xf).heap.size) (numc true (dg N)) rfl rfl 70 (numc false fun _ => 0) (by simp only [grow_heap, alloc_heap_at, alloc_heap_past, setRow_alloc_at, setRow_alloc_past, grow_setRow, size_setRow, World.size_alloc, grow_lt, grow_lt1, grow_lt2, grow_lt3, grow_lt4, grow_lt5, grow_lt6, grow_self1, grow_self2, grow_self3, or_true, ltd2, ltd3, ltd4, ltd5, ltd6, ltd7, Nat.lt_add_one, true_or, if_true, ite_true]) (by rw [numc_size]; exact info30) (by simp only [numc_size]) (numc_one _ _) ?_) | (refine wpList_store_row rfl 70 _ _ rfl (((grow ((w.alloc (.cells #[.int .i64 a, .int .u64 c] 24)).alloc (.cells #[.int .i64 0, .int .u64 0] 24)) xf).heap.size + 1)) (numc false fun _ => 0) rfl rfl 70 (numc false fun _ => 0) (by simp only [grow_heap, alloc_heap_at, alloc_heap_past, setRow_alloc_at, setRow_alloc_past, grow_setRow, size_setRow, World.size_alloc, grow_lt, grow_lt1, grow_lt2, grow_lt3, grow_lt4, grow_lt5, grow_lt6, grow_self1, grow_self2, grow_self3, or_true, ltd2, ltd3, ltd4, ltd5, ltd6, ltd7, Nat.lt_add_one, true_or, if_true, ite_true]) (by rw [numc_size]; exact info30) (by simp only [numc_size]) (numc_one _ _) ?_))
  go_loopw [9, 10] (fun r i wr => ∃ (p : Int) (m : Nat), (m : Int) = p + 1 ∧ m ≤ 18 ∧ i = .int .i64 p ∧ r = .int .u64 ((RR N D m 0 : Nat) : Int) ∧ ∃ x, wr = grow (((grow ((w.alloc (.cells #[.int .i64 a, .int .u64 c] 24)).alloc (.cells #[.int .i64 0, .int .u64 0] 24)) xf).alloc (.cells (numc true (dg N)) 70)).alloc (.cells (numc false (fun j => ((EE N D m 0 j : Nat) : Int))) 70)) x) (fun _ i _ => (intOf i + 1).toNat)
  case atStart => exact ⟨17, 18, by omega, by omega, rfl, by rw [first.out]; rfl, by rw [← E0.out]; exact grow_of (by repeat (first | exact Below.refl _ _ | refine bel_then ?_ _ | refine bel_grow ?_ _ | refine bel_alloc ?_ _ | refine bel_drew ?_ | refine bel_set ?_ (by simp) _ | refine bel_setRow ?_ (by first | omega | (simp; done) | (refine Nat.le_trans ?_ (top_le _ _); simp; done) | (refine Nat.le_succ_of_le (Nat.le_trans ?_ (top_le _ _)); simp; done) | (refine Nat.le_trans ?_ (top_le _ _); simp only [World.size_alloc]; refine Nat.le_succ_of_le (Nat.le_trans ?_ (top_le _ _)); simp; done)) _))⟩
  case round =>
    obtain ⟨p, m, hm, hm18, rfl, rfl, xx, rfl⟩ := hrel
    clear first E0
    by_cases hp : 0 ≤ p
    · obtain ⟨q, rfl⟩ : ∃ q : Nat, p = (q : Int) := ⟨p.toNat, by omega⟩
      obtain rfl : m = q + 1 := by omega
      have r16 := Lib.hid (RR_next N D q)
      have e16 := Lib.hid (show numc false (fun j => ((EE N D (q + 1) 0 j : Nat) : Int)) = numc false (fun j => ((EE N D q 16 j : Nat) : Int)) from numc_congr fun j hj => by rw [EE_next])
      clear hm
      go_wp2_with fail
      go_loopw [9, 11] (fun r b wr => ∃ (v : Int) (t : Nat), (t : Int) = v + 1 ∧ t ≤ 16 ∧ b = .int .i64 v ∧ r = .int .u64 ((RR N D q t : Nat) : Int) ∧ ∃ x, wr = grow (((grow ((w.alloc (.cells #[.int .i64 a, .int .u64 c] 24)).alloc (.cells #[.int .i64 0, .int .u64 0] 24)) xf).alloc (.cells (numc true (dg N)) 70)).alloc (.cells (numc false (fun j => ((EE N D q t j : Nat) : Int))) 70)) x) (fun _ b _ => (intOf b + 1).toNat)
      case atStart => exact ⟨15, 16, by omega, by omega, rfl, by rw [r16.out], by rw [← e16.out]; exact grow_of (by repeat (first | exact Below.refl _ _ | refine bel_then ?_ _ | refine bel_grow ?_ _ | refine bel_alloc ?_ _ | refine bel_drew ?_ | refine bel_set ?_ (by simp) _ | refine bel_setRow ?_ (by first | omega | (simp; done) | (refine Nat.le_trans ?_ (top_le _ _); simp; done) | (refine Nat.le_succ_of_le (Nat.le_trans ?_ (top_le _ _)); simp; done) | (refine Nat.le_trans ?_ (top_le _ _); simp only [World.size_alloc]; refine Nat.le_succ_of_le (Nat.le_trans ?_ (top_le _ _)); simp; done)) _))⟩
      case round =>
        obtain ⟨v, t, ht, ht16, rfl, rfl, yy, rfl⟩ := hrel
        clear r16 e16
        by_cases hv : 0 ≤ v
        · obtain ⟨u, rfl⟩ : ∃ u : Nat, v = (u : Int) := ⟨v.toNat, by omega⟩
          obtain rfl : t = u + 1 := by omega
          have hd := div_step N D q u (by omega) (by omega)
          have hr := RR_lt N D q (u + 1) (by omega)
          have he := EE_lt N D q (u + 1) (by omega)
          have he2 : 2 ^ (16 - (u + 1)) ≤ 2 ^ 15 := Nat.pow_le_pow_right (by omega) (by omega)
          have n0 : (0 : Int) ≤ (q : Int) := by omega
          have n1 : (q : Int) < 18 := by omega
          have n2 : (0 : Int) ≤ (u : Int) := by omega
          have n3 : (u : Int) < 16 := by omega
          have hb := bit_eq N q u
          have hb2 := Nat.mod_lt (dN N q / 2 ^ u) (show 0 < 2 by omega)
          have he3 : EE N D q (u + 1) q < 32768 := Nat.lt_of_lt_of_le he he2
          clear he he2
          generalize dN N q / 2 ^ u % 2 = bt at *
          generalize RR N D q (u + 1) = rr at *
          by_cases hl : 2 * rr + bt < D
          · have hl1 : (rr : Int) * 2 + (bt : Int) < (D : Int) := by omega
            obtain ⟨k1, k2⟩ := hd.1 hl
            have ew := Lib.hid (show numc false (fun j => if j = q then ((EE N D q (u + 1) q : Nat) : Int) * 2 else ((EE N D q (u + 1) j : Nat) : Int)) = numc false (fun j => ((EE N D q u j : Nat) : Int)) from numc_congr fun j _ => by
              rw [k2 j]
              by_cases hj : j = q
              · simp only [if_pos hj]; omega
              · simp only [if_neg hj])
            replace k1 := Lib.hid k1
            clear k2 hd
            go_wp2_with fail
            go_roundw
            case rel => exact ⟨(u : Int) - 1, u, by omega, by omega, rfl, congrArg (Value.int .u64) (by have := k1.out; omega), by rw [← ew.out]; exact grow_of (by repeat (first | exact Below.refl _ _ | refine bel_then ?_ _ | refine bel_grow ?_ _ | refine bel_alloc ?_ _ | refine bel_drew ?_ | refine bel_set ?_ (by simp) _ | refine bel_setRow ?_ (by first | omega | (simp; done) | (refine Nat.le_trans ?_ (top_le _ _); simp; done) | (refine Nat.le_succ_of_le (Nat.le_trans ?_ (top_le _ _)); simp; done) | (refine Nat.le_trans ?_ (top_le _ _); simp only [World.size_alloc]; refine Nat.le_succ_of_le (Nat.le_trans ?_ (top_le _ _)); simp; done)) _))⟩
            case measure => simp [intOf] <;> omega
          · have hl1 : (D : Int) ≤ (rr : Int) * 2 + (bt : Int) := by omega
            obtain ⟨k1, k2⟩ := hd.2 (by omega)
            have ew := Lib.hid (show numc false (fun j => if j = q then ((EE N D q (u + 1) q : Nat) : Int) * 2 + 1 else if j = q then ((EE N D q (u + 1) q : Nat) : Int) * 2 else ((EE N D q (u + 1) j : Nat) : Int)) = numc false (fun j => ((EE N D q u j : Nat) : Int)) from numc_congr fun j _ => by
              rw [k2 j]
              by_cases hj : j = q
              · simp only [if_pos hj]; omega
              · simp only [if_neg hj])
            replace k1 := Lib.hid k1
            clear k2 hd
            go_wp2_with fail
            go_roundw
            case rel => exact ⟨(u : Int) - 1, u, by omega, by omega, rfl, congrArg (Value.int .u64) (by have := k1.out; omega), by rw [← ew.out]; exact grow_of (by repeat (first | exact Below.refl _ _ | refine bel_then ?_ _ | refine bel_grow ?_ _ | refine bel_alloc ?_ _ | refine bel_drew ?_ | refine bel_set ?_ (by simp) _ | refine bel_setRow ?_ (by first | omega | (simp; done) | (refine Nat.le_trans ?_ (top_le _ _); simp; done) | (refine Nat.le_succ_of_le (Nat.le_trans ?_ (top_le _ _)); simp; done) | (refine Nat.le_trans ?_ (top_le _ _); simp only [World.size_alloc]; refine Nat.le_succ_of_le (Nat.le_trans ?_ (top_le _ _)); simp; done)) _))⟩
            case measure => simp [intOf] <;> omega
        · obtain rfl : v = -1 := by omega
          obtain rfl : t = 0 := by omega
          clear ht
          go_wp2_with fail
          go_roundw
          case rel => exact ⟨(q : Int) - 1, q, by omega, by omega, by go_num, rfl, grow_of (by repeat (first | exact Below.refl _ _ | refine bel_then ?_ _ | refine bel_grow ?_ _ | refine bel_alloc ?_ _ | refine bel_drew ?_ | refine bel_set ?_ (by simp) _ | refine bel_setRow ?_ (by first | omega | (simp; done) | (refine Nat.le_trans ?_ (top_le _ _); simp; done) | (refine Nat.le_succ_of_le (Nat.le_trans ?_ (top_le _ _)); simp; done) | (refine Nat.le_trans ?_ (top_le _ _); simp only [World.size_alloc]; refine Nat.le_succ_of_le (Nat.le_trans ?_ (top_le _ _)); simp; done)) _))⟩
          case measure => simp [intOf] <;> omega
    · obtain rfl : p = -1 := by omega
      obtain rfl : m = 0 := by omega
      clear hm hp
      have e18 : numc false (fun j => ((EE N D 0 0 j : Nat) : Int)) = numc false (dg (N / D)) := numc_congr fun j hj => by rw [EE_last]; rfl
      rw [e18, RR_last]
      clear e18
      rw [hrr, h0]
      clear hrr hml h0
      go_wp2_with (first | (refine wpList_part rfl _ rfl (((grow ((w.alloc (.cells #[.int .i64 a, .int .u64 c] 24)).alloc (.cells #[.int .i64 0, .int .u64 0] 24)) xf).heap.size + 1)) rfl (false) (dg (N / D)) (by simp only [grow_heap, alloc_heap_at, alloc_heap_past, setRow_alloc_at, setRow_alloc_past, grow_setRow, size_setRow, World.size_alloc, grow_lt, grow_lt1, grow_lt2, grow_lt3, grow_lt4, grow_lt5, grow_lt6, grow_self1, grow_self12, grow_self2, grow_self3, or_true, ltd2, ltd3, ltd4, ltd5, ltd6, ltd7, Nat.lt_add_one, true_or, if_true, ite_true]) ?_) | (go_at_call 41; first | ((with_reducible refine (z.at_ _).mono ?_); rintro e w' ⟨rfl, xg, rfl⟩)) | (refine wpList_load_row rfl 70 _ rfl (((grow ((w.alloc (.cells #[.int .i64 a, .int .u64 c] 24)).alloc (.cells #[.int .i64 0, .int .u64 0] 24)) xf).heap.size + 1)) rfl 70 (numc true (dg (N / D))) (0, 0) _ (by simp only [grow_heap, alloc_heap_at, alloc_heap_past, setRow_alloc_at, setRow_alloc_past, grow_setRow, size_setRow, World.size_alloc, grow_lt, grow_lt1, grow_lt2, grow_lt3, grow_lt4, grow_lt5, grow_lt6, grow_self1, grow_self12, grow_self2, grow_self3, or_true, ltd2, ltd3, ltd4, ltd5, ltd6, ltd7, Nat.lt_add_one, true_or, if_true, ite_true]) Try.underlying70 rfl (by rw [numc_size]; exact info30) ?_) | (go_at_call 44; first | ((with_reducible refine (ti.at_ _).mono ?_); rintro e w' ⟨rfl, xg, rfl⟩)))
      refine bodyPost_ret (v := .tuple #[.agg #[.int .i64 u1, .int .u64 u2], .int .i64 (0), .bool true]) (by simp [results, Try.results15, go_sem]) rfl ⟨rfl, (by repeat (first | exact Below.refl _ _ | refine bel_then ?_ _ | refine bel_grow ?_ _ | refine bel_alloc ?_ _ | refine bel_drew ?_ | refine bel_set ?_ (by simp) _ | refine bel_setRow ?_ (by first | omega | (simp; done) | (refine Nat.le_trans ?_ (top_le _ _); simp; done) | (refine Nat.le_succ_of_le (Nat.le_trans ?_ (top_le _ _)); simp; done) | (refine Nat.le_trans ?_ (top_le _ _); simp only [World.size_alloc]; refine Nat.le_succ_of_le (Nat.le_trans ?_ (top_le _ _)); simp; done)) _))⟩
set_option maxRecDepth 100000 in
set_option maxHeartbeats 4000000 in
theorem div_3 (a c : Int) (N D : Nat) (hN : N < 65536 ^ 18) (d0 : 1 ≤ D) (d1 : D ≤ 9223372036854775807) (rr : Nat) (hrr : N % D = rr) (hml : rr < D) (u1 u2 : Int)
    (fr : Gives Try.prog 40 #[.agg #[.int .i64 a, .int .u64 c]] (.agg (numc true (dg N)))) (h0 : rr ≠ 0) (nz sm s2 : Bool) (Dm D2 : Nat → Int) (z : Gives Try.prog 41 #[.agg (digs (dg (N / D)))] (.bool (!nz))) (fi : Gives Try.prog 43 #[.int .i64 (-1)] (.agg (numc sm Dm))) (pl : Gives Try.prog 42 #[.agg (numc nz (dg (N / D))), .agg (numc sm Dm)] (.agg (numc s2 D2))) (ti : Gives Try.prog 44 #[.agg (numc s2 D2)] (.tuple #[.agg #[.int .i64 u1, .int .u64 u2], .bool true])) :
    Gives Try.prog 15 #[.agg #[.int .i64 a, .int .u64 c], .int .i64 (D : Int)] (.tuple #[.agg #[.int .i64 u1, .int .u64 u2], .int .i64 ((D : Int) - (rr : Int)), .bool true]) := by
  refine Gives.mk fun w => ?_
  have first := Lib.hid (RR_first N D hN)
  have e0 : numc false (fun _ => 0) = numc false (fun j => ((EE N D 18 0 j : Nat) : Int)) := numc_congr fun j hj => by rw [EE_first N D j hj]; rfl
  have E0 := Lib.hid e0
  clear e0
  have dz0 : (1 : Int) ≤ (D : Int) := by omega
  have dz1 : (D : Int) ≤ 9223372036854775807 := by omega
  go_enter Try.func15, Try.ntmps15
  go_wp2_with (first | (refine wpList_val rfl _ _ (alloc_num _ _ rfl _ _ rfl) ?_; try simp only [size_setRow, World.size_alloc]) | (go_at_call 40; ((with_reducible refine (fr.at_ _).mono ?_); rintro e w' ⟨rfl, xf, rfl⟩)) | (refine wpList_val rfl _ _ (build_num0 _ _ rfl _) ?_) | (refine wpList_store_row rfl 70 _ _ rfl ((grow ((w.alloc (.cells #[.int .i64 a, .int .u64 c] 24)).alloc (.cells #[.int .i64 0, .int .u64 0] 24)) xf).heap.size) (numc true (dg N)) rfl rfl 70 (numc false fun _ => 0) (by simp only [grow_heap, alloc_heap_at, alloc_heap_past, setRow_alloc_at, setRow_alloc_past, grow_setRow, size_setRow, World.size_alloc, grow_lt, grow_lt1, grow_lt2, grow_lt3, grow_lt4, grow_lt5, grow_lt6, grow_self1, grow_self2, grow_self3, or_true, ltd2, ltd3, ltd4, ltd5, ltd6, ltd7, Nat.lt_add_one, true_or, if_true, ite_true]) (by rw [numc_size]; exact info30) (by simp only [numc_size]) (numc_one _ _) ?_) | (refine wpList_store_row rfl 70 _ _ rfl (((grow ((w.alloc (.cells #[.int .i64 a, .int .u64 c] 24)).alloc (.cells #[.int .i64 0, .int .u64 0] 24)) xf).heap.size + 1)) (numc false fun _ => 0) rfl rfl 70 (numc false fun _ => 0) (by simp only [grow_heap, alloc_heap_at, alloc_heap_past, setRow_alloc_at, setRow_alloc_past, grow_setRow, size_setRow, World.size_alloc, grow_lt, grow_lt1, grow_lt2, grow_lt3, grow_lt4, grow_lt5, grow_lt6, grow_self1, grow_self2, grow_self3, or_true, ltd2, ltd3, ltd4, ltd5, ltd6, ltd7, Nat.lt_add_one, true_or, if_true, ite_true]) (by rw [numc_size]; exact info30) (by simp only [numc_size]) (numc_one _ _) ?_))
  go_loopw [9, 10] (fun r i wr => ∃ (p : Int) (m : Nat), (m : Int) = p + 1 ∧ m ≤ 18 ∧ i = .int .i64 p ∧ r = .int .u64 ((RR N D m 0 : Nat) : Int) ∧ ∃ x, wr = grow (((grow ((w.alloc (.cells #[.int .i64 a, .int .u64 c] 24)).alloc (.cells #[.int .i64 0, .int .u64 0] 24)) xf).alloc (.cells (numc true (dg N)) 70)).alloc (.cells (numc false (fun j => ((EE N D m 0 j : Nat) : Int))) 70)) x) (fun _ i _ => (intOf i + 1).toNat)
  case atStart => exact ⟨17, 18, by omega, by omega, rfl, by rw [first.out]; rfl, by rw [← E0.out]; exact grow_of (by repeat (first | exact Below.refl _ _ | refine bel_then ?_ _ | refine bel_grow ?_ _ | refine bel_alloc ?_ _ | refine bel_drew ?_ | refine bel_set ?_ (by simp) _ | refine bel_setRow ?_ (by first | omega | (simp; done) | (refine Nat.le_trans ?_ (top_le _ _); simp; done) | (refine Nat.le_succ_of_le (Nat.le_trans ?_ (top_le _ _)); simp; done) | (refine Nat.le_trans ?_ (top_le _ _); simp only [World.size_alloc]; refine Nat.le_succ_of_le (Nat.le_trans ?_ (top_le _ _)); simp; done)) _))⟩
  case round =>
    obtain ⟨p, m, hm, hm18, rfl, rfl, xx, rfl⟩ := hrel
    clear first E0
    by_cases hp : 0 ≤ p
    · obtain ⟨q, rfl⟩ : ∃ q : Nat, p = (q : Int) := ⟨p.toNat, by omega⟩
      obtain rfl : m = q + 1 := by omega
      have r16 := Lib.hid (RR_next N D q)
      have e16 := Lib.hid (show numc false (fun j => ((EE N D (q + 1) 0 j : Nat) : Int)) = numc false (fun j => ((EE N D q 16 j : Nat) : Int)) from numc_congr fun j hj => by rw [EE_next])
      clear hm
      go_wp2_with fail
      go_loopw [9, 11] (fun r b wr => ∃ (v : Int) (t : Nat), (t : Int) = v + 1 ∧ t ≤ 16 ∧ b = .int .i64 v ∧ r = .int .u64 ((RR N D q t : Nat) : Int) ∧ ∃ x, wr = grow (((grow ((w.alloc (.cells #[.int .i64 a, .int .u64 c] 24)).alloc (.cells #[.int .i64 0, .int .u64 0] 24)) xf).alloc (.cells (numc true (dg N)) 70)).alloc (.cells (numc false (fun j => ((EE N D q t j : Nat) : Int))) 70)) x) (fun _ b _ => (intOf b + 1).toNat)
      case atStart => exact ⟨15, 16, by omega, by omega, rfl, by rw [r16.out], by rw [← e16.out]; exact grow_of (by repeat (first | exact Below.refl _ _ | refine bel_then ?_ _ | refine bel_grow ?_ _ | refine bel_alloc ?_ _ | refine bel_drew ?_ | refine bel_set ?_ (by simp) _ | refine bel_setRow ?_ (by first | omega | (simp; done) | (refine Nat.le_trans ?_ (top_le _ _); simp; done) | (refine Nat.le_succ_of_le (Nat.le_trans ?_ (top_le _ _)); simp; done) | (refine Nat.le_trans ?_ (top_le _ _); simp only [World.size_alloc]; refine Nat.le_succ_of_le (Nat.le_trans ?_ (top_le _ _)); simp; done)) _))⟩
      case round =>
        obtain ⟨v, t, ht, ht16, rfl, rfl, yy, rfl⟩ := hrel
        clear r16 e16
        by_cases hv : 0 ≤ v
        · obtain ⟨u, rfl⟩ : ∃ u : Nat, v = (u : Int) := ⟨v.toNat, by omega⟩
          obtain rfl : t = u + 1 := by omega
          have hd := div_step N D q u (by omega) (by omega)
          have hr := RR_lt N D q (u + 1) (by omega)
          have he := EE_lt N D q (u + 1) (by omega)
          have he2 : 2 ^ (16 - (u + 1)) ≤ 2 ^ 15 := Nat.pow_le_pow_right (by omega) (by omega)
          have n0 : (0 : Int) ≤ (q : Int) := by omega
          have n1 : (q : Int) < 18 := by omega
          have n2 : (0 : Int) ≤ (u : Int) := by omega
          have n3 : (u : Int) < 16 := by omega
          have hb := bit_eq N q u
          have hb2 := Nat.mod_lt (dN N q / 2 ^ u) (show 0 < 2 by omega)
          have he3 : EE N D q (u + 1) q < 32768 := Nat.lt_of_lt_of_le he he2
          clear he he2
          generalize dN N q / 2 ^ u % 2 = bt at *
          generalize RR N D q (u + 1) = rr at *
          by_cases hl : 2 * rr + bt < D
          · have hl1 : (rr : Int) * 2 + (bt : Int) < (D : Int) := by omega
            obtain ⟨k1, k2⟩ := hd.1 hl
            have ew := Lib.hid (show numc false (fun j => if j = q then ((EE N D q (u + 1) q : Nat) : Int) * 2 else ((EE N D q (u + 1) j : Nat) : Int)) = numc false (fun j => ((EE N D q u j : Nat) : Int)) from numc_congr fun j _ => by
              rw [k2 j]
              by_cases hj : j = q
              · simp only [if_pos hj]; omega
              · simp only [if_neg hj])
            replace k1 := Lib.hid k1
            clear k2 hd
            go_wp2_with fail
            go_roundw
            case rel => exact ⟨(u : Int) - 1, u, by omega, by omega, rfl, congrArg (Value.int .u64) (by have := k1.out; omega), by rw [← ew.out]; exact grow_of (by repeat (first | exact Below.refl _ _ | refine bel_then ?_ _ | refine bel_grow ?_ _ | refine bel_alloc ?_ _ | refine bel_drew ?_ | refine bel_set ?_ (by simp) _ | refine bel_setRow ?_ (by first | omega | (simp; done) | (refine Nat.le_trans ?_ (top_le _ _); simp; done) | (refine Nat.le_succ_of_le (Nat.le_trans ?_ (top_le _ _)); simp; done) | (refine Nat.le_trans ?_ (top_le _ _); simp only [World.size_alloc]; refine Nat.le_succ_of_le (Nat.le_trans ?_ (top_le _ _)); simp; done)) _))⟩
            case measure => simp [intOf] <;> omega
          · have hl1 : (D : Int) ≤ (rr : Int) * 2 + (bt : Int) := by omega
            obtain ⟨k1, k2⟩ := hd.2 (by omega)
            have ew := Lib.hid (show numc false (fun j => if j = q then ((EE N D q (u + 1) q : Nat) : Int) * 2 + 1 else if j = q then ((EE N D q (u + 1) q : Nat) : Int) * 2 else ((EE N D q (u + 1) j : Nat) : Int)) = numc false (fun j => ((EE N D q u j : Nat) : Int)) from numc_congr fun j _ => by
              rw [k2 j]
              by_cases hj : j = q
              · simp only [if_pos hj]; omega
              · simp only [if_neg hj])
            replace k1 := Lib.hid k1
            clear k2 hd
            go_wp2_with fail
            go_roundw
            case rel => exact ⟨(u : Int) - 1, u, by omega, by omega, rfl, congrArg (Value.int .u64) (by have := k1.out; omega), by rw [← ew.out]; exact grow_of (by repeat (first | exact Below.refl _ _ | refine bel_then ?_ _ | refine bel_grow ?_ _ | refine bel_alloc ?_ _ | refine bel_drew ?_ | refine bel_set ?_ (by simp) _ | refine bel_setRow ?_ (by first | omega | (simp; done) | (refine Nat.le_trans ?_ (top_le _ _); simp; done) | (refine Nat.le_succ_of_le (Nat.le_trans ?_ (top_le _ _)); simp; done) | (refine Nat.le_trans ?_ (top_le _ _); simp only [World.size_alloc]; refine Nat.le_succ_of_le (Nat.le_trans ?_ (top_le _ _)); simp; done)) _))⟩
            case measure => simp [intOf] <;> omega
        · obtain rfl : v = -1 := by omega
          obtain rfl : t = 0 := by omega
          clear ht
          go_wp2_with fail
          go_roundw
          case rel => exact ⟨(q : Int) - 1, q, by omega, by omega, by go_num, rfl, grow_of (by repeat (first | exact Below.refl _ _ | refine bel_then ?_ _ | refine bel_grow ?_ _ | refine bel_alloc ?_ _ | refine bel_drew ?_ | refine bel_set ?_ (by simp) _ | refine bel_setRow ?_ (by first | omega | (simp; done) | (refine Nat.le_trans ?_ (top_le _ _); simp; done) | (refine Nat.le_succ_of_le (Nat.le_trans ?_ (top_le _ _)); simp; done) | (refine Nat.le_trans ?_ (top_le _ _); simp only [World.size_alloc]; refine Nat.le_succ_of_le (Nat.le_trans ?_ (top_le _ _)); simp; done)) _))⟩
          case measure => simp [intOf] <;> omega
    · obtain rfl : p = -1 := by omega
      obtain rfl : m = 0 := by omega
      clear hm hp
      have e18 : numc false (fun j => ((EE N D 0 0 j : Nat) : Int)) = numc false (dg (N / D)) := numc_congr fun j hj => by rw [EE_last]; rfl
      rw [e18, RR_last]
      clear e18
      rw [hrr]
      have r1 : (1 : Int) ≤ (rr : Int) := by omega
      have r2 : (rr : Int) < (D : Int) := by omega
      clear h0 hrr hml
      go_wp2_with (first | (refine wpList_part rfl _ rfl (((grow ((w.alloc (.cells #[.int .i64 a, .int .u64 c] 24)).alloc (.cells #[.int .i64 0, .int .u64 0] 24)) xf).heap.size + 1)) rfl (false) (dg (N / D)) (by simp only [grow_heap, alloc_heap_at, alloc_heap_past, setRow_alloc_at, setRow_alloc_past, grow_setRow, size_setRow, World.size_alloc, grow_lt, grow_lt1, grow_lt2, grow_lt3, grow_lt4, grow_lt5, grow_lt6, grow_self1, grow_self12, grow_self2, grow_self3, or_true, ltd2, ltd3, ltd4, ltd5, ltd6, ltd7, Nat.lt_add_one, true_or, if_true, ite_true]) ?_) | (go_at_call 41; first | ((with_reducible refine (z.at_ _).mono ?_); rintro e w' ⟨rfl, xg, rfl⟩)))
      refine wp_region_tail 3 ?_ (by kernel_rfl) (by kernel_rfl) (by kernel_rfl) (fun x => ?_) (fun x => ?_)
      rotate_left
      · simp only [List.take_succ_cons, List.take_zero]
        repeat (first | (refine quiet_num _ rfl rfl (((grow ((w.alloc (.cells #[.int .i64 a, .int .u64 c] 24)).alloc (.cells #[.int .i64 0, .int .u64 0] 24)) xf).heap.size + 1)) rfl nz (dg (N / D)) (fun u hu => by obtain ⟨y, rfl⟩ := hu; simp only [grow_heap, alloc_heap_at, alloc_heap_past, setRow_alloc_at, setRow_alloc_past, grow_setRow, size_setRow, World.size_alloc, grow_lt, grow_lt1, grow_lt2, grow_lt3, grow_lt4, grow_lt5, grow_lt6, grow_self1, grow_self12, grow_self2, grow_self3, or_true, ltd2, ltd3, ltd4, ltd5, ltd6, ltd7, Nat.lt_add_one, true_or, if_true, ite_true]) ?_; try simp only [Act.put, List.setIfInBounds_toArray, List.set_cons_succ, List.set_cons_zero]) | go_big_quiet_step (((first | with_reducible exact fi.quiet _ | with_reducible exact fi.quiet2 _ _ | with_reducible exact pl.quiet _ | with_reducible exact pl.quiet2 _ _))))
        refine wpQuiet_nil ?_
        exact rfl
      simp only [List.drop_succ_cons, List.drop_zero]
      try simp only [Act.put, List.setIfInBounds_toArray, List.set_cons_succ, List.set_cons_zero]
      go_wp2_with (first | (refine wpList_store_row rfl 70 _ _ rfl (((grow ((w.alloc (.cells #[.int .i64 a, .int .u64 c] 24)).alloc (.cells #[.int .i64 0, .int .u64 0] 24)) xf).heap.size + 1)) (numc s2 D2) rfl rfl 70 (numc nz (dg (N / D))) (by simp only [grow_heap, alloc_heap_at, alloc_heap_past, setRow_alloc_at, setRow_alloc_past, grow_setRow, size_setRow, World.size_alloc, grow_lt, grow_lt1, grow_lt2, grow_lt3, grow_lt4, grow_lt5, grow_lt6, grow_self1, grow_self12, grow_self2, grow_self3, or_true, ltd2, ltd3, ltd4, ltd5, ltd6, ltd7, Nat.lt_add_one, true_or, if_true, ite_true]) (by rw [numc_size]; exact info30) (by simp only [numc_size]) (numc_one _ _) ?_) | (refine wpList_load_row rfl 70 _ rfl (((grow ((w.alloc (.cells #[.int .i64 a, .int .u64 c] 24)).alloc (.cells #[.int .i64 0, .int .u64 0] 24)) xf).heap.size + 1)) rfl 70 (numc s2 D2) (0, 0) _ (by simp only [grow_heap, alloc_heap_at, alloc_heap_past, setRow_alloc_at, setRow_alloc_past, grow_setRow, size_setRow, World.size_alloc, grow_lt, grow_lt1, grow_lt2, grow_lt3, grow_lt4, grow_lt5, grow_lt6, grow_self1, grow_self12, grow_self2, grow_self3, or_true, ltd2, ltd3, ltd4, ltd5, ltd6, ltd7, Nat.lt_add_one, true_or, if_true, ite_true]) Try.underlying70 rfl (by rw [numc_size]; exact info30) ?_) | (go_at_call 44; first | ((with_reducible refine (ti.at_ _).mono ?_); rintro e w' ⟨rfl, xg, rfl⟩)))
      refine bodyPost_ret (v := .tuple #[.agg #[.int .i64 u1, .int .u64 u2], .int .i64 ((D : Int) - (rr : Int)), .bool true]) (by simp [results, Try.results15, go_sem]) rfl ⟨rfl, (by repeat (first | exact Below.refl _ _ | refine bel_then ?_ _ | refine bel_grow ?_ _ | refine bel_alloc ?_ _ | refine bel_drew ?_ | refine bel_set ?_ (by simp) _ | refine bel_setRow ?_ (by first | omega | (simp; done) | (refine Nat.le_trans ?_ (top_le _ _); simp; done) | (refine Nat.le_succ_of_le (Nat.le_trans ?_ (top_le _ _)); simp; done) | (refine Nat.le_trans ?_ (top_le _ _); simp only [World.size_alloc]; refine Nat.le_succ_of_le (Nat.le_trans ?_ (top_le _ _)); simp; done)) _))⟩
theorem rDiv_none (a c d : Int) (h : d < 1) : Gives Try.prog 15 #[.agg #[.int .i64 a, .int .u64 c], .int .i64 d] (.tuple #[.agg #[.int .i64 0, .int .u64 0], .int .i64 0, .bool false]) := by
  refine Gives.mk fun w => ?_
  go_enter Try.func15, Try.ntmps15
  go_wp2
  refine bodyPost_ret (v := .tuple #[.agg #[.int .i64 0, .int .u64 0], .int .i64 0, .bool false]) (by simp [results, Try.results15, go_sem]) rfl ⟨rfl, (by repeat (first | exact Below.refl _ _ | refine bel_then ?_ _ | refine bel_grow ?_ _ | refine bel_alloc ?_ _ | refine bel_drew ?_ | refine bel_set ?_ (by simp) _ | refine bel_setRow ?_ (by first | omega | (simp; done) | (refine Nat.le_trans ?_ (top_le _ _); simp; done) | (refine Nat.le_succ_of_le (Nat.le_trans ?_ (top_le _ _)); simp; done) | (refine Nat.le_trans ?_ (top_le _ _); simp only [World.size_alloc]; refine Nat.le_succ_of_le (Nat.le_trans ?_ (top_le _ _)); simp; done)) _))⟩
/-- How often d goes into n, and what is left: rounded down. -/
theorem rDiv_any (n d : Int) (hn : InW n) (h0 : 1 ≤ d) (h1 : d ≤ 9223372036854775807) :
    Gives Try.prog 15 #[.agg #[.int .i64 (hiOf n), .int .u64 (loOf n)], .int .i64 d] (.tuple #[.agg #[.int .i64 (hiOf (n / d)), .int .u64 (loOf (n / d))], .int .i64 (n % d), .bool true]) := by
  obtain ⟨D, rfl⟩ : ∃ D : Nat, d = (D : Int) := ⟨d.toNat, by omega⟩
  have fr := from_any n hn
  have hb := big_w hn
  have hw := inW_div n D hn h0
  have ti := to_in (n / D) hw
  obtain ⟨N, hN⟩ : ∃ N : Nat, n.natAbs = N := ⟨_, rfl⟩
  rw [hN] at fr hb
  obtain ⟨Q, hQ⟩ : ∃ Q, N / D = Q := ⟨_, rfl⟩
  obtain ⟨R, hR⟩ : ∃ R, N % D = R := ⟨_, rfl⟩
  have dm := Nat.div_add_mod N D
  have ml := Nat.mod_lt N (show 0 < D by omega)
  have ql := Nat.div_le_self N D
  rw [hQ, hR] at dm
  rw [hR] at ml
  rw [hQ] at ql
  have dmi : (N : Int) = (D : Int) * (Q : Int) + (R : Int) := by rw [← Int.natCast_mul]; omega
  by_cases hs : 0 ≤ n
  · have e : n / (D : Int) = (Q : Int) := by
      rw [show n = (R : Int) + (D : Int) * (Q : Int) by omega, Int.add_mul_ediv_left _ _ (by omega), Int.ediv_eq_zero_of_lt (by omega) (by omega)]; omega
    have e2 : n % (D : Int) = (R : Int) := by
      rw [show n = (R : Int) + (D : Int) * (Q : Int) by omega, Int.add_mul_emod_self_left, Int.emod_eq_of_lt (by omega) (by omega)]
    rw [sg_no hs] at fr
    rw [e] at ti
    rw [e, e2]
    rw [sg_no (by omega), Int.natAbs_natCast, ← hQ] at ti
    rw [← hQ]
    exact div_1 _ _ N D hb (by omega) (by omega) R hR ml _ _ fr ti
  · rw [sg_yes (by omega)] at fr
    have z := zero_any (dg (N / D))
    rw [allZ_dg _ (Nat.lt_of_le_of_lt (Nat.div_le_self _ _) hb), hQ] at z
    by_cases hr : R = 0
    · have e : n / (D : Int) = -(Q : Int) := by
        rw [show n = (D : Int) * -(Q : Int) by rw [Int.mul_neg]; omega, Int.mul_ediv_cancel_left _ (by omega)]
      have e2 : n % (D : Int) = 0 := by
        rw [show n = (D : Int) * -(Q : Int) by rw [Int.mul_neg]; omega, Int.mul_emod_right]
      have hq : Q ≠ 0 := fun h => by rw [h, hr] at dm; omega
      rw [e] at ti
      rw [e, e2]
      rw [sg_yes (by omega), show (-(Q : Int)).natAbs = Q by omega] at ti
      rw [decide_eq_false hq] at z
      exact div_2 _ _ N D hb (by omega) (by omega) R hR ml _ _ fr hr (by rw [hQ]; exact z) (by rw [hQ]; exact ti)
    · have eN : n = ((D : Int) - (R : Int)) + (D : Int) * (-(Q : Int) + -1) := by
        rw [Int.mul_add, Int.mul_neg, Int.mul_neg]
        omega
      have e : n / (D : Int) = -(Q : Int) + -1 := by
        rw [eN, Int.add_mul_ediv_left _ _ (by omega), Int.ediv_eq_zero_of_lt (by omega) (by omega)]
        omega
      have e2 : n % (D : Int) = (D : Int) - (R : Int) := by
        rw [eN, Int.add_mul_emod_self_left, Int.emod_eq_of_lt (by omega) (by omega)]
      have hNw : N ≤ 170141183460469231731687303715884105728 := by unfold InW at hn; omega
      have pl := plus_any (-(Q : Int)) (-1) (by rw [show (-(Q : Int)).natAbs = Q by omega]; exact Nat.lt_of_le_of_lt ql hb) (by unfold Big; decide) (by
        rw [show (-(Q : Int)).natAbs = Q by omega]
        exact Nat.lt_of_le_of_lt (show Q + (-1 : Int).natAbs ≤ 170141183460469231731687303715884105729 by omega) (by decide))
      have fi := fromInt_any (-1) (by omega) (by omega)
      rw [e] at ti
      rw [e, e2]
      have es : sg (-(Q : Int)) = !decide (Q = 0) := by
        unfold sg
        by_cases h : Q = 0
        · rw [h]; rfl
        · rw [decide_eq_true (by omega), decide_eq_false h]; rfl
      rw [es, show (-(Q : Int)).natAbs = Q by omega] at pl
      exact div_3 _ _ N D hb (by omega) (by omega) R hR ml _ _ fr hr _ _ _ _ _ (by rw [hQ, Bool.not_not]; exact z) fi (by rw [hQ]; exact pl) ti
end Go.Proofs.Ytgfgaaecpdbgeaa

/- The document's own numbers: right, Order, Sqrt. -/
namespace Go.Proofs.Ytgfgaaecpdbgeaa
open Go.RowKit
set_option linter.unusedVariables false
set_option linter.unusedSimpArgs false
theorem right_yes (n d : Int) (h : Right n d) : Gives Try.prog 50 #[.agg #[.int .i64 n, .int .i64 d]] (.bool true) := by
  refine Gives.mk fun w => ?_
  unfold Right at h
  by_cases h0 : 0 < d
  · clear h
    go_enter Try.func50, Try.ntmps50
    go_wp2
    go_ret
    exact ⟨rfl, (by repeat (first | exact Below.refl _ _ | refine bel_then ?_ _ | refine bel_grow ?_ _ | refine bel_alloc ?_ _ | refine bel_drew ?_ | refine bel_set ?_ (by simp) _ | refine bel_setRow ?_ (by first | omega | (simp; done) | (refine Nat.le_trans ?_ (top_le _ _); simp; done) | (refine Nat.le_succ_of_le (Nat.le_trans ?_ (top_le _ _)); simp; done) | (refine Nat.le_trans ?_ (top_le _ _); simp only [World.size_alloc]; refine Nat.le_succ_of_le (Nat.le_trans ?_ (top_le _ _)); simp; done)) _))⟩
  · obtain ⟨rfl, rfl⟩ : n = 1 ∧ d = 0 := by omega
    clear h h0
    go_enter Try.func50, Try.ntmps50
    go_wp2
    go_ret
    exact ⟨rfl, (by repeat (first | exact Below.refl _ _ | refine bel_then ?_ _ | refine bel_grow ?_ _ | refine bel_alloc ?_ _ | refine bel_drew ?_ | refine bel_set ?_ (by simp) _ | refine bel_setRow ?_ (by first | omega | (simp; done) | (refine Nat.le_trans ?_ (top_le _ _); simp; done) | (refine Nat.le_succ_of_le (Nat.le_trans ?_ (top_le _ _)); simp; done) | (refine Nat.le_trans ?_ (top_le _ _); simp only [World.size_alloc]; refine Nat.le_succ_of_le (Nat.le_trans ?_ (top_le _ _)); simp; done)) _))⟩
theorem right_no (n d : Int) (h : ¬ Right n d) : Gives Try.prog 50 #[.agg #[.int .i64 n, .int .i64 d]] (.bool false) := by
  refine Gives.mk fun w => ?_
  unfold Right at h
  have h0 : d ≤ 0 := by omega
  by_cases h1 : d = 0
  · subst h1
    have h2 : (n == 1) = false := by simp; omega
    clear h
    go_enter Try.func50, Try.ntmps50
    go_wp2
    go_ret
    exact ⟨rfl, (by repeat (first | exact Below.refl _ _ | refine bel_then ?_ _ | refine bel_grow ?_ _ | refine bel_alloc ?_ _ | refine bel_drew ?_ | refine bel_set ?_ (by simp) _ | refine bel_setRow ?_ (by first | omega | (simp; done) | (refine Nat.le_trans ?_ (top_le _ _); simp; done) | (refine Nat.le_succ_of_le (Nat.le_trans ?_ (top_le _ _)); simp; done) | (refine Nat.le_trans ?_ (top_le _ _); simp only [World.size_alloc]; refine Nat.le_succ_of_le (Nat.le_trans ?_ (top_le _ _)); simp; done)) _))⟩
  · have h2 : d < 0 := by omega
    have h3 : decide (0 < d) = false := by simp; omega
    have h4 : (d == 0) = false := by simp; omega
    clear h h1
    go_enter Try.func50, Try.ntmps50
    go_wp2
    go_ret
    exact ⟨rfl, (by repeat (first | exact Below.refl _ _ | refine bel_then ?_ _ | refine bel_grow ?_ _ | refine bel_alloc ?_ _ | refine bel_drew ?_ | refine bel_set ?_ (by simp) _ | refine bel_setRow ?_ (by first | omega | (simp; done) | (refine Nat.le_trans ?_ (top_le _ _); simp; done) | (refine Nat.le_succ_of_le (Nat.le_trans ?_ (top_le _ _)); simp; done) | (refine Nat.le_trans ?_ (top_le _ _); simp only [World.size_alloc]; refine Nat.le_succ_of_le (Nat.le_trans ?_ (top_le _ _)); simp; done)) _))⟩
set_option maxHeartbeats 1000000 in
theorem rOrder_yes (pn pd qn qd : Int) (a0 : -9223372036854775808 ≤ pn ∧ pn ≤ 9223372036854775807) (b0 : -9223372036854775808 ≤ pd ∧ pd ≤ 9223372036854775807) (c0 : -9223372036854775808 ≤ qn ∧ qn ≤ 9223372036854775807) (d0 : -9223372036854775808 ≤ qd ∧ qd ≤ 9223372036854775807) (hp : Right pn pd) (hq : Right qn qd) : Gives Try.prog 19 #[.agg #[.int .i64 pn, .int .i64 pd], .agg #[.int .i64 qn, .int .i64 qd]] (.tuple #[.int .i64 (cmpOf (pn * qd) (qn * pd)), .bool true]) := by
  refine Gives.mk fun w => ?_
  have r1 := right_yes pn pd hp
  have r2 := right_yes qn qd hq
  have f1 := fromInt_any pn a0.1 a0.2
  have f2 := fromInt_any qd d0.1 d0.2
  have f3 := fromInt_any qn c0.1 c0.2
  have f4 := fromInt_any pd b0.1 b0.2
  have t1 := times_any pn qd (half_i a0.1 a0.2) (half_i d0.1 d0.2)
  have t2 := times_any qn pd (half_i c0.1 c0.2) (half_i b0.1 b0.2)
  have c := compare_any (pn * qd) (qn * pd) (big_w (inW_mul _ _ a0.1 a0.2 d0.1 d0.2)) (big_w (inW_mul _ _ c0.1 c0.2 b0.1 b0.2))
  generalize numc (sg pn) (dg pn.natAbs) = N1 at *
  generalize numc (sg qd) (dg qd.natAbs) = N2 at *
  generalize numc (sg qn) (dg qn.natAbs) = N3 at *
  generalize numc (sg pd) (dg pd.natAbs) = N4 at *
  generalize numc (sg (pn * qd)) (dg (pn * qd).natAbs) = N5 at *
  generalize numc (sg (qn * pd)) (dg (qn * pd).natAbs) = N6 at *
  generalize cmpOf (pn * qd) (qn * pd) = v at *
  clear hp hq a0 b0 c0 d0
  go_enter Try.func19, Try.ntmps19
  go_wp2_with (first | (go_at_call 50; first | ((with_reducible refine (r1.at_ _).mono ?_); rintro e w' ⟨rfl, xg, rfl⟩) | ((with_reducible refine (r2.at_ _).mono ?_); rintro e w' ⟨rfl, xg, rfl⟩)))
  refine wp_region_grow (by kernel_rfl) (by kernel_rfl) ?_
  repeat (go_big_quiet_step (((first | with_reducible exact f1.quiet _ | with_reducible exact f1.quiet2 _ _ | with_reducible exact f2.quiet _ | with_reducible exact f2.quiet2 _ _ | with_reducible exact f3.quiet _ | with_reducible exact f3.quiet2 _ _ | with_reducible exact f4.quiet _ | with_reducible exact f4.quiet2 _ _ | with_reducible exact t1.quiet _ | with_reducible exact t1.quiet2 _ _ | with_reducible exact t2.quiet _ | with_reducible exact t2.quiet2 _ _ | with_reducible exact c.quiet _ | with_reducible exact c.quiet2 _ _))))
  refine wpQuiet_nil ?_
  rintro _ ⟨xg, rfl⟩
  go_wp2_with fail
  go_ret2
  exact ⟨rfl, (by repeat (first | exact Below.refl _ _ | refine bel_then ?_ _ | refine bel_grow ?_ _ | refine bel_alloc ?_ _ | refine bel_drew ?_ | refine bel_set ?_ (by simp) _ | refine bel_setRow ?_ (by first | omega | (simp; done) | (refine Nat.le_trans ?_ (top_le _ _); simp; done) | (refine Nat.le_succ_of_le (Nat.le_trans ?_ (top_le _ _)); simp; done) | (refine Nat.le_trans ?_ (top_le _ _); simp only [World.size_alloc]; refine Nat.le_succ_of_le (Nat.le_trans ?_ (top_le _ _)); simp; done)) _))⟩
theorem rOrder_no (pn pd qn qd : Int) (h : ¬ (Right pn pd ∧ Right qn qd)) : Gives Try.prog 19 #[.agg #[.int .i64 pn, .int .i64 pd], .agg #[.int .i64 qn, .int .i64 qd]] (.tuple #[.int .i64 0, .bool false]) := by
  refine Gives.mk fun w => ?_
  by_cases hp : Right pn pd
  · have r1 := right_yes pn pd hp
    have r2 := right_no qn qd (fun hq => h ⟨hp, hq⟩)
    clear hp h
    go_enter Try.func19, Try.ntmps19
    go_wp2_with (first | (go_at_call 50; first | ((with_reducible refine (r1.at_ _).mono ?_); rintro e w' ⟨rfl, xg, rfl⟩) | ((with_reducible refine (r2.at_ _).mono ?_); rintro e w' ⟨rfl, xg, rfl⟩)))
    go_ret2
    exact ⟨rfl, (by repeat (first | exact Below.refl _ _ | refine bel_then ?_ _ | refine bel_grow ?_ _ | refine bel_alloc ?_ _ | refine bel_drew ?_ | refine bel_set ?_ (by simp) _ | refine bel_setRow ?_ (by first | omega | (simp; done) | (refine Nat.le_trans ?_ (top_le _ _); simp; done) | (refine Nat.le_succ_of_le (Nat.le_trans ?_ (top_le _ _)); simp; done) | (refine Nat.le_trans ?_ (top_le _ _); simp only [World.size_alloc]; refine Nat.le_succ_of_le (Nat.le_trans ?_ (top_le _ _)); simp; done)) _))⟩
  · have r1 := right_no pn pd hp
    clear hp h
    go_enter Try.func19, Try.ntmps19
    go_wp2_with (first | (go_at_call 50; first | ((with_reducible refine (r1.at_ _).mono ?_); rintro e w' ⟨rfl, xg, rfl⟩)))
    go_ret2
    exact ⟨rfl, (by repeat (first | exact Below.refl _ _ | refine bel_then ?_ _ | refine bel_grow ?_ _ | refine bel_alloc ?_ _ | refine bel_drew ?_ | refine bel_set ?_ (by simp) _ | refine bel_setRow ?_ (by first | omega | (simp; done) | (refine Nat.le_trans ?_ (top_le _ _); simp; done) | (refine Nat.le_succ_of_le (Nat.le_trans ?_ (top_le _ _)); simp; done) | (refine Nat.le_trans ?_ (top_le _ _); simp only [World.size_alloc]; refine Nat.le_succ_of_le (Nat.le_trans ?_ (top_le _ _)); simp; done)) _))⟩
set_option maxHeartbeats 1000000 in
theorem rSqrt_neg (n : Int) (hn : InW n) (h : n < 0) : Gives Try.prog 17 #[.agg #[.int .i64 (hiOf n), .int .u64 (loOf n)]] (.tuple #[.int .i64 0, .bool false]) := by
  refine Gives.mk fun w => ?_
  have fr := from_any n hn
  rw [sg_yes h] at fr
  generalize dg n.natAbs = D at *
  clear h hn
  go_enter Try.func17, Try.ntmps17
  go_wp2_with (first | (refine wpList_val rfl _ _ (alloc_num _ _ rfl _ _ rfl) ?_) | (go_at_call 40; ((with_reducible refine (fr.at_ _).mono ?_); rintro e w' ⟨rfl, xf, rfl⟩)) | (refine wpList_store_row rfl 70 _ _ rfl ((grow (w.alloc (.cells #[.int .i64 (hiOf n), .int .u64 (loOf n)] 24)) xf).heap.size) (numc true D) rfl rfl 70 (numc false fun _ => 0) (by simp only [grow_heap, alloc_heap_at, alloc_heap_past, setRow_alloc_at, setRow_alloc_past, grow_setRow, size_setRow, World.size_alloc, grow_lt, grow_lt1, grow_lt2, grow_lt3, grow_lt4, grow_lt5, grow_lt6, grow_self1, grow_self2, grow_self3, or_true, ltd2, ltd3, ltd4, ltd5, ltd6, ltd7, Nat.lt_add_one, true_or, if_true, ite_true]) (by rw [numc_size]; exact info30) (by simp only [numc_size]) (numc_one _ _) ?_))
  go_ret2
  exact ⟨rfl, (by repeat (first | exact Below.refl _ _ | refine bel_then ?_ _ | refine bel_grow ?_ _ | refine bel_alloc ?_ _ | refine bel_drew ?_ | refine bel_set ?_ (by simp) _ | refine bel_setRow ?_ (by first | omega | (simp; done) | (refine Nat.le_trans ?_ (top_le _ _); simp; done) | (refine Nat.le_succ_of_le (Nat.le_trans ?_ (top_le _ _)); simp; done) | (refine Nat.le_trans ?_ (top_le _ _); simp only [World.size_alloc]; refine Nat.le_succ_of_le (Nat.le_trans ?_ (top_le _ _)); simp; done)) _))⟩
/-- The root so far: the bits below number k are open. -/
def RootOpen (n r b : Int) : Prop := ∃ k j : Nat, b = (k : Int) - 1 ∧ k ≤ 63 ∧ r = ((j * 2 ^ k : Nat) : Int) ∧ j * 2 ^ k + 2 ^ k ≤ 9223372036854775808 ∧ r * r ≤ n ∧ (n < (r + ((2 ^ k : Nat) : Int)) * (r + ((2 ^ k : Nat) : Int)) ∨ r + ((2 ^ k : Nat) : Int) = 9223372036854775808)
theorem root_open (n : Int) (h : 0 ≤ n) : RootOpen n 0 62 := ⟨63, 0, by omega, by omega, by simp, by simp, by simpa using h, .inr (by simp)⟩
set_option maxRecDepth 100000 in
set_option maxHeartbeats 2000000 in
theorem rSqrt_yes (n : Int) (hn : InW n) (h0 : 0 ≤ n) (h1 : n < 85070591730234615865843651857942052864) (s : Int) (s0 : 0 ≤ s) (s1 : s * s ≤ n) (s2 : n < (s + 1) * (s + 1)) : Gives Try.prog 17 #[.agg #[.int .i64 (hiOf n), .int .u64 (loOf n)]] (.tuple #[.int .i64 s, .bool true]) := by
  refine Gives.mk fun w => ?_
  have fr := from_any n hn
  have first := root_open n h0
  rw [sg_no h0] at fr
  go_enter Try.func17, Try.ntmps17
  go_wp2_with (first | (refine wpList_val rfl _ _ (alloc_num _ _ rfl _ _ rfl) ?_) | (go_at_call 40; ((with_reducible refine (fr.at_ _).mono ?_); rintro e w' ⟨rfl, xf, rfl⟩)) | (refine wpList_store_row rfl 70 _ _ rfl ((grow (w.alloc (.cells #[.int .i64 (hiOf n), .int .u64 (loOf n)] 24)) xf).heap.size) (numc false (dg n.natAbs)) rfl rfl 70 (numc false fun _ => 0) (by simp only [grow_heap, alloc_heap_at, alloc_heap_past, setRow_alloc_at, setRow_alloc_past, grow_setRow, size_setRow, World.size_alloc, grow_lt, grow_lt1, grow_lt2, grow_lt3, grow_lt4, grow_lt5, grow_lt6, grow_self1, grow_self2, grow_self3, or_true, ltd2, ltd3, ltd4, ltd5, ltd6, ltd7, Nat.lt_add_one, true_or, if_true, ite_true]) (by rw [numc_size]; exact info30) (by simp only [numc_size]) (numc_one _ _) ?_))
  go_loopw [5, 6] (fun t u wr => ∃ r b : Int, t = .int .i64 r ∧ u = .int .i64 b ∧ RootOpen n r b ∧ ∃ x, wr = grow ((grow (w.alloc (.cells #[.int .i64 (hiOf n), .int .u64 (loOf n)] 24)) xf).alloc (.cells (numc false (dg n.natAbs)) 70)) x) (fun _ u _ => (intOf u + 1).toNat)
  case atStart => exact ⟨_, _, rfl, rfl, first, grow_of (by repeat (first | exact Below.refl _ _ | refine bel_then ?_ _ | refine bel_grow ?_ _ | refine bel_alloc ?_ _ | refine bel_drew ?_ | refine bel_set ?_ (by simp) _ | refine bel_setRow ?_ (by first | omega | (simp; done) | (refine Nat.le_trans ?_ (top_le _ _); simp; done) | (refine Nat.le_succ_of_le (Nat.le_trans ?_ (top_le _ _)); simp; done) | (refine Nat.le_trans ?_ (top_le _ _); simp only [World.size_alloc]; refine Nat.le_succ_of_le (Nat.le_trans ?_ (top_le _ _)); simp; done)) _))⟩
  case round =>
    obtain ⟨r, b, rfl, rfl, hinv, xx, rfl⟩ := hrel
    clear first
    obtain ⟨k, j, hb, hk, hr, hs, hi1, hi2⟩ := hinv
    rcases Nat.eq_zero_or_pos k with hz | hz
    · have hb' : b = -1 := by omega
      subst hz hb'
      simp only [Nat.pow_zero, Nat.mul_one, Int.natCast_one] at hr hi2 hs
      have r0 : 0 ≤ r := by omega
      have r1 : r ≤ 9223372036854775807 := by omega
      have hi3 : n < (r + 1) * (r + 1) := by
        rcases hi2 with h | h
        · exact h
        · rw [h]; omega
      obtain rfl : r = s := root_unique r0 hi1 hi3 s0 s1 s2
      clear s1 s2 hi3
      by_cases hr2 : r = 9223372036854775807
      · subst hr2
        have f1 := fromInt_any 9223372036854775807 (by omega) (by omega)
        have f2 := fromInt_any 1 (by omega) (by omega)
        have pl := plus_any 9223372036854775807 1 (big_i (by omega) (by omega)) (big_i (by omega) (by omega)) (by unfold Big; decide)
        have tm := times_any (9223372036854775807 + 1) (9223372036854775807 + 1) (by unfold Half; decide) (by unfold Half; decide)
        have cm := compare_any ((9223372036854775807 + 1) * (9223372036854775807 + 1)) n (by unfold Big; decide) (big_w hn)
        rw [sg_no h0] at cm
        generalize numc (sg 9223372036854775807) (dg (9223372036854775807 : Int).natAbs) = M1 at *
        generalize numc (sg 1) (dg (1 : Int).natAbs) = M2 at *
        generalize numc (sg ((9223372036854775807 + 1) * (9223372036854775807 + 1))) (dg ((9223372036854775807 + 1) * (9223372036854775807 + 1) : Int).natAbs) = M3 at *
        generalize sg (9223372036854775807 + 1) = SL at *
        generalize dg (9223372036854775807 + 1 : Int).natAbs = DL at *
        obtain ⟨v, hv⟩ : ∃ v, cmpOf ((9223372036854775807 + 1) * (9223372036854775807 + 1)) n = v := ⟨_, rfl⟩
        have hv0 : decide (v ≤ 0) = false := by rw [← hv]; unfold cmpOf; simp; split <;> (try split) <;> omega
        rw [hv] at cm
        clear hv hi1 hi2 hs hr hb hk
        go_wp2_with (first | (go_at_call 43; first | ((with_reducible refine (f1.at_ _).mono ?_); rintro e w' ⟨rfl, xg, rfl⟩) | ((with_reducible refine (f2.at_ _).mono ?_); rintro e w' ⟨rfl, xg, rfl⟩)) | (go_at_call 42; first | ((with_reducible refine (pl.at_ _).mono ?_); rintro e w' ⟨rfl, xg, rfl⟩)) | (refine wpList_val rfl _ _ (alloc_num _ _ rfl _ _ rfl) ?_) | (refine wpList_store_row rfl 70 _ _ rfl (_) (_) rfl rfl 70 (numc false fun _ => 0) (by simp only [grow_heap, alloc_heap_at, alloc_heap_past, setRow_alloc_at, setRow_alloc_past, grow_setRow, size_setRow, World.size_alloc, grow_lt, grow_lt1, grow_lt2, grow_lt3, grow_lt4, grow_lt5, grow_lt6, grow_self1, grow_self2, grow_self3, or_true, ltd2, ltd3, ltd4, ltd5, ltd6, ltd7, Nat.lt_add_one, true_or, if_true, ite_true]) (by rw [numc_size]; exact info30) (by simp only [numc_size]) (numc_one _ _) ?_))
        refine wp_region_grow (by kernel_rfl) (by kernel_rfl) ?_
        repeat (first | (refine quiet_num _ rfl rfl ((grow (w.alloc (.cells #[.int .i64 (hiOf n), .int .u64 (loOf n)] 24)) xf).heap.size) rfl false (dg n.natAbs) (fun u hu => by obtain ⟨y, rfl⟩ := hu; simp only [grow_heap, alloc_heap_at, alloc_heap_past, setRow_alloc_at, setRow_alloc_past, grow_setRow, size_setRow, World.size_alloc, grow_lt, grow_lt1, grow_lt2, grow_lt3, grow_lt4, grow_lt5, grow_lt6, grow_self1, grow_self2, grow_self3, or_true, ltd2, ltd3, ltd4, ltd5, ltd6, ltd7, Nat.lt_add_one, true_or, if_true, ite_true]) ?_; try simp only [Act.put, List.setIfInBounds_toArray, List.set_cons_succ, List.set_cons_zero]) | (refine quiet_num _ rfl rfl _ rfl SL DL (fun u hu => by obtain ⟨y, rfl⟩ := hu; simp only [grow_heap, alloc_heap_at, alloc_heap_past, setRow_alloc_at, setRow_alloc_past, grow_setRow, size_setRow, World.size_alloc, grow_lt, grow_lt1, grow_lt2, grow_lt3, grow_lt4, grow_lt5, grow_lt6, grow_self1, grow_self2, grow_self3, or_true, ltd2, ltd3, ltd4, ltd5, ltd6, ltd7, Nat.lt_add_one, true_or, if_true, ite_true]) ?_; try simp only [Act.put, List.setIfInBounds_toArray, List.set_cons_succ, List.set_cons_zero]) | go_big_quiet_step (((first | with_reducible exact tm.quiet _ | with_reducible exact tm.quiet2 _ _ | with_reducible exact cm.quiet _ | with_reducible exact cm.quiet2 _ _))))
        refine wpQuiet_nil ?_
        rintro _ ⟨xg, rfl⟩
        go_wp2
        go_ret2
        exact ⟨rfl, (by repeat (first | exact Below.refl _ _ | refine bel_then ?_ _ | refine bel_grow ?_ _ | refine bel_alloc ?_ _ | refine bel_drew ?_ | refine bel_set ?_ (by simp) _ | refine bel_setRow ?_ (by first | omega | (simp; done) | (refine Nat.le_trans ?_ (top_le _ _); simp; done) | (refine Nat.le_succ_of_le (Nat.le_trans ?_ (top_le _ _)); simp; done) | (refine Nat.le_trans ?_ (top_le _ _); simp only [World.size_alloc]; refine Nat.le_succ_of_le (Nat.le_trans ?_ (top_le _ _)); simp; done)) _))⟩
      · have r2 : (r == 9223372036854775807) = false := by simpa using hr2
        clear hi1 hi2 hs hr hb hk hr2
        go_wp2
        go_ret2
        exact ⟨rfl, (by repeat (first | exact Below.refl _ _ | refine bel_then ?_ _ | refine bel_grow ?_ _ | refine bel_alloc ?_ _ | refine bel_drew ?_ | refine bel_set ?_ (by simp) _ | refine bel_setRow ?_ (by first | omega | (simp; done) | (refine Nat.le_trans ?_ (top_le _ _); simp; done) | (refine Nat.le_succ_of_le (Nat.le_trans ?_ (top_le _ _)); simp; done) | (refine Nat.le_trans ?_ (top_le _ _); simp only [World.size_alloc]; refine Nat.le_succ_of_le (Nat.le_trans ?_ (top_le _ _)); simp; done)) _))⟩
    · obtain ⟨q, rfl⟩ : ∃ q, k = q + 1 := ⟨k - 1, by omega⟩
      have hb0 : b = (q : Int) := by omega
      subst hb0
      obtain ⟨m, hm⟩ : ∃ m : Int, ((j * 2 ^ (q + 1) + 2 ^ q : Nat) : Int) = m := ⟨_, rfl⟩
      have hp2 : 2 ^ (q + 1) = 2 ^ q + 2 ^ q := by rw [Nat.pow_succ]; omega
      have hq := Nat.two_pow_pos q
      have hq62 : (q : Int) ≤ 62 := by omega
      have hq0 : (0 : Int) ≤ (q : Int) := by omega
      have hm0 : 0 ≤ m ∧ m ≤ 9223372036854775807 := by omega
      have e2 : (2 : Int) ^ q = ((2 ^ q : Nat) : Int) := by simp
      have hP : ((2 ^ q : Nat) : Int) ≤ 9223372036854775807 := by omega
      have eP : m = r + ((2 ^ q : Nat) : Int) := by omega
      have ob : wrap64 (r + wrap64 (2 ^ q)) = m := by
        rw [e2]; unfold wrap64; omega
      have f := fromInt_any m (by omega) (by omega)
      have p := times_any m m (half_i (by omega) (by omega)) (half_i (by omega) (by omega))
      have c := compare_any (m * m) n (big_w (inW_mul m m (by omega) (by omega) (by omega) (by omega))) (big_w hn)
      rw [sg_no h0] at c
      generalize numc (sg m) (dg m.natAbs) = M1 at *
      generalize numc (sg (m * m)) (dg (m * m).natAbs) = M2 at *
      by_cases hle : m * m ≤ n
      · have next : RootOpen n m ((q : Int) - 1) := by
          refine ⟨q, 2 * j + 1, rfl, by omega, ?_, ?_, hle, ?_⟩
          · rw [← hm, odd_bit]
          · rw [odd_bit]; omega
          · rw [hp2] at hi2
            have : m + ((2 ^ q : Nat) : Int) = r + ((2 ^ q + 2 ^ q : Nat) : Int) := by omega
            rw [this]; exact hi2
        obtain ⟨v, hv⟩ : ∃ v, cmpOf (m * m) n = v := ⟨_, rfl⟩
        have hv0 : decide (v ≤ 0) = true := by rw [← hv]; unfold cmpOf; simp; split <;> (try split) <;> omega
        rw [hv] at c
        clear hv hle eP hp2 hs hi1 hi2 hr hm hb hk hz e2 hP
        go_wp2_with fail
        refine wp_region_grow (by kernel_rfl) (by kernel_rfl) ?_
        repeat (first | (refine quiet_num _ rfl rfl ((grow (w.alloc (.cells #[.int .i64 (hiOf n), .int .u64 (loOf n)] 24)) xf).heap.size) rfl false (dg n.natAbs) (fun u hu => by obtain ⟨y, rfl⟩ := hu; simp only [grow_heap, alloc_heap_at, alloc_heap_past, setRow_alloc_at, setRow_alloc_past, grow_setRow, size_setRow, World.size_alloc, grow_lt, grow_lt1, grow_lt2, grow_lt3, grow_lt4, grow_lt5, grow_lt6, grow_self1, grow_self2, grow_self3, or_true, ltd2, ltd3, ltd4, ltd5, ltd6, ltd7, Nat.lt_add_one, true_or, if_true, ite_true]) ?_; try simp only [Act.put, List.setIfInBounds_toArray, List.set_cons_succ, List.set_cons_zero]) | go_big_quiet_step (((first | with_reducible exact f.quiet _ | with_reducible exact f.quiet2 _ _ | with_reducible exact p.quiet _ | with_reducible exact p.quiet2 _ _ | with_reducible exact c.quiet _ | with_reducible exact c.quiet2 _ _))))
        refine wpQuiet_nil ?_
        rintro _ ⟨xg, rfl⟩
        go_wp2
        exact ⟨⟨_, _, rfl, rfl, (by first | exact next | (rw [ob]; exact next)), grow_of (by repeat (first | exact Below.refl _ _ | refine bel_then ?_ _ | refine bel_grow ?_ _ | refine bel_alloc ?_ _ | refine bel_drew ?_ | refine bel_set ?_ (by simp) _ | refine bel_setRow ?_ (by first | omega | (simp; done) | (refine Nat.le_trans ?_ (top_le _ _); simp; done) | (refine Nat.le_succ_of_le (Nat.le_trans ?_ (top_le _ _)); simp; done) | (refine Nat.le_trans ?_ (top_le _ _); simp only [World.size_alloc]; refine Nat.le_succ_of_le (Nat.le_trans ?_ (top_le _ _)); simp; done)) _))⟩, by simp [intOf] <;> omega⟩
      · have next : RootOpen n r ((q : Int) - 1) := by
          refine ⟨q, 2 * j, rfl, by omega, ?_, ?_, hi1, .inl ?_⟩
          · rw [hr, even_bit]
          · rw [even_bit]; omega
          · rw [← eP]; omega
        obtain ⟨v, hv⟩ : ∃ v, cmpOf (m * m) n = v := ⟨_, rfl⟩
        have hv0 : decide (v ≤ 0) = false := by rw [← hv]; unfold cmpOf; simp; split <;> (try split) <;> omega
        rw [hv] at c
        clear hv hle eP hp2 hs hi1 hi2 hr hm hb hk hz e2 hP
        go_wp2_with fail
        refine wp_region_grow (by kernel_rfl) (by kernel_rfl) ?_
        repeat (first | (refine quiet_num _ rfl rfl ((grow (w.alloc (.cells #[.int .i64 (hiOf n), .int .u64 (loOf n)] 24)) xf).heap.size) rfl false (dg n.natAbs) (fun u hu => by obtain ⟨y, rfl⟩ := hu; simp only [grow_heap, alloc_heap_at, alloc_heap_past, setRow_alloc_at, setRow_alloc_past, grow_setRow, size_setRow, World.size_alloc, grow_lt, grow_lt1, grow_lt2, grow_lt3, grow_lt4, grow_lt5, grow_lt6, grow_self1, grow_self2, grow_self3, or_true, ltd2, ltd3, ltd4, ltd5, ltd6, ltd7, Nat.lt_add_one, true_or, if_true, ite_true]) ?_; try simp only [Act.put, List.setIfInBounds_toArray, List.set_cons_succ, List.set_cons_zero]) | go_big_quiet_step (((first | with_reducible exact f.quiet _ | with_reducible exact f.quiet2 _ _ | with_reducible exact p.quiet _ | with_reducible exact p.quiet2 _ _ | with_reducible exact c.quiet _ | with_reducible exact c.quiet2 _ _))))
        refine wpQuiet_nil ?_
        rintro _ ⟨xg, rfl⟩
        go_wp2
        exact ⟨⟨_, _, rfl, rfl, next, grow_of (by repeat (first | exact Below.refl _ _ | refine bel_then ?_ _ | refine bel_grow ?_ _ | refine bel_alloc ?_ _ | refine bel_drew ?_ | refine bel_set ?_ (by simp) _ | refine bel_setRow ?_ (by first | omega | (simp; done) | (refine Nat.le_trans ?_ (top_le _ _); simp; done) | (refine Nat.le_succ_of_le (Nat.le_trans ?_ (top_le _ _)); simp; done) | (refine Nat.le_trans ?_ (top_le _ _); simp only [World.size_alloc]; refine Nat.le_succ_of_le (Nat.le_trans ?_ (top_le _ _)); simp; done)) _))⟩, by simp [intOf] <;> omega⟩
set_option maxRecDepth 100000 in
set_option maxHeartbeats 2000000 in
theorem rSqrt_no (n : Int) (hn : InW n) (h0 : 0 ≤ n) (h1 : 85070591730234615865843651857942052864 ≤ n) : Gives Try.prog 17 #[.agg #[.int .i64 (hiOf n), .int .u64 (loOf n)]] (.tuple #[.int .i64 0, .bool false]) := by
  refine Gives.mk fun w => ?_
  have fr := from_any n hn
  have first := root_open n h0
  rw [sg_no h0] at fr
  go_enter Try.func17, Try.ntmps17
  go_wp2_with (first | (refine wpList_val rfl _ _ (alloc_num _ _ rfl _ _ rfl) ?_) | (go_at_call 40; ((with_reducible refine (fr.at_ _).mono ?_); rintro e w' ⟨rfl, xf, rfl⟩)) | (refine wpList_store_row rfl 70 _ _ rfl ((grow (w.alloc (.cells #[.int .i64 (hiOf n), .int .u64 (loOf n)] 24)) xf).heap.size) (numc false (dg n.natAbs)) rfl rfl 70 (numc false fun _ => 0) (by simp only [grow_heap, alloc_heap_at, alloc_heap_past, setRow_alloc_at, setRow_alloc_past, grow_setRow, size_setRow, World.size_alloc, grow_lt, grow_lt1, grow_lt2, grow_lt3, grow_lt4, grow_lt5, grow_lt6, grow_self1, grow_self2, grow_self3, or_true, ltd2, ltd3, ltd4, ltd5, ltd6, ltd7, Nat.lt_add_one, true_or, if_true, ite_true]) (by rw [numc_size]; exact info30) (by simp only [numc_size]) (numc_one _ _) ?_))
  go_loopw [5, 6] (fun t u wr => ∃ r b : Int, t = .int .i64 r ∧ u = .int .i64 b ∧ RootOpen n r b ∧ ∃ x, wr = grow ((grow (w.alloc (.cells #[.int .i64 (hiOf n), .int .u64 (loOf n)] 24)) xf).alloc (.cells (numc false (dg n.natAbs)) 70)) x) (fun _ u _ => (intOf u + 1).toNat)
  case atStart => exact ⟨_, _, rfl, rfl, first, grow_of (by repeat (first | exact Below.refl _ _ | refine bel_then ?_ _ | refine bel_grow ?_ _ | refine bel_alloc ?_ _ | refine bel_drew ?_ | refine bel_set ?_ (by simp) _ | refine bel_setRow ?_ (by first | omega | (simp; done) | (refine Nat.le_trans ?_ (top_le _ _); simp; done) | (refine Nat.le_succ_of_le (Nat.le_trans ?_ (top_le _ _)); simp; done) | (refine Nat.le_trans ?_ (top_le _ _); simp only [World.size_alloc]; refine Nat.le_succ_of_le (Nat.le_trans ?_ (top_le _ _)); simp; done)) _))⟩
  case round =>
    obtain ⟨r, b, rfl, rfl, hinv, xx, rfl⟩ := hrel
    clear first
    obtain ⟨k, j, hb, hk, hr, hs, hi1, hi2⟩ := hinv
    rcases Nat.eq_zero_or_pos k with hz | hz
    · have hb' : b = -1 := by omega
      subst hz hb'
      simp only [Nat.pow_zero, Nat.mul_one, Int.natCast_one] at hr hi2 hs
      have r0 : 0 ≤ r := by omega
      have r1 : r ≤ 9223372036854775807 := by omega
      have hr2 : r = 9223372036854775807 := by
        rcases hi2 with h | h
        · have := mul_bd (m := 9223372036854775808) (n := 9223372036854775808) (a := r + 1) (b := r + 1) (by omega) (by omega)
          omega
        · omega
      subst hr2
      have f1 := fromInt_any 9223372036854775807 (by omega) (by omega)
      have f2 := fromInt_any 1 (by omega) (by omega)
      have pl := plus_any 9223372036854775807 1 (big_i (by omega) (by omega)) (big_i (by omega) (by omega)) (by unfold Big; decide)
      have tm := times_any (9223372036854775807 + 1) (9223372036854775807 + 1) (by unfold Half; decide) (by unfold Half; decide)
      have cm := compare_any ((9223372036854775807 + 1) * (9223372036854775807 + 1)) n (by unfold Big; decide) (big_w hn)
      rw [sg_no h0] at cm
      generalize numc (sg 9223372036854775807) (dg (9223372036854775807 : Int).natAbs) = M1 at *
      generalize numc (sg 1) (dg (1 : Int).natAbs) = M2 at *
      generalize numc (sg ((9223372036854775807 + 1) * (9223372036854775807 + 1))) (dg ((9223372036854775807 + 1) * (9223372036854775807 + 1) : Int).natAbs) = M3 at *
      generalize sg (9223372036854775807 + 1) = SL at *
      generalize dg (9223372036854775807 + 1 : Int).natAbs = DL at *
      obtain ⟨v, hv⟩ : ∃ v, cmpOf ((9223372036854775807 + 1) * (9223372036854775807 + 1)) n = v := ⟨_, rfl⟩
      have hv0 : decide (v ≤ 0) = true := by rw [← hv]; unfold cmpOf; simp; split <;> (try split) <;> omega
      rw [hv] at cm
      clear hv hi1 hi2 hs hr hb hk
      go_wp2_with (first | (go_at_call 43; first | ((with_reducible refine (f1.at_ _).mono ?_); rintro e w' ⟨rfl, xg, rfl⟩) | ((with_reducible refine (f2.at_ _).mono ?_); rintro e w' ⟨rfl, xg, rfl⟩)) | (go_at_call 42; first | ((with_reducible refine (pl.at_ _).mono ?_); rintro e w' ⟨rfl, xg, rfl⟩)) | (refine wpList_val rfl _ _ (alloc_num _ _ rfl _ _ rfl) ?_) | (refine wpList_store_row rfl 70 _ _ rfl (_) (_) rfl rfl 70 (numc false fun _ => 0) (by simp only [grow_heap, alloc_heap_at, alloc_heap_past, setRow_alloc_at, setRow_alloc_past, grow_setRow, size_setRow, World.size_alloc, grow_lt, grow_lt1, grow_lt2, grow_lt3, grow_lt4, grow_lt5, grow_lt6, grow_self1, grow_self2, grow_self3, or_true, ltd2, ltd3, ltd4, ltd5, ltd6, ltd7, Nat.lt_add_one, true_or, if_true, ite_true]) (by rw [numc_size]; exact info30) (by simp only [numc_size]) (numc_one _ _) ?_))
      refine wp_region_grow (by kernel_rfl) (by kernel_rfl) ?_
      repeat (first | (refine quiet_num _ rfl rfl ((grow (w.alloc (.cells #[.int .i64 (hiOf n), .int .u64 (loOf n)] 24)) xf).heap.size) rfl false (dg n.natAbs) (fun u hu => by obtain ⟨y, rfl⟩ := hu; simp only [grow_heap, alloc_heap_at, alloc_heap_past, setRow_alloc_at, setRow_alloc_past, grow_setRow, size_setRow, World.size_alloc, grow_lt, grow_lt1, grow_lt2, grow_lt3, grow_lt4, grow_lt5, grow_lt6, grow_self1, grow_self2, grow_self3, or_true, ltd2, ltd3, ltd4, ltd5, ltd6, ltd7, Nat.lt_add_one, true_or, if_true, ite_true]) ?_; try simp only [Act.put, List.setIfInBounds_toArray, List.set_cons_succ, List.set_cons_zero]) | (refine quiet_num _ rfl rfl _ rfl SL DL (fun u hu => by obtain ⟨y, rfl⟩ := hu; simp only [grow_heap, alloc_heap_at, alloc_heap_past, setRow_alloc_at, setRow_alloc_past, grow_setRow, size_setRow, World.size_alloc, grow_lt, grow_lt1, grow_lt2, grow_lt3, grow_lt4, grow_lt5, grow_lt6, grow_self1, grow_self2, grow_self3, or_true, ltd2, ltd3, ltd4, ltd5, ltd6, ltd7, Nat.lt_add_one, true_or, if_true, ite_true]) ?_; try simp only [Act.put, List.setIfInBounds_toArray, List.set_cons_succ, List.set_cons_zero]) | go_big_quiet_step (((first | with_reducible exact tm.quiet _ | with_reducible exact tm.quiet2 _ _ | with_reducible exact cm.quiet _ | with_reducible exact cm.quiet2 _ _))))
      refine wpQuiet_nil ?_
      rintro _ ⟨xg, rfl⟩
      go_wp2
      go_ret2
      exact ⟨rfl, (by repeat (first | exact Below.refl _ _ | refine bel_then ?_ _ | refine bel_grow ?_ _ | refine bel_alloc ?_ _ | refine bel_drew ?_ | refine bel_set ?_ (by simp) _ | refine bel_setRow ?_ (by first | omega | (simp; done) | (refine Nat.le_trans ?_ (top_le _ _); simp; done) | (refine Nat.le_succ_of_le (Nat.le_trans ?_ (top_le _ _)); simp; done) | (refine Nat.le_trans ?_ (top_le _ _); simp only [World.size_alloc]; refine Nat.le_succ_of_le (Nat.le_trans ?_ (top_le _ _)); simp; done)) _))⟩
    · obtain ⟨q, rfl⟩ : ∃ q, k = q + 1 := ⟨k - 1, by omega⟩
      have hb0 : b = (q : Int) := by omega
      subst hb0
      obtain ⟨m, hm⟩ : ∃ m : Int, ((j * 2 ^ (q + 1) + 2 ^ q : Nat) : Int) = m := ⟨_, rfl⟩
      have hp2 : 2 ^ (q + 1) = 2 ^ q + 2 ^ q := by rw [Nat.pow_succ]; omega
      have hq := Nat.two_pow_pos q
      have hq62 : (q : Int) ≤ 62 := by omega
      have hq0 : (0 : Int) ≤ (q : Int) := by omega
      have hm0 : 0 ≤ m ∧ m ≤ 9223372036854775807 := by omega
      have e2 : (2 : Int) ^ q = ((2 ^ q : Nat) : Int) := by simp
      have hP : ((2 ^ q : Nat) : Int) ≤ 9223372036854775807 := by omega
      have eP : m = r + ((2 ^ q : Nat) : Int) := by omega
      have ob : wrap64 (r + wrap64 (2 ^ q)) = m := by
        rw [e2]; unfold wrap64; omega
      have f := fromInt_any m (by omega) (by omega)
      have p := times_any m m (half_i (by omega) (by omega)) (half_i (by omega) (by omega))
      have c := compare_any (m * m) n (big_w (inW_mul m m (by omega) (by omega) (by omega) (by omega))) (big_w hn)
      rw [sg_no h0] at c
      generalize numc (sg m) (dg m.natAbs) = M1 at *
      generalize numc (sg (m * m)) (dg (m * m).natAbs) = M2 at *
      by_cases hle : m * m ≤ n
      · have next : RootOpen n m ((q : Int) - 1) := by
          refine ⟨q, 2 * j + 1, rfl, by omega, ?_, ?_, hle, ?_⟩
          · rw [← hm, odd_bit]
          · rw [odd_bit]; omega
          · rw [hp2] at hi2
            have : m + ((2 ^ q : Nat) : Int) = r + ((2 ^ q + 2 ^ q : Nat) : Int) := by omega
            rw [this]; exact hi2
        obtain ⟨v, hv⟩ : ∃ v, cmpOf (m * m) n = v := ⟨_, rfl⟩
        have hv0 : decide (v ≤ 0) = true := by rw [← hv]; unfold cmpOf; simp; split <;> (try split) <;> omega
        rw [hv] at c
        clear hv hle eP hp2 hs hi1 hi2 hr hm hb hk hz e2 hP
        go_wp2_with fail
        refine wp_region_grow (by kernel_rfl) (by kernel_rfl) ?_
        repeat (first | (refine quiet_num _ rfl rfl ((grow (w.alloc (.cells #[.int .i64 (hiOf n), .int .u64 (loOf n)] 24)) xf).heap.size) rfl false (dg n.natAbs) (fun u hu => by obtain ⟨y, rfl⟩ := hu; simp only [grow_heap, alloc_heap_at, alloc_heap_past, setRow_alloc_at, setRow_alloc_past, grow_setRow, size_setRow, World.size_alloc, grow_lt, grow_lt1, grow_lt2, grow_lt3, grow_lt4, grow_lt5, grow_lt6, grow_self1, grow_self2, grow_self3, or_true, ltd2, ltd3, ltd4, ltd5, ltd6, ltd7, Nat.lt_add_one, true_or, if_true, ite_true]) ?_; try simp only [Act.put, List.setIfInBounds_toArray, List.set_cons_succ, List.set_cons_zero]) | go_big_quiet_step (((first | with_reducible exact f.quiet _ | with_reducible exact f.quiet2 _ _ | with_reducible exact p.quiet _ | with_reducible exact p.quiet2 _ _ | with_reducible exact c.quiet _ | with_reducible exact c.quiet2 _ _))))
        refine wpQuiet_nil ?_
        rintro _ ⟨xg, rfl⟩
        go_wp2
        exact ⟨⟨_, _, rfl, rfl, (by first | exact next | (rw [ob]; exact next)), grow_of (by repeat (first | exact Below.refl _ _ | refine bel_then ?_ _ | refine bel_grow ?_ _ | refine bel_alloc ?_ _ | refine bel_drew ?_ | refine bel_set ?_ (by simp) _ | refine bel_setRow ?_ (by first | omega | (simp; done) | (refine Nat.le_trans ?_ (top_le _ _); simp; done) | (refine Nat.le_succ_of_le (Nat.le_trans ?_ (top_le _ _)); simp; done) | (refine Nat.le_trans ?_ (top_le _ _); simp only [World.size_alloc]; refine Nat.le_succ_of_le (Nat.le_trans ?_ (top_le _ _)); simp; done)) _))⟩, by simp [intOf] <;> omega⟩
      · have next : RootOpen n r ((q : Int) - 1) := by
          refine ⟨q, 2 * j, rfl, by omega, ?_, ?_, hi1, .inl ?_⟩
          · rw [hr, even_bit]
          · rw [even_bit]; omega
          · rw [← eP]; omega
        obtain ⟨v, hv⟩ : ∃ v, cmpOf (m * m) n = v := ⟨_, rfl⟩
        have hv0 : decide (v ≤ 0) = false := by rw [← hv]; unfold cmpOf; simp; split <;> (try split) <;> omega
        rw [hv] at c
        clear hv hle eP hp2 hs hi1 hi2 hr hm hb hk hz e2 hP
        go_wp2_with fail
        refine wp_region_grow (by kernel_rfl) (by kernel_rfl) ?_
        repeat (first | (refine quiet_num _ rfl rfl ((grow (w.alloc (.cells #[.int .i64 (hiOf n), .int .u64 (loOf n)] 24)) xf).heap.size) rfl false (dg n.natAbs) (fun u hu => by obtain ⟨y, rfl⟩ := hu; simp only [grow_heap, alloc_heap_at, alloc_heap_past, setRow_alloc_at, setRow_alloc_past, grow_setRow, size_setRow, World.size_alloc, grow_lt, grow_lt1, grow_lt2, grow_lt3, grow_lt4, grow_lt5, grow_lt6, grow_self1, grow_self2, grow_self3, or_true, ltd2, ltd3, ltd4, ltd5, ltd6, ltd7, Nat.lt_add_one, true_or, if_true, ite_true]) ?_; try simp only [Act.put, List.setIfInBounds_toArray, List.set_cons_succ, List.set_cons_zero]) | go_big_quiet_step (((first | with_reducible exact f.quiet _ | with_reducible exact f.quiet2 _ _ | with_reducible exact p.quiet _ | with_reducible exact p.quiet2 _ _ | with_reducible exact c.quiet _ | with_reducible exact c.quiet2 _ _))))
        refine wpQuiet_nil ?_
        rintro _ ⟨xg, rfl⟩
        go_wp2
        exact ⟨⟨_, _, rfl, rfl, next, grow_of (by repeat (first | exact Below.refl _ _ | refine bel_then ?_ _ | refine bel_grow ?_ _ | refine bel_alloc ?_ _ | refine bel_drew ?_ | refine bel_set ?_ (by simp) _ | refine bel_setRow ?_ (by first | omega | (simp; done) | (refine Nat.le_trans ?_ (top_le _ _); simp; done) | (refine Nat.le_succ_of_le (Nat.le_trans ?_ (top_le _ _)); simp; done) | (refine Nat.le_trans ?_ (top_le _ _); simp only [World.size_alloc]; refine Nat.le_succ_of_le (Nat.le_trans ?_ (top_le _ _)); simp; done)) _))⟩, by simp [intOf] <;> omega⟩
end Go.Proofs.Ytgfgaaecpdbgeaa
