/- The document's own numbers, as digits: contracts of its calls, part 7: to wide numbers. -/
import Derived.Test.YtgfgaaecpdbgeaaRef6
namespace Go.Proofs.Ytgfgaaecpdbgeaa
open Go.RowKit
set_option linter.unusedVariables false
set_option linter.unusedSimpArgs false
theorem most_eq : digs (fun j => if j = 7 then 32768 else 0) = digs (dg 170141183460469231731687303715884105728) := digs_congr fun j hj => by
  match j, hj with
  | 0, _ => decide
  | 1, _ => decide
  | 2, _ => decide
  | 3, _ => decide
  | 4, _ => decide
  | 5, _ => decide
  | 6, _ => decide
  | 7, _ => decide
  | 8, _ => decide
  | 9, _ => decide
  | 10, _ => decide
  | 11, _ => decide
  | 12, _ => decide
  | 13, _ => decide
  | 14, _ => decide
  | 15, _ => decide
  | 16, _ => decide
  | 17, _ => decide
  | _ + 18, h => exact absurd h (by omega)
theorem big_most : Big 170141183460469231731687303715884105728 := by unfold Big; decide
theorem cmp_most (N : Nat) (h : Big N) : Gives Try.prog 64 #[.agg (digs (dg N)), .agg (digs fun j => if j = 7 then 32768 else 0)] (.int .i64 (cmpOf (N : Int) 170141183460469231731687303715884105728)) := by
  rw [most_eq]; exact cmpDigits_dg N 170141183460469231731687303715884105728 h big_most
theorem val_parts (N : Nat) : N / 65536 ^ 0 % 18446744073709551616 = N % 18446744073709551616 ∧ N / 65536 ^ 4 % 18446744073709551616 = N / 18446744073709551616 % 18446744073709551616 := by
  constructor
  · simp
  · rw [show (65536 : Nat) ^ 4 = 18446744073709551616 by decide]

set_option maxHeartbeats 1000000 in
theorem to_no_pos (x : Int) (h : 170141183460469231731687303715884105728 ≤ x) (bx : Big x.natAbs) : Gives Try.prog 44 #[.agg (numc false (dg x.natAbs))] (.tuple #[.agg #[.int .i64 0, .int .u64 0], .bool false]) := by
  refine Gives.mk fun w => ?_
  have k := cmp_most x.natAbs bx
  obtain ⟨c, hc, h1⟩ : ∃ c, cmpOf ((x.natAbs : Nat) : Int) 170141183460469231731687303715884105728 = c ∧ 0 ≤ c := ⟨_, rfl, by unfold cmpOf; split <;> (try split) <;> omega⟩
  rw [hc] at k
  clear hc h bx
  go_enter Try.func44, Try.ntmps44
  go_wp2_with (first | (refine wpList_val rfl _ _ (alloc_digs _ _ rfl _ (w.heap.size + 1 + 1) (by simp)) ?_) | (refine wpList_val rfl _ _ (build_digs _ _ rfl _) ?_) | (refine wpList_store_row rfl 68 _ _ rfl (w.heap.size + 1 + 1) (digs fun _ => 0) rfl rfl 68 (digs fun _ => 0) (by simp only [grow_heap, alloc_heap_at, alloc_heap_past, setRow_alloc_at, setRow_alloc_past, grow_setRow, size_setRow, World.size_alloc, grow_lt, grow_lt1, grow_lt2, grow_lt3, grow_lt4, grow_lt5, grow_lt6, grow_self1, grow_self2, grow_self3, or_true, ltd2, ltd3, ltd4, ltd5, ltd6, ltd7, Nat.lt_add_one, true_or, if_true, ite_true]) (by rw [digs_size]; exact info28) (by simp only [digs_size]) (digs_one _) ?_) | (refine wpList_part rfl _ rfl (w.heap.size) rfl (false) (dg x.natAbs) (by simp only [grow_heap, alloc_heap_at, alloc_heap_past, setRow_alloc_at, setRow_alloc_past, grow_setRow, size_setRow, World.size_alloc, grow_lt, grow_lt1, grow_lt2, grow_lt3, grow_lt4, grow_lt5, grow_lt6, grow_self1, grow_self2, grow_self3, or_true, ltd2, ltd3, ltd4, ltd5, ltd6, ltd7, Nat.lt_add_one, true_or, if_true, ite_true]) ?_) | (refine wpList_load_row rfl 68 _ rfl (w.heap.size + 1 + 1) rfl 68 (digs fun j => if j = 7 then 32768 else 0) (0, 0) _ (by simp only [grow_heap, alloc_heap_at, alloc_heap_past, setRow_alloc_at, setRow_alloc_past, grow_setRow, size_setRow, World.size_alloc, grow_lt, grow_lt1, grow_lt2, grow_lt3, grow_lt4, grow_lt5, grow_lt6, grow_self1, grow_self2, grow_self3, or_true, ltd2, ltd3, ltd4, ltd5, ltd6, ltd7, Nat.lt_add_one, true_or, if_true, ite_true]) Try.underlying68 rfl (by rw [digs_size]; exact info28) ?_) | (go_at_call 64; first | ((with_reducible refine (k.at_ _).mono ?_); rintro e w' ⟨rfl, xg, rfl⟩)))
  all_goals first | (refine bodyPost_ret (v := .tuple #[.agg #[.int .i64 0, .int .u64 0], .bool false]) (by simp [results, Try.results44, go_sem]) rfl ⟨rfl, (by repeat (first | exact Below.refl _ _ | refine bel_then ?_ _ | refine bel_grow ?_ _ | refine bel_alloc ?_ _ | refine bel_drew ?_ | refine bel_set ?_ (by simp) _ | refine bel_setRow ?_ (by first | omega | simp) _))⟩) | (exfalso; omega)

set_option maxHeartbeats 1000000 in
theorem to_no_neg (x : Int) (h : x < -170141183460469231731687303715884105728) (bx : Big x.natAbs) : Gives Try.prog 44 #[.agg (numc true (dg x.natAbs))] (.tuple #[.agg #[.int .i64 0, .int .u64 0], .bool false]) := by
  refine Gives.mk fun w => ?_
  have k := cmp_most x.natAbs bx
  obtain ⟨c, hc, h1⟩ : ∃ c, cmpOf ((x.natAbs : Nat) : Int) 170141183460469231731687303715884105728 = c ∧ 0 < c := ⟨_, rfl, by unfold cmpOf; split <;> (try split) <;> omega⟩
  rw [hc] at k
  clear hc h bx
  go_enter Try.func44, Try.ntmps44
  go_wp2_with (first | (refine wpList_val rfl _ _ (alloc_digs _ _ rfl _ (w.heap.size + 1 + 1) (by simp)) ?_) | (refine wpList_val rfl _ _ (build_digs _ _ rfl _) ?_) | (refine wpList_store_row rfl 68 _ _ rfl (w.heap.size + 1 + 1) (digs fun _ => 0) rfl rfl 68 (digs fun _ => 0) (by simp only [grow_heap, alloc_heap_at, alloc_heap_past, setRow_alloc_at, setRow_alloc_past, grow_setRow, size_setRow, World.size_alloc, grow_lt, grow_lt1, grow_lt2, grow_lt3, grow_lt4, grow_lt5, grow_lt6, grow_self1, grow_self2, grow_self3, or_true, ltd2, ltd3, ltd4, ltd5, ltd6, ltd7, Nat.lt_add_one, true_or, if_true, ite_true]) (by rw [digs_size]; exact info28) (by simp only [digs_size]) (digs_one _) ?_) | (refine wpList_part rfl _ rfl (w.heap.size) rfl (true) (dg x.natAbs) (by simp only [grow_heap, alloc_heap_at, alloc_heap_past, setRow_alloc_at, setRow_alloc_past, grow_setRow, size_setRow, World.size_alloc, grow_lt, grow_lt1, grow_lt2, grow_lt3, grow_lt4, grow_lt5, grow_lt6, grow_self1, grow_self2, grow_self3, or_true, ltd2, ltd3, ltd4, ltd5, ltd6, ltd7, Nat.lt_add_one, true_or, if_true, ite_true]) ?_) | (refine wpList_load_row rfl 68 _ rfl (w.heap.size + 1 + 1) rfl 68 (digs fun j => if j = 7 then 32768 else 0) (0, 0) _ (by simp only [grow_heap, alloc_heap_at, alloc_heap_past, setRow_alloc_at, setRow_alloc_past, grow_setRow, size_setRow, World.size_alloc, grow_lt, grow_lt1, grow_lt2, grow_lt3, grow_lt4, grow_lt5, grow_lt6, grow_self1, grow_self2, grow_self3, or_true, ltd2, ltd3, ltd4, ltd5, ltd6, ltd7, Nat.lt_add_one, true_or, if_true, ite_true]) Try.underlying68 rfl (by rw [digs_size]; exact info28) ?_) | (go_at_call 64; first | ((with_reducible refine (k.at_ _).mono ?_); rintro e w' ⟨rfl, xg, rfl⟩)))
  all_goals first | (refine bodyPost_ret (v := .tuple #[.agg #[.int .i64 0, .int .u64 0], .bool false]) (by simp [results, Try.results44, go_sem]) rfl ⟨rfl, (by repeat (first | exact Below.refl _ _ | refine bel_then ?_ _ | refine bel_grow ?_ _ | refine bel_alloc ?_ _ | refine bel_drew ?_ | refine bel_set ?_ (by simp) _ | refine bel_setRow ?_ (by first | omega | simp) _))⟩) | (exfalso; omega)

set_option maxHeartbeats 1000000 in
theorem to_yes_pos (x : Int) (h : 0 ≤ x ∧ x < 170141183460469231731687303715884105728) : Gives Try.prog 44 #[.agg (numc false (dg x.natAbs))] (.tuple #[.agg #[.int .i64 (hiOf x), .int .u64 (loOf x)], .bool true]) := by
  refine Gives.mk fun w => ?_
  have bx : Big x.natAbs := Nat.lt_of_le_of_lt (show x.natAbs ≤ 170141183460469231731687303715884105728 by omega) (by decide)
  have k := cmp_most x.natAbs bx
  obtain ⟨c, hc, h1⟩ : ∃ c, cmpOf ((x.natAbs : Nat) : Int) 170141183460469231731687303715884105728 = c ∧ c < 0 := ⟨_, rfl, by unfold cmpOf; split <;> (try split) <;> omega⟩
  rw [hc] at k
  have v0 := value_any x.natAbs 0 (by omega)
  have v4 := value_any x.natAbs 4 (by omega)
  rw [(val_parts x.natAbs).1] at v0
  rw [(val_parts x.natAbs).2] at v4
  have fin : hiOf x = wrap64 ((x.natAbs / 18446744073709551616 % 18446744073709551616 : Nat) : Int) ∧ loOf x = ((x.natAbs % 18446744073709551616 : Nat) : Int) := by unfold hiOf loOf wrap64; (try split) <;> omega
  obtain ⟨l, hl⟩ : ∃ l, x.natAbs % 18446744073709551616 = l := ⟨_, rfl⟩
  obtain ⟨g, hg⟩ : ∃ g, x.natAbs / 18446744073709551616 % 18446744073709551616 = g := ⟨_, rfl⟩
  have l1 : l ≤ 18446744073709551615 := by omega
  have g1 : g ≤ 18446744073709551615 := by omega
  rw [hl] at v0 fin
  rw [hg] at v4 fin
  replace fin := Lib.hid fin
  rw [show ((0 : Nat) : Int) = 0 from rfl] at v0
  rw [show ((4 : Nat) : Int) = 4 from rfl] at v4
  clear hc h bx hl hg
  go_enter Try.func44, Try.ntmps44
  go_wp2_with (first | (refine wpList_val rfl _ _ (alloc_digs _ _ rfl _ (w.heap.size + 1 + 1) (by simp)) ?_) | (refine wpList_val rfl _ _ (build_digs _ _ rfl _) ?_) | (refine wpList_store_row rfl 68 _ _ rfl (w.heap.size + 1 + 1) (digs fun _ => 0) rfl rfl 68 (digs fun _ => 0) (by simp only [grow_heap, alloc_heap_at, alloc_heap_past, setRow_alloc_at, setRow_alloc_past, grow_setRow, size_setRow, World.size_alloc, grow_lt, grow_lt1, grow_lt2, grow_lt3, grow_lt4, grow_lt5, grow_lt6, grow_self1, grow_self2, grow_self3, or_true, ltd2, ltd3, ltd4, ltd5, ltd6, ltd7, Nat.lt_add_one, true_or, if_true, ite_true]) (by rw [digs_size]; exact info28) (by simp only [digs_size]) (digs_one _) ?_) | (refine wpList_part rfl _ rfl (w.heap.size) rfl (false) (dg x.natAbs) (by simp only [grow_heap, alloc_heap_at, alloc_heap_past, setRow_alloc_at, setRow_alloc_past, grow_setRow, size_setRow, World.size_alloc, grow_lt, grow_lt1, grow_lt2, grow_lt3, grow_lt4, grow_lt5, grow_lt6, grow_self1, grow_self2, grow_self3, or_true, ltd2, ltd3, ltd4, ltd5, ltd6, ltd7, Nat.lt_add_one, true_or, if_true, ite_true]) ?_) | (refine wpList_load_row rfl 68 _ rfl (w.heap.size + 1 + 1) rfl 68 (digs fun j => if j = 7 then 32768 else 0) (0, 0) _ (by simp only [grow_heap, alloc_heap_at, alloc_heap_past, setRow_alloc_at, setRow_alloc_past, grow_setRow, size_setRow, World.size_alloc, grow_lt, grow_lt1, grow_lt2, grow_lt3, grow_lt4, grow_lt5, grow_lt6, grow_self1, grow_self2, grow_self3, or_true, ltd2, ltd3, ltd4, ltd5, ltd6, ltd7, Nat.lt_add_one, true_or, if_true, ite_true]) Try.underlying68 rfl (by rw [digs_size]; exact info28) ?_) | (go_at_call 64; first | ((with_reducible refine (k.at_ _).mono ?_); rintro e w' ⟨rfl, xg, rfl⟩)) | (go_at_call 65; first | ((with_reducible refine (v0.at_ _).mono ?_); rintro e w' ⟨rfl, xg, rfl⟩) | ((with_reducible refine (v4.at_ _).mono ?_); rintro e w' ⟨rfl, xg, rfl⟩)))
  rw [fin.out.1, fin.out.2]
  refine bodyPost_ret (v := .tuple #[.agg #[.int .i64 (wrap64 (g : Int)), .int .u64 (l : Int)], .bool true]) (by simp [results, Try.results44, go_sem]) rfl ⟨rfl, (by repeat (first | exact Below.refl _ _ | refine bel_then ?_ _ | refine bel_grow ?_ _ | refine bel_alloc ?_ _ | refine bel_drew ?_ | refine bel_set ?_ (by simp) _ | refine bel_setRow ?_ (by first | omega | simp) _))⟩

theorem u64_max_xor (x : Int) (h0 : 0 ≤ x) (h1 : x ≤ 18446744073709551615) : bits .xor .u64 IntKind.u64.max x = 18446744073709551615 - x := by
  have h : BitVec.ofInt 64 18446744073709551615 = BitVec.allOnes 64 := by decide
  have hm : IntKind.u64.max = 18446744073709551615 := by decide
  rw [hm]
  show IntKind.u64.wrap ((BitVec.ofInt 64 18446744073709551615 ^^^ BitVec.ofInt 64 x).toNat : Int) = _
  rw [h, BitVec.allOnes_xor, BitVec.toNat_not, BitVec.toNat_ofInt, IntKind.wrap_u64]
  omega

set_option maxHeartbeats 1000000 in
theorem to_neg_low (x : Int) (h : x < 0 ∧ -170141183460469231731687303715884105728 ≤ x) (hz : x.natAbs % 18446744073709551616 ≠ 0) : Gives Try.prog 44 #[.agg (numc true (dg x.natAbs))] (.tuple #[.agg #[.int .i64 (hiOf x), .int .u64 (loOf x)], .bool true]) := by
  refine Gives.mk fun w => ?_
  have bx : Big x.natAbs := Nat.lt_of_le_of_lt (show x.natAbs ≤ 170141183460469231731687303715884105728 by omega) (by decide)
  have k := cmp_most x.natAbs bx
  obtain ⟨c, hc, h1⟩ : ∃ c, cmpOf ((x.natAbs : Nat) : Int) 170141183460469231731687303715884105728 = c ∧ c ≤ 0 := ⟨_, rfl, by unfold cmpOf; split <;> (try split) <;> omega⟩
  rw [hc] at k
  have v0 := value_any x.natAbs 0 (by omega)
  have v4 := value_any x.natAbs 4 (by omega)
  rw [(val_parts x.natAbs).1] at v0
  rw [(val_parts x.natAbs).2] at v4
  have fin : hiOf x = wrap64 (18446744073709551615 - ((x.natAbs / 18446744073709551616 % 18446744073709551616 : Nat) : Int)) ∧ loOf x = 18446744073709551615 - ((x.natAbs % 18446744073709551616 : Nat) : Int) + 1 := by unfold hiOf loOf wrap64; (try split) <;> omega
  obtain ⟨l, hl⟩ : ∃ l, x.natAbs % 18446744073709551616 = l := ⟨_, rfl⟩
  obtain ⟨g, hg⟩ : ∃ g, x.natAbs / 18446744073709551616 % 18446744073709551616 = g := ⟨_, rfl⟩
  have l1 : l ≤ 18446744073709551615 := by omega
  have g1 : g ≤ 18446744073709551615 := by omega
  rw [hl] at v0 fin
  rw [hg] at v4 fin
  replace fin := Lib.hid fin
  rw [show ((0 : Nat) : Int) = 0 from rfl] at v0
  rw [show ((4 : Nat) : Int) = 4 from rfl] at v4
  have hs : IntKind.u64.signed = false := rfl
  have xl := u64_max_xor l (by omega) (by omega)
  have xg := u64_max_xor g (by omega) (by omega)
  have l0 : 1 ≤ l := by omega
  have lw : IntKind.u64.wrap (18446744073709551615 - (l : Int) + 1) = 18446744073709551615 - (l : Int) + 1 := by rw [IntKind.wrap_u64]; omega
  have lb : ((18446744073709551615 - (l : Int) + 1) == 0) = false := by simp; omega
  clear hc h bx hl hg hz
  go_enter Try.func44, Try.ntmps44
  go_wp2_with (first | (refine wpList_val rfl _ _ (alloc_digs _ _ rfl _ (w.heap.size + 1 + 1) (by simp)) ?_) | (refine wpList_val rfl _ _ (build_digs _ _ rfl _) ?_) | (refine wpList_store_row rfl 68 _ _ rfl (w.heap.size + 1 + 1) (digs fun _ => 0) rfl rfl 68 (digs fun _ => 0) (by simp only [grow_heap, alloc_heap_at, alloc_heap_past, setRow_alloc_at, setRow_alloc_past, grow_setRow, size_setRow, World.size_alloc, grow_lt, grow_lt1, grow_lt2, grow_lt3, grow_lt4, grow_lt5, grow_lt6, grow_self1, grow_self2, grow_self3, or_true, ltd2, ltd3, ltd4, ltd5, ltd6, ltd7, Nat.lt_add_one, true_or, if_true, ite_true]) (by rw [digs_size]; exact info28) (by simp only [digs_size]) (digs_one _) ?_) | (refine wpList_part rfl _ rfl (w.heap.size) rfl (true) (dg x.natAbs) (by simp only [grow_heap, alloc_heap_at, alloc_heap_past, setRow_alloc_at, setRow_alloc_past, grow_setRow, size_setRow, World.size_alloc, grow_lt, grow_lt1, grow_lt2, grow_lt3, grow_lt4, grow_lt5, grow_lt6, grow_self1, grow_self2, grow_self3, or_true, ltd2, ltd3, ltd4, ltd5, ltd6, ltd7, Nat.lt_add_one, true_or, if_true, ite_true]) ?_) | (refine wpList_load_row rfl 68 _ rfl (w.heap.size + 1 + 1) rfl 68 (digs fun j => if j = 7 then 32768 else 0) (0, 0) _ (by simp only [grow_heap, alloc_heap_at, alloc_heap_past, setRow_alloc_at, setRow_alloc_past, grow_setRow, size_setRow, World.size_alloc, grow_lt, grow_lt1, grow_lt2, grow_lt3, grow_lt4, grow_lt5, grow_lt6, grow_self1, grow_self2, grow_self3, or_true, ltd2, ltd3, ltd4, ltd5, ltd6, ltd7, Nat.lt_add_one, true_or, if_true, ite_true]) Try.underlying68 rfl (by rw [digs_size]; exact info28) ?_) | (go_at_call 64; first | ((with_reducible refine (k.at_ _).mono ?_); rintro e w' ⟨rfl, xg, rfl⟩)) | (go_at_call 65; first | ((with_reducible refine (v0.at_ _).mono ?_); rintro e w' ⟨rfl, xg, rfl⟩) | ((with_reducible refine (v4.at_ _).mono ?_); rintro e w' ⟨rfl, xg, rfl⟩)))
  all_goals
    rw [fin.out.1, fin.out.2]
    refine bodyPost_ret (v := .tuple #[.agg #[.int .i64 (wrap64 (18446744073709551615 - (g : Int))), .int .u64 (18446744073709551615 - (l : Int) + 1)], .bool true]) (by simp [results, Try.results44, go_sem]) rfl ⟨rfl, (by repeat (first | exact Below.refl _ _ | refine bel_then ?_ _ | refine bel_grow ?_ _ | refine bel_alloc ?_ _ | refine bel_drew ?_ | refine bel_set ?_ (by simp) _ | refine bel_setRow ?_ (by first | omega | simp) _))⟩

set_option maxHeartbeats 1000000 in
theorem to_neg_zero (x : Int) (h : x < 0 ∧ -170141183460469231731687303715884105728 ≤ x) (hz : x.natAbs % 18446744073709551616 = 0) : Gives Try.prog 44 #[.agg (numc true (dg x.natAbs))] (.tuple #[.agg #[.int .i64 (hiOf x), .int .u64 (loOf x)], .bool true]) := by
  refine Gives.mk fun w => ?_
  have bx : Big x.natAbs := Nat.lt_of_le_of_lt (show x.natAbs ≤ 170141183460469231731687303715884105728 by omega) (by decide)
  have k := cmp_most x.natAbs bx
  obtain ⟨c, hc, h1⟩ : ∃ c, cmpOf ((x.natAbs : Nat) : Int) 170141183460469231731687303715884105728 = c ∧ c ≤ 0 := ⟨_, rfl, by unfold cmpOf; split <;> (try split) <;> omega⟩
  rw [hc] at k
  have v0 := value_any x.natAbs 0 (by omega)
  have v4 := value_any x.natAbs 4 (by omega)
  rw [(val_parts x.natAbs).1] at v0
  rw [(val_parts x.natAbs).2] at v4
  have fin : hiOf x = wrap64 (18446744073709551615 - ((x.natAbs / 18446744073709551616 % 18446744073709551616 : Nat) : Int) + 1) ∧ loOf x = ((x.natAbs % 18446744073709551616 : Nat) : Int) := by unfold hiOf loOf wrap64; (try split) <;> omega
  obtain ⟨l, hl⟩ : ∃ l, x.natAbs % 18446744073709551616 = l := ⟨_, rfl⟩
  obtain ⟨g, hg⟩ : ∃ g, x.natAbs / 18446744073709551616 % 18446744073709551616 = g := ⟨_, rfl⟩
  have l1 : l ≤ 18446744073709551615 := by omega
  have g1 : g ≤ 18446744073709551615 := by omega
  rw [hl] at v0 fin
  rw [hg] at v4 fin
  replace fin := Lib.hid fin
  rw [show ((0 : Nat) : Int) = 0 from rfl] at v0
  rw [show ((4 : Nat) : Int) = 4 from rfl] at v4
  have hs : IntKind.u64.signed = false := rfl
  have lw2 : IntKind.u64.wrap 18446744073709551616 = 0 := by rw [IntKind.wrap_u64]; rfl
  have xl := u64_max_xor 0 (by omega) (by omega)
  have xg := u64_max_xor g (by omega) (by omega)
  have g0 : 1 ≤ g := by omega
  have gw : IntKind.u64.wrap (18446744073709551615 - (g : Int) + 1) = 18446744073709551615 - (g : Int) + 1 := by rw [IntKind.wrap_u64]; omega
  obtain rfl : l = 0 := by omega
  rw [show ((0 : Nat) : Int) = 0 from rfl] at v0 fin
  rw [show (18446744073709551615 : Int) - 0 = 18446744073709551615 from rfl] at xl
  have lw : IntKind.u64.wrap (18446744073709551615 + 1) = 0 := by rw [IntKind.wrap_u64]; rfl
  clear hc h bx hl hg hz
  go_enter Try.func44, Try.ntmps44
  go_wp2_with (first | (refine wpList_val rfl _ _ (alloc_digs _ _ rfl _ (w.heap.size + 1 + 1) (by simp)) ?_) | (refine wpList_val rfl _ _ (build_digs _ _ rfl _) ?_) | (refine wpList_store_row rfl 68 _ _ rfl (w.heap.size + 1 + 1) (digs fun _ => 0) rfl rfl 68 (digs fun _ => 0) (by simp only [grow_heap, alloc_heap_at, alloc_heap_past, setRow_alloc_at, setRow_alloc_past, grow_setRow, size_setRow, World.size_alloc, grow_lt, grow_lt1, grow_lt2, grow_lt3, grow_lt4, grow_lt5, grow_lt6, grow_self1, grow_self2, grow_self3, or_true, ltd2, ltd3, ltd4, ltd5, ltd6, ltd7, Nat.lt_add_one, true_or, if_true, ite_true]) (by rw [digs_size]; exact info28) (by simp only [digs_size]) (digs_one _) ?_) | (refine wpList_part rfl _ rfl (w.heap.size) rfl (true) (dg x.natAbs) (by simp only [grow_heap, alloc_heap_at, alloc_heap_past, setRow_alloc_at, setRow_alloc_past, grow_setRow, size_setRow, World.size_alloc, grow_lt, grow_lt1, grow_lt2, grow_lt3, grow_lt4, grow_lt5, grow_lt6, grow_self1, grow_self2, grow_self3, or_true, ltd2, ltd3, ltd4, ltd5, ltd6, ltd7, Nat.lt_add_one, true_or, if_true, ite_true]) ?_) | (refine wpList_load_row rfl 68 _ rfl (w.heap.size + 1 + 1) rfl 68 (digs fun j => if j = 7 then 32768 else 0) (0, 0) _ (by simp only [grow_heap, alloc_heap_at, alloc_heap_past, setRow_alloc_at, setRow_alloc_past, grow_setRow, size_setRow, World.size_alloc, grow_lt, grow_lt1, grow_lt2, grow_lt3, grow_lt4, grow_lt5, grow_lt6, grow_self1, grow_self2, grow_self3, or_true, ltd2, ltd3, ltd4, ltd5, ltd6, ltd7, Nat.lt_add_one, true_or, if_true, ite_true]) Try.underlying68 rfl (by rw [digs_size]; exact info28) ?_) | (go_at_call 64; first | ((with_reducible refine (k.at_ _).mono ?_); rintro e w' ⟨rfl, xg, rfl⟩)) | (go_at_call 65; first | ((with_reducible refine (v0.at_ _).mono ?_); rintro e w' ⟨rfl, xg, rfl⟩) | ((with_reducible refine (v4.at_ _).mono ?_); rintro e w' ⟨rfl, xg, rfl⟩)))
  all_goals
    rw [fin.out.1, fin.out.2]
    refine bodyPost_ret (v := .tuple #[.agg #[.int .i64 (wrap64 (18446744073709551615 - (g : Int) + 1)), .int .u64 0], .bool true]) (by simp [results, Try.results44, go_sem]) rfl ⟨rfl, (by repeat (first | exact Below.refl _ _ | refine bel_then ?_ _ | refine bel_grow ?_ _ | refine bel_alloc ?_ _ | refine bel_drew ?_ | refine bel_set ?_ (by simp) _ | refine bel_setRow ?_ (by first | omega | simp) _))⟩

end Go.Proofs.Ytgfgaaecpdbgeaa
