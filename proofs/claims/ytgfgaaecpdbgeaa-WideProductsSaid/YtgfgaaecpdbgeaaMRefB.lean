/- The document's own numbers, as digits: contracts of its calls, part 8: from wide numbers. -/
import Derived.Test.YtgfgaaecpdbgeaaMRefA
import Derived.Test.YtgfgaaecpdbgeaaMRegion
namespace Go.Proofs.Ytgfgaaecpdbgeaa
open Go.RowKit
set_option linter.unusedVariables false
set_option linter.unusedSimpArgs false
def mixD (l h k : Nat) : Nat → Int := fun j => if j < 4 then dg l j else if j < 4 + k then dg h (j - 4) else 0
theorem mixD_0 (l h : Nat) (hl : l ≤ 18446744073709551615) (s : Bool) : numc s (dg l) = numc s (mixD l h 0) := numc_congr fun j hj => by
  unfold mixD
  split
  · rfl
  · rw [dg_dN, dN_zero l j (Nat.lt_of_lt_of_le (show l < 65536 ^ 4 by omega) (Nat.pow_le_pow_right (by omega) (by omega)))]; rfl
theorem mixD_4 (l h : Nat) (hl : l ≤ 18446744073709551615) (hh : h ≤ 18446744073709551615) (s : Bool) : numc s (mixD l h 4) = numc s (dg (h * 18446744073709551616 + l)) := numc_congr fun j hj => by
  unfold mixD
  rw [dg_dN (h * 18446744073709551616 + l), split_dN h l (by omega)]
  split
  · rfl
  · split
    · rfl
    · rw [dN_zero h (j - 4) (Nat.lt_of_lt_of_le (show h < 65536 ^ 4 by omega) (Nat.pow_le_pow_right (by omega) (by omega)))]; rfl
theorem mixD_s (l h k : Nat) (hk : k < 4) : (fun j => if j = 4 + k then dg h k else mixD l h k j) = mixD l h (k + 1) := by
  funext j
  unfold mixD
  by_cases e : j = 4 + k
  · rw [if_pos e, if_neg (by omega), if_pos (by omega)]; congr 1; omega
  · rw [if_neg e]
    split
    · rfl
    · by_cases e2 : j < 4 + k
      · rw [if_pos e2, if_pos (by omega)]
      · rw [if_neg e2, if_neg (by omega)]

set_option maxRecDepth 100000 in
set_option maxHeartbeats 2000000 in
theorem from_pos (a : Int) (h l : Nat) (h1 : h ≤ 18446744073709551615) (l1 : l ≤ 18446744073709551615) (e1 : IntKind.u64.wrap a = h) (hd : decide (a < 0) = false) (hd0 : -9223372036854775808 ≤ a) :
    Gives Try.prog 40 #[.agg #[.int .i64 a, .int .u64 (l : Int)]] (.agg (numc false (dg (h * 18446744073709551616 + l)))) := by
  refine Gives.mk fun w => ?_
  have dl := digits_any l (by omega)
  have dh := digits_any h (by omega)
  have m0 := Lib.hid (mixD_0 l h l1 false)
  have m4 := Lib.hid (mixD_4 l h l1 h1 false)
  go_enter Try.func40, Try.ntmps40
  go_wp2_with (first | (refine wpList_val rfl _ _ (alloc_num _ _ rfl _ (w.heap.size + 1) (by simp)) ?_))
  refine wp_region_make 6 ?_ 5 (.cells (numc false fun _ => 0) 70) (by kernel_rfl) (by kernel_rfl) (by kernel_rfl) (fun d hd => by cases hd; exact ⟨_, rfl, rfl, rfl, fun A u => alloc_num A _ rfl u _ rfl⟩) (fun x => ?_) (fun x y => ?_)
  rotate_left
  · simp only [List.take_succ_cons, List.take_zero]
    repeat (first | (refine quiet_by rfl (.agg (numc false (dg l))) (fun u hu => build_num2 _ _ _ _ rfl _ false _ rfl rfl) ?_; simp only [Act.put, List.setIfInBounds_toArray, List.set_cons_succ, List.set_cons_zero]) | go_big_quiet_step ((first | with_reducible exact dl.quiet _ | with_reducible exact dl.quiet2 _ _)))
    refine wpQuiet_nil ?_
    exact rfl
  · simp only [List.drop_succ_cons, List.drop_zero]
    simp only [Act.put, List.setIfInBounds_toArray, List.set_cons_succ, List.set_cons_zero]
    go_wp2_with (first | (refine wpList_store_row rfl 70 _ _ rfl ((grow ((w.alloc (.cells #[.int .i64 a, .int .u64 (l : Int)] 24)).alloc (.cells (numc false fun _ => 0) 70)) x).heap.size) (numc false (dg l)) rfl rfl 70 (numc false fun _ => 0) (by simp only [grow_heap, alloc_heap_at, alloc_heap_past, setRow_alloc_at, setRow_alloc_past, grow_setRow, size_setRow, World.size_alloc, grow_lt, grow_lt1, grow_lt2, grow_lt3, grow_lt4, grow_lt5, grow_lt6, grow_self1, grow_self2, grow_self3, or_true, ltd2, ltd3, ltd4, ltd5, ltd6, ltd7, Nat.lt_add_one, true_or, if_true, ite_true]) (by rw [numc_size]; exact info30) (by simp only [numc_size]) (numc_one _ _) ?_) | (refine wpList_val rfl _ _ (alloc_digs _ _ rfl _ ((grow ((grow ((w.alloc (.cells #[.int .i64 a, .int .u64 (l : Int)] 24)).alloc (.cells (numc false fun _ => 0) 70)) x).alloc (.cells (numc false (dg l)) 70)) ((y.setR ((grow ((w.alloc (.cells #[.int .i64 a, .int .u64 (l : Int)] 24)).alloc (.cells (numc false fun _ => 0) 70)) x).alloc (.cells (numc false fun _ => 0) 70)) (grow ((w.alloc (.cells #[.int .i64 a, .int .u64 (l : Int)] 24)).alloc (.cells (numc false fun _ => 0) 70)) x).heap.size (numc false (dg l))).then xh)).heap.size) (by simp)) ?_) | (refine wpList_store_row rfl 68 _ _ rfl ((grow ((grow ((w.alloc (.cells #[.int .i64 a, .int .u64 (l : Int)] 24)).alloc (.cells (numc false fun _ => 0) 70)) x).alloc (.cells (numc false (dg l)) 70)) ((y.setR ((grow ((w.alloc (.cells #[.int .i64 a, .int .u64 (l : Int)] 24)).alloc (.cells (numc false fun _ => 0) 70)) x).alloc (.cells (numc false fun _ => 0) 70)) (grow ((w.alloc (.cells #[.int .i64 a, .int .u64 (l : Int)] 24)).alloc (.cells (numc false fun _ => 0) 70)) x).heap.size (numc false (dg l))).then xh)).heap.size) (digs (dg h)) rfl rfl 68 (digs fun _ => 0) (by simp only [grow_heap, alloc_heap_at, alloc_heap_past, setRow_alloc_at, setRow_alloc_past, grow_setRow, size_setRow, World.size_alloc, grow_lt, grow_lt1, grow_lt2, grow_lt3, grow_lt4, grow_lt5, grow_lt6, grow_self1, grow_self2, grow_self3, or_true, ltd2, ltd3, ltd4, ltd5, ltd6, ltd7, Nat.lt_add_one, true_or, if_true, ite_true]) (by rw [digs_size]; exact info28) (by simp only [digs_size]) (digs_one _) ?_) | (go_at_call 63; ((with_reducible refine (dh.at_ _).mono ?_); rintro e w' ⟨rfl, xh, rfl⟩)))
    have bW : Below w.heap.size w ((w.alloc (.cells #[.int .i64 a, .int .u64 (l : Int)] 24)).alloc (.cells (numc false fun _ => 0) 70)) := bel_alloc (bel_alloc (Below.refl _ _) _) _
    have b2 : Blk ((w.alloc (.cells #[.int .i64 a, .int .u64 (l : Int)] 24)).alloc (.cells (numc false fun _ => 0) 70)) (w.heap.size + 1) 70 (numc false fun _ => 0) := Blk.new _ _ _ _ (by simp)
    have b5 : Blk ((grow ((w.alloc (.cells #[.int .i64 a, .int .u64 (l : Int)] 24)).alloc (.cells (numc false fun _ => 0) 70)) x).alloc (.cells (numc false (dg l)) 70)) (grow ((w.alloc (.cells #[.int .i64 a, .int .u64 (l : Int)] 24)).alloc (.cells (numc false fun _ => 0) 70)) x).heap.size 70 (numc false (mixD l h 0)) := by rw [← m0.out]; exact Blk.new _ _ _ _ rfl
    have b6 : Blk ((grow ((grow ((w.alloc (.cells #[.int .i64 a, .int .u64 (l : Int)] 24)).alloc (.cells (numc false fun _ => 0) 70)) x).alloc (.cells (numc false (dg l)) 70)) ((y.setR ((grow ((w.alloc (.cells #[.int .i64 a, .int .u64 (l : Int)] 24)).alloc (.cells (numc false fun _ => 0) 70)) x).alloc (.cells (numc false fun _ => 0) 70)) (grow ((w.alloc (.cells #[.int .i64 a, .int .u64 (l : Int)] 24)).alloc (.cells (numc false fun _ => 0) 70)) x).heap.size (numc false (dg l))).then xh)).alloc (.cells (digs (dg h)) 68)) (grow ((grow ((w.alloc (.cells #[.int .i64 a, .int .u64 (l : Int)] 24)).alloc (.cells (numc false fun _ => 0) 70)) x).alloc (.cells (numc false (dg l)) 70)) ((y.setR ((grow ((w.alloc (.cells #[.int .i64 a, .int .u64 (l : Int)] 24)).alloc (.cells (numc false fun _ => 0) 70)) x).alloc (.cells (numc false fun _ => 0) 70)) (grow ((w.alloc (.cells #[.int .i64 a, .int .u64 (l : Int)] 24)).alloc (.cells (numc false fun _ => 0) 70)) x).heap.size (numc false (dg l))).then xh)).heap.size 68 (digs (dg h)) := Blk.new _ _ _ _ rfl
    have n52 : (grow ((w.alloc (.cells #[.int .i64 a, .int .u64 (l : Int)] 24)).alloc (.cells (numc false fun _ => 0) 70)) x).heap.size ≠ w.heap.size + 1 := by have := b2.lt; have t := top_le ((w.alloc (.cells #[.int .i64 a, .int .u64 (l : Int)] 24)).alloc (.cells (numc false fun _ => 0) 70)) x; exact fun e => by rw [← e] at this; exact absurd t (Nat.not_le.2 this)
    obtain ⟨g6, hg6⟩ : ∃ g, (grow ((grow ((w.alloc (.cells #[.int .i64 a, .int .u64 (l : Int)] 24)).alloc (.cells (numc false fun _ => 0) 70)) x).alloc (.cells (numc false (dg l)) 70)) ((y.setR ((grow ((w.alloc (.cells #[.int .i64 a, .int .u64 (l : Int)] 24)).alloc (.cells (numc false fun _ => 0) 70)) x).alloc (.cells (numc false fun _ => 0) 70)) (grow ((w.alloc (.cells #[.int .i64 a, .int .u64 (l : Int)] 24)).alloc (.cells (numc false fun _ => 0) 70)) x).heap.size (numc false (dg l))).then xh)).heap.size = g := ⟨_, rfl⟩
    obtain ⟨g5, hg5⟩ : ∃ g, (grow ((w.alloc (.cells #[.int .i64 a, .int .u64 (l : Int)] 24)).alloc (.cells (numc false fun _ => 0) 70)) x).heap.size = g := ⟨_, rfl⟩
    rw [hg6] at b6
    have q2 := ((((b2.grow x).alloc (.cells (numc false (dg l)) 70)).grow ((y.setR ((grow ((w.alloc (.cells #[.int .i64 a, .int .u64 (l : Int)] 24)).alloc (.cells (numc false fun _ => 0) 70)) x).alloc (.cells (numc false fun _ => 0) 70)) (grow ((w.alloc (.cells #[.int .i64 a, .int .u64 (l : Int)] 24)).alloc (.cells (numc false fun _ => 0) 70)) x).heap.size (numc false (dg l))).then xh)).alloc (.cells (digs (dg h)) 68))
    have q5 := (b5.grow ((y.setR ((grow ((w.alloc (.cells #[.int .i64 a, .int .u64 (l : Int)] 24)).alloc (.cells (numc false fun _ => 0) 70)) x).alloc (.cells (numc false fun _ => 0) 70)) (grow ((w.alloc (.cells #[.int .i64 a, .int .u64 (l : Int)] 24)).alloc (.cells (numc false fun _ => 0) 70)) x).heap.size (numc false (dg l))).then xh)).alloc (.cells (digs (dg h)) 68)
    have bel := bel_alloc (bel_grow (bel_alloc (bel_grow bW x) (.cells (numc false (dg l)) 70)) ((y.setR ((grow ((w.alloc (.cells #[.int .i64 a, .int .u64 (l : Int)] 24)).alloc (.cells (numc false fun _ => 0) 70)) x).alloc (.cells (numc false fun _ => 0) 70)) (grow ((w.alloc (.cells #[.int .i64 a, .int .u64 (l : Int)] 24)).alloc (.cells (numc false fun _ => 0) 70)) x).heap.size (numc false (dg l))).then xh)) (.cells (digs (dg h)) 68)
    have n5w : w.heap.size ≤ (grow ((w.alloc (.cells #[.int .i64 a, .int .u64 (l : Int)] 24)).alloc (.cells (numc false fun _ => 0) 70)) x).heap.size := by have t := top_le ((w.alloc (.cells #[.int .i64 a, .int .u64 (l : Int)] 24)).alloc (.cells (numc false fun _ => 0) 70)) x; simp only [World.size_alloc] at t; exact Nat.le_trans (by omega) t
    have n56 : g6 ≠ (grow ((w.alloc (.cells #[.int .i64 a, .int .u64 (l : Int)] 24)).alloc (.cells (numc false fun _ => 0) 70)) x).heap.size := (q5.ne_ b6 (by decide)).symm
    rw [hg6]
    rw [hg5] at b5 n52 q2 q5 bel b6 n56 n5w ⊢
    clear hg5 hg6 b2 b5 bW
    go_loopw [7] (fun i wr => ∃ k : Nat, i = .int .i64 k ∧ k ≤ 4 ∧ Below w.heap.size w wr ∧ Blk wr (w.heap.size + 1) 70 (numc false fun _ => 0) ∧ Blk wr g5 70 (numc false (mixD l h k)) ∧ Blk wr g6 68 (digs (dg h))) (fun i _ => (4 - intOf i).toNat)
    case atStart => exact ⟨0, rfl, by omega, bel, q2, q5, b6⟩
    case round =>
      obtain ⟨k, rfl, hk, be, p2, p5, p6⟩ := hrel
      clear q2 q5 b6 bel
      by_cases hlt : k < 4
      · have c5 : wr.cell? ⟨g5, 1 + (4 + k), none⟩ = some (.int .i64 (mixD l h k (4 + k))) := by rw [p5.cell, Nat.add_comm 1, numc_get, if_pos (by omega)]
        have f5 := p5.frozen (1 + (4 + k))
        have c6 : wr.cell? ⟨g6, k, none⟩ = some (.int .i64 (dg h k)) := by rw [p6.cell, digs_get, if_pos (by omega)]
        have i0 : (0 : Int) ≤ (k : Int) := by omega
        have i1 : (k : Int) < 4 := by omega
        have next := p5.set (1 + (4 + k)) (.int .i64 (dg h k))
        rw [Nat.add_comm 1, numc_set, mixD_s l h k hlt, Nat.add_comm _ 1] at next
        have p2' := p2.far (1 + (4 + k)) (.int .i64 (dg h k)) n52
        have p6' := p6.far (1 + (4 + k)) (.int .i64 (dg h k)) (Ne.symm n56)
        have be' := bel_set be (p := ⟨g5, 1 + (4 + k), none⟩) n5w (.int .i64 (dg h k))
        clear p2 p5 p6 be
        go_wp2_with fail
        go_roundw
        case rel => exact ⟨k + 1, by go_num, by omega, be', p2', next, p6'⟩
        case measure => simp [intOf] <;> omega
      · obtain rfl : k = 4 := by omega
        rw [m4.out] at p5
        clear m0 m4
        go_wp2_with (first | (refine wpList_load_row rfl 70 _ rfl g5 rfl 70 (numc false (dg (h * 18446744073709551616 + l))) (0, 0) _ p5 Try.underlying70 rfl (by rw [numc_size]; exact info30) ?_) | (refine wpList_store_row rfl 70 _ _ rfl (w.heap.size + 1) (numc false (dg (h * 18446744073709551616 + l))) rfl rfl 70 (numc false fun _ => 0) p2 (by rw [numc_size]; exact info30) (by simp only [numc_size]) (numc_one _ _) ?_))
        refine bodyPost_ret (results_cell_row rfl _ _ (w.heap.size + 1) 70 (numc false (dg (h * 18446744073709551616 + l))) (0, 0) _ rfl (p2.setRow _) Try.underlying70 rfl (by rw [numc_size]; exact info30)) rfl ⟨rfl, bel_setRow be (by omega) _⟩

set_option maxRecDepth 100000 in
set_option maxHeartbeats 2000000 in
theorem from_neg_low (a : Int) (c : Int) (h l : Nat) (h1 : h ≤ 18446744073709551615) (l1 : l ≤ 18446744073709551615) (u : Int) (e1 : IntKind.u64.wrap a = u) (xr : bits .xor .u64 IntKind.u64.max u = h) (xc : bits .xor .u64 IntKind.u64.max c = 18446744073709551615 - c) (lw : IntKind.u64.wrap (18446744073709551615 - c + 1) = l) (lb : ((l : Int) == 0) = false) (hd : decide (a < 0) = true) (hs : IntKind.u64.signed = false) :
    Gives Try.prog 40 #[.agg #[.int .i64 a, .int .u64 c]] (.agg (numc true (dg (h * 18446744073709551616 + l)))) := by
  refine Gives.mk fun w => ?_
  have dl := digits_any l (by omega)
  have dh := digits_any h (by omega)
  have m0 := Lib.hid (mixD_0 l h l1 true)
  have m4 := Lib.hid (mixD_4 l h l1 h1 true)
  go_enter Try.func40, Try.ntmps40
  go_wp2_with (first | (refine wpList_val rfl _ _ (alloc_num _ _ rfl _ (w.heap.size + 1) (by simp)) ?_))
  refine wp_region_make 6 ?_ 5 (.cells (numc false fun _ => 0) 70) (by kernel_rfl) (by kernel_rfl) (by kernel_rfl) (fun d hd => by cases hd; exact ⟨_, rfl, rfl, rfl, fun A u => alloc_num A _ rfl u _ rfl⟩) (fun x => ?_) (fun x y => ?_)
  rotate_left
  · simp only [List.take_succ_cons, List.take_zero]
    repeat (first | (refine quiet_by rfl (.agg (numc true (dg l))) (fun u hu => build_num2 _ _ _ _ rfl _ true _ rfl rfl) ?_; simp only [Act.put, List.setIfInBounds_toArray, List.set_cons_succ, List.set_cons_zero]) | go_big_quiet_step ((first | with_reducible exact dl.quiet _ | with_reducible exact dl.quiet2 _ _)))
    refine wpQuiet_nil ?_
    exact rfl
  · simp only [List.drop_succ_cons, List.drop_zero]
    simp only [Act.put, List.setIfInBounds_toArray, List.set_cons_succ, List.set_cons_zero]
    go_wp2_with (first | (refine wpList_store_row rfl 70 _ _ rfl ((grow ((w.alloc (.cells #[.int .i64 a, .int .u64 c] 24)).alloc (.cells (numc false fun _ => 0) 70)) x).heap.size) (numc true (dg l)) rfl rfl 70 (numc false fun _ => 0) (by simp only [grow_heap, alloc_heap_at, alloc_heap_past, setRow_alloc_at, setRow_alloc_past, grow_setRow, size_setRow, World.size_alloc, grow_lt, grow_lt1, grow_lt2, grow_lt3, grow_lt4, grow_lt5, grow_lt6, grow_self1, grow_self2, grow_self3, or_true, ltd2, ltd3, ltd4, ltd5, ltd6, ltd7, Nat.lt_add_one, true_or, if_true, ite_true]) (by rw [numc_size]; exact info30) (by simp only [numc_size]) (numc_one _ _) ?_) | (refine wpList_val rfl _ _ (alloc_digs _ _ rfl _ ((grow ((grow ((w.alloc (.cells #[.int .i64 a, .int .u64 c] 24)).alloc (.cells (numc false fun _ => 0) 70)) x).alloc (.cells (numc true (dg l)) 70)) ((y.setR ((grow ((w.alloc (.cells #[.int .i64 a, .int .u64 c] 24)).alloc (.cells (numc false fun _ => 0) 70)) x).alloc (.cells (numc false fun _ => 0) 70)) (grow ((w.alloc (.cells #[.int .i64 a, .int .u64 c] 24)).alloc (.cells (numc false fun _ => 0) 70)) x).heap.size (numc true (dg l))).then xh)).heap.size) (by simp)) ?_) | (refine wpList_store_row rfl 68 _ _ rfl ((grow ((grow ((w.alloc (.cells #[.int .i64 a, .int .u64 c] 24)).alloc (.cells (numc false fun _ => 0) 70)) x).alloc (.cells (numc true (dg l)) 70)) ((y.setR ((grow ((w.alloc (.cells #[.int .i64 a, .int .u64 c] 24)).alloc (.cells (numc false fun _ => 0) 70)) x).alloc (.cells (numc false fun _ => 0) 70)) (grow ((w.alloc (.cells #[.int .i64 a, .int .u64 c] 24)).alloc (.cells (numc false fun _ => 0) 70)) x).heap.size (numc true (dg l))).then xh)).heap.size) (digs (dg h)) rfl rfl 68 (digs fun _ => 0) (by simp only [grow_heap, alloc_heap_at, alloc_heap_past, setRow_alloc_at, setRow_alloc_past, grow_setRow, size_setRow, World.size_alloc, grow_lt, grow_lt1, grow_lt2, grow_lt3, grow_lt4, grow_lt5, grow_lt6, grow_self1, grow_self2, grow_self3, or_true, ltd2, ltd3, ltd4, ltd5, ltd6, ltd7, Nat.lt_add_one, true_or, if_true, ite_true]) (by rw [digs_size]; exact info28) (by simp only [digs_size]) (digs_one _) ?_) | (go_at_call 63; ((with_reducible refine (dh.at_ _).mono ?_); rintro e w' ⟨rfl, xh, rfl⟩)))
    have bW : Below w.heap.size w ((w.alloc (.cells #[.int .i64 a, .int .u64 c] 24)).alloc (.cells (numc false fun _ => 0) 70)) := bel_alloc (bel_alloc (Below.refl _ _) _) _
    have b2 : Blk ((w.alloc (.cells #[.int .i64 a, .int .u64 c] 24)).alloc (.cells (numc false fun _ => 0) 70)) (w.heap.size + 1) 70 (numc false fun _ => 0) := Blk.new _ _ _ _ (by simp)
    have b5 : Blk ((grow ((w.alloc (.cells #[.int .i64 a, .int .u64 c] 24)).alloc (.cells (numc false fun _ => 0) 70)) x).alloc (.cells (numc true (dg l)) 70)) (grow ((w.alloc (.cells #[.int .i64 a, .int .u64 c] 24)).alloc (.cells (numc false fun _ => 0) 70)) x).heap.size 70 (numc true (mixD l h 0)) := by rw [← m0.out]; exact Blk.new _ _ _ _ rfl
    have b6 : Blk ((grow ((grow ((w.alloc (.cells #[.int .i64 a, .int .u64 c] 24)).alloc (.cells (numc false fun _ => 0) 70)) x).alloc (.cells (numc true (dg l)) 70)) ((y.setR ((grow ((w.alloc (.cells #[.int .i64 a, .int .u64 c] 24)).alloc (.cells (numc false fun _ => 0) 70)) x).alloc (.cells (numc false fun _ => 0) 70)) (grow ((w.alloc (.cells #[.int .i64 a, .int .u64 c] 24)).alloc (.cells (numc false fun _ => 0) 70)) x).heap.size (numc true (dg l))).then xh)).alloc (.cells (digs (dg h)) 68)) (grow ((grow ((w.alloc (.cells #[.int .i64 a, .int .u64 c] 24)).alloc (.cells (numc false fun _ => 0) 70)) x).alloc (.cells (numc true (dg l)) 70)) ((y.setR ((grow ((w.alloc (.cells #[.int .i64 a, .int .u64 c] 24)).alloc (.cells (numc false fun _ => 0) 70)) x).alloc (.cells (numc false fun _ => 0) 70)) (grow ((w.alloc (.cells #[.int .i64 a, .int .u64 c] 24)).alloc (.cells (numc false fun _ => 0) 70)) x).heap.size (numc true (dg l))).then xh)).heap.size 68 (digs (dg h)) := Blk.new _ _ _ _ rfl
    have n52 : (grow ((w.alloc (.cells #[.int .i64 a, .int .u64 c] 24)).alloc (.cells (numc false fun _ => 0) 70)) x).heap.size ≠ w.heap.size + 1 := by have := b2.lt; have t := top_le ((w.alloc (.cells #[.int .i64 a, .int .u64 c] 24)).alloc (.cells (numc false fun _ => 0) 70)) x; exact fun e => by rw [← e] at this; exact absurd t (Nat.not_le.2 this)
    obtain ⟨g6, hg6⟩ : ∃ g, (grow ((grow ((w.alloc (.cells #[.int .i64 a, .int .u64 c] 24)).alloc (.cells (numc false fun _ => 0) 70)) x).alloc (.cells (numc true (dg l)) 70)) ((y.setR ((grow ((w.alloc (.cells #[.int .i64 a, .int .u64 c] 24)).alloc (.cells (numc false fun _ => 0) 70)) x).alloc (.cells (numc false fun _ => 0) 70)) (grow ((w.alloc (.cells #[.int .i64 a, .int .u64 c] 24)).alloc (.cells (numc false fun _ => 0) 70)) x).heap.size (numc true (dg l))).then xh)).heap.size = g := ⟨_, rfl⟩
    obtain ⟨g5, hg5⟩ : ∃ g, (grow ((w.alloc (.cells #[.int .i64 a, .int .u64 c] 24)).alloc (.cells (numc false fun _ => 0) 70)) x).heap.size = g := ⟨_, rfl⟩
    rw [hg6] at b6
    have q2 := ((((b2.grow x).alloc (.cells (numc true (dg l)) 70)).grow ((y.setR ((grow ((w.alloc (.cells #[.int .i64 a, .int .u64 c] 24)).alloc (.cells (numc false fun _ => 0) 70)) x).alloc (.cells (numc false fun _ => 0) 70)) (grow ((w.alloc (.cells #[.int .i64 a, .int .u64 c] 24)).alloc (.cells (numc false fun _ => 0) 70)) x).heap.size (numc true (dg l))).then xh)).alloc (.cells (digs (dg h)) 68))
    have q5 := (b5.grow ((y.setR ((grow ((w.alloc (.cells #[.int .i64 a, .int .u64 c] 24)).alloc (.cells (numc false fun _ => 0) 70)) x).alloc (.cells (numc false fun _ => 0) 70)) (grow ((w.alloc (.cells #[.int .i64 a, .int .u64 c] 24)).alloc (.cells (numc false fun _ => 0) 70)) x).heap.size (numc true (dg l))).then xh)).alloc (.cells (digs (dg h)) 68)
    have bel := bel_alloc (bel_grow (bel_alloc (bel_grow bW x) (.cells (numc true (dg l)) 70)) ((y.setR ((grow ((w.alloc (.cells #[.int .i64 a, .int .u64 c] 24)).alloc (.cells (numc false fun _ => 0) 70)) x).alloc (.cells (numc false fun _ => 0) 70)) (grow ((w.alloc (.cells #[.int .i64 a, .int .u64 c] 24)).alloc (.cells (numc false fun _ => 0) 70)) x).heap.size (numc true (dg l))).then xh)) (.cells (digs (dg h)) 68)
    have n5w : w.heap.size ≤ (grow ((w.alloc (.cells #[.int .i64 a, .int .u64 c] 24)).alloc (.cells (numc false fun _ => 0) 70)) x).heap.size := by have t := top_le ((w.alloc (.cells #[.int .i64 a, .int .u64 c] 24)).alloc (.cells (numc false fun _ => 0) 70)) x; simp only [World.size_alloc] at t; exact Nat.le_trans (by omega) t
    have n56 : g6 ≠ (grow ((w.alloc (.cells #[.int .i64 a, .int .u64 c] 24)).alloc (.cells (numc false fun _ => 0) 70)) x).heap.size := (q5.ne_ b6 (by decide)).symm
    rw [hg6]
    rw [hg5] at b5 n52 q2 q5 bel b6 n56 n5w ⊢
    clear hg5 hg6 b2 b5 bW
    go_loopw [7] (fun i wr => ∃ k : Nat, i = .int .i64 k ∧ k ≤ 4 ∧ Below w.heap.size w wr ∧ Blk wr (w.heap.size + 1) 70 (numc false fun _ => 0) ∧ Blk wr g5 70 (numc true (mixD l h k)) ∧ Blk wr g6 68 (digs (dg h))) (fun i _ => (4 - intOf i).toNat)
    case atStart => exact ⟨0, rfl, by omega, bel, q2, q5, b6⟩
    case round =>
      obtain ⟨k, rfl, hk, be, p2, p5, p6⟩ := hrel
      clear q2 q5 b6 bel
      by_cases hlt : k < 4
      · have c5 : wr.cell? ⟨g5, 1 + (4 + k), none⟩ = some (.int .i64 (mixD l h k (4 + k))) := by rw [p5.cell, Nat.add_comm 1, numc_get, if_pos (by omega)]
        have f5 := p5.frozen (1 + (4 + k))
        have c6 : wr.cell? ⟨g6, k, none⟩ = some (.int .i64 (dg h k)) := by rw [p6.cell, digs_get, if_pos (by omega)]
        have i0 : (0 : Int) ≤ (k : Int) := by omega
        have i1 : (k : Int) < 4 := by omega
        have next := p5.set (1 + (4 + k)) (.int .i64 (dg h k))
        rw [Nat.add_comm 1, numc_set, mixD_s l h k hlt, Nat.add_comm _ 1] at next
        have p2' := p2.far (1 + (4 + k)) (.int .i64 (dg h k)) n52
        have p6' := p6.far (1 + (4 + k)) (.int .i64 (dg h k)) (Ne.symm n56)
        have be' := bel_set be (p := ⟨g5, 1 + (4 + k), none⟩) n5w (.int .i64 (dg h k))
        clear p2 p5 p6 be
        go_wp2_with fail
        go_roundw
        case rel => exact ⟨k + 1, by go_num, by omega, be', p2', next, p6'⟩
        case measure => simp [intOf] <;> omega
      · obtain rfl : k = 4 := by omega
        rw [m4.out] at p5
        clear m0 m4
        go_wp2_with (first | (refine wpList_load_row rfl 70 _ rfl g5 rfl 70 (numc true (dg (h * 18446744073709551616 + l))) (0, 0) _ p5 Try.underlying70 rfl (by rw [numc_size]; exact info30) ?_) | (refine wpList_store_row rfl 70 _ _ rfl (w.heap.size + 1) (numc true (dg (h * 18446744073709551616 + l))) rfl rfl 70 (numc false fun _ => 0) p2 (by rw [numc_size]; exact info30) (by simp only [numc_size]) (numc_one _ _) ?_))
        refine bodyPost_ret (results_cell_row rfl _ _ (w.heap.size + 1) 70 (numc true (dg (h * 18446744073709551616 + l))) (0, 0) _ rfl (p2.setRow _) Try.underlying70 rfl (by rw [numc_size]; exact info30)) rfl ⟨rfl, bel_setRow be (by omega) _⟩

set_option maxRecDepth 100000 in
set_option maxHeartbeats 2000000 in
theorem from_neg_zero (a : Int) (h l : Nat) (h1 : h ≤ 18446744073709551615) (l1 : l ≤ 18446744073709551615) (u : Int) (h0 : Int) (e1 : IntKind.u64.wrap a = u) (xr : bits .xor .u64 IntKind.u64.max u = h0) (hw : IntKind.u64.wrap (h0 + 1) = h) (xc : bits .xor .u64 IntKind.u64.max 0 = 18446744073709551615) (lw : IntKind.u64.wrap (18446744073709551615 + 1) = 0) (lw2 : IntKind.u64.wrap 18446744073709551616 = 0) (lz : (l : Int) = 0) (hd : decide (a < 0) = true) (hs : IntKind.u64.signed = false) :
    Gives Try.prog 40 #[.agg #[.int .i64 a, .int .u64 0]] (.agg (numc true (dg (h * 18446744073709551616 + l)))) := by
  refine Gives.mk fun w => ?_
  have dl := digits_any l (by omega)
  have dh := digits_any h (by omega)
  have m0 := Lib.hid (mixD_0 l h l1 true)
  have m4 := Lib.hid (mixD_4 l h l1 h1 true)
  rw [lz] at dl
  replace lz := trivial
  go_enter Try.func40, Try.ntmps40
  go_wp2_with (first | (refine wpList_val rfl _ _ (alloc_num _ _ rfl _ (w.heap.size + 1) (by simp)) ?_))
  refine wp_region_make 6 ?_ 5 (.cells (numc false fun _ => 0) 70) (by kernel_rfl) (by kernel_rfl) (by kernel_rfl) (fun d hd => by cases hd; exact ⟨_, rfl, rfl, rfl, fun A u => alloc_num A _ rfl u _ rfl⟩) (fun x => ?_) (fun x y => ?_)
  rotate_left
  · simp only [List.take_succ_cons, List.take_zero]
    repeat (first | (refine quiet_by rfl (.agg (numc true (dg l))) (fun u hu => build_num2 _ _ _ _ rfl _ true _ rfl rfl) ?_; simp only [Act.put, List.setIfInBounds_toArray, List.set_cons_succ, List.set_cons_zero]) | go_big_quiet_step ((first | with_reducible exact dl.quiet _ | with_reducible exact dl.quiet2 _ _)))
    refine wpQuiet_nil ?_
    exact rfl
  · simp only [List.drop_succ_cons, List.drop_zero]
    simp only [Act.put, List.setIfInBounds_toArray, List.set_cons_succ, List.set_cons_zero]
    go_wp2_with (first | (refine wpList_store_row rfl 70 _ _ rfl ((grow ((w.alloc (.cells #[.int .i64 a, .int .u64 0] 24)).alloc (.cells (numc false fun _ => 0) 70)) x).heap.size) (numc true (dg l)) rfl rfl 70 (numc false fun _ => 0) (by simp only [grow_heap, alloc_heap_at, alloc_heap_past, setRow_alloc_at, setRow_alloc_past, grow_setRow, size_setRow, World.size_alloc, grow_lt, grow_lt1, grow_lt2, grow_lt3, grow_lt4, grow_lt5, grow_lt6, grow_self1, grow_self2, grow_self3, or_true, ltd2, ltd3, ltd4, ltd5, ltd6, ltd7, Nat.lt_add_one, true_or, if_true, ite_true]) (by rw [numc_size]; exact info30) (by simp only [numc_size]) (numc_one _ _) ?_) | (refine wpList_val rfl _ _ (alloc_digs _ _ rfl _ ((grow ((grow ((w.alloc (.cells #[.int .i64 a, .int .u64 0] 24)).alloc (.cells (numc false fun _ => 0) 70)) x).alloc (.cells (numc true (dg l)) 70)) ((y.setR ((grow ((w.alloc (.cells #[.int .i64 a, .int .u64 0] 24)).alloc (.cells (numc false fun _ => 0) 70)) x).alloc (.cells (numc false fun _ => 0) 70)) (grow ((w.alloc (.cells #[.int .i64 a, .int .u64 0] 24)).alloc (.cells (numc false fun _ => 0) 70)) x).heap.size (numc true (dg l))).then xh)).heap.size) (by simp)) ?_) | (refine wpList_store_row rfl 68 _ _ rfl ((grow ((grow ((w.alloc (.cells #[.int .i64 a, .int .u64 0] 24)).alloc (.cells (numc false fun _ => 0) 70)) x).alloc (.cells (numc true (dg l)) 70)) ((y.setR ((grow ((w.alloc (.cells #[.int .i64 a, .int .u64 0] 24)).alloc (.cells (numc false fun _ => 0) 70)) x).alloc (.cells (numc false fun _ => 0) 70)) (grow ((w.alloc (.cells #[.int .i64 a, .int .u64 0] 24)).alloc (.cells (numc false fun _ => 0) 70)) x).heap.size (numc true (dg l))).then xh)).heap.size) (digs (dg h)) rfl rfl 68 (digs fun _ => 0) (by simp only [grow_heap, alloc_heap_at, alloc_heap_past, setRow_alloc_at, setRow_alloc_past, grow_setRow, size_setRow, World.size_alloc, grow_lt, grow_lt1, grow_lt2, grow_lt3, grow_lt4, grow_lt5, grow_lt6, grow_self1, grow_self2, grow_self3, or_true, ltd2, ltd3, ltd4, ltd5, ltd6, ltd7, Nat.lt_add_one, true_or, if_true, ite_true]) (by rw [digs_size]; exact info28) (by simp only [digs_size]) (digs_one _) ?_) | (go_at_call 63; ((with_reducible refine (dh.at_ _).mono ?_); rintro e w' ⟨rfl, xh, rfl⟩)))
    have bW : Below w.heap.size w ((w.alloc (.cells #[.int .i64 a, .int .u64 0] 24)).alloc (.cells (numc false fun _ => 0) 70)) := bel_alloc (bel_alloc (Below.refl _ _) _) _
    have b2 : Blk ((w.alloc (.cells #[.int .i64 a, .int .u64 0] 24)).alloc (.cells (numc false fun _ => 0) 70)) (w.heap.size + 1) 70 (numc false fun _ => 0) := Blk.new _ _ _ _ (by simp)
    have b5 : Blk ((grow ((w.alloc (.cells #[.int .i64 a, .int .u64 0] 24)).alloc (.cells (numc false fun _ => 0) 70)) x).alloc (.cells (numc true (dg l)) 70)) (grow ((w.alloc (.cells #[.int .i64 a, .int .u64 0] 24)).alloc (.cells (numc false fun _ => 0) 70)) x).heap.size 70 (numc true (mixD l h 0)) := by rw [← m0.out]; exact Blk.new _ _ _ _ rfl
    have b6 : Blk ((grow ((grow ((w.alloc (.cells #[.int .i64 a, .int .u64 0] 24)).alloc (.cells (numc false fun _ => 0) 70)) x).alloc (.cells (numc true (dg l)) 70)) ((y.setR ((grow ((w.alloc (.cells #[.int .i64 a, .int .u64 0] 24)).alloc (.cells (numc false fun _ => 0) 70)) x).alloc (.cells (numc false fun _ => 0) 70)) (grow ((w.alloc (.cells #[.int .i64 a, .int .u64 0] 24)).alloc (.cells (numc false fun _ => 0) 70)) x).heap.size (numc true (dg l))).then xh)).alloc (.cells (digs (dg h)) 68)) (grow ((grow ((w.alloc (.cells #[.int .i64 a, .int .u64 0] 24)).alloc (.cells (numc false fun _ => 0) 70)) x).alloc (.cells (numc true (dg l)) 70)) ((y.setR ((grow ((w.alloc (.cells #[.int .i64 a, .int .u64 0] 24)).alloc (.cells (numc false fun _ => 0) 70)) x).alloc (.cells (numc false fun _ => 0) 70)) (grow ((w.alloc (.cells #[.int .i64 a, .int .u64 0] 24)).alloc (.cells (numc false fun _ => 0) 70)) x).heap.size (numc true (dg l))).then xh)).heap.size 68 (digs (dg h)) := Blk.new _ _ _ _ rfl
    have n52 : (grow ((w.alloc (.cells #[.int .i64 a, .int .u64 0] 24)).alloc (.cells (numc false fun _ => 0) 70)) x).heap.size ≠ w.heap.size + 1 := by have := b2.lt; have t := top_le ((w.alloc (.cells #[.int .i64 a, .int .u64 0] 24)).alloc (.cells (numc false fun _ => 0) 70)) x; exact fun e => by rw [← e] at this; exact absurd t (Nat.not_le.2 this)
    obtain ⟨g6, hg6⟩ : ∃ g, (grow ((grow ((w.alloc (.cells #[.int .i64 a, .int .u64 0] 24)).alloc (.cells (numc false fun _ => 0) 70)) x).alloc (.cells (numc true (dg l)) 70)) ((y.setR ((grow ((w.alloc (.cells #[.int .i64 a, .int .u64 0] 24)).alloc (.cells (numc false fun _ => 0) 70)) x).alloc (.cells (numc false fun _ => 0) 70)) (grow ((w.alloc (.cells #[.int .i64 a, .int .u64 0] 24)).alloc (.cells (numc false fun _ => 0) 70)) x).heap.size (numc true (dg l))).then xh)).heap.size = g := ⟨_, rfl⟩
    obtain ⟨g5, hg5⟩ : ∃ g, (grow ((w.alloc (.cells #[.int .i64 a, .int .u64 0] 24)).alloc (.cells (numc false fun _ => 0) 70)) x).heap.size = g := ⟨_, rfl⟩
    rw [hg6] at b6
    have q2 := ((((b2.grow x).alloc (.cells (numc true (dg l)) 70)).grow ((y.setR ((grow ((w.alloc (.cells #[.int .i64 a, .int .u64 0] 24)).alloc (.cells (numc false fun _ => 0) 70)) x).alloc (.cells (numc false fun _ => 0) 70)) (grow ((w.alloc (.cells #[.int .i64 a, .int .u64 0] 24)).alloc (.cells (numc false fun _ => 0) 70)) x).heap.size (numc true (dg l))).then xh)).alloc (.cells (digs (dg h)) 68))
    have q5 := (b5.grow ((y.setR ((grow ((w.alloc (.cells #[.int .i64 a, .int .u64 0] 24)).alloc (.cells (numc false fun _ => 0) 70)) x).alloc (.cells (numc false fun _ => 0) 70)) (grow ((w.alloc (.cells #[.int .i64 a, .int .u64 0] 24)).alloc (.cells (numc false fun _ => 0) 70)) x).heap.size (numc true (dg l))).then xh)).alloc (.cells (digs (dg h)) 68)
    have bel := bel_alloc (bel_grow (bel_alloc (bel_grow bW x) (.cells (numc true (dg l)) 70)) ((y.setR ((grow ((w.alloc (.cells #[.int .i64 a, .int .u64 0] 24)).alloc (.cells (numc false fun _ => 0) 70)) x).alloc (.cells (numc false fun _ => 0) 70)) (grow ((w.alloc (.cells #[.int .i64 a, .int .u64 0] 24)).alloc (.cells (numc false fun _ => 0) 70)) x).heap.size (numc true (dg l))).then xh)) (.cells (digs (dg h)) 68)
    have n5w : w.heap.size ≤ (grow ((w.alloc (.cells #[.int .i64 a, .int .u64 0] 24)).alloc (.cells (numc false fun _ => 0) 70)) x).heap.size := by have t := top_le ((w.alloc (.cells #[.int .i64 a, .int .u64 0] 24)).alloc (.cells (numc false fun _ => 0) 70)) x; simp only [World.size_alloc] at t; exact Nat.le_trans (by omega) t
    have n56 : g6 ≠ (grow ((w.alloc (.cells #[.int .i64 a, .int .u64 0] 24)).alloc (.cells (numc false fun _ => 0) 70)) x).heap.size := (q5.ne_ b6 (by decide)).symm
    rw [hg6]
    rw [hg5] at b5 n52 q2 q5 bel b6 n56 n5w ⊢
    clear hg5 hg6 b2 b5 bW
    go_loopw [7] (fun i wr => ∃ k : Nat, i = .int .i64 k ∧ k ≤ 4 ∧ Below w.heap.size w wr ∧ Blk wr (w.heap.size + 1) 70 (numc false fun _ => 0) ∧ Blk wr g5 70 (numc true (mixD l h k)) ∧ Blk wr g6 68 (digs (dg h))) (fun i _ => (4 - intOf i).toNat)
    case atStart => exact ⟨0, rfl, by omega, bel, q2, q5, b6⟩
    case round =>
      obtain ⟨k, rfl, hk, be, p2, p5, p6⟩ := hrel
      clear q2 q5 b6 bel
      by_cases hlt : k < 4
      · have c5 : wr.cell? ⟨g5, 1 + (4 + k), none⟩ = some (.int .i64 (mixD l h k (4 + k))) := by rw [p5.cell, Nat.add_comm 1, numc_get, if_pos (by omega)]
        have f5 := p5.frozen (1 + (4 + k))
        have c6 : wr.cell? ⟨g6, k, none⟩ = some (.int .i64 (dg h k)) := by rw [p6.cell, digs_get, if_pos (by omega)]
        have i0 : (0 : Int) ≤ (k : Int) := by omega
        have i1 : (k : Int) < 4 := by omega
        have next := p5.set (1 + (4 + k)) (.int .i64 (dg h k))
        rw [Nat.add_comm 1, numc_set, mixD_s l h k hlt, Nat.add_comm _ 1] at next
        have p2' := p2.far (1 + (4 + k)) (.int .i64 (dg h k)) n52
        have p6' := p6.far (1 + (4 + k)) (.int .i64 (dg h k)) (Ne.symm n56)
        have be' := bel_set be (p := ⟨g5, 1 + (4 + k), none⟩) n5w (.int .i64 (dg h k))
        clear p2 p5 p6 be
        go_wp2_with fail
        go_roundw
        case rel => exact ⟨k + 1, by go_num, by omega, be', p2', next, p6'⟩
        case measure => simp [intOf] <;> omega
      · obtain rfl : k = 4 := by omega
        rw [m4.out] at p5
        clear m0 m4
        go_wp2_with (first | (refine wpList_load_row rfl 70 _ rfl g5 rfl 70 (numc true (dg (h * 18446744073709551616 + l))) (0, 0) _ p5 Try.underlying70 rfl (by rw [numc_size]; exact info30) ?_) | (refine wpList_store_row rfl 70 _ _ rfl (w.heap.size + 1) (numc true (dg (h * 18446744073709551616 + l))) rfl rfl 70 (numc false fun _ => 0) p2 (by rw [numc_size]; exact info30) (by simp only [numc_size]) (numc_one _ _) ?_))
        refine bodyPost_ret (results_cell_row rfl _ _ (w.heap.size + 1) 70 (numc true (dg (h * 18446744073709551616 + l))) (0, 0) _ rfl (p2.setRow _) Try.underlying70 rfl (by rw [numc_size]; exact info30)) rfl ⟨rfl, bel_setRow be (by omega) _⟩

/-- A wide number as digits. -/
theorem from_any (x : Int) (hx : InW x) : Gives Try.prog 40 #[.agg #[.int .i64 (hiOf x), .int .u64 (loOf x)]] (.agg (numc (sg x) (dg x.natAbs))) := by
  have hb := hi_bd hx
  have lb := lo_bd x
  have e := hi_lo x
  by_cases h : 0 ≤ x
  · rw [sg_no h]
    have h0 : 0 ≤ hiOf x := by unfold hiOf; omega
    have k := from_pos (hiOf x) (hiOf x).toNat (loOf x).toNat (by omega) (by omega) (by rw [IntKind.wrap_u64]; omega) (by simp; omega) (by omega)
    rw [show (((loOf x).toNat : Nat) : Int) = loOf x by omega, show (hiOf x).toNat * 18446744073709551616 + (loOf x).toNat = x.natAbs by omega] at k
    exact k
  · rw [sg_yes (by omega)]
    have h0 : hiOf x < 0 := by unfold hiOf; omega
    have eu : IntKind.u64.wrap (hiOf x) = hiOf x + 18446744073709551616 := by rw [IntKind.wrap_u64]; omega
    have xr := u64_max_xor (hiOf x + 18446744073709551616) (by omega) (by omega)
    by_cases hz : loOf x = 0
    · have k := from_neg_zero (hiOf x) (-hiOf x).toNat 0 (by omega) (by omega) _ _ eu xr (by rw [IntKind.wrap_u64]; omega) (u64_max_xor 0 (by omega) (by omega)) (by rw [IntKind.wrap_u64]; rfl) (by rw [IntKind.wrap_u64]; rfl) rfl (by simp; omega) rfl
      rw [show (-hiOf x).toNat * 18446744073709551616 + 0 = x.natAbs by omega] at k
      rw [hz]; exact k
    · have k := from_neg_low (hiOf x) (loOf x) (-1 - hiOf x).toNat (18446744073709551616 - loOf x).toNat (by omega) (by omega) _ eu (by rw [xr]; omega) (u64_max_xor _ lb.1 lb.2) (by rw [IntKind.wrap_u64]; omega) (by simp; omega) (by simp; omega) rfl
      rw [show (-1 - hiOf x).toNat * 18446744073709551616 + (18446744073709551616 - loOf x).toNat = x.natAbs by omega] at k
      exact k
theorem to_in (x : Int) (hx : InW x) : Gives Try.prog 44 #[.agg (numc (sg x) (dg x.natAbs))] (.tuple #[.agg #[.int .i64 (hiOf x), .int .u64 (loOf x)], .bool true]) := by
  unfold InW at hx
  by_cases h : 0 ≤ x
  · rw [sg_no h]; exact to_yes_pos x ⟨h, by omega⟩
  · rw [sg_yes (by omega)]
    by_cases hz : x.natAbs % 18446744073709551616 = 0
    · exact to_neg_zero x ⟨by omega, by omega⟩ hz
    · exact to_neg_low x ⟨by omega, by omega⟩ hz
theorem to_out (x : Int) (hx : ¬ InW x) (bx : Big x.natAbs) : Gives Try.prog 44 #[.agg (numc (sg x) (dg x.natAbs))] (.tuple #[.agg #[.int .i64 0, .int .u64 0], .bool false]) := by
  unfold InW at hx
  by_cases h : 0 ≤ x
  · rw [sg_no h]; exact to_no_pos x (by omega) bx
  · rw [sg_yes (by omega)]; exact to_no_neg x (by omega) bx
theorem fromInt_any (n : Int) (h0 : -9223372036854775808 ≤ n) (h1 : n ≤ 9223372036854775807) : Gives Try.prog 43 #[.int .i64 n] (.agg (numc (sg n) (dg n.natAbs))) := by
  by_cases h : n < 0
  · rw [sg_yes h]; exact fromInt_neg n h0 h
  · rw [sg_no (by omega)]; exact fromInt_pos n (by omega) h1
end Go.Proofs.Ytgfgaaecpdbgeaa

/- The document's own numbers, as digits: contracts of its calls, part 9: sums. -/
namespace Go.Proofs.Ytgfgaaecpdbgeaa
open Go.RowKit
set_option linter.unusedVariables false
set_option linter.unusedSimpArgs false
theorem partOf_0 (N : Nat) : partOf N 0 = fun _ => 0 := by funext j; unfold partOf; simp
theorem partOf_s (N k : Nat) (v : Int) (hv : v = dg N k) : (fun j => if j = k then v else partOf N k j) = partOf N (k + 1) := by
  funext j
  unfold partOf
  by_cases e : j = k
  · subst e; rw [if_pos rfl, if_pos (by omega), hv]
  · rw [if_neg e]
    by_cases h : j < k
    · rw [if_pos h, if_pos (by omega)]
    · rw [if_neg h, if_neg (by omega)]
theorem partOf_18 (N : Nat) (s : Bool) : numc s (partOf N 18) = numc s (dg N) := numc_congr fun j hj => by unfold partOf; rw [if_pos hj]
theorem digs_18 (N : Nat) : digs (partOf N 18) = digs (dg N) := digs_congr fun j hj => by unfold partOf; rw [if_pos hj]
theorem dg_bd (N k : Nat) : 0 ≤ dg N k ∧ dg N k ≤ 65535 := by have := dN_lt N k; rw [dg_dN]; omega
theorem dg_sum (A B k : Nat) : (dg A k + dg B k + ((carryN A B k : Nat) : Int)) % 65536 = dg (A + B) k ∧ (dg A k + dg B k + ((carryN A B k : Nat) : Int)) / 65536 = ((carryN A B (k + 1) : Nat) : Int) := by
  have h := carry_s A B k
  rw [dg_dN, dg_dN, dg_dN, ← h.1, ← h.2]
  omega

set_option maxRecDepth 100000 in
set_option maxHeartbeats 4000000 in
theorem plus_pos (A B : Nat) (bs : Big (A + B)) : Gives Try.prog 42 #[.agg (numc false (dg A)), .agg (numc false (dg B))] (.agg (numc false (dg (A + B)))) := by
  refine Gives.mk fun w => ?_
  clear bs
  have e18 := Lib.hid (partOf_18 (A + B) false)
  go_enter Try.func42, Try.ntmps42
  go_upto_region 1 with (first | (refine wpList_val rfl _ _ (alloc_num _ _ rfl _ _ rfl) ?_; simp only [World.size_alloc]) | (refine wpList_val rfl _ _ (build_num0 _ _ rfl _) ?_) | (refine wpList_store_row rfl 70 _ _ rfl (w.heap.size + 1 + 1 + 1) (numc false fun _ => 0) rfl rfl 70 (numc false fun _ => 0) (by simp only [grow_heap, alloc_heap_at, alloc_heap_past, setRow_alloc_at, setRow_alloc_past, grow_setRow, size_setRow, World.size_alloc, grow_lt, grow_lt1, grow_lt2, grow_lt3, grow_lt4, grow_lt5, grow_lt6, grow_self1, grow_self2, grow_self3, or_true, ltd2, ltd3, ltd4, ltd5, ltd6, ltd7, Nat.lt_add_one, true_or, if_true, ite_true]) (by rw [numc_size]; exact info30) (by simp only [numc_size]) (numc_one _ _) ?_))
  simp only [Act.put, List.setIfInBounds_toArray, List.set_cons_succ, List.set_cons_zero]
  go_wp2_with (first | (refine wpList_val rfl _ _ (alloc_num _ _ rfl _ _ rfl) ?_; simp only [World.size_alloc]) | (refine wpList_val rfl _ _ (build_num0 _ _ rfl _) ?_) | (refine wpList_store_row rfl 70 _ _ rfl (w.heap.size + 1 + 1 + 1) (numc false fun _ => 0) rfl rfl 70 (numc false fun _ => 0) (by simp only [grow_heap, alloc_heap_at, alloc_heap_past, setRow_alloc_at, setRow_alloc_past, grow_setRow, size_setRow, World.size_alloc, grow_lt, grow_lt1, grow_lt2, grow_lt3, grow_lt4, grow_lt5, grow_lt6, grow_self1, grow_self2, grow_self3, or_true, ltd2, ltd3, ltd4, ltd5, ltd6, ltd7, Nat.lt_add_one, true_or, if_true, ite_true]) (by rw [numc_size]; exact info30) (by simp only [numc_size]) (numc_one _ _) ?_))
  rw [← partOf_0 (A + B)]
  go_loopw [6, 7] (fun c i wr => ∃ k : Nat, i = .int .i64 k ∧ c = .int .i64 ((carryN A B k : Nat) : Int) ∧ k ≤ 18 ∧ ∃ x, wr = grow ((((w.alloc (.cells (numc false (dg A)) 70)).alloc (.cells (numc false (dg B)) 70)).alloc (.cells (numc false fun _ => 0) 70)).alloc (.cells (numc false (partOf (A + B) k)) 70)) x) (fun _ i _ => (18 - intOf i).toNat)
  case atStart => exact ⟨0, rfl, by rw [carry_0]; rfl, by omega, grow_of (Below.refl _ _)⟩
  case round =>
    obtain ⟨k, rfl, rfl, hk, xx, rfl⟩ := hrel
    by_cases hlt : k < 18
    · have e1 := (dg_sum A B k).1
      have e2 := (dg_sum A B k).2
      have b1 := dg_bd A k
      have b2 := dg_bd B k
      have cl := carry_le A B k
      have ps := partOf_s (A + B) k (dg (A + B) k) rfl
      generalize carryN A B k = c at *
      have i0 : (0 : Int) ≤ (k : Int) := by omega
      have i1 : (k : Int) < 18 := by omega
      go_wp2_with fail
      refine wp_region_grow (by kernel_rfl) (by kernel_rfl) ?_
      repeat (go_big_quiet_step ((fail)))
      refine wpQuiet_nil ?_
      rintro _ ⟨xg, rfl⟩
      go_wp2_with fail
      go_roundw
      case rel => exact ⟨k + 1, by go_num, by rw [e2], by omega, grow_of (by repeat (first | exact Below.refl _ _ | refine bel_then ?_ _ | refine bel_grow ?_ _ | refine bel_alloc ?_ _ | refine bel_drew ?_ | refine bel_set ?_ (by simp) _ | refine bel_setRow ?_ (by first | omega | simp) _))⟩
      case measure => simp [intOf] <;> omega
    · obtain rfl : k = 18 := by omega
      rw [e18.out]
      clear e18
      go_wp2_with (first | (refine wpList_part rfl _ rfl (w.heap.size + 1 + 1 + 1) rfl (false) (dg (A + B)) (by simp only [grow_heap, alloc_heap_at, alloc_heap_past, setRow_alloc_at, setRow_alloc_past, grow_setRow, size_setRow, World.size_alloc, grow_lt, grow_lt1, grow_lt2, grow_lt3, grow_lt4, grow_lt5, grow_lt6, grow_self1, grow_self2, grow_self3, or_true, ltd2, ltd3, ltd4, ltd5, ltd6, ltd7, Nat.lt_add_one, true_or, if_true, ite_true]) ?_) | (refine wpList_load_row rfl 70 _ rfl (w.heap.size + 1 + 1 + 1) rfl 70 (numc false (dg (A + B))) (0, 0) _ (by simp only [grow_heap, alloc_heap_at, alloc_heap_past, setRow_alloc_at, setRow_alloc_past, grow_setRow, size_setRow, World.size_alloc, grow_lt, grow_lt1, grow_lt2, grow_lt3, grow_lt4, grow_lt5, grow_lt6, grow_self1, grow_self2, grow_self3, or_true, ltd2, ltd3, ltd4, ltd5, ltd6, ltd7, Nat.lt_add_one, true_or, if_true, ite_true]) Try.underlying70 rfl (by rw [numc_size]; exact info30) ?_) | (refine wpList_store_row rfl 70 _ _ rfl (w.heap.size + 1 + 1) (numc false (dg (A + B))) rfl rfl 70 (numc false fun _ => 0) (by simp only [grow_heap, alloc_heap_at, alloc_heap_past, setRow_alloc_at, setRow_alloc_past, grow_setRow, size_setRow, World.size_alloc, grow_lt, grow_lt1, grow_lt2, grow_lt3, grow_lt4, grow_lt5, grow_lt6, grow_self1, grow_self2, grow_self3, or_true, ltd2, ltd3, ltd4, ltd5, ltd6, ltd7, Nat.lt_add_one, true_or, if_true, ite_true]) (by rw [numc_size]; exact info30) (by simp only [numc_size]) (numc_one _ _) ?_))
      refine bodyPost_ret (results_cell_row rfl _ _ (w.heap.size + 1 + 1) 70 (numc false (dg (A + B))) (0, 0) _ rfl (by simp only [grow_heap, alloc_heap_at, alloc_heap_past, setRow_alloc_at, setRow_alloc_past, grow_setRow, size_setRow, World.size_alloc, grow_lt, grow_lt1, grow_lt2, grow_lt3, grow_lt4, grow_lt5, grow_lt6, grow_self1, grow_self2, grow_self3, or_true, ltd2, ltd3, ltd4, ltd5, ltd6, ltd7, Nat.lt_add_one, true_or, if_true, ite_true]) Try.underlying70 rfl (by rw [numc_size]; exact info30)) rfl ⟨rfl, (by repeat (first | exact Below.refl _ _ | refine bel_then ?_ _ | refine bel_grow ?_ _ | refine bel_alloc ?_ _ | refine bel_drew ?_ | refine bel_set ?_ (by simp) _ | refine bel_setRow ?_ (by first | omega | simp) _))⟩

set_option maxRecDepth 100000 in
set_option maxHeartbeats 4000000 in
theorem plus_neg (A B : Nat) (bs : Big (A + B)) (hz : A + B ≠ 0) : Gives Try.prog 42 #[.agg (numc true (dg A)), .agg (numc true (dg B))] (.agg (numc true (dg (A + B)))) := by
  refine Gives.mk fun w => ?_
  have z := zero_any (dg (A + B))
  rw [allZ_dg _ bs, show decide (A + B = 0) = false by simp; omega] at z
  clear hz
  clear bs
  have e18 := Lib.hid (partOf_18 (A + B) false)
  go_enter Try.func42, Try.ntmps42
  go_upto_region 1 with (first | (refine wpList_val rfl _ _ (alloc_num _ _ rfl _ _ rfl) ?_; simp only [World.size_alloc]) | (refine wpList_val rfl _ _ (build_num0 _ _ rfl _) ?_) | (refine wpList_store_row rfl 70 _ _ rfl (w.heap.size + 1 + 1 + 1) (numc false fun _ => 0) rfl rfl 70 (numc false fun _ => 0) (by simp only [grow_heap, alloc_heap_at, alloc_heap_past, setRow_alloc_at, setRow_alloc_past, grow_setRow, size_setRow, World.size_alloc, grow_lt, grow_lt1, grow_lt2, grow_lt3, grow_lt4, grow_lt5, grow_lt6, grow_self1, grow_self2, grow_self3, or_true, ltd2, ltd3, ltd4, ltd5, ltd6, ltd7, Nat.lt_add_one, true_or, if_true, ite_true]) (by rw [numc_size]; exact info30) (by simp only [numc_size]) (numc_one _ _) ?_))
  simp only [Act.put, List.setIfInBounds_toArray, List.set_cons_succ, List.set_cons_zero]
  go_wp2_with (first | (refine wpList_val rfl _ _ (alloc_num _ _ rfl _ _ rfl) ?_; simp only [World.size_alloc]) | (refine wpList_val rfl _ _ (build_num0 _ _ rfl _) ?_) | (refine wpList_store_row rfl 70 _ _ rfl (w.heap.size + 1 + 1 + 1) (numc false fun _ => 0) rfl rfl 70 (numc false fun _ => 0) (by simp only [grow_heap, alloc_heap_at, alloc_heap_past, setRow_alloc_at, setRow_alloc_past, grow_setRow, size_setRow, World.size_alloc, grow_lt, grow_lt1, grow_lt2, grow_lt3, grow_lt4, grow_lt5, grow_lt6, grow_self1, grow_self2, grow_self3, or_true, ltd2, ltd3, ltd4, ltd5, ltd6, ltd7, Nat.lt_add_one, true_or, if_true, ite_true]) (by rw [numc_size]; exact info30) (by simp only [numc_size]) (numc_one _ _) ?_))
  rw [← partOf_0 (A + B)]
  go_loopw [6, 7] (fun c i wr => ∃ k : Nat, i = .int .i64 k ∧ c = .int .i64 ((carryN A B k : Nat) : Int) ∧ k ≤ 18 ∧ ∃ x, wr = grow ((((w.alloc (.cells (numc true (dg A)) 70)).alloc (.cells (numc true (dg B)) 70)).alloc (.cells (numc false fun _ => 0) 70)).alloc (.cells (numc false (partOf (A + B) k)) 70)) x) (fun _ i _ => (18 - intOf i).toNat)
  case atStart => exact ⟨0, rfl, by rw [carry_0]; rfl, by omega, grow_of (Below.refl _ _)⟩
  case round =>
    obtain ⟨k, rfl, rfl, hk, xx, rfl⟩ := hrel
    by_cases hlt : k < 18
    · have e1 := (dg_sum A B k).1
      have e2 := (dg_sum A B k).2
      have b1 := dg_bd A k
      have b2 := dg_bd B k
      have cl := carry_le A B k
      have ps := partOf_s (A + B) k (dg (A + B) k) rfl
      generalize carryN A B k = c at *
      have i0 : (0 : Int) ≤ (k : Int) := by omega
      have i1 : (k : Int) < 18 := by omega
      go_wp2_with fail
      refine wp_region_grow (by kernel_rfl) (by kernel_rfl) ?_
      repeat (go_big_quiet_step ((fail)))
      refine wpQuiet_nil ?_
      rintro _ ⟨xg, rfl⟩
      go_wp2_with fail
      go_roundw
      case rel => exact ⟨k + 1, by go_num, by rw [e2], by omega, grow_of (by repeat (first | exact Below.refl _ _ | refine bel_then ?_ _ | refine bel_grow ?_ _ | refine bel_alloc ?_ _ | refine bel_drew ?_ | refine bel_set ?_ (by simp) _ | refine bel_setRow ?_ (by first | omega | simp) _))⟩
      case measure => simp [intOf] <;> omega
    · obtain rfl : k = 18 := by omega
      rw [e18.out]
      clear e18
      go_wp2_with (first | (refine wpList_part rfl _ rfl (w.heap.size + 1 + 1 + 1) rfl (false) (dg (A + B)) (by simp only [grow_heap, alloc_heap_at, alloc_heap_past, setRow_alloc_at, setRow_alloc_past, grow_setRow, size_setRow, World.size_alloc, grow_lt, grow_lt1, grow_lt2, grow_lt3, grow_lt4, grow_lt5, grow_lt6, grow_self1, grow_self2, grow_self3, or_true, ltd2, ltd3, ltd4, ltd5, ltd6, ltd7, Nat.lt_add_one, true_or, if_true, ite_true]) ?_) | (refine wpList_load_row rfl 70 _ rfl (w.heap.size + 1 + 1 + 1) rfl 70 (numc true (dg (A + B))) (0, 0) _ (by simp only [grow_heap, alloc_heap_at, alloc_heap_past, setRow_alloc_at, setRow_alloc_past, grow_setRow, size_setRow, World.size_alloc, grow_lt, grow_lt1, grow_lt2, grow_lt3, grow_lt4, grow_lt5, grow_lt6, grow_self1, grow_self2, grow_self3, or_true, ltd2, ltd3, ltd4, ltd5, ltd6, ltd7, Nat.lt_add_one, true_or, if_true, ite_true]) Try.underlying70 rfl (by rw [numc_size]; exact info30) ?_) | (refine wpList_store_row rfl 70 _ _ rfl (w.heap.size + 1 + 1) (numc true (dg (A + B))) rfl rfl 70 (numc false fun _ => 0) (by simp only [grow_heap, alloc_heap_at, alloc_heap_past, setRow_alloc_at, setRow_alloc_past, grow_setRow, size_setRow, World.size_alloc, grow_lt, grow_lt1, grow_lt2, grow_lt3, grow_lt4, grow_lt5, grow_lt6, grow_self1, grow_self2, grow_self3, or_true, ltd2, ltd3, ltd4, ltd5, ltd6, ltd7, Nat.lt_add_one, true_or, if_true, ite_true]) (by rw [numc_size]; exact info30) (by simp only [numc_size]) (numc_one _ _) ?_) | (go_at_call 41; first | ((with_reducible refine (z.at_ _).mono ?_); rintro e w' ⟨rfl, xg, rfl⟩)))
      refine bodyPost_ret (results_cell_row rfl _ _ (w.heap.size + 1 + 1) 70 (numc true (dg (A + B))) (0, 0) _ rfl (by simp only [grow_heap, alloc_heap_at, alloc_heap_past, setRow_alloc_at, setRow_alloc_past, grow_setRow, size_setRow, World.size_alloc, grow_lt, grow_lt1, grow_lt2, grow_lt3, grow_lt4, grow_lt5, grow_lt6, grow_self1, grow_self2, grow_self3, or_true, ltd2, ltd3, ltd4, ltd5, ltd6, ltd7, Nat.lt_add_one, true_or, if_true, ite_true]) Try.underlying70 rfl (by rw [numc_size]; exact info30)) rfl ⟨rfl, (by repeat (first | exact Below.refl _ _ | refine bel_then ?_ _ | refine bel_grow ?_ _ | refine bel_alloc ?_ _ | refine bel_drew ?_ | refine bel_set ?_ (by simp) _ | refine bel_setRow ?_ (by first | omega | simp) _))⟩

end Go.Proofs.Ytgfgaaecpdbgeaa

/- The document's own numbers, as digits: contracts of its calls, part 10: differences. -/
namespace Go.Proofs.Ytgfgaaecpdbgeaa
open Go.RowKit
set_option linter.unusedVariables false
set_option linter.unusedSimpArgs false
theorem dg_diff (A B k : Nat) (h : B ≤ A) : (dg A k - dg B k - ((borrowN A B k : Nat) : Int) < 0 → dg A k - dg B k - ((borrowN A B k : Nat) : Int) + 65536 = dg (A - B) k ∧ borrowN A B (k + 1) = 1) ∧
    (¬ dg A k - dg B k - ((borrowN A B k : Nat) : Int) < 0 → dg A k - dg B k - ((borrowN A B k : Nat) : Int) = dg (A - B) k ∧ borrowN A B (k + 1) = 0) := by
  obtain ⟨h1, h2⟩ := borrow_s A B k h
  rw [dg_dN, dg_dN, dg_dN]
  constructor
  · intro hl
    obtain ⟨e1, e2⟩ := h1 (by omega)
    exact ⟨by omega, e2⟩
  · intro hl
    obtain ⟨e1, e2⟩ := h2 (by omega)
    exact ⟨by omega, e2⟩
theorem borrow_le (A B k : Nat) : borrowN A B k ≤ 1 := by unfold borrowN; split <;> omega

set_option maxRecDepth 100000 in
set_option maxHeartbeats 4000000 in
theorem diff_tf (A B : Nat) (ba : Big A) (bb : Big B) (h : B ≤ A) (hz : A ≠ B) : Gives Try.prog 42 #[.agg (numc true (dg A)), .agg (numc false (dg B))] (.agg (numc true (dg (A - B)))) := by
  refine Gives.mk fun w => ?_
  have k0 := cmpDigits_dg A B ba bb
  obtain ⟨c, hc, h1⟩ : ∃ c, cmpOf (A : Int) (B : Int) = c ∧ 0 ≤ c := ⟨_, rfl, by unfold cmpOf; split <;> (try split) <;> omega⟩
  rw [hc] at k0
  have bd : Big (A - B) := Nat.lt_of_le_of_lt (Nat.sub_le A B) ba
  have z := zero_any (dg (A - B))
  rw [allZ_dg _ bd, show decide (A - B = 0) = false by simp; omega] at z
  have step := fun k => dg_diff A B k (by omega)
  replace step := Lib.hid step
  have e18 := Lib.hid (partOf_18 (A - B) false)
  clear ba bb h hc bd hz
  go_enter Try.func42, Try.ntmps42
  go_upto_region 1 with (first | (refine wpList_val rfl _ _ (alloc_num _ _ rfl _ _ rfl) ?_; simp only [World.size_alloc]) | (refine wpList_val rfl _ _ (build_num0 _ _ rfl _) ?_) | (refine wpList_store_row rfl 70 _ _ rfl (w.heap.size + 1 + 1 + 1) (numc false fun _ => 0) rfl rfl 70 (numc false fun _ => 0) (by simp only [grow_heap, alloc_heap_at, alloc_heap_past, setRow_alloc_at, setRow_alloc_past, grow_setRow, size_setRow, World.size_alloc, grow_lt, grow_lt1, grow_lt2, grow_lt3, grow_lt4, grow_lt5, grow_lt6, grow_self1, grow_self2, grow_self3, or_true, ltd2, ltd3, ltd4, ltd5, ltd6, ltd7, Nat.lt_add_one, true_or, if_true, ite_true]) (by rw [numc_size]; exact info30) (by simp only [numc_size]) (numc_one _ _) ?_))
  simp only [Act.put, List.setIfInBounds_toArray, List.set_cons_succ, List.set_cons_zero]
  go_wp2_with (first | (refine wpList_val rfl _ _ (alloc_num _ _ rfl _ _ rfl) ?_; simp only [World.size_alloc]) | (refine wpList_val rfl _ _ (build_num0 _ _ rfl _) ?_) | (refine wpList_store_row rfl 70 _ _ rfl (w.heap.size + 1 + 1 + 1) (numc false fun _ => 0) rfl rfl 70 (numc false fun _ => 0) (by simp only [grow_heap, alloc_heap_at, alloc_heap_past, setRow_alloc_at, setRow_alloc_past, grow_setRow, size_setRow, World.size_alloc, grow_lt, grow_lt1, grow_lt2, grow_lt3, grow_lt4, grow_lt5, grow_lt6, grow_self1, grow_self2, grow_self3, or_true, ltd2, ltd3, ltd4, ltd5, ltd6, ltd7, Nat.lt_add_one, true_or, if_true, ite_true]) (by rw [numc_size]; exact info30) (by simp only [numc_size]) (numc_one _ _) ?_) | (refine wpList_part rfl _ rfl (w.heap.size) rfl (true) (dg A) (by simp only [grow_heap, alloc_heap_at, alloc_heap_past, setRow_alloc_at, setRow_alloc_past, grow_setRow, size_setRow, World.size_alloc, grow_lt, grow_lt1, grow_lt2, grow_lt3, grow_lt4, grow_lt5, grow_lt6, grow_self1, grow_self2, grow_self3, or_true, ltd2, ltd3, ltd4, ltd5, ltd6, ltd7, Nat.lt_add_one, true_or, if_true, ite_true]) ?_) | (refine wpList_part rfl _ rfl (w.heap.size + 1) rfl (false) (dg B) (by simp only [grow_heap, alloc_heap_at, alloc_heap_past, setRow_alloc_at, setRow_alloc_past, grow_setRow, size_setRow, World.size_alloc, grow_lt, grow_lt1, grow_lt2, grow_lt3, grow_lt4, grow_lt5, grow_lt6, grow_self1, grow_self2, grow_self3, or_true, ltd2, ltd3, ltd4, ltd5, ltd6, ltd7, Nat.lt_add_one, true_or, if_true, ite_true]) ?_) | (go_at_call 64; first | ((with_reducible refine (k0.at_ _).mono ?_); rintro e w' ⟨rfl, xg, rfl⟩)))
  rw [← partOf_0 (A - B)]
  go_loopw [9, 10] (fun c i wr => ∃ k : Nat, i = .int .i64 k ∧ c = .int .i64 ((borrowN A B k : Nat) : Int) ∧ k ≤ 18 ∧ ∃ x, wr = grow ((((w.alloc (.cells (numc true (dg A)) 70)).alloc (.cells (numc false (dg B)) 70)).alloc (.cells (numc false fun _ => 0) 70)).alloc (.cells (numc false (partOf (A - B) k)) 70)) x) (fun _ i _ => (18 - intOf i).toNat)
  case atStart => exact ⟨0, rfl, by rw [borrow_0]; rfl, by omega, grow_of (by repeat (first | exact Below.refl _ _ | refine bel_then ?_ _ | refine bel_grow ?_ _ | refine bel_alloc ?_ _ | refine bel_drew ?_ | refine bel_set ?_ (by simp) _ | refine bel_setRow ?_ (by first | omega | simp) _))⟩
  case round =>
    obtain ⟨k, rfl, rfl, hk, xx, rfl⟩ := hrel
    by_cases hlt : k < 18
    · have e := step.out k
      have b1 := dg_bd A k
      have b2 := dg_bd B k
      have cl := borrow_le A B k
      obtain ⟨c, hc⟩ : ∃ c, borrowN A B k = c := ⟨_, rfl⟩
      rw [hc] at e cl ⊢
      clear hc step k0
      have i0 : (0 : Int) ≤ (k : Int) := by omega
      have i1 : (k : Int) < 18 := by omega
      by_cases hs : dg A k - dg B k - (c : Int) < 0
      · obtain ⟨e1, e2⟩ := e.1 hs
        have ps := partOf_s (A - B) k (dg A k - dg B k - (c : Int) + 65536) e1
        replace e1 := Lib.hid e1
        replace e2 := Lib.hid e2
        clear e
        go_wp2_with fail
        refine wp_region_grow (by kernel_rfl) (by kernel_rfl) ?_
        repeat (go_big_quiet_step ((fail)))
        refine wpQuiet_nil ?_
        rintro _ ⟨xg, rfl⟩
        go_wp2_with fail
        go_roundw
        case rel => exact ⟨k + 1, by go_num, by rw [e2.out]; rfl, by omega, grow_of (by repeat (first | exact Below.refl _ _ | refine bel_then ?_ _ | refine bel_grow ?_ _ | refine bel_alloc ?_ _ | refine bel_drew ?_ | refine bel_set ?_ (by simp) _ | refine bel_setRow ?_ (by first | omega | simp) _))⟩
        case measure => simp [intOf] <;> omega
      · obtain ⟨e1, e2⟩ := e.2 (by omega)
        have ps := partOf_s (A - B) k (dg A k - dg B k - (c : Int)) e1
        have hs2 : 0 ≤ dg A k - dg B k - (c : Int) := by omega
        replace e1 := Lib.hid e1
        replace e2 := Lib.hid e2
        clear e hs
        go_wp2_with fail
        refine wp_region_grow (by kernel_rfl) (by kernel_rfl) ?_
        repeat (go_big_quiet_step ((fail)))
        refine wpQuiet_nil ?_
        rintro _ ⟨xg, rfl⟩
        go_wp2_with fail
        go_roundw
        case rel => exact ⟨k + 1, by go_num, by rw [e2.out]; rfl, by omega, grow_of (by repeat (first | exact Below.refl _ _ | refine bel_then ?_ _ | refine bel_grow ?_ _ | refine bel_alloc ?_ _ | refine bel_drew ?_ | refine bel_set ?_ (by simp) _ | refine bel_setRow ?_ (by first | omega | simp) _))⟩
        case measure => simp [intOf] <;> omega
    · obtain rfl : k = 18 := by omega
      rw [e18.out]
      clear e18 step k0
      go_wp2_with (first | (refine wpList_part rfl _ rfl (w.heap.size + 1 + 1 + 1) rfl (false) (dg (A - B)) (by simp only [grow_heap, alloc_heap_at, alloc_heap_past, setRow_alloc_at, setRow_alloc_past, grow_setRow, size_setRow, World.size_alloc, grow_lt, grow_lt1, grow_lt2, grow_lt3, grow_lt4, grow_lt5, grow_lt6, grow_self1, grow_self2, grow_self3, or_true, ltd2, ltd3, ltd4, ltd5, ltd6, ltd7, Nat.lt_add_one, true_or, if_true, ite_true]) ?_) | (refine wpList_load_row rfl 70 _ rfl (w.heap.size + 1 + 1 + 1) rfl 70 (numc true (dg (A - B))) (0, 0) _ (by simp only [grow_heap, alloc_heap_at, alloc_heap_past, setRow_alloc_at, setRow_alloc_past, grow_setRow, size_setRow, World.size_alloc, grow_lt, grow_lt1, grow_lt2, grow_lt3, grow_lt4, grow_lt5, grow_lt6, grow_self1, grow_self2, grow_self3, or_true, ltd2, ltd3, ltd4, ltd5, ltd6, ltd7, Nat.lt_add_one, true_or, if_true, ite_true]) Try.underlying70 rfl (by rw [numc_size]; exact info30) ?_) | (refine wpList_store_row rfl 70 _ _ rfl (w.heap.size + 1 + 1) (numc true (dg (A - B))) rfl rfl 70 (numc false fun _ => 0) (by simp only [grow_heap, alloc_heap_at, alloc_heap_past, setRow_alloc_at, setRow_alloc_past, grow_setRow, size_setRow, World.size_alloc, grow_lt, grow_lt1, grow_lt2, grow_lt3, grow_lt4, grow_lt5, grow_lt6, grow_self1, grow_self2, grow_self3, or_true, ltd2, ltd3, ltd4, ltd5, ltd6, ltd7, Nat.lt_add_one, true_or, if_true, ite_true]) (by rw [numc_size]; exact info30) (by simp only [numc_size]) (numc_one _ _) ?_) | (go_at_call 41; first | ((with_reducible refine (z.at_ _).mono ?_); rintro e w' ⟨rfl, xg, rfl⟩)))
      refine bodyPost_ret (results_cell_row rfl _ _ (w.heap.size + 1 + 1) 70 (numc true (dg (A - B))) (0, 0) _ rfl (by simp only [grow_heap, alloc_heap_at, alloc_heap_past, setRow_alloc_at, setRow_alloc_past, grow_setRow, size_setRow, World.size_alloc, grow_lt, grow_lt1, grow_lt2, grow_lt3, grow_lt4, grow_lt5, grow_lt6, grow_self1, grow_self2, grow_self3, or_true, ltd2, ltd3, ltd4, ltd5, ltd6, ltd7, Nat.lt_add_one, true_or, if_true, ite_true]) Try.underlying70 rfl (by rw [numc_size]; exact info30)) rfl ⟨rfl, (by repeat (first | exact Below.refl _ _ | refine bel_then ?_ _ | refine bel_grow ?_ _ | refine bel_alloc ?_ _ | refine bel_drew ?_ | refine bel_set ?_ (by simp) _ | refine bel_setRow ?_ (by first | omega | simp) _))⟩

set_option maxRecDepth 100000 in
set_option maxHeartbeats 4000000 in
theorem diff_tf0 (A B : Nat) (ba : Big A) (bb : Big B) (h : B ≤ A) (hz : A = B) : Gives Try.prog 42 #[.agg (numc true (dg A)), .agg (numc false (dg B))] (.agg (numc false (dg (A - B)))) := by
  refine Gives.mk fun w => ?_
  have k0 := cmpDigits_dg A B ba bb
  obtain ⟨c, hc, h1⟩ : ∃ c, cmpOf (A : Int) (B : Int) = c ∧ 0 ≤ c := ⟨_, rfl, by unfold cmpOf; split <;> (try split) <;> omega⟩
  rw [hc] at k0
  have bd : Big (A - B) := Nat.lt_of_le_of_lt (Nat.sub_le A B) ba
  have z := zero_any (dg (A - B))
  rw [allZ_dg _ bd, show decide (A - B = 0) = true by simp; omega] at z
  have step := fun k => dg_diff A B k (by omega)
  replace step := Lib.hid step
  have e18 := Lib.hid (partOf_18 (A - B) false)
  clear ba bb h hc bd hz
  go_enter Try.func42, Try.ntmps42
  go_upto_region 1 with (first | (refine wpList_val rfl _ _ (alloc_num _ _ rfl _ _ rfl) ?_; simp only [World.size_alloc]) | (refine wpList_val rfl _ _ (build_num0 _ _ rfl _) ?_) | (refine wpList_store_row rfl 70 _ _ rfl (w.heap.size + 1 + 1 + 1) (numc false fun _ => 0) rfl rfl 70 (numc false fun _ => 0) (by simp only [grow_heap, alloc_heap_at, alloc_heap_past, setRow_alloc_at, setRow_alloc_past, grow_setRow, size_setRow, World.size_alloc, grow_lt, grow_lt1, grow_lt2, grow_lt3, grow_lt4, grow_lt5, grow_lt6, grow_self1, grow_self2, grow_self3, or_true, ltd2, ltd3, ltd4, ltd5, ltd6, ltd7, Nat.lt_add_one, true_or, if_true, ite_true]) (by rw [numc_size]; exact info30) (by simp only [numc_size]) (numc_one _ _) ?_))
  simp only [Act.put, List.setIfInBounds_toArray, List.set_cons_succ, List.set_cons_zero]
  go_wp2_with (first | (refine wpList_val rfl _ _ (alloc_num _ _ rfl _ _ rfl) ?_; simp only [World.size_alloc]) | (refine wpList_val rfl _ _ (build_num0 _ _ rfl _) ?_) | (refine wpList_store_row rfl 70 _ _ rfl (w.heap.size + 1 + 1 + 1) (numc false fun _ => 0) rfl rfl 70 (numc false fun _ => 0) (by simp only [grow_heap, alloc_heap_at, alloc_heap_past, setRow_alloc_at, setRow_alloc_past, grow_setRow, size_setRow, World.size_alloc, grow_lt, grow_lt1, grow_lt2, grow_lt3, grow_lt4, grow_lt5, grow_lt6, grow_self1, grow_self2, grow_self3, or_true, ltd2, ltd3, ltd4, ltd5, ltd6, ltd7, Nat.lt_add_one, true_or, if_true, ite_true]) (by rw [numc_size]; exact info30) (by simp only [numc_size]) (numc_one _ _) ?_) | (refine wpList_part rfl _ rfl (w.heap.size) rfl (true) (dg A) (by simp only [grow_heap, alloc_heap_at, alloc_heap_past, setRow_alloc_at, setRow_alloc_past, grow_setRow, size_setRow, World.size_alloc, grow_lt, grow_lt1, grow_lt2, grow_lt3, grow_lt4, grow_lt5, grow_lt6, grow_self1, grow_self2, grow_self3, or_true, ltd2, ltd3, ltd4, ltd5, ltd6, ltd7, Nat.lt_add_one, true_or, if_true, ite_true]) ?_) | (refine wpList_part rfl _ rfl (w.heap.size + 1) rfl (false) (dg B) (by simp only [grow_heap, alloc_heap_at, alloc_heap_past, setRow_alloc_at, setRow_alloc_past, grow_setRow, size_setRow, World.size_alloc, grow_lt, grow_lt1, grow_lt2, grow_lt3, grow_lt4, grow_lt5, grow_lt6, grow_self1, grow_self2, grow_self3, or_true, ltd2, ltd3, ltd4, ltd5, ltd6, ltd7, Nat.lt_add_one, true_or, if_true, ite_true]) ?_) | (go_at_call 64; first | ((with_reducible refine (k0.at_ _).mono ?_); rintro e w' ⟨rfl, xg, rfl⟩)))
  rw [← partOf_0 (A - B)]
  go_loopw [9, 10] (fun c i wr => ∃ k : Nat, i = .int .i64 k ∧ c = .int .i64 ((borrowN A B k : Nat) : Int) ∧ k ≤ 18 ∧ ∃ x, wr = grow ((((w.alloc (.cells (numc true (dg A)) 70)).alloc (.cells (numc false (dg B)) 70)).alloc (.cells (numc false fun _ => 0) 70)).alloc (.cells (numc false (partOf (A - B) k)) 70)) x) (fun _ i _ => (18 - intOf i).toNat)
  case atStart => exact ⟨0, rfl, by rw [borrow_0]; rfl, by omega, grow_of (by repeat (first | exact Below.refl _ _ | refine bel_then ?_ _ | refine bel_grow ?_ _ | refine bel_alloc ?_ _ | refine bel_drew ?_ | refine bel_set ?_ (by simp) _ | refine bel_setRow ?_ (by first | omega | simp) _))⟩
  case round =>
    obtain ⟨k, rfl, rfl, hk, xx, rfl⟩ := hrel
    by_cases hlt : k < 18
    · have e := step.out k
      have b1 := dg_bd A k
      have b2 := dg_bd B k
      have cl := borrow_le A B k
      obtain ⟨c, hc⟩ : ∃ c, borrowN A B k = c := ⟨_, rfl⟩
      rw [hc] at e cl ⊢
      clear hc step k0
      have i0 : (0 : Int) ≤ (k : Int) := by omega
      have i1 : (k : Int) < 18 := by omega
      by_cases hs : dg A k - dg B k - (c : Int) < 0
      · obtain ⟨e1, e2⟩ := e.1 hs
        have ps := partOf_s (A - B) k (dg A k - dg B k - (c : Int) + 65536) e1
        replace e1 := Lib.hid e1
        replace e2 := Lib.hid e2
        clear e
        go_wp2_with fail
        refine wp_region_grow (by kernel_rfl) (by kernel_rfl) ?_
        repeat (go_big_quiet_step ((fail)))
        refine wpQuiet_nil ?_
        rintro _ ⟨xg, rfl⟩
        go_wp2_with fail
        go_roundw
        case rel => exact ⟨k + 1, by go_num, by rw [e2.out]; rfl, by omega, grow_of (by repeat (first | exact Below.refl _ _ | refine bel_then ?_ _ | refine bel_grow ?_ _ | refine bel_alloc ?_ _ | refine bel_drew ?_ | refine bel_set ?_ (by simp) _ | refine bel_setRow ?_ (by first | omega | simp) _))⟩
        case measure => simp [intOf] <;> omega
      · obtain ⟨e1, e2⟩ := e.2 (by omega)
        have ps := partOf_s (A - B) k (dg A k - dg B k - (c : Int)) e1
        have hs2 : 0 ≤ dg A k - dg B k - (c : Int) := by omega
        replace e1 := Lib.hid e1
        replace e2 := Lib.hid e2
        clear e hs
        go_wp2_with fail
        refine wp_region_grow (by kernel_rfl) (by kernel_rfl) ?_
        repeat (go_big_quiet_step ((fail)))
        refine wpQuiet_nil ?_
        rintro _ ⟨xg, rfl⟩
        go_wp2_with fail
        go_roundw
        case rel => exact ⟨k + 1, by go_num, by rw [e2.out]; rfl, by omega, grow_of (by repeat (first | exact Below.refl _ _ | refine bel_then ?_ _ | refine bel_grow ?_ _ | refine bel_alloc ?_ _ | refine bel_drew ?_ | refine bel_set ?_ (by simp) _ | refine bel_setRow ?_ (by first | omega | simp) _))⟩
        case measure => simp [intOf] <;> omega
    · obtain rfl : k = 18 := by omega
      rw [e18.out]
      clear e18 step k0
      go_wp2_with (first | (refine wpList_part rfl _ rfl (w.heap.size + 1 + 1 + 1) rfl (false) (dg (A - B)) (by simp only [grow_heap, alloc_heap_at, alloc_heap_past, setRow_alloc_at, setRow_alloc_past, grow_setRow, size_setRow, World.size_alloc, grow_lt, grow_lt1, grow_lt2, grow_lt3, grow_lt4, grow_lt5, grow_lt6, grow_self1, grow_self2, grow_self3, or_true, ltd2, ltd3, ltd4, ltd5, ltd6, ltd7, Nat.lt_add_one, true_or, if_true, ite_true]) ?_) | (refine wpList_load_row rfl 70 _ rfl (w.heap.size + 1 + 1 + 1) rfl 70 (numc false (dg (A - B))) (0, 0) _ (by simp only [grow_heap, alloc_heap_at, alloc_heap_past, setRow_alloc_at, setRow_alloc_past, grow_setRow, size_setRow, World.size_alloc, grow_lt, grow_lt1, grow_lt2, grow_lt3, grow_lt4, grow_lt5, grow_lt6, grow_self1, grow_self2, grow_self3, or_true, ltd2, ltd3, ltd4, ltd5, ltd6, ltd7, Nat.lt_add_one, true_or, if_true, ite_true]) Try.underlying70 rfl (by rw [numc_size]; exact info30) ?_) | (refine wpList_store_row rfl 70 _ _ rfl (w.heap.size + 1 + 1) (numc false (dg (A - B))) rfl rfl 70 (numc false fun _ => 0) (by simp only [grow_heap, alloc_heap_at, alloc_heap_past, setRow_alloc_at, setRow_alloc_past, grow_setRow, size_setRow, World.size_alloc, grow_lt, grow_lt1, grow_lt2, grow_lt3, grow_lt4, grow_lt5, grow_lt6, grow_self1, grow_self2, grow_self3, or_true, ltd2, ltd3, ltd4, ltd5, ltd6, ltd7, Nat.lt_add_one, true_or, if_true, ite_true]) (by rw [numc_size]; exact info30) (by simp only [numc_size]) (numc_one _ _) ?_) | (go_at_call 41; first | ((with_reducible refine (z.at_ _).mono ?_); rintro e w' ⟨rfl, xg, rfl⟩)))
      refine bodyPost_ret (results_cell_row rfl _ _ (w.heap.size + 1 + 1) 70 (numc false (dg (A - B))) (0, 0) _ rfl (by simp only [grow_heap, alloc_heap_at, alloc_heap_past, setRow_alloc_at, setRow_alloc_past, grow_setRow, size_setRow, World.size_alloc, grow_lt, grow_lt1, grow_lt2, grow_lt3, grow_lt4, grow_lt5, grow_lt6, grow_self1, grow_self2, grow_self3, or_true, ltd2, ltd3, ltd4, ltd5, ltd6, ltd7, Nat.lt_add_one, true_or, if_true, ite_true]) Try.underlying70 rfl (by rw [numc_size]; exact info30)) rfl ⟨rfl, (by repeat (first | exact Below.refl _ _ | refine bel_then ?_ _ | refine bel_grow ?_ _ | refine bel_alloc ?_ _ | refine bel_drew ?_ | refine bel_set ?_ (by simp) _ | refine bel_setRow ?_ (by first | omega | simp) _))⟩

set_option maxRecDepth 100000 in
set_option maxHeartbeats 4000000 in
theorem diff_ft (A B : Nat) (ba : Big A) (bb : Big B) (h : B ≤ A) : Gives Try.prog 42 #[.agg (numc false (dg A)), .agg (numc true (dg B))] (.agg (numc false (dg (A - B)))) := by
  refine Gives.mk fun w => ?_
  have k0 := cmpDigits_dg A B ba bb
  obtain ⟨c, hc, h1⟩ : ∃ c, cmpOf (A : Int) (B : Int) = c ∧ 0 ≤ c := ⟨_, rfl, by unfold cmpOf; split <;> (try split) <;> omega⟩
  rw [hc] at k0
  have bd : Big (A - B) := Nat.lt_of_le_of_lt (Nat.sub_le A B) ba
  have step := fun k => dg_diff A B k (by omega)
  replace step := Lib.hid step
  have e18 := Lib.hid (partOf_18 (A - B) false)
  clear ba bb h hc bd
  go_enter Try.func42, Try.ntmps42
  go_upto_region 1 with (first | (refine wpList_val rfl _ _ (alloc_num _ _ rfl _ _ rfl) ?_; simp only [World.size_alloc]) | (refine wpList_val rfl _ _ (build_num0 _ _ rfl _) ?_) | (refine wpList_store_row rfl 70 _ _ rfl (w.heap.size + 1 + 1 + 1) (numc false fun _ => 0) rfl rfl 70 (numc false fun _ => 0) (by simp only [grow_heap, alloc_heap_at, alloc_heap_past, setRow_alloc_at, setRow_alloc_past, grow_setRow, size_setRow, World.size_alloc, grow_lt, grow_lt1, grow_lt2, grow_lt3, grow_lt4, grow_lt5, grow_lt6, grow_self1, grow_self2, grow_self3, or_true, ltd2, ltd3, ltd4, ltd5, ltd6, ltd7, Nat.lt_add_one, true_or, if_true, ite_true]) (by rw [numc_size]; exact info30) (by simp only [numc_size]) (numc_one _ _) ?_))
  simp only [Act.put, List.setIfInBounds_toArray, List.set_cons_succ, List.set_cons_zero]
  go_wp2_with (first | (refine wpList_val rfl _ _ (alloc_num _ _ rfl _ _ rfl) ?_; simp only [World.size_alloc]) | (refine wpList_val rfl _ _ (build_num0 _ _ rfl _) ?_) | (refine wpList_store_row rfl 70 _ _ rfl (w.heap.size + 1 + 1 + 1) (numc false fun _ => 0) rfl rfl 70 (numc false fun _ => 0) (by simp only [grow_heap, alloc_heap_at, alloc_heap_past, setRow_alloc_at, setRow_alloc_past, grow_setRow, size_setRow, World.size_alloc, grow_lt, grow_lt1, grow_lt2, grow_lt3, grow_lt4, grow_lt5, grow_lt6, grow_self1, grow_self2, grow_self3, or_true, ltd2, ltd3, ltd4, ltd5, ltd6, ltd7, Nat.lt_add_one, true_or, if_true, ite_true]) (by rw [numc_size]; exact info30) (by simp only [numc_size]) (numc_one _ _) ?_) | (refine wpList_part rfl _ rfl (w.heap.size) rfl (false) (dg A) (by simp only [grow_heap, alloc_heap_at, alloc_heap_past, setRow_alloc_at, setRow_alloc_past, grow_setRow, size_setRow, World.size_alloc, grow_lt, grow_lt1, grow_lt2, grow_lt3, grow_lt4, grow_lt5, grow_lt6, grow_self1, grow_self2, grow_self3, or_true, ltd2, ltd3, ltd4, ltd5, ltd6, ltd7, Nat.lt_add_one, true_or, if_true, ite_true]) ?_) | (refine wpList_part rfl _ rfl (w.heap.size + 1) rfl (true) (dg B) (by simp only [grow_heap, alloc_heap_at, alloc_heap_past, setRow_alloc_at, setRow_alloc_past, grow_setRow, size_setRow, World.size_alloc, grow_lt, grow_lt1, grow_lt2, grow_lt3, grow_lt4, grow_lt5, grow_lt6, grow_self1, grow_self2, grow_self3, or_true, ltd2, ltd3, ltd4, ltd5, ltd6, ltd7, Nat.lt_add_one, true_or, if_true, ite_true]) ?_) | (go_at_call 64; first | ((with_reducible refine (k0.at_ _).mono ?_); rintro e w' ⟨rfl, xg, rfl⟩)))
  rw [← partOf_0 (A - B)]
  go_loopw [9, 10] (fun c i wr => ∃ k : Nat, i = .int .i64 k ∧ c = .int .i64 ((borrowN A B k : Nat) : Int) ∧ k ≤ 18 ∧ ∃ x, wr = grow ((((w.alloc (.cells (numc false (dg A)) 70)).alloc (.cells (numc true (dg B)) 70)).alloc (.cells (numc false fun _ => 0) 70)).alloc (.cells (numc false (partOf (A - B) k)) 70)) x) (fun _ i _ => (18 - intOf i).toNat)
  case atStart => exact ⟨0, rfl, by rw [borrow_0]; rfl, by omega, grow_of (by repeat (first | exact Below.refl _ _ | refine bel_then ?_ _ | refine bel_grow ?_ _ | refine bel_alloc ?_ _ | refine bel_drew ?_ | refine bel_set ?_ (by simp) _ | refine bel_setRow ?_ (by first | omega | simp) _))⟩
  case round =>
    obtain ⟨k, rfl, rfl, hk, xx, rfl⟩ := hrel
    by_cases hlt : k < 18
    · have e := step.out k
      have b1 := dg_bd A k
      have b2 := dg_bd B k
      have cl := borrow_le A B k
      obtain ⟨c, hc⟩ : ∃ c, borrowN A B k = c := ⟨_, rfl⟩
      rw [hc] at e cl ⊢
      clear hc step k0
      have i0 : (0 : Int) ≤ (k : Int) := by omega
      have i1 : (k : Int) < 18 := by omega
      by_cases hs : dg A k - dg B k - (c : Int) < 0
      · obtain ⟨e1, e2⟩ := e.1 hs
        have ps := partOf_s (A - B) k (dg A k - dg B k - (c : Int) + 65536) e1
        replace e1 := Lib.hid e1
        replace e2 := Lib.hid e2
        clear e
        go_wp2_with fail
        refine wp_region_grow (by kernel_rfl) (by kernel_rfl) ?_
        repeat (go_big_quiet_step ((fail)))
        refine wpQuiet_nil ?_
        rintro _ ⟨xg, rfl⟩
        go_wp2_with fail
        go_roundw
        case rel => exact ⟨k + 1, by go_num, by rw [e2.out]; rfl, by omega, grow_of (by repeat (first | exact Below.refl _ _ | refine bel_then ?_ _ | refine bel_grow ?_ _ | refine bel_alloc ?_ _ | refine bel_drew ?_ | refine bel_set ?_ (by simp) _ | refine bel_setRow ?_ (by first | omega | simp) _))⟩
        case measure => simp [intOf] <;> omega
      · obtain ⟨e1, e2⟩ := e.2 (by omega)
        have ps := partOf_s (A - B) k (dg A k - dg B k - (c : Int)) e1
        have hs2 : 0 ≤ dg A k - dg B k - (c : Int) := by omega
        replace e1 := Lib.hid e1
        replace e2 := Lib.hid e2
        clear e hs
        go_wp2_with fail
        refine wp_region_grow (by kernel_rfl) (by kernel_rfl) ?_
        repeat (go_big_quiet_step ((fail)))
        refine wpQuiet_nil ?_
        rintro _ ⟨xg, rfl⟩
        go_wp2_with fail
        go_roundw
        case rel => exact ⟨k + 1, by go_num, by rw [e2.out]; rfl, by omega, grow_of (by repeat (first | exact Below.refl _ _ | refine bel_then ?_ _ | refine bel_grow ?_ _ | refine bel_alloc ?_ _ | refine bel_drew ?_ | refine bel_set ?_ (by simp) _ | refine bel_setRow ?_ (by first | omega | simp) _))⟩
        case measure => simp [intOf] <;> omega
    · obtain rfl : k = 18 := by omega
      rw [e18.out]
      clear e18 step k0
      go_wp2_with (first | (refine wpList_part rfl _ rfl (w.heap.size + 1 + 1 + 1) rfl (false) (dg (A - B)) (by simp only [grow_heap, alloc_heap_at, alloc_heap_past, setRow_alloc_at, setRow_alloc_past, grow_setRow, size_setRow, World.size_alloc, grow_lt, grow_lt1, grow_lt2, grow_lt3, grow_lt4, grow_lt5, grow_lt6, grow_self1, grow_self2, grow_self3, or_true, ltd2, ltd3, ltd4, ltd5, ltd6, ltd7, Nat.lt_add_one, true_or, if_true, ite_true]) ?_) | (refine wpList_load_row rfl 70 _ rfl (w.heap.size + 1 + 1 + 1) rfl 70 (numc false (dg (A - B))) (0, 0) _ (by simp only [grow_heap, alloc_heap_at, alloc_heap_past, setRow_alloc_at, setRow_alloc_past, grow_setRow, size_setRow, World.size_alloc, grow_lt, grow_lt1, grow_lt2, grow_lt3, grow_lt4, grow_lt5, grow_lt6, grow_self1, grow_self2, grow_self3, or_true, ltd2, ltd3, ltd4, ltd5, ltd6, ltd7, Nat.lt_add_one, true_or, if_true, ite_true]) Try.underlying70 rfl (by rw [numc_size]; exact info30) ?_) | (refine wpList_store_row rfl 70 _ _ rfl (w.heap.size + 1 + 1) (numc false (dg (A - B))) rfl rfl 70 (numc false fun _ => 0) (by simp only [grow_heap, alloc_heap_at, alloc_heap_past, setRow_alloc_at, setRow_alloc_past, grow_setRow, size_setRow, World.size_alloc, grow_lt, grow_lt1, grow_lt2, grow_lt3, grow_lt4, grow_lt5, grow_lt6, grow_self1, grow_self2, grow_self3, or_true, ltd2, ltd3, ltd4, ltd5, ltd6, ltd7, Nat.lt_add_one, true_or, if_true, ite_true]) (by rw [numc_size]; exact info30) (by simp only [numc_size]) (numc_one _ _) ?_))
      refine bodyPost_ret (results_cell_row rfl _ _ (w.heap.size + 1 + 1) 70 (numc false (dg (A - B))) (0, 0) _ rfl (by simp only [grow_heap, alloc_heap_at, alloc_heap_past, setRow_alloc_at, setRow_alloc_past, grow_setRow, size_setRow, World.size_alloc, grow_lt, grow_lt1, grow_lt2, grow_lt3, grow_lt4, grow_lt5, grow_lt6, grow_self1, grow_self2, grow_self3, or_true, ltd2, ltd3, ltd4, ltd5, ltd6, ltd7, Nat.lt_add_one, true_or, if_true, ite_true]) Try.underlying70 rfl (by rw [numc_size]; exact info30)) rfl ⟨rfl, (by repeat (first | exact Below.refl _ _ | refine bel_then ?_ _ | refine bel_grow ?_ _ | refine bel_alloc ?_ _ | refine bel_drew ?_ | refine bel_set ?_ (by simp) _ | refine bel_setRow ?_ (by first | omega | simp) _))⟩

set_option maxRecDepth 100000 in
set_option maxHeartbeats 4000000 in
theorem diff_tf_s (A B : Nat) (ba : Big A) (bb : Big B) (h : B < A) : Gives Try.prog 42 #[.agg (numc true (dg B)), .agg (numc false (dg A))] (.agg (numc false (dg (A - B)))) := by
  refine Gives.mk fun w => ?_
  have k0 := cmpDigits_dg B A bb ba
  obtain ⟨c, hc, h1⟩ : ∃ c, cmpOf (B : Int) (A : Int) = c ∧ c < 0 := ⟨_, rfl, by unfold cmpOf; split <;> (try split) <;> omega⟩
  rw [hc] at k0
  have bd : Big (A - B) := Nat.lt_of_le_of_lt (Nat.sub_le A B) ba
  have step := fun k => dg_diff A B k (by omega)
  replace step := Lib.hid step
  have e18 := Lib.hid (partOf_18 (A - B) false)
  clear ba bb h hc bd
  go_enter Try.func42, Try.ntmps42
  go_upto_region 1 with (first | (refine wpList_val rfl _ _ (alloc_num _ _ rfl _ _ rfl) ?_; simp only [World.size_alloc]) | (refine wpList_val rfl _ _ (build_num0 _ _ rfl _) ?_) | (refine wpList_store_row rfl 70 _ _ rfl (w.heap.size + 1 + 1 + 1) (numc false fun _ => 0) rfl rfl 70 (numc false fun _ => 0) (by simp only [grow_heap, alloc_heap_at, alloc_heap_past, setRow_alloc_at, setRow_alloc_past, grow_setRow, size_setRow, World.size_alloc, grow_lt, grow_lt1, grow_lt2, grow_lt3, grow_lt4, grow_lt5, grow_lt6, grow_self1, grow_self2, grow_self3, or_true, ltd2, ltd3, ltd4, ltd5, ltd6, ltd7, Nat.lt_add_one, true_or, if_true, ite_true]) (by rw [numc_size]; exact info30) (by simp only [numc_size]) (numc_one _ _) ?_))
  simp only [Act.put, List.setIfInBounds_toArray, List.set_cons_succ, List.set_cons_zero]
  go_wp2_with (first | (refine wpList_val rfl _ _ (alloc_num _ _ rfl _ _ rfl) ?_; simp only [World.size_alloc]) | (refine wpList_val rfl _ _ (build_num0 _ _ rfl _) ?_) | (refine wpList_store_row rfl 70 _ _ rfl (w.heap.size) (numc false (dg A)) rfl rfl 70 (numc true (dg B)) (by simp only [grow_heap, alloc_heap_at, alloc_heap_past, setRow_alloc_at, setRow_alloc_past, grow_setRow, size_setRow, World.size_alloc, grow_lt, grow_lt1, grow_lt2, grow_lt3, grow_lt4, grow_lt5, grow_lt6, grow_self1, grow_self2, grow_self3, or_true, ltd2, ltd3, ltd4, ltd5, ltd6, ltd7, Nat.lt_add_one, true_or, if_true, ite_true]) (by rw [numc_size]; exact info30) (by simp only [numc_size]) (numc_one _ _) ?_) | (refine wpList_store_row rfl 70 _ _ rfl (w.heap.size + 1) (numc true (dg B)) rfl rfl 70 (numc false (dg A)) (by simp only [grow_heap, alloc_heap_at, alloc_heap_past, setRow_alloc_at, setRow_alloc_past, grow_setRow, size_setRow, World.size_alloc, grow_lt, grow_lt1, grow_lt2, grow_lt3, grow_lt4, grow_lt5, grow_lt6, grow_self1, grow_self2, grow_self3, or_true, ltd2, ltd3, ltd4, ltd5, ltd6, ltd7, Nat.lt_add_one, true_or, if_true, ite_true]) (by rw [numc_size]; exact info30) (by simp only [numc_size]) (numc_one _ _) ?_) | (refine wpList_store_row rfl 70 _ _ rfl (w.heap.size + 1 + 1 + 1) (numc false fun _ => 0) rfl rfl 70 (numc false fun _ => 0) (by simp only [grow_heap, alloc_heap_at, alloc_heap_past, setRow_alloc_at, setRow_alloc_past, grow_setRow, size_setRow, World.size_alloc, grow_lt, grow_lt1, grow_lt2, grow_lt3, grow_lt4, grow_lt5, grow_lt6, grow_self1, grow_self2, grow_self3, or_true, ltd2, ltd3, ltd4, ltd5, ltd6, ltd7, Nat.lt_add_one, true_or, if_true, ite_true]) (by rw [numc_size]; exact info30) (by simp only [numc_size]) (numc_one _ _) ?_) | (refine wpList_part rfl _ rfl (w.heap.size) rfl (true) (dg B) (by simp only [grow_heap, alloc_heap_at, alloc_heap_past, setRow_alloc_at, setRow_alloc_past, grow_setRow, size_setRow, World.size_alloc, grow_lt, grow_lt1, grow_lt2, grow_lt3, grow_lt4, grow_lt5, grow_lt6, grow_self1, grow_self2, grow_self3, or_true, ltd2, ltd3, ltd4, ltd5, ltd6, ltd7, Nat.lt_add_one, true_or, if_true, ite_true]) ?_) | (refine wpList_part rfl _ rfl (w.heap.size + 1) rfl (false) (dg A) (by simp only [grow_heap, alloc_heap_at, alloc_heap_past, setRow_alloc_at, setRow_alloc_past, grow_setRow, size_setRow, World.size_alloc, grow_lt, grow_lt1, grow_lt2, grow_lt3, grow_lt4, grow_lt5, grow_lt6, grow_self1, grow_self2, grow_self3, or_true, ltd2, ltd3, ltd4, ltd5, ltd6, ltd7, Nat.lt_add_one, true_or, if_true, ite_true]) ?_) | (refine wpList_load_row rfl 70 _ rfl (w.heap.size + 1) rfl 70 (numc false (dg A)) (0, 0) _ (by simp only [grow_heap, alloc_heap_at, alloc_heap_past, setRow_alloc_at, setRow_alloc_past, grow_setRow, size_setRow, World.size_alloc, grow_lt, grow_lt1, grow_lt2, grow_lt3, grow_lt4, grow_lt5, grow_lt6, grow_self1, grow_self2, grow_self3, or_true, ltd2, ltd3, ltd4, ltd5, ltd6, ltd7, Nat.lt_add_one, true_or, if_true, ite_true]) Try.underlying70 rfl (by rw [numc_size]; exact info30) ?_) | (refine wpList_load_row rfl 70 _ rfl (w.heap.size) rfl 70 (numc true (dg B)) (0, 0) _ (by simp only [grow_heap, alloc_heap_at, alloc_heap_past, setRow_alloc_at, setRow_alloc_past, grow_setRow, size_setRow, World.size_alloc, grow_lt, grow_lt1, grow_lt2, grow_lt3, grow_lt4, grow_lt5, grow_lt6, grow_self1, grow_self2, grow_self3, or_true, ltd2, ltd3, ltd4, ltd5, ltd6, ltd7, Nat.lt_add_one, true_or, if_true, ite_true]) Try.underlying70 rfl (by rw [numc_size]; exact info30) ?_) | (go_at_call 64; first | ((with_reducible refine (k0.at_ _).mono ?_); rintro e w' ⟨rfl, xg, rfl⟩)))
  rw [← partOf_0 (A - B)]
  go_loopw [9, 10] (fun c i wr => ∃ k : Nat, i = .int .i64 k ∧ c = .int .i64 ((borrowN A B k : Nat) : Int) ∧ k ≤ 18 ∧ ∃ x, wr = grow ((((w.alloc (.cells (numc false (dg A)) 70)).alloc (.cells (numc true (dg B)) 70)).alloc (.cells (numc false fun _ => 0) 70)).alloc (.cells (numc false (partOf (A - B) k)) 70)) x) (fun _ i _ => (18 - intOf i).toNat)
  case atStart => exact ⟨0, rfl, by rw [borrow_0]; rfl, by omega, grow_of (by repeat (first | exact Below.refl _ _ | refine bel_then ?_ _ | refine bel_grow ?_ _ | refine bel_alloc ?_ _ | refine bel_drew ?_ | refine bel_set ?_ (by simp) _ | refine bel_setRow ?_ (by first | omega | simp) _))⟩
  case round =>
    obtain ⟨k, rfl, rfl, hk, xx, rfl⟩ := hrel
    by_cases hlt : k < 18
    · have e := step.out k
      have b1 := dg_bd A k
      have b2 := dg_bd B k
      have cl := borrow_le A B k
      obtain ⟨c, hc⟩ : ∃ c, borrowN A B k = c := ⟨_, rfl⟩
      rw [hc] at e cl ⊢
      clear hc step k0
      have i0 : (0 : Int) ≤ (k : Int) := by omega
      have i1 : (k : Int) < 18 := by omega
      by_cases hs : dg A k - dg B k - (c : Int) < 0
      · obtain ⟨e1, e2⟩ := e.1 hs
        have ps := partOf_s (A - B) k (dg A k - dg B k - (c : Int) + 65536) e1
        replace e1 := Lib.hid e1
        replace e2 := Lib.hid e2
        clear e
        go_wp2_with fail
        refine wp_region_grow (by kernel_rfl) (by kernel_rfl) ?_
        repeat (go_big_quiet_step ((fail)))
        refine wpQuiet_nil ?_
        rintro _ ⟨xg, rfl⟩
        go_wp2_with fail
        go_roundw
        case rel => exact ⟨k + 1, by go_num, by rw [e2.out]; rfl, by omega, grow_of (by repeat (first | exact Below.refl _ _ | refine bel_then ?_ _ | refine bel_grow ?_ _ | refine bel_alloc ?_ _ | refine bel_drew ?_ | refine bel_set ?_ (by simp) _ | refine bel_setRow ?_ (by first | omega | simp) _))⟩
        case measure => simp [intOf] <;> omega
      · obtain ⟨e1, e2⟩ := e.2 (by omega)
        have ps := partOf_s (A - B) k (dg A k - dg B k - (c : Int)) e1
        have hs2 : 0 ≤ dg A k - dg B k - (c : Int) := by omega
        replace e1 := Lib.hid e1
        replace e2 := Lib.hid e2
        clear e hs
        go_wp2_with fail
        refine wp_region_grow (by kernel_rfl) (by kernel_rfl) ?_
        repeat (go_big_quiet_step ((fail)))
        refine wpQuiet_nil ?_
        rintro _ ⟨xg, rfl⟩
        go_wp2_with fail
        go_roundw
        case rel => exact ⟨k + 1, by go_num, by rw [e2.out]; rfl, by omega, grow_of (by repeat (first | exact Below.refl _ _ | refine bel_then ?_ _ | refine bel_grow ?_ _ | refine bel_alloc ?_ _ | refine bel_drew ?_ | refine bel_set ?_ (by simp) _ | refine bel_setRow ?_ (by first | omega | simp) _))⟩
        case measure => simp [intOf] <;> omega
    · obtain rfl : k = 18 := by omega
      rw [e18.out]
      clear e18 step k0
      go_wp2_with (first | (refine wpList_part rfl _ rfl (w.heap.size + 1 + 1 + 1) rfl (false) (dg (A - B)) (by simp only [grow_heap, alloc_heap_at, alloc_heap_past, setRow_alloc_at, setRow_alloc_past, grow_setRow, size_setRow, World.size_alloc, grow_lt, grow_lt1, grow_lt2, grow_lt3, grow_lt4, grow_lt5, grow_lt6, grow_self1, grow_self2, grow_self3, or_true, ltd2, ltd3, ltd4, ltd5, ltd6, ltd7, Nat.lt_add_one, true_or, if_true, ite_true]) ?_) | (refine wpList_load_row rfl 70 _ rfl (w.heap.size + 1 + 1 + 1) rfl 70 (numc false (dg (A - B))) (0, 0) _ (by simp only [grow_heap, alloc_heap_at, alloc_heap_past, setRow_alloc_at, setRow_alloc_past, grow_setRow, size_setRow, World.size_alloc, grow_lt, grow_lt1, grow_lt2, grow_lt3, grow_lt4, grow_lt5, grow_lt6, grow_self1, grow_self2, grow_self3, or_true, ltd2, ltd3, ltd4, ltd5, ltd6, ltd7, Nat.lt_add_one, true_or, if_true, ite_true]) Try.underlying70 rfl (by rw [numc_size]; exact info30) ?_) | (refine wpList_store_row rfl 70 _ _ rfl (w.heap.size + 1 + 1) (numc false (dg (A - B))) rfl rfl 70 (numc false fun _ => 0) (by simp only [grow_heap, alloc_heap_at, alloc_heap_past, setRow_alloc_at, setRow_alloc_past, grow_setRow, size_setRow, World.size_alloc, grow_lt, grow_lt1, grow_lt2, grow_lt3, grow_lt4, grow_lt5, grow_lt6, grow_self1, grow_self2, grow_self3, or_true, ltd2, ltd3, ltd4, ltd5, ltd6, ltd7, Nat.lt_add_one, true_or, if_true, ite_true]) (by rw [numc_size]; exact info30) (by simp only [numc_size]) (numc_one _ _) ?_))
      refine bodyPost_ret (results_cell_row rfl _ _ (w.heap.size + 1 + 1) 70 (numc false (dg (A - B))) (0, 0) _ rfl (by simp only [grow_heap, alloc_heap_at, alloc_heap_past, setRow_alloc_at, setRow_alloc_past, grow_setRow, size_setRow, World.size_alloc, grow_lt, grow_lt1, grow_lt2, grow_lt3, grow_lt4, grow_lt5, grow_lt6, grow_self1, grow_self2, grow_self3, or_true, ltd2, ltd3, ltd4, ltd5, ltd6, ltd7, Nat.lt_add_one, true_or, if_true, ite_true]) Try.underlying70 rfl (by rw [numc_size]; exact info30)) rfl ⟨rfl, (by repeat (first | exact Below.refl _ _ | refine bel_then ?_ _ | refine bel_grow ?_ _ | refine bel_alloc ?_ _ | refine bel_drew ?_ | refine bel_set ?_ (by simp) _ | refine bel_setRow ?_ (by first | omega | simp) _))⟩

set_option maxRecDepth 100000 in
set_option maxHeartbeats 4000000 in
theorem diff_ft_s (A B : Nat) (ba : Big A) (bb : Big B) (h : B < A) (hz : A ≠ B) : Gives Try.prog 42 #[.agg (numc false (dg B)), .agg (numc true (dg A))] (.agg (numc true (dg (A - B)))) := by
  refine Gives.mk fun w => ?_
  have k0 := cmpDigits_dg B A bb ba
  obtain ⟨c, hc, h1⟩ : ∃ c, cmpOf (B : Int) (A : Int) = c ∧ c < 0 := ⟨_, rfl, by unfold cmpOf; split <;> (try split) <;> omega⟩
  rw [hc] at k0
  have bd : Big (A - B) := Nat.lt_of_le_of_lt (Nat.sub_le A B) ba
  have z := zero_any (dg (A - B))
  rw [allZ_dg _ bd, show decide (A - B = 0) = false by simp; omega] at z
  have step := fun k => dg_diff A B k (by omega)
  replace step := Lib.hid step
  have e18 := Lib.hid (partOf_18 (A - B) false)
  clear ba bb h hc bd hz
  go_enter Try.func42, Try.ntmps42
  go_upto_region 1 with (first | (refine wpList_val rfl _ _ (alloc_num _ _ rfl _ _ rfl) ?_; simp only [World.size_alloc]) | (refine wpList_val rfl _ _ (build_num0 _ _ rfl _) ?_) | (refine wpList_store_row rfl 70 _ _ rfl (w.heap.size + 1 + 1 + 1) (numc false fun _ => 0) rfl rfl 70 (numc false fun _ => 0) (by simp only [grow_heap, alloc_heap_at, alloc_heap_past, setRow_alloc_at, setRow_alloc_past, grow_setRow, size_setRow, World.size_alloc, grow_lt, grow_lt1, grow_lt2, grow_lt3, grow_lt4, grow_lt5, grow_lt6, grow_self1, grow_self2, grow_self3, or_true, ltd2, ltd3, ltd4, ltd5, ltd6, ltd7, Nat.lt_add_one, true_or, if_true, ite_true]) (by rw [numc_size]; exact info30) (by simp only [numc_size]) (numc_one _ _) ?_))
  simp only [Act.put, List.setIfInBounds_toArray, List.set_cons_succ, List.set_cons_zero]
  go_wp2_with (first | (refine wpList_val rfl _ _ (alloc_num _ _ rfl _ _ rfl) ?_; simp only [World.size_alloc]) | (refine wpList_val rfl _ _ (build_num0 _ _ rfl _) ?_) | (refine wpList_store_row rfl 70 _ _ rfl (w.heap.size) (numc true (dg A)) rfl rfl 70 (numc false (dg B)) (by simp only [grow_heap, alloc_heap_at, alloc_heap_past, setRow_alloc_at, setRow_alloc_past, grow_setRow, size_setRow, World.size_alloc, grow_lt, grow_lt1, grow_lt2, grow_lt3, grow_lt4, grow_lt5, grow_lt6, grow_self1, grow_self2, grow_self3, or_true, ltd2, ltd3, ltd4, ltd5, ltd6, ltd7, Nat.lt_add_one, true_or, if_true, ite_true]) (by rw [numc_size]; exact info30) (by simp only [numc_size]) (numc_one _ _) ?_) | (refine wpList_store_row rfl 70 _ _ rfl (w.heap.size + 1) (numc false (dg B)) rfl rfl 70 (numc true (dg A)) (by simp only [grow_heap, alloc_heap_at, alloc_heap_past, setRow_alloc_at, setRow_alloc_past, grow_setRow, size_setRow, World.size_alloc, grow_lt, grow_lt1, grow_lt2, grow_lt3, grow_lt4, grow_lt5, grow_lt6, grow_self1, grow_self2, grow_self3, or_true, ltd2, ltd3, ltd4, ltd5, ltd6, ltd7, Nat.lt_add_one, true_or, if_true, ite_true]) (by rw [numc_size]; exact info30) (by simp only [numc_size]) (numc_one _ _) ?_) | (refine wpList_store_row rfl 70 _ _ rfl (w.heap.size + 1 + 1 + 1) (numc false fun _ => 0) rfl rfl 70 (numc false fun _ => 0) (by simp only [grow_heap, alloc_heap_at, alloc_heap_past, setRow_alloc_at, setRow_alloc_past, grow_setRow, size_setRow, World.size_alloc, grow_lt, grow_lt1, grow_lt2, grow_lt3, grow_lt4, grow_lt5, grow_lt6, grow_self1, grow_self2, grow_self3, or_true, ltd2, ltd3, ltd4, ltd5, ltd6, ltd7, Nat.lt_add_one, true_or, if_true, ite_true]) (by rw [numc_size]; exact info30) (by simp only [numc_size]) (numc_one _ _) ?_) | (refine wpList_part rfl _ rfl (w.heap.size) rfl (false) (dg B) (by simp only [grow_heap, alloc_heap_at, alloc_heap_past, setRow_alloc_at, setRow_alloc_past, grow_setRow, size_setRow, World.size_alloc, grow_lt, grow_lt1, grow_lt2, grow_lt3, grow_lt4, grow_lt5, grow_lt6, grow_self1, grow_self2, grow_self3, or_true, ltd2, ltd3, ltd4, ltd5, ltd6, ltd7, Nat.lt_add_one, true_or, if_true, ite_true]) ?_) | (refine wpList_part rfl _ rfl (w.heap.size + 1) rfl (true) (dg A) (by simp only [grow_heap, alloc_heap_at, alloc_heap_past, setRow_alloc_at, setRow_alloc_past, grow_setRow, size_setRow, World.size_alloc, grow_lt, grow_lt1, grow_lt2, grow_lt3, grow_lt4, grow_lt5, grow_lt6, grow_self1, grow_self2, grow_self3, or_true, ltd2, ltd3, ltd4, ltd5, ltd6, ltd7, Nat.lt_add_one, true_or, if_true, ite_true]) ?_) | (refine wpList_load_row rfl 70 _ rfl (w.heap.size + 1) rfl 70 (numc true (dg A)) (0, 0) _ (by simp only [grow_heap, alloc_heap_at, alloc_heap_past, setRow_alloc_at, setRow_alloc_past, grow_setRow, size_setRow, World.size_alloc, grow_lt, grow_lt1, grow_lt2, grow_lt3, grow_lt4, grow_lt5, grow_lt6, grow_self1, grow_self2, grow_self3, or_true, ltd2, ltd3, ltd4, ltd5, ltd6, ltd7, Nat.lt_add_one, true_or, if_true, ite_true]) Try.underlying70 rfl (by rw [numc_size]; exact info30) ?_) | (refine wpList_load_row rfl 70 _ rfl (w.heap.size) rfl 70 (numc false (dg B)) (0, 0) _ (by simp only [grow_heap, alloc_heap_at, alloc_heap_past, setRow_alloc_at, setRow_alloc_past, grow_setRow, size_setRow, World.size_alloc, grow_lt, grow_lt1, grow_lt2, grow_lt3, grow_lt4, grow_lt5, grow_lt6, grow_self1, grow_self2, grow_self3, or_true, ltd2, ltd3, ltd4, ltd5, ltd6, ltd7, Nat.lt_add_one, true_or, if_true, ite_true]) Try.underlying70 rfl (by rw [numc_size]; exact info30) ?_) | (go_at_call 64; first | ((with_reducible refine (k0.at_ _).mono ?_); rintro e w' ⟨rfl, xg, rfl⟩)))
  rw [← partOf_0 (A - B)]
  go_loopw [9, 10] (fun c i wr => ∃ k : Nat, i = .int .i64 k ∧ c = .int .i64 ((borrowN A B k : Nat) : Int) ∧ k ≤ 18 ∧ ∃ x, wr = grow ((((w.alloc (.cells (numc true (dg A)) 70)).alloc (.cells (numc false (dg B)) 70)).alloc (.cells (numc false fun _ => 0) 70)).alloc (.cells (numc false (partOf (A - B) k)) 70)) x) (fun _ i _ => (18 - intOf i).toNat)
  case atStart => exact ⟨0, rfl, by rw [borrow_0]; rfl, by omega, grow_of (by repeat (first | exact Below.refl _ _ | refine bel_then ?_ _ | refine bel_grow ?_ _ | refine bel_alloc ?_ _ | refine bel_drew ?_ | refine bel_set ?_ (by simp) _ | refine bel_setRow ?_ (by first | omega | simp) _))⟩
  case round =>
    obtain ⟨k, rfl, rfl, hk, xx, rfl⟩ := hrel
    by_cases hlt : k < 18
    · have e := step.out k
      have b1 := dg_bd A k
      have b2 := dg_bd B k
      have cl := borrow_le A B k
      obtain ⟨c, hc⟩ : ∃ c, borrowN A B k = c := ⟨_, rfl⟩
      rw [hc] at e cl ⊢
      clear hc step k0
      have i0 : (0 : Int) ≤ (k : Int) := by omega
      have i1 : (k : Int) < 18 := by omega
      by_cases hs : dg A k - dg B k - (c : Int) < 0
      · obtain ⟨e1, e2⟩ := e.1 hs
        have ps := partOf_s (A - B) k (dg A k - dg B k - (c : Int) + 65536) e1
        replace e1 := Lib.hid e1
        replace e2 := Lib.hid e2
        clear e
        go_wp2_with fail
        refine wp_region_grow (by kernel_rfl) (by kernel_rfl) ?_
        repeat (go_big_quiet_step ((fail)))
        refine wpQuiet_nil ?_
        rintro _ ⟨xg, rfl⟩
        go_wp2_with fail
        go_roundw
        case rel => exact ⟨k + 1, by go_num, by rw [e2.out]; rfl, by omega, grow_of (by repeat (first | exact Below.refl _ _ | refine bel_then ?_ _ | refine bel_grow ?_ _ | refine bel_alloc ?_ _ | refine bel_drew ?_ | refine bel_set ?_ (by simp) _ | refine bel_setRow ?_ (by first | omega | simp) _))⟩
        case measure => simp [intOf] <;> omega
      · obtain ⟨e1, e2⟩ := e.2 (by omega)
        have ps := partOf_s (A - B) k (dg A k - dg B k - (c : Int)) e1
        have hs2 : 0 ≤ dg A k - dg B k - (c : Int) := by omega
        replace e1 := Lib.hid e1
        replace e2 := Lib.hid e2
        clear e hs
        go_wp2_with fail
        refine wp_region_grow (by kernel_rfl) (by kernel_rfl) ?_
        repeat (go_big_quiet_step ((fail)))
        refine wpQuiet_nil ?_
        rintro _ ⟨xg, rfl⟩
        go_wp2_with fail
        go_roundw
        case rel => exact ⟨k + 1, by go_num, by rw [e2.out]; rfl, by omega, grow_of (by repeat (first | exact Below.refl _ _ | refine bel_then ?_ _ | refine bel_grow ?_ _ | refine bel_alloc ?_ _ | refine bel_drew ?_ | refine bel_set ?_ (by simp) _ | refine bel_setRow ?_ (by first | omega | simp) _))⟩
        case measure => simp [intOf] <;> omega
    · obtain rfl : k = 18 := by omega
      rw [e18.out]
      clear e18 step k0
      go_wp2_with (first | (refine wpList_part rfl _ rfl (w.heap.size + 1 + 1 + 1) rfl (false) (dg (A - B)) (by simp only [grow_heap, alloc_heap_at, alloc_heap_past, setRow_alloc_at, setRow_alloc_past, grow_setRow, size_setRow, World.size_alloc, grow_lt, grow_lt1, grow_lt2, grow_lt3, grow_lt4, grow_lt5, grow_lt6, grow_self1, grow_self2, grow_self3, or_true, ltd2, ltd3, ltd4, ltd5, ltd6, ltd7, Nat.lt_add_one, true_or, if_true, ite_true]) ?_) | (refine wpList_load_row rfl 70 _ rfl (w.heap.size + 1 + 1 + 1) rfl 70 (numc true (dg (A - B))) (0, 0) _ (by simp only [grow_heap, alloc_heap_at, alloc_heap_past, setRow_alloc_at, setRow_alloc_past, grow_setRow, size_setRow, World.size_alloc, grow_lt, grow_lt1, grow_lt2, grow_lt3, grow_lt4, grow_lt5, grow_lt6, grow_self1, grow_self2, grow_self3, or_true, ltd2, ltd3, ltd4, ltd5, ltd6, ltd7, Nat.lt_add_one, true_or, if_true, ite_true]) Try.underlying70 rfl (by rw [numc_size]; exact info30) ?_) | (refine wpList_store_row rfl 70 _ _ rfl (w.heap.size + 1 + 1) (numc true (dg (A - B))) rfl rfl 70 (numc false fun _ => 0) (by simp only [grow_heap, alloc_heap_at, alloc_heap_past, setRow_alloc_at, setRow_alloc_past, grow_setRow, size_setRow, World.size_alloc, grow_lt, grow_lt1, grow_lt2, grow_lt3, grow_lt4, grow_lt5, grow_lt6, grow_self1, grow_self2, grow_self3, or_true, ltd2, ltd3, ltd4, ltd5, ltd6, ltd7, Nat.lt_add_one, true_or, if_true, ite_true]) (by rw [numc_size]; exact info30) (by simp only [numc_size]) (numc_one _ _) ?_) | (go_at_call 41; first | ((with_reducible refine (z.at_ _).mono ?_); rintro e w' ⟨rfl, xg, rfl⟩)))
      refine bodyPost_ret (results_cell_row rfl _ _ (w.heap.size + 1 + 1) 70 (numc true (dg (A - B))) (0, 0) _ rfl (by simp only [grow_heap, alloc_heap_at, alloc_heap_past, setRow_alloc_at, setRow_alloc_past, grow_setRow, size_setRow, World.size_alloc, grow_lt, grow_lt1, grow_lt2, grow_lt3, grow_lt4, grow_lt5, grow_lt6, grow_self1, grow_self2, grow_self3, or_true, ltd2, ltd3, ltd4, ltd5, ltd6, ltd7, Nat.lt_add_one, true_or, if_true, ite_true]) Try.underlying70 rfl (by rw [numc_size]; exact info30)) rfl ⟨rfl, (by repeat (first | exact Below.refl _ _ | refine bel_then ?_ _ | refine bel_grow ?_ _ | refine bel_alloc ?_ _ | refine bel_drew ?_ | refine bel_set ?_ (by simp) _ | refine bel_setRow ?_ (by first | omega | simp) _))⟩

end Go.Proofs.Ytgfgaaecpdbgeaa
