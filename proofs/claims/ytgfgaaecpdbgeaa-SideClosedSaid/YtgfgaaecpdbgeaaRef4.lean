/- The document's own numbers, as digits: contracts of its calls, part 4: digits held against each other, their value, noughts. -/
import Derived.Test.YtgfgaaecpdbgeaaRef3
import Derived.Test.YtgfgaaecpdbgeaaDig
import Derived.Test.YtgfgaaecpdbgeaaWide4
import Derived.ChangeKeysEq
namespace Go.Proofs.Ytgfgaaecpdbgeaa
open Go.RowKit
set_option linter.unusedVariables false
set_option linter.unusedSimpArgs false
theorem dg_dN (N j : Nat) : dg N j = ((dN N j : Nat) : Int) := rfl
theorem cmpD_mod (A B : Nat) : ∀ k, cmpD (dg A) (dg B) k = cmpOf ((A % 65536 ^ k : Nat) : Int) ((B % 65536 ^ k : Nat) : Int)
  | 0 => by simp [cmpD, cmpOf, Nat.mod_one]
  | k + 1 => by
    rw [cmpD, cmpD_mod A B k, dg_dN, dg_dN]
    have h1 := mod_cmp A B k
    have h2 := mod_cmp B A k
    have h3 := mod_s A k
    have h4 := mod_s B k
    unfold cmpOf
    by_cases hl : dN A k < dN B k
    · rw [if_pos (by omega), if_pos (by have := h1.2 (.inl hl); omega)]
    · by_cases hg : dN B k < dN A k
      · rw [if_neg (by omega), if_pos (by omega)]
        have := h2.2 (.inl hg)
        rw [if_neg (by omega), if_neg (by omega)]
      · have he : dN A k = dN B k := by omega
        rw [if_neg (by omega), if_neg (by omega)]
        rw [he] at h3
        by_cases h : A % 65536 ^ k < B % 65536 ^ k
        · rw [if_pos (by omega), if_pos (by omega)]
        · by_cases h' : A % 65536 ^ k = B % 65536 ^ k
          · rw [if_neg (by omega), if_pos (by omega), if_neg (by omega), if_pos (by omega)]
          · rw [if_neg (by omega), if_neg (by omega), if_neg (by omega), if_neg (by omega)]
def Big (N : Nat) : Prop := N < 65536 ^ 18
theorem cmpDigits_dg (A B : Nat) (ha : Big A) (hb : Big B) : Gives Try.prog 64 #[.agg (digs (dg A)), .agg (digs (dg B))] (.int .i64 (cmpOf (A : Int) (B : Int))) := by
  have := cmpDigits_any (dg A) (dg B)
  rw [cmpD_mod, Nat.mod_eq_of_lt ha, Nat.mod_eq_of_lt hb] at this
  exact this
theorem value_step (N f k : Nat) (hk : k < 4) : (N / 65536 ^ (f + (k + 1)) % 65536 ^ (4 - (k + 1))) * 65536 + dN N (f + k) = N / 65536 ^ (f + k) % 65536 ^ (4 - k) := by
  rw [show 4 - k = 4 - (k + 1) + 1 by omega, pow_s, Nat.mod_mul, show f + (k + 1) = f + k + 1 by omega, Nat.pow_succ 65536 (f + k), ← Nat.div_div_eq_div_mul]
  unfold dN
  omega

set_option maxHeartbeats 1000000 in
theorem value_any (N f : Nat) (hf : f ≤ 14) : Gives Try.prog 65 #[.agg (digs (dg N)), .int .i64 f] (.int .u64 ((N / 65536 ^ f % 18446744073709551616 : Nat) : Int)) := by
  refine Gives.mk fun w => ?_
  go_enter Try.func65, Try.ntmps65
  go_wp2
  go_loopw [5, 6] (fun t u wr => ∃ k : Nat, u = .int .i64 ((k : Int) - 1) ∧ t = .int .u64 ((N / 65536 ^ (f + k) % 65536 ^ (4 - k) : Nat) : Int) ∧ k ≤ 4 ∧ ∃ x, wr = grow (w.alloc (.cells (digs (dg N)) 68)) x) (fun _ u _ => (intOf u + 1).toNat)
  case atStart => exact ⟨4, rfl, by simp [Nat.mod_one], by omega, grow_of (Below.refl _ _)⟩
  case round =>
    obtain ⟨k, rfl, rfl, hk, xx, rfl⟩ := hrel
    cases k with
    | zero =>
      go_wp2
      go_ret
      exact ⟨by rw [show (18446744073709551616 : Nat) = 65536 ^ (4 - 0) from by decide]; rfl, (by repeat (first | exact Below.refl _ _ | refine bel_then ?_ _ | refine bel_grow ?_ _ | refine bel_alloc ?_ _ | refine bel_drew ?_ | refine bel_set ?_ (by simp) _ | refine bel_setRow ?_ (by first | omega | simp; done | exact Nat.le_trans (by simp) (top_le _ _)) _))⟩
    | succ q =>
      rw [show ((q + 1 : Nat) : Int) - 1 = (q : Int) by omega]
      have st := value_step N f q (by omega)
      have hp : 65536 ^ (4 - (q + 1)) ≤ 65536 ^ 3 := Nat.pow_le_pow_right (by omega) (by omega)
      have hm := Nat.mod_lt (N / 65536 ^ (f + (q + 1))) (pow_pos (4 - (q + 1)))
      have hd := dN_lt N (f + q)
      have hdg := dg_dN N (f + q)
      rw [show (65536 : Nat) ^ 3 = 281474976710656 from by decide] at hp
      obtain ⟨m, hm'⟩ : ∃ m, N / 65536 ^ (f + (q + 1)) % 65536 ^ (4 - (q + 1)) = m := ⟨_, rfl⟩
      rw [hm'] at hm st ⊢
      obtain ⟨d, hd'⟩ : ∃ d, dN N (f + q) = d := ⟨_, rfl⟩
      rw [hd'] at hd st hdg
      have m0 : m < 281474976710656 := by omega
      have i0 : (0 : Int) ≤ (f : Int) + (q : Int) := by omega
      have i1 : (f : Int) + (q : Int) < 18 := by omega
      have q3 : q ≤ 3 := by omega
      replace st := Lib.hid st
      clear hm' hd' hp hm
      go_wp2
      go_roundw
      case rel => exact ⟨q, rfl, by rw [← st.out]; simp, by omega, grow_of (by repeat (first | exact Below.refl _ _ | refine bel_then ?_ _ | refine bel_grow ?_ _ | refine bel_alloc ?_ _ | refine bel_drew ?_ | refine bel_set ?_ (by simp) _ | refine bel_setRow ?_ (by first | omega | simp; done | exact Nat.le_trans (by simp) (top_le _ _)) _))⟩
      case measure => simp [intOf] <;> omega

def allZ (A : Nat → Int) : Bool := (List.range 18).all fun j => A j == 0
theorem items (A B : Nat → Int) (w : World) : ∀ is : List Nat, (∀ i ∈ is, i < 18) → (Op.eqItems 9999 3 1 (digs A) (digs B) is).run Try.prog w = .ok (is.all fun i => A i == B i) w
  | [], _ => by simp [Op.eqItems]
  | i :: is, h => by
    have hi : i < 18 := h i (by simp)
    have ih := items A B w is (fun j hj => h j (by simp [hj]))
    have p1 : ∀ C : Nat → Int, (part 3 (digs C) (i * 1)).run Try.prog w = .ok (.int .i64 (C i)) w := fun C => by
      simp [go_sem, part, Try.underlying3, hi]
    rw [Op.eqItems]
    simp only [Sem.run_bind, p1, Result.andThen_ok]
    rw [show (9999 : Nat) = 9998 + 1 from rfl, run_equalIn_int _ _ _ _ _ _ _ Try.underlying3]
    simp only [Result.andThen_ok, List.all_cons]
    cases hb : (A i == B i)
    · simp
    · simpa using ih
theorem eq_digs (A : Nat → Int) (w : World) : (binOp .eql 68 (.agg (digs A)) (.agg (digs fun _ => 0))).run Try.prog w = .ok (.bool (allZ A)) w := by
  obtain ⟨i, hi, _⟩ := Option.map_eq_some_iff.1 (show (Try.prog.info? 3).map (·.size) = some 1 from by kernel_rfl)
  simp only [binOp]
  have h := run_equalIn_array (P := Try.prog) w 9999 (digs A) (digs fun _ => 0) Try.underlying68 hi
  rw [show Try.prog.cellsOf 3 = 1 from by kernel_rfl, items A (fun _ => 0) w (List.range 18) (fun i hi => by simpa using hi)] at h
  simp [Op.equal, Op.maxDepth, h, allZ]
theorem zero_any (A : Nat → Int) : Gives Try.prog 41 #[.agg (digs A)] (.bool (allZ A)) := by
  refine Gives.mk fun w => ?_
  have e := eq_digs A
  obtain ⟨b, hb⟩ : ∃ b, allZ A = b := ⟨_, rfl⟩
  rw [hb] at e ⊢
  clear hb
  go_enter Try.func41, Try.ntmps41
  go_wp2_with (first | (refine wpList_load_row rfl 68 _ rfl (w.heap.size) rfl 68 (digs A) (0, 0) _ (by simp only [grow_heap, alloc_heap_at, alloc_heap_past, setRow_alloc_at, setRow_alloc_past, grow_setRow, size_setRow, World.size_alloc, grow_lt, grow_lt1, grow_lt2, grow_lt3, grow_lt4, grow_lt5, grow_lt6, grow_self1, grow_self2, grow_self3, or_true, ltd2, ltd3, ltd4, ltd5, ltd6, ltd7, Nat.lt_add_one, true_or, if_true, ite_true]) Try.underlying68 rfl (by rw [digs_size]; exact info28) ?_) | (refine wpList_val rfl _ _ (build_digs _ _ rfl _) ?_))
  go_ret
  exact ⟨rfl, (by repeat (first | exact Below.refl _ _ | refine bel_then ?_ _ | refine bel_grow ?_ _ | refine bel_alloc ?_ _ | refine bel_drew ?_ | refine bel_set ?_ (by simp) _ | refine bel_setRow ?_ (by first | omega | simp; done | exact Nat.le_trans (by simp) (top_le _ _)) _))⟩

end Go.Proofs.Ytgfgaaecpdbgeaa
