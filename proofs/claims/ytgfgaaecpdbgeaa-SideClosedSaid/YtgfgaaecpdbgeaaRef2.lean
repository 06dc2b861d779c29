/- The document's own numbers, as digits: contracts of its calls, part 2: digits of a number. -/
import Derived.Test.YtgfgaaecpdbgeaaRef1
namespace Go.Proofs.Ytgfgaaecpdbgeaa
open Go.RowKit
set_option linter.unusedVariables false
set_option linter.unusedSimpArgs false
/-- The digits of a number to the base 65536. -/
def dg (N : Nat) (j : Nat) : Int := ((N / 65536 ^ j % 65536 : Nat) : Int)
theorem dg_div (N k : Nat) : dg N k = ((N / 65536 ^ k % 65536 : Nat) : Int) := rfl
def partOf (N k j : Nat) : Int := if j < k then dg N j else 0
theorem info28 : (Try.prog.info? 68).map (·.size) = some 18 := by kernel_rfl
theorem row_ty (t e : TypeId) : (match (TypeDesc.array 18 e) with | .struct _ | .array _ _ => true | _ => false) = true := rfl
theorem alloc_digs (a : Act) (o : Oper) (ho : o.op = .alloc 68) (w : World) (n : Nat) (hn : n = w.heap.size) : (execOp a.eval o).run Try.prog w = .ok (.value (.pointer (some ⟨n, 0, none⟩))) (w.alloc (.cells (digs fun _ => 0) 68)) := by
  subst hn
  unfold execOp
  rw [ho]
  kernel_rfl
theorem build_digs (a : Act) (o : Oper) (ho : o.op = .build 68 #[]) (w : World) : (execOp a.eval o).run Try.prog w = .ok (.value (.agg (digs fun _ => 0))) w := by
  unfold execOp
  rw [ho]
  kernel_rfl
set_option maxRecDepth 100000 in
set_option maxHeartbeats 1000000 in
theorem digits_any (N : Nat) (h1 : N < 18446744073709551616) :
    Gives Try.prog 63 #[.int .u64 N] (.agg (digs (dg N))) := by
  refine Gives.mk fun w => ?_
  have nfin : ∀ j, 4 ≤ j → dg N j = 0 := fun j hj => by
    unfold dg
    have : N / 65536 ^ j = 0 := Nat.div_eq_of_lt (by
      have h2 : 65536 ^ 4 ≤ 65536 ^ j := Nat.pow_le_pow_right (by omega) hj
      omega)
    rw [this]; rfl
  have nfin := Lib.hid nfin
  go_enter Try.func63, Try.ntmps63
  go_wp2_with (first | (refine wpList_val rfl _ _ (alloc_digs _ _ rfl _ w.heap.size rfl) ?_) | (refine wpList_val rfl _ _ (alloc_digs _ _ rfl _ (w.heap.size + 1) (by simp)) ?_) | (refine wpList_val rfl _ _ (build_digs _ _ rfl _) ?_) | (refine wpList_store_row rfl 68 _ _ rfl (w.heap.size + 1) (digs fun _ => 0) rfl rfl 68 (digs fun _ => 0) (heap_alloc2_new _ _ _) (by rw [digs_size]; exact info28) rfl (digs_one _) ?_))
  go_loopw [4, 0] (fun t u wr => ∃ (k : Nat) (A : Nat → Int), t = .int .i64 (k : Int) ∧ u = .int .u64 ((N / 65536 ^ k : Nat) : Int) ∧ k ≤ 4 ∧ Hid (∀ j, A j = partOf N k j) ∧ wr = (w.alloc (Obj.cells (digs fun _ => 0) 68)).alloc (Obj.cells (digs A) 68)) (fun t _ _ => (4 - intOf t).toNat)
  case atStart => exact ⟨0, fun _ => 0, rfl, by simp, by omega, fun j => by simp [partOf], rfl⟩
  case round =>
    obtain ⟨k, A, rfl, rfl, hk, hA, rfl⟩ := hrel
    by_cases hlt : k < 4
    · obtain ⟨m, hm⟩ : ∃ m, N / 65536 ^ k = m := ⟨_, rfl⟩
      have hm1 : m ≤ 18446744073709551615 := by rw [← hm]; have := Nat.div_le_self N (65536 ^ k); omega
      have hd : (m : Int) % 65536 = dg N k := by unfold dg; rw [hm]; omega
      have hnx : m / 65536 = N / 65536 ^ (k + 1) := by rw [← hm, Nat.pow_succ, Nat.div_div_eq_div_mul]
      rw [hm]
      have hm := Lib.hid hm
      have hnx := Lib.hid hnx
      have hb := Nat.mod_lt (N / 65536 ^ k) (by omega : 0 < 65536)
      have hb2 : 0 ≤ dg N k ∧ dg N k ≤ 65535 := by unfold dg; omega
      clear hb
      go_wp2
      go_roundw
      case rel => exact ⟨k + 1, _, by go_num, by rw [← hnx.out]; simp, by omega, (fun j => by
        show (if j = k then dg N k else A j) = _
        rw [hA.out]; unfold partOf
        by_cases hj : j = k
        · subst hj; simp
        · by_cases hj2 : j < k
          · simp [hj, hj2, Nat.lt_succ_of_lt hj2]
          · simp [hj, hj2]; omega), rfl⟩
      case measure => simp [intOf] <;> omega
    · have hk4 : k = 4 := by omega
      subst hk4
      go_wp2_with (first | (refine wpList_load_row rfl 68 _ rfl (w.heap.size + 1) rfl 68 (digs A) (0, 0) _ (heap_alloc2_new _ _ _) Try.underlying68 rfl (by rw [digs_size]; exact info28) ?_) | (refine wpList_store_row rfl 68 _ _ rfl w.heap.size (digs A) rfl rfl 68 (digs fun _ => 0) (heap_alloc2_old _ _ _) (by rw [digs_size]; exact info28) (by rw [digs_size, digs_size]) (digs_one A) ?_))
      have hf : digs A = digs (dg N) := digs_congr fun j hj => by
        rw [hA.out]; unfold partOf
        split
        · rfl
        · rename_i h; exact (nfin.out j (by omega)).symm
      refine bodyPost_ret (results_cell_row rfl _ _ w.heap.size 68 (digs A) (0, 0) _ rfl (by first | exact setRow_heap _ _ _ _ _ _ (heap_alloc2_old _ _ _) | exact heap_alloc2_old _ _ _) Try.underlying68 rfl (by rw [digs_size]; exact info28)) rfl ⟨by rw [hf], ?_⟩
      repeat (first | exact Below.refl _ _ | refine bel_alloc ?_ _ | refine bel_setRow ?_ (by simp) _)
end Go.Proofs.Ytgfgaaecpdbgeaa
