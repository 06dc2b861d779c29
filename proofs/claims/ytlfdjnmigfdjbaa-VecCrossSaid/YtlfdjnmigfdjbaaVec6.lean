/- Contracts of the document's own Bound, of copies and of sameness. -/
import Derived.Test.YtlfdjnmigfdjbaaVec5
import Derived.Test.YtlfdjnmigfdjbaaRegion
namespace Go.Proofs.Ytlfdjnmigfdjbaa
open Go.RowKit
set_option linter.unusedVariables false
set_option linter.unusedSimpArgs false

set_option maxHeartbeats 1000000 in
theorem rBound_some (w : World) (A : Option Addr) (n c : Nat) (p : Nat → Int × Int × Int) (hv : VF w A (n + 1) p) (hn : n ≤ 2147483647) (hc : n + 1 ≤ c) :
    Calls Try.prog 53 #[.slice A (n + 1) c] w fun e w' => e = .returned (.tuple #[.agg #[.int .i64 (boxF p n).1.1, .int .i64 (boxF p n).1.2.1, .int .i64 (boxF p n).1.2.2, .int .i64 (boxF p n).2.1, .int .i64 (boxF p n).2.2.1, .int .i64 (boxF p n).2.2.2], .bool true]) ∧ ∃ x, w' = grow w x := by
  obtain ⟨b, off, rfl, hb, hcell⟩ := hv (by omega)
  have hcell := Lib.hid hcell
  obtain ⟨h1, h2, h3⟩ := hcell.out 0 (by omega)
  simp only [Nat.zero_mul, Nat.add_zero] at h1 h2 h3
  have hn0 : 0 < n + 1 := by omega
  have hb1 : b < w.heap.size + 1 := by omega
  have hb2 : b < w.heap.size + 1 + 1 := by omega
  have hd : ((n : Int) + 1 == 0) = false := by simp; omega
  have last := boxG_eq p n
  have last := Lib.hid last
  go_enter Try.func53, Try.ntmps53
  go_wp2
  go_region
  go_wp2
  clear h1 h2 h3
  go_loopw [5] (fun i wr => ∃ k : Nat, i = .int .i64 k ∧ k ≤ n + 1 ∧ ∃ x, wr = grow (((w.alloc (.cells #[.int .i64 0, .int .i64 0, .int .i64 0, .int .i64 0, .int .i64 0, .int .i64 0] 60)).alloc (.cells #[.int .i64 (boxG p k).1.1, .int .i64 (boxG p k).1.2.1, .int .i64 (boxG p k).1.2.2, .int .i64 (boxG p k).2.1, .int .i64 (boxG p k).2.2.1, .int .i64 (boxG p k).2.2.2] 60)).drew) x) (fun i _ => (n + 1 - intOf i).toNat)
  case atStart => exact ⟨0, rfl, by omega, grow_of (Below.refl _ _)⟩
  case round =>
    obtain ⟨k, rfl, hk, xx, rfl⟩ := hrel
    by_cases hlt : k < n + 1
    · obtain ⟨h1, h2, h3⟩ := hcell.out k (by omega)
      have kj := rJoin_any (boxG p k).1.1 (boxG p k).1.2.1 (boxG p k).1.2.2 (boxG p k).2.1 (boxG p k).2.2.1 (boxG p k).2.2.2 (p k).1 (p k).2.1 (p k).2.2 (p k).1 (p k).2.1 (p k).2.2
      have hi0 : (0 : Int) ≤ (k : Int) := by omega
      have hi1 : (k : Int) < (n : Int) + 1 := by omega
      go_wp2_with fail
      refine wp_region_tail 11 ?_ (by kernel_rfl) (by kernel_rfl) (by kernel_rfl) (fun x => ?_) (fun x => ?_)
      rotate_left
      · simp only [List.take_succ_cons, List.take_zero]
        repeat (go_big_quiet_step ((with_reducible exact kj.quiet2 _ _)))
        refine wpQuiet_nil ?_
        exact rfl
      · simp only [List.drop_succ_cons, List.drop_zero]
        go_wp2
        go_roundw
        case rel => exact ⟨k + 1, by go_num, by omega, grow_of (by repeat (first | exact Below.refl _ _ | refine bel_then ?_ _ | refine bel_grow ?_ _ | refine bel_alloc ?_ _ | refine bel_drew ?_ | refine bel_set ?_ (by simp) _ | refine bel_setRow ?_ (by simp) _))⟩
        case measure => simp [intOf] <;> omega
    · obtain rfl : k = n + 1 := by omega
      go_wp2
      rw [← last.out]
      refine bodyPost_ret (v := .tuple #[.agg #[.int .i64 (boxG p (n + 1)).1.1, .int .i64 (boxG p (n + 1)).1.2.1, .int .i64 (boxG p (n + 1)).1.2.2, .int .i64 (boxG p (n + 1)).2.1, .int .i64 (boxG p (n + 1)).2.2.1, .int .i64 (boxG p (n + 1)).2.2.2], .bool true]) (by simp [results, Try.results53, go_sem]) rfl ⟨rfl, grow_of (by repeat (first | exact Below.refl _ _ | refine bel_then ?_ _ | refine bel_grow ?_ _ | refine bel_alloc ?_ _ | refine bel_drew ?_ | refine bel_set ?_ (by simp) _ | refine bel_setRow ?_ (by simp) _))⟩

end Go.Proofs.Ytlfdjnmigfdjbaa
