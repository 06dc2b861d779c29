/- Rows of points, and contracts of Bound. -/
import Derived.Test.YtlfdjnmigfdjbaaVec4
import Derived.Test.YtlfdjnmigfdjbaaRegion
import Derived.RegionTactic
import Derived.BigRegion
import Derived.Deep.RegionHeld3
namespace Go.Proofs.Ytlfdjnmigfdjbaa
open Go.RowKit
set_option linter.unusedVariables false
set_option linter.unusedSimpArgs false
/-- A row of n points lies from an address on. -/
def VF (W : World) (A : Option Addr) (n : Nat) (p : Nat → Int × Int × Int) : Prop :=
  0 < n → ∃ b off, A = some ⟨b, off, none⟩ ∧ b < W.heap.size ∧ ∀ i, i < n → W.cell? ⟨b, off + i * 3, none⟩ = some (.int .i64 (p i).1) ∧ W.cell? ⟨b, off + i * 3 + 1, none⟩ = some (.int .i64 (p i).2.1) ∧ W.cell? ⟨b, off + i * 3 + 2, none⟩ = some (.int .i64 (p i).2.2)
theorem VF.below {W W' : World} {A : Option Addr} {n : Nat} {p : Nat → Int × Int × Int} (h : VF W A n p) (hb : Below W.heap.size W W') : VF W' A n p := fun hn => by
  obtain ⟨b, off, e, hl, hc⟩ := h hn
  refine ⟨b, off, e, Nat.lt_of_lt_of_le hl hb.size, fun i hi => ?_⟩
  obtain ⟨h1, h2, h3⟩ := hc i hi
  exact ⟨(hb.cell (p := ⟨b, _, none⟩) hl).trans h1, (hb.cell (p := ⟨b, _, none⟩) hl).trans h2, (hb.cell (p := ⟨b, _, none⟩) hl).trans h3⟩
def joinP (b : (Int × Int × Int) × (Int × Int × Int)) (q : Int × Int × Int) : (Int × Int × Int) × (Int × Int × Int) :=
  ((min b.1.1 q.1, min b.1.2.1 q.2.1, min b.1.2.2 q.2.2), (max b.2.1 q.1, max b.2.2.1 q.2.1, max b.2.2.2 q.2.2))
/-- The least box of the points up to number k. -/
def boxF (p : Nat → Int × Int × Int) : Nat → (Int × Int × Int) × (Int × Int × Int)
  | 0 => (p 0, p 0)
  | k + 1 => joinP (boxF p k) (p (k + 1))
/-- The same, as the document's own goes on. -/
def boxG (p : Nat → Int × Int × Int) : Nat → (Int × Int × Int) × (Int × Int × Int)
  | 0 => (p 0, p 0)
  | k + 1 => joinP (boxG p k) (p k)
theorem boxG_eq (p : Nat → Int × Int × Int) : ∀ k, boxG p (k + 1) = boxF p k
  | 0 => by
    show joinP (p 0, p 0) (p 0) = (p 0, p 0)
    unfold joinP
    simp [Int.min_self, Int.max_self]
  | k + 1 => by
    show joinP (boxG p (k + 1)) (p (k + 1)) = joinP (boxF p k) (p (k + 1))
    rw [boxG_eq p k]

theorem vBound_none (A : Option Addr) (c : Nat) :
    Gives Try.prog 52 #[.slice A 0 c] (.tuple #[.agg #[.int .i64 0, .int .i64 0, .int .i64 0, .int .i64 0, .int .i64 0, .int .i64 0], .bool false]) := by
  refine Gives.mk fun w => ?_
  go_enter Try.func52, Try.ntmps52
  go_wp2
  refine bodyPost_ret (v := .tuple #[.agg #[.int .i64 0, .int .i64 0, .int .i64 0, .int .i64 0, .int .i64 0, .int .i64 0], .bool false]) (by simp [results, Try.results52, go_sem]) rfl ⟨rfl, (by repeat (first | exact Below.refl _ _ | refine bel_grow ?_ _ | refine bel_alloc ?_ _ | refine bel_set ?_ (by simp) _))⟩

theorem rBound_none (A : Option Addr) (c : Nat) :
    Gives Try.prog 53 #[.slice A 0 c] (.tuple #[.agg #[.int .i64 0, .int .i64 0, .int .i64 0, .int .i64 0, .int .i64 0, .int .i64 0], .bool false]) := by
  refine Gives.mk fun w => ?_
  go_enter Try.func53, Try.ntmps53
  go_wp2
  refine bodyPost_ret (v := .tuple #[.agg #[.int .i64 0, .int .i64 0, .int .i64 0, .int .i64 0, .int .i64 0, .int .i64 0], .bool false]) (by simp [results, Try.results53, go_sem]) rfl ⟨rfl, (by repeat (first | exact Below.refl _ _ | refine bel_grow ?_ _ | refine bel_alloc ?_ _ | refine bel_set ?_ (by simp) _))⟩

set_option maxHeartbeats 1000000 in
theorem vBound_some (w : World) (A : Option Addr) (n c : Nat) (p : Nat → Int × Int × Int) (hv : VF w A (n + 1) p) (hn : n ≤ 2147483647) (hc : n + 1 ≤ c) :
    Calls Try.prog 52 #[.slice A (n + 1) c] w fun e w' => e = .returned (.tuple #[.agg #[.int .i64 (boxF p n).1.1, .int .i64 (boxF p n).1.2.1, .int .i64 (boxF p n).1.2.2, .int .i64 (boxF p n).2.1, .int .i64 (boxF p n).2.2.1, .int .i64 (boxF p n).2.2.2], .bool true]) ∧ ∃ x, w' = grow w x := by
  obtain ⟨b, off, rfl, hb, hcell⟩ := hv (by omega)
  have hcell := Lib.hid hcell
  obtain ⟨h1, h2, h3⟩ := hcell.out 0 (by omega)
  simp only [Nat.zero_mul, Nat.add_zero] at h1 h2 h3
  have hn0 : 0 < n + 1 := by omega
  have hb1 : b < w.heap.size + 1 := by omega
  have hb2 : b < w.heap.size + 1 + 1 := by omega
  have hd : ((n : Int) + 1 == 0) = false := by simp; omega
  by_cases hc1 : c = 1
  · obtain rfl : n = 0 := by omega
    subst hc1
    clear hc hd
    go_enter Try.func52, Try.ntmps52
    go_wp2
    go_region
    go_wp2
    go_loopw [21] (fun i wr => i = .int .i64 0 ∧ wr = ((w.alloc (.cells #[.int .i64 0, .int .i64 0, .int .i64 0, .int .i64 0, .int .i64 0, .int .i64 0] 60)).alloc (.cells #[.int .i64 (boxF p 0).1.1, .int .i64 (boxF p 0).1.2.1, .int .i64 (boxF p 0).1.2.2, .int .i64 (boxF p 0).2.1, .int .i64 (boxF p 0).2.2.1, .int .i64 (boxF p 0).2.2.2] 60)).drew) (fun i _ => 0)
    case atStart => exact ⟨rfl, rfl⟩
    case round =>
      obtain ⟨rfl, rfl⟩ := hrel
      go_wp2
      refine bodyPost_ret (v := .tuple #[.agg #[.int .i64 (boxF p 0).1.1, .int .i64 (boxF p 0).1.2.1, .int .i64 (boxF p 0).1.2.2, .int .i64 (boxF p 0).2.1, .int .i64 (boxF p 0).2.2.1, .int .i64 (boxF p 0).2.2.2], .bool true]) (by simp [results, Try.results52, go_sem]) rfl ⟨rfl, grow_of (by repeat (first | exact Below.refl _ _ | refine bel_then ?_ _ | refine bel_grow ?_ _ | refine bel_alloc ?_ _ | refine bel_drew ?_ | refine bel_set ?_ (by simp) _ | refine bel_setRow ?_ (by simp) _))⟩
  · have hcc : (c - 1 : Nat) ≠ 0 := by omega
    go_enter Try.func52, Try.ntmps52
    go_wp2
    go_region
    go_wp2
    clear h1 h2 h3
    go_loopw [21] (fun i wr => ∃ k : Nat, i = .int .i64 k ∧ k ≤ n ∧ ∃ x, wr = grow (((w.alloc (.cells #[.int .i64 0, .int .i64 0, .int .i64 0, .int .i64 0, .int .i64 0, .int .i64 0] 60)).alloc (.cells #[.int .i64 (boxF p k).1.1, .int .i64 (boxF p k).1.2.1, .int .i64 (boxF p k).1.2.2, .int .i64 (boxF p k).2.1, .int .i64 (boxF p k).2.2.1, .int .i64 (boxF p k).2.2.2] 60)).drew) x) (fun i _ => (n - intOf i).toNat)
    case atStart => exact ⟨0, rfl, by omega, grow_of (Below.refl _ _)⟩
    case round =>
      obtain ⟨k, rfl, hk, xx, rfl⟩ := hrel
      by_cases hlt : k < n
      · obtain ⟨h1, h2, h3⟩ := hcell.out (k + 1) (by omega)
        rw [show off + (k + 1) * 3 = off + 3 + k * 3 from by omega] at h1 h2 h3
        have kj := vJoin_any (boxF p k).1.1 (boxF p k).1.2.1 (boxF p k).1.2.2 (boxF p k).2.1 (boxF p k).2.2.1 (boxF p k).2.2.2 (p (k + 1)).1 (p (k + 1)).2.1 (p (k + 1)).2.2 (p (k + 1)).1 (p (k + 1)).2.1 (p (k + 1)).2.2
        go_wp2_with (go_at_call 54; ((with_reducible refine (kj.at_ _).mono ?_); rintro e w' ⟨rfl, xg, rfl⟩))
        go_roundw
        case rel => exact ⟨k + 1, by go_num, by omega, grow_of (by repeat (first | exact Below.refl _ _ | refine bel_then ?_ _ | refine bel_grow ?_ _ | refine bel_alloc ?_ _ | refine bel_drew ?_ | refine bel_set ?_ (by simp) _ | refine bel_setRow ?_ (by simp) _))⟩
        case measure => simp [intOf] <;> omega
      · obtain rfl : k = n := by omega
        go_wp2
        refine bodyPost_ret (v := .tuple #[.agg #[.int .i64 (boxF p k).1.1, .int .i64 (boxF p k).1.2.1, .int .i64 (boxF p k).1.2.2, .int .i64 (boxF p k).2.1, .int .i64 (boxF p k).2.2.1, .int .i64 (boxF p k).2.2.2], .bool true]) (by simp [results, Try.results52, go_sem]) rfl ⟨rfl, grow_of (by repeat (first | exact Below.refl _ _ | refine bel_then ?_ _ | refine bel_grow ?_ _ | refine bel_alloc ?_ _ | refine bel_drew ?_ | refine bel_set ?_ (by simp) _ | refine bel_setRow ?_ (by simp) _))⟩

end Go.Proofs.Ytlfdjnmigfdjbaa
