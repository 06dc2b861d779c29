/- Contracts of vec's call Cut and the document's own. Rows of points, and contracts of Bound. Contracts of the document's own Bound, of copies and of sameness. Rows of points that a call makes: contracts of copies and of sameness. The numbers that the document fixes for layer 2: alive answers true; facts on wrapped sums. Rows of structs of k cells, cell by cell. No program is imported. -/
import Derived.Deep.LoopGhost
import Derived.RegionTactic
import Derived.BigRegion
import Derived.Deep.RegionHeld3
import Derived.Maps.AppendAt
import Derived.Laws.AppendOwnNone
import Derived.Laws.OwnMore
import Derived.OwnWalk
import Derived.Test.YtpaehkjnefgaiaaC0
import Derived.Test.YtpaehkjnefgaiaaC1
import Derived.Test.YtpaehkjnefgaiaaC4
namespace Go.Proofs.Ytpaehkjnefgaiaa
open Go.RowKit
set_option linter.unusedVariables false
set_option linter.unusedSimpArgs false
end Go.Proofs.Ytpaehkjnefgaiaa
namespace Go.Proofs.Ytpaehkjnefgaiaa
open Go.RowKit
set_option linter.unusedVariables false
set_option linter.unusedSimpArgs false
/-- A row of n points lies from an address on. -/
def VF (W : World) (A : Option Addr) (n : Nat) (p : Nat → Int × Int × Int) : Prop :=
  0 < n → ∃ b off, A = some ⟨b, off, none⟩ ∧ b < W.heap.size ∧ ∀ i, i < n → W.cell? ⟨b, off + i * 3, none⟩ = some (.int .i64 (p i).1) ∧ W.cell? ⟨b, off + i * 3 + 1, none⟩ = some (.int .i64 (p i).2.1) ∧ W.cell? ⟨b, off + i * 3 + 2, none⟩ = some (.int .i64 (p i).2.2)
theorem VF.below {W W' : World} {A : Option Addr} {n : Nat} {p : Nat → Int × Int × Int} (h : VF W A n p) (hb : Below W.heap.size W W') : VF W' A n p := fun hn => by
  obtain ⟨b, off, e, hl, hc⟩ := h hn
  refine ⟨b, off, e, Nat.lt_of_lt_of_le hl hb.size, fun i hi => ?_⟩
  obtain ⟨h1, h2, h3⟩ := hc i hi
  exact ⟨(hb.cell (p := ⟨b, _, none⟩) hl).trans h1, (hb.cell (p := ⟨b, _, none⟩) hl).trans h2, (hb.cell (p := ⟨b, _, none⟩) hl).trans h3⟩
def joinP (b : (Int × Int × Int) × (Int × Int × Int)) (q : Int × Int × Int) : (Int × Int × Int) × (Int × Int × Int) :=
  ((min b.1.1 q.1, min b.1.2.1 q.2.1, min b.1.2.2 q.2.2), (max b.2.1 q.1, max b.2.2.1 q.2.1, max b.2.2.2 q.2.2))
/-- The least box of the points up to number k. -/
def boxF (p : Nat → Int × Int × Int) : Nat → (Int × Int × Int) × (Int × Int × Int)
  | 0 => (p 0, p 0)
  | k + 1 => joinP (boxF p k) (p (k + 1))
set_option maxHeartbeats 1000000 in
theorem vBound_some (w : World) (A : Option Addr) (n c : Nat) (p : Nat → Int × Int × Int) (hv : VF w A (n + 1) p) (hn : n ≤ 2147483647) (hc : n + 1 ≤ c) :
    Calls Try.prog 33 #[.slice A (n + 1) c] w fun e w' => e = .returned (.tuple #[.agg #[.int .i64 (boxF p n).1.1, .int .i64 (boxF p n).1.2.1, .int .i64 (boxF p n).1.2.2, .int .i64 (boxF p n).2.1, .int .i64 (boxF p n).2.2.1, .int .i64 (boxF p n).2.2.2], .bool true]) ∧ ∃ x, w' = grow w x := by
  obtain ⟨b, off, rfl, hb, hcell⟩ := hv (by omega)
  have hcell := Lib.hid hcell
  obtain ⟨h1, h2, h3⟩ := hcell.out 0 (by omega)
  simp only [Nat.zero_mul, Nat.add_zero] at h1 h2 h3
  have hn0 : 0 < n + 1 := by omega
  have hb1 : b < w.heap.size + 1 := by omega
  have hb2 : b < w.heap.size + 1 + 1 := by omega
  have hd : ((n : Int) + 1 == 0) = false := by simp; omega
  by_cases hc1 : c = 1
  · obtain rfl : n = 0 := by omega
    subst hc1
    clear hc hd
    go_enter Try.func33, Try.ntmps33
    go_wp2
    go_region
    go_wp2
    go_loopw [21] (fun i wr => i = .int .i64 0 ∧ wr = ((w.alloc (.cells #[.int .i64 0, .int .i64 0, .int .i64 0, .int .i64 0, .int .i64 0, .int .i64 0] 43)).alloc (.cells #[.int .i64 (boxF p 0).1.1, .int .i64 (boxF p 0).1.2.1, .int .i64 (boxF p 0).1.2.2, .int .i64 (boxF p 0).2.1, .int .i64 (boxF p 0).2.2.1, .int .i64 (boxF p 0).2.2.2] 43)).drew) (fun i _ => 0)
    case atStart => exact ⟨rfl, rfl⟩
    case round =>
      obtain ⟨rfl, rfl⟩ := hrel
      go_wp2
      refine bodyPost_ret (v := .tuple #[.agg #[.int .i64 (boxF p 0).1.1, .int .i64 (boxF p 0).1.2.1, .int .i64 (boxF p 0).1.2.2, .int .i64 (boxF p 0).2.1, .int .i64 (boxF p 0).2.2.1, .int .i64 (boxF p 0).2.2.2], .bool true]) (by simp [results, Try.results33, go_sem]) rfl ⟨rfl, grow_of (by repeat (first | exact Below.refl _ _ | refine bel_then ?_ _ | refine bel_grow ?_ _ | refine bel_alloc ?_ _ | refine bel_drew ?_ | refine bel_set ?_ (by simp) _ | refine bel_setRow ?_ (by simp) _))⟩
  · have hcc : (c - 1 : Nat) ≠ 0 := by omega
    go_enter Try.func33, Try.ntmps33
    go_wp2
    go_region
    go_wp2
    clear h1 h2 h3
    go_loopw [21] (fun i wr => ∃ k : Nat, i = .int .i64 k ∧ k ≤ n ∧ ∃ x, wr = grow (((w.alloc (.cells #[.int .i64 0, .int .i64 0, .int .i64 0, .int .i64 0, .int .i64 0, .int .i64 0] 43)).alloc (.cells #[.int .i64 (boxF p k).1.1, .int .i64 (boxF p k).1.2.1, .int .i64 (boxF p k).1.2.2, .int .i64 (boxF p k).2.1, .int .i64 (boxF p k).2.2.1, .int .i64 (boxF p k).2.2.2] 43)).drew) x) (fun i _ => (n - intOf i).toNat)
    case atStart => exact ⟨0, rfl, by omega, grow_of (Below.refl _ _)⟩
    case round =>
      obtain ⟨k, rfl, hk, xx, rfl⟩ := hrel
      by_cases hlt : k < n
      · obtain ⟨h1, h2, h3⟩ := hcell.out (k + 1) (by omega)
        rw [show off + (k + 1) * 3 = off + 3 + k * 3 from by omega] at h1 h2 h3
        have kj := vJoin_any (boxF p k).1.1 (boxF p k).1.2.1 (boxF p k).1.2.2 (boxF p k).2.1 (boxF p k).2.2.1 (boxF p k).2.2.2 (p (k + 1)).1 (p (k + 1)).2.1 (p (k + 1)).2.2 (p (k + 1)).1 (p (k + 1)).2.1 (p (k + 1)).2.2
        go_wp2_with (go_at_call 62; ((with_reducible refine (kj.at_ _).mono ?_); rintro e w' ⟨rfl, xg, rfl⟩))
        go_roundw
        case rel => exact ⟨k + 1, by go_num, by omega, grow_of (by repeat (first | exact Below.refl _ _ | refine bel_then ?_ _ | refine bel_grow ?_ _ | refine bel_alloc ?_ _ | refine bel_drew ?_ | refine bel_set ?_ (by simp) _ | refine bel_setRow ?_ (by simp) _))⟩
        case measure => simp [intOf] <;> omega
      · obtain rfl : k = n := by omega
        go_wp2
        refine bodyPost_ret (v := .tuple #[.agg #[.int .i64 (boxF p k).1.1, .int .i64 (boxF p k).1.2.1, .int .i64 (boxF p k).1.2.2, .int .i64 (boxF p k).2.1, .int .i64 (boxF p k).2.2.1, .int .i64 (boxF p k).2.2.2], .bool true]) (by simp [results, Try.results33, go_sem]) rfl ⟨rfl, grow_of (by repeat (first | exact Below.refl _ _ | refine bel_then ?_ _ | refine bel_grow ?_ _ | refine bel_alloc ?_ _ | refine bel_drew ?_ | refine bel_set ?_ (by simp) _ | refine bel_setRow ?_ (by simp) _))⟩

end Go.Proofs.Ytpaehkjnefgaiaa
namespace Go.Proofs.Ytpaehkjnefgaiaa
open Go.RowKit
set_option linter.unusedVariables false
set_option linter.unusedSimpArgs false

end Go.Proofs.Ytpaehkjnefgaiaa
namespace Go.Proofs.Ytpaehkjnefgaiaa
open Go.RowKit
set_option linter.unusedVariables false
set_option linter.unusedSimpArgs false
def part (q : Int × Int × Int) (k : Nat) : Int := if k = 0 then q.1 else if k = 1 then q.2.1 else q.2.2
theorem VF.cellAt {W : World} {b off n : Nat} {p : Nat → Int × Int × Int} (h : VF W (some ⟨b, off, none⟩) n p) (j : Nat) (hj : j < n * 3) : W.cell? ⟨b, off + j, none⟩ = some (.int .i64 (part (p (j / 3)) (j % 3))) := by
  obtain ⟨b', off', e, hl, hc⟩ := h (by omega)
  simp only [Option.some.injEq, Addr.mk.injEq, and_true] at e
  obtain ⟨rfl, rfl⟩ := e
  obtain ⟨h1, h2, h3⟩ := hc (j / 3) (by omega)
  have hm := Nat.mod_lt j (by omega : 0 < 3)
  have hd : j = j / 3 * 3 + j % 3 := by omega
  unfold part
  by_cases e0 : j % 3 = 0
  · rw [if_pos e0, ← h1]; congr 2; omega
  · by_cases e1 : j % 3 = 1
    · rw [if_neg e0, if_pos e1, ← h2]; congr 2; omega
    · rw [if_neg e0, if_neg e1, ← h3]; congr 2; omega
theorem VF.zero (W : World) (A : Option Addr) (p : Nat → Int × Int × Int) : VF W A 0 p := fun h => absurd h (by omega)
end Go.Proofs.Ytpaehkjnefgaiaa
namespace Go.Proofs.Ytpaehkjnefgaiaa
open Go.RowKit
set_option linter.unusedVariables false
set_option linter.unusedSimpArgs false
theorem wrap_id {x : Int} (h0 : -9223372036854775808 ≤ x) (h1 : x ≤ 9223372036854775807) : wrap64 x = x := by unfold wrap64; omega
end Go.Proofs.Ytpaehkjnefgaiaa
namespace Go.Proofs.Ytpaehkjnefgaiaa
open Go.RowKit
set_option linter.unusedVariables false
set_option linter.unusedSimpArgs false
/-- The cells of n structs of k cells each. -/
def rowCs (k n : Nat) (h : Nat → Nat → Value) : Array Value := ((List.range (n * k)).map fun j => h (j / k) (j % k)).toArray
theorem rowCs_size (k n : Nat) (h : Nat → Nat → Value) : (rowCs k n h).size = n * k := by simp [rowCs]
theorem row_split {k v j : Nat} (hj : j < k) : (v * k + j) / k = v ∧ (v * k + j) % k = j := by
  have hk : 0 < k := by omega
  have h1 : (v * k + j) / k = v := by rw [Nat.mul_comm, Nat.mul_add_div hk, Nat.div_eq_of_lt hj, Nat.add_zero]
  have h2 : (v * k + j) % k = j := by rw [Nat.mul_comm, Nat.mul_add_mod, Nat.mod_eq_of_lt hj]
  exact ⟨h1, h2⟩
theorem row_lt {k n v j : Nat} (hv : v < n) (hj : j < k) : v * k + j < n * k := by
  have : (v + 1) * k ≤ n * k := Nat.mul_le_mul_right k hv
  rw [Nat.add_mul] at this; omega
theorem rowCs_at {k n : Nat} (h : Nat → Nat → Value) {v j : Nat} (hv : v < n) (hj : j < k) : (rowCs k n h)[v * k + j]? = some (h v j) := by
  unfold rowCs
  rw [List.getElem?_toArray, List.getElem?_map, List.getElem?_range (row_lt hv hj)]
  obtain ⟨e1, e2⟩ := row_split (v := v) hj
  simp [e1, e2]
def setC (h : Nat → Nat → Value) (v j : Nat) (u : Value) : Nat → Nat → Value := fun a b => if a = v ∧ b = j then u else h a b
theorem rowCs_ext {k n : Nat} {h g : Nat → Nat → Value} (e : ∀ v j, v < n → j < k → h v j = g v j) : rowCs k n h = rowCs k n g := by
  rcases Nat.eq_zero_or_pos k with rfl | hk
  · simp [rowCs]
  unfold rowCs
  congr 1
  apply List.map_congr_left
  intro i hi
  have hi2 : i < n * k := by simpa using hi
  have : i / k < n := Nat.div_lt_of_lt_mul (by rw [Nat.mul_comm]; exact hi2)
  exact e _ _ this (Nat.mod_lt _ hk)
theorem rowCs_made {z : Array Value} {k n : Nat} (hz : z.size = k) (hk : 0 < k) : madeCells z (n * k) = rowCs k n (fun _ j => z.getD j default) := by
  apply Array.ext
  · simp [size_madeCells, rowCs_size]
  · intro i h1 h2
    simp only [madeCells, rowCs, Array.getElem_map, Array.getElem_range, List.getElem_toArray, List.getElem_map, List.getElem_range]
    rw [hz]
    have : i % k < z.size := by rw [hz]; exact Nat.mod_lt _ hk
    simp [Array.getD, this, getElem!_pos]
end Go.Proofs.Ytpaehkjnefgaiaa
