/- Contracts of vec's call Cut and the document's own. -/
import Derived.Test.YtngkimcnolmmoaaMVecA
import Derived.Test.YtngkimcnolmmoaaMRegion
import Derived.Deep.LoopGhost
import Derived.RegionTactic
import Derived.BigRegion
import Derived.Deep.RegionHeld3
import Derived.Maps.AppendAt
import Derived.Laws.AppendOwnNone
import Derived.Laws.OwnMore
import Derived.OwnWalk
namespace Go.Proofs.Ytngkimcnolmmoaa
open Go.RowKit
set_option linter.unusedVariables false
set_option linter.unusedSimpArgs false
/-- Halved toward 0 as often as wanted, k times at most. -/
def cut3 : Nat → Int → Int → Int → Int → Int × Int × Int
  | 0, _, x, y, z => (x, y, z)
  | k + 1, m, x, y, z => if wiB x y z m = true then (x, y, z) else cut3 k m (x.tdiv 2) (y.tdiv 2) (z.tdiv 2)
theorem cut3_end (k : Nat) (m x y z : Int) (h : wiB x y z m = true) : cut3 k m x y z = (x, y, z) := by
  cases k
  · rfl
  · unfold cut3; rw [if_pos h]
theorem cut3_on (k : Nat) (m x y z : Int) (h : wiB x y z m = false) : cut3 (k + 1) m x y z = cut3 k m (x.tdiv 2) (y.tdiv 2) (z.tdiv 2) := by
  rw [cut3, if_neg (by simp [h])]
theorem half_bd (k : Nat) (x : Int) (h0 : -(2 ^ (k + 1) : Nat) ≤ x) (h1 : x ≤ (2 ^ (k + 1) : Nat)) : -(2 ^ k : Nat) ≤ x.tdiv 2 ∧ x.tdiv 2 ≤ (2 ^ k : Nat) := by
  obtain ⟨q, r, e1, e2, e3, b1, b2, b3, b4, b5, b6⟩ := tq x 2 (by omega)
  rw [e1]
  have : 2 ^ (k + 1) = 2 ^ k * 2 := Nat.pow_succ ..
  omega
theorem half_in (x : Int) (h0 : -9223372036854775808 ≤ x) (h1 : x ≤ 9223372036854775807) : -9223372036854775808 ≤ x.tdiv 2 ∧ x.tdiv 2 ≤ 9223372036854775807 := by
  obtain ⟨q, r, e1, e2, e3, b1, b2, b3, b4, b5, b6⟩ := tq x 2 (by omega)
  rw [e1]
  rcases Int.le_total 0 x with h | h <;> omega
/-- What holds ahead of a round of which k more may follow at most. -/
def CutInv (m ax ay az : Int) (k : Nat) (x y z : Int) : Prop :=
  cut3 k m x y z = cut3 63 m ax ay az ∧ (-(2 ^ k : Nat) ≤ x ∧ x ≤ (2 ^ k : Nat)) ∧ (-(2 ^ k : Nat) ≤ y ∧ y ≤ (2 ^ k : Nat)) ∧ -(2 ^ k : Nat) ≤ z ∧ z ≤ (2 ^ k : Nat)
theorem cut_next {m ax ay az : Int} {k : Nat} {x y z : Int} (h : CutInv m ax ay az k x y z) (hm : 1 ≤ m) (hw : wiB x y z m = false) : ∃ j, k = j + 1 ∧ CutInv m ax ay az j (x.tdiv 2) (y.tdiv 2) (z.tdiv 2) := by
  obtain ⟨h1, h2, h3, h4⟩ := h
  cases k with
  | zero =>
    exfalso
    have : wiB x y z m = true := by rw [wiB_iff]; simp at h2 h3 h4; omega
    rw [this] at hw; cases hw
  | succ j =>
    refine ⟨j, rfl, ?_, half_bd j x h2.1 h2.2, half_bd j y h3.1 h3.2, half_bd j z h4.1 h4.2⟩
    rw [← h1, cut3_on _ _ _ _ _ hw]
theorem cut_last {m ax ay az : Int} {k : Nat} {x y z : Int} (h : CutInv m ax ay az k x y z) (hw : wiB x y z m = true) : cut3 63 m ax ay az = (x, y, z) := by
  rw [← h.1, cut3_end _ _ _ _ _ hw]
theorem cut_first (m ax ay az : Int) (a0 : -9223372036854775808 ≤ ax) (a1 : ax ≤ 9223372036854775807) (b0 : -9223372036854775808 ≤ ay) (b1 : ay ≤ 9223372036854775807) (c0 : -9223372036854775808 ≤ az) (c1 : az ≤ 9223372036854775807) :
    CutInv m ax ay az 63 ax ay az := by
  have e : ((2 ^ 63 : Nat) : Int) = 9223372036854775808 := by decide
  unfold CutInv
  rw [e]
  refine ⟨rfl, ?_, ?_, ?_⟩ <;> omega

end Go.Proofs.Ytngkimcnolmmoaa

/- Rows of points, and contracts of Bound. -/
namespace Go.Proofs.Ytngkimcnolmmoaa
open Go.RowKit
set_option linter.unusedVariables false
set_option linter.unusedSimpArgs false
/-- A row of n points lies from an address on. -/
def VF (W : World) (A : Option Addr) (n : Nat) (p : Nat → Int × Int × Int) : Prop :=
  0 < n → ∃ b off, A = some ⟨b, off, none⟩ ∧ b < W.heap.size ∧ ∀ i, i < n → W.cell? ⟨b, off + i * 3, none⟩ = some (.int .i64 (p i).1) ∧ W.cell? ⟨b, off + i * 3 + 1, none⟩ = some (.int .i64 (p i).2.1) ∧ W.cell? ⟨b, off + i * 3 + 2, none⟩ = some (.int .i64 (p i).2.2)
theorem VF.below {W W' : World} {A : Option Addr} {n : Nat} {p : Nat → Int × Int × Int} (h : VF W A n p) (hb : Below W.heap.size W W') : VF W' A n p := fun hn => by
  obtain ⟨b, off, e, hl, hc⟩ := h hn
  refine ⟨b, off, e, Nat.lt_of_lt_of_le hl hb.size, fun i hi => ?_⟩
  obtain ⟨h1, h2, h3⟩ := hc i hi
  exact ⟨(hb.cell (p := ⟨b, _, none⟩) hl).trans h1, (hb.cell (p := ⟨b, _, none⟩) hl).trans h2, (hb.cell (p := ⟨b, _, none⟩) hl).trans h3⟩
def joinP (b : (Int × Int × Int) × (Int × Int × Int)) (q : Int × Int × Int) : (Int × Int × Int) × (Int × Int × Int) :=
  ((min b.1.1 q.1, min b.1.2.1 q.2.1, min b.1.2.2 q.2.2), (max b.2.1 q.1, max b.2.2.1 q.2.1, max b.2.2.2 q.2.2))
/-- The least box of the points up to number k. -/
def boxF (p : Nat → Int × Int × Int) : Nat → (Int × Int × Int) × (Int × Int × Int)
  | 0 => (p 0, p 0)
  | k + 1 => joinP (boxF p k) (p (k + 1))
/-- The same, as the document's own goes on. -/
def boxG (p : Nat → Int × Int × Int) : Nat → (Int × Int × Int) × (Int × Int × Int)
  | 0 => (p 0, p 0)
  | k + 1 => joinP (boxG p k) (p k)
theorem boxG_eq (p : Nat → Int × Int × Int) : ∀ k, boxG p (k + 1) = boxF p k
  | 0 => by
    show joinP (p 0, p 0) (p 0) = (p 0, p 0)
    unfold joinP
    simp [Int.min_self, Int.max_self]
  | k + 1 => by
    show joinP (boxG p (k + 1)) (p (k + 1)) = joinP (boxF p k) (p (k + 1))
    rw [boxG_eq p k]

theorem vBound_none (A : Option Addr) (c : Nat) :
    Gives Try.prog 14 #[.slice A 0 c] (.tuple #[.agg #[.int .i64 0, .int .i64 0, .int .i64 0, .int .i64 0, .int .i64 0, .int .i64 0], .bool false]) := by
  refine Gives.mk fun w => ?_
  go_enter Try.func14, Try.ntmps14
  go_wp2
  refine bodyPost_ret (v := .tuple #[.agg #[.int .i64 0, .int .i64 0, .int .i64 0, .int .i64 0, .int .i64 0, .int .i64 0], .bool false]) (by simp [results, Try.results14, go_sem]) rfl ⟨rfl, (by repeat (first | exact Below.refl _ _ | refine bel_grow ?_ _ | refine bel_alloc ?_ _ | refine bel_set ?_ (by simp) _))⟩

set_option maxHeartbeats 1000000 in
theorem vBound_some (w : World) (A : Option Addr) (n c : Nat) (p : Nat → Int × Int × Int) (hv : VF w A (n + 1) p) (hn : n ≤ 2147483647) (hc : n + 1 ≤ c) :
    Calls Try.prog 14 #[.slice A (n + 1) c] w fun e w' => e = .returned (.tuple #[.agg #[.int .i64 (boxF p n).1.1, .int .i64 (boxF p n).1.2.1, .int .i64 (boxF p n).1.2.2, .int .i64 (boxF p n).2.1, .int .i64 (boxF p n).2.2.1, .int .i64 (boxF p n).2.2.2], .bool true]) ∧ ∃ x, w' = grow w x := by
  obtain ⟨b, off, rfl, hb, hcell⟩ := hv (by omega)
  have hcell := Lib.hid hcell
  obtain ⟨h1, h2, h3⟩ := hcell.out 0 (by omega)
  simp only [Nat.zero_mul, Nat.add_zero] at h1 h2 h3
  have hn0 : 0 < n + 1 := by omega
  have hb1 : b < w.heap.size + 1 := by omega
  have hb2 : b < w.heap.size + 1 + 1 := by omega
  have hd : ((n : Int) + 1 == 0) = false := by simp; omega
  by_cases hc1 : c = 1
  · obtain rfl : n = 0 := by omega
    subst hc1
    clear hc hd
    go_enter Try.func14, Try.ntmps14
    go_wp2
    go_region
    go_wp2
    go_loopw [21] (fun i wr => i = .int .i64 0 ∧ wr = ((w.alloc (.cells #[.int .i64 0, .int .i64 0, .int .i64 0, .int .i64 0, .int .i64 0, .int .i64 0] 25)).alloc (.cells #[.int .i64 (boxF p 0).1.1, .int .i64 (boxF p 0).1.2.1, .int .i64 (boxF p 0).1.2.2, .int .i64 (boxF p 0).2.1, .int .i64 (boxF p 0).2.2.1, .int .i64 (boxF p 0).2.2.2] 25)).drew) (fun i _ => 0)
    case atStart => exact ⟨rfl, rfl⟩
    case round =>
      obtain ⟨rfl, rfl⟩ := hrel
      go_wp2
      refine bodyPost_ret (v := .tuple #[.agg #[.int .i64 (boxF p 0).1.1, .int .i64 (boxF p 0).1.2.1, .int .i64 (boxF p 0).1.2.2, .int .i64 (boxF p 0).2.1, .int .i64 (boxF p 0).2.2.1, .int .i64 (boxF p 0).2.2.2], .bool true]) (by simp [results, Try.results14, go_sem]) rfl ⟨rfl, grow_of (by repeat (first | exact Below.refl _ _ | refine bel_then ?_ _ | refine bel_grow ?_ _ | refine bel_alloc ?_ _ | refine bel_drew ?_ | refine bel_set ?_ (by simp) _ | refine bel_setRow ?_ (by simp) _))⟩
  · have hcc : (c - 1 : Nat) ≠ 0 := by omega
    go_enter Try.func14, Try.ntmps14
    go_wp2
    go_region
    go_wp2
    clear h1 h2 h3
    go_loopw [21] (fun i wr => ∃ k : Nat, i = .int .i64 k ∧ k ≤ n ∧ ∃ x, wr = grow (((w.alloc (.cells #[.int .i64 0, .int .i64 0, .int .i64 0, .int .i64 0, .int .i64 0, .int .i64 0] 25)).alloc (.cells #[.int .i64 (boxF p k).1.1, .int .i64 (boxF p k).1.2.1, .int .i64 (boxF p k).1.2.2, .int .i64 (boxF p k).2.1, .int .i64 (boxF p k).2.2.1, .int .i64 (boxF p k).2.2.2] 25)).drew) x) (fun i _ => (n - intOf i).toNat)
    case atStart => exact ⟨0, rfl, by omega, grow_of (Below.refl _ _)⟩
    case round =>
      obtain ⟨k, rfl, hk, xx, rfl⟩ := hrel
      by_cases hlt : k < n
      · obtain ⟨h1, h2, h3⟩ := hcell.out (k + 1) (by omega)
        rw [show off + (k + 1) * 3 = off + 3 + k * 3 from by omega] at h1 h2 h3
        have kj := vJoin_any (boxF p k).1.1 (boxF p k).1.2.1 (boxF p k).1.2.2 (boxF p k).2.1 (boxF p k).2.2.1 (boxF p k).2.2.2 (p (k + 1)).1 (p (k + 1)).2.1 (p (k + 1)).2.2 (p (k + 1)).1 (p (k + 1)).2.1 (p (k + 1)).2.2
        go_wp2_with (go_at_call 15; ((with_reducible refine (kj.at_ _).mono ?_); rintro e w' ⟨rfl, xg, rfl⟩))
        go_roundw
        case rel => exact ⟨k + 1, by go_num, by omega, grow_of (by repeat (first | exact Below.refl _ _ | refine bel_then ?_ _ | refine bel_grow ?_ _ | refine bel_alloc ?_ _ | refine bel_drew ?_ | refine bel_set ?_ (by simp) _ | refine bel_setRow ?_ (by simp) _))⟩
        case measure => simp [intOf] <;> omega
      · obtain rfl : k = n := by omega
        go_wp2
        refine bodyPost_ret (v := .tuple #[.agg #[.int .i64 (boxF p k).1.1, .int .i64 (boxF p k).1.2.1, .int .i64 (boxF p k).1.2.2, .int .i64 (boxF p k).2.1, .int .i64 (boxF p k).2.2.1, .int .i64 (boxF p k).2.2.2], .bool true]) (by simp [results, Try.results14, go_sem]) rfl ⟨rfl, grow_of (by repeat (first | exact Below.refl _ _ | refine bel_then ?_ _ | refine bel_grow ?_ _ | refine bel_alloc ?_ _ | refine bel_drew ?_ | refine bel_set ?_ (by simp) _ | refine bel_setRow ?_ (by simp) _))⟩

end Go.Proofs.Ytngkimcnolmmoaa

/- Contracts of the document's own Bound, of copies and of sameness. -/
namespace Go.Proofs.Ytngkimcnolmmoaa
open Go.RowKit
set_option linter.unusedVariables false
set_option linter.unusedSimpArgs false

end Go.Proofs.Ytngkimcnolmmoaa

/- Rows of points that a call makes: contracts of copies and of sameness. -/
namespace Go.Proofs.Ytngkimcnolmmoaa
open Go.RowKit
set_option linter.unusedVariables false
set_option linter.unusedSimpArgs false
/-- What a slice's value is like. -/
def SL (A : Option Addr) (n c : Nat) : Prop := n ≤ c ∧ c ≤ maxLen ∧ (A = none → c = 0)
def part (q : Int × Int × Int) (k : Nat) : Int := if k = 0 then q.1 else if k = 1 then q.2.1 else q.2.2
/-- The cells of a row of points. -/
def newsV (p : Nat → Int × Int × Int) (n : Nat) : List Value := (List.range (n * 3)).map fun j => .int .i64 (part (p (j / 3)) (j % 3))
theorem newsV_len (p : Nat → Int × Int × Int) (n : Nat) : (newsV p n).length = n * 3 := by unfold newsV; simp
theorem newsV_get (p : Nat → Int × Int × Int) (n j : Nat) (h : j < n * 3) : (newsV p n)[j]? = some (.int .i64 (part (p (j / 3)) (j % 3))) := by unfold newsV; simp [h]
theorem newsV_one (p : Nat → Int × Int × Int) (n : Nat) : ∀ u ∈ newsV p n, u.oneCell' = true := by
  intro u hu
  unfold newsV at hu
  obtain ⟨j, _, rfl⟩ := List.mem_map.1 hu
  rfl
theorem add_lit (b off k : Nat) : (⟨b, off, none⟩ : Addr).add k = ⟨b, off + k, none⟩ := by
  unfold Addr.add; split <;> simp_all
theorem VF.cellAt {W : World} {b off n : Nat} {p : Nat → Int × Int × Int} (h : VF W (some ⟨b, off, none⟩) n p) (j : Nat) (hj : j < n * 3) : W.cell? ⟨b, off + j, none⟩ = some (.int .i64 (part (p (j / 3)) (j % 3))) := by
  obtain ⟨b', off', e, hl, hc⟩ := h (by omega)
  simp only [Option.some.injEq, Addr.mk.injEq, and_true] at e
  obtain ⟨rfl, rfl⟩ := e
  obtain ⟨h1, h2, h3⟩ := hc (j / 3) (by omega)
  have hm := Nat.mod_lt j (by omega : 0 < 3)
  have hd : j = j / 3 * 3 + j % 3 := by omega
  unfold part
  by_cases e0 : j % 3 = 0
  · rw [if_pos e0, ← h1]; congr 2; omega
  · by_cases e1 : j % 3 = 1
    · rw [if_neg e0, if_pos e1, ← h2]; congr 2; omega
    · rw [if_neg e0, if_neg e1, ← h3]; congr 2; omega
theorem VF.news {W : World} {b off n : Nat} {p : Nat → Int × Int × Int} (h : VF W (some ⟨b, off, none⟩) n p) : ∀ j u, (newsV p n)[j]? = some u → W.cell? ((⟨b, off, none⟩ : Addr).add j) = some u := by
  intro j u hu
  have hj : j < n * 3 := by
    have := (List.getElem?_eq_some_iff.1 hu).1
    rw [newsV_len] at this; exact this
  rw [newsV_get p n j hj] at hu
  rw [add_lit, h.cellAt j hj, hu]
theorem VF.zero (W : World) (A : Option Addr) (p : Nat → Int × Int × Int) : VF W A 0 p := fun h => absurd h (by omega)
/-- What owns a row of points is a slice that reads so. -/
theorem VF_of_own {W : World} {base : Nat} {e : TypeId} {v : Value} {n : Nat} {p : Nat → Int × Int × Int} (h : W.ownsRow base e 3 v n (newsV p n)) :
    ∃ A c, v = .slice A n c ∧ SL A n c ∧ VF W A n p ∧ ∀ b o s, A = some ⟨b, o, s⟩ → base ≤ b := by
  have h0 := h
  obtain ⟨_, ⟨rfl, rfl⟩ | ⟨g, cap, cur, rfl, hb, hg, hnc, hcm, hcs, htake⟩⟩ := h
  · exact ⟨none, 0, rfl, ⟨Nat.le_refl _, by unfold maxLen; omega, fun _ => rfl⟩, VF.zero _ _ _, fun _ _ _ h => by cases h⟩
  · refine ⟨_, cap, rfl, ⟨hnc, hcm, fun h => by cases h⟩, fun hn => ?_, fun b o s h => by cases h; exact hb⟩
    have hlt := (h0.lt g rfl).2
    refine ⟨g, 0, rfl, hlt, fun i hi => ?_⟩
    have c0 := h0.cellAt (i * 3) (by omega)
    have c1 := h0.cellAt (i * 3 + 1) (by omega)
    have c2 := h0.cellAt (i * 3 + 2) (by omega)
    rw [newsV_get p n _ (by omega)] at c0 c1 c2
    rw [show i * 3 / 3 = i by omega, show i * 3 % 3 = 0 by omega] at c0
    rw [show (i * 3 + 1) / 3 = i by omega, show (i * 3 + 1) % 3 = 1 by omega] at c1
    rw [show (i * 3 + 2) / 3 = i by omega, show (i * 3 + 2) % 3 = 2 by omega] at c2
    simp only [Nat.zero_add]
    exact ⟨c0, c1, c2⟩
theorem infoV : (Try.prog.info? 23).map (fun i => (i.zero, i.size, i.bytes)) = some (some (.agg #[.int .i64 0, .int .i64 0, .int .i64 0]), 3, 24) := by kernel_rfl
theorem newsV_zero (p : Nat → Int × Int × Int) : newsV p 0 = [] := rfl

/-- The same points, one by one. -/
def sameF (n m : Nat) (p q : Nat → Int × Int × Int) : Prop := n = m ∧ ∀ i, i < n → p i = q i
end Go.Proofs.Ytngkimcnolmmoaa

/- Calls in drawn regions by contracts at a world; what least boxes are like. -/
namespace Go.Proofs.Ytngkimcnolmmoaa
open Go.RowKit
set_option linter.unusedVariables false
set_option linter.unusedSimpArgs false
section
variable {P : Program} {f : FuncId} {args : Array Value} {v : Value} {w : World}
theorem q1 {y : More} (h : Calls P f args (grow w y) fun e w'' => e = .returned v ∧ ∃ z, w'' = grow (grow w y) z) : Calls P f args (grow w y) fun e w'' => e = .returned v ∧ ∃ z, w'' = grow w z :=
  h.mono fun _ _ ⟨he, z, hz⟩ => ⟨he, y.then z, hz⟩
theorem q2 {x y : More} (h : Calls P f args (grow w (x.then y)) fun e w'' => e = .returned v ∧ ∃ z, w'' = grow (grow w (x.then y)) z) : Calls P f args (grow w (x.then y)) fun e w'' => e = .returned v ∧ ∃ z, w'' = grow w (x.then z) :=
  h.mono fun _ _ ⟨he, z, hz⟩ => ⟨he, y.then z, hz⟩
end
theorem append_step {W w1 : World} {xg : More} {v : Value} {e : TypeId} {k n : Nat} {xs : List Value} (hown : (grow W xg).ownsRow W.heap.size e k v n xs) (hg : (grow W xg).grownBy w1 v.ownBlock) : ∃ x1, w1 = grow W x1 :=
  grow_of ((bel_grow (Below.refl _ _) xg).grown hg (top_le _ _) (fun k hk => (hown.lt k hk).1))
/-! least boxes -/
def inP (b : (Int × Int × Int) × (Int × Int × Int)) (q : Int × Int × Int) : Prop := (b.1.1 ≤ q.1 ∧ q.1 ≤ b.2.1) ∧ (b.1.2.1 ≤ q.2.1 ∧ q.2.1 ≤ b.2.2.1) ∧ b.1.2.2 ≤ q.2.2 ∧ q.2.2 ≤ b.2.2.2
theorem inP_join_left {b : (Int × Int × Int) × (Int × Int × Int)} {q r : Int × Int × Int} (h : inP b r) : inP (joinP b q) r := by
  unfold inP joinP at *; simp only []; omega
theorem inP_join_right {b : (Int × Int × Int) × (Int × Int × Int)} {q : Int × Int × Int} : inP (joinP b q) q := by
  unfold inP joinP; simp only []; omega
theorem boxF_has (p : Nat → Int × Int × Int) : ∀ n i, i ≤ n → inP (boxF p n) (p i)
  | 0, i, h => by
    obtain rfl : i = 0 := by omega
    unfold inP boxF; simp only []; omega
  | n + 1, i, h => by
    by_cases hi : i ≤ n
    · exact inP_join_left (boxF_has p n i hi)
    · obtain rfl : i = n + 1 := by omega
      exact inP_join_right
/-- Each side of the least box has a point. -/
def sideOf (b : (Int × Int × Int) × (Int × Int × Int)) (q : Int × Int × Int) (k : Nat) : Bool :=
  if k = 0 then q.1 == b.1.1 else if k = 1 then q.2.1 == b.1.2.1 else if k = 2 then q.2.2 == b.1.2.2 else if k = 3 then q.1 == b.2.1 else if k = 4 then q.2.1 == b.2.2.1 else q.2.2 == b.2.2.2
theorem boxF_touch (p : Nat → Int × Int × Int) : ∀ n, (∃ i, i ≤ n ∧ (p i).1 = (boxF p n).1.1) ∧ (∃ i, i ≤ n ∧ (p i).2.1 = (boxF p n).1.2.1) ∧ (∃ i, i ≤ n ∧ (p i).2.2 = (boxF p n).1.2.2) ∧ (∃ i, i ≤ n ∧ (p i).1 = (boxF p n).2.1) ∧ (∃ i, i ≤ n ∧ (p i).2.1 = (boxF p n).2.2.1) ∧ ∃ i, i ≤ n ∧ (p i).2.2 = (boxF p n).2.2.2
  | 0 => ⟨⟨0, by omega, rfl⟩, ⟨0, by omega, rfl⟩, ⟨0, by omega, rfl⟩, ⟨0, by omega, rfl⟩, ⟨0, by omega, rfl⟩, ⟨0, by omega, rfl⟩⟩
  | n + 1 => by
    obtain ⟨⟨i0, a0, b0⟩, ⟨i1, a1, b1⟩, ⟨i2, a2, b2⟩, ⟨i3, a3, b3⟩, ⟨i4, a4, b4⟩, i5, a5, b5⟩ := boxF_touch p n
    have lo : ∀ (x y : Int) (f : Nat → Int) (i : Nat), i ≤ n → f i = x → ∃ j, j ≤ n + 1 ∧ f j = min x (f (n + 1)) := fun x y f i hi hf => by
      by_cases h : x ≤ f (n + 1)
      · exact ⟨i, by omega, by rw [hf]; omega⟩
      · exact ⟨n + 1, by omega, by omega⟩
    have hi : ∀ (x y : Int) (f : Nat → Int) (i : Nat), i ≤ n → f i = x → ∃ j, j ≤ n + 1 ∧ f j = max x (f (n + 1)) := fun x y f i hi hf => by
      by_cases h : f (n + 1) ≤ x
      · exact ⟨i, by omega, by rw [hf]; omega⟩
      · exact ⟨n + 1, by omega, by omega⟩
    exact ⟨lo _ 0 (fun i => (p i).1) i0 a0 b0, lo _ 0 (fun i => (p i).2.1) i1 a1 b1, lo _ 0 (fun i => (p i).2.2) i2 a2 b2, hi _ 0 (fun i => (p i).1) i3 a3 b3, hi _ 0 (fun i => (p i).2.1) i4 a4 b4, hi _ 0 (fun i => (p i).2.2) i5 a5 b5⟩
/-- Has a point up to number i touched side k? -/
def touF (b : (Int × Int × Int) × (Int × Int × Int)) (p : Nat → Int × Int × Int) : Nat → Nat → Bool
  | 0, _ => false
  | i + 1, k => touF b p i k || sideOf b (p i) k
theorem touF_of (b : (Int × Int × Int) × (Int × Int × Int)) (p : Nat → Int × Int × Int) (k i : Nat) (h : sideOf b (p i) k = true) : ∀ n, i < n → touF b p n k = true
  | 0, hi => by omega
  | n + 1, hi => by
    unfold touF
    by_cases e : i < n
    · rw [touF_of b p k i h n e]; rfl
    · obtain rfl : i = n := by omega
      rw [h]; simp
theorem touF_all (p : Nat → Int × Int × Int) (n : Nat) (k : Nat) (hk : k < 6) : touF (boxF p n) p (n + 1) k = true := by
  obtain ⟨⟨i0, a0, b0⟩, ⟨i1, a1, b1⟩, ⟨i2, a2, b2⟩, ⟨i3, a3, b3⟩, ⟨i4, a4, b4⟩, i5, a5, b5⟩ := boxF_touch p n
  match k, hk with
  | 0, _ => exact touF_of _ p 0 i0 (by unfold sideOf; simp [b0]) _ (by omega)
  | 1, _ => exact touF_of _ p 1 i1 (by unfold sideOf; simp [b1]) _ (by omega)
  | 2, _ => exact touF_of _ p 2 i2 (by unfold sideOf; simp [b2]) _ (by omega)
  | 3, _ => exact touF_of _ p 3 i3 (by unfold sideOf; simp [b3]) _ (by omega)
  | 4, _ => exact touF_of _ p 4 i4 (by unfold sideOf; simp [b4]) _ (by omega)
  | 5, _ => exact touF_of _ p 5 i5 (by unfold sideOf; simp [b5]) _ (by omega)
/-! two rows one behind the other -/
def catF (n : Nat) (p q : Nat → Int × Int × Int) : Nat → Int × Int × Int := fun i => if i < n then p i else q (i - n)
def joinB (a b : (Int × Int × Int) × (Int × Int × Int)) : (Int × Int × Int) × (Int × Int × Int) :=
  ((min a.1.1 b.1.1, min a.1.2.1 b.1.2.1, min a.1.2.2 b.1.2.2), (max a.2.1 b.2.1, max a.2.2.1 b.2.2.1, max a.2.2.2 b.2.2.2))
theorem boxF_cat_low (n : Nat) (p q : Nat → Int × Int × Int) : ∀ k, k ≤ n → boxF (catF (n + 1) p q) k = boxF p k
  | 0, h => by unfold boxF catF; simp
  | k + 1, h => by
    show joinP (boxF (catF (n + 1) p q) k) (catF (n + 1) p q (k + 1)) = joinP (boxF p k) (p (k + 1))
    rw [boxF_cat_low n p q k (by omega)]
    unfold catF; rw [if_pos (by omega)]
theorem boxF_cat (n : Nat) (p q : Nat → Int × Int × Int) : ∀ m, boxF (catF (n + 1) p q) (n + 1 + m) = joinB (boxF p n) (boxF q m)
  | 0 => by
    show joinP (boxF (catF (n + 1) p q) n) (catF (n + 1) p q (n + 1)) = _
    rw [boxF_cat_low n p q n (Nat.le_refl _)]
    unfold catF; rw [if_neg (by omega), Nat.sub_self]
    rfl
  | m + 1 => by
    show joinP (boxF (catF (n + 1) p q) (n + 1 + m)) (catF (n + 1) p q (n + 1 + m + 1)) = joinB (boxF p n) (joinP (boxF q m) (q (m + 1)))
    rw [boxF_cat n p q m]
    unfold catF; rw [if_neg (by omega), show n + 1 + m + 1 - (n + 1) = m + 1 by omega]
    unfold joinB joinP
    simp only [Int.min_assoc, Int.max_assoc]
theorem newsV_cat (n m : Nat) (p q : Nat → Int × Int × Int) : newsV p n ++ newsV q m = newsV (catF n p q) (n + m) := by
  apply List.ext_getElem?
  intro j
  by_cases hj : j < n * 3
  · rw [List.getElem?_append_left (by rw [newsV_len]; exact hj), newsV_get _ _ _ hj, newsV_get _ _ _ (by omega)]
    unfold catF; rw [if_pos (by omega)]
  · rw [List.getElem?_append_right (by rw [newsV_len]; omega), newsV_len]
    by_cases hm : j < (n + m) * 3
    · rw [newsV_get _ _ _ (by omega), newsV_get _ _ _ hm]
      unfold catF; rw [if_neg (by omega), show (j - n * 3) / 3 = j / 3 - n by omega, show (j - n * 3) % 3 = j % 3 by omega]
    · rw [List.getElem?_eq_none (by rw [newsV_len]; omega), List.getElem?_eq_none (by rw [newsV_len]; omega)]

end Go.Proofs.Ytngkimcnolmmoaa
