/- Calls in drawn regions by contracts at a world; what least boxes are like. -/
import Derived.Test.YtgfgaaecpdbgeaaVec7
namespace Go.Proofs.Ytgfgaaecpdbgeaa
open Go.RowKit
set_option linter.unusedVariables false
set_option linter.unusedSimpArgs false
section
variable {P : Program} {f : FuncId} {args : Array Value} {v : Value} {w : World}
theorem q1 {y : More} (h : Calls P f args (grow w y) fun e w'' => e = .returned v ∧ ∃ z, w'' = grow (grow w y) z) : Calls P f args (grow w y) fun e w'' => e = .returned v ∧ ∃ z, w'' = grow w z :=
  h.mono fun _ _ ⟨he, z, hz⟩ => ⟨he, y.then z, hz⟩
theorem q2 {x y : More} (h : Calls P f args (grow w (x.then y)) fun e w'' => e = .returned v ∧ ∃ z, w'' = grow (grow w (x.then y)) z) : Calls P f args (grow w (x.then y)) fun e w'' => e = .returned v ∧ ∃ z, w'' = grow w (x.then z) :=
  h.mono fun _ _ ⟨he, z, hz⟩ => ⟨he, y.then z, hz⟩
end
theorem append_step {W w1 : World} {xg : More} {v : Value} {e : TypeId} {k n : Nat} {xs : List Value} (hown : (grow W xg).ownsRow W.heap.size e k v n xs) (hg : (grow W xg).grownBy w1 v.ownBlock) : ∃ x1, w1 = grow W x1 :=
  grow_of ((bel_grow (Below.refl _ _) xg).grown hg (top_le _ _) (fun k hk => (hown.lt k hk).1))
/-! least boxes -/
def inP (b : (Int × Int × Int) × (Int × Int × Int)) (q : Int × Int × Int) : Prop := (b.1.1 ≤ q.1 ∧ q.1 ≤ b.2.1) ∧ (b.1.2.1 ≤ q.2.1 ∧ q.2.1 ≤ b.2.2.1) ∧ b.1.2.2 ≤ q.2.2 ∧ q.2.2 ≤ b.2.2.2
theorem inP_join_left {b : (Int × Int × Int) × (Int × Int × Int)} {q r : Int × Int × Int} (h : inP b r) : inP (joinP b q) r := by
  unfold inP joinP at *; simp only []; omega
theorem inP_join_right {b : (Int × Int × Int) × (Int × Int × Int)} {q : Int × Int × Int} : inP (joinP b q) q := by
  unfold inP joinP; simp only []; omega
theorem boxF_has (p : Nat → Int × Int × Int) : ∀ n i, i ≤ n → inP (boxF p n) (p i)
  | 0, i, h => by
    obtain rfl : i = 0 := by omega
    unfold inP boxF; simp only []; omega
  | n + 1, i, h => by
    by_cases hi : i ≤ n
    · exact inP_join_left (boxF_has p n i hi)
    · obtain rfl : i = n + 1 := by omega
      exact inP_join_right
/-- Each side of the least box has a point. -/
def sideOf (b : (Int × Int × Int) × (Int × Int × Int)) (q : Int × Int × Int) (k : Nat) : Bool :=
  if k = 0 then q.1 == b.1.1 else if k = 1 then q.2.1 == b.1.2.1 else if k = 2 then q.2.2 == b.1.2.2 else if k = 3 then q.1 == b.2.1 else if k = 4 then q.2.1 == b.2.2.1 else q.2.2 == b.2.2.2
theorem boxF_touch (p : Nat → Int × Int × Int) : ∀ n, (∃ i, i ≤ n ∧ (p i).1 = (boxF p n).1.1) ∧ (∃ i, i ≤ n ∧ (p i).2.1 = (boxF p n).1.2.1) ∧ (∃ i, i ≤ n ∧ (p i).2.2 = (boxF p n).1.2.2) ∧ (∃ i, i ≤ n ∧ (p i).1 = (boxF p n).2.1) ∧ (∃ i, i ≤ n ∧ (p i).2.1 = (boxF p n).2.2.1) ∧ ∃ i, i ≤ n ∧ (p i).2.2 = (boxF p n).2.2.2
  | 0 => ⟨⟨0, by omega, rfl⟩, ⟨0, by omega, rfl⟩, ⟨0, by omega, rfl⟩, ⟨0, by omega, rfl⟩, ⟨0, by omega, rfl⟩, ⟨0, by omega, rfl⟩⟩
  | n + 1 => by
    obtain ⟨⟨i0, a0, b0⟩, ⟨i1, a1, b1⟩, ⟨i2, a2, b2⟩, ⟨i3, a3, b3⟩, ⟨i4, a4, b4⟩, i5, a5, b5⟩ := boxF_touch p n
    have lo : ∀ (x y : Int) (f : Nat → Int) (i : Nat), i ≤ n → f i = x → ∃ j, j ≤ n + 1 ∧ f j = min x (f (n + 1)) := fun x y f i hi hf => by
      by_cases h : x ≤ f (n + 1)
      · exact ⟨i, by omega, by rw [hf]; omega⟩
      · exact ⟨n + 1, by omega, by omega⟩
    have hi : ∀ (x y : Int) (f : Nat → Int) (i : Nat), i ≤ n → f i = x → ∃ j, j ≤ n + 1 ∧ f j = max x (f (n + 1)) := fun x y f i hi hf => by
      by_cases h : f (n + 1) ≤ x
      · exact ⟨i, by omega, by rw [hf]; omega⟩
      · exact ⟨n + 1, by omega, by omega⟩
    exact ⟨lo _ 0 (fun i => (p i).1) i0 a0 b0, lo _ 0 (fun i => (p i).2.1) i1 a1 b1, lo _ 0 (fun i => (p i).2.2) i2 a2 b2, hi _ 0 (fun i => (p i).1) i3 a3 b3, hi _ 0 (fun i => (p i).2.1) i4 a4 b4, hi _ 0 (fun i => (p i).2.2) i5 a5 b5⟩
/-- Has a point up to number i touched side k? -/
def touF (b : (Int × Int × Int) × (Int × Int × Int)) (p : Nat → Int × Int × Int) : Nat → Nat → Bool
  | 0, _ => false
  | i + 1, k => touF b p i k || sideOf b (p i) k
theorem touF_of (b : (Int × Int × Int) × (Int × Int × Int)) (p : Nat → Int × Int × Int) (k i : Nat) (h : sideOf b (p i) k = true) : ∀ n, i < n → touF b p n k = true
  | 0, hi => by omega
  | n + 1, hi => by
    unfold touF
    by_cases e : i < n
    · rw [touF_of b p k i h n e]; rfl
    · obtain rfl : i = n := by omega
      rw [h]; simp
theorem touF_all (p : Nat → Int × Int × Int) (n : Nat) (k : Nat) (hk : k < 6) : touF (boxF p n) p (n + 1) k = true := by
  obtain ⟨⟨i0, a0, b0⟩, ⟨i1, a1, b1⟩, ⟨i2, a2, b2⟩, ⟨i3, a3, b3⟩, ⟨i4, a4, b4⟩, i5, a5, b5⟩ := boxF_touch p n
  match k, hk with
  | 0, _ => exact touF_of _ p 0 i0 (by unfold sideOf; simp [b0]) _ (by omega)
  | 1, _ => exact touF_of _ p 1 i1 (by unfold sideOf; simp [b1]) _ (by omega)
  | 2, _ => exact touF_of _ p 2 i2 (by unfold sideOf; simp [b2]) _ (by omega)
  | 3, _ => exact touF_of _ p 3 i3 (by unfold sideOf; simp [b3]) _ (by omega)
  | 4, _ => exact touF_of _ p 4 i4 (by unfold sideOf; simp [b4]) _ (by omega)
  | 5, _ => exact touF_of _ p 5 i5 (by unfold sideOf; simp [b5]) _ (by omega)
/-! two rows one behind the other -/
def catF (n : Nat) (p q : Nat → Int × Int × Int) : Nat → Int × Int × Int := fun i => if i < n then p i else q (i - n)
def joinB (a b : (Int × Int × Int) × (Int × Int × Int)) : (Int × Int × Int) × (Int × Int × Int) :=
  ((min a.1.1 b.1.1, min a.1.2.1 b.1.2.1, min a.1.2.2 b.1.2.2), (max a.2.1 b.2.1, max a.2.2.1 b.2.2.1, max a.2.2.2 b.2.2.2))
theorem boxF_cat_low (n : Nat) (p q : Nat → Int × Int × Int) : ∀ k, k ≤ n → boxF (catF (n + 1) p q) k = boxF p k
  | 0, h => by unfold boxF catF; simp
  | k + 1, h => by
    show joinP (boxF (catF (n + 1) p q) k) (catF (n + 1) p q (k + 1)) = joinP (boxF p k) (p (k + 1))
    rw [boxF_cat_low n p q k (by omega)]
    unfold catF; rw [if_pos (by omega)]
theorem boxF_cat (n : Nat) (p q : Nat → Int × Int × Int) : ∀ m, boxF (catF (n + 1) p q) (n + 1 + m) = joinB (boxF p n) (boxF q m)
  | 0 => by
    show joinP (boxF (catF (n + 1) p q) n) (catF (n + 1) p q (n + 1)) = _
    rw [boxF_cat_low n p q n (Nat.le_refl _)]
    unfold catF; rw [if_neg (by omega), Nat.sub_self]
    rfl
  | m + 1 => by
    show joinP (boxF (catF (n + 1) p q) (n + 1 + m)) (catF (n + 1) p q (n + 1 + m + 1)) = joinB (boxF p n) (joinP (boxF q m) (q (m + 1)))
    rw [boxF_cat n p q m]
    unfold catF; rw [if_neg (by omega), show n + 1 + m + 1 - (n + 1) = m + 1 by omega]
    unfold joinB joinP
    simp only [Int.min_assoc, Int.max_assoc]
theorem newsV_cat (n m : Nat) (p q : Nat → Int × Int × Int) : newsV p n ++ newsV q m = newsV (catF n p q) (n + m) := by
  apply List.ext_getElem?
  intro j
  by_cases hj : j < n * 3
  · rw [List.getElem?_append_left (by rw [newsV_len]; exact hj), newsV_get _ _ _ hj, newsV_get _ _ _ (by omega)]
    unfold catF; rw [if_pos (by omega)]
  · rw [List.getElem?_append_right (by rw [newsV_len]; omega), newsV_len]
    by_cases hm : j < (n + m) * 3
    · rw [newsV_get _ _ _ (by omega), newsV_get _ _ _ hm]
      unfold catF; rw [if_neg (by omega), show (j - n * 3) / 3 = j / 3 - n by omega, show (j - n * 3) % 3 = j % 3 by omega]
    · rw [List.getElem?_eq_none (by rw [newsV_len]; omega), List.getElem?_eq_none (by rw [newsV_len]; omega)]

end Go.Proofs.Ytgfgaaecpdbgeaa
