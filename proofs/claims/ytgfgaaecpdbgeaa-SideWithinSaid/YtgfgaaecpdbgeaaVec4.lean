/- Contracts of vec's call Cut and the document's own. -/
import Derived.Test.YtgfgaaecpdbgeaaVec3
import Derived.Test.YtgfgaaecpdbgeaaArr
import Derived.Deep.LoopGhost
namespace Go.Proofs.Ytgfgaaecpdbgeaa
open Go.RowKit
set_option linter.unusedVariables false
set_option linter.unusedSimpArgs false
/-- Halved toward 0 as often as wanted, k times at most. -/
def cut3 : Nat → Int → Int → Int → Int → Int × Int × Int
  | 0, _, x, y, z => (x, y, z)
  | k + 1, m, x, y, z => if wiB x y z m = true then (x, y, z) else cut3 k m (x.tdiv 2) (y.tdiv 2) (z.tdiv 2)
theorem cut3_end (k : Nat) (m x y z : Int) (h : wiB x y z m = true) : cut3 k m x y z = (x, y, z) := by
  cases k
  · rfl
  · unfold cut3; rw [if_pos h]
theorem cut3_on (k : Nat) (m x y z : Int) (h : wiB x y z m = false) : cut3 (k + 1) m x y z = cut3 k m (x.tdiv 2) (y.tdiv 2) (z.tdiv 2) := by
  rw [cut3, if_neg (by simp [h])]
theorem half_bd (k : Nat) (x : Int) (h0 : -(2 ^ (k + 1) : Nat) ≤ x) (h1 : x ≤ (2 ^ (k + 1) : Nat)) : -(2 ^ k : Nat) ≤ x.tdiv 2 ∧ x.tdiv 2 ≤ (2 ^ k : Nat) := by
  obtain ⟨q, r, e1, e2, e3, b1, b2, b3, b4, b5, b6⟩ := tq x 2 (by omega)
  rw [e1]
  have : 2 ^ (k + 1) = 2 ^ k * 2 := Nat.pow_succ ..
  omega
theorem half_in (x : Int) (h0 : -9223372036854775808 ≤ x) (h1 : x ≤ 9223372036854775807) : -9223372036854775808 ≤ x.tdiv 2 ∧ x.tdiv 2 ≤ 9223372036854775807 := by
  obtain ⟨q, r, e1, e2, e3, b1, b2, b3, b4, b5, b6⟩ := tq x 2 (by omega)
  rw [e1]
  rcases Int.le_total 0 x with h | h <;> omega
/-- What holds ahead of a round of which k more may follow at most. -/
def CutInv (m ax ay az : Int) (k : Nat) (x y z : Int) : Prop :=
  cut3 k m x y z = cut3 63 m ax ay az ∧ (-(2 ^ k : Nat) ≤ x ∧ x ≤ (2 ^ k : Nat)) ∧ (-(2 ^ k : Nat) ≤ y ∧ y ≤ (2 ^ k : Nat)) ∧ -(2 ^ k : Nat) ≤ z ∧ z ≤ (2 ^ k : Nat)
theorem cut_next {m ax ay az : Int} {k : Nat} {x y z : Int} (h : CutInv m ax ay az k x y z) (hm : 1 ≤ m) (hw : wiB x y z m = false) : ∃ j, k = j + 1 ∧ CutInv m ax ay az j (x.tdiv 2) (y.tdiv 2) (z.tdiv 2) := by
  obtain ⟨h1, h2, h3, h4⟩ := h
  cases k with
  | zero =>
    exfalso
    have : wiB x y z m = true := by rw [wiB_iff]; simp at h2 h3 h4; omega
    rw [this] at hw; cases hw
  | succ j =>
    refine ⟨j, rfl, ?_, half_bd j x h2.1 h2.2, half_bd j y h3.1 h3.2, half_bd j z h4.1 h4.2⟩
    rw [← h1, cut3_on _ _ _ _ _ hw]
theorem cut_last {m ax ay az : Int} {k : Nat} {x y z : Int} (h : CutInv m ax ay az k x y z) (hw : wiB x y z m = true) : cut3 63 m ax ay az = (x, y, z) := by
  rw [← h.1, cut3_end _ _ _ _ _ hw]
theorem cut_first (m ax ay az : Int) (a0 : -9223372036854775808 ≤ ax) (a1 : ax ≤ 9223372036854775807) (b0 : -9223372036854775808 ≤ ay) (b1 : ay ≤ 9223372036854775807) (c0 : -9223372036854775808 ≤ az) (c1 : az ≤ 9223372036854775807) :
    CutInv m ax ay az 63 ax ay az := by
  have e : ((2 ^ 63 : Nat) : Int) = 9223372036854775808 := by decide
  unfold CutInv
  rw [e]
  refine ⟨rfl, ?_, ?_, ?_⟩ <;> omega

end Go.Proofs.Ytgfgaaecpdbgeaa
