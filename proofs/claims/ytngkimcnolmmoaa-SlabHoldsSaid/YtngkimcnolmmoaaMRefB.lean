/- The document's own numbers, as digits: contracts of its calls, part 8: from wide numbers. -/
import Derived.Test.YtngkimcnolmmoaaMRefA
import Derived.Test.YtngkimcnolmmoaaMRegion
namespace Go.Proofs.Ytngkimcnolmmoaa
open Go.RowKit
set_option linter.unusedVariables false
set_option linter.unusedSimpArgs false
def mixD (l h k : Nat) : Nat → Int := fun j => if j < 4 then dg l j else if j < 4 + k then dg h (j - 4) else 0
theorem mixD_0 (l h : Nat) (hl : l ≤ 18446744073709551615) (s : Bool) : numc s (dg l) = numc s (mixD l h 0) := numc_congr fun j hj => by
  unfold mixD
  split
  · rfl
  · rw [dg_dN, dN_zero l j (Nat.lt_of_lt_of_le (show l < 65536 ^ 4 by omega) (Nat.pow_le_pow_right (by omega) (by omega)))]; rfl
theorem mixD_4 (l h : Nat) (hl : l ≤ 18446744073709551615) (hh : h ≤ 18446744073709551615) (s : Bool) : numc s (mixD l h 4) = numc s (dg (h * 18446744073709551616 + l)) := numc_congr fun j hj => by
  unfold mixD
  rw [dg_dN (h * 18446744073709551616 + l), split_dN h l (by omega)]
  split
  · rfl
  · split
    · rfl
    · rw [dN_zero h (j - 4) (Nat.lt_of_lt_of_le (show h < 65536 ^ 4 by omega) (Nat.pow_le_pow_right (by omega) (by omega)))]; rfl
theorem mixD_s (l h k : Nat) (hk : k < 4) : (fun j => if j = 4 + k then dg h k else mixD l h k j) = mixD l h (k + 1) := by
  funext j
  unfold mixD
  by_cases e : j = 4 + k
  · rw [if_pos e, if_neg (by omega), if_pos (by omega)]; congr 1; omega
  · rw [if_neg e]
    split
    · rfl
    · by_cases e2 : j < 4 + k
      · rw [if_pos e2, if_pos (by omega)]
      · rw [if_neg e2, if_neg (by omega)]

theorem fromInt_any (n : Int) (h0 : -9223372036854775808 ≤ n) (h1 : n ≤ 9223372036854775807) : Gives Try.prog 43 #[.int .i64 n] (.agg (numc (sg n) (dg n.natAbs))) := by
  by_cases h : n < 0
  · rw [sg_yes h]; exact fromInt_neg n h0 h
  · rw [sg_no (by omega)]; exact fromInt_pos n (by omega) h1
end Go.Proofs.Ytngkimcnolmmoaa

/- The document's own numbers, as digits: contracts of its calls, part 9: sums. -/
namespace Go.Proofs.Ytngkimcnolmmoaa
open Go.RowKit
set_option linter.unusedVariables false
set_option linter.unusedSimpArgs false
theorem partOf_0 (N : Nat) : partOf N 0 = fun _ => 0 := by funext j; unfold partOf; simp
theorem partOf_s (N k : Nat) (v : Int) (hv : v = dg N k) : (fun j => if j = k then v else partOf N k j) = partOf N (k + 1) := by
  funext j
  unfold partOf
  by_cases e : j = k
  · subst e; rw [if_pos rfl, if_pos (by omega), hv]
  · rw [if_neg e]
    by_cases h : j < k
    · rw [if_pos h, if_pos (by omega)]
    · rw [if_neg h, if_neg (by omega)]
theorem partOf_18 (N : Nat) (s : Bool) : numc s (partOf N 18) = numc s (dg N) := numc_congr fun j hj => by unfold partOf; rw [if_pos hj]
theorem digs_18 (N : Nat) : digs (partOf N 18) = digs (dg N) := digs_congr fun j hj => by unfold partOf; rw [if_pos hj]
theorem dg_bd (N k : Nat) : 0 ≤ dg N k ∧ dg N k ≤ 65535 := by have := dN_lt N k; rw [dg_dN]; omega
theorem dg_sum (A B k : Nat) : (dg A k + dg B k + ((carryN A B k : Nat) : Int)) % 65536 = dg (A + B) k ∧ (dg A k + dg B k + ((carryN A B k : Nat) : Int)) / 65536 = ((carryN A B (k + 1) : Nat) : Int) := by
  have h := carry_s A B k
  rw [dg_dN, dg_dN, dg_dN, ← h.1, ← h.2]
  omega

end Go.Proofs.Ytngkimcnolmmoaa

/- The document's own numbers, as digits: contracts of its calls, part 10: differences. -/
namespace Go.Proofs.Ytngkimcnolmmoaa
open Go.RowKit
set_option linter.unusedVariables false
set_option linter.unusedSimpArgs false
theorem dg_diff (A B k : Nat) (h : B ≤ A) : (dg A k - dg B k - ((borrowN A B k : Nat) : Int) < 0 → dg A k - dg B k - ((borrowN A B k : Nat) : Int) + 65536 = dg (A - B) k ∧ borrowN A B (k + 1) = 1) ∧
    (¬ dg A k - dg B k - ((borrowN A B k : Nat) : Int) < 0 → dg A k - dg B k - ((borrowN A B k : Nat) : Int) = dg (A - B) k ∧ borrowN A B (k + 1) = 0) := by
  obtain ⟨h1, h2⟩ := borrow_s A B k h
  rw [dg_dN, dg_dN, dg_dN]
  constructor
  · intro hl
    obtain ⟨e1, e2⟩ := h1 (by omega)
    exact ⟨by omega, e2⟩
  · intro hl
    obtain ⟨e1, e2⟩ := h2 (by omega)
    exact ⟨by omega, e2⟩
theorem borrow_le (A B k : Nat) : borrowN A B k ≤ 1 := by unfold borrowN; split <;> omega

end Go.Proofs.Ytngkimcnolmmoaa
