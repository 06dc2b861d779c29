/- The document's own numbers, as digits: contracts of its calls, part 1. The document's own numbers, as digits: contracts of its calls, part 2: digits of a number. The document's own numbers, as digits: contracts of its calls, part 3: a number of 64 bits. Plain facts on digits to the base 65536. No program is imported. Contracts of wide's calls: Of, Mul. Contracts of wide's calls: Add, Neg, Cmp, Int. -/
import Derived.RowKit
import Derived.Lib.Hide
import Derived.WalkKit
import Derived.Below
import Derived.Outline
import Derived.WalkLawsBesides
import Derived.Laws.Externs
import Derived.Shelf.Spec.BitsCarry
import Derived.Test.YthadlpkdfnonjaaProg
import Derived.Test.YthadlpkdfnonjaaShelf
import Derived.Test.YthadlpkdfnonjaaC0
namespace Go.Proofs.Ythadlpkdfnonjaa
open Go.RowKit
set_option linter.unusedVariables false
set_option linter.unusedSimpArgs false
/-- Eighteen digits in a row. -/
def digs (A : Nat → Int) : Array Value := ((List.range 18).map fun j => Value.int .i64 (A j)).toArray
theorem digs_get (A : Nat → Int) (i : Nat) : (digs A)[i]? = if i < 18 then some (.int .i64 (A i)) else none := by
  unfold digs
  split
  · rename_i h; simp [h]
  · rename_i h; simp; omega
theorem digs_set (A : Nat → Int) (i : Nat) (v : Int) : (digs A).setIfInBounds i (.int .i64 v) = digs (fun j => if j = i then v else A j) := by
  unfold digs
  apply Array.ext_getElem?
  intro k
  simp only [Array.getElem?_setIfInBounds, List.getElem?_toArray, List.getElem?_map, List.size_toArray, List.length_map, List.length_range]
  by_cases hk : k < 18
  · by_cases hi : i = k
    · subst hi; simp [hk]
    · simp [hk, hi, Ne.symm hi]
  · by_cases hi : i = k
    · subst hi; simp [hk]
    · simp [hk, hi]
theorem digs_size (A : Nat → Int) : (digs A).size = 18 := by unfold digs; simp
attribute [go_sem] digs_get digs_set digs_size
end Go.Proofs.Ythadlpkdfnonjaa
namespace Go.Proofs.Ythadlpkdfnonjaa
open Go.RowKit
set_option linter.unusedVariables false
set_option linter.unusedSimpArgs false
end Go.Proofs.Ythadlpkdfnonjaa
namespace Go.Proofs.Ythadlpkdfnonjaa
open Go.RowKit
set_option linter.unusedVariables false
set_option linter.unusedSimpArgs false
/-- A sign and eighteen digits. -/
def numc (s : Bool) (A : Nat → Int) : Array Value := (Value.bool s :: (List.range 18).map fun j => Value.int .i64 (A j)).toArray
theorem numc_get0 (s : Bool) (A : Nat → Int) : (numc s A)[0]? = some (.bool s) := by unfold numc; simp
theorem numc_get (s : Bool) (A : Nat → Int) (i : Nat) : (numc s A)[i + 1]? = if i < 18 then some (.int .i64 (A i)) else none := by
  unfold numc
  split
  · rename_i h; simp [h]
  · rename_i h; simp; omega
theorem numc_set (s : Bool) (A : Nat → Int) (i : Nat) (v : Int) : (numc s A).setIfInBounds (i + 1) (.int .i64 v) = numc s (fun j => if j = i then v else A j) := by
  unfold numc
  apply Array.ext_getElem?
  intro k
  simp only [Array.getElem?_setIfInBounds, List.getElem?_toArray, List.size_toArray, List.length_cons, List.length_map, List.length_range]
  cases k with
  | zero => simp
  | succ k =>
    simp only [List.getElem?_cons_succ, List.getElem?_map]
    by_cases hk : k < 18
    · by_cases hi : i = k
      · subst hi; simp [hk]
      · simp [hk, hi, Ne.symm hi]
    · by_cases hi : i = k
      · subst hi; simp [hk]; omega
      · simp [hk, hi]
theorem numc_set0 (s u : Bool) (A : Nat → Int) : (numc s A).setIfInBounds 0 (.bool u) = numc u A := by
  unfold numc; simp
theorem numc_size (s : Bool) (A : Nat → Int) : (numc s A).size = 19 := by unfold numc; simp
theorem numc_at0 (s : Bool) (A : Nat → Int) (h : 0 < (numc s A).size) : (numc s A)[0]'h = .bool s := (Array.getElem?_eq_some_iff.1 (numc_get0 s A)).2
theorem numc_at (s : Bool) (A : Nat → Int) (i : Nat) (h : i + 1 < (numc s A).size) : (numc s A)[i + 1]'h = .int .i64 (A i) := by
  have hi : i < 18 := by rw [numc_size] at h; omega
  have := numc_get s A i
  rw [if_pos hi] at this
  exact (Array.getElem?_eq_some_iff.1 this).2
theorem digs_at (A : Nat → Int) (i : Nat) (h : i < (digs A).size) : (digs A)[i]'h = .int .i64 (A i) := by
  have hi : i < 18 := by rw [digs_size] at h; exact h
  have := digs_get A i
  rw [if_pos hi] at this
  exact (Array.getElem?_eq_some_iff.1 this).2
theorem numc_get1 (s : Bool) (A : Nat → Int) (i : Nat) : (numc s A)[1 + i]? = if i < 18 then some (.int .i64 (A i)) else none := by rw [Nat.add_comm]; exact numc_get s A i
theorem numc_at1 (s : Bool) (A : Nat → Int) (i : Nat) (h : 1 + i < (numc s A).size) : (numc s A)[1 + i]'h = .int .i64 (A i) := by
  have := numc_get1 s A i
  rw [if_pos (by rw [numc_size] at h; omega)] at this
  exact (Array.getElem?_eq_some_iff.1 this).2
theorem numc_set1 (s : Bool) (A : Nat → Int) (i : Nat) (v : Int) : (numc s A).setIfInBounds (1 + i) (.int .i64 v) = numc s (fun j => if j = i then v else A j) := by rw [Nat.add_comm]; exact numc_set s A i v
attribute [go_sem] numc_get1 numc_at1 numc_set1
attribute [go_sem] numc_at0 numc_at digs_at
attribute [go_sem] numc_get0 numc_get numc_set numc_set0 numc_size
end Go.Proofs.Ythadlpkdfnonjaa
namespace Go.Proofs.Ythadlpkdfnonjaa
open Go.RowKit
set_option linter.unusedVariables false
set_option linter.unusedSimpArgs false
/-- The digits of a number. -/
def dN (N j : Nat) : Nat := N / 65536 ^ j % 65536
/-- What digits are together, the first n of them. -/
def valD (D : Nat → Nat) : Nat → Nat
  | 0 => 0
  | n + 1 => valD D n + D n * 65536 ^ n
/-! the highest digit that differs -/
end Go.Proofs.Ythadlpkdfnonjaa
namespace Go.Proofs.Ythadlpkdfnonjaa
open Go.RowKit
set_option linter.unusedVariables false
set_option linter.unusedSimpArgs false

theorem mul64_any (x y : Int) (w : World) (h0 : 0 ≤ x) (h1 : x ≤ 18446744073709551615) (h2 : 0 ≤ y) (h3 : y ≤ 18446744073709551615) :
    Calls Try.prog 139 #[.int .u64 x, .int .u64 y] w fun e w' => e = .returned (.tuple #[.int .u64 (hiOf (x * y)), .int .u64 (loOf (x * y))]) ∧ w = w' := by
  obtain ⟨n, rfl⟩ := Int.eq_ofNat_of_zero_le h0
  obtain ⟨m, rfl⟩ := Int.eq_ofNat_of_zero_le h2
  refine (Try.bits_Mul64 n m (by omega) (by omega) w).mono ?_
  rintro e w' ⟨rfl, rfl⟩
  refine ⟨?_, rfl⟩
  rw [show (n : Int) * m = ((n * m : Nat) : Int) from by simp]
  unfold hiOf loOf
  simp

theorem mul_any (a b : Int) (h0 : -9223372036854775808 ≤ a) (h1 : a ≤ 9223372036854775807) (h2 : -9223372036854775808 ≤ b) (h3 : b ≤ 9223372036854775807) :
    Gives Try.prog 110 #[.int .i64 a, .int .i64 b] (.agg #[.int .i64 (hiOf (a * b)), .int .u64 (loOf (a * b))]) := by
  refine Gives.mk fun w => ?_
  have ea : IntKind.u64.wrap a = loOf a := by rw [IntKind.wrap_u64]; rfl
  have eb : IntKind.u64.wrap b = loOf b := by rw [IntKind.wrap_u64]; rfl
  have la := lo_bd a
  have lb := lo_bd b
  have aa := and_lost a b h0 h1 h2 h3
  have ab := and_lost b a h2 h3 h0 h1
  have fin := Lib.hid (mul_hi a b h0 h1 h2 h3)
  have fil := Lib.hid (mul_lo a b)
  go_enter Try.func110, Try.ntmps110
  go_wp2_with (go_at_call 139; refine (mul64_any _ _ _ la.1 la.2 lb.1 lb.2).mono ?_; rintro e w' ⟨rfl, rfl⟩)
  rw [fin.out, fil.out]
  refine bodyPost_ret (v := .agg #[.int .i64 (hiOf (a * b)), .int .u64 (loOf (a * b))]) (by simp [results, Try.results110, go_sem]) rfl ⟨rfl, bel_alloc (Below.refl _ _) _⟩
end Go.Proofs.Ythadlpkdfnonjaa
namespace Go.Proofs.Ythadlpkdfnonjaa
open Go.RowKit
set_option linter.unusedVariables false
set_option linter.unusedSimpArgs false

end Go.Proofs.Ythadlpkdfnonjaa
