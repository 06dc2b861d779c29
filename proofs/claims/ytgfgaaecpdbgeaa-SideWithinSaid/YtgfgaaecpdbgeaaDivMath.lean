/- Long division of 128 bits by 64, two digits of 32 bits: the plain facts. No program is imported. -/
import Derived.Test.YtgfgaaecpdbgeaaMath
import Derived.Lib.Hide
namespace Go.Proofs.Ytgfgaaecpdbgeaa
open Go.RowKit
set_option linter.unusedVariables false
set_option linter.unusedSimpArgs false
/-- A guess q of the next digit, and what it leaves of the upper part. -/
def DivInv (A b U v q r : Int) : Prop := (U * 4294967296 + v) / (A * 4294967296 + b) ≤ q ∧ q ≤ 4294967297 ∧ r = U - q * A ∧ 0 ≤ r ∧ r ≤ 4294967295
def digit (A b U v : Int) : Int := (U * 4294967296 + v) / (A * 4294967296 + b)
section
variable {A b U v q r : Int}
theorem digit_le (hA : 2147483648 ≤ A) (hb : 0 ≤ b) (h : q * (A * 4294967296 + b) ≤ U * 4294967296 + v) : q ≤ digit A b U v :=
  (Int.le_ediv_iff_mul_le (by omega)).2 h
theorem le_digit (hA : 2147483648 ≤ A) (hb : 0 ≤ b) (h : q ≤ digit A b U v) : q * (A * 4294967296 + b) ≤ U * 4294967296 + v :=
  (Int.le_ediv_iff_mul_le (by omega)).1 h
theorem digit_bd (hA : 2147483648 ≤ A) (hb : 0 ≤ b) (hU : 0 ≤ U) (hv : 0 ≤ v) (hv1 : v ≤ 4294967295) (h : U < A * 4294967296 + b) : 0 ≤ digit A b U v ∧ digit A b U v ≤ 4294967295 := by
  constructor
  · exact digit_le hA hb (by omega)
  · have : digit A b U v < 4294967296 := Int.ediv_lt_of_lt_mul (by omega) (by
      have : (U + 1) * 4294967296 ≤ (A * 4294967296 + b) * 4294967296 := by omega
      omega)
    omega
theorem q_expand (q A b : Int) : q * (A * 4294967296 + b) = q * A * 4294967296 + q * b := by
  rw [Int.mul_add, Int.mul_assoc]
theorem inv_first (hA : 2147483648 ≤ A) (hA1 : A ≤ 4294967295) (hb : 0 ≤ b) (hb1 : b ≤ 4294967295) (hU : 0 ≤ U) (hv : 0 ≤ v) (hv1 : v ≤ 4294967295) (h : U < A * 4294967296 + b) :
    DivInv A b U v (U / A) (U - U / A * A) := by
  have e1 := Int.emod_add_mul_ediv U A
  have e2 := Int.emod_lt_of_pos U (by omega : 0 < A)
  have e3 := Int.emod_nonneg U (by omega : A ≠ 0)
  rw [Int.mul_comm] at e1
  refine ⟨?_, ?_, rfl, by omega, by omega⟩
  · refine (Int.le_ediv_iff_mul_le (by omega)).2 ?_
    have h1 := le_digit (v := v) (U := U) hA hb (Int.le_refl _)
    have h0 := (digit_bd hA hb hU hv hv1 h).1
    rw [q_expand] at h1
    have h2 : 0 ≤ digit A b U v * b := Int.mul_nonneg h0 hb
    show digit A b U v * A ≤ U
    omega
  · have : U / A < 4294967298 := Int.ediv_lt_of_lt_mul (by omega) (by omega)
    omega
theorem inv_le (h : DivInv A b U v q r) : digit A b U v ≤ q := h.1
/-- The test says that the guess is too great. -/
theorem test_yes (hA : 2147483648 ≤ A) (hb : 0 ≤ b) (hU : 0 ≤ U) (hv : 0 ≤ v) (hv1 : v ≤ 4294967295) (hUD : U < A * 4294967296 + b) (h : DivInv A b U v q r)
    (ht : 4294967296 ≤ q ∨ 4294967296 * r + v < q * b) : digit A b U v ≤ q - 1 := by
  obtain ⟨h1, h2, h3, h4, h5⟩ := h
  have hd := digit_bd hA hb hU hv hv1 hUD
  rcases ht with ht | ht
  · omega
  · have : ¬ q ≤ digit A b U v := fun hq => by
      have := le_digit hA hb hq
      rw [q_expand] at this
      omega
    omega
theorem test_no (hA : 2147483648 ≤ A) (hb : 0 ≤ b) (h : DivInv A b U v q r) (ht : q * b ≤ 4294967296 * r + v) : q = digit A b U v := by
  obtain ⟨h1, h2, h3, h4, h5⟩ := h
  have := digit_le (v := v) (U := U) hA hb (q := q) (by rw [q_expand]; omega)
  have h1' : digit A b U v ≤ q := h1
  omega
theorem inv_next (h : DivInv A b U v q r) (hy : digit A b U v ≤ q - 1) (hA : 2147483648 ≤ A) (hr : r + A ≤ 4294967295) : DivInv A b U v (q - 1) (r + A) := by
  obtain ⟨h1, h2, h3, h4, h5⟩ := h
  refine ⟨hy, by omega, ?_, by omega, hr⟩
  rw [Int.sub_mul]; omega
theorem break_out (h : DivInv A b U v q r) (hy : digit A b U v ≤ q - 1) (hA : 2147483648 ≤ A) (hb : 0 ≤ b) (hb1 : b ≤ 4294967295) (hv : 0 ≤ v) (hr : 4294967296 ≤ r + A) (hd : 0 ≤ digit A b U v) : q - 1 = digit A b U v := by
  obtain ⟨h1, h2, h3, h4, h5⟩ := h
  have hm : (q - 1) * b ≤ 4294967296 * 4294967295 := Int.mul_le_mul (by omega) hb1 hb (by omega)
  have e : (q - 1) * A = q * A - A := by rw [Int.sub_mul]; omega
  have := digit_le (v := v) (U := U) hA hb (q := q - 1) (by rw [q_expand, e]; omega)
  omega
/-- What is left behind a digit. -/
theorem rest_bd (hA : 2147483648 ≤ A) (hb : 0 ≤ b) (hU : 0 ≤ U) (hv : 0 ≤ v) :
    0 ≤ U * 4294967296 + v - digit A b U v * (A * 4294967296 + b) ∧ U * 4294967296 + v - digit A b U v * (A * 4294967296 + b) < A * 4294967296 + b := by
  have e1 := Int.emod_add_mul_ediv (U * 4294967296 + v) (A * 4294967296 + b)
  have e2 := Int.emod_lt_of_pos (U * 4294967296 + v) (by omega : 0 < A * 4294967296 + b)
  have e3 := Int.emod_nonneg (U * 4294967296 + v) (by omega : A * 4294967296 + b ≠ 0)
  have e4 := Int.mul_comm (A * 4294967296 + b) ((U * 4294967296 + v) / (A * 4294967296 + b))
  unfold digit
  generalize (U * 4294967296 + v) / (A * 4294967296 + b) * (A * 4294967296 + b) = t at *
  omega
end
/-- Two digits of a quotient. -/
theorem two_digits (D U v1 v0 q1 q0 R : Int) (hD : 0 < D) (h1 : U * 4294967296 + v1 - q1 * D = R) (b0 : 0 ≤ R * 4294967296 + v0 - q0 * D) (b1 : R * 4294967296 + v0 - q0 * D < D) :
    (U * 18446744073709551616 + (v1 * 4294967296 + v0)) / D = q1 * 4294967296 + q0 ∧ (U * 18446744073709551616 + (v1 * 4294967296 + v0)) % D = R * 4294967296 + v0 - q0 * D := by
  have e : U * 18446744073709551616 + (v1 * 4294967296 + v0) = (q1 * 4294967296 + q0) * D + (R * 4294967296 + v0 - q0 * D) := by
    have e2 : (q1 * 4294967296 + q0) * D = q1 * D * 4294967296 + q0 * D := by
      rw [Int.add_mul, Int.mul_assoc, Int.mul_comm 4294967296 D, ← Int.mul_assoc]
    rw [e2]; omega
  rw [e]
  constructor
  · rw [Int.add_comm, Int.add_mul_ediv_right _ _ (by omega), Int.ediv_eq_zero_of_lt b0 b1]; omega
  · rw [Int.add_comm, Int.add_mul_emod_self_right, Int.emod_eq_of_lt b0 b1]
/-- Both scaled alike: the same quotient, the rest scaled. -/
theorem scaled (n y p : Int) (hp : 0 < p) : n * p / (y * p) = n / y ∧ n * p % (y * p) / p = n % y := by
  constructor
  · exact Int.mul_ediv_mul_of_pos_left n y hp
  · rw [Int.mul_comm n p, Int.mul_comm y p, Int.mul_emod_mul_of_pos n y hp, Int.mul_comm]
    exact Int.mul_ediv_cancel _ (by omega)
end Go.Proofs.Ytgfgaaecpdbgeaa
