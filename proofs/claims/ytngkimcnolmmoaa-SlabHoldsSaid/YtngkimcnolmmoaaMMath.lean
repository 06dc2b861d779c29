/- Plain facts on whole numbers of 128 bits as two halves. No program is imported. -/
import Derived.IntWalk
import Derived.RowKit
import Derived.Below
import Derived.Deep.Draws
import Derived.Lib.Hide
import Derived.Laws.Bits64b
import Derived.Lib.Mul64
import Derived.Laws.Externs
import Derived.Shelf.Spec.BitsCarry
namespace Go.Proofs.Ytngkimcnolmmoaa
open Go.RowKit
set_option linter.unusedVariables false
set_option linter.unusedSimpArgs false
/-- The upper half (signed) and the lower half (unsigned) of a number of 128 bits. -/
def hiOf (n : Int) : Int := n / 18446744073709551616
def loOf (n : Int) : Int := n % 18446744073709551616
def InW (n : Int) : Prop := -170141183460469231731687303715884105728 ≤ n ∧ n ≤ 170141183460469231731687303715884105727
theorem hi_lo (n : Int) : hiOf n * 18446744073709551616 + loOf n = n := by unfold hiOf loOf; omega
theorem hi_mk (a c : Int) (h0 : 0 ≤ c) (h1 : c ≤ 18446744073709551615) : hiOf (a * 18446744073709551616 + c) = a := by unfold hiOf; omega
theorem lo_mk (a c : Int) (h0 : 0 ≤ c) (h1 : c ≤ 18446744073709551615) : loOf (a * 18446744073709551616 + c) = c := by unfold loOf; omega
theorem inW_mk (a c : Int) (h0 : 0 ≤ c) (h1 : c ≤ 18446744073709551615) (h2 : -9223372036854775808 ≤ a) (h3 : a ≤ 9223372036854775807) : InW (a * 18446744073709551616 + c) := by unfold InW; omega
theorem lo_bd (n : Int) : 0 ≤ loOf n ∧ loOf n ≤ 18446744073709551615 := by unfold loOf; omega
theorem hi_bd {n : Int} (h : InW n) : -9223372036854775808 ≤ hiOf n ∧ hiOf n ≤ 9223372036854775807 := by unfold hiOf; unfold InW at h; omega
theorem halves_eq (n m : Int) : (hiOf n = hiOf m ∧ loOf n = loOf m) ↔ n = m := by unfold hiOf loOf; omega
theorem lt_halves (n m : Int) : n < m ↔ (hiOf n < hiOf m ∨ hiOf n = hiOf m ∧ loOf n < loOf m) := by unfold hiOf loOf; omega
theorem hi_eq {n a c : Int} (h : n = a * 18446744073709551616 + c) (h0 : 0 ≤ c) (h1 : c ≤ 18446744073709551615) : hiOf n = a := by unfold hiOf; omega
theorem lo_eq {n a c : Int} (h : n = a * 18446744073709551616 + c) (h0 : 0 ≤ c) (h1 : c ≤ 18446744073709551615) : loOf n = c := by unfold loOf; omega
/-! and on int64 with a mask of all ones or none -/
theorem i64_and_m1 (b : Int) (h0 : -9223372036854775808 ≤ b) (h1 : b ≤ 9223372036854775807) : bits .and .i64 (-1) b = b := by
  have h : BitVec.ofInt 64 (-1) = BitVec.allOnes 64 := by decide
  have hb : (BitVec.ofInt 64 b).toNat = (b % 18446744073709551616).toNat := by rw [BitVec.toNat_ofInt]; rfl
  show IntKind.i64.wrap ((BitVec.ofInt 64 (-1) &&& BitVec.ofInt 64 b).toNat : Int) = b
  rw [h, BitVec.allOnes_and, hb, IntKind.wrap_i64]
  omega
theorem i64_and_0 (b : Int) : bits .and .i64 0 b = 0 := by
  have h : BitVec.ofInt 64 0 = 0#64 := by decide
  show IntKind.i64.wrap ((BitVec.ofInt 64 0 &&& BitVec.ofInt 64 b).toNat : Int) = 0
  rw [h, BitVec.zero_and, IntKind.wrap_i64]
  decide
theorem prod_bd (a b : Int) (h0 : -9223372036854775808 ≤ a) (h1 : a ≤ 9223372036854775807) (h2 : -9223372036854775808 ≤ b) (h3 : b ≤ 9223372036854775807) :
    -85070591730234615865843651857942052864 ≤ a * b ∧ a * b ≤ 85070591730234615865843651857942052864 := by
  have h : (a * b).natAbs ≤ 9223372036854775808 * 9223372036854775808 := by
    rw [Int.natAbs_mul]; exact Nat.mul_le_mul (by omega) (by omega)
  omega
theorem inW_mul (a b : Int) (h0 : -9223372036854775808 ≤ a) (h1 : a ≤ 9223372036854775807) (h2 : -9223372036854775808 ≤ b) (h3 : b ≤ 9223372036854775807) : InW (a * b) := by
  have := prod_bd a b h0 h1 h2 h3; unfold InW; omega
/-- What is left when a factor below 0 is read without a sign. -/
def lostOf (a b : Int) : Int := if a < 0 then b else 0
theorem lo_neg (a : Int) (h0 : -9223372036854775808 ≤ a) (h1 : a < 0) : loOf a = a + 18446744073709551616 := by unfold loOf; omega
theorem lo_pos (a : Int) (h0 : 0 ≤ a) (h1 : a ≤ 9223372036854775807) : loOf a = a := by unfold loOf; omega
theorem and_lost (a b : Int) (h0 : -9223372036854775808 ≤ a) (h1 : a ≤ 9223372036854775807) (h2 : -9223372036854775808 ≤ b) (h3 : b ≤ 9223372036854775807) :
    bits .and .i64 (a / 9223372036854775808) b = lostOf a b := by
  unfold lostOf
  by_cases h : a < 0
  · rw [show a / 9223372036854775808 = -1 from by omega, i64_and_m1 b h2 h3, if_pos h]
  · rw [show a / 9223372036854775808 = 0 from by omega, i64_and_0 b, if_neg h]
theorem mul_lo (a b : Int) : loOf (loOf a * loOf b) = loOf (a * b) := by
  unfold loOf; rw [← Int.mul_emod]
theorem mul_hi (a b : Int) (h0 : -9223372036854775808 ≤ a) (h1 : a ≤ 9223372036854775807) (h2 : -9223372036854775808 ≤ b) (h3 : b ≤ 9223372036854775807) :
    wrap64 (IntKind.u64.wrap (hiOf (loOf a * loOf b) - IntKind.u64.wrap (IntKind.u64.wrap (lostOf a b) + IntKind.u64.wrap (lostOf b a)))) = hiOf (a * b) := by
  have hb := prod_bd a b h0 h1 h2 h3
  simp only [IntKind.wrap_u64]
  unfold lostOf wrap64
  by_cases ha : a < 0 <;> by_cases hc : b < 0
  · rw [lo_neg a h0 ha, lo_neg b h2 hc, if_pos ha, if_pos hc]
    have e : (a + 18446744073709551616) * (b + 18446744073709551616) = a * b + 18446744073709551616 * a + 18446744073709551616 * b + 340282366920938463463374607431768211456 := by
      simp only [Int.add_mul, Int.mul_add]; omega
    rw [e]; generalize a * b = p at *; unfold hiOf; omega
  · rw [lo_neg a h0 ha, lo_pos b (by omega) h3, if_pos ha, if_neg hc]
    have e : (a + 18446744073709551616) * b = a * b + 18446744073709551616 * b := by
      simp only [Int.add_mul]
    rw [e]; generalize a * b = p at *; unfold hiOf; omega
  · rw [lo_pos a (by omega) h1, lo_neg b h2 hc, if_neg ha, if_pos hc]
    have e : a * (b + 18446744073709551616) = a * b + 18446744073709551616 * a := by
      simp only [Int.mul_add]; omega
    rw [e]; generalize a * b = p at *; unfold hiOf; omega
  · rw [lo_pos a (by omega) h1, lo_pos b (by omega) h3, if_neg ha, if_neg hc]
    generalize a * b = p at *; unfold hiOf; omega
/-! signs of bits -/
theorem i64_toInt (v : BitVec 64) : IntKind.i64.wrap (v.toNat : Int) = v.toInt := by
  rw [IntKind.wrap_i64, BitVec.toInt_eq_toNat_cond]
  have := v.isLt
  split <;> omega
theorem ofInt_toInt (a : Int) (h0 : -9223372036854775808 ≤ a) (h1 : a ≤ 9223372036854775807) : (BitVec.ofInt 64 a).toInt = a := by
  rw [BitVec.toInt_ofInt, Int.bmod_def]; split <;> omega
theorem msb_sign (a : Int) (h0 : -9223372036854775808 ≤ a) (h1 : a ≤ 9223372036854775807) : (BitVec.ofInt 64 a).msb = decide (a < 0) := by
  rw [BitVec.msb_eq_toInt, ofInt_toInt a h0 h1]
theorem xor_sign (a b : Int) (h0 : -9223372036854775808 ≤ a) (h1 : a ≤ 9223372036854775807) (h2 : -9223372036854775808 ≤ b) (h3 : b ≤ 9223372036854775807) :
    bits .xor .i64 a b < 0 ↔ (decide (a < 0) != decide (b < 0)) = true := by
  have e : bits .xor .i64 a b = (BitVec.ofInt 64 a ^^^ BitVec.ofInt 64 b).toInt := i64_toInt _
  rw [e, ← msb_sign a h0 h1, ← msb_sign b h2 h3]
  have hm := BitVec.msb_eq_toInt (x := BitVec.ofInt 64 a ^^^ BitVec.ofInt 64 b)
  rw [BitVec.msb_xor] at hm
  rw [show ((BitVec.ofInt 64 a).msb != (BitVec.ofInt 64 b).msb) = ((BitVec.ofInt 64 a).msb ^^ (BitVec.ofInt 64 b).msb) from by cases (BitVec.ofInt 64 a).msb <;> cases (BitVec.ofInt 64 b).msb <;> rfl, hm]
  simp
theorem xor_bd (a b : Int) : -9223372036854775808 ≤ bits .xor .i64 a b ∧ bits .xor .i64 a b ≤ 9223372036854775807 := by
  have e : bits .xor .i64 a b = (BitVec.ofInt 64 a ^^^ BitVec.ofInt 64 b).toInt := i64_toInt _
  rw [e]
  have h1 := BitVec.two_mul_toInt_lt (x := BitVec.ofInt 64 a ^^^ BitVec.ofInt 64 b)
  have h2 := BitVec.le_two_mul_toInt (x := BitVec.ofInt 64 a ^^^ BitVec.ofInt 64 b)
  omega
theorem and_sign (a b : Int) (h0 : -9223372036854775808 ≤ a) (h1 : a ≤ 9223372036854775807) (h2 : -9223372036854775808 ≤ b) (h3 : b ≤ 9223372036854775807) :
    bits .and .i64 a b < 0 ↔ (a < 0 ∧ b < 0) := by
  have e : bits .and .i64 a b = (BitVec.ofInt 64 a &&& BitVec.ofInt 64 b).toInt := i64_toInt _
  rw [e]
  have hm := BitVec.msb_eq_toInt (x := BitVec.ofInt 64 a &&& BitVec.ofInt 64 b)
  rw [BitVec.msb_and, msb_sign a h0 h1, msb_sign b h2 h3] at hm
  have := congrArg (· = true) hm
  simpa using this.symm
theorem and_bd (a b : Int) : -9223372036854775808 ≤ bits .and .i64 a b ∧ bits .and .i64 a b ≤ 9223372036854775807 := by
  have e : bits .and .i64 a b = (BitVec.ofInt 64 a &&& BitVec.ofInt 64 b).toInt := i64_toInt _
  rw [e]
  have h1 := BitVec.two_mul_toInt_lt (x := BitVec.ofInt 64 a &&& BitVec.ofInt 64 b)
  have h2 := BitVec.le_two_mul_toInt (x := BitVec.ofInt 64 a &&& BitVec.ofInt 64 b)
  omega
/-! the sum's upper half as it is reckoned -/
def sumHi (x y : Int) : Int := wrap64 (loOf (loOf (hiOf x) + loOf (hiOf y) + hiOf (loOf x + loOf y)))
theorem sumHi_bd (x y : Int) : -9223372036854775808 ≤ sumHi x y ∧ sumHi x y ≤ 9223372036854775807 := by unfold sumHi wrap64; omega
theorem sumHi_in (x y : Int) (h : InW (x + y)) : sumHi x y = hiOf (x + y) := by unfold InW at h; unfold sumHi wrap64 hiOf loOf; omega
theorem sumLo (x y : Int) : loOf (loOf x + loOf y) = loOf (x + y) := by unfold loOf; omega
theorem sumTest_no (x y : Int) (hx : InW x) (hy : InW y) (h : InW (x + y)) :
    0 ≤ bits .and .i64 (bits .xor .i64 (hiOf x) (sumHi x y)) (bits .xor .i64 (hiOf y) (sumHi x y)) := by
  have bx := hi_bd hx
  have bb := hi_bd hy
  have bs := sumHi_bd x y
  have k := and_sign _ _ (xor_bd (hiOf x) (sumHi x y)).1 (xor_bd (hiOf x) (sumHi x y)).2 (xor_bd (hiOf y) (sumHi x y)).1 (xor_bd (hiOf y) (sumHi x y)).2
  rw [xor_sign _ _ bx.1 bx.2 bs.1 bs.2, xor_sign _ _ bb.1 bb.2 bs.1 bs.2] at k
  have hs := sumHi_in x y h
  have k2 : ¬ ((decide (hiOf x < 0) != decide (sumHi x y < 0)) = true ∧ (decide (hiOf y < 0) != decide (sumHi x y < 0)) = true) := by
    rw [hs]; simp only [bne_iff_ne, ne_eq, decide_eq_decide]; unfold hiOf; omega
  have := mt k.1 k2
  omega
theorem sumTest_yes (x y : Int) (hx : InW x) (hy : InW y) (h : ¬ InW (x + y)) :
    bits .and .i64 (bits .xor .i64 (hiOf x) (sumHi x y)) (bits .xor .i64 (hiOf y) (sumHi x y)) < 0 := by
  have bx := hi_bd hx
  have bb := hi_bd hy
  have bs := sumHi_bd x y
  have k := and_sign _ _ (xor_bd (hiOf x) (sumHi x y)).1 (xor_bd (hiOf x) (sumHi x y)).2 (xor_bd (hiOf y) (sumHi x y)).1 (xor_bd (hiOf y) (sumHi x y)).2
  rw [xor_sign _ _ bx.1 bx.2 bs.1 bs.2, xor_sign _ _ bb.1 bb.2 bs.1 bs.2] at k
  refine k.2 ?_
  simp only [bne_iff_ne, ne_eq, decide_eq_decide]; unfold InW at h hx hy; unfold sumHi wrap64 hiOf loOf; omega
/-! the other sign's upper half as it is reckoned -/
def negHi (x : Int) : Int := wrap64 (loOf (18446744073709551616 - loOf (hiOf x) - (if 0 < loOf x then 1 else 0)))
theorem negHi_in (x : Int) (hx : InW x) (h : x ≠ -170141183460469231731687303715884105728) : negHi x = hiOf (-x) := by
  unfold InW at hx; unfold negHi wrap64 hiOf loOf; split <;> omega
theorem negLo (x : Int) : loOf (18446744073709551616 - loOf x) = loOf (-x) := by unfold loOf; omega
end Go.Proofs.Ytngkimcnolmmoaa

/- Long division of 128 bits by 64, two digits of 32 bits: the plain facts. No program is imported. -/
namespace Go.Proofs.Ytngkimcnolmmoaa
open Go.RowKit
set_option linter.unusedVariables false
set_option linter.unusedSimpArgs false
/-- A guess q of the next digit, and what it leaves of the upper part. -/
def DivInv (A b U v q r : Int) : Prop := (U * 4294967296 + v) / (A * 4294967296 + b) ≤ q ∧ q ≤ 4294967297 ∧ r = U - q * A ∧ 0 ≤ r ∧ r ≤ 4294967295
def digit (A b U v : Int) : Int := (U * 4294967296 + v) / (A * 4294967296 + b)
section
variable {A b U v q r : Int}
theorem digit_le (hA : 2147483648 ≤ A) (hb : 0 ≤ b) (h : q * (A * 4294967296 + b) ≤ U * 4294967296 + v) : q ≤ digit A b U v :=
  (Int.le_ediv_iff_mul_le (by omega)).2 h
theorem le_digit (hA : 2147483648 ≤ A) (hb : 0 ≤ b) (h : q ≤ digit A b U v) : q * (A * 4294967296 + b) ≤ U * 4294967296 + v :=
  (Int.le_ediv_iff_mul_le (by omega)).1 h
theorem digit_bd (hA : 2147483648 ≤ A) (hb : 0 ≤ b) (hU : 0 ≤ U) (hv : 0 ≤ v) (hv1 : v ≤ 4294967295) (h : U < A * 4294967296 + b) : 0 ≤ digit A b U v ∧ digit A b U v ≤ 4294967295 := by
  constructor
  · exact digit_le hA hb (by omega)
  · have : digit A b U v < 4294967296 := Int.ediv_lt_of_lt_mul (by omega) (by
      have : (U + 1) * 4294967296 ≤ (A * 4294967296 + b) * 4294967296 := by omega
      omega)
    omega
theorem q_expand (q A b : Int) : q * (A * 4294967296 + b) = q * A * 4294967296 + q * b := by
  rw [Int.mul_add, Int.mul_assoc]
theorem inv_first (hA : 2147483648 ≤ A) (hA1 : A ≤ 4294967295) (hb : 0 ≤ b) (hb1 : b ≤ 4294967295) (hU : 0 ≤ U) (hv : 0 ≤ v) (hv1 : v ≤ 4294967295) (h : U < A * 4294967296 + b) :
    DivInv A b U v (U / A) (U - U / A * A) := by
  have e1 := Int.emod_add_mul_ediv U A
  have e2 := Int.emod_lt_of_pos U (by omega : 0 < A)
  have e3 := Int.emod_nonneg U (by omega : A ≠ 0)
  rw [Int.mul_comm] at e1
  refine ⟨?_, ?_, rfl, by omega, by omega⟩
  · refine (Int.le_ediv_iff_mul_le (by omega)).2 ?_
    have h1 := le_digit (v := v) (U := U) hA hb (Int.le_refl _)
    have h0 := (digit_bd hA hb hU hv hv1 h).1
    rw [q_expand] at h1
    have h2 : 0 ≤ digit A b U v * b := Int.mul_nonneg h0 hb
    show digit A b U v * A ≤ U
    omega
  · have : U / A < 4294967298 := Int.ediv_lt_of_lt_mul (by omega) (by omega)
    omega
theorem inv_le (h : DivInv A b U v q r) : digit A b U v ≤ q := h.1
/-- The test says that the guess is too great. -/
theorem test_yes (hA : 2147483648 ≤ A) (hb : 0 ≤ b) (hU : 0 ≤ U) (hv : 0 ≤ v) (hv1 : v ≤ 4294967295) (hUD : U < A * 4294967296 + b) (h : DivInv A b U v q r)
    (ht : 4294967296 ≤ q ∨ 4294967296 * r + v < q * b) : digit A b U v ≤ q - 1 := by
  obtain ⟨h1, h2, h3, h4, h5⟩ := h
  have hd := digit_bd hA hb hU hv hv1 hUD
  rcases ht with ht | ht
  · omega
  · have : ¬ q ≤ digit A b U v := fun hq => by
      have := le_digit hA hb hq
      rw [q_expand] at this
      omega
    omega
theorem test_no (hA : 2147483648 ≤ A) (hb : 0 ≤ b) (h : DivInv A b U v q r) (ht : q * b ≤ 4294967296 * r + v) : q = digit A b U v := by
  obtain ⟨h1, h2, h3, h4, h5⟩ := h
  have := digit_le (v := v) (U := U) hA hb (q := q) (by rw [q_expand]; omega)
  have h1' : digit A b U v ≤ q := h1
  omega
theorem inv_next (h : DivInv A b U v q r) (hy : digit A b U v ≤ q - 1) (hA : 2147483648 ≤ A) (hr : r + A ≤ 4294967295) : DivInv A b U v (q - 1) (r + A) := by
  obtain ⟨h1, h2, h3, h4, h5⟩ := h
  refine ⟨hy, by omega, ?_, by omega, hr⟩
  rw [Int.sub_mul]; omega
theorem break_out (h : DivInv A b U v q r) (hy : digit A b U v ≤ q - 1) (hA : 2147483648 ≤ A) (hb : 0 ≤ b) (hb1 : b ≤ 4294967295) (hv : 0 ≤ v) (hr : 4294967296 ≤ r + A) (hd : 0 ≤ digit A b U v) : q - 1 = digit A b U v := by
  obtain ⟨h1, h2, h3, h4, h5⟩ := h
  have hm : (q - 1) * b ≤ 4294967296 * 4294967295 := Int.mul_le_mul (by omega) hb1 hb (by omega)
  have e : (q - 1) * A = q * A - A := by rw [Int.sub_mul]; omega
  have := digit_le (v := v) (U := U) hA hb (q := q - 1) (by rw [q_expand, e]; omega)
  omega
/-- What is left behind a digit. -/
theorem rest_bd (hA : 2147483648 ≤ A) (hb : 0 ≤ b) (hU : 0 ≤ U) (hv : 0 ≤ v) :
    0 ≤ U * 4294967296 + v - digit A b U v * (A * 4294967296 + b) ∧ U * 4294967296 + v - digit A b U v * (A * 4294967296 + b) < A * 4294967296 + b := by
  have e1 := Int.emod_add_mul_ediv (U * 4294967296 + v) (A * 4294967296 + b)
  have e2 := Int.emod_lt_of_pos (U * 4294967296 + v) (by omega : 0 < A * 4294967296 + b)
  have e3 := Int.emod_nonneg (U * 4294967296 + v) (by omega : A * 4294967296 + b ≠ 0)
  have e4 := Int.mul_comm (A * 4294967296 + b) ((U * 4294967296 + v) / (A * 4294967296 + b))
  unfold digit
  generalize (U * 4294967296 + v) / (A * 4294967296 + b) * (A * 4294967296 + b) = t at *
  omega
end
/-- Two digits of a quotient. -/
theorem two_digits (D U v1 v0 q1 q0 R : Int) (hD : 0 < D) (h1 : U * 4294967296 + v1 - q1 * D = R) (b0 : 0 ≤ R * 4294967296 + v0 - q0 * D) (b1 : R * 4294967296 + v0 - q0 * D < D) :
    (U * 18446744073709551616 + (v1 * 4294967296 + v0)) / D = q1 * 4294967296 + q0 ∧ (U * 18446744073709551616 + (v1 * 4294967296 + v0)) % D = R * 4294967296 + v0 - q0 * D := by
  have e : U * 18446744073709551616 + (v1 * 4294967296 + v0) = (q1 * 4294967296 + q0) * D + (R * 4294967296 + v0 - q0 * D) := by
    have e2 : (q1 * 4294967296 + q0) * D = q1 * D * 4294967296 + q0 * D := by
      rw [Int.add_mul, Int.mul_assoc, Int.mul_comm 4294967296 D, ← Int.mul_assoc]
    rw [e2]; omega
  rw [e]
  constructor
  · rw [Int.add_comm, Int.add_mul_ediv_right _ _ (by omega), Int.ediv_eq_zero_of_lt b0 b1]; omega
  · rw [Int.add_comm, Int.add_mul_emod_self_right, Int.emod_eq_of_lt b0 b1]
/-- Both scaled alike: the same quotient, the rest scaled. -/
theorem scaled (n y p : Int) (hp : 0 < p) : n * p / (y * p) = n / y ∧ n * p % (y * p) / p = n % y := by
  constructor
  · exact Int.mul_ediv_mul_of_pos_left n y hp
  · rw [Int.mul_comm n p, Int.mul_comm y p, Int.mul_emod_mul_of_pos n y hp, Int.mul_comm]
    exact Int.mul_ediv_cancel _ (by omega)
end Go.Proofs.Ytngkimcnolmmoaa
