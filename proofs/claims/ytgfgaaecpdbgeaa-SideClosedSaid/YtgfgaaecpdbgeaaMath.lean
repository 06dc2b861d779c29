/- Plain facts on whole numbers of 128 bits as two halves. No program is imported. -/
import Derived.IntWalk
import Derived.RowKit
import Derived.Below
import Derived.Deep.Draws
import Derived.Lib.Hide
import Derived.Laws.Bits64b
import Derived.Lib.Mul64
import Derived.Laws.Externs
import Derived.Shelf.Spec.BitsCarry
namespace Go.Proofs.Ytgfgaaecpdbgeaa
open Go.RowKit
set_option linter.unusedVariables false
set_option linter.unusedSimpArgs false
/-- The upper half (signed) and the lower half (unsigned) of a number of 128 bits. -/
def hiOf (n : Int) : Int := n / 18446744073709551616
def loOf (n : Int) : Int := n % 18446744073709551616
def InW (n : Int) : Prop := -170141183460469231731687303715884105728 ≤ n ∧ n ≤ 170141183460469231731687303715884105727
theorem hi_lo (n : Int) : hiOf n * 18446744073709551616 + loOf n = n := by unfold hiOf loOf; omega
theorem hi_mk (a c : Int) (h0 : 0 ≤ c) (h1 : c ≤ 18446744073709551615) : hiOf (a * 18446744073709551616 + c) = a := by unfold hiOf; omega
theorem lo_mk (a c : Int) (h0 : 0 ≤ c) (h1 : c ≤ 18446744073709551615) : loOf (a * 18446744073709551616 + c) = c := by unfold loOf; omega
theorem inW_mk (a c : Int) (h0 : 0 ≤ c) (h1 : c ≤ 18446744073709551615) (h2 : -9223372036854775808 ≤ a) (h3 : a ≤ 9223372036854775807) : InW (a * 18446744073709551616 + c) := by unfold InW; omega
theorem lo_bd (n : Int) : 0 ≤ loOf n ∧ loOf n ≤ 18446744073709551615 := by unfold loOf; omega
theorem hi_bd {n : Int} (h : InW n) : -9223372036854775808 ≤ hiOf n ∧ hiOf n ≤ 9223372036854775807 := by unfold hiOf; unfold InW at h; omega
theorem halves_eq (n m : Int) : (hiOf n = hiOf m ∧ loOf n = loOf m) ↔ n = m := by unfold hiOf loOf; omega
theorem lt_halves (n m : Int) : n < m ↔ (hiOf n < hiOf m ∨ hiOf n = hiOf m ∧ loOf n < loOf m) := by unfold hiOf loOf; omega
theorem hi_eq {n a c : Int} (h : n = a * 18446744073709551616 + c) (h0 : 0 ≤ c) (h1 : c ≤ 18446744073709551615) : hiOf n = a := by unfold hiOf; omega
theorem lo_eq {n a c : Int} (h : n = a * 18446744073709551616 + c) (h0 : 0 ≤ c) (h1 : c ≤ 18446744073709551615) : loOf n = c := by unfold loOf; omega
/-! and on int64 with a mask of all ones or none -/
theorem i64_and_m1 (b : Int) (h0 : -9223372036854775808 ≤ b) (h1 : b ≤ 9223372036854775807) : bits .and .i64 (-1) b = b := by
  have h : BitVec.ofInt 64 (-1) = BitVec.allOnes 64 := by decide
  have hb : (BitVec.ofInt 64 b).toNat = (b % 18446744073709551616).toNat := by rw [BitVec.toNat_ofInt]; rfl
  show IntKind.i64.wrap ((BitVec.ofInt 64 (-1) &&& BitVec.ofInt 64 b).toNat : Int) = b
  rw [h, BitVec.allOnes_and, hb, IntKind.wrap_i64]
  omega
theorem i64_and_0 (b : Int) : bits .and .i64 0 b = 0 := by
  have h : BitVec.ofInt 64 0 = 0#64 := by decide
  show IntKind.i64.wrap ((BitVec.ofInt 64 0 &&& BitVec.ofInt 64 b).toNat : Int) = 0
  rw [h, BitVec.zero_and, IntKind.wrap_i64]
  decide
theorem prod_bd (a b : Int) (h0 : -9223372036854775808 ≤ a) (h1 : a ≤ 9223372036854775807) (h2 : -9223372036854775808 ≤ b) (h3 : b ≤ 9223372036854775807) :
    -85070591730234615865843651857942052864 ≤ a * b ∧ a * b ≤ 85070591730234615865843651857942052864 := by
  have h : (a * b).natAbs ≤ 9223372036854775808 * 9223372036854775808 := by
    rw [Int.natAbs_mul]; exact Nat.mul_le_mul (by omega) (by omega)
  omega
theorem inW_mul (a b : Int) (h0 : -9223372036854775808 ≤ a) (h1 : a ≤ 9223372036854775807) (h2 : -9223372036854775808 ≤ b) (h3 : b ≤ 9223372036854775807) : InW (a * b) := by
  have := prod_bd a b h0 h1 h2 h3; unfold InW; omega
/-- What is left when a factor below 0 is read without a sign. -/
def lostOf (a b : Int) : Int := if a < 0 then b else 0
theorem lo_neg (a : Int) (h0 : -9223372036854775808 ≤ a) (h1 : a < 0) : loOf a = a + 18446744073709551616 := by unfold loOf; omega
theorem lo_pos (a : Int) (h0 : 0 ≤ a) (h1 : a ≤ 9223372036854775807) : loOf a = a := by unfold loOf; omega
theorem and_lost (a b : Int) (h0 : -9223372036854775808 ≤ a) (h1 : a ≤ 9223372036854775807) (h2 : -9223372036854775808 ≤ b) (h3 : b ≤ 9223372036854775807) :
    bits .and .i64 (a / 9223372036854775808) b = lostOf a b := by
  unfold lostOf
  by_cases h : a < 0
  · rw [show a / 9223372036854775808 = -1 from by omega, i64_and_m1 b h2 h3, if_pos h]
  · rw [show a / 9223372036854775808 = 0 from by omega, i64_and_0 b, if_neg h]
theorem mul_lo (a b : Int) : loOf (loOf a * loOf b) = loOf (a * b) := by
  unfold loOf; rw [← Int.mul_emod]
theorem mul_hi (a b : Int) (h0 : -9223372036854775808 ≤ a) (h1 : a ≤ 9223372036854775807) (h2 : -9223372036854775808 ≤ b) (h3 : b ≤ 9223372036854775807) :
    wrap64 (IntKind.u64.wrap (hiOf (loOf a * loOf b) - IntKind.u64.wrap (IntKind.u64.wrap (lostOf a b) + IntKind.u64.wrap (lostOf b a)))) = hiOf (a * b) := by
  have hb := prod_bd a b h0 h1 h2 h3
  simp only [IntKind.wrap_u64]
  unfold lostOf wrap64
  by_cases ha : a < 0 <;> by_cases hc : b < 0
  · rw [lo_neg a h0 ha, lo_neg b h2 hc, if_pos ha, if_pos hc]
    have e : (a + 18446744073709551616) * (b + 18446744073709551616) = a * b + 18446744073709551616 * a + 18446744073709551616 * b + 340282366920938463463374607431768211456 := by
      simp only [Int.add_mul, Int.mul_add]; omega
    rw [e]; generalize a * b = p at *; unfold hiOf; omega
  · rw [lo_neg a h0 ha, lo_pos b (by omega) h3, if_pos ha, if_neg hc]
    have e : (a + 18446744073709551616) * b = a * b + 18446744073709551616 * b := by
      simp only [Int.add_mul]
    rw [e]; generalize a * b = p at *; unfold hiOf; omega
  · rw [lo_pos a (by omega) h1, lo_neg b h2 hc, if_neg ha, if_pos hc]
    have e : a * (b + 18446744073709551616) = a * b + 18446744073709551616 * a := by
      simp only [Int.mul_add]; omega
    rw [e]; generalize a * b = p at *; unfold hiOf; omega
  · rw [lo_pos a (by omega) h1, lo_pos b (by omega) h3, if_neg ha, if_neg hc]
    generalize a * b = p at *; unfold hiOf; omega
/-! signs of bits -/
theorem i64_toInt (v : BitVec 64) : IntKind.i64.wrap (v.toNat : Int) = v.toInt := by
  rw [IntKind.wrap_i64, BitVec.toInt_eq_toNat_cond]
  have := v.isLt
  split <;> omega
theorem ofInt_toInt (a : Int) (h0 : -9223372036854775808 ≤ a) (h1 : a ≤ 9223372036854775807) : (BitVec.ofInt 64 a).toInt = a := by
  rw [BitVec.toInt_ofInt, Int.bmod_def]; split <;> omega
theorem msb_sign (a : Int) (h0 : -9223372036854775808 ≤ a) (h1 : a ≤ 9223372036854775807) : (BitVec.ofInt 64 a).msb = decide (a < 0) := by
  rw [BitVec.msb_eq_toInt, ofInt_toInt a h0 h1]
theorem xor_sign (a b : Int) (h0 : -9223372036854775808 ≤ a) (h1 : a ≤ 9223372036854775807) (h2 : -9223372036854775808 ≤ b) (h3 : b ≤ 9223372036854775807) :
    bits .xor .i64 a b < 0 ↔ (decide (a < 0) != decide (b < 0)) = true := by
  have e : bits .xor .i64 a b = (BitVec.ofInt 64 a ^^^ BitVec.ofInt 64 b).toInt := i64_toInt _
  rw [e, ← msb_sign a h0 h1, ← msb_sign b h2 h3]
  have hm := BitVec.msb_eq_toInt (x := BitVec.ofInt 64 a ^^^ BitVec.ofInt 64 b)
  rw [BitVec.msb_xor] at hm
  rw [show ((BitVec.ofInt 64 a).msb != (BitVec.ofInt 64 b).msb) = ((BitVec.ofInt 64 a).msb ^^ (BitVec.ofInt 64 b).msb) from by cases (BitVec.ofInt 64 a).msb <;> cases (BitVec.ofInt 64 b).msb <;> rfl, hm]
  simp
theorem xor_bd (a b : Int) : -9223372036854775808 ≤ bits .xor .i64 a b ∧ bits .xor .i64 a b ≤ 9223372036854775807 := by
  have e : bits .xor .i64 a b = (BitVec.ofInt 64 a ^^^ BitVec.ofInt 64 b).toInt := i64_toInt _
  rw [e]
  have h1 := BitVec.two_mul_toInt_lt (x := BitVec.ofInt 64 a ^^^ BitVec.ofInt 64 b)
  have h2 := BitVec.le_two_mul_toInt (x := BitVec.ofInt 64 a ^^^ BitVec.ofInt 64 b)
  omega
theorem and_sign (a b : Int) (h0 : -9223372036854775808 ≤ a) (h1 : a ≤ 9223372036854775807) (h2 : -9223372036854775808 ≤ b) (h3 : b ≤ 9223372036854775807) :
    bits .and .i64 a b < 0 ↔ (a < 0 ∧ b < 0) := by
  have e : bits .and .i64 a b = (BitVec.ofInt 64 a &&& BitVec.ofInt 64 b).toInt := i64_toInt _
  rw [e]
  have hm := BitVec.msb_eq_toInt (x := BitVec.ofInt 64 a &&& BitVec.ofInt 64 b)
  rw [BitVec.msb_and, msb_sign a h0 h1, msb_sign b h2 h3] at hm
  have := congrArg (· = true) hm
  simpa using this.symm
theorem and_bd (a b : Int) : -9223372036854775808 ≤ bits .and .i64 a b ∧ bits .and .i64 a b ≤ 9223372036854775807 := by
  have e : bits .and .i64 a b = (BitVec.ofInt 64 a &&& BitVec.ofInt 64 b).toInt := i64_toInt _
  rw [e]
  have h1 := BitVec.two_mul_toInt_lt (x := BitVec.ofInt 64 a &&& BitVec.ofInt 64 b)
  have h2 := BitVec.le_two_mul_toInt (x := BitVec.ofInt 64 a &&& BitVec.ofInt 64 b)
  omega
/-! the sum's upper half as it is reckoned -/
def sumHi (x y : Int) : Int := wrap64 (loOf (loOf (hiOf x) + loOf (hiOf y) + hiOf (loOf x + loOf y)))
theorem sumHi_bd (x y : Int) : -9223372036854775808 ≤ sumHi x y ∧ sumHi x y ≤ 9223372036854775807 := by unfold sumHi wrap64; omega
theorem sumHi_in (x y : Int) (h : InW (x + y)) : sumHi x y = hiOf (x + y) := by unfold InW at h; unfold sumHi wrap64 hiOf loOf; omega
theorem sumLo (x y : Int) : loOf (loOf x + loOf y) = loOf (x + y) := by unfold loOf; omega
theorem sumTest_no (x y : Int) (hx : InW x) (hy : InW y) (h : InW (x + y)) :
    0 ≤ bits .and .i64 (bits .xor .i64 (hiOf x) (sumHi x y)) (bits .xor .i64 (hiOf y) (sumHi x y)) := by
  have bx := hi_bd hx
  have bb := hi_bd hy
  have bs := sumHi_bd x y
  have k := and_sign _ _ (xor_bd (hiOf x) (sumHi x y)).1 (xor_bd (hiOf x) (sumHi x y)).2 (xor_bd (hiOf y) (sumHi x y)).1 (xor_bd (hiOf y) (sumHi x y)).2
  rw [xor_sign _ _ bx.1 bx.2 bs.1 bs.2, xor_sign _ _ bb.1 bb.2 bs.1 bs.2] at k
  have hs := sumHi_in x y h
  have k2 : ¬ ((decide (hiOf x < 0) != decide (sumHi x y < 0)) = true ∧ (decide (hiOf y < 0) != decide (sumHi x y < 0)) = true) := by
    rw [hs]; simp only [bne_iff_ne, ne_eq, decide_eq_decide]; unfold hiOf; omega
  have := mt k.1 k2
  omega
theorem sumTest_yes (x y : Int) (hx : InW x) (hy : InW y) (h : ¬ InW (x + y)) :
    bits .and .i64 (bits .xor .i64 (hiOf x) (sumHi x y)) (bits .xor .i64 (hiOf y) (sumHi x y)) < 0 := by
  have bx := hi_bd hx
  have bb := hi_bd hy
  have bs := sumHi_bd x y
  have k := and_sign _ _ (xor_bd (hiOf x) (sumHi x y)).1 (xor_bd (hiOf x) (sumHi x y)).2 (xor_bd (hiOf y) (sumHi x y)).1 (xor_bd (hiOf y) (sumHi x y)).2
  rw [xor_sign _ _ bx.1 bx.2 bs.1 bs.2, xor_sign _ _ bb.1 bb.2 bs.1 bs.2] at k
  refine k.2 ?_
  simp only [bne_iff_ne, ne_eq, decide_eq_decide]; unfold InW at h hx hy; unfold sumHi wrap64 hiOf loOf; omega
/-! the other sign's upper half as it is reckoned -/
def negHi (x : Int) : Int := wrap64 (loOf (18446744073709551616 - loOf (hiOf x) - (if 0 < loOf x then 1 else 0)))
theorem negHi_in (x : Int) (hx : InW x) (h : x ≠ -170141183460469231731687303715884105728) : negHi x = hiOf (-x) := by
  unfold InW at hx; unfold negHi wrap64 hiOf loOf; split <;> omega
theorem negLo (x : Int) : loOf (18446744073709551616 - loOf x) = loOf (-x) := by unfold loOf; omega
end Go.Proofs.Ytgfgaaecpdbgeaa
