/- The contract of math/bits.Div64. -/
import Derived.Test.YtngkimcnolmmoaaMWide
import Derived.Test.YtngkimcnolmmoaaMMath
import Derived.Deep.DeepCutAuto
import Derived.Deep.CutBlock
import Derived.Laws.Bits64b
import Derived.Lib.BitFns
namespace Go.Proofs.Ytngkimcnolmmoaa
open Go.RowKit
set_option linter.unusedVariables false
set_option linter.unusedSimpArgs false

end Go.Proofs.Ytngkimcnolmmoaa

/- The contract of math/bits.Div64, whole. -/
namespace Go.Proofs.Ytngkimcnolmmoaa
open Go.RowKit
set_option linter.unusedVariables false
set_option linter.unusedSimpArgs false

theorem and_mask (a : Int) (h0 : 0 ≤ a) (h1 : a ≤ 18446744073709551615) : bits .and .u64 a 4294967295 = a % 4294967296 := by
  obtain ⟨n, rfl⟩ := Int.eq_ofNat_of_zero_le h0
  have h := bits_and_u64_nat n 4294967295 (by omega) (by omega)
  have e : n &&& 4294967295 = n % 4294967296 := Nat.and_two_pow_sub_one_eq_mod n 32
  rw [e] at h
  rw [show (4294967295 : Int) = ((4294967295 : Nat) : Int) from rfl, h]
  omega
theorem or_join (hi p b : Nat) (s : Nat) (hp : p = 2 ^ s) (hb : b < p) (h : hi * p + b < 18446744073709551616) :
    bits .or .u64 ((hi * p : Nat) : Int) (b : Int) = ((hi * p + b : Nat) : Int) := by
  rw [bits_or_u64_nat (hi * p) b (by omega) (by omega)]
  subst hp
  rw [Nat.mul_comm hi, ← Nat.two_pow_add_eq_or_of_lt hb]
theorem bitLenAux_spec : ∀ (f x : Nat), x < 2 ^ f → x < 2 ^ Lib.bitLenAux f x ∧ (x ≠ 0 → 2 ^ (Lib.bitLenAux f x - 1) ≤ x)
  | 0, x, h => by simp at h; subst h; simp [Lib.bitLenAux]
  | f + 1, x, h => by
    by_cases h0 : x = 0
    · subst h0; simp [Lib.bitLenAux]
    · have ih := bitLenAux_spec f (x / 2) (by rw [Nat.pow_succ] at h; omega)
      rw [Lib.bitLenAux, if_neg h0]
      refine ⟨by rw [Nat.add_comm, Nat.pow_succ]; omega, fun _ => ?_⟩
      rw [show 1 + Lib.bitLenAux f (x / 2) - 1 = Lib.bitLenAux f (x / 2) from by omega]
      by_cases h1 : x / 2 = 0
      · rw [h1]
        have : Lib.bitLenAux f 0 = 0 := by cases f <;> simp [Lib.bitLenAux]
        rw [this]; omega
      · have h2 := ih.2 h1
        have h3 : 0 < Lib.bitLenAux f (x / 2) := by
          rcases Nat.eq_zero_or_pos (Lib.bitLenAux f (x / 2)) with e | e
          · have := ih.1; rw [e] at this; omega
          · exact e
        have h4 : 2 ^ Lib.bitLenAux f (x / 2) = 2 ^ (Lib.bitLenAux f (x / 2) - 1) * 2 := by rw [← Nat.pow_succ]; congr 1; omega
        omega
theorem bitLen_spec (x : Nat) (h : x < 18446744073709551616) : x < 2 ^ Lib.bitLen x ∧ (x ≠ 0 → 2 ^ (Lib.bitLen x - 1) ≤ x) := bitLenAux_spec 64 x h
/-- The shift that brings the divisor's highest bit up. -/
theorem shift_facts (y : Nat) (hy : 0 < y) (hy1 : y < 18446744073709551616) : Lib.bitLen y ≤ 64 ∧ 1 ≤ Lib.bitLen y ∧ 9223372036854775808 ≤ y * 2 ^ (64 - Lib.bitLen y) ∧ y * 2 ^ (64 - Lib.bitLen y) < 18446744073709551616 := by
  have h := bitLen_spec y hy1
  have h2 := h.2 (by omega)
  have h3 := Lib.bitLen_le y 64 (by omega) (by omega)
  have h4 : 1 ≤ Lib.bitLen y := by
    rcases Nat.eq_zero_or_pos (Lib.bitLen y) with e | e
    · rw [e] at h; omega
    · exact e
  refine ⟨h3, h4, ?_, ?_⟩
  · have : 2 ^ (Lib.bitLen y - 1) * 2 ^ (64 - Lib.bitLen y) ≤ y * 2 ^ (64 - Lib.bitLen y) := Nat.mul_le_mul_right _ h2
    rw [← Nat.pow_add, show Lib.bitLen y - 1 + (64 - Lib.bitLen y) = 63 from by omega] at this
    omega
  · have : y * 2 ^ (64 - Lib.bitLen y) < 2 ^ Lib.bitLen y * 2 ^ (64 - Lib.bitLen y) := Nat.mul_lt_mul_of_pos_right h.1 (Nat.two_pow_pos _)
    rw [← Nat.pow_add, show Lib.bitLen y + (64 - Lib.bitLen y) = 64 from by omega] at this
    omega

end Go.Proofs.Ytngkimcnolmmoaa

/- The contract of wide's call Div. -/
namespace Go.Proofs.Ytngkimcnolmmoaa
open Go.RowKit
set_option linter.unusedVariables false
set_option linter.unusedSimpArgs false

theorem i64_xor_0 (x : Int) (h0 : -9223372036854775808 ≤ x) (h1 : x ≤ 9223372036854775807) : bits .xor .i64 x 0 = x := by
  have h : BitVec.ofInt 64 0 = 0#64 := by decide
  have e : bits .xor .i64 x 0 = (BitVec.ofInt 64 x ^^^ BitVec.ofInt 64 0).toInt := i64_toInt _
  rw [e, h, BitVec.xor_zero, ofInt_toInt x h0 h1]
theorem i64_xor_m1 (x : Int) (h0 : -9223372036854775808 ≤ x) (h1 : x ≤ 9223372036854775807) : bits .xor .i64 x (-1) = -1 - x := by
  have h : BitVec.ofInt 64 (-1) = BitVec.allOnes 64 := by decide
  have e : bits .xor .i64 x (-1) = (BitVec.ofInt 64 x ^^^ BitVec.ofInt 64 (-1)).toInt := i64_toInt _
  rw [e, h, BitVec.xor_allOnes, BitVec.toInt_not, BitVec.toNat_ofInt, Int.bmod_def]
  have : ((2 ^ 64 : Nat) : Int) = 18446744073709551616 := by decide
  rw [this]
  split <;> omega
theorem u64_xor_0 (x : Int) (h0 : 0 ≤ x) (h1 : x ≤ 18446744073709551615) : bits .xor .u64 x 0 = x := by
  obtain ⟨n, rfl⟩ := Int.eq_ofNat_of_zero_le h0
  have h := bits_xor_u64_nat n 0 (by omega) (by omega)
  simpa using h
theorem u64_xor_all (x : Int) (h0 : 0 ≤ x) (h1 : x ≤ 18446744073709551615) : bits .xor .u64 x (IntKind.u64.wrap (-1)) = 18446744073709551615 - x := by
  rw [show IntKind.u64.wrap (-1) = 18446744073709551615 from by rw [IntKind.wrap_u64]; rfl]
  have h : BitVec.ofInt 64 18446744073709551615 = BitVec.allOnes 64 := by decide
  show IntKind.u64.wrap ((BitVec.ofInt 64 x ^^^ BitVec.ofInt 64 18446744073709551615).toNat : Int) = _
  rw [h, BitVec.xor_allOnes, BitVec.toNat_not, BitVec.toNat_ofInt, IntKind.wrap_u64]
  have : ((2 ^ 64 : Nat) : Int) = 18446744073709551616 := by decide
  rw [this]
  omega

/-! one step of long division -/
theorem step_hi (n d : Int) (_h0 : 1 ≤ d) : hiOf n / d = hiOf (n / d) := by
  unfold hiOf
  rw [Int.ediv_ediv_of_nonneg (by omega), Int.ediv_ediv_of_nonneg (by omega), Int.mul_comm]
theorem step_split (n d : Int) : n = hiOf n / d * 18446744073709551616 * d + (hiOf n % d * 18446744073709551616 + loOf n) := by
  have e := hi_lo n
  have e1 := Int.emod_add_mul_ediv (hiOf n) d
  have e2 : hiOf n / d * 18446744073709551616 * d = d * (hiOf n / d) * 18446744073709551616 := by
    rw [Int.mul_comm, ← Int.mul_assoc]
  rw [e2]
  omega
theorem step_q (n d : Int) (h0 : 1 ≤ d) : (hiOf n % d * 18446744073709551616 + loOf n) / d = loOf (n / d) ∧ (hiOf n % d * 18446744073709551616 + loOf n) % d = n % d := by
  have r0 := Int.emod_nonneg (hiOf n) (by omega : d ≠ 0)
  have r1 := Int.emod_lt_of_pos (hiOf n) (by omega : 0 < d)
  have l := lo_bd n
  have e := step_split n d
  have q1 : (hiOf n % d * 18446744073709551616 + loOf n) / d < 18446744073709551616 := Int.ediv_lt_of_lt_mul (by omega) (by
    have : (hiOf n % d + 1) * 18446744073709551616 ≤ d * 18446744073709551616 := Int.mul_le_mul_of_nonneg_right (by omega) (by omega)
    omega)
  have q0 : 0 ≤ (hiOf n % d * 18446744073709551616 + loOf n) / d := Int.ediv_nonneg (by omega) (by omega)
  have e3 : n / d = hiOf n / d * 18446744073709551616 + (hiOf n % d * 18446744073709551616 + loOf n) / d := by
    have : n / d = (hiOf n / d * 18446744073709551616 * d + (hiOf n % d * 18446744073709551616 + loOf n)) / d := by rw [← e]
    rw [this, Int.add_comm, Int.add_mul_ediv_right _ _ (by omega)]
    omega
  constructor
  · rw [e3]; exact (lo_mk _ _ q0 (by omega)).symm
  · have : n % d = (hiOf n / d * 18446744073709551616 * d + (hiOf n % d * 18446744073709551616 + loOf n)) % d := by rw [← e]
    rw [this, Int.add_comm (_ * d), Int.add_mul_emod_self_right]
/-- All bits turned, a quotient rounds down: -1 - (-1 - n) / d is n / d. -/
theorem flip_div (n d : Int) (h0 : 1 ≤ d) : (-1 - n) / d = -1 - n / d ∧ (-1 - n) % d = d - 1 - n % d := by
  have e := Int.emod_add_mul_ediv n d
  have r0 := Int.emod_nonneg n (by omega : d ≠ 0)
  have r1 := Int.emod_lt_of_pos n (by omega : 0 < d)
  have e2 : -1 - n = (d - 1 - n % d) + (-1 - n / d) * d := by
    rw [Int.sub_mul, Int.mul_comm (n / d) d]; omega
  constructor
  · rw [e2, Int.add_mul_ediv_right _ _ (by omega), Int.ediv_eq_zero_of_lt (by omega) (by omega)]; omega
  · rw [e2, Int.add_mul_emod_self_right, Int.emod_eq_of_lt (by omega) (by omega)]
theorem flip_hi (n : Int) : hiOf (-1 - n) = -1 - hiOf n := by unfold hiOf; omega
theorem flip_lo (n : Int) : loOf (-1 - n) = 18446744073709551615 - loOf n := by unfold loOf; omega
theorem inW_div (n d : Int) (hn : InW n) (h0 : 1 ≤ d) : InW (n / d) := by
  unfold InW at *
  constructor
  · exact (Int.le_ediv_iff_mul_le (by omega)).2 (by
      have : (-170141183460469231731687303715884105728 : Int) * d ≤ -170141183460469231731687303715884105728 * 1 := Int.mul_le_mul_of_nonpos_left (by omega) (by omega)
      omega)
  · rcases Int.lt_or_le n 0 with h | h
    · have := Int.ediv_neg_of_neg_of_pos h (by omega : 0 < d); omega
    · have := Int.ediv_le_self d h; omega

end Go.Proofs.Ytngkimcnolmmoaa
