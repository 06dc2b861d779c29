/- The contract of math/bits.Div64, whole. -/
import Derived.Test.YtgfgaaecpdbgeaaDiv64
import Derived.Laws.Bits64b
namespace Go.Proofs.Ytgfgaaecpdbgeaa
open Go.RowKit
set_option linter.unusedVariables false
set_option linter.unusedSimpArgs false

theorem and_mask (a : Int) (h0 : 0 ≤ a) (h1 : a ≤ 18446744073709551615) : bits .and .u64 a 4294967295 = a % 4294967296 := by
  obtain ⟨n, rfl⟩ := Int.eq_ofNat_of_zero_le h0
  have h := bits_and_u64_nat n 4294967295 (by omega) (by omega)
  have e : n &&& 4294967295 = n % 4294967296 := Nat.and_two_pow_sub_one_eq_mod n 32
  rw [e] at h
  rw [show (4294967295 : Int) = ((4294967295 : Nat) : Int) from rfl, h]
  omega
theorem or_join (hi p b : Nat) (s : Nat) (hp : p = 2 ^ s) (hb : b < p) (h : hi * p + b < 18446744073709551616) :
    bits .or .u64 ((hi * p : Nat) : Int) (b : Int) = ((hi * p + b : Nat) : Int) := by
  rw [bits_or_u64_nat (hi * p) b (by omega) (by omega)]
  subst hp
  rw [Nat.mul_comm hi, ← Nat.two_pow_add_eq_or_of_lt hb]
theorem bitLenAux_spec : ∀ (f x : Nat), x < 2 ^ f → x < 2 ^ Lib.bitLenAux f x ∧ (x ≠ 0 → 2 ^ (Lib.bitLenAux f x - 1) ≤ x)
  | 0, x, h => by simp at h; subst h; simp [Lib.bitLenAux]
  | f + 1, x, h => by
    by_cases h0 : x = 0
    · subst h0; simp [Lib.bitLenAux]
    · have ih := bitLenAux_spec f (x / 2) (by rw [Nat.pow_succ] at h; omega)
      rw [Lib.bitLenAux, if_neg h0]
      refine ⟨by rw [Nat.add_comm, Nat.pow_succ]; omega, fun _ => ?_⟩
      rw [show 1 + Lib.bitLenAux f (x / 2) - 1 = Lib.bitLenAux f (x / 2) from by omega]
      by_cases h1 : x / 2 = 0
      · rw [h1]
        have : Lib.bitLenAux f 0 = 0 := by cases f <;> simp [Lib.bitLenAux]
        rw [this]; omega
      · have h2 := ih.2 h1
        have h3 : 0 < Lib.bitLenAux f (x / 2) := by
          rcases Nat.eq_zero_or_pos (Lib.bitLenAux f (x / 2)) with e | e
          · have := ih.1; rw [e] at this; omega
          · exact e
        have h4 : 2 ^ Lib.bitLenAux f (x / 2) = 2 ^ (Lib.bitLenAux f (x / 2) - 1) * 2 := by rw [← Nat.pow_succ]; congr 1; omega
        omega
theorem bitLen_spec (x : Nat) (h : x < 18446744073709551616) : x < 2 ^ Lib.bitLen x ∧ (x ≠ 0 → 2 ^ (Lib.bitLen x - 1) ≤ x) := bitLenAux_spec 64 x h
/-- The shift that brings the divisor's highest bit up. -/
theorem shift_facts (y : Nat) (hy : 0 < y) (hy1 : y < 18446744073709551616) : Lib.bitLen y ≤ 64 ∧ 1 ≤ Lib.bitLen y ∧ 9223372036854775808 ≤ y * 2 ^ (64 - Lib.bitLen y) ∧ y * 2 ^ (64 - Lib.bitLen y) < 18446744073709551616 := by
  have h := bitLen_spec y hy1
  have h2 := h.2 (by omega)
  have h3 := Lib.bitLen_le y 64 (by omega) (by omega)
  have h4 : 1 ≤ Lib.bitLen y := by
    rcases Nat.eq_zero_or_pos (Lib.bitLen y) with e | e
    · rw [e] at h; omega
    · exact e
  refine ⟨h3, h4, ?_, ?_⟩
  · have : 2 ^ (Lib.bitLen y - 1) * 2 ^ (64 - Lib.bitLen y) ≤ y * 2 ^ (64 - Lib.bitLen y) := Nat.mul_le_mul_right _ h2
    rw [← Nat.pow_add, show Lib.bitLen y - 1 + (64 - Lib.bitLen y) = 63 from by omega] at this
    omega
  · have : y * 2 ^ (64 - Lib.bitLen y) < 2 ^ Lib.bitLen y * 2 ^ (64 - Lib.bitLen y) := Nat.mul_lt_mul_of_pos_right h.1 (Nat.two_pow_pos _)
    rw [← Nat.pow_add, show Lib.bitLen y + (64 - Lib.bitLen y) = 64 from by omega] at this
    omega

set_option maxHeartbeats 1000000 in
theorem div64_nat (hi lo y : Nat) (a1 : lo < 18446744073709551616) (b0 : 1 ≤ hi) (b1 : y < 18446744073709551616) (b2 : hi < y) :
    Gives Try.prog 39 #[.int .u64 hi, .int .u64 lo, .int .u64 y] (.tuple #[.int .u64 ((hi * 18446744073709551616 + lo : Int) / y), .int .u64 ((hi * 18446744073709551616 + lo : Int) % y)]) := by
  obtain ⟨f1, f2, f3, f4⟩ := shift_facts y (by omega) b1
  obtain ⟨s, hs⟩ : ∃ s, 64 - Lib.bitLen y = s := ⟨_, rfl⟩
  rw [hs] at f3 f4
  obtain ⟨p, hp⟩ : ∃ p, 2 ^ s = p := ⟨_, rfl⟩
  have hsl : s ≤ 63 := by omega
  have p0 : 0 < p := hp ▸ Nat.two_pow_pos s
  have eS : 64 - (Lib.bitLen (y : Int).toNat : Int) = (s : Int) := by rw [Int.toNat_natCast]; omega
  have ep : (2 : Int) ^ (s : Int).toNat = (p : Int) := by rw [Int.toNat_natCast, ← hp]; simp
  have eq : (2 : Int) ^ (64 - (s : Int)).toNat = ((2 ^ (64 - s) : Nat) : Int) := by rw [show (64 - (s : Int)).toNat = 64 - s from by omega]; simp
  have h64 : 2 ^ (64 - s) * p = 18446744073709551616 := by rw [← hp, ← Nat.pow_add, show 64 - s + s = 64 from by omega]
  rw [hp] at f3 f4
  have q0 : 0 < 2 ^ (64 - s) := Nat.two_pow_pos _
  obtain ⟨b, hb⟩ : ∃ b, lo / 2 ^ (64 - s) = b := ⟨_, rfl⟩
  have blt : b < p := by rw [← hb]; exact (Nat.div_lt_iff_lt_mul q0).2 (by rw [Nat.mul_comm, h64]; omega)
  have hip : hi * p + p ≤ y * p := by rw [← Nat.succ_mul]; exact Nat.mul_le_mul_right _ b2
  have blo : b = lo * p / 18446744073709551616 := by rw [← hb, ← h64]; exact (Nat.mul_div_mul_right _ _ p0).symm
  generalize hD : y * p = D at *
  generalize hU : hi * p + b = U at *
  generalize hV : lo * p % 18446744073709551616 = V at *
  have eN : U * 18446744073709551616 + V = (hi * 18446744073709551616 + lo) * p := by
    rw [Nat.add_mul, Nat.mul_right_comm]; omega
  have eD : Hid ((D : Int) = (D : Int) / 4294967296 * 4294967296 + (D : Int) % 4294967296) := by show _ = _; omega
  have cA : 2147483648 ≤ (D : Int) / 4294967296 := by omega
  have cA1 : (D : Int) / 4294967296 ≤ 4294967295 := by omega
  have cb : 0 ≤ (D : Int) % 4294967296 := by omega
  have cb1 : (D : Int) % 4294967296 ≤ 4294967295 := by omega
  have hUD : (U : Int) < (D : Int) / 4294967296 * 4294967296 + (D : Int) % 4294967296 := by omega
  obtain ⟨v1, hv1⟩ : ∃ v1, (V : Int) / 4294967296 = v1 := ⟨_, rfl⟩
  obtain ⟨v0, hv0⟩ : ∃ v0, (V : Int) % 4294967296 = v0 := ⟨_, rfl⟩
  obtain ⟨A, hA⟩ : ∃ A, (D : Int) / 4294967296 = A := ⟨_, rfl⟩
  obtain ⟨c, hc⟩ : ∃ c, (D : Int) % 4294967296 = c := ⟨_, rfl⟩
  rw [hA, hc] at eD hUD
  rw [hA] at cA cA1
  rw [hc] at cb cb1
  have eD' := eD.out
  have inv := inv_first (v := v1) cA cA1 cb cb1 (by omega : (0 : Int) ≤ U) (by omega) (by omega) hUD
  have rb := rest_bd (U := (U : Int)) (v := v1) cA cb (by omega) (by omega)
  have dg := digit_bd (U := (U : Int)) (v := v1) cA cb (by omega) (by omega) (by omega) hUD
  rw [← eD'] at rb
  obtain ⟨R, hR⟩ : ∃ R, (U : Int) * 4294967296 + v1 - digit A c U v1 * D = R := ⟨_, rfl⟩
  rw [hR] at rb
  have inv2 := inv_first (v := v0) cA cA1 cb cb1 rb.1 (by omega) (by omega) (by omega)
  have rb2 := rest_bd (U := R) (v := v0) cA cb rb.1 (by omega)
  have dg2 := digit_bd (U := R) (v := v0) cA cb rb.1 (by omega) (by omega) (by omega)
  rw [← eD'] at rb2
  obtain ⟨S, hS⟩ : ∃ S, R * 4294967296 + v0 - digit A c R v0 * D = S := ⟨_, rfl⟩
  rw [hS] at rb2
  have td := two_digits (D : Int) U v1 v0 (digit A c U v1) (digit A c R v0) R (by omega) hR (by rw [hS]; exact rb2.1) (by rw [hS]; exact rb2.2)
  have m1 : 0 ≤ (U : Int) / A * A ∧ (U : Int) / A * A ≤ U := ⟨Int.mul_nonneg (Int.ediv_nonneg (by omega) (by omega)) (by omega), by have := inv.2.2.2.1; omega⟩
  have m2 : 0 ≤ R / A * A ∧ R / A * A ≤ R := ⟨Int.mul_nonneg (Int.ediv_nonneg rb.1 (by omega)) (by omega), by have := inv2.2.2.2.1; omega⟩
  have sc := scaled (hi * 18446744073709551616 + lo : Int) y p (by omega)
  have e1 : ((hi * 18446744073709551616 + lo : Int)) * p = (U : Int) * 18446744073709551616 + (v1 * 4294967296 + v0) := by
    have : ((U * 18446744073709551616 + V : Nat) : Int) = (((hi * 18446744073709551616 + lo) * p : Nat) : Int) := by rw [eN]
    simp only [Int.natCast_mul, Int.natCast_add] at this
    have e2 : ((18446744073709551616 : Nat) : Int) = 18446744073709551616 := rfl
    rw [e2] at this
    omega
  have e3 : (y : Int) * p = (D : Int) := by rw [← hD]; simp
  rw [e1, e3, td.1, td.2] at sc
  have core := div64_big hi lo y (by omega) (by omega) (by omega) (by omega) (by omega) s eS (by omega) (by omega) D A c U V v1 v0 ((U : Int) / A * A)
    (by rw [ep, e3, IntKind.wrap_u64]; omega) (by omega) hA (by rw [and_mask _ (by omega) (by omega), hc])
    (by rw [ep, eq, show (lo : Int) / ((2 ^ (64 - s) : Nat) : Int) = ((lo / 2 ^ (64 - s) : Nat) : Int) from by simp, hb, show (hi : Int) * p = ((hi * p : Nat) : Int) from by simp,
      show IntKind.u64.wrap ((hi * p : Nat) : Int) = ((hi * p : Nat) : Int) from by rw [IntKind.wrap_u64]; omega, or_join hi p b s hp.symm blt (by omega), hU])
    (by rw [ep, show (lo : Int) * p = ((lo * p : Nat) : Int) from by simp, IntKind.wrap_u64, ← hV]; omega)
    hv1 (by rw [and_mask _ (by omega) (by omega), hv0]) eD cA cA1 cb cb1 (by omega) (by omega) (by omega) (by omega) (by omega) (by omega)
    (by rw [IntKind.wrap_u64]; omega) rfl m1.1 m1.2 inv R (R / A * A) S
    (by simp only [IntKind.wrap_u64]; omega) rb.1 rb.2 (by rw [IntKind.wrap_u64]; omega) m2.1 m2.2 inv2
    (by simp only [IntKind.wrap_u64]; omega) rb2.1 (by omega)
  rw [hS] at sc
  rw [ep, sc.1, sc.2] at core
  exact core
theorem div64_any (hi lo y : Int) (h0 : 0 ≤ hi) (a0 : 0 ≤ lo) (a1 : lo ≤ 18446744073709551615) (b1 : y ≤ 18446744073709551615) (b2 : hi < y) :
    Gives Try.prog 39 #[.int .u64 hi, .int .u64 lo, .int .u64 y] (.tuple #[.int .u64 ((hi * 18446744073709551616 + lo) / y), .int .u64 ((hi * 18446744073709551616 + lo) % y)]) := by
  by_cases hz : hi = 0
  · subst hz
    have := div64_zero lo y a0 a1 (by omega) b1
    simpa using this
  · obtain ⟨n, rfl⟩ := Int.eq_ofNat_of_zero_le h0
    obtain ⟨m, rfl⟩ := Int.eq_ofNat_of_zero_le a0
    obtain ⟨k, rfl⟩ := Int.eq_ofNat_of_zero_le (by omega : 0 ≤ y)
    exact div64_nat n m k (by omega) (by omega) (by omega) (by omega)
end Go.Proofs.Ytgfgaaecpdbgeaa
