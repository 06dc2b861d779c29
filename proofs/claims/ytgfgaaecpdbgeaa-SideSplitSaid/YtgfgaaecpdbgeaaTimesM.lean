/- Plain facts on products of digits. No program is imported. -/
import Derived.Test.YtgfgaaecpdbgeaaDig
namespace Go.Proofs.Ytgfgaaecpdbgeaa
set_option linter.unusedVariables false
set_option linter.unusedSimpArgs false
/-- Ahead of the inner round number k of the outer one number i: what is laid and what is carried come to the product of the lower digits. -/
structure TimesInv (A B : Nat) (i k : Nat) (D : Nat → Nat) (c : Nat) : Prop where
  dig : ∀ j, D j < 65536
  sum : valD D 18 + c * 65536 ^ (i + k) = A % 65536 ^ i * B + dN A i * 65536 ^ i * (B % 65536 ^ k)
  car : c < 65536
theorem times_step {A B i k : Nat} {D : Nat → Nat} {c : Nat} (h : TimesInv A B i k D c) (hik : i + k < 18) :
    TimesInv A B i (k + 1) (fun j => if j = i + k then (D (i + k) + dN A i * dN B k + c) % 65536 else D j) ((D (i + k) + dN A i * dN B k + c) / 65536) := by
  obtain ⟨hd, hs, hc⟩ := h
  have h1 := hd (i + k)
  have ha := dN_lt A i
  have hb := dN_lt B k
  have hp : dN A i * dN B k ≤ 65535 * 65535 := Nat.mul_le_mul (by omega) (by omega)
  have hset := valD_set D (i + k) ((D (i + k) + dN A i * dN B k + c) % 65536) 18 hik
  refine ⟨fun j => ?_, ?_, ?_⟩
  · split
    · exact Nat.mod_lt _ (by omega)
    · exact hd j
  · have hm := mod_s B k
    have hpow : 65536 ^ (i + (k + 1)) = 65536 * 65536 ^ (i + k) := by rw [← Nat.add_assoc, pow_s]
    have hprod : dN A i * 65536 ^ i * (B % 65536 ^ (k + 1)) = dN A i * 65536 ^ i * (B % 65536 ^ k) + dN A i * dN B k * 65536 ^ (i + k) := by
      rw [hm, Nat.mul_add, Nat.pow_add]
      congr 1
      rw [Nat.mul_assoc, Nat.mul_assoc, Nat.mul_comm (dN B k), ← Nat.mul_assoc, ← Nat.mul_assoc]
      simp only [Nat.mul_assoc]
    rw [hpow, hprod]
    have hdm := Nat.div_add_mod (D (i + k) + dN A i * dN B k + c) 65536
    generalize hs' : D (i + k) + dN A i * dN B k + c = s at *
    generalize hq : s / 65536 = q at *
    generalize hr : s % 65536 = r at *
    have e1 : q * (65536 * 65536 ^ (i + k)) + r * 65536 ^ (i + k) = s * 65536 ^ (i + k) := by
      rw [← hdm, Nat.add_mul, ← Nat.mul_assoc, Nat.mul_comm q 65536]
    have e2 : s * 65536 ^ (i + k) = D (i + k) * 65536 ^ (i + k) + dN A i * dN B k * 65536 ^ (i + k) + c * 65536 ^ (i + k) := by
      rw [← hs', Nat.add_mul, Nat.add_mul]
    generalize 65536 ^ (i + k) = p at *
    generalize valD (fun j => if j = i + k then r else D j) 18 = v1 at *
    generalize valD D 18 = v0 at *
    generalize D (i + k) * p = u1 at *
    generalize r * p = u2 at *
    generalize dN A i * dN B k * p = u3 at *
    generalize c * p = u4 at *
    generalize q * (65536 * p) = u5 at *
    omega
  · have : D (i + k) + dN A i * dN B k + c < 65536 * 65536 := by omega
    exact (Nat.div_lt_iff_lt_mul (by omega)).2 (by omega)
/-- At the inner loop's end nothing is carried. -/
theorem times_last {A B i : Nat} {D : Nat → Nat} {c : Nat} (h : TimesInv A B i 9 D c) (hB : B < 65536 ^ 5) : c = 0 ∧ valD D 18 = A % 65536 ^ (i + 1) * B := by
  obtain ⟨hd, hs, hc⟩ := h
  have e : A % 65536 ^ i * B + dN A i * 65536 ^ i * (B % 65536 ^ 9) = A % 65536 ^ (i + 1) * B := by
    rw [Nat.mod_eq_of_lt (Nat.lt_of_lt_of_le hB (Nat.pow_le_pow_right (by omega) (by omega))), mod_s, Nat.add_mul, Nat.mul_comm (65536 ^ i)]
  rw [e] at hs
  have hlt : A % 65536 ^ (i + 1) * B < 65536 ^ (i + 1) * 65536 ^ 5 := Nat.mul_lt_mul_of_lt_of_lt (Nat.mod_lt _ (pow_pos _)) hB
  rw [← Nat.pow_add] at hlt
  have hle : 65536 ^ (i + 1 + 5) ≤ 65536 ^ (i + 9) := Nat.pow_le_pow_right (by omega) (by omega)
  have : c = 0 := by
    rcases Nat.eq_zero_or_pos c with h0 | h0
    · exact h0
    · have := Nat.mul_le_mul_right (65536 ^ (i + 9)) h0
      omega
  exact ⟨this, by rw [this] at hs; omega⟩
theorem times_next {A B i : Nat} {D : Nat → Nat} {c : Nat} (h : TimesInv A B i 9 D c) (hB : B < 65536 ^ 5) : TimesInv A B (i + 1) 0 D 0 :=
  ⟨h.dig, by rw [(times_last h hB).2]; simp [Nat.mod_one], by omega⟩
theorem times_first (A B : Nat) : TimesInv A B 0 0 (fun _ => 0) 0 :=
  ⟨fun _ => by omega, by simp [Nat.mod_one]; decide, by omega⟩
/-- Behind the outer loop: the product's digits. -/
theorem times_end {A B : Nat} {D : Nat → Nat} {c : Nat} (h : TimesInv A B 9 0 D c) (h0 : c = 0) (hA : A < 65536 ^ 5) : ∀ j, j < 18 → D j = dN (A * B) j := by
  have hs := h.sum
  subst h0
  have e : A % 65536 ^ 9 * B + dN A 9 * 65536 ^ 9 * (B % 65536 ^ 0) = A * B := by
    rw [Nat.mod_eq_of_lt (Nat.lt_of_lt_of_le hA (Nat.pow_le_pow_right (by omega) (by omega))), Nat.pow_zero, Nat.mod_one, Nat.mul_zero, Nat.add_zero]
  rw [e, Nat.zero_mul, Nat.add_zero] at hs
  intro j hj
  rw [← dN_valD D h.dig 18 j hj, hs]
end Go.Proofs.Ytgfgaaecpdbgeaa
