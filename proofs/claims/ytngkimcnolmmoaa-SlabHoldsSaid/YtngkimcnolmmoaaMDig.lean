/- Plain facts on digits to the base 65536. No program is imported. -/
import Derived.RowKit
import Derived.Lib.Hide
namespace Go.Proofs.Ytngkimcnolmmoaa
open Go.RowKit
set_option linter.unusedVariables false
set_option linter.unusedSimpArgs false
/-- The digits of a number. -/
def dN (N j : Nat) : Nat := N / 65536 ^ j % 65536
theorem dN_lt (N j : Nat) : dN N j < 65536 := Nat.mod_lt _ (by omega)
theorem pow_s (j : Nat) : 65536 ^ (j + 1) = 65536 * 65536 ^ j := by rw [Nat.pow_succ, Nat.mul_comm]
theorem pow_pos (j : Nat) : 0 < 65536 ^ j := Nat.pow_pos (by omega)
/-- One digit more of what is left. -/
theorem mod_s (N j : Nat) : N % 65536 ^ (j + 1) = N % 65536 ^ j + 65536 ^ j * dN N j := by
  unfold dN; rw [Nat.pow_succ, Nat.mod_mul]
theorem div_s (N j : Nat) : N / 65536 ^ j = 65536 * (N / 65536 ^ (j + 1)) + dN N j := by
  unfold dN; rw [Nat.pow_succ, ← Nat.div_div_eq_div_mul]; omega
/-- What digits are together, the first n of them. -/
def valD (D : Nat → Nat) : Nat → Nat
  | 0 => 0
  | n + 1 => valD D n + D n * 65536 ^ n
theorem valD_dN (N : Nat) : ∀ n, valD (dN N) n = N % 65536 ^ n
  | 0 => by simp [valD, Nat.mod_one]
  | n + 1 => by rw [valD, valD_dN N n, mod_s, Nat.mul_comm]
theorem valD_lt (D : Nat → Nat) (h : ∀ j, D j < 65536) : ∀ n, valD D n < 65536 ^ n
  | 0 => by simp [valD]
  | n + 1 => by
    have h1 := valD_lt D h n
    have h2 : D n * 65536 ^ n ≤ 65535 * 65536 ^ n := Nat.mul_le_mul_right _ (by have := h n; omega)
    rw [valD, pow_s]
    generalize 65536 ^ n = p at *
    omega
theorem valD_congr {D E : Nat → Nat} : ∀ n, (∀ j, j < n → D j = E j) → valD D n = valD E n
  | 0, _ => rfl
  | n + 1, h => by rw [valD, valD, valD_congr n (fun j hj => h j (by omega)), h n (by omega)]
theorem valD_set (D : Nat → Nat) (i v : Nat) : ∀ n, i < n → valD (fun j => if j = i then v else D j) n + D i * 65536 ^ i = valD D n + v * 65536 ^ i
  | 0, h => by omega
  | n + 1, h => by
    by_cases hi : i < n
    · have h1 := valD_set D i v n hi
      simp only [valD]
      rw [if_neg (by omega : ¬ n = i)]
      omega
    · obtain rfl : i = n := by omega
      have h1 : valD (fun j => if j = i then v else D j) i = valD D i := valD_congr i (fun j hj => by rw [if_neg (by omega)])
      simp only [valD, h1, if_true]
      omega
/-- Digits are those of what they are together. -/
theorem dN_valD (D : Nat → Nat) (h : ∀ j, D j < 65536) : ∀ n j, j < n → dN (valD D n) j = D j
  | 0, j, hj => by omega
  | n + 1, j, hj => by
    by_cases hjn : j < n
    · rw [← dN_valD D h n j hjn]
      unfold dN
      rw [valD, show D n * 65536 ^ n = 65536 ^ j * (65536 * (65536 ^ (n - j - 1) * D n)) by
        rw [Nat.mul_comm, ← Nat.mul_assoc, ← Nat.mul_assoc, ← Nat.pow_succ, ← Nat.pow_add, show j + 1 + (n - j - 1) = n by omega],
        Nat.add_mul_div_left _ _ (pow_pos j), Nat.add_mul_mod_self_left]
    · obtain rfl : j = n := by omega
      unfold dN
      rw [valD, Nat.add_mul_div_right _ _ (pow_pos j), Nat.div_eq_of_lt (valD_lt D h j), Nat.zero_add]
      exact Nat.mod_eq_of_lt (h j)
theorem dN_zero (N j : Nat) (h : N < 65536 ^ j) : dN N j = 0 := by
  unfold dN; rw [Nat.div_eq_of_lt h]
theorem valD_all (N n : Nat) (h : N < 65536 ^ n) : valD (dN N) n = N := by rw [valD_dN, Nat.mod_eq_of_lt h]
/-- Ahead of digit number i: what is carried of a sum. -/
def carryN (A B i : Nat) : Nat := (A % 65536 ^ i + B % 65536 ^ i) / 65536 ^ i
theorem carry_0 (A B : Nat) : carryN A B 0 = 0 := by unfold carryN; simp [Nat.mod_one]
theorem carry_le (A B i : Nat) : carryN A B i ≤ 1 := by
  unfold carryN
  have h1 := Nat.mod_lt A (pow_pos i)
  have h2 := Nat.mod_lt B (pow_pos i)
  have : A % 65536 ^ i + B % 65536 ^ i < 2 * 65536 ^ i := by omega
  have := (Nat.div_lt_iff_lt_mul (pow_pos i)).2 this
  omega
theorem carry_s (A B i : Nat) : (dN A i + dN B i + carryN A B i) % 65536 = dN (A + B) i ∧ (dN A i + dN B i + carryN A B i) / 65536 = carryN A B (i + 1) := by
  have ea : A = 65536 ^ i * (A / 65536 ^ i) + A % 65536 ^ i := (Nat.div_add_mod A _).symm
  have eb : B = 65536 ^ i * (B / 65536 ^ i) + B % 65536 ^ i := (Nat.div_add_mod B _).symm
  have es : (A + B) / 65536 ^ i = A / 65536 ^ i + B / 65536 ^ i + carryN A B i := by
    unfold carryN
    conv => lhs; rw [ea, eb]
    rw [show 65536 ^ i * (A / 65536 ^ i) + A % 65536 ^ i + (65536 ^ i * (B / 65536 ^ i) + B % 65536 ^ i) = (A % 65536 ^ i + B % 65536 ^ i) + 65536 ^ i * (A / 65536 ^ i + B / 65536 ^ i) by rw [Nat.mul_add]; omega,
      Nat.add_mul_div_left _ _ (pow_pos i)]
    omega
  constructor
  · unfold dN
    rw [es]; omega
  · have h2 : carryN A B (i + 1) = ((A % 65536 ^ i + B % 65536 ^ i) + 65536 ^ i * (dN A i + dN B i)) / (65536 ^ i * 65536) := by
      unfold carryN
      rw [mod_s, mod_s, Nat.pow_succ, Nat.mul_add]
      congr 1; omega
    rw [h2, ← Nat.div_div_eq_div_mul, Nat.add_mul_div_left _ _ (pow_pos i)]
    unfold carryN
    congr 1; omega
/-- Ahead of digit number i: what is borrowed of a difference. -/
def borrowN (A B i : Nat) : Nat := if A % 65536 ^ i < B % 65536 ^ i then 1 else 0
theorem borrow_0 (A B : Nat) : borrowN A B 0 = 0 := by unfold borrowN; simp [Nat.mod_one]
theorem borrow_s (A B i : Nat) (h : B ≤ A) : (dN A i < dN B i + borrowN A B i → dN A i + 65536 = dN (A - B) i + dN B i + borrowN A B i ∧ borrowN A B (i + 1) = 1) ∧
    (¬ dN A i < dN B i + borrowN A B i → dN A i = dN (A - B) i + dN B i + borrowN A B i ∧ borrowN A B (i + 1) = 0) := by
  have hA := div_s A i
  have hB := div_s B i
  have la := dN_lt A i
  have lb := dN_lt B i
  have lm := dN_lt (A - B) i
  have pp := pow_pos i
  have ma := Nat.mod_lt A pp
  have mb := Nat.mod_lt B pp
  have ea : A = 65536 ^ i * (A / 65536 ^ i) + A % 65536 ^ i := (Nat.div_add_mod A _).symm
  have eb : B = 65536 ^ i * (B / 65536 ^ i) + B % 65536 ^ i := (Nat.div_add_mod B _).symm
  have eq : (A - B) / 65536 ^ i + B / 65536 ^ i + borrowN A B i = A / 65536 ^ i := by
    unfold borrowN
    split
    · rename_i hlt
      have hq : B / 65536 ^ i < A / 65536 ^ i := by
        rcases Nat.lt_or_ge (B / 65536 ^ i) (A / 65536 ^ i) with h1 | h1
        · exact h1
        · have := Nat.mul_le_mul_left (65536 ^ i) h1
          omega
      have e : A - B = (A % 65536 ^ i + 65536 ^ i - B % 65536 ^ i) + 65536 ^ i * (A / 65536 ^ i - B / 65536 ^ i - 1) := by
        have : 65536 ^ i * (A / 65536 ^ i) = 65536 ^ i * (A / 65536 ^ i - B / 65536 ^ i - 1) + 65536 ^ i * (B / 65536 ^ i) + 65536 ^ i := by
          rw [← Nat.mul_add, ← Nat.mul_succ]; congr 1; omega
        omega
      rw [e, Nat.add_mul_div_left _ _ pp, Nat.div_eq_of_lt (by omega)]
      omega
    · rename_i hlt
      have hq : B / 65536 ^ i ≤ A / 65536 ^ i := Nat.div_le_div_right h
      have e : A - B = (A % 65536 ^ i - B % 65536 ^ i) + 65536 ^ i * (A / 65536 ^ i - B / 65536 ^ i) := by
        have : 65536 ^ i * (A / 65536 ^ i) = 65536 ^ i * (A / 65536 ^ i - B / 65536 ^ i) + 65536 ^ i * (B / 65536 ^ i) := by
          rw [← Nat.mul_add]; congr 1; omega
        omega
      rw [e, Nat.add_mul_div_left _ _ pp, Nat.div_eq_of_lt (by omega)]
      omega
  have hm := div_s (A - B) i
  have bs : borrowN A B (i + 1) = if A % 65536 ^ i + 65536 ^ i * dN A i < B % 65536 ^ i + 65536 ^ i * dN B i then 1 else 0 := by
    unfold borrowN; rw [mod_s, mod_s]
  have b01 : borrowN A B i = 0 ∨ borrowN A B i = 1 := by unfold borrowN; split <;> omega
  have bl : borrowN A B i = 1 ↔ A % 65536 ^ i < B % 65536 ^ i := by unfold borrowN; split <;> omega
  have key : (A % 65536 ^ i + 65536 ^ i * dN A i < B % 65536 ^ i + 65536 ^ i * dN B i) ↔ dN A i < dN B i + borrowN A B i := by
    constructor
    · intro hl
      rcases Nat.lt_trichotomy (dN A i) (dN B i) with h1 | h1 | h1
      · omega
      · rw [h1] at hl
        have : borrowN A B i = 1 := bl.2 (by omega)
        omega
      · have := Nat.mul_le_mul_left (65536 ^ i) h1
        rw [Nat.mul_succ] at this
        omega
    · intro hl
      rcases Nat.lt_trichotomy (dN A i) (dN B i) with h1 | h1 | h1
      · have := Nat.mul_le_mul_left (65536 ^ i) h1
        rw [Nat.mul_succ] at this
        omega
      · have : A % 65536 ^ i < B % 65536 ^ i := bl.1 (by omega)
        rw [h1]; omega
      · omega
  constructor
  · intro hl
    refine ⟨by omega, ?_⟩
    rw [bs, if_pos (key.2 hl)]
  · intro hl
    refine ⟨by omega, ?_⟩
    rw [bs, if_neg (fun h => hl (key.1 h))]
/-! the highest digit that differs -/
theorem mod_cmp (A B i : Nat) : (A % 65536 ^ (i + 1) < B % 65536 ^ (i + 1)) ↔ (dN A i < dN B i ∨ dN A i = dN B i ∧ A % 65536 ^ i < B % 65536 ^ i) := by
  rw [mod_s, mod_s]
  have ma := Nat.mod_lt A (pow_pos i)
  have mb := Nat.mod_lt B (pow_pos i)
  constructor
  · intro hl
    rcases Nat.lt_trichotomy (dN A i) (dN B i) with h1 | h1 | h1
    · exact .inl h1
    · rw [h1] at hl; exact .inr ⟨h1, by omega⟩
    · have := Nat.mul_le_mul_left (65536 ^ i) h1
      rw [Nat.mul_succ] at this
      omega
  · rintro (h1 | ⟨h1, h2⟩)
    · have := Nat.mul_le_mul_left (65536 ^ i) h1
      rw [Nat.mul_succ] at this
      omega
    · rw [h1]; omega
end Go.Proofs.Ytngkimcnolmmoaa

/- Plain facts on products of digits. No program is imported. -/
namespace Go.Proofs.Ytngkimcnolmmoaa
set_option linter.unusedVariables false
set_option linter.unusedSimpArgs false
/-- Ahead of the inner round number k of the outer one number i: what is laid and what is carried come to the product of the lower digits. -/
structure TimesInv (A B : Nat) (i k : Nat) (D : Nat → Nat) (c : Nat) : Prop where
  dig : ∀ j, D j < 65536
  sum : valD D 18 + c * 65536 ^ (i + k) = A % 65536 ^ i * B + dN A i * 65536 ^ i * (B % 65536 ^ k)
  car : c < 65536
theorem times_step {A B i k : Nat} {D : Nat → Nat} {c : Nat} (h : TimesInv A B i k D c) (hik : i + k < 18) :
    TimesInv A B i (k + 1) (fun j => if j = i + k then (D (i + k) + dN A i * dN B k + c) % 65536 else D j) ((D (i + k) + dN A i * dN B k + c) / 65536) := by
  obtain ⟨hd, hs, hc⟩ := h
  have h1 := hd (i + k)
  have ha := dN_lt A i
  have hb := dN_lt B k
  have hp : dN A i * dN B k ≤ 65535 * 65535 := Nat.mul_le_mul (by omega) (by omega)
  have hset := valD_set D (i + k) ((D (i + k) + dN A i * dN B k + c) % 65536) 18 hik
  refine ⟨fun j => ?_, ?_, ?_⟩
  · split
    · exact Nat.mod_lt _ (by omega)
    · exact hd j
  · have hm := mod_s B k
    have hpow : 65536 ^ (i + (k + 1)) = 65536 * 65536 ^ (i + k) := by rw [← Nat.add_assoc, pow_s]
    have hprod : dN A i * 65536 ^ i * (B % 65536 ^ (k + 1)) = dN A i * 65536 ^ i * (B % 65536 ^ k) + dN A i * dN B k * 65536 ^ (i + k) := by
      rw [hm, Nat.mul_add, Nat.pow_add]
      congr 1
      rw [Nat.mul_assoc, Nat.mul_assoc, Nat.mul_comm (dN B k), ← Nat.mul_assoc, ← Nat.mul_assoc]
      simp only [Nat.mul_assoc]
    rw [hpow, hprod]
    have hdm := Nat.div_add_mod (D (i + k) + dN A i * dN B k + c) 65536
    generalize hs' : D (i + k) + dN A i * dN B k + c = s at *
    generalize hq : s / 65536 = q at *
    generalize hr : s % 65536 = r at *
    have e1 : q * (65536 * 65536 ^ (i + k)) + r * 65536 ^ (i + k) = s * 65536 ^ (i + k) := by
      rw [← hdm, Nat.add_mul, ← Nat.mul_assoc, Nat.mul_comm q 65536]
    have e2 : s * 65536 ^ (i + k) = D (i + k) * 65536 ^ (i + k) + dN A i * dN B k * 65536 ^ (i + k) + c * 65536 ^ (i + k) := by
      rw [← hs', Nat.add_mul, Nat.add_mul]
    generalize 65536 ^ (i + k) = p at *
    generalize valD (fun j => if j = i + k then r else D j) 18 = v1 at *
    generalize valD D 18 = v0 at *
    generalize D (i + k) * p = u1 at *
    generalize r * p = u2 at *
    generalize dN A i * dN B k * p = u3 at *
    generalize c * p = u4 at *
    generalize q * (65536 * p) = u5 at *
    omega
  · have : D (i + k) + dN A i * dN B k + c < 65536 * 65536 := by omega
    exact (Nat.div_lt_iff_lt_mul (by omega)).2 (by omega)
/-- At the inner loop's end nothing is carried. -/
theorem times_last {A B i : Nat} {D : Nat → Nat} {c : Nat} (h : TimesInv A B i 9 D c) (hB : B < 65536 ^ 5) : c = 0 ∧ valD D 18 = A % 65536 ^ (i + 1) * B := by
  obtain ⟨hd, hs, hc⟩ := h
  have e : A % 65536 ^ i * B + dN A i * 65536 ^ i * (B % 65536 ^ 9) = A % 65536 ^ (i + 1) * B := by
    rw [Nat.mod_eq_of_lt (Nat.lt_of_lt_of_le hB (Nat.pow_le_pow_right (by omega) (by omega))), mod_s, Nat.add_mul, Nat.mul_comm (65536 ^ i)]
  rw [e] at hs
  have hlt : A % 65536 ^ (i + 1) * B < 65536 ^ (i + 1) * 65536 ^ 5 := Nat.mul_lt_mul_of_lt_of_lt (Nat.mod_lt _ (pow_pos _)) hB
  rw [← Nat.pow_add] at hlt
  have hle : 65536 ^ (i + 1 + 5) ≤ 65536 ^ (i + 9) := Nat.pow_le_pow_right (by omega) (by omega)
  have : c = 0 := by
    rcases Nat.eq_zero_or_pos c with h0 | h0
    · exact h0
    · have := Nat.mul_le_mul_right (65536 ^ (i + 9)) h0
      omega
  exact ⟨this, by rw [this] at hs; omega⟩
theorem times_next {A B i : Nat} {D : Nat → Nat} {c : Nat} (h : TimesInv A B i 9 D c) (hB : B < 65536 ^ 5) : TimesInv A B (i + 1) 0 D 0 :=
  ⟨h.dig, by rw [(times_last h hB).2]; simp [Nat.mod_one], by omega⟩
theorem times_first (A B : Nat) : TimesInv A B 0 0 (fun _ => 0) 0 :=
  ⟨fun _ => by omega, by simp [Nat.mod_one]; decide, by omega⟩
/-- Behind the outer loop: the product's digits. -/
theorem times_end {A B : Nat} {D : Nat → Nat} {c : Nat} (h : TimesInv A B 9 0 D c) (h0 : c = 0) (hA : A < 65536 ^ 5) : ∀ j, j < 18 → D j = dN (A * B) j := by
  have hs := h.sum
  subst h0
  have e : A % 65536 ^ 9 * B + dN A 9 * 65536 ^ 9 * (B % 65536 ^ 0) = A * B := by
    rw [Nat.mod_eq_of_lt (Nat.lt_of_lt_of_le hA (Nat.pow_le_pow_right (by omega) (by omega))), Nat.pow_zero, Nat.mod_one, Nat.mul_zero, Nat.add_zero]
  rw [e, Nat.zero_mul, Nat.add_zero] at hs
  intro j hj
  rw [← dN_valD D h.dig 18 j hj, hs]
end Go.Proofs.Ytngkimcnolmmoaa
