/- Plain facts on digits to the base 65536. No program is imported. -/
import Derived.RowKit
import Derived.Lib.Hide
namespace Go.Proofs.Ytgfgaaecpdbgeaa
open Go.RowKit
set_option linter.unusedVariables false
set_option linter.unusedSimpArgs false
/-- The digits of a number. -/
def dN (N j : Nat) : Nat := N / 65536 ^ j % 65536
theorem dN_lt (N j : Nat) : dN N j < 65536 := Nat.mod_lt _ (by omega)
theorem pow_s (j : Nat) : 65536 ^ (j + 1) = 65536 * 65536 ^ j := by rw [Nat.pow_succ, Nat.mul_comm]
theorem pow_pos (j : Nat) : 0 < 65536 ^ j := Nat.pow_pos (by omega)
/-- One digit more of what is left. -/
theorem mod_s (N j : Nat) : N % 65536 ^ (j + 1) = N % 65536 ^ j + 65536 ^ j * dN N j := by
  unfold dN; rw [Nat.pow_succ, Nat.mod_mul]
theorem div_s (N j : Nat) : N / 65536 ^ j = 65536 * (N / 65536 ^ (j + 1)) + dN N j := by
  unfold dN; rw [Nat.pow_succ, ← Nat.div_div_eq_div_mul]; omega
/-- What digits are together, the first n of them. -/
def valD (D : Nat → Nat) : Nat → Nat
  | 0 => 0
  | n + 1 => valD D n + D n * 65536 ^ n
theorem valD_dN (N : Nat) : ∀ n, valD (dN N) n = N % 65536 ^ n
  | 0 => by simp [valD, Nat.mod_one]
  | n + 1 => by rw [valD, valD_dN N n, mod_s, Nat.mul_comm]
theorem valD_lt (D : Nat → Nat) (h : ∀ j, D j < 65536) : ∀ n, valD D n < 65536 ^ n
  | 0 => by simp [valD]
  | n + 1 => by
    have h1 := valD_lt D h n
    have h2 : D n * 65536 ^ n ≤ 65535 * 65536 ^ n := Nat.mul_le_mul_right _ (by have := h n; omega)
    rw [valD, pow_s]
    generalize 65536 ^ n = p at *
    omega
theorem valD_congr {D E : Nat → Nat} : ∀ n, (∀ j, j < n → D j = E j) → valD D n = valD E n
  | 0, _ => rfl
  | n + 1, h => by rw [valD, valD, valD_congr n (fun j hj => h j (by omega)), h n (by omega)]
theorem valD_set (D : Nat → Nat) (i v : Nat) : ∀ n, i < n → valD (fun j => if j = i then v else D j) n + D i * 65536 ^ i = valD D n + v * 65536 ^ i
  | 0, h => by omega
  | n + 1, h => by
    by_cases hi : i < n
    · have h1 := valD_set D i v n hi
      simp only [valD]
      rw [if_neg (by omega : ¬ n = i)]
      omega
    · obtain rfl : i = n := by omega
      have h1 : valD (fun j => if j = i then v else D j) i = valD D i := valD_congr i (fun j hj => by rw [if_neg (by omega)])
      simp only [valD, h1, if_true]
      omega
/-- Digits are those of what they are together. -/
theorem dN_valD (D : Nat → Nat) (h : ∀ j, D j < 65536) : ∀ n j, j < n → dN (valD D n) j = D j
  | 0, j, hj => by omega
  | n + 1, j, hj => by
    by_cases hjn : j < n
    · rw [← dN_valD D h n j hjn]
      unfold dN
      rw [valD, show D n * 65536 ^ n = 65536 ^ j * (65536 * (65536 ^ (n - j - 1) * D n)) by
        rw [Nat.mul_comm, ← Nat.mul_assoc, ← Nat.mul_assoc, ← Nat.pow_succ, ← Nat.pow_add, show j + 1 + (n - j - 1) = n by omega],
        Nat.add_mul_div_left _ _ (pow_pos j), Nat.add_mul_mod_self_left]
    · obtain rfl : j = n := by omega
      unfold dN
      rw [valD, Nat.add_mul_div_right _ _ (pow_pos j), Nat.div_eq_of_lt (valD_lt D h j), Nat.zero_add]
      exact Nat.mod_eq_of_lt (h j)
theorem dN_zero (N j : Nat) (h : N < 65536 ^ j) : dN N j = 0 := by
  unfold dN; rw [Nat.div_eq_of_lt h]
theorem valD_all (N n : Nat) (h : N < 65536 ^ n) : valD (dN N) n = N := by rw [valD_dN, Nat.mod_eq_of_lt h]
/-- Ahead of digit number i: what is carried of a sum. -/
def carryN (A B i : Nat) : Nat := (A % 65536 ^ i + B % 65536 ^ i) / 65536 ^ i
theorem carry_0 (A B : Nat) : carryN A B 0 = 0 := by unfold carryN; simp [Nat.mod_one]
theorem carry_le (A B i : Nat) : carryN A B i ≤ 1 := by
  unfold carryN
  have h1 := Nat.mod_lt A (pow_pos i)
  have h2 := Nat.mod_lt B (pow_pos i)
  have : A % 65536 ^ i + B % 65536 ^ i < 2 * 65536 ^ i := by omega
  have := (Nat.div_lt_iff_lt_mul (pow_pos i)).2 this
  omega
theorem carry_s (A B i : Nat) : (dN A i + dN B i + carryN A B i) % 65536 = dN (A + B) i ∧ (dN A i + dN B i + carryN A B i) / 65536 = carryN A B (i + 1) := by
  have ea : A = 65536 ^ i * (A / 65536 ^ i) + A % 65536 ^ i := (Nat.div_add_mod A _).symm
  have eb : B = 65536 ^ i * (B / 65536 ^ i) + B % 65536 ^ i := (Nat.div_add_mod B _).symm
  have es : (A + B) / 65536 ^ i = A / 65536 ^ i + B / 65536 ^ i + carryN A B i := by
    unfold carryN
    conv => lhs; rw [ea, eb]
    rw [show 65536 ^ i * (A / 65536 ^ i) + A % 65536 ^ i + (65536 ^ i * (B / 65536 ^ i) + B % 65536 ^ i) = (A % 65536 ^ i + B % 65536 ^ i) + 65536 ^ i * (A / 65536 ^ i + B / 65536 ^ i) by rw [Nat.mul_add]; omega,
      Nat.add_mul_div_left _ _ (pow_pos i)]
    omega
  constructor
  · unfold dN
    rw [es]; omega
  · have h2 : carryN A B (i + 1) = ((A % 65536 ^ i + B % 65536 ^ i) + 65536 ^ i * (dN A i + dN B i)) / (65536 ^ i * 65536) := by
      unfold carryN
      rw [mod_s, mod_s, Nat.pow_succ, Nat.mul_add]
      congr 1; omega
    rw [h2, ← Nat.div_div_eq_div_mul, Nat.add_mul_div_left _ _ (pow_pos i)]
    unfold carryN
    congr 1; omega
/-- Ahead of digit number i: what is borrowed of a difference. -/
def borrowN (A B i : Nat) : Nat := if A % 65536 ^ i < B % 65536 ^ i then 1 else 0
theorem borrow_0 (A B : Nat) : borrowN A B 0 = 0 := by unfold borrowN; simp [Nat.mod_one]
theorem borrow_s (A B i : Nat) (h : B ≤ A) : (dN A i < dN B i + borrowN A B i → dN A i + 65536 = dN (A - B) i + dN B i + borrowN A B i ∧ borrowN A B (i + 1) = 1) ∧
    (¬ dN A i < dN B i + borrowN A B i → dN A i = dN (A - B) i + dN B i + borrowN A B i ∧ borrowN A B (i + 1) = 0) := by
  have hA := div_s A i
  have hB := div_s B i
  have la := dN_lt A i
  have lb := dN_lt B i
  have lm := dN_lt (A - B) i
  have pp := pow_pos i
  have ma := Nat.mod_lt A pp
  have mb := Nat.mod_lt B pp
  have ea : A = 65536 ^ i * (A / 65536 ^ i) + A % 65536 ^ i := (Nat.div_add_mod A _).symm
  have eb : B = 65536 ^ i * (B / 65536 ^ i) + B % 65536 ^ i := (Nat.div_add_mod B _).symm
  have eq : (A - B) / 65536 ^ i + B / 65536 ^ i + borrowN A B i = A / 65536 ^ i := by
    unfold borrowN
    split
    · rename_i hlt
      have hq : B / 65536 ^ i < A / 65536 ^ i := by
        rcases Nat.lt_or_ge (B / 65536 ^ i) (A / 65536 ^ i) with h1 | h1
        · exact h1
        · have := Nat.mul_le_mul_left (65536 ^ i) h1
          omega
      have e : A - B = (A % 65536 ^ i + 65536 ^ i - B % 65536 ^ i) + 65536 ^ i * (A / 65536 ^ i - B / 65536 ^ i - 1) := by
        have : 65536 ^ i * (A / 65536 ^ i) = 65536 ^ i * (A / 65536 ^ i - B / 65536 ^ i - 1) + 65536 ^ i * (B / 65536 ^ i) + 65536 ^ i := by
          rw [← Nat.mul_add, ← Nat.mul_succ]; congr 1; omega
        omega
      rw [e, Nat.add_mul_div_left _ _ pp, Nat.div_eq_of_lt (by omega)]
      omega
    · rename_i hlt
      have hq : B / 65536 ^ i ≤ A / 65536 ^ i := Nat.div_le_div_right h
      have e : A - B = (A % 65536 ^ i - B % 65536 ^ i) + 65536 ^ i * (A / 65536 ^ i - B / 65536 ^ i) := by
        have : 65536 ^ i * (A / 65536 ^ i) = 65536 ^ i * (A / 65536 ^ i - B / 65536 ^ i) + 65536 ^ i * (B / 65536 ^ i) := by
          rw [← Nat.mul_add]; congr 1; omega
        omega
      rw [e, Nat.add_mul_div_left _ _ pp, Nat.div_eq_of_lt (by omega)]
      omega
  have hm := div_s (A - B) i
  have bs : borrowN A B (i + 1) = if A % 65536 ^ i + 65536 ^ i * dN A i < B % 65536 ^ i + 65536 ^ i * dN B i then 1 else 0 := by
    unfold borrowN; rw [mod_s, mod_s]
  have b01 : borrowN A B i = 0 ∨ borrowN A B i = 1 := by unfold borrowN; split <;> omega
  have bl : borrowN A B i = 1 ↔ A % 65536 ^ i < B % 65536 ^ i := by unfold borrowN; split <;> omega
  have key : (A % 65536 ^ i + 65536 ^ i * dN A i < B % 65536 ^ i + 65536 ^ i * dN B i) ↔ dN A i < dN B i + borrowN A B i := by
    constructor
    · intro hl
      rcases Nat.lt_trichotomy (dN A i) (dN B i) with h1 | h1 | h1
      · omega
      · rw [h1] at hl
        have : borrowN A B i = 1 := bl.2 (by omega)
        omega
      · have := Nat.mul_le_mul_left (65536 ^ i) h1
        rw [Nat.mul_succ] at this
        omega
    · intro hl
      rcases Nat.lt_trichotomy (dN A i) (dN B i) with h1 | h1 | h1
      · have := Nat.mul_le_mul_left (65536 ^ i) h1
        rw [Nat.mul_succ] at this
        omega
      · have : A % 65536 ^ i < B % 65536 ^ i := bl.1 (by omega)
        rw [h1]; omega
      · omega
  constructor
  · intro hl
    refine ⟨by omega, ?_⟩
    rw [bs, if_pos (key.2 hl)]
  · intro hl
    refine ⟨by omega, ?_⟩
    rw [bs, if_neg (fun h => hl (key.1 h))]
/-! the highest digit that differs -/
theorem mod_cmp (A B i : Nat) : (A % 65536 ^ (i + 1) < B % 65536 ^ (i + 1)) ↔ (dN A i < dN B i ∨ dN A i = dN B i ∧ A % 65536 ^ i < B % 65536 ^ i) := by
  rw [mod_s, mod_s]
  have ma := Nat.mod_lt A (pow_pos i)
  have mb := Nat.mod_lt B (pow_pos i)
  constructor
  · intro hl
    rcases Nat.lt_trichotomy (dN A i) (dN B i) with h1 | h1 | h1
    · exact .inl h1
    · rw [h1] at hl; exact .inr ⟨h1, by omega⟩
    · have := Nat.mul_le_mul_left (65536 ^ i) h1
      rw [Nat.mul_succ] at this
      omega
  · rintro (h1 | ⟨h1, h2⟩)
    · have := Nat.mul_le_mul_left (65536 ^ i) h1
      rw [Nat.mul_succ] at this
      omega
    · rw [h1]; omega
end Go.Proofs.Ytgfgaaecpdbgeaa
