/- The document's own numbers, as digits: contracts of its calls, part 6: the other sign; to and from wide numbers. -/
import Derived.Test.YtgfgaaecpdbgeaaRef5
namespace Go.Proofs.Ytgfgaaecpdbgeaa
open Go.RowKit
set_option linter.unusedVariables false
set_option linter.unusedSimpArgs false
theorem split_dN (H L : Nat) (hl : L < 18446744073709551616) (j : Nat) : dN (H * 18446744073709551616 + L) j = if j < 4 then dN L j else dN H (j - 4) := by
  have e : (18446744073709551616 : Nat) = 65536 ^ 4 := by decide
  unfold dN
  rw [e] at hl ⊢
  split
  · rename_i h
    rw [show H * 65536 ^ 4 = 65536 ^ j * (65536 * (65536 ^ (3 - j) * H)) by
      rw [Nat.mul_comm, ← Nat.mul_assoc, ← Nat.mul_assoc, ← Nat.pow_succ, ← Nat.pow_add, show j + 1 + (3 - j) = 4 by omega], Nat.add_comm, Nat.add_mul_div_left _ _ (pow_pos j), Nat.add_mul_mod_self_left]
  · rename_i h
    rw [show 65536 ^ j = 65536 ^ 4 * 65536 ^ (j - 4) by rw [← Nat.pow_add]; congr 1; omega, ← Nat.div_div_eq_div_mul]
    congr 2
    rw [Nat.add_comm, Nat.add_mul_div_right _ _ (pow_pos 4), Nat.div_eq_of_lt hl, Nat.zero_add]

end Go.Proofs.Ytgfgaaecpdbgeaa
