/- The document's own numbers, as digits: contracts of its calls, part 12: sums and products whole; numbers of 64 bits. -/
import Derived.Test.YtgfgaaecpdbgeaaRef10
import Derived.Test.YtgfgaaecpdbgeaaRef11
namespace Go.Proofs.Ytgfgaaecpdbgeaa
open Go.RowKit
set_option linter.unusedVariables false
set_option linter.unusedSimpArgs false
theorem plus_any (x y : Int) (bx : Big x.natAbs) (by_ : Big y.natAbs) (bs : Big (x.natAbs + y.natAbs)) : Gives Try.prog 42 #[.agg (numc (sg x) (dg x.natAbs)), .agg (numc (sg y) (dg y.natAbs))] (.agg (numc (sg (x + y)) (dg (x + y).natAbs))) := by
  by_cases hx : x < 0 <;> by_cases hy : y < 0
  · rw [sg_yes hx, sg_yes hy, sg_yes (by omega), show (x + y).natAbs = x.natAbs + y.natAbs by omega]
    exact plus_neg _ _ bs (by omega)
  · rw [sg_yes hx, sg_no (by omega)]
    by_cases h : x.natAbs < y.natAbs
    · rw [sg_no (by omega), show (x + y).natAbs = y.natAbs - x.natAbs by omega]
      exact diff_tf_s _ _ by_ bx h
    · by_cases he : x.natAbs = y.natAbs
      · rw [sg_no (by omega), show (x + y).natAbs = x.natAbs - y.natAbs by omega]
        exact diff_tf0 _ _ bx by_ (by omega) he
      · rw [sg_yes (by omega), show (x + y).natAbs = x.natAbs - y.natAbs by omega]
        exact diff_tf _ _ bx by_ (by omega) he
  · rw [sg_no (by omega), sg_yes hy]
    by_cases h : x.natAbs < y.natAbs
    · rw [sg_yes (by omega), show (x + y).natAbs = y.natAbs - x.natAbs by omega]
      exact diff_ft_s _ _ by_ bx h (by omega)
    · rw [sg_no (by omega), show (x + y).natAbs = x.natAbs - y.natAbs by omega]
      exact diff_ft _ _ bx by_ (by omega)
  · rw [sg_no (by omega), sg_no (by omega), sg_no (by omega), show (x + y).natAbs = x.natAbs + y.natAbs by omega]
    exact plus_pos _ _ bs
def Half (N : Nat) : Prop := N < 65536 ^ 5
theorem times_any (x y : Int) (bx : Half x.natAbs) (by_ : Half y.natAbs) : Gives Try.prog 48 #[.agg (numc (sg x) (dg x.natAbs)), .agg (numc (sg y) (dg y.natAbs))] (.agg (numc (sg (x * y)) (dg (x * y).natAbs))) := by
  rw [Int.natAbs_mul]
  have hm : x.natAbs * y.natAbs = 0 ↔ x = 0 ∨ y = 0 := by rw [Nat.mul_eq_zero]; omega
  by_cases hx : x < 0 <;> by_cases hy : y < 0
  · rw [sg_yes hx, sg_yes hy, sg_no (Int.le_of_lt (Int.mul_pos_of_neg_of_neg hx hy))]
    exact times_tt _ _ bx by_
  · rw [sg_yes hx, sg_no (by omega)]
    by_cases h0 : y = 0
    · rw [sg_no (by subst h0; simp)]; exact times_tf0 _ _ bx by_ (hm.2 (.inr h0))
    · rw [sg_yes (Int.mul_neg_of_neg_of_pos hx (by omega))]; exact times_tf _ _ bx by_ (fun h => by have := hm.1 h; omega)
  · rw [sg_no (by omega), sg_yes hy]
    by_cases h0 : x = 0
    · rw [sg_no (by subst h0; simp)]; exact times_ft0 _ _ bx by_ (hm.2 (.inl h0))
    · rw [sg_yes (Int.mul_neg_of_pos_of_neg (by omega) hy)]; exact times_ft _ _ bx by_ (fun h => by have := hm.1 h; omega)
  · rw [sg_no (by omega), sg_no (by omega), sg_no (Int.mul_nonneg (by omega) (by omega))]
    exact times_ff _ _ bx by_
theorem big_w {x : Int} (h : InW x) : Big x.natAbs := by
  unfold InW at h
  exact Nat.lt_of_le_of_lt (show x.natAbs ≤ 170141183460469231731687303715884105728 by omega) (by decide)
theorem big_i {x : Int} (h0 : -9223372036854775808 ≤ x) (h1 : x ≤ 9223372036854775807) : Big x.natAbs := Nat.lt_of_le_of_lt (show x.natAbs ≤ 9223372036854775808 by omega) (by decide)
theorem half_i {x : Int} (h0 : -9223372036854775808 ≤ x) (h1 : x ≤ 9223372036854775807) : Half x.natAbs := Nat.lt_of_le_of_lt (show x.natAbs ≤ 9223372036854775808 by omega) (by decide)
/-- A whole number's block, loaded in a drawn region. -/
theorem quiet_num {ops : Array Oper} {C : World → Prop} {Q : Act → Prop} {o : Oper} {rest : List Oper} {a : Act} (x : Operand) (ho : o.op = .load 70 x) (hg : Region.wanted o (yielded ops a.tmps) = true) (g : Nat) (hx : a.eval x = .pointer (some ⟨g, 0, none⟩))
    (s : Bool) (A : Nat → Int) (h : ∀ u, C u → u.heap[g]? = some (.cells (numc s A) 70 (0, 0))) (k : wpQuiet Try.prog ops C Q rest (a.put o.dst (.agg (numc s A)))) : wpQuiet Try.prog ops C Q (o :: rest) a :=
  quiet_by hg _ (fun u hu => by
    have hr : u.rangeAt g 0 (numc s A).toList := fun j v hv => by
      rw [Nat.zero_add, cell_of_row u g j _ _ _ (h u hu)]
      rw [Array.getElem?_toList] at hv
      exact hv
    have := run_loadAt_mid (P := Try.prog) u g 0 70 (numc s A).toList _ hr Try.underlying70 rfl (by rw [Array.length_toList, numc_size]; exact info30)
    unfold execOp
    simp only [ho, hx, Sem.run_bind, this, Result.andThen_ok, Sem.run_pure]) k

end Go.Proofs.Ytgfgaaecpdbgeaa
