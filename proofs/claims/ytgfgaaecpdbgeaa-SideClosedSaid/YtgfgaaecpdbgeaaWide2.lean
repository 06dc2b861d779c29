/- Contracts of wide's calls: Add, Neg, Cmp, Int. -/
import Derived.Test.YtgfgaaecpdbgeaaWide1
import Derived.Laws.Externs
import Derived.Shelf.Spec.BitsCarry
namespace Go.Proofs.Ytgfgaaecpdbgeaa
open Go.RowKit
set_option linter.unusedVariables false
set_option linter.unusedSimpArgs false

theorem run_add64c (x y c : Int) (w : World) (h0 : 0 ≤ x) (h2 : 0 ≤ y) (h4 : 0 ≤ c) (h5 : c ≤ 1) :
    (callFunc 75 #[.int .u64 x, .int .u64 y, .int .u64 c]).run Try.prog w = .ok (.value (.tuple #[.int .u64 (loOf (x + y + c)), .int .u64 (hiOf (x + y + c))])) w := by
  obtain ⟨x, rfl⟩ := Int.eq_ofNat_of_zero_le h0
  obtain ⟨y, rfl⟩ := Int.eq_ofNat_of_zero_le h2
  obtain ⟨c, rfl⟩ := Int.eq_ofNat_of_zero_le h4
  rw [run_callFunc_extern Try.func75 (by kernel_rfl) (by kernel_rfl) (by kernel_rfl) (e := add64Entry) (by kernel_rfl)]
  have e1 : loOf ((x : Int) + y + c) = (((x + y + c) % 18446744073709551616 : Nat) : Int) := by unfold loOf; omega
  have e2 : hiOf ((x : Int) + y + c) = (((x + y + c) / 18446744073709551616 : Nat) : Int) := by unfold hiOf; omega
  rw [e1, e2]
  have : c = 0 ∨ c = 1 := by omega
  rcases this with rfl | rfl <;> rfl

theorem negative_yes (n : Int) (w : World) (h0 : -9223372036854775808 ≤ n) (h1 : n < 0) :
    Calls Try.prog 76 #[.int .i64 n] w fun e w' => e = .returned (.bool true) ∧ w = w' := by
  have e1 : IntKind.u64.wrap n / 9223372036854775808 = 1 := by rw [IntKind.wrap_u64]; omega
  go_enter Try.func76, Try.ntmps76
  go_wp2
  go_ret
  exact ⟨rfl, rfl⟩
theorem negative_no (n : Int) (w : World) (h0 : 0 ≤ n) (h1 : n ≤ 9223372036854775807) :
    Calls Try.prog 76 #[.int .i64 n] w fun e w' => e = .returned (.bool false) ∧ w = w' := by
  have e1 : (n / 9223372036854775808 != 0) = false := by simp; omega
  go_enter Try.func76, Try.ntmps76
  go_wp2
  go_ret
  exact ⟨rfl, rfl⟩

theorem add_yes (x y : Int) (hx : InW x) (hy : InW y) (h : InW (x + y)) :
    Gives Try.prog 70 #[.agg #[.int .i64 (hiOf x), .int .u64 (loOf x)], .agg #[.int .i64 (hiOf y), .int .u64 (loOf y)]]
      (.tuple #[.agg #[.int .i64 (hiOf (x + y)), .int .u64 (loOf (x + y))], .bool true]) := by
  refine Gives.mk fun w => ?_
  have bx := hi_bd hx
  have bb := hi_bd hy
  have lx := lo_bd x
  have ly := lo_bd y
  have lhx := lo_bd (hiOf x)
  have lhy := lo_bd (hiOf y)
  have hc : 0 ≤ hiOf (loOf x + loOf y) ∧ hiOf (loOf x + loOf y) ≤ 1 := by unfold hiOf loOf; omega
  have a1 := fun w => run_add64c (loOf x) (loOf y) 0 w lx.1 ly.1 (by omega) (by omega)
  simp only [Int.add_zero, sumLo] at a1
  have a2 := fun w => run_add64c (loOf (hiOf x)) (loOf (hiOf y)) (hiOf (loOf x + loOf y)) w lhx.1 lhy.1 hc.1 hc.2
  have u1 : IntKind.u64.wrap (hiOf x) = loOf (hiOf x) := by rw [IntKind.wrap_u64]; rfl
  have u2 : IntKind.u64.wrap (hiOf y) = loOf (hiOf y) := by rw [IntKind.wrap_u64]; rfl
  have u3 : wrap64 (loOf (loOf (hiOf x) + loOf (hiOf y) + hiOf (loOf x + loOf y))) = sumHi x y := rfl
  have t1 := sumTest_no x y hx hy h
  have t2 := (and_bd (bits .xor .i64 (hiOf x) (sumHi x y)) (bits .xor .i64 (hiOf y) (sumHi x y))).2
  have fin := Lib.hid (sumHi_in x y h)
  clear hx hy h
  go_enter Try.func70, Try.ntmps70
  go_wp2_with (go_at_call 76; refine (negative_no _ _ (by assumption) (by assumption)).mono ?_; rintro e w' ⟨rfl, rfl⟩)
  rw [fin.out]
  refine bodyPost_ret (v := .tuple #[.agg #[.int .i64 (hiOf (x + y)), .int .u64 (loOf (x + y))], .bool true]) (by simp [results, Try.results70, go_sem]) rfl ⟨rfl, ?_⟩
  exact bel_alloc (bel_alloc (bel_alloc (Below.refl _ _) _) _) _

theorem add_no (x y : Int) (hx : InW x) (hy : InW y) (h : ¬ InW (x + y)) :
    Gives Try.prog 70 #[.agg #[.int .i64 (hiOf x), .int .u64 (loOf x)], .agg #[.int .i64 (hiOf y), .int .u64 (loOf y)]]
      (.tuple #[.agg #[.int .i64 0, .int .u64 0], .bool false]) := by
  refine Gives.mk fun w => ?_
  have bx := hi_bd hx
  have bb := hi_bd hy
  have lx := lo_bd x
  have ly := lo_bd y
  have lhx := lo_bd (hiOf x)
  have lhy := lo_bd (hiOf y)
  have hc : 0 ≤ hiOf (loOf x + loOf y) ∧ hiOf (loOf x + loOf y) ≤ 1 := by unfold hiOf loOf; omega
  have a1 := fun w => run_add64c (loOf x) (loOf y) 0 w lx.1 ly.1 (by omega) (by omega)
  simp only [Int.add_zero, sumLo] at a1
  have a2 := fun w => run_add64c (loOf (hiOf x)) (loOf (hiOf y)) (hiOf (loOf x + loOf y)) w lhx.1 lhy.1 hc.1 hc.2
  have u1 : IntKind.u64.wrap (hiOf x) = loOf (hiOf x) := by rw [IntKind.wrap_u64]; rfl
  have u2 : IntKind.u64.wrap (hiOf y) = loOf (hiOf y) := by rw [IntKind.wrap_u64]; rfl
  have u3 : wrap64 (loOf (loOf (hiOf x) + loOf (hiOf y) + hiOf (loOf x + loOf y))) = sumHi x y := rfl
  have t1 := sumTest_yes x y hx hy h
  have t2 := (and_bd (bits .xor .i64 (hiOf x) (sumHi x y)) (bits .xor .i64 (hiOf y) (sumHi x y))).1
  clear hx hy h
  go_enter Try.func70, Try.ntmps70
  go_wp2_with (go_at_call 76; refine (negative_yes _ _ (by assumption) (by assumption)).mono ?_; rintro e w' ⟨rfl, rfl⟩)
  refine bodyPost_ret (v := .tuple #[.agg #[.int .i64 0, .int .u64 0], .bool false]) (by simp [results, Try.results70, go_sem]) rfl ⟨rfl, ?_⟩
  exact bel_alloc (bel_alloc (bel_alloc (Below.refl _ _) _) _) _

end Go.Proofs.Ytgfgaaecpdbgeaa
