/- Contracts of wide's calls: Add, Neg, Cmp, Int. -/
import Derived.Test.YtlfdjnmigfdjbaaWide1
import Derived.Laws.Externs
import Derived.Shelf.Spec.BitsCarry
namespace Go.Proofs.Ytlfdjnmigfdjbaa
open Go.RowKit
set_option linter.unusedVariables false
set_option linter.unusedSimpArgs false

theorem run_add64c (x y c : Int) (w : World) (h0 : 0 ≤ x) (h2 : 0 ≤ y) (h4 : 0 ≤ c) (h5 : c ≤ 1) :
    (callFunc 62 #[.int .u64 x, .int .u64 y, .int .u64 c]).run Try.prog w = .ok (.value (.tuple #[.int .u64 (loOf (x + y + c)), .int .u64 (hiOf (x + y + c))])) w := by
  obtain ⟨x, rfl⟩ := Int.eq_ofNat_of_zero_le h0
  obtain ⟨y, rfl⟩ := Int.eq_ofNat_of_zero_le h2
  obtain ⟨c, rfl⟩ := Int.eq_ofNat_of_zero_le h4
  rw [run_callFunc_extern Try.func62 (by kernel_rfl) (by kernel_rfl) (by kernel_rfl) (e := add64Entry) (by kernel_rfl)]
  have e1 : loOf ((x : Int) + y + c) = (((x + y + c) % 18446744073709551616 : Nat) : Int) := by unfold loOf; omega
  have e2 : hiOf ((x : Int) + y + c) = (((x + y + c) / 18446744073709551616 : Nat) : Int) := by unfold hiOf; omega
  rw [e1, e2]
  have : c = 0 ∨ c = 1 := by omega
  rcases this with rfl | rfl <;> rfl

theorem run_sub64c (x y c : Int) (w : World) (h0 : 0 ≤ x) (h2 : 0 ≤ y) (h3 : y + c ≤ x + 18446744073709551616) (h4 : 0 ≤ c) (h5 : c ≤ 1) :
    (callFunc 65 #[.int .u64 x, .int .u64 y, .int .u64 c]).run Try.prog w = .ok (.value (.tuple #[.int .u64 (loOf (x + 18446744073709551616 - y - c)), .int .u64 (if x < y + c then 1 else 0)])) w := by
  obtain ⟨x, rfl⟩ := Int.eq_ofNat_of_zero_le h0
  obtain ⟨y, rfl⟩ := Int.eq_ofNat_of_zero_le h2
  obtain ⟨c, rfl⟩ := Int.eq_ofNat_of_zero_le h4
  rw [run_callFunc_extern Try.func65 (by kernel_rfl) (by kernel_rfl) (by kernel_rfl) (e := sub64Entry) (by kernel_rfl), run_sub64 x y c (by omega)]
  have e1 : loOf ((x : Int) + 18446744073709551616 - y - c) = (((x + 18446744073709551616 - y - c) % 18446744073709551616 : Nat) : Int) := by unfold loOf; omega
  have e2 : (if (x : Int) < y + c then (1 : Int) else 0) = ((if x < y + c then 1 else 0 : Nat) : Int) := by split <;> split <;> omega
  rw [e1, e2]
  rfl

theorem negative_yes (n : Int) (w : World) (h0 : -9223372036854775808 ≤ n) (h1 : n < 0) :
    Calls Try.prog 63 #[.int .i64 n] w fun e w' => e = .returned (.bool true) ∧ w = w' := by
  have e1 : IntKind.u64.wrap n / 9223372036854775808 = 1 := by rw [IntKind.wrap_u64]; omega
  go_enter Try.func63, Try.ntmps63
  go_wp2
  go_ret
  exact ⟨rfl, rfl⟩
theorem negative_no (n : Int) (w : World) (h0 : 0 ≤ n) (h1 : n ≤ 9223372036854775807) :
    Calls Try.prog 63 #[.int .i64 n] w fun e w' => e = .returned (.bool false) ∧ w = w' := by
  have e1 : (n / 9223372036854775808 != 0) = false := by simp; omega
  go_enter Try.func63, Try.ntmps63
  go_wp2
  go_ret
  exact ⟨rfl, rfl⟩

theorem add_yes (x y : Int) (hx : InW x) (hy : InW y) (h : InW (x + y)) :
    Gives Try.prog 16 #[.agg #[.int .i64 (hiOf x), .int .u64 (loOf x)], .agg #[.int .i64 (hiOf y), .int .u64 (loOf y)]]
      (.tuple #[.agg #[.int .i64 (hiOf (x + y)), .int .u64 (loOf (x + y))], .bool true]) := by
  refine Gives.mk fun w => ?_
  have bx := hi_bd hx
  have bb := hi_bd hy
  have lx := lo_bd x
  have ly := lo_bd y
  have lhx := lo_bd (hiOf x)
  have lhy := lo_bd (hiOf y)
  have hc : 0 ≤ hiOf (loOf x + loOf y) ∧ hiOf (loOf x + loOf y) ≤ 1 := by unfold hiOf loOf; omega
  have a1 := fun w => run_add64c (loOf x) (loOf y) 0 w lx.1 ly.1 (by omega) (by omega)
  simp only [Int.add_zero, sumLo] at a1
  have a2 := fun w => run_add64c (loOf (hiOf x)) (loOf (hiOf y)) (hiOf (loOf x + loOf y)) w lhx.1 lhy.1 hc.1 hc.2
  have u1 : IntKind.u64.wrap (hiOf x) = loOf (hiOf x) := by rw [IntKind.wrap_u64]; rfl
  have u2 : IntKind.u64.wrap (hiOf y) = loOf (hiOf y) := by rw [IntKind.wrap_u64]; rfl
  have u3 : wrap64 (loOf (loOf (hiOf x) + loOf (hiOf y) + hiOf (loOf x + loOf y))) = sumHi x y := rfl
  have t1 := sumTest_no x y hx hy h
  have t2 := (and_bd (bits .xor .i64 (hiOf x) (sumHi x y)) (bits .xor .i64 (hiOf y) (sumHi x y))).2
  have fin := Lib.hid (sumHi_in x y h)
  clear hx hy h
  go_enter Try.func16, Try.ntmps16
  go_wp2_with (go_at_call 63; refine (negative_no _ _ (by assumption) (by assumption)).mono ?_; rintro e w' ⟨rfl, rfl⟩)
  rw [fin.out]
  refine bodyPost_ret (v := .tuple #[.agg #[.int .i64 (hiOf (x + y)), .int .u64 (loOf (x + y))], .bool true]) (by simp [results, Try.results16, go_sem]) rfl ⟨rfl, ?_⟩
  exact bel_alloc (bel_alloc (bel_alloc (Below.refl _ _) _) _) _

theorem add_no (x y : Int) (hx : InW x) (hy : InW y) (h : ¬ InW (x + y)) :
    Gives Try.prog 16 #[.agg #[.int .i64 (hiOf x), .int .u64 (loOf x)], .agg #[.int .i64 (hiOf y), .int .u64 (loOf y)]]
      (.tuple #[.agg #[.int .i64 0, .int .u64 0], .bool false]) := by
  refine Gives.mk fun w => ?_
  have bx := hi_bd hx
  have bb := hi_bd hy
  have lx := lo_bd x
  have ly := lo_bd y
  have lhx := lo_bd (hiOf x)
  have lhy := lo_bd (hiOf y)
  have hc : 0 ≤ hiOf (loOf x + loOf y) ∧ hiOf (loOf x + loOf y) ≤ 1 := by unfold hiOf loOf; omega
  have a1 := fun w => run_add64c (loOf x) (loOf y) 0 w lx.1 ly.1 (by omega) (by omega)
  simp only [Int.add_zero, sumLo] at a1
  have a2 := fun w => run_add64c (loOf (hiOf x)) (loOf (hiOf y)) (hiOf (loOf x + loOf y)) w lhx.1 lhy.1 hc.1 hc.2
  have u1 : IntKind.u64.wrap (hiOf x) = loOf (hiOf x) := by rw [IntKind.wrap_u64]; rfl
  have u2 : IntKind.u64.wrap (hiOf y) = loOf (hiOf y) := by rw [IntKind.wrap_u64]; rfl
  have u3 : wrap64 (loOf (loOf (hiOf x) + loOf (hiOf y) + hiOf (loOf x + loOf y))) = sumHi x y := rfl
  have t1 := sumTest_yes x y hx hy h
  have t2 := (and_bd (bits .xor .i64 (hiOf x) (sumHi x y)) (bits .xor .i64 (hiOf y) (sumHi x y))).1
  clear hx hy h
  go_enter Try.func16, Try.ntmps16
  go_wp2_with (go_at_call 63; refine (negative_yes _ _ (by assumption) (by assumption)).mono ?_; rintro e w' ⟨rfl, rfl⟩)
  refine bodyPost_ret (v := .tuple #[.agg #[.int .i64 0, .int .u64 0], .bool false]) (by simp [results, Try.results16, go_sem]) rfl ⟨rfl, ?_⟩
  exact bel_alloc (bel_alloc (bel_alloc (Below.refl _ _) _) _) _

theorem neg_yes (x : Int) (hx : InW x) (h : x ≠ -170141183460469231731687303715884105728) :
    Gives Try.prog 19 #[.agg #[.int .i64 (hiOf x), .int .u64 (loOf x)]]
      (.tuple #[.agg #[.int .i64 (hiOf (-x)), .int .u64 (loOf (-x))], .bool true]) := by
  refine Gives.mk fun w => ?_
  have bx := hi_bd hx
  have lx := lo_bd x
  have lhx := lo_bd (hiOf x)
  have a1 := fun w => run_sub64c 0 (loOf x) 0 w (by omega) lx.1 (by omega) (by omega) (by omega)
  have hb : (0 : Int) ≤ (if (0 : Int) < loOf x then 1 else 0) ∧ (if (0 : Int) < loOf x then (1 : Int) else 0) ≤ 1 := by split <;> omega
  have a2 := fun w => run_sub64c 0 (loOf (hiOf x)) (if (0 : Int) < loOf x then 1 else 0) w (by omega) lhx.1 (by omega) hb.1 hb.2
  simp only [Int.sub_zero, Int.add_zero, Int.zero_add, negLo] at a1 a2
  have u1 : IntKind.u64.wrap (hiOf x) = loOf (hiOf x) := by rw [IntKind.wrap_u64]; rfl
  have u3 : wrap64 (loOf (18446744073709551616 - loOf (hiOf x) - (if 0 < loOf x then 1 else 0))) = negHi x := rfl
  have fin := Lib.hid (negHi_in x hx h)
  obtain ⟨c, hcc⟩ : ∃ c : Int, (if (0 : Int) < loOf x then (1 : Int) else 0) = c := ⟨_, rfl⟩
  rw [hcc] at u3
  simp only [hcc] at a1 a2
  obtain ⟨d, hdd⟩ : ∃ d : Int, (if (0 : Int) < loOf (hiOf x) + c then (1 : Int) else 0) = d := ⟨_, rfl⟩
  simp only [hdd] at a2
  have ne : ∀ w : World, (binOp .eql 24 (.agg #[.int .i64 (hiOf x), .int .u64 (loOf x)]) (.agg #[.int .i64 (-9223372036854775808), .int .u64 0])).run Try.prog w = .ok (.bool false) w := by
    intro w
    by_cases e1 : hiOf x = -9223372036854775808
    · by_cases e2 : loOf x = 0
      · exfalso; apply h; have := hi_lo x; omega
      · go_simp
    · go_simp
  clear hx h hb hcc hdd
  go_enter Try.func19, Try.ntmps19
  go_wp2
  rw [fin.out]
  refine bodyPost_ret (v := .tuple #[.agg #[.int .i64 (hiOf (-x)), .int .u64 (loOf (-x))], .bool true]) (by simp [results, Try.results19, go_sem]) rfl ⟨rfl, ?_⟩
  exact bel_alloc (bel_alloc (Below.refl _ _) _) _
end Go.Proofs.Ytlfdjnmigfdjbaa
