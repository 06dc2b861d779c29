/- Contracts of wide's calls: Of, Mul. -/
import Derived.Test.YtgfgaaecpdbgeaaProg
import Derived.Test.YtgfgaaecpdbgeaaShelf
import Derived.Test.YtgfgaaecpdbgeaaMath
import Derived.Test.YtgfgaaecpdbgeaaBase
import Derived.WalkKit
import Derived.Below
import Derived.Outline
import Derived.Lib.Hide
import Derived.WalkLawsBesides
namespace Go.Proofs.Ytgfgaaecpdbgeaa
open Go.RowKit
set_option linter.unusedVariables false
set_option linter.unusedSimpArgs false

theorem of_any (n : Int) (h0 : -9223372036854775808 ≤ n) (h1 : n ≤ 9223372036854775807) :
    Gives Try.prog 38 #[.int .i64 n] (.agg #[.int .i64 (hiOf n), .int .u64 (loOf n)]) := by
  refine Gives.mk fun w => ?_
  have e1 : n / 9223372036854775808 = hiOf n := by unfold hiOf; omega
  have e2 : IntKind.u64.wrap n = loOf n := by rw [IntKind.wrap_u64]; rfl
  go_enter Try.func38, Try.ntmps38
  go_wp2
  refine bodyPost_ret (v := .agg #[.int .i64 (hiOf n), .int .u64 (loOf n)]) (by simp [results, Try.results38, go_sem]) rfl ⟨rfl, bel_alloc (Below.refl _ _) _⟩

theorem mul64_any (x y : Int) (w : World) (h0 : 0 ≤ x) (h1 : x ≤ 18446744073709551615) (h2 : 0 ≤ y) (h3 : y ≤ 18446744073709551615) :
    Calls Try.prog 51 #[.int .u64 x, .int .u64 y] w fun e w' => e = .returned (.tuple #[.int .u64 (hiOf (x * y)), .int .u64 (loOf (x * y))]) ∧ w = w' := by
  obtain ⟨n, rfl⟩ := Int.eq_ofNat_of_zero_le h0
  obtain ⟨m, rfl⟩ := Int.eq_ofNat_of_zero_le h2
  refine (Try.bits_Mul64 n m (by omega) (by omega) w).mono ?_
  rintro e w' ⟨rfl, rfl⟩
  refine ⟨?_, rfl⟩
  rw [show (n : Int) * m = ((n * m : Nat) : Int) from by simp]
  unfold hiOf loOf
  simp

theorem mul_any (a b : Int) (h0 : -9223372036854775808 ≤ a) (h1 : a ≤ 9223372036854775807) (h2 : -9223372036854775808 ≤ b) (h3 : b ≤ 9223372036854775807) :
    Gives Try.prog 20 #[.int .i64 a, .int .i64 b] (.agg #[.int .i64 (hiOf (a * b)), .int .u64 (loOf (a * b))]) := by
  refine Gives.mk fun w => ?_
  have ea : IntKind.u64.wrap a = loOf a := by rw [IntKind.wrap_u64]; rfl
  have eb : IntKind.u64.wrap b = loOf b := by rw [IntKind.wrap_u64]; rfl
  have la := lo_bd a
  have lb := lo_bd b
  have aa := and_lost a b h0 h1 h2 h3
  have ab := and_lost b a h2 h3 h0 h1
  have fin := Lib.hid (mul_hi a b h0 h1 h2 h3)
  have fil := Lib.hid (mul_lo a b)
  go_enter Try.func20, Try.ntmps20
  go_wp2_with (go_at_call 51; refine (mul64_any _ _ _ la.1 la.2 lb.1 lb.2).mono ?_; rintro e w' ⟨rfl, rfl⟩)
  rw [fin.out, fil.out]
  refine bodyPost_ret (v := .agg #[.int .i64 (hiOf (a * b)), .int .u64 (loOf (a * b))]) (by simp [results, Try.results20, go_sem]) rfl ⟨rfl, bel_alloc (Below.refl _ _) _⟩
end Go.Proofs.Ytgfgaaecpdbgeaa
