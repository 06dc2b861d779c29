/- Contracts of wide's calls: Of, Mul. -/
import Derived.Test.YtngkimcnolmmoaaProg
import Derived.Test.YtngkimcnolmmoaaShelf
import Derived.Test.YtngkimcnolmmoaaMMath
import Derived.Test.YtngkimcnolmmoaaBase
import Derived.WalkKit
import Derived.Below
import Derived.Outline
import Derived.Lib.Hide
import Derived.WalkLawsBesides
import Derived.Laws.Externs
import Derived.Shelf.Spec.BitsCarry
namespace Go.Proofs.Ytngkimcnolmmoaa
open Go.RowKit
set_option linter.unusedVariables false
set_option linter.unusedSimpArgs false

theorem mul64_any (x y : Int) (w : World) (h0 : 0 ≤ x) (h1 : x ≤ 18446744073709551615) (h2 : 0 ≤ y) (h3 : y ≤ 18446744073709551615) :
    Calls Try.prog 39 #[.int .u64 x, .int .u64 y] w fun e w' => e = .returned (.tuple #[.int .u64 (hiOf (x * y)), .int .u64 (loOf (x * y))]) ∧ w = w' := by
  obtain ⟨n, rfl⟩ := Int.eq_ofNat_of_zero_le h0
  obtain ⟨m, rfl⟩ := Int.eq_ofNat_of_zero_le h2
  refine (Try.bits_Mul64 n m (by omega) (by omega) w).mono ?_
  rintro e w' ⟨rfl, rfl⟩
  refine ⟨?_, rfl⟩
  rw [show (n : Int) * m = ((n * m : Nat) : Int) from by simp]
  unfold hiOf loOf
  simp

theorem mul_any (a b : Int) (h0 : -9223372036854775808 ≤ a) (h1 : a ≤ 9223372036854775807) (h2 : -9223372036854775808 ≤ b) (h3 : b ≤ 9223372036854775807) :
    Gives Try.prog 34 #[.int .i64 a, .int .i64 b] (.agg #[.int .i64 (hiOf (a * b)), .int .u64 (loOf (a * b))]) := by
  refine Gives.mk fun w => ?_
  have ea : IntKind.u64.wrap a = loOf a := by rw [IntKind.wrap_u64]; rfl
  have eb : IntKind.u64.wrap b = loOf b := by rw [IntKind.wrap_u64]; rfl
  have la := lo_bd a
  have lb := lo_bd b
  have aa := and_lost a b h0 h1 h2 h3
  have ab := and_lost b a h2 h3 h0 h1
  have fin := Lib.hid (mul_hi a b h0 h1 h2 h3)
  have fil := Lib.hid (mul_lo a b)
  go_enter Try.func34, Try.ntmps34
  go_wp2_with (go_at_call 39; refine (mul64_any _ _ _ la.1 la.2 lb.1 lb.2).mono ?_; rintro e w' ⟨rfl, rfl⟩)
  rw [fin.out, fil.out]
  refine bodyPost_ret (v := .agg #[.int .i64 (hiOf (a * b)), .int .u64 (loOf (a * b))]) (by simp [results, Try.results34, go_sem]) rfl ⟨rfl, bel_alloc (Below.refl _ _) _⟩
end Go.Proofs.Ytngkimcnolmmoaa

/- Contracts of wide's calls: Add, Neg, Cmp, Int. -/
namespace Go.Proofs.Ytngkimcnolmmoaa
open Go.RowKit
set_option linter.unusedVariables false
set_option linter.unusedSimpArgs false

end Go.Proofs.Ytngkimcnolmmoaa

/- Contracts of wide's calls: Neg of the least number, Cmp, Int, Order. -/
namespace Go.Proofs.Ytngkimcnolmmoaa
open Go.RowKit
set_option linter.unusedVariables false
set_option linter.unusedSimpArgs false

/-- -1, 0 or 1. -/
def cmpOf (x y : Int) : Int := if x < y then -1 else if x = y then 0 else 1
theorem ret_i64 {a b : Int} (h : a = b) : Ending.returned (.int .i64 a) = .returned (.int .i64 b) := by rw [h]

theorem cmp_any (x y : Int) (hx : InW x) (hy : InW y) :
    Gives Try.prog 33 #[.agg #[.int .i64 (hiOf x), .int .u64 (loOf x)], .agg #[.int .i64 (hiOf y), .int .u64 (loOf y)]] (.int .i64 (cmpOf x y)) := by
  refine Gives.mk fun w => ?_
  have bx := hi_bd hx
  have bb := hi_bd hy
  have lx := lo_bd x
  have ly := lo_bd y
  have k1 := Lib.hid (hi_lo x)
  have k2 := Lib.hid (hi_lo y)
  clear hx hy
  go_enter Try.func33, Try.ntmps33
  go_wp2
  all_goals
    go_ret
    refine ⟨ret_i64 ?_, bel_alloc (bel_alloc (Below.refl _ _) _) _⟩
    have k1 := k1.out
    have k2 := k2.out
    unfold cmpOf
    try simp
    (try split) <;> omega

/-- A fraction as it may be. -/
def Right (n d : Int) : Prop := 0 < d ∨ n = 1 ∧ d = 0
theorem fraction_yes (n d : Int) (h0 : -9223372036854775808 ≤ d) (h : Right n d) :
    Gives Try.prog 32 #[.agg #[.int .i64 n, .int .i64 d]] (.bool true) := by
  refine Gives.mk fun w => ?_
  rcases h with h | ⟨rfl, rfl⟩ <;>
  · go_enter Try.func32, Try.ntmps32
    go_wp2
    go_ret
    exact ⟨rfl, bel_alloc (Below.refl _ _) _⟩
theorem fraction_no (n d : Int) (h0 : -9223372036854775808 ≤ d) (h : ¬ Right n d) :
    Gives Try.prog 32 #[.agg #[.int .i64 n, .int .i64 d]] (.bool false) := by
  refine Gives.mk fun w => ?_
  have e : ∀ w : World, (binOp .eql 28 (.agg #[.int .i64 n, .int .i64 d]) (.agg #[.int .i64 1, .int .i64 0])).run Try.prog w = .ok (.bool false) w := by
    intro w
    by_cases e1 : n = 1
    · by_cases e2 : d = 0
      · exfalso; exact h (.inr ⟨e1, e2⟩)
      · clear h; go_simp
    · clear h; go_simp
  have hd : ¬ 0 < d := fun hd => h (.inl hd)
  have hd' : decide (0 < d) = false := by simpa using hd
  clear h
  go_enter Try.func32, Try.ntmps32
  go_wp2
  go_ret
  exact ⟨rfl, bel_alloc (Below.refl _ _) _⟩
end Go.Proofs.Ytngkimcnolmmoaa

/- The contract of wide's call Order. -/
namespace Go.Proofs.Ytngkimcnolmmoaa
open Go.RowKit
set_option linter.unusedVariables false
set_option linter.unusedSimpArgs false

theorem order_yes (pn pd qn qd : Int) (a0 : -9223372036854775808 ≤ pn) (a1 : pn ≤ 9223372036854775807) (b0 : -9223372036854775808 ≤ pd) (b1 : pd ≤ 9223372036854775807)
    (c0 : -9223372036854775808 ≤ qn) (c1 : qn ≤ 9223372036854775807) (d0 : -9223372036854775808 ≤ qd) (d1 : qd ≤ 9223372036854775807) (hp : Right pn pd) (hq : Right qn qd) :
    Gives Try.prog 16 #[.agg #[.int .i64 pn, .int .i64 pd], .agg #[.int .i64 qn, .int .i64 qd]] (.tuple #[.int .i64 (cmpOf (pn * qd) (qn * pd)), .bool true]) := by
  refine Gives.mk fun w => ?_
  have f1 := fraction_yes pn pd b0 hp
  have f2 := fraction_yes qn qd d0 hq
  have m1 := mul_any pn qd a0 a1 d0 d1
  have m2 := mul_any qn pd c0 c1 b0 b1
  have k := cmp_any (pn * qd) (qn * pd) (inW_mul _ _ a0 a1 d0 d1) (inW_mul _ _ c0 c1 b0 b1)
  clear hp hq
  go_enter Try.func16, Try.ntmps16
  go_wp2_with (go_at_call 32; first | ((with_reducible refine (f1.at_ _).mono ?_); rintro e w' ⟨rfl, x, rfl⟩) | ((with_reducible refine (f2.at_ _).mono ?_); rintro e w' ⟨rfl, x, rfl⟩))
  refine wp_region_grow (by kernel_rfl) (by kernel_rfl) ?_
  repeat (go_big_quiet_step ((first | (first | with_reducible exact m1.quiet _ | with_reducible exact m1.quiet2 _ _) | (first | with_reducible exact m2.quiet _ | with_reducible exact m2.quiet2 _ _) | (first | with_reducible exact k.quiet _ | with_reducible exact k.quiet2 _ _))))
  refine wpQuiet_nil ?_
  rintro _ ⟨x, rfl⟩
  go_wp2
  go_ret2
  exact ⟨rfl, by repeat (first | exact Below.refl _ _ | refine bel_grow ?_ _ | refine bel_alloc ?_ _)⟩

theorem order_no (pn pd qn qd : Int) (b0 : -9223372036854775808 ≤ pd) (d0 : -9223372036854775808 ≤ qd) (h : ¬ (Right pn pd ∧ Right qn qd)) :
    Gives Try.prog 16 #[.agg #[.int .i64 pn, .int .i64 pd], .agg #[.int .i64 qn, .int .i64 qd]] (.tuple #[.int .i64 0, .bool false]) := by
  refine Gives.mk fun w => ?_
  by_cases hp : Right pn pd
  · have f1 := fraction_yes pn pd b0 hp
    have f2 := fraction_no qn qd d0 (fun hq => h ⟨hp, hq⟩)
    clear hp h
    go_enter Try.func16, Try.ntmps16
    go_wp2_with (go_at_call 32; first | ((with_reducible refine (f1.at_ _).mono ?_); rintro e w' ⟨rfl, x, rfl⟩) | ((with_reducible refine (f2.at_ _).mono ?_); rintro e w' ⟨rfl, x, rfl⟩))
    go_ret2
    exact ⟨rfl, by repeat (first | exact Below.refl _ _ | refine bel_grow ?_ _ | refine bel_alloc ?_ _)⟩
  · have f1 := fraction_no pn pd b0 hp
    clear hp h
    go_enter Try.func16, Try.ntmps16
    go_wp2_with (go_at_call 32; ((with_reducible refine (f1.at_ _).mono ?_); rintro e w' ⟨rfl, x, rfl⟩))
    go_ret2
    exact ⟨rfl, by repeat (first | exact Below.refl _ _ | refine bel_grow ?_ _ | refine bel_alloc ?_ _)⟩
end Go.Proofs.Ytngkimcnolmmoaa
