/- Contracts of wide's calls: Of, Mul. -/
import Derived.Test.YtgfgaaecpdbgeaaProg
import Derived.Test.YtgfgaaecpdbgeaaShelf
import Derived.Test.YtgfgaaecpdbgeaaMMath
import Derived.Test.YtgfgaaecpdbgeaaBase
import Derived.WalkKit
import Derived.Below
import Derived.Outline
import Derived.Lib.Hide
import Derived.WalkLawsBesides
import Derived.Laws.Externs
import Derived.Shelf.Spec.BitsCarry
namespace Go.Proofs.Ytgfgaaecpdbgeaa
open Go.RowKit
set_option linter.unusedVariables false
set_option linter.unusedSimpArgs false

theorem of_any (n : Int) (h0 : -9223372036854775808 ≤ n) (h1 : n ≤ 9223372036854775807) :
    Gives Try.prog 38 #[.int .i64 n] (.agg #[.int .i64 (hiOf n), .int .u64 (loOf n)]) := by
  refine Gives.mk fun w => ?_
  have e1 : n / 9223372036854775808 = hiOf n := by unfold hiOf; omega
  have e2 : IntKind.u64.wrap n = loOf n := by rw [IntKind.wrap_u64]; rfl
  go_enter Try.func38, Try.ntmps38
  go_wp2
  refine bodyPost_ret (v := .agg #[.int .i64 (hiOf n), .int .u64 (loOf n)]) (by simp [results, Try.results38, go_sem]) rfl ⟨rfl, bel_alloc (Below.refl _ _) _⟩

theorem mul64_any (x y : Int) (w : World) (h0 : 0 ≤ x) (h1 : x ≤ 18446744073709551615) (h2 : 0 ≤ y) (h3 : y ≤ 18446744073709551615) :
    Calls Try.prog 51 #[.int .u64 x, .int .u64 y] w fun e w' => e = .returned (.tuple #[.int .u64 (hiOf (x * y)), .int .u64 (loOf (x * y))]) ∧ w = w' := by
  obtain ⟨n, rfl⟩ := Int.eq_ofNat_of_zero_le h0
  obtain ⟨m, rfl⟩ := Int.eq_ofNat_of_zero_le h2
  refine (Try.bits_Mul64 n m (by omega) (by omega) w).mono ?_
  rintro e w' ⟨rfl, rfl⟩
  refine ⟨?_, rfl⟩
  rw [show (n : Int) * m = ((n * m : Nat) : Int) from by simp]
  unfold hiOf loOf
  simp

theorem mul_any (a b : Int) (h0 : -9223372036854775808 ≤ a) (h1 : a ≤ 9223372036854775807) (h2 : -9223372036854775808 ≤ b) (h3 : b ≤ 9223372036854775807) :
    Gives Try.prog 20 #[.int .i64 a, .int .i64 b] (.agg #[.int .i64 (hiOf (a * b)), .int .u64 (loOf (a * b))]) := by
  refine Gives.mk fun w => ?_
  have ea : IntKind.u64.wrap a = loOf a := by rw [IntKind.wrap_u64]; rfl
  have eb : IntKind.u64.wrap b = loOf b := by rw [IntKind.wrap_u64]; rfl
  have la := lo_bd a
  have lb := lo_bd b
  have aa := and_lost a b h0 h1 h2 h3
  have ab := and_lost b a h2 h3 h0 h1
  have fin := Lib.hid (mul_hi a b h0 h1 h2 h3)
  have fil := Lib.hid (mul_lo a b)
  go_enter Try.func20, Try.ntmps20
  go_wp2_with (go_at_call 51; refine (mul64_any _ _ _ la.1 la.2 lb.1 lb.2).mono ?_; rintro e w' ⟨rfl, rfl⟩)
  rw [fin.out, fil.out]
  refine bodyPost_ret (v := .agg #[.int .i64 (hiOf (a * b)), .int .u64 (loOf (a * b))]) (by simp [results, Try.results20, go_sem]) rfl ⟨rfl, bel_alloc (Below.refl _ _) _⟩
end Go.Proofs.Ytgfgaaecpdbgeaa

/- Contracts of wide's calls: Add, Neg, Cmp, Int. -/
namespace Go.Proofs.Ytgfgaaecpdbgeaa
open Go.RowKit
set_option linter.unusedVariables false
set_option linter.unusedSimpArgs false

theorem run_add64c (x y c : Int) (w : World) (h0 : 0 ≤ x) (h2 : 0 ≤ y) (h4 : 0 ≤ c) (h5 : c ≤ 1) :
    (callFunc 75 #[.int .u64 x, .int .u64 y, .int .u64 c]).run Try.prog w = .ok (.value (.tuple #[.int .u64 (loOf (x + y + c)), .int .u64 (hiOf (x + y + c))])) w := by
  obtain ⟨x, rfl⟩ := Int.eq_ofNat_of_zero_le h0
  obtain ⟨y, rfl⟩ := Int.eq_ofNat_of_zero_le h2
  obtain ⟨c, rfl⟩ := Int.eq_ofNat_of_zero_le h4
  rw [run_callFunc_extern Try.func75 (by kernel_rfl) (by kernel_rfl) (by kernel_rfl) (e := add64Entry) (by kernel_rfl)]
  have e1 : loOf ((x : Int) + y + c) = (((x + y + c) % 18446744073709551616 : Nat) : Int) := by unfold loOf; omega
  have e2 : hiOf ((x : Int) + y + c) = (((x + y + c) / 18446744073709551616 : Nat) : Int) := by unfold hiOf; omega
  rw [e1, e2]
  have : c = 0 ∨ c = 1 := by omega
  rcases this with rfl | rfl <;> rfl

theorem negative_yes (n : Int) (w : World) (h0 : -9223372036854775808 ≤ n) (h1 : n < 0) :
    Calls Try.prog 76 #[.int .i64 n] w fun e w' => e = .returned (.bool true) ∧ w = w' := by
  have e1 : IntKind.u64.wrap n / 9223372036854775808 = 1 := by rw [IntKind.wrap_u64]; omega
  go_enter Try.func76, Try.ntmps76
  go_wp2
  go_ret
  exact ⟨rfl, rfl⟩
theorem negative_no (n : Int) (w : World) (h0 : 0 ≤ n) (h1 : n ≤ 9223372036854775807) :
    Calls Try.prog 76 #[.int .i64 n] w fun e w' => e = .returned (.bool false) ∧ w = w' := by
  have e1 : (n / 9223372036854775808 != 0) = false := by simp; omega
  go_enter Try.func76, Try.ntmps76
  go_wp2
  go_ret
  exact ⟨rfl, rfl⟩

theorem add_yes (x y : Int) (hx : InW x) (hy : InW y) (h : InW (x + y)) :
    Gives Try.prog 70 #[.agg #[.int .i64 (hiOf x), .int .u64 (loOf x)], .agg #[.int .i64 (hiOf y), .int .u64 (loOf y)]]
      (.tuple #[.agg #[.int .i64 (hiOf (x + y)), .int .u64 (loOf (x + y))], .bool true]) := by
  refine Gives.mk fun w => ?_
  have bx := hi_bd hx
  have bb := hi_bd hy
  have lx := lo_bd x
  have ly := lo_bd y
  have lhx := lo_bd (hiOf x)
  have lhy := lo_bd (hiOf y)
  have hc : 0 ≤ hiOf (loOf x + loOf y) ∧ hiOf (loOf x + loOf y) ≤ 1 := by unfold hiOf loOf; omega
  have a1 := fun w => run_add64c (loOf x) (loOf y) 0 w lx.1 ly.1 (by omega) (by omega)
  simp only [Int.add_zero, sumLo] at a1
  have a2 := fun w => run_add64c (loOf (hiOf x)) (loOf (hiOf y)) (hiOf (loOf x + loOf y)) w lhx.1 lhy.1 hc.1 hc.2
  have u1 : IntKind.u64.wrap (hiOf x) = loOf (hiOf x) := by rw [IntKind.wrap_u64]; rfl
  have u2 : IntKind.u64.wrap (hiOf y) = loOf (hiOf y) := by rw [IntKind.wrap_u64]; rfl
  have u3 : wrap64 (loOf (loOf (hiOf x) + loOf (hiOf y) + hiOf (loOf x + loOf y))) = sumHi x y := rfl
  have t1 := sumTest_no x y hx hy h
  have t2 := (and_bd (bits .xor .i64 (hiOf x) (sumHi x y)) (bits .xor .i64 (hiOf y) (sumHi x y))).2
  have fin := Lib.hid (sumHi_in x y h)
  clear hx hy h
  go_enter Try.func70, Try.ntmps70
  go_wp2_with (go_at_call 76; refine (negative_no _ _ (by assumption) (by assumption)).mono ?_; rintro e w' ⟨rfl, rfl⟩)
  rw [fin.out]
  refine bodyPost_ret (v := .tuple #[.agg #[.int .i64 (hiOf (x + y)), .int .u64 (loOf (x + y))], .bool true]) (by simp [results, Try.results70, go_sem]) rfl ⟨rfl, ?_⟩
  exact bel_alloc (bel_alloc (bel_alloc (Below.refl _ _) _) _) _

theorem add_no (x y : Int) (hx : InW x) (hy : InW y) (h : ¬ InW (x + y)) :
    Gives Try.prog 70 #[.agg #[.int .i64 (hiOf x), .int .u64 (loOf x)], .agg #[.int .i64 (hiOf y), .int .u64 (loOf y)]]
      (.tuple #[.agg #[.int .i64 0, .int .u64 0], .bool false]) := by
  refine Gives.mk fun w => ?_
  have bx := hi_bd hx
  have bb := hi_bd hy
  have lx := lo_bd x
  have ly := lo_bd y
  have lhx := lo_bd (hiOf x)
  have lhy := lo_bd (hiOf y)
  have hc : 0 ≤ hiOf (loOf x + loOf y) ∧ hiOf (loOf x + loOf y) ≤ 1 := by unfold hiOf loOf; omega
  have a1 := fun w => run_add64c (loOf x) (loOf y) 0 w lx.1 ly.1 (by omega) (by omega)
  simp only [Int.add_zero, sumLo] at a1
  have a2 := fun w => run_add64c (loOf (hiOf x)) (loOf (hiOf y)) (hiOf (loOf x + loOf y)) w lhx.1 lhy.1 hc.1 hc.2
  have u1 : IntKind.u64.wrap (hiOf x) = loOf (hiOf x) := by rw [IntKind.wrap_u64]; rfl
  have u2 : IntKind.u64.wrap (hiOf y) = loOf (hiOf y) := by rw [IntKind.wrap_u64]; rfl
  have u3 : wrap64 (loOf (loOf (hiOf x) + loOf (hiOf y) + hiOf (loOf x + loOf y))) = sumHi x y := rfl
  have t1 := sumTest_yes x y hx hy h
  have t2 := (and_bd (bits .xor .i64 (hiOf x) (sumHi x y)) (bits .xor .i64 (hiOf y) (sumHi x y))).1
  clear hx hy h
  go_enter Try.func70, Try.ntmps70
  go_wp2_with (go_at_call 76; refine (negative_yes _ _ (by assumption) (by assumption)).mono ?_; rintro e w' ⟨rfl, rfl⟩)
  refine bodyPost_ret (v := .tuple #[.agg #[.int .i64 0, .int .u64 0], .bool false]) (by simp [results, Try.results70, go_sem]) rfl ⟨rfl, ?_⟩
  exact bel_alloc (bel_alloc (bel_alloc (Below.refl _ _) _) _) _

end Go.Proofs.Ytgfgaaecpdbgeaa

/- Contracts of wide's calls: Neg of the least number, Cmp, Int, Order. -/
namespace Go.Proofs.Ytgfgaaecpdbgeaa
open Go.RowKit
set_option linter.unusedVariables false
set_option linter.unusedSimpArgs false

/-- -1, 0 or 1. -/
def cmpOf (x y : Int) : Int := if x < y then -1 else if x = y then 0 else 1
theorem ret_i64 {a b : Int} (h : a = b) : Ending.returned (.int .i64 a) = .returned (.int .i64 b) := by rw [h]

theorem cmp_any (x y : Int) (hx : InW x) (hy : InW y) :
    Gives Try.prog 46 #[.agg #[.int .i64 (hiOf x), .int .u64 (loOf x)], .agg #[.int .i64 (hiOf y), .int .u64 (loOf y)]] (.int .i64 (cmpOf x y)) := by
  refine Gives.mk fun w => ?_
  have bx := hi_bd hx
  have bb := hi_bd hy
  have lx := lo_bd x
  have ly := lo_bd y
  have k1 := Lib.hid (hi_lo x)
  have k2 := Lib.hid (hi_lo y)
  clear hx hy
  go_enter Try.func46, Try.ntmps46
  go_wp2
  all_goals
    go_ret
    refine ⟨ret_i64 ?_, bel_alloc (bel_alloc (Below.refl _ _) _) _⟩
    have k1 := k1.out
    have k2 := k2.out
    unfold cmpOf
    try simp
    (try split) <;> omega

theorem int_yes (n : Int) (h0 : -9223372036854775808 ≤ n) (h1 : n ≤ 9223372036854775807) :
    Gives Try.prog 71 #[.agg #[.int .i64 (hiOf n), .int .u64 (loOf n)]] (.tuple #[.int .i64 n, .bool true]) := by
  refine Gives.mk fun w => ?_
  have u : wrap64 (loOf n) = n := by unfold wrap64 loOf; omega
  have l := lo_bd n
  have e : ∀ w : World, (binOp .neq 24 (.agg #[.int .i64 (hiOf n), .int .u64 (loOf n)]) (.agg #[.int .i64 (hiOf n), .int .u64 (loOf n)])).run Try.prog w = .ok (.bool false) w := by
    intro w; go_simp
  go_enter Try.func71, Try.ntmps71
  go_wp2_with fail
  rw [u]
  refine wp_region_grow (by kernel_rfl) (by kernel_rfl) ?_
  repeat (go_big_quiet_step ((go_at_call 38; exact (of_any n h0 h1).quiet _)))
  refine wpQuiet_nil ?_
  rintro _ ⟨x, rfl⟩
  go_wp2
  go_ret2
  exact ⟨rfl, bel_grow (bel_alloc (Below.refl _ _) _) _⟩
theorem int_no (n : Int) (h : InW n) (h0 : n < -9223372036854775808 ∨ 9223372036854775807 < n) :
    Gives Try.prog 71 #[.agg #[.int .i64 (hiOf n), .int .u64 (loOf n)]] (.tuple #[.int .i64 0, .bool false]) := by
  refine Gives.mk fun w => ?_
  obtain ⟨m, hm⟩ : ∃ m, wrap64 (loOf n) = m := ⟨_, rfl⟩
  have b0 : -9223372036854775808 ≤ m ∧ m ≤ 9223372036854775807 := by rw [← hm]; unfold wrap64; omega
  have l := lo_bd n
  have e : ∀ w : World, (binOp .neq 24 (.agg #[.int .i64 (hiOf m), .int .u64 (loOf m)]) (.agg #[.int .i64 (hiOf n), .int .u64 (loOf n)])).run Try.prog w = .ok (.bool true) w := by
    intro w
    have k := halves_eq m n
    by_cases e1 : hiOf m = hiOf n
    · by_cases e2 : loOf m = loOf n
      · exfalso; have := k.1 ⟨e1, e2⟩; omega
      · clear hm k; go_simp
    · clear hm k; go_simp
  clear h h0
  go_enter Try.func71, Try.ntmps71
  go_wp2_with fail
  rw [hm]
  refine wp_region_grow (by kernel_rfl) (by kernel_rfl) ?_
  repeat (go_big_quiet_step ((go_at_call 38; exact (of_any m b0.1 b0.2).quiet _)))
  refine wpQuiet_nil ?_
  rintro _ ⟨x, rfl⟩
  go_wp2
  go_ret2
  exact ⟨rfl, bel_grow (bel_alloc (Below.refl _ _) _) _⟩

/-- A fraction as it may be. -/
def Right (n d : Int) : Prop := 0 < d ∨ n = 1 ∧ d = 0
theorem fraction_yes (n d : Int) (h0 : -9223372036854775808 ≤ d) (h : Right n d) :
    Gives Try.prog 49 #[.agg #[.int .i64 n, .int .i64 d]] (.bool true) := by
  refine Gives.mk fun w => ?_
  rcases h with h | ⟨rfl, rfl⟩ <;>
  · go_enter Try.func49, Try.ntmps49
    go_wp2
    go_ret
    exact ⟨rfl, bel_alloc (Below.refl _ _) _⟩
theorem fraction_no (n d : Int) (h0 : -9223372036854775808 ≤ d) (h : ¬ Right n d) :
    Gives Try.prog 49 #[.agg #[.int .i64 n, .int .i64 d]] (.bool false) := by
  refine Gives.mk fun w => ?_
  have e : ∀ w : World, (binOp .eql 26 (.agg #[.int .i64 n, .int .i64 d]) (.agg #[.int .i64 1, .int .i64 0])).run Try.prog w = .ok (.bool false) w := by
    intro w
    by_cases e1 : n = 1
    · by_cases e2 : d = 0
      · exfalso; exact h (.inr ⟨e1, e2⟩)
      · clear h; go_simp
    · clear h; go_simp
  have hd : ¬ 0 < d := fun hd => h (.inl hd)
  have hd' : decide (0 < d) = false := by simpa using hd
  clear h
  go_enter Try.func49, Try.ntmps49
  go_wp2
  go_ret
  exact ⟨rfl, bel_alloc (Below.refl _ _) _⟩
end Go.Proofs.Ytgfgaaecpdbgeaa

/- The contract of wide's call Order. -/
namespace Go.Proofs.Ytgfgaaecpdbgeaa
open Go.RowKit
set_option linter.unusedVariables false
set_option linter.unusedSimpArgs false

theorem order_yes (pn pd qn qd : Int) (a0 : -9223372036854775808 ≤ pn) (a1 : pn ≤ 9223372036854775807) (b0 : -9223372036854775808 ≤ pd) (b1 : pd ≤ 9223372036854775807)
    (c0 : -9223372036854775808 ≤ qn) (c1 : qn ≤ 9223372036854775807) (d0 : -9223372036854775808 ≤ qd) (d1 : qd ≤ 9223372036854775807) (hp : Right pn pd) (hq : Right qn qd) :
    Gives Try.prog 18 #[.agg #[.int .i64 pn, .int .i64 pd], .agg #[.int .i64 qn, .int .i64 qd]] (.tuple #[.int .i64 (cmpOf (pn * qd) (qn * pd)), .bool true]) := by
  refine Gives.mk fun w => ?_
  have f1 := fraction_yes pn pd b0 hp
  have f2 := fraction_yes qn qd d0 hq
  have m1 := mul_any pn qd a0 a1 d0 d1
  have m2 := mul_any qn pd c0 c1 b0 b1
  have k := cmp_any (pn * qd) (qn * pd) (inW_mul _ _ a0 a1 d0 d1) (inW_mul _ _ c0 c1 b0 b1)
  clear hp hq
  go_enter Try.func18, Try.ntmps18
  go_wp2_with (go_at_call 49; first | ((with_reducible refine (f1.at_ _).mono ?_); rintro e w' ⟨rfl, x, rfl⟩) | ((with_reducible refine (f2.at_ _).mono ?_); rintro e w' ⟨rfl, x, rfl⟩))
  refine wp_region_grow (by kernel_rfl) (by kernel_rfl) ?_
  repeat (go_big_quiet_step ((first | (first | with_reducible exact m1.quiet _ | with_reducible exact m1.quiet2 _ _) | (first | with_reducible exact m2.quiet _ | with_reducible exact m2.quiet2 _ _) | (first | with_reducible exact k.quiet _ | with_reducible exact k.quiet2 _ _))))
  refine wpQuiet_nil ?_
  rintro _ ⟨x, rfl⟩
  go_wp2
  go_ret2
  exact ⟨rfl, by repeat (first | exact Below.refl _ _ | refine bel_grow ?_ _ | refine bel_alloc ?_ _)⟩

theorem order_no (pn pd qn qd : Int) (b0 : -9223372036854775808 ≤ pd) (d0 : -9223372036854775808 ≤ qd) (h : ¬ (Right pn pd ∧ Right qn qd)) :
    Gives Try.prog 18 #[.agg #[.int .i64 pn, .int .i64 pd], .agg #[.int .i64 qn, .int .i64 qd]] (.tuple #[.int .i64 0, .bool false]) := by
  refine Gives.mk fun w => ?_
  by_cases hp : Right pn pd
  · have f1 := fraction_yes pn pd b0 hp
    have f2 := fraction_no qn qd d0 (fun hq => h ⟨hp, hq⟩)
    clear hp h
    go_enter Try.func18, Try.ntmps18
    go_wp2_with (go_at_call 49; first | ((with_reducible refine (f1.at_ _).mono ?_); rintro e w' ⟨rfl, x, rfl⟩) | ((with_reducible refine (f2.at_ _).mono ?_); rintro e w' ⟨rfl, x, rfl⟩))
    go_ret2
    exact ⟨rfl, by repeat (first | exact Below.refl _ _ | refine bel_grow ?_ _ | refine bel_alloc ?_ _)⟩
  · have f1 := fraction_no pn pd b0 hp
    clear hp h
    go_enter Try.func18, Try.ntmps18
    go_wp2_with (go_at_call 49; ((with_reducible refine (f1.at_ _).mono ?_); rintro e w' ⟨rfl, x, rfl⟩))
    go_ret2
    exact ⟨rfl, by repeat (first | exact Below.refl _ _ | refine bel_grow ?_ _ | refine bel_alloc ?_ _)⟩
end Go.Proofs.Ytgfgaaecpdbgeaa
