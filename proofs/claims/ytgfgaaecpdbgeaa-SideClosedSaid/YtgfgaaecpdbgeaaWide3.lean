/- Contracts of wide's calls: Neg of the least number, Cmp, Int, Order. -/
import Derived.Test.YtgfgaaecpdbgeaaWide2
namespace Go.Proofs.Ytgfgaaecpdbgeaa
open Go.RowKit
set_option linter.unusedVariables false
set_option linter.unusedSimpArgs false

/-- -1, 0 or 1. -/
def cmpOf (x y : Int) : Int := if x < y then -1 else if x = y then 0 else 1
theorem ret_i64 {a b : Int} (h : a = b) : Ending.returned (.int .i64 a) = .returned (.int .i64 b) := by rw [h]

theorem cmp_any (x y : Int) (hx : InW x) (hy : InW y) :
    Gives Try.prog 46 #[.agg #[.int .i64 (hiOf x), .int .u64 (loOf x)], .agg #[.int .i64 (hiOf y), .int .u64 (loOf y)]] (.int .i64 (cmpOf x y)) := by
  refine Gives.mk fun w => ?_
  have bx := hi_bd hx
  have bb := hi_bd hy
  have lx := lo_bd x
  have ly := lo_bd y
  have k1 := Lib.hid (hi_lo x)
  have k2 := Lib.hid (hi_lo y)
  clear hx hy
  go_enter Try.func46, Try.ntmps46
  go_wp2
  all_goals
    go_ret
    refine ⟨ret_i64 ?_, bel_alloc (bel_alloc (Below.refl _ _) _) _⟩
    have k1 := k1.out
    have k2 := k2.out
    unfold cmpOf
    try simp
    (try split) <;> omega

theorem int_yes (n : Int) (h0 : -9223372036854775808 ≤ n) (h1 : n ≤ 9223372036854775807) :
    Gives Try.prog 71 #[.agg #[.int .i64 (hiOf n), .int .u64 (loOf n)]] (.tuple #[.int .i64 n, .bool true]) := by
  refine Gives.mk fun w => ?_
  have u : wrap64 (loOf n) = n := by unfold wrap64 loOf; omega
  have l := lo_bd n
  have e : ∀ w : World, (binOp .neq 24 (.agg #[.int .i64 (hiOf n), .int .u64 (loOf n)]) (.agg #[.int .i64 (hiOf n), .int .u64 (loOf n)])).run Try.prog w = .ok (.bool false) w := by
    intro w; go_simp
  go_enter Try.func71, Try.ntmps71
  go_wp2_with fail
  rw [u]
  refine wp_region_grow (by kernel_rfl) (by kernel_rfl) ?_
  repeat (go_big_quiet_step ((go_at_call 38; exact (of_any n h0 h1).quiet _)))
  refine wpQuiet_nil ?_
  rintro _ ⟨x, rfl⟩
  go_wp2
  go_ret2
  exact ⟨rfl, bel_grow (bel_alloc (Below.refl _ _) _) _⟩
theorem int_no (n : Int) (h : InW n) (h0 : n < -9223372036854775808 ∨ 9223372036854775807 < n) :
    Gives Try.prog 71 #[.agg #[.int .i64 (hiOf n), .int .u64 (loOf n)]] (.tuple #[.int .i64 0, .bool false]) := by
  refine Gives.mk fun w => ?_
  obtain ⟨m, hm⟩ : ∃ m, wrap64 (loOf n) = m := ⟨_, rfl⟩
  have b0 : -9223372036854775808 ≤ m ∧ m ≤ 9223372036854775807 := by rw [← hm]; unfold wrap64; omega
  have l := lo_bd n
  have e : ∀ w : World, (binOp .neq 24 (.agg #[.int .i64 (hiOf m), .int .u64 (loOf m)]) (.agg #[.int .i64 (hiOf n), .int .u64 (loOf n)])).run Try.prog w = .ok (.bool true) w := by
    intro w
    have k := halves_eq m n
    by_cases e1 : hiOf m = hiOf n
    · by_cases e2 : loOf m = loOf n
      · exfalso; have := k.1 ⟨e1, e2⟩; omega
      · clear hm k; go_simp
    · clear hm k; go_simp
  clear h h0
  go_enter Try.func71, Try.ntmps71
  go_wp2_with fail
  rw [hm]
  refine wp_region_grow (by kernel_rfl) (by kernel_rfl) ?_
  repeat (go_big_quiet_step ((go_at_call 38; exact (of_any m b0.1 b0.2).quiet _)))
  refine wpQuiet_nil ?_
  rintro _ ⟨x, rfl⟩
  go_wp2
  go_ret2
  exact ⟨rfl, bel_grow (bel_alloc (Below.refl _ _) _) _⟩

/-- A fraction as it may be. -/
def Right (n d : Int) : Prop := 0 < d ∨ n = 1 ∧ d = 0
theorem fraction_yes (n d : Int) (h0 : -9223372036854775808 ≤ d) (h : Right n d) :
    Gives Try.prog 49 #[.agg #[.int .i64 n, .int .i64 d]] (.bool true) := by
  refine Gives.mk fun w => ?_
  rcases h with h | ⟨rfl, rfl⟩ <;>
  · go_enter Try.func49, Try.ntmps49
    go_wp2
    go_ret
    exact ⟨rfl, bel_alloc (Below.refl _ _) _⟩
theorem fraction_no (n d : Int) (h0 : -9223372036854775808 ≤ d) (h : ¬ Right n d) :
    Gives Try.prog 49 #[.agg #[.int .i64 n, .int .i64 d]] (.bool false) := by
  refine Gives.mk fun w => ?_
  have e : ∀ w : World, (binOp .eql 26 (.agg #[.int .i64 n, .int .i64 d]) (.agg #[.int .i64 1, .int .i64 0])).run Try.prog w = .ok (.bool false) w := by
    intro w
    by_cases e1 : n = 1
    · by_cases e2 : d = 0
      · exfalso; exact h (.inr ⟨e1, e2⟩)
      · clear h; go_simp
    · clear h; go_simp
  have hd : ¬ 0 < d := fun hd => h (.inl hd)
  have hd' : decide (0 < d) = false := by simpa using hd
  clear h
  go_enter Try.func49, Try.ntmps49
  go_wp2
  go_ret
  exact ⟨rfl, bel_alloc (Below.refl _ _) _⟩
end Go.Proofs.Ytgfgaaecpdbgeaa
