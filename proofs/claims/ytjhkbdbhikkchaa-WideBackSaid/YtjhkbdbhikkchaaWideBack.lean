/- WideBack holds for every input: the row, out of the walk. No condition. -/
import Derived.Test.YtjhkbdbhikkchaaRows
import Derived.Test.YtjhkbdbhikkchaaAlive
import Derived.Test.YtjhkbdbhikkchaaPost
import Derived.Test.YtjhkbdbhikkchaaOpen
namespace Go.Proofs.Ytjhkbdbhikkchaa.wideBack
open Go.ChangeShapes Go.WideShapes Go.ChangeAt Go.RowKit
set_option linter.unusedVariables false
set_option linter.unusedSimpArgs false
set_option maxHeartbeats 1000000 in
theorem core_yes_yes_low (x y n m : Int) (hx : InW x) (hy : InW y) (n0 : -9223372036854775808 ≤ n) (n1 : n ≤ 9223372036854775807) (m0 : -9223372036854775808 ≤ m) (m1 : m ≤ 9223372036854775807) (h1 : InW (x + y)) (h2 : y ≠ -170141183460469231731687303715884105728) (h3 : m < 1) :
    Gives Try.prog 5 #[.agg #[.int .i64 (hiOf x), .int .u64 (loOf x)], .agg #[.int .i64 (hiOf y), .int .u64 (loOf y)], .int .i64 n, .int .i64 m] (.bool true) := by
  refine Gives.mk fun w => ?_
  have al := alive_any
  have s := add_yes x y hx hy h1
  have g := neg_yes y hy h2
  have bk := add_yes (x + y) (-y) h1 (by unfold InW at *; omega) (by rw [show x + y + -y = x from by omega]; exact hx)
  rw [show x + y + -y = x from by omega] at bk
  clear hx hy h1 h2
  go_enter Try.func5, Try.ntmps5
  go_wp2_with (first | (go_at_call 11; first | ((with_reducible refine (al.at_ _).mono ?_); rintro e w' ⟨rfl, xg, rfl⟩)) | (go_at_call 14; first | ((with_reducible refine (s.at_ _).mono ?_); rintro e w' ⟨rfl, xg, rfl⟩) | ((with_reducible refine (bk.at_ _).mono ?_); rintro e w' ⟨rfl, xg, rfl⟩)) | (go_at_call 17; first | ((with_reducible refine (g.at_ _).mono ?_); rintro e w' ⟨rfl, xg, rfl⟩)))
  go_ret
  exact ⟨rfl, (by repeat (first | exact Below.refl _ _ | refine bel_grow ?_ _ | refine bel_alloc ?_ _ | refine bel_set ?_ (by simp) _))⟩
set_option maxHeartbeats 1000000 in
theorem core_yes_yes_high (x y n m : Int) (hx : InW x) (hy : InW y) (n0 : -9223372036854775808 ≤ n) (n1 : n ≤ 9223372036854775807) (m0 : -9223372036854775808 ≤ m) (m1 : m ≤ 9223372036854775807) (h1 : InW (x + y)) (h2 : y ≠ -170141183460469231731687303715884105728) (h3 : 1 ≤ m) :
    Gives Try.prog 5 #[.agg #[.int .i64 (hiOf x), .int .u64 (loOf x)], .agg #[.int .i64 (hiOf y), .int .u64 (loOf y)], .int .i64 n, .int .i64 m] (.bool true) := by
  refine Gives.mk fun w => ?_
  have al := alive_any
  have s := add_yes x y hx hy h1
  have g := neg_yes y hy h2
  have bk := add_yes (x + y) (-y) h1 (by unfold InW at *; omega) (by rw [show x + y + -y = x from by omega]; exact hx)
  rw [show x + y + -y = x from by omega] at bk
  have p := mul_any n m n0 n1 m0 m1
  obtain ⟨d, i, i0⟩ : ∃ _ : Gives Try.prog 24 #[.agg #[.int .i64 (hiOf (n * m)), .int .u64 (loOf (n * m))], .int .i64 m] (.tuple #[.agg #[.int .i64 (hiOf n), .int .u64 (loOf n)], .int .i64 0, .bool true]), ∃ _ : Gives Try.prog 19 #[.agg #[.int .i64 (hiOf n), .int .u64 (loOf n)]] (.tuple #[.int .i64 n, .bool true]), True := by
    have e1 : n * m / m = n := Int.mul_ediv_cancel n (by omega)
    have e2 : n * m % m = 0 := Int.mul_emod_left n m
    refine ⟨?_, int_yes n n0 n1, trivial⟩
    rcases Int.lt_or_le (n * m) 0 with h | h
    · have := div_neg (n * m) m (inW_mul n m n0 n1 m0 m1) h h3 m1; rw [e1, e2] at this; exact this
    · have := div_pos (n * m) m (inW_mul n m n0 n1 m0 m1) h h3 m1; rw [e1, e2] at this; exact this
  clear hx hy h1 h2
  go_enter Try.func5, Try.ntmps5
  go_wp2_with (first | (go_at_call 11; first | ((with_reducible refine (al.at_ _).mono ?_); rintro e w' ⟨rfl, xg, rfl⟩)) | (go_at_call 14; first | ((with_reducible refine (s.at_ _).mono ?_); rintro e w' ⟨rfl, xg, rfl⟩) | ((with_reducible refine (bk.at_ _).mono ?_); rintro e w' ⟨rfl, xg, rfl⟩)) | (go_at_call 17; first | ((with_reducible refine (g.at_ _).mono ?_); rintro e w' ⟨rfl, xg, rfl⟩)) | (go_at_call 30; first | ((with_reducible refine (p.at_ _).mono ?_); rintro e w' ⟨rfl, xg, rfl⟩)) | (go_at_call 24; first | ((with_reducible refine (d.at_ _).mono ?_); rintro e w' ⟨rfl, xg, rfl⟩)) | (go_at_call 19; first | ((with_reducible refine (i.at_ _).mono ?_); rintro e w' ⟨rfl, xg, rfl⟩)))
  go_ret
  exact ⟨rfl, (by repeat (first | exact Below.refl _ _ | refine bel_grow ?_ _ | refine bel_alloc ?_ _ | refine bel_set ?_ (by simp) _))⟩
set_option maxHeartbeats 1000000 in
theorem core_yes_no_low (x y n m : Int) (hx : InW x) (hy : InW y) (n0 : -9223372036854775808 ≤ n) (n1 : n ≤ 9223372036854775807) (m0 : -9223372036854775808 ≤ m) (m1 : m ≤ 9223372036854775807) (h1 : InW (x + y)) (h2 : y = -170141183460469231731687303715884105728) (h3 : m < 1) :
    Gives Try.prog 5 #[.agg #[.int .i64 (hiOf x), .int .u64 (loOf x)], .agg #[.int .i64 (hiOf y), .int .u64 (loOf y)], .int .i64 n, .int .i64 m] (.bool true) := by
  refine Gives.mk fun w => ?_
  have al := alive_any
  have s := add_yes x y hx hy h1
  have g := neg_no
  have hh : hiOf y = -9223372036854775808 := by subst h2; decide
  have hl : loOf y = 0 := by subst h2; decide
  rw [← hh, ← hl] at g
  rw [hl, hh] at g
  rw [hl, hh] at s
  rw [hl, hh]
  clear hl hh
  clear hx hy h1 h2
  go_enter Try.func5, Try.ntmps5
  go_wp2_with (first | (go_at_call 11; first | ((with_reducible refine (al.at_ _).mono ?_); rintro e w' ⟨rfl, xg, rfl⟩)) | (go_at_call 14; first | ((with_reducible refine (s.at_ _).mono ?_); rintro e w' ⟨rfl, xg, rfl⟩)) | (go_at_call 17; first | ((with_reducible refine (g.at_ _).mono ?_); rintro e w' ⟨rfl, xg, rfl⟩)))
  go_ret
  exact ⟨rfl, (by repeat (first | exact Below.refl _ _ | refine bel_grow ?_ _ | refine bel_alloc ?_ _ | refine bel_set ?_ (by simp) _))⟩
set_option maxHeartbeats 1000000 in
theorem core_yes_no_high (x y n m : Int) (hx : InW x) (hy : InW y) (n0 : -9223372036854775808 ≤ n) (n1 : n ≤ 9223372036854775807) (m0 : -9223372036854775808 ≤ m) (m1 : m ≤ 9223372036854775807) (h1 : InW (x + y)) (h2 : y = -170141183460469231731687303715884105728) (h3 : 1 ≤ m) :
    Gives Try.prog 5 #[.agg #[.int .i64 (hiOf x), .int .u64 (loOf x)], .agg #[.int .i64 (hiOf y), .int .u64 (loOf y)], .int .i64 n, .int .i64 m] (.bool true) := by
  refine Gives.mk fun w => ?_
  have al := alive_any
  have s := add_yes x y hx hy h1
  have g := neg_no
  have hh : hiOf y = -9223372036854775808 := by subst h2; decide
  have hl : loOf y = 0 := by subst h2; decide
  rw [← hh, ← hl] at g
  rw [hl, hh] at g
  rw [hl, hh] at s
  rw [hl, hh]
  clear hl hh
  have p := mul_any n m n0 n1 m0 m1
  obtain ⟨d, i, i0⟩ : ∃ _ : Gives Try.prog 24 #[.agg #[.int .i64 (hiOf (n * m)), .int .u64 (loOf (n * m))], .int .i64 m] (.tuple #[.agg #[.int .i64 (hiOf n), .int .u64 (loOf n)], .int .i64 0, .bool true]), ∃ _ : Gives Try.prog 19 #[.agg #[.int .i64 (hiOf n), .int .u64 (loOf n)]] (.tuple #[.int .i64 n, .bool true]), True := by
    have e1 : n * m / m = n := Int.mul_ediv_cancel n (by omega)
    have e2 : n * m % m = 0 := Int.mul_emod_left n m
    refine ⟨?_, int_yes n n0 n1, trivial⟩
    rcases Int.lt_or_le (n * m) 0 with h | h
    · have := div_neg (n * m) m (inW_mul n m n0 n1 m0 m1) h h3 m1; rw [e1, e2] at this; exact this
    · have := div_pos (n * m) m (inW_mul n m n0 n1 m0 m1) h h3 m1; rw [e1, e2] at this; exact this
  clear hx hy h1 h2
  go_enter Try.func5, Try.ntmps5
  go_wp2_with (first | (go_at_call 11; first | ((with_reducible refine (al.at_ _).mono ?_); rintro e w' ⟨rfl, xg, rfl⟩)) | (go_at_call 14; first | ((with_reducible refine (s.at_ _).mono ?_); rintro e w' ⟨rfl, xg, rfl⟩)) | (go_at_call 17; first | ((with_reducible refine (g.at_ _).mono ?_); rintro e w' ⟨rfl, xg, rfl⟩)) | (go_at_call 30; first | ((with_reducible refine (p.at_ _).mono ?_); rintro e w' ⟨rfl, xg, rfl⟩)) | (go_at_call 24; first | ((with_reducible refine (d.at_ _).mono ?_); rintro e w' ⟨rfl, xg, rfl⟩)) | (go_at_call 19; first | ((with_reducible refine (i.at_ _).mono ?_); rintro e w' ⟨rfl, xg, rfl⟩)))
  go_ret
  exact ⟨rfl, (by repeat (first | exact Below.refl _ _ | refine bel_grow ?_ _ | refine bel_alloc ?_ _ | refine bel_set ?_ (by simp) _))⟩
set_option maxHeartbeats 1000000 in
theorem core_no_any_low (x y n m : Int) (hx : InW x) (hy : InW y) (n0 : -9223372036854775808 ≤ n) (n1 : n ≤ 9223372036854775807) (m0 : -9223372036854775808 ≤ m) (m1 : m ≤ 9223372036854775807) (h1 : ¬ InW (x + y)) (h3 : m < 1) :
    Gives Try.prog 5 #[.agg #[.int .i64 (hiOf x), .int .u64 (loOf x)], .agg #[.int .i64 (hiOf y), .int .u64 (loOf y)], .int .i64 n, .int .i64 m] (.bool true) := by
  refine Gives.mk fun w => ?_
  have al := alive_any
  have s := add_no x y hx hy h1
  obtain ⟨v1, v2, ok, g⟩ : ∃ v1 v2 ok, Gives Try.prog 17 #[.agg #[.int .i64 (hiOf y), .int .u64 (loOf y)]] (.tuple #[.agg #[.int .i64 v1, .int .u64 v2], .bool ok]) := by
    by_cases h2 : y = -170141183460469231731687303715884105728
    · subst h2; exact ⟨_, _, _, neg_no⟩
    · exact ⟨_, _, _, neg_yes y hy h2⟩
  clear hx hy h1
  go_enter Try.func5, Try.ntmps5
  go_wp2_with (first | (go_at_call 11; first | ((with_reducible refine (al.at_ _).mono ?_); rintro e w' ⟨rfl, xg, rfl⟩)) | (go_at_call 14; first | ((with_reducible refine (s.at_ _).mono ?_); rintro e w' ⟨rfl, xg, rfl⟩)) | (go_at_call 17; first | ((with_reducible refine (g.at_ _).mono ?_); rintro e w' ⟨rfl, xg, rfl⟩)))
  go_ret
  exact ⟨rfl, (by repeat (first | exact Below.refl _ _ | refine bel_grow ?_ _ | refine bel_alloc ?_ _ | refine bel_set ?_ (by simp) _))⟩
set_option maxHeartbeats 1000000 in
theorem core_no_any_high (x y n m : Int) (hx : InW x) (hy : InW y) (n0 : -9223372036854775808 ≤ n) (n1 : n ≤ 9223372036854775807) (m0 : -9223372036854775808 ≤ m) (m1 : m ≤ 9223372036854775807) (h1 : ¬ InW (x + y)) (h3 : 1 ≤ m) :
    Gives Try.prog 5 #[.agg #[.int .i64 (hiOf x), .int .u64 (loOf x)], .agg #[.int .i64 (hiOf y), .int .u64 (loOf y)], .int .i64 n, .int .i64 m] (.bool true) := by
  refine Gives.mk fun w => ?_
  have al := alive_any
  have s := add_no x y hx hy h1
  obtain ⟨v1, v2, ok, g⟩ : ∃ v1 v2 ok, Gives Try.prog 17 #[.agg #[.int .i64 (hiOf y), .int .u64 (loOf y)]] (.tuple #[.agg #[.int .i64 v1, .int .u64 v2], .bool ok]) := by
    by_cases h2 : y = -170141183460469231731687303715884105728
    · subst h2; exact ⟨_, _, _, neg_no⟩
    · exact ⟨_, _, _, neg_yes y hy h2⟩
  have p := mul_any n m n0 n1 m0 m1
  obtain ⟨d, i, i0⟩ : ∃ _ : Gives Try.prog 24 #[.agg #[.int .i64 (hiOf (n * m)), .int .u64 (loOf (n * m))], .int .i64 m] (.tuple #[.agg #[.int .i64 (hiOf n), .int .u64 (loOf n)], .int .i64 0, .bool true]), ∃ _ : Gives Try.prog 19 #[.agg #[.int .i64 (hiOf n), .int .u64 (loOf n)]] (.tuple #[.int .i64 n, .bool true]), True := by
    have e1 : n * m / m = n := Int.mul_ediv_cancel n (by omega)
    have e2 : n * m % m = 0 := Int.mul_emod_left n m
    refine ⟨?_, int_yes n n0 n1, trivial⟩
    rcases Int.lt_or_le (n * m) 0 with h | h
    · have := div_neg (n * m) m (inW_mul n m n0 n1 m0 m1) h h3 m1; rw [e1, e2] at this; exact this
    · have := div_pos (n * m) m (inW_mul n m n0 n1 m0 m1) h h3 m1; rw [e1, e2] at this; exact this
  clear hx hy h1
  go_enter Try.func5, Try.ntmps5
  go_wp2_with (first | (go_at_call 11; first | ((with_reducible refine (al.at_ _).mono ?_); rintro e w' ⟨rfl, xg, rfl⟩)) | (go_at_call 14; first | ((with_reducible refine (s.at_ _).mono ?_); rintro e w' ⟨rfl, xg, rfl⟩)) | (go_at_call 17; first | ((with_reducible refine (g.at_ _).mono ?_); rintro e w' ⟨rfl, xg, rfl⟩)) | (go_at_call 30; first | ((with_reducible refine (p.at_ _).mono ?_); rintro e w' ⟨rfl, xg, rfl⟩)) | (go_at_call 24; first | ((with_reducible refine (d.at_ _).mono ?_); rintro e w' ⟨rfl, xg, rfl⟩)) | (go_at_call 19; first | ((with_reducible refine (i.at_ _).mono ?_); rintro e w' ⟨rfl, xg, rfl⟩)))
  go_ret
  exact ⟨rfl, (by repeat (first | exact Below.refl _ _ | refine bel_grow ?_ _ | refine bel_alloc ?_ _ | refine bel_set ?_ (by simp) _))⟩
theorem walk (a c : Int) (h0 : (-9223372036854775808 ≤ a ∧ a ≤ 9223372036854775807) ∧ (0 ≤ c ∧ c ≤ 18446744073709551615)) (b d : Int) (h1 : (-9223372036854775808 ≤ b ∧ b ≤ 9223372036854775807) ∧ (0 ≤ d ∧ d ≤ 18446744073709551615))
    (n : Int) (n0 : -9223372036854775808 ≤ n) (n1 : n ≤ 9223372036854775807) (m : Int) (m0 : -9223372036854775808 ≤ m) (m1 : m ≤ 9223372036854775807) : Gives Try.prog 5 #[.agg #[.int .i64 a, .int .u64 c], .agg #[.int .i64 b, .int .u64 d], .int .i64 n, .int .i64 m] (.bool true) := by
  have hx := inW_mk a c h0.2.1 h0.2.2 h0.1.1 h0.1.2
  have hy := inW_mk b d h1.2.1 h1.2.2 h1.1.1 h1.1.2
  have e1 := hi_mk a c h0.2.1 h0.2.2
  have e2 := lo_mk a c h0.2.1 h0.2.2
  have e3 := hi_mk b d h1.2.1 h1.2.2
  have e4 := lo_mk b d h1.2.1 h1.2.2
  generalize a * 18446744073709551616 + c = x at *
  generalize b * 18446744073709551616 + d = y at *
  subst e1 e2 e3 e4
  by_cases s1 : InW (x + y) <;> by_cases s2 : y = -170141183460469231731687303715884105728 <;> by_cases s3 : m < 1
  · exact core_yes_no_low x y n m hx hy n0 n1 m0 m1 s1 s2 s3
  · exact core_yes_no_high x y n m hx hy n0 n1 m0 m1 s1 s2 (by omega)
  · exact core_yes_yes_low x y n m hx hy n0 n1 m0 m1 s1 s2 s3
  · exact core_yes_yes_high x y n m hx hy n0 n1 m0 m1 s1 s2 (by omega)
  · exact core_no_any_low x y n m hx hy n0 n1 m0 m1 s1 s3
  · exact core_no_any_high x y n m hx hy n0 n1 m0 m1 s1 (by omega)
  · exact core_no_any_low x y n m hx hy n0 n1 m0 m1 s1 s3
  · exact core_no_any_high x y n m hx hy n0 n1 m0 m1 s1 (by omega)

theorem own : ownKnob Try.prog.godebug = none := by kernel_rfl
set_option maxRecDepth 100000 in
theorem lifted (os : Os) (started : os.Started) (H : Type) (enc : TypeId × Value → H) :
    ReturnsInHanded {} Try.checked os 5 .any (Rows.wideBackSpec.pre6 enc Try.prog Try.f5 Rows.wideBackRow.domain false) (Rows.wideBackSpec.post enc Try.prog Try.f5 false true false false) := by
  refine returnsInHanded_of_change (C := Try.checked) own started (by kernel_rfl) Try.func5
    (ChangeSpec.witness6 (enc := enc) (C := Try.checked) false ⟨#[], #[.agg #[.int .i64 0, .int .u64 0], .agg #[.int .i64 0, .int .u64 0], .int .i64 0, .int .i64 0], []⟩ 8 (by kernel_rfl) (by kernel_rfl) (by kernel_rfl) (by kernel_rfl)) ?_
  intro W base args ds gs before hval0 hW hcnd _
  have hval : ∀ (j : Nat) t v, Try.f5.params[j]? = some t → args[j]? = some v → Value.okWide Try.prog W .any base t v := hval0
  have hW' := hW
  obtain ⟨p, q, hA0, hV, rfl, hfz, hnd⟩ := hW
  have hA : DataW.TrodAll enc Try.prog W 0 (fun _ => true) true Try.f5.params.toList args.toList ds p := hA0
  rw [Try.params5] at hA hval
  obtain ⟨v0, vs0, d0, ds0, p0, q0, hargs, rfl, rfl, h0, r0⟩ := trodAll_cons hA
  obtain ⟨v1, vs1, d1, ds1, p1, q1, rfl, rfl, rfl, h1, r1⟩ := trodAll_cons r0
  obtain ⟨v2, vs2, d2, ds2, p2, q2, rfl, rfl, rfl, h2, r2⟩ := trodAll_cons r1
  obtain ⟨v3, vs3, d3, ds3, p3, q3, rfl, rfl, rfl, h3, r3⟩ := trodAll_cons r2
  obtain ⟨rfl, rfl, rfl⟩ := trodAll_nil r3
  obtain rfl : args = #[v0, v1, v2, v3] := by cases args; simp_all
  obtain ⟨a0, c0, rfl, b0⟩ := open_Wide (hval 0 24 v0 rfl rfl) h0
  obtain ⟨a1, c1, rfl, b1⟩ := open_Wide (hval 1 24 v1 rfl rfl) h1
  obtain ⟨a2, rfl, b2⟩ := open_Int (hval 2 3 v2 rfl rfl) h2
  obtain ⟨a3, rfl, b3⟩ := open_Int (hval 3 3 v3 rfl rfl) h3
  refine ((walk a0 c0 b0 a1 c1 b1 a2 b2.1 b2.2 a3 b3.1 b3.2).bel W).mono fun e W' ⟨he, hb⟩ => ?_
  subst he
  exact ⟨_, rfl, law_post (tb := 4) (by kernel_rfl) (by kernel_rfl) rfl rfl Try.underlying4 rfl rfl rfl hW' hb⟩

theorem over : Rows.wideBackRow.holds Try.pinned (OpenSpec.ofChange Rows.wideBackSpec) :=
  OpenClaim.holds_of_wide 5 Try.f5 rfl rfl rfl rfl rfl rfl rfl ⟨rfl, rfl, rfl, rfl, rfl⟩ rfl rfl rfl rfl rfl (by kernel_rfl) Try.func5 (by kernel_rfl)
    (of_decide_eq_true (by kernel_rfl)) (by unfold Func.isWrapper; first | (rw [if_pos (by decide +kernel)]; kernel_rfl) | (rw [if_neg (by decide +kernel)]; exact ⟨rfl, rfl⟩))
    (fun os started H enc _ => lifted os started H enc)

theorem proved : Rows.WideBackSaid :=
  over
#print axioms proved
end Go.Proofs.Ytjhkbdbhikkchaa.wideBack
