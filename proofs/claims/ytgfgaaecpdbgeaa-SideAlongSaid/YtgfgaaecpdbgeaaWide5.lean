/- The contract of wide's call Div. -/
import Derived.Test.YtgfgaaecpdbgeaaWide4
import Derived.Test.YtgfgaaecpdbgeaaDiv65
namespace Go.Proofs.Ytgfgaaecpdbgeaa
open Go.RowKit
set_option linter.unusedVariables false
set_option linter.unusedSimpArgs false

theorem i64_xor_0 (x : Int) (h0 : -9223372036854775808 ≤ x) (h1 : x ≤ 9223372036854775807) : bits .xor .i64 x 0 = x := by
  have h : BitVec.ofInt 64 0 = 0#64 := by decide
  have e : bits .xor .i64 x 0 = (BitVec.ofInt 64 x ^^^ BitVec.ofInt 64 0).toInt := i64_toInt _
  rw [e, h, BitVec.xor_zero, ofInt_toInt x h0 h1]
theorem i64_xor_m1 (x : Int) (h0 : -9223372036854775808 ≤ x) (h1 : x ≤ 9223372036854775807) : bits .xor .i64 x (-1) = -1 - x := by
  have h : BitVec.ofInt 64 (-1) = BitVec.allOnes 64 := by decide
  have e : bits .xor .i64 x (-1) = (BitVec.ofInt 64 x ^^^ BitVec.ofInt 64 (-1)).toInt := i64_toInt _
  rw [e, h, BitVec.xor_allOnes, BitVec.toInt_not, BitVec.toNat_ofInt, Int.bmod_def]
  have : ((2 ^ 64 : Nat) : Int) = 18446744073709551616 := by decide
  rw [this]
  split <;> omega
theorem u64_xor_0 (x : Int) (h0 : 0 ≤ x) (h1 : x ≤ 18446744073709551615) : bits .xor .u64 x 0 = x := by
  obtain ⟨n, rfl⟩ := Int.eq_ofNat_of_zero_le h0
  have h := bits_xor_u64_nat n 0 (by omega) (by omega)
  simpa using h
theorem u64_xor_all (x : Int) (h0 : 0 ≤ x) (h1 : x ≤ 18446744073709551615) : bits .xor .u64 x (IntKind.u64.wrap (-1)) = 18446744073709551615 - x := by
  rw [show IntKind.u64.wrap (-1) = 18446744073709551615 from by rw [IntKind.wrap_u64]; rfl]
  have h : BitVec.ofInt 64 18446744073709551615 = BitVec.allOnes 64 := by decide
  show IntKind.u64.wrap ((BitVec.ofInt 64 x ^^^ BitVec.ofInt 64 18446744073709551615).toNat : Int) = _
  rw [h, BitVec.xor_allOnes, BitVec.toNat_not, BitVec.toNat_ofInt, IntKind.wrap_u64]
  have : ((2 ^ 64 : Nat) : Int) = 18446744073709551616 := by decide
  rw [this]
  omega

/-! one step of long division -/
theorem step_hi (n d : Int) (_h0 : 1 ≤ d) : hiOf n / d = hiOf (n / d) := by
  unfold hiOf
  rw [Int.ediv_ediv_of_nonneg (by omega), Int.ediv_ediv_of_nonneg (by omega), Int.mul_comm]
theorem step_split (n d : Int) : n = hiOf n / d * 18446744073709551616 * d + (hiOf n % d * 18446744073709551616 + loOf n) := by
  have e := hi_lo n
  have e1 := Int.emod_add_mul_ediv (hiOf n) d
  have e2 : hiOf n / d * 18446744073709551616 * d = d * (hiOf n / d) * 18446744073709551616 := by
    rw [Int.mul_comm, ← Int.mul_assoc]
  rw [e2]
  omega
theorem step_q (n d : Int) (h0 : 1 ≤ d) : (hiOf n % d * 18446744073709551616 + loOf n) / d = loOf (n / d) ∧ (hiOf n % d * 18446744073709551616 + loOf n) % d = n % d := by
  have r0 := Int.emod_nonneg (hiOf n) (by omega : d ≠ 0)
  have r1 := Int.emod_lt_of_pos (hiOf n) (by omega : 0 < d)
  have l := lo_bd n
  have e := step_split n d
  have q1 : (hiOf n % d * 18446744073709551616 + loOf n) / d < 18446744073709551616 := Int.ediv_lt_of_lt_mul (by omega) (by
    have : (hiOf n % d + 1) * 18446744073709551616 ≤ d * 18446744073709551616 := Int.mul_le_mul_of_nonneg_right (by omega) (by omega)
    omega)
  have q0 : 0 ≤ (hiOf n % d * 18446744073709551616 + loOf n) / d := Int.ediv_nonneg (by omega) (by omega)
  have e3 : n / d = hiOf n / d * 18446744073709551616 + (hiOf n % d * 18446744073709551616 + loOf n) / d := by
    have : n / d = (hiOf n / d * 18446744073709551616 * d + (hiOf n % d * 18446744073709551616 + loOf n)) / d := by rw [← e]
    rw [this, Int.add_comm, Int.add_mul_ediv_right _ _ (by omega)]
    omega
  constructor
  · rw [e3]; exact (lo_mk _ _ q0 (by omega)).symm
  · have : n % d = (hiOf n / d * 18446744073709551616 * d + (hiOf n % d * 18446744073709551616 + loOf n)) % d := by rw [← e]
    rw [this, Int.add_comm (_ * d), Int.add_mul_emod_self_right]
/-- All bits turned, a quotient rounds down: -1 - (-1 - n) / d is n / d. -/
theorem flip_div (n d : Int) (h0 : 1 ≤ d) : (-1 - n) / d = -1 - n / d ∧ (-1 - n) % d = d - 1 - n % d := by
  have e := Int.emod_add_mul_ediv n d
  have r0 := Int.emod_nonneg n (by omega : d ≠ 0)
  have r1 := Int.emod_lt_of_pos n (by omega : 0 < d)
  have e2 : -1 - n = (d - 1 - n % d) + (-1 - n / d) * d := by
    rw [Int.sub_mul, Int.mul_comm (n / d) d]; omega
  constructor
  · rw [e2, Int.add_mul_ediv_right _ _ (by omega), Int.ediv_eq_zero_of_lt (by omega) (by omega)]; omega
  · rw [e2, Int.add_mul_emod_self_right, Int.emod_eq_of_lt (by omega) (by omega)]
theorem flip_hi (n : Int) : hiOf (-1 - n) = -1 - hiOf n := by unfold hiOf; omega
theorem flip_lo (n : Int) : loOf (-1 - n) = 18446744073709551615 - loOf n := by unfold loOf; omega
theorem inW_div (n d : Int) (hn : InW n) (h0 : 1 ≤ d) : InW (n / d) := by
  unfold InW at *
  constructor
  · exact (Int.le_ediv_iff_mul_le (by omega)).2 (by
      have : (-170141183460469231731687303715884105728 : Int) * d ≤ -170141183460469231731687303715884105728 * 1 := Int.mul_le_mul_of_nonpos_left (by omega) (by omega)
      omega)
  · rcases Int.lt_or_le n 0 with h | h
    · have := Int.ediv_neg_of_neg_of_pos h (by omega : 0 < d); omega
    · have := Int.ediv_le_self d h; omega

theorem div_none (a c d : Int) (h : d < 1) (h1 : -9223372036854775808 ≤ d) :
    Gives Try.prog 14 #[.agg #[.int .i64 a, .int .u64 c], .int .i64 d] (.tuple #[.agg #[.int .i64 0, .int .u64 0], .int .i64 0, .bool false]) := by
  refine Gives.mk fun w => ?_
  go_enter Try.func14, Try.ntmps14
  go_wp2
  refine bodyPost_ret (v := .tuple #[.agg #[.int .i64 0, .int .u64 0], .int .i64 0, .bool false]) (by simp [results, Try.results14, go_sem]) rfl ⟨rfl, ?_⟩
  exact bel_alloc (bel_alloc (Below.refl _ _) _) _

set_option maxHeartbeats 400000 in
theorem div_pos (n d : Int) (hn : InW n) (h : 0 ≤ n) (h0 : 1 ≤ d) (h1 : d ≤ 9223372036854775807) :
    Gives Try.prog 14 #[.agg #[.int .i64 (hiOf n), .int .u64 (loOf n)], .int .i64 d] (.tuple #[.agg #[.int .i64 (hiOf (n / d)), .int .u64 (loOf (n / d))], .int .i64 (n % d), .bool true]) := by
  refine Gives.mk fun w => ?_
  have b := hi_bd hn
  have l := lo_bd n
  have b2 : 0 ≤ hiOf n := by unfold hiOf; omega
  have e0 : hiOf n / 9223372036854775808 = 0 := by omega
  have x1 := i64_xor_0 (hiOf n) b.1 b.2
  have x2 := u64_xor_0 (loOf n) l.1 l.2
  have r0 := Int.emod_nonneg (hiOf n) (by omega : d ≠ 0)
  have r1 := Int.emod_lt_of_pos (hiOf n) (by omega : 0 < d)
  have k := div64_any (hiOf n % d) (loOf n) d r0 l.1 l.2 (by omega) r1
  rw [(step_q n d h0).1, (step_q n d h0).2] at k
  have s0 := Int.emod_nonneg n (by omega : d ≠ 0)
  have s1 := Int.emod_lt_of_pos n (by omega : 0 < d)
  have hq := hi_bd (inW_div n d hn h0)
  have x3 := i64_xor_0 (hiOf (n / d)) hq.1 hq.2
  have lq := lo_bd (n / d)
  have x4 := u64_xor_0 (loOf (n / d)) lq.1 lq.2
  have x5 := step_hi n d h0
  have hq0 : 0 ≤ hiOf (n / d) := by rw [← x5]; exact Int.ediv_nonneg b2 (by omega)
  clear hn
  go_enter Try.func14, Try.ntmps14
  go_wp2_with fail
  refine wp_region_grow (by kernel_rfl) (by kernel_rfl) ?_
  repeat (go_big_quiet_step (((first | with_reducible exact k.quiet _ | with_reducible exact k.quiet2 _ _))))
  refine wpQuiet_nil ?_
  rintro _ ⟨x, rfl⟩
  go_wp2
  refine bodyPost_ret (v := .tuple #[.agg #[.int .i64 (hiOf (n / d)), .int .u64 (loOf (n / d))], .int .i64 (n % d), .bool true]) (by simp [results, Try.results14, go_sem]) rfl ⟨rfl, ?_⟩
  exact (by repeat (first | exact Below.refl _ _ | refine bel_then ?_ _ | refine bel_grow ?_ _ | refine bel_alloc ?_ _ | refine bel_set ?_ (by simp) _))

set_option maxHeartbeats 400000 in
theorem div_neg (n d : Int) (hn : InW n) (h : n < 0) (h0 : 1 ≤ d) (h1 : d ≤ 9223372036854775807) :
    Gives Try.prog 14 #[.agg #[.int .i64 (hiOf n), .int .u64 (loOf n)], .int .i64 d] (.tuple #[.agg #[.int .i64 (hiOf (n / d)), .int .u64 (loOf (n / d))], .int .i64 (n % d), .bool true]) := by
  refine Gives.mk fun w => ?_
  have b := hi_bd hn
  have l := lo_bd n
  have b2 : hiOf n < 0 := by unfold hiOf; omega
  have e0 : hiOf n / 9223372036854775808 = -1 := by omega
  have x1 := i64_xor_m1 (hiOf n) b.1 b.2
  have x2 := u64_xor_all (loOf n) l.1 l.2
  have r0 := Int.emod_nonneg (-1 - hiOf n) (by omega : d ≠ 0)
  have r1 := Int.emod_lt_of_pos (-1 - hiOf n) (by omega : 0 < d)
  have k := div64_any ((-1 - hiOf n) % d) (18446744073709551615 - loOf n) d r0 (by omega) (by omega) (by omega) r1
  rw [← flip_lo, ← flip_hi, (step_q (-1 - n) d h0).1, (step_q (-1 - n) d h0).2, flip_hi, flip_lo, (flip_div n d h0).1, (flip_div n d h0).2, flip_lo] at k
  have s0 := Int.emod_nonneg n (by omega : d ≠ 0)
  have s1 := Int.emod_lt_of_pos n (by omega : 0 < d)
  have hq := hi_bd (inW_div n d hn h0)
  have x5 := step_hi (-1 - n) d h0
  rw [(flip_div n d h0).1, flip_hi, flip_hi] at x5
  have hq0 : 0 ≤ -1 - hiOf (n / d) := by rw [← x5]; exact Int.ediv_nonneg (by omega) (by omega)
  have x3 := i64_xor_m1 (-1 - hiOf (n / d)) (by omega) (by omega)
  have lq := lo_bd (n / d)
  have x4 := u64_xor_all (18446744073709551615 - loOf (n / d)) (by omega) (by omega)
  have x6 : -1 - (-1 - hiOf (n / d)) = hiOf (n / d) := by omega
  have x7 : 18446744073709551615 - (18446744073709551615 - loOf (n / d)) = loOf (n / d) := by omega
  have x8 : d - 1 - (d - 1 - n % d) = n % d := by omega
  rw [x6] at x3
  rw [x7] at x4
  clear hn x6 x7
  go_enter Try.func14, Try.ntmps14
  go_wp2_with fail
  refine wp_region_grow (by kernel_rfl) (by kernel_rfl) ?_
  repeat (go_big_quiet_step (((first | with_reducible exact k.quiet _ | with_reducible exact k.quiet2 _ _))))
  refine wpQuiet_nil ?_
  rintro _ ⟨x, rfl⟩
  go_wp2
  refine bodyPost_ret (v := .tuple #[.agg #[.int .i64 (hiOf (n / d)), .int .u64 (loOf (n / d))], .int .i64 (n % d), .bool true]) (by simp [results, Try.results14, go_sem]) rfl ⟨rfl, ?_⟩
  exact (by repeat (first | exact Below.refl _ _ | refine bel_then ?_ _ | refine bel_grow ?_ _ | refine bel_alloc ?_ _ | refine bel_set ?_ (by simp) _))
end Go.Proofs.Ytgfgaaecpdbgeaa
