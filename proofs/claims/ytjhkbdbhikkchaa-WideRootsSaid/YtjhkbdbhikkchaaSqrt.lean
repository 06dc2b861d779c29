/- The contract of wide's call Sqrt. -/
import Derived.Test.YtjhkbdbhikkchaaWide4
import Derived.Test.YtjhkbdbhikkchaaDiv65
import Derived.Deep.DeepCutAuto
namespace Go.Proofs.Ytjhkbdbhikkchaa
open Go.RowKit
set_option linter.unusedVariables false
set_option linter.unusedSimpArgs false

/-- How many bits a number of at most 126 bits has. -/
theorem width_any (n : Int) (h0 : 0 ≤ n) (h1 : n < 85070591730234615865843651857942052864) :
    ∃ B : Int, 0 ≤ B ∧ B ≤ 126 ∧ n < 2 ^ B.toNat ∧ Gives Try.prog 40 #[.agg #[.int .i64 (hiOf n), .int .u64 (loOf n)]] (.int .i64 B) := by
  have l := lo_bd n
  have hh : 0 ≤ hiOf n ∧ hiOf n < 4611686018427387904 := by unfold hiOf; omega
  have e := hi_lo n
  by_cases hz : hiOf n = 0
  · refine ⟨(Lib.bitLen (loOf n).toNat : Int), by omega, ?_, ?_, ?_⟩
    · have := Lib.bitLen_le (loOf n).toNat 64 (by omega) (by omega); omega
    · have := (bitLen_spec (loOf n).toNat (by omega)).1
      rw [Int.toNat_natCast]
      have h2 : ((loOf n).toNat : Int) < ((2 ^ Lib.bitLen (loOf n).toNat : Nat) : Int) := by omega
      simp only [Int.natCast_pow] at h2
      have h3 : ((2 : Nat) : Int) = 2 := rfl
      rw [h3] at h2
      omega
    · refine Gives.mk fun w => ?_
      rw [hz]
      have k := Try.bits_Len64 (loOf n)
      clear hh e hz h0 h1
      go_enter Try.func40, Try.ntmps40
      go_wp2_with (go_at_call 46; refine (k _ l.1 l.2).mono ?_; rintro e w' ⟨rfl, hw⟩; rw [hw])
      go_ret
      exact ⟨rfl, bel_alloc (Below.refl _ _) _⟩
  · refine ⟨64 + (Lib.bitLen (hiOf n).toNat : Int), by omega, ?_, ?_, ?_⟩
    · have := Lib.bitLen_le (hiOf n).toNat 62 (by omega) (by omega); omega
    · have := (bitLen_spec (hiOf n).toNat (by omega)).1
      rw [show (64 + (Lib.bitLen (hiOf n).toNat : Int)).toNat = 64 + Lib.bitLen (hiOf n).toNat from by omega]
      have h2 : (((hiOf n).toNat + 1 : Nat) : Int) ≤ ((2 ^ Lib.bitLen (hiOf n).toNat : Nat) : Int) := by omega
      simp only [Int.natCast_pow] at h2
      have h3 : ((2 : Nat) : Int) = 2 := rfl
      rw [h3] at h2
      rw [Int.pow_add]
      have h4 : (2 : Int) ^ 64 = 18446744073709551616 := by decide
      rw [h4]
      omega
    · refine Gives.mk fun w => ?_
      have k := Try.bits_Len64 (hiOf n)
      have hp : 0 < hiOf n := by omega
      have hb : (hiOf n != 0) = true := by simp; omega
      have lb := Lib.bitLen_le (hiOf n).toNat 62 (by omega) (by omega)
      clear e hz h0 h1
      go_enter Try.func40, Try.ntmps40
      go_wp2_with (go_at_call 46; refine (k _ (by omega) (by omega)).mono ?_; rintro e w' ⟨rfl, hw⟩; rw [hw])
      go_ret
      exact ⟨rfl, bel_alloc (Below.refl _ _) _⟩

theorem sqrt_no (n : Int) (hn : InW n) (h : n < 0 ∨ 85070591730234615865843651857942052864 ≤ n) :
    Gives Try.prog 26 #[.agg #[.int .i64 (hiOf n), .int .u64 (loOf n)]] (.tuple #[.int .i64 0, .bool false]) := by
  refine Gives.mk fun w => ?_
  have hb := hi_bd hn
  have hq : (hiOf n / 4611686018427387904 != 0) = true := by simp; unfold hiOf; omega
  clear hn h
  go_enter Try.func26, Try.ntmps26
  go_wp2
  go_ret2
  exact ⟨rfl, bel_alloc (Below.refl _ _) _⟩

/-- What holds ahead of bit number b: the root's upper bits are found. -/
def RootInv (n r b : Int) : Prop := ∃ k j : Nat, b = (k : Int) - 1 ∧ k ≤ 63 ∧ r = ((j * 2 ^ k : Nat) : Int) ∧ j * 2 ^ k + 2 ^ k ≤ 9223372036854775808 ∧ r * r ≤ n ∧ n < (r + ((2 ^ k : Nat) : Int)) * (r + ((2 ^ k : Nat) : Int))
theorem or_bit (j k : Nat) (h : j * 2 ^ (k + 1) + 2 ^ (k + 1) ≤ 9223372036854775808) (hk : k ≤ 62) :
    bits .or .i64 ((j * 2 ^ (k + 1) : Nat) : Int) (wrap64 (2 ^ k)) = ((j * 2 ^ (k + 1) + 2 ^ k : Nat) : Int) := by
  have hp : 2 ^ k < 2 ^ (k + 1) := by rw [Nat.pow_succ]; have := Nat.two_pow_pos k; omega
  have e1 : wrap64 ((2 : Int) ^ k) = ((2 ^ k : Nat) : Int) := by
    have : ((2 ^ k : Nat) : Int) = (2 : Int) ^ k := by simp
    rw [← this]; unfold wrap64; omega
  rw [e1]
  have e2 : bits .or .i64 ((j * 2 ^ (k + 1) : Nat) : Int) ((2 ^ k : Nat) : Int) = (BitVec.ofInt 64 ((j * 2 ^ (k + 1) : Nat) : Int) ||| BitVec.ofInt 64 ((2 ^ k : Nat) : Int)).toInt := i64_toInt _
  have e3 : (BitVec.ofInt 64 ((j * 2 ^ (k + 1) : Nat) : Int) ||| BitVec.ofInt 64 ((2 ^ k : Nat) : Int)).toNat = j * 2 ^ (k + 1) + 2 ^ k := by
    rw [BitVec.toNat_or, BitVec.ofInt_natCast, BitVec.ofInt_natCast, BitVec.toNat_ofNat, BitVec.toNat_ofNat, Nat.mod_eq_of_lt (by omega), Nat.mod_eq_of_lt (by omega), Nat.mul_comm j, ← Nat.two_pow_add_eq_or_of_lt hp]
  rw [e2, BitVec.toInt_eq_toNat_cond, e3]
  rw [if_pos (by omega)]
theorem odd_bit (j q : Nat) : (2 * j + 1) * 2 ^ q = j * 2 ^ (q + 1) + 2 ^ q := by
  rw [Nat.add_mul, Nat.one_mul, Nat.pow_succ, Nat.mul_comm 2 j, Nat.mul_assoc, Nat.mul_comm 2]
theorem even_bit (j q : Nat) : 2 * j * 2 ^ q = j * 2 ^ (q + 1) := by
  rw [Nat.pow_succ, Nat.mul_comm 2 j, Nat.mul_assoc, Nat.mul_comm 2]
theorem root_unique {n r s : Int} (r0 : 0 ≤ r) (r1 : r * r ≤ n) (r2 : n < (r + 1) * (r + 1)) (s0 : 0 ≤ s) (s1 : s * s ≤ n) (s2 : n < (s + 1) * (s + 1)) : r = s := by
  rcases Int.lt_trichotomy r s with h | h | h
  · have : (r + 1) * (r + 1) ≤ s * s := Int.mul_le_mul (by omega) (by omega) (by omega) (by omega)
    omega
  · exact h
  · have : (s + 1) * (s + 1) ≤ r * r := Int.mul_le_mul (by omega) (by omega) (by omega) (by omega)
    omega
theorem root_first (n B : Int) (h0 : 0 ≤ n) (b0 : 0 ≤ B) (b1 : B ≤ 126) (b2 : n < 2 ^ B.toNat) : RootInv n 0 ((B + 1) / 2 - 1) := by
  refine ⟨((B + 1) / 2).toNat, 0, by omega, by omega, by simp, ?_, by omega, ?_⟩
  · have : 2 ^ ((B + 1) / 2).toNat ≤ 2 ^ 63 := Nat.pow_le_pow_right (by omega) (by omega)
    omega
  · have e1 : (2 : Int) ^ B.toNat = ((2 ^ B.toNat : Nat) : Int) := by simp
    have e2 : 2 ^ B.toNat ≤ 2 ^ (((B + 1) / 2).toNat + ((B + 1) / 2).toNat) := Nat.pow_le_pow_right (by omega) (by omega)
    rw [Nat.pow_add] at e2
    rw [e1] at b2
    have e3 : (((2 ^ ((B + 1) / 2).toNat * 2 ^ ((B + 1) / 2).toNat : Nat)) : Int) = ((2 ^ ((B + 1) / 2).toNat : Nat) : Int) * ((2 ^ ((B + 1) / 2).toNat : Nat) : Int) := Int.natCast_mul _ _
    simp only [Int.zero_add]
    omega

set_option maxHeartbeats 1000000 in
theorem sqrt_yes (n s : Int) (h0 : 0 ≤ n) (h1 : n < 85070591730234615865843651857942052864) (s0 : 0 ≤ s) (s1 : s * s ≤ n) (s2 : n < (s + 1) * (s + 1)) :
    Gives Try.prog 26 #[.agg #[.int .i64 (hiOf n), .int .u64 (loOf n)]] (.tuple #[.int .i64 s, .bool true]) := by
  refine Gives.mk fun w => ?_
  have l := lo_bd n
  have hh : 0 ≤ hiOf n ∧ hiOf n < 4611686018427387904 := by unfold hiOf; omega
  obtain ⟨B, b0, b1, b2, wd⟩ := width_any n h0 h1
  have first := root_first n B h0 b0 b1 b2
  have hn : InW n := by unfold InW; omega
  have s1 := Lib.hid s1
  have s2 := Lib.hid s2
  clear b2
  go_enter Try.func26, Try.ntmps26
  go_wp2_with (go_at_call 40; ((with_reducible refine (wd.at_ _).mono ?_); rintro e w' ⟨rfl, xg, rfl⟩))
  go_loopw [4, 5] (fun t u wr => ∃ r b : Int, t = .int .i64 r ∧ u = .int .i64 b ∧ RootInv n r b ∧ ∃ x, wr = grow (w.alloc (.cells #[.int .i64 (hiOf n), .int .u64 (loOf n)] 24)) x) (fun _ u _ => (intOf u + 1).toNat)
  case atStart => exact ⟨_, _, rfl, rfl, first, _, rfl⟩
  case round =>
    obtain ⟨r, b, rfl, rfl, hinv, xx, rfl⟩ := hrel
    clear first wd b0 b1
    obtain ⟨k, j, hb, hk, hr, hs, hi1, hi2⟩ := hinv
    rcases Nat.eq_zero_or_pos k with hz | hz
    · have hr' : r = s := by
        subst hz
        simp only [Nat.pow_zero, Nat.mul_one] at hr hi2
        exact root_unique (by omega) hi1 hi2 s0 s1.out s2.out
      have hb' : b = -1 := by omega
      clear hi1 hi2 hs hr hb hk hz
      subst hr' hb'
      go_wp2
      go_ret2
      exact ⟨rfl, by repeat (first | exact Below.refl _ _ | refine bel_grow ?_ _ | refine bel_alloc ?_ _)⟩
    · obtain ⟨q, rfl⟩ : ∃ q, k = q + 1 := ⟨k - 1, by omega⟩
      have hb0 : b = (q : Int) := by omega
      subst hb0
      have ob := or_bit j q hs (by omega)
      rw [← hr] at ob
      obtain ⟨m, hm⟩ : ∃ m : Int, ((j * 2 ^ (q + 1) + 2 ^ q : Nat) : Int) = m := ⟨_, rfl⟩
      rw [hm] at ob
      have hp2 : 2 ^ (q + 1) = 2 ^ q + 2 ^ q := by rw [Nat.pow_succ]; omega
      have hq := Nat.two_pow_pos q
      have hq62 : (q : Int) ≤ 62 := by omega
      have hm0 : 0 ≤ m ∧ m ≤ 9223372036854775807 := by omega
      have p := mul_any m m (by omega) (by omega) (by omega) (by omega)
      have c := cmp_any (m * m) n (inW_mul m m (by omega) (by omega) (by omega) (by omega)) hn
      have eP : m = r + ((2 ^ q : Nat) : Int) := by omega
      by_cases hle : m * m ≤ n
      · have next : RootInv n m ((q : Int) - 1) := by
          refine ⟨q, 2 * j + 1, rfl, by omega, ?_, ?_, hle, ?_⟩
          · rw [← hm, odd_bit]
          · rw [odd_bit]; omega
          · rw [hp2] at hi2
            have : m + ((2 ^ q : Nat) : Int) = r + ((2 ^ q + 2 ^ q : Nat) : Int) := by omega
            rw [this]; exact hi2
        obtain ⟨v, hv⟩ : ∃ v, cmpOf (m * m) n = v := ⟨_, rfl⟩
        have hv0 : decide (v ≤ 0) = true := by rw [← hv]; unfold cmpOf; simp; split <;> (try split) <;> omega
        rw [hv] at c
        clear hv hle eP hp2 hs hi1 hi2 hr hm hb hk hz
        go_wp2_with fail
        refine wp_region_grow (by kernel_rfl) (by kernel_rfl) ?_
        repeat (go_big_quiet_step ((first | with_reducible exact p.quiet _ | with_reducible exact c.quiet _)))
        refine wpQuiet_nil ?_
        rintro _ ⟨xg, rfl⟩
        go_wp2
        exact ⟨⟨_, _, rfl, rfl, next, grow_of (bel_grow (bel_grow (Below.refl _ _) _) _)⟩, by simp [intOf] <;> omega⟩
      · have next : RootInv n r ((q : Int) - 1) := by
          refine ⟨q, 2 * j, rfl, by omega, ?_, ?_, hi1, ?_⟩
          · rw [hr, even_bit]
          · rw [even_bit]; omega
          · rw [← eP]; omega
        obtain ⟨v, hv⟩ : ∃ v, cmpOf (m * m) n = v := ⟨_, rfl⟩
        have hv0 : decide (v ≤ 0) = false := by rw [← hv]; unfold cmpOf; simp; split <;> (try split) <;> omega
        rw [hv] at c
        clear hv hle eP hp2 hs hi1 hi2 hr hm hb hk hz
        go_wp2_with fail
        refine wp_region_grow (by kernel_rfl) (by kernel_rfl) ?_
        repeat (go_big_quiet_step ((first | with_reducible exact p.quiet _ | with_reducible exact c.quiet _)))
        refine wpQuiet_nil ?_
        rintro _ ⟨xg, rfl⟩
        go_wp2
        exact ⟨⟨_, _, rfl, rfl, next, grow_of (bel_grow (bel_grow (Below.refl _ _) _) _)⟩, by simp [intOf] <;> omega⟩
end Go.Proofs.Ytjhkbdbhikkchaa
