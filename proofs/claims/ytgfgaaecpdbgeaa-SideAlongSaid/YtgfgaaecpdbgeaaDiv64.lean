/- The contract of math/bits.Div64. -/
import Derived.Test.YtgfgaaecpdbgeaaWide1
import Derived.Test.YtgfgaaecpdbgeaaDivMath
import Derived.Deep.DeepCutAuto
import Derived.Deep.CutBlock
namespace Go.Proofs.Ytgfgaaecpdbgeaa
open Go.RowKit
set_option linter.unusedVariables false
set_option linter.unusedSimpArgs false

theorem div64_zero (lo y : Int) (a0 : 0 ≤ lo) (a1 : lo ≤ 18446744073709551615) (b0 : 1 ≤ y) (b1 : y ≤ 18446744073709551615) :
    Gives Try.prog 39 #[.int .u64 0, .int .u64 lo, .int .u64 y] (.tuple #[.int .u64 (lo / y), .int .u64 (lo % y)]) := by
  refine Gives.mk fun w => ?_
  go_enter Try.func39, Try.ntmps39
  go_wp2
  refine wp_region_grow (by kernel_rfl) (by kernel_rfl) ?_
  repeat (go_big_quiet_step ((fail)))
  refine wpQuiet_nil ?_
  rintro _ ⟨x, rfl⟩
  go_wp2
  go_ret2
  exact ⟨rfl, by repeat (first | exact Below.refl _ _ | refine bel_grow ?_ _ | refine bel_alloc ?_ _)⟩

set_option maxHeartbeats 1000000 in
theorem div64_big (hi lo y : Int) (a0 : 0 ≤ lo) (a1 : lo ≤ 18446744073709551615) (b0 : 1 ≤ hi) (b1 : y ≤ 18446744073709551615) (b2 : hi < y) (s : Int) (hs : 64 - (Lib.bitLen y.toNat : Int) = s)
    (s0 : 0 ≤ s) (s1 : s ≤ 63) (D A b U V v1 v0 m : Int) (hD : IntKind.u64.wrap (y * 2 ^ s.toNat) = D) (d1 : D ≤ 18446744073709551615)
    (hA : D / 4294967296 = A) (hb : bits .and .u64 D 4294967295 = b) (hU : bits .or .u64 (IntKind.u64.wrap (hi * 2 ^ s.toNat)) (lo / 2 ^ (64 - s).toNat) = U)
    (hV : IntKind.u64.wrap (lo * 2 ^ s.toNat) = V) (hv1 : V / 4294967296 = v1) (hv0 : bits .and .u64 V 4294967295 = v0)
    (eD : Hid (D = A * 4294967296 + b)) (cA : 2147483648 ≤ A) (cA1 : A ≤ 4294967295) (cb : 0 ≤ b) (cb1 : b ≤ 4294967295) (cU : 0 ≤ U) (cU1 : U < D)
    (cv : 0 ≤ v1) (cv1 : v1 ≤ 4294967295) (cw : 0 ≤ v0) (cw1 : v0 ≤ 4294967295) (hm : IntKind.u64.wrap (U / A * A) = m) (em : Hid (m = U / A * A)) (cm0 : 0 ≤ m) (cm1 : m ≤ U) (inv : DivInv A b U v1 (U / A) (U - m))
    (R m2 S : Int) (hR : IntKind.u64.wrap (IntKind.u64.wrap (IntKind.u64.wrap (U * 4294967296) + v1) - IntKind.u64.wrap (digit A b U v1 * D)) = R) (cR : 0 ≤ R) (cR1 : R < D)
    (hm2 : IntKind.u64.wrap (R / A * A) = m2) (cm2 : 0 ≤ m2) (cm3 : m2 ≤ R) (inv2 : DivInv A b R v0 (R / A) (R - m2))
    (hS : IntKind.u64.wrap (IntKind.u64.wrap (IntKind.u64.wrap (R * 4294967296) + v0) - IntKind.u64.wrap (digit A b R v0 * D)) = S) (cS : 0 ≤ S) (cS1 : S ≤ 18446744073709551615) :
    Gives Try.prog 39 #[.int .u64 hi, .int .u64 lo, .int .u64 y] (.tuple #[.int .u64 (digit A b U v1 * 4294967296 + digit A b R v0), .int .u64 (S / 2 ^ s.toNat)]) := by
  refine Gives.mk fun w => ?_
  have dd := digit_bd cA cb cU cv cv1 (by have := eD.out; omega)
  have d2 := digit_bd cA cb cR cw cw1 (by have := eD.out; omega)
  go_enter Try.func39, Try.ntmps39
  go_upto_block 0 with (go_at_call 62; refine (Try.bits_LeadingZeros64 y _ (by omega) (by omega)).mono ?_; rintro e w1 ⟨rfl, hw⟩; rw [hs, hw]; clear hw w1)
  clear hD hU hV hs
  go_cut [15, 16] (fun s15 s16 wx => s15 = .int .u64 (digit A b U v1) ∧ wx = w)
  case first =>
    go_wp2_with fail
    go_loop [15, 16] (fun t u => ∃ q r : Int, t = .int .u64 q ∧ u = .int .u64 r ∧ DivInv A b U v1 q r) (fun t _ => (intOf t).toNat)
    case atStart => exact ⟨_, _, rfl, rfl, inv⟩
    case round =>
      obtain ⟨q, r, rfl, rfl, hinv⟩ := hrel
      have hq := inv_le hinv
      have hq1 := hinv.2.1
      have hr0 := hinv.2.2.2.1
      have hr1 := hinv.2.2.2.2
      have hUD : U < A * 4294967296 + b := by have := eD.out; omega
      clear inv inv2 hR hS hm hm2
      by_cases t1 : 4294967296 ≤ q
      · have ty := test_yes cA cb cU cv cv1 hUD hinv (.inl t1)
        by_cases t2 : r + A ≤ 4294967295
        · have hn := inv_next hinv ty cA t2
          go_wp2
          exact ⟨⟨_, _, rfl, rfl, hn⟩, by simp [intOf]; omega⟩
        · have hn := Lib.hid (break_out hinv ty cA cb cb1 cv (by omega) dd.1)
          go_wp2
          go_meet
          exact ⟨by rw [hn.out], rfl⟩
      · obtain ⟨t, ht⟩ : ∃ t, IntKind.u64.wrap (q * b) = t := ⟨_, rfl⟩
        have et : t = q * b := by
          rw [← ht]
          have h1 : q * b ≤ 4294967295 * 4294967295 := Int.mul_le_mul (by omega) cb1 cb (by omega)
          have h2 : 0 ≤ q * b := Int.mul_nonneg (by omega) cb
          exact IntWalk.u64_in _ (by omega)
        have t0 : 0 ≤ t ∧ t ≤ 18446744073709551615 := by rw [← ht, IntKind.wrap_u64]; omega
        by_cases t3 : 4294967296 * r + v1 < t
        · have ty := test_yes cA cb cU cv cv1 hUD hinv (.inr (et ▸ t3))
          clear et
          by_cases t2 : r + A ≤ 4294967295
          · have hn := inv_next hinv ty cA t2
            go_wp2
            go_round
            case rel => exact ⟨_, _, rfl, rfl, hn⟩
            case measure => simp [intOf]; omega
          · have hn := Lib.hid (break_out hinv ty cA cb cb1 cv (by omega) dd.1)
            go_wp2
            go_meet
            exact ⟨by rw [hn.out], rfl⟩
        · have hn := Lib.hid (test_no cA cb hinv (by omega))
          clear et
          go_wp2
          go_meet
          exact ⟨by rw [hn.out], rfl⟩
  case rest =>
    obtain ⟨rfl, rfl⟩ := hcut
    clear inv hm
    go_upto_block 2 with fail
    go_cut [18, 16] (fun s18 s16 wx => s18 = .int .u64 (digit A b R v0) ∧ wx = wc)
    case first =>
      go_wp2_with fail
      go_loop [18, 16] (fun t u => ∃ q r : Int, t = .int .u64 q ∧ u = .int .u64 r ∧ DivInv A b R v0 q r) (fun t _ => (intOf t).toNat)
      case atStart => exact ⟨_, _, rfl, rfl, inv2⟩
      case round =>
        obtain ⟨q, r, rfl, rfl, hinv⟩ := hrel
        have hq := inv_le hinv
        have hq1 := hinv.2.1
        have hr0 := hinv.2.2.2.1
        have hr1 := hinv.2.2.2.2
        have hUD : R < A * 4294967296 + b := by have := eD.out; omega
        clear inv2 hR hS hm2
        by_cases t1 : 4294967296 ≤ q
        · have ty := test_yes cA cb cR cw cw1 hUD hinv (.inl t1)
          by_cases t2 : r + A ≤ 4294967295
          · have hn := inv_next hinv ty cA t2
            go_wp2
            exact ⟨⟨_, _, rfl, rfl, hn⟩, by simp [intOf]; omega⟩
          · have hn := Lib.hid (break_out hinv ty cA cb cb1 cw (by omega) d2.1)
            go_wp2
            go_meet
            exact ⟨by rw [hn.out], rfl⟩
        · obtain ⟨t, ht⟩ : ∃ t, IntKind.u64.wrap (q * b) = t := ⟨_, rfl⟩
          have et : t = q * b := by
            rw [← ht]
            have h1 : q * b ≤ 4294967295 * 4294967295 := Int.mul_le_mul (by omega) cb1 cb (by omega)
            have h2 : 0 ≤ q * b := Int.mul_nonneg (by omega) cb
            exact IntWalk.u64_in _ (by omega)
          have t0 : 0 ≤ t ∧ t ≤ 18446744073709551615 := by rw [← ht, IntKind.wrap_u64]; omega
          by_cases t3 : 4294967296 * r + v0 < t
          · have ty := test_yes cA cb cR cw cw1 hUD hinv (.inr (et ▸ t3))
            clear et
            by_cases t2 : r + A ≤ 4294967295
            · have hn := inv_next hinv ty cA t2
              go_wp2
              go_round
              case rel => exact ⟨_, _, rfl, rfl, hn⟩
              case measure => simp [intOf]; omega
            · have hn := Lib.hid (break_out hinv ty cA cb cb1 cw (by omega) d2.1)
              go_wp2
              go_meet
              exact ⟨by rw [hn.out], rfl⟩
          · have hn := Lib.hid (test_no cA cb hinv (by omega))
            clear et
            go_wp2
            go_meet
            exact ⟨by rw [hn.out], rfl⟩
    case rest =>
      obtain ⟨rfl, rfl⟩ := hcut
      clear inv2 hm2 hR
      go_wp2
      go_ret2
      exact ⟨rfl, Below.refl _ _⟩
end Go.Proofs.Ytgfgaaecpdbgeaa
