/- The contract of math/bits.Div64. -/
import Derived.Test.YtgfgaaecpdbgeaaMWide
import Derived.Test.YtgfgaaecpdbgeaaMMath
import Derived.Deep.DeepCutAuto
import Derived.Deep.CutBlock
import Derived.Laws.Bits64b
namespace Go.Proofs.Ytgfgaaecpdbgeaa
open Go.RowKit
set_option linter.unusedVariables false
set_option linter.unusedSimpArgs false

theorem div64_zero (lo y : Int) (a0 : 0 ≤ lo) (a1 : lo ≤ 18446744073709551615) (b0 : 1 ≤ y) (b1 : y ≤ 18446744073709551615) :
    Gives Try.prog 39 #[.int .u64 0, .int .u64 lo, .int .u64 y] (.tuple #[.int .u64 (lo / y), .int .u64 (lo % y)]) := by
  refine Gives.mk fun w => ?_
  go_enter Try.func39, Try.ntmps39
  go_wp2
  refine wp_region_grow (by kernel_rfl) (by kernel_rfl) ?_
  repeat (go_big_quiet_step ((fail)))
  refine wpQuiet_nil ?_
  rintro _ ⟨x, rfl⟩
  go_wp2
  go_ret2
  exact ⟨rfl, by repeat (first | exact Below.refl _ _ | refine bel_grow ?_ _ | refine bel_alloc ?_ _)⟩

set_option maxHeartbeats 1000000 in
theorem div64_big (hi lo y : Int) (a0 : 0 ≤ lo) (a1 : lo ≤ 18446744073709551615) (b0 : 1 ≤ hi) (b1 : y ≤ 18446744073709551615) (b2 : hi < y) (s : Int) (hs : 64 - (Lib.bitLen y.toNat : Int) = s)
    (s0 : 0 ≤ s) (s1 : s ≤ 63) (D A b U V v1 v0 m : Int) (hD : IntKind.u64.wrap (y * 2 ^ s.toNat) = D) (d1 : D ≤ 18446744073709551615)
    (hA : D / 4294967296 = A) (hb : bits .and .u64 D 4294967295 = b) (hU : bits .or .u64 (IntKind.u64.wrap (hi * 2 ^ s.toNat)) (lo / 2 ^ (64 - s).toNat) = U)
    (hV : IntKind.u64.wrap (lo * 2 ^ s.toNat) = V) (hv1 : V / 4294967296 = v1) (hv0 : bits .and .u64 V 4294967295 = v0)
    (eD : Hid (D = A * 4294967296 + b)) (cA : 2147483648 ≤ A) (cA1 : A ≤ 4294967295) (cb : 0 ≤ b) (cb1 : b ≤ 4294967295) (cU : 0 ≤ U) (cU1 : U < D)
    (cv : 0 ≤ v1) (cv1 : v1 ≤ 4294967295) (cw : 0 ≤ v0) (cw1 : v0 ≤ 4294967295) (hm : IntKind.u64.wrap (U / A * A) = m) (em : Hid (m = U / A * A)) (cm0 : 0 ≤ m) (cm1 : m ≤ U) (inv : DivInv A b U v1 (U / A) (U - m))
    (R m2 S : Int) (hR : IntKind.u64.wrap (IntKind.u64.wrap (IntKind.u64.wrap (U * 4294967296) + v1) - IntKind.u64.wrap (digit A b U v1 * D)) = R) (cR : 0 ≤ R) (cR1 : R < D)
    (hm2 : IntKind.u64.wrap (R / A * A) = m2) (cm2 : 0 ≤ m2) (cm3 : m2 ≤ R) (inv2 : DivInv A b R v0 (R / A) (R - m2))
    (hS : IntKind.u64.wrap (IntKind.u64.wrap (IntKind.u64.wrap (R * 4294967296) + v0) - IntKind.u64.wrap (digit A b R v0 * D)) = S) (cS : 0 ≤ S) (cS1 : S ≤ 18446744073709551615) :
    Gives Try.prog 39 #[.int .u64 hi, .int .u64 lo, .int .u64 y] (.tuple #[.int .u64 (digit A b U v1 * 4294967296 + digit A b R v0), .int .u64 (S / 2 ^ s.toNat)]) := by
  refine Gives.mk fun w => ?_
  have dd := digit_bd cA cb cU cv cv1 (by have := eD.out; omega)
  have d2 := digit_bd cA cb cR cw cw1 (by have := eD.out; omega)
  go_enter Try.func39, Try.ntmps39
  go_upto_block 0 with (go_at_call 62; refine (Try.bits_LeadingZeros64 y _ (by omega) (by omega)).mono ?_; rintro e w1 ⟨rfl, hw⟩; rw [hs, hw]; clear hw w1)
  clear hD hU hV hs
  go_cut [15, 16] (fun s15 s16 wx => s15 = .int .u64 (digit A b U v1) ∧ wx = w)
  case first =>
    go_wp2_with fail
    go_loop [15, 16] (fun t u => ∃ q r : Int, t = .int .u64 q ∧ u = .int .u64 r ∧ DivInv A b U v1 q r) (fun t _ => (intOf t).toNat)
    case atStart => exact ⟨_, _, rfl, rfl, inv⟩
    case round =>
      obtain ⟨q, r, rfl, rfl, hinv⟩ := hrel
      have hq := inv_le hinv
      have hq1 := hinv.2.1
      have hr0 := hinv.2.2.2.1
      have hr1 := hinv.2.2.2.2
      have hUD : U < A * 4294967296 + b := by have := eD.out; omega
      clear inv inv2 hR hS hm hm2
      by_cases t1 : 4294967296 ≤ q
      · have ty := test_yes cA cb cU cv cv1 hUD hinv (.inl t1)
        by_cases t2 : r + A ≤ 4294967295
        · have hn := inv_next hinv ty cA t2
          go_wp2
          exact ⟨⟨_, _, rfl, rfl, hn⟩, by simp [intOf]; omega⟩
        · have hn := Lib.hid (break_out hinv ty cA cb cb1 cv (by omega) dd.1)
          go_wp2
          go_meet
          exact ⟨by rw [hn.out], rfl⟩
      · obtain ⟨t, ht⟩ : ∃ t, IntKind.u64.wrap (q * b) = t := ⟨_, rfl⟩
        have et : t = q * b := by
          rw [← ht]
          have h1 : q * b ≤ 4294967295 * 4294967295 := Int.mul_le_mul (by omega) cb1 cb (by omega)
          have h2 : 0 ≤ q * b := Int.mul_nonneg (by omega) cb
          exact IntWalk.u64_in _ (by omega)
        have t0 : 0 ≤ t ∧ t ≤ 18446744073709551615 := by rw [← ht, IntKind.wrap_u64]; omega
        by_cases t3 : 4294967296 * r + v1 < t
        · have ty := test_yes cA cb cU cv cv1 hUD hinv (.inr (et ▸ t3))
          clear et
          by_cases t2 : r + A ≤ 4294967295
          · have hn := inv_next hinv ty cA t2
            go_wp2
            go_round
            case rel => exact ⟨_, _, rfl, rfl, hn⟩
            case measure => simp [intOf]; omega
          · have hn := Lib.hid (break_out hinv ty cA cb cb1 cv (by omega) dd.1)
            go_wp2
            go_meet
            exact ⟨by rw [hn.out], rfl⟩
        · have hn := Lib.hid (test_no cA cb hinv (by omega))
          clear et
          go_wp2
          go_meet
          exact ⟨by rw [hn.out], rfl⟩
  case rest =>
    obtain ⟨rfl, rfl⟩ := hcut
    clear inv hm
    go_upto_block 2 with fail
    go_cut [18, 16] (fun s18 s16 wx => s18 = .int .u64 (digit A b R v0) ∧ wx = wc)
    case first =>
      go_wp2_with fail
      go_loop [18, 16] (fun t u => ∃ q r : Int, t = .int .u64 q ∧ u = .int .u64 r ∧ DivInv A b R v0 q r) (fun t _ => (intOf t).toNat)
      case atStart => exact ⟨_, _, rfl, rfl, inv2⟩
      case round =>
        obtain ⟨q, r, rfl, rfl, hinv⟩ := hrel
        have hq := inv_le hinv
        have hq1 := hinv.2.1
        have hr0 := hinv.2.2.2.1
        have hr1 := hinv.2.2.2.2
        have hUD : R < A * 4294967296 + b := by have := eD.out; omega
        clear inv2 hR hS hm2
        by_cases t1 : 4294967296 ≤ q
        · have ty := test_yes cA cb cR cw cw1 hUD hinv (.inl t1)
          by_cases t2 : r + A ≤ 4294967295
          · have hn := inv_next hinv ty cA t2
            go_wp2
            exact ⟨⟨_, _, rfl, rfl, hn⟩, by simp [intOf]; omega⟩
          · have hn := Lib.hid (break_out hinv ty cA cb cb1 cw (by omega) d2.1)
            go_wp2
            go_meet
            exact ⟨by rw [hn.out], rfl⟩
        · obtain ⟨t, ht⟩ : ∃ t, IntKind.u64.wrap (q * b) = t := ⟨_, rfl⟩
          have et : t = q * b := by
            rw [← ht]
            have h1 : q * b ≤ 4294967295 * 4294967295 := Int.mul_le_mul (by omega) cb1 cb (by omega)
            have h2 : 0 ≤ q * b := Int.mul_nonneg (by omega) cb
            exact IntWalk.u64_in _ (by omega)
          have t0 : 0 ≤ t ∧ t ≤ 18446744073709551615 := by rw [← ht, IntKind.wrap_u64]; omega
          by_cases t3 : 4294967296 * r + v0 < t
          · have ty := test_yes cA cb cR cw cw1 hUD hinv (.inr (et ▸ t3))
            clear et
            by_cases t2 : r + A ≤ 4294967295
            · have hn := inv_next hinv ty cA t2
              go_wp2
              go_round
              case rel => exact ⟨_, _, rfl, rfl, hn⟩
              case measure => simp [intOf]; omega
            · have hn := Lib.hid (break_out hinv ty cA cb cb1 cw (by omega) d2.1)
              go_wp2
              go_meet
              exact ⟨by rw [hn.out], rfl⟩
          · have hn := Lib.hid (test_no cA cb hinv (by omega))
            clear et
            go_wp2
            go_meet
            exact ⟨by rw [hn.out], rfl⟩
    case rest =>
      obtain ⟨rfl, rfl⟩ := hcut
      clear inv2 hm2 hR
      go_wp2
      go_ret2
      exact ⟨rfl, Below.refl _ _⟩
end Go.Proofs.Ytgfgaaecpdbgeaa

/- The contract of math/bits.Div64, whole. -/
namespace Go.Proofs.Ytgfgaaecpdbgeaa
open Go.RowKit
set_option linter.unusedVariables false
set_option linter.unusedSimpArgs false

theorem and_mask (a : Int) (h0 : 0 ≤ a) (h1 : a ≤ 18446744073709551615) : bits .and .u64 a 4294967295 = a % 4294967296 := by
  obtain ⟨n, rfl⟩ := Int.eq_ofNat_of_zero_le h0
  have h := bits_and_u64_nat n 4294967295 (by omega) (by omega)
  have e : n &&& 4294967295 = n % 4294967296 := Nat.and_two_pow_sub_one_eq_mod n 32
  rw [e] at h
  rw [show (4294967295 : Int) = ((4294967295 : Nat) : Int) from rfl, h]
  omega
theorem or_join (hi p b : Nat) (s : Nat) (hp : p = 2 ^ s) (hb : b < p) (h : hi * p + b < 18446744073709551616) :
    bits .or .u64 ((hi * p : Nat) : Int) (b : Int) = ((hi * p + b : Nat) : Int) := by
  rw [bits_or_u64_nat (hi * p) b (by omega) (by omega)]
  subst hp
  rw [Nat.mul_comm hi, ← Nat.two_pow_add_eq_or_of_lt hb]
theorem bitLenAux_spec : ∀ (f x : Nat), x < 2 ^ f → x < 2 ^ Lib.bitLenAux f x ∧ (x ≠ 0 → 2 ^ (Lib.bitLenAux f x - 1) ≤ x)
  | 0, x, h => by simp at h; subst h; simp [Lib.bitLenAux]
  | f + 1, x, h => by
    by_cases h0 : x = 0
    · subst h0; simp [Lib.bitLenAux]
    · have ih := bitLenAux_spec f (x / 2) (by rw [Nat.pow_succ] at h; omega)
      rw [Lib.bitLenAux, if_neg h0]
      refine ⟨by rw [Nat.add_comm, Nat.pow_succ]; omega, fun _ => ?_⟩
      rw [show 1 + Lib.bitLenAux f (x / 2) - 1 = Lib.bitLenAux f (x / 2) from by omega]
      by_cases h1 : x / 2 = 0
      · rw [h1]
        have : Lib.bitLenAux f 0 = 0 := by cases f <;> simp [Lib.bitLenAux]
        rw [this]; omega
      · have h2 := ih.2 h1
        have h3 : 0 < Lib.bitLenAux f (x / 2) := by
          rcases Nat.eq_zero_or_pos (Lib.bitLenAux f (x / 2)) with e | e
          · have := ih.1; rw [e] at this; omega
          · exact e
        have h4 : 2 ^ Lib.bitLenAux f (x / 2) = 2 ^ (Lib.bitLenAux f (x / 2) - 1) * 2 := by rw [← Nat.pow_succ]; congr 1; omega
        omega
theorem bitLen_spec (x : Nat) (h : x < 18446744073709551616) : x < 2 ^ Lib.bitLen x ∧ (x ≠ 0 → 2 ^ (Lib.bitLen x - 1) ≤ x) := bitLenAux_spec 64 x h
/-- The shift that brings the divisor's highest bit up. -/
theorem shift_facts (y : Nat) (hy : 0 < y) (hy1 : y < 18446744073709551616) : Lib.bitLen y ≤ 64 ∧ 1 ≤ Lib.bitLen y ∧ 9223372036854775808 ≤ y * 2 ^ (64 - Lib.bitLen y) ∧ y * 2 ^ (64 - Lib.bitLen y) < 18446744073709551616 := by
  have h := bitLen_spec y hy1
  have h2 := h.2 (by omega)
  have h3 := Lib.bitLen_le y 64 (by omega) (by omega)
  have h4 : 1 ≤ Lib.bitLen y := by
    rcases Nat.eq_zero_or_pos (Lib.bitLen y) with e | e
    · rw [e] at h; omega
    · exact e
  refine ⟨h3, h4, ?_, ?_⟩
  · have : 2 ^ (Lib.bitLen y - 1) * 2 ^ (64 - Lib.bitLen y) ≤ y * 2 ^ (64 - Lib.bitLen y) := Nat.mul_le_mul_right _ h2
    rw [← Nat.pow_add, show Lib.bitLen y - 1 + (64 - Lib.bitLen y) = 63 from by omega] at this
    omega
  · have : y * 2 ^ (64 - Lib.bitLen y) < 2 ^ Lib.bitLen y * 2 ^ (64 - Lib.bitLen y) := Nat.mul_lt_mul_of_pos_right h.1 (Nat.two_pow_pos _)
    rw [← Nat.pow_add, show Lib.bitLen y + (64 - Lib.bitLen y) = 64 from by omega] at this
    omega

set_option maxHeartbeats 1000000 in
theorem div64_nat (hi lo y : Nat) (a1 : lo < 18446744073709551616) (b0 : 1 ≤ hi) (b1 : y < 18446744073709551616) (b2 : hi < y) :
    Gives Try.prog 39 #[.int .u64 hi, .int .u64 lo, .int .u64 y] (.tuple #[.int .u64 ((hi * 18446744073709551616 + lo : Int) / y), .int .u64 ((hi * 18446744073709551616 + lo : Int) % y)]) := by
  obtain ⟨f1, f2, f3, f4⟩ := shift_facts y (by omega) b1
  obtain ⟨s, hs⟩ : ∃ s, 64 - Lib.bitLen y = s := ⟨_, rfl⟩
  rw [hs] at f3 f4
  obtain ⟨p, hp⟩ : ∃ p, 2 ^ s = p := ⟨_, rfl⟩
  have hsl : s ≤ 63 := by omega
  have p0 : 0 < p := hp ▸ Nat.two_pow_pos s
  have eS : 64 - (Lib.bitLen (y : Int).toNat : Int) = (s : Int) := by rw [Int.toNat_natCast]; omega
  have ep : (2 : Int) ^ (s : Int).toNat = (p : Int) := by rw [Int.toNat_natCast, ← hp]; simp
  have eq : (2 : Int) ^ (64 - (s : Int)).toNat = ((2 ^ (64 - s) : Nat) : Int) := by rw [show (64 - (s : Int)).toNat = 64 - s from by omega]; simp
  have h64 : 2 ^ (64 - s) * p = 18446744073709551616 := by rw [← hp, ← Nat.pow_add, show 64 - s + s = 64 from by omega]
  rw [hp] at f3 f4
  have q0 : 0 < 2 ^ (64 - s) := Nat.two_pow_pos _
  obtain ⟨b, hb⟩ : ∃ b, lo / 2 ^ (64 - s) = b := ⟨_, rfl⟩
  have blt : b < p := by rw [← hb]; exact (Nat.div_lt_iff_lt_mul q0).2 (by rw [Nat.mul_comm, h64]; omega)
  have hip : hi * p + p ≤ y * p := by rw [← Nat.succ_mul]; exact Nat.mul_le_mul_right _ b2
  have blo : b = lo * p / 18446744073709551616 := by rw [← hb, ← h64]; exact (Nat.mul_div_mul_right _ _ p0).symm
  generalize hD : y * p = D at *
  generalize hU : hi * p + b = U at *
  generalize hV : lo * p % 18446744073709551616 = V at *
  have eN : U * 18446744073709551616 + V = (hi * 18446744073709551616 + lo) * p := by
    rw [Nat.add_mul, Nat.mul_right_comm]; omega
  have eD : Hid ((D : Int) = (D : Int) / 4294967296 * 4294967296 + (D : Int) % 4294967296) := by show _ = _; omega
  have cA : 2147483648 ≤ (D : Int) / 4294967296 := by omega
  have cA1 : (D : Int) / 4294967296 ≤ 4294967295 := by omega
  have cb : 0 ≤ (D : Int) % 4294967296 := by omega
  have cb1 : (D : Int) % 4294967296 ≤ 4294967295 := by omega
  have hUD : (U : Int) < (D : Int) / 4294967296 * 4294967296 + (D : Int) % 4294967296 := by omega
  obtain ⟨v1, hv1⟩ : ∃ v1, (V : Int) / 4294967296 = v1 := ⟨_, rfl⟩
  obtain ⟨v0, hv0⟩ : ∃ v0, (V : Int) % 4294967296 = v0 := ⟨_, rfl⟩
  obtain ⟨A, hA⟩ : ∃ A, (D : Int) / 4294967296 = A := ⟨_, rfl⟩
  obtain ⟨c, hc⟩ : ∃ c, (D : Int) % 4294967296 = c := ⟨_, rfl⟩
  rw [hA, hc] at eD hUD
  rw [hA] at cA cA1
  rw [hc] at cb cb1
  have eD' := eD.out
  have inv := inv_first (v := v1) cA cA1 cb cb1 (by omega : (0 : Int) ≤ U) (by omega) (by omega) hUD
  have rb := rest_bd (U := (U : Int)) (v := v1) cA cb (by omega) (by omega)
  have dg := digit_bd (U := (U : Int)) (v := v1) cA cb (by omega) (by omega) (by omega) hUD
  rw [← eD'] at rb
  obtain ⟨R, hR⟩ : ∃ R, (U : Int) * 4294967296 + v1 - digit A c U v1 * D = R := ⟨_, rfl⟩
  rw [hR] at rb
  have inv2 := inv_first (v := v0) cA cA1 cb cb1 rb.1 (by omega) (by omega) (by omega)
  have rb2 := rest_bd (U := R) (v := v0) cA cb rb.1 (by omega)
  have dg2 := digit_bd (U := R) (v := v0) cA cb rb.1 (by omega) (by omega) (by omega)
  rw [← eD'] at rb2
  obtain ⟨S, hS⟩ : ∃ S, R * 4294967296 + v0 - digit A c R v0 * D = S := ⟨_, rfl⟩
  rw [hS] at rb2
  have td := two_digits (D : Int) U v1 v0 (digit A c U v1) (digit A c R v0) R (by omega) hR (by rw [hS]; exact rb2.1) (by rw [hS]; exact rb2.2)
  have m1 : 0 ≤ (U : Int) / A * A ∧ (U : Int) / A * A ≤ U := ⟨Int.mul_nonneg (Int.ediv_nonneg (by omega) (by omega)) (by omega), by have := inv.2.2.2.1; omega⟩
  have m2 : 0 ≤ R / A * A ∧ R / A * A ≤ R := ⟨Int.mul_nonneg (Int.ediv_nonneg rb.1 (by omega)) (by omega), by have := inv2.2.2.2.1; omega⟩
  have sc := scaled (hi * 18446744073709551616 + lo : Int) y p (by omega)
  have e1 : ((hi * 18446744073709551616 + lo : Int)) * p = (U : Int) * 18446744073709551616 + (v1 * 4294967296 + v0) := by
    have : ((U * 18446744073709551616 + V : Nat) : Int) = (((hi * 18446744073709551616 + lo) * p : Nat) : Int) := by rw [eN]
    simp only [Int.natCast_mul, Int.natCast_add] at this
    have e2 : ((18446744073709551616 : Nat) : Int) = 18446744073709551616 := rfl
    rw [e2] at this
    omega
  have e3 : (y : Int) * p = (D : Int) := by rw [← hD]; simp
  rw [e1, e3, td.1, td.2] at sc
  have core := div64_big hi lo y (by omega) (by omega) (by omega) (by omega) (by omega) s eS (by omega) (by omega) D A c U V v1 v0 ((U : Int) / A * A)
    (by rw [ep, e3, IntKind.wrap_u64]; omega) (by omega) hA (by rw [and_mask _ (by omega) (by omega), hc])
    (by rw [ep, eq, show (lo : Int) / ((2 ^ (64 - s) : Nat) : Int) = ((lo / 2 ^ (64 - s) : Nat) : Int) from by simp, hb, show (hi : Int) * p = ((hi * p : Nat) : Int) from by simp,
      show IntKind.u64.wrap ((hi * p : Nat) : Int) = ((hi * p : Nat) : Int) from by rw [IntKind.wrap_u64]; omega, or_join hi p b s hp.symm blt (by omega), hU])
    (by rw [ep, show (lo : Int) * p = ((lo * p : Nat) : Int) from by simp, IntKind.wrap_u64, ← hV]; omega)
    hv1 (by rw [and_mask _ (by omega) (by omega), hv0]) eD cA cA1 cb cb1 (by omega) (by omega) (by omega) (by omega) (by omega) (by omega)
    (by rw [IntKind.wrap_u64]; omega) rfl m1.1 m1.2 inv R (R / A * A) S
    (by simp only [IntKind.wrap_u64]; omega) rb.1 rb.2 (by rw [IntKind.wrap_u64]; omega) m2.1 m2.2 inv2
    (by simp only [IntKind.wrap_u64]; omega) rb2.1 (by omega)
  rw [hS] at sc
  rw [ep, sc.1, sc.2] at core
  exact core
theorem div64_any (hi lo y : Int) (h0 : 0 ≤ hi) (a0 : 0 ≤ lo) (a1 : lo ≤ 18446744073709551615) (b1 : y ≤ 18446744073709551615) (b2 : hi < y) :
    Gives Try.prog 39 #[.int .u64 hi, .int .u64 lo, .int .u64 y] (.tuple #[.int .u64 ((hi * 18446744073709551616 + lo) / y), .int .u64 ((hi * 18446744073709551616 + lo) % y)]) := by
  by_cases hz : hi = 0
  · subst hz
    have := div64_zero lo y a0 a1 (by omega) b1
    simpa using this
  · obtain ⟨n, rfl⟩ := Int.eq_ofNat_of_zero_le h0
    obtain ⟨m, rfl⟩ := Int.eq_ofNat_of_zero_le a0
    obtain ⟨k, rfl⟩ := Int.eq_ofNat_of_zero_le (by omega : 0 ≤ y)
    exact div64_nat n m k (by omega) (by omega) (by omega) (by omega)
end Go.Proofs.Ytgfgaaecpdbgeaa

/- The contract of wide's call Div. -/
namespace Go.Proofs.Ytgfgaaecpdbgeaa
open Go.RowKit
set_option linter.unusedVariables false
set_option linter.unusedSimpArgs false

theorem i64_xor_0 (x : Int) (h0 : -9223372036854775808 ≤ x) (h1 : x ≤ 9223372036854775807) : bits .xor .i64 x 0 = x := by
  have h : BitVec.ofInt 64 0 = 0#64 := by decide
  have e : bits .xor .i64 x 0 = (BitVec.ofInt 64 x ^^^ BitVec.ofInt 64 0).toInt := i64_toInt _
  rw [e, h, BitVec.xor_zero, ofInt_toInt x h0 h1]
theorem i64_xor_m1 (x : Int) (h0 : -9223372036854775808 ≤ x) (h1 : x ≤ 9223372036854775807) : bits .xor .i64 x (-1) = -1 - x := by
  have h : BitVec.ofInt 64 (-1) = BitVec.allOnes 64 := by decide
  have e : bits .xor .i64 x (-1) = (BitVec.ofInt 64 x ^^^ BitVec.ofInt 64 (-1)).toInt := i64_toInt _
  rw [e, h, BitVec.xor_allOnes, BitVec.toInt_not, BitVec.toNat_ofInt, Int.bmod_def]
  have : ((2 ^ 64 : Nat) : Int) = 18446744073709551616 := by decide
  rw [this]
  split <;> omega
theorem u64_xor_0 (x : Int) (h0 : 0 ≤ x) (h1 : x ≤ 18446744073709551615) : bits .xor .u64 x 0 = x := by
  obtain ⟨n, rfl⟩ := Int.eq_ofNat_of_zero_le h0
  have h := bits_xor_u64_nat n 0 (by omega) (by omega)
  simpa using h
theorem u64_xor_all (x : Int) (h0 : 0 ≤ x) (h1 : x ≤ 18446744073709551615) : bits .xor .u64 x (IntKind.u64.wrap (-1)) = 18446744073709551615 - x := by
  rw [show IntKind.u64.wrap (-1) = 18446744073709551615 from by rw [IntKind.wrap_u64]; rfl]
  have h : BitVec.ofInt 64 18446744073709551615 = BitVec.allOnes 64 := by decide
  show IntKind.u64.wrap ((BitVec.ofInt 64 x ^^^ BitVec.ofInt 64 18446744073709551615).toNat : Int) = _
  rw [h, BitVec.xor_allOnes, BitVec.toNat_not, BitVec.toNat_ofInt, IntKind.wrap_u64]
  have : ((2 ^ 64 : Nat) : Int) = 18446744073709551616 := by decide
  rw [this]
  omega

/-! one step of long division -/
theorem step_hi (n d : Int) (_h0 : 1 ≤ d) : hiOf n / d = hiOf (n / d) := by
  unfold hiOf
  rw [Int.ediv_ediv_of_nonneg (by omega), Int.ediv_ediv_of_nonneg (by omega), Int.mul_comm]
theorem step_split (n d : Int) : n = hiOf n / d * 18446744073709551616 * d + (hiOf n % d * 18446744073709551616 + loOf n) := by
  have e := hi_lo n
  have e1 := Int.emod_add_mul_ediv (hiOf n) d
  have e2 : hiOf n / d * 18446744073709551616 * d = d * (hiOf n / d) * 18446744073709551616 := by
    rw [Int.mul_comm, ← Int.mul_assoc]
  rw [e2]
  omega
theorem step_q (n d : Int) (h0 : 1 ≤ d) : (hiOf n % d * 18446744073709551616 + loOf n) / d = loOf (n / d) ∧ (hiOf n % d * 18446744073709551616 + loOf n) % d = n % d := by
  have r0 := Int.emod_nonneg (hiOf n) (by omega : d ≠ 0)
  have r1 := Int.emod_lt_of_pos (hiOf n) (by omega : 0 < d)
  have l := lo_bd n
  have e := step_split n d
  have q1 : (hiOf n % d * 18446744073709551616 + loOf n) / d < 18446744073709551616 := Int.ediv_lt_of_lt_mul (by omega) (by
    have : (hiOf n % d + 1) * 18446744073709551616 ≤ d * 18446744073709551616 := Int.mul_le_mul_of_nonneg_right (by omega) (by omega)
    omega)
  have q0 : 0 ≤ (hiOf n % d * 18446744073709551616 + loOf n) / d := Int.ediv_nonneg (by omega) (by omega)
  have e3 : n / d = hiOf n / d * 18446744073709551616 + (hiOf n % d * 18446744073709551616 + loOf n) / d := by
    have : n / d = (hiOf n / d * 18446744073709551616 * d + (hiOf n % d * 18446744073709551616 + loOf n)) / d := by rw [← e]
    rw [this, Int.add_comm, Int.add_mul_ediv_right _ _ (by omega)]
    omega
  constructor
  · rw [e3]; exact (lo_mk _ _ q0 (by omega)).symm
  · have : n % d = (hiOf n / d * 18446744073709551616 * d + (hiOf n % d * 18446744073709551616 + loOf n)) % d := by rw [← e]
    rw [this, Int.add_comm (_ * d), Int.add_mul_emod_self_right]
/-- All bits turned, a quotient rounds down: -1 - (-1 - n) / d is n / d. -/
theorem flip_div (n d : Int) (h0 : 1 ≤ d) : (-1 - n) / d = -1 - n / d ∧ (-1 - n) % d = d - 1 - n % d := by
  have e := Int.emod_add_mul_ediv n d
  have r0 := Int.emod_nonneg n (by omega : d ≠ 0)
  have r1 := Int.emod_lt_of_pos n (by omega : 0 < d)
  have e2 : -1 - n = (d - 1 - n % d) + (-1 - n / d) * d := by
    rw [Int.sub_mul, Int.mul_comm (n / d) d]; omega
  constructor
  · rw [e2, Int.add_mul_ediv_right _ _ (by omega), Int.ediv_eq_zero_of_lt (by omega) (by omega)]; omega
  · rw [e2, Int.add_mul_emod_self_right, Int.emod_eq_of_lt (by omega) (by omega)]
theorem flip_hi (n : Int) : hiOf (-1 - n) = -1 - hiOf n := by unfold hiOf; omega
theorem flip_lo (n : Int) : loOf (-1 - n) = 18446744073709551615 - loOf n := by unfold loOf; omega
theorem inW_div (n d : Int) (hn : InW n) (h0 : 1 ≤ d) : InW (n / d) := by
  unfold InW at *
  constructor
  · exact (Int.le_ediv_iff_mul_le (by omega)).2 (by
      have : (-170141183460469231731687303715884105728 : Int) * d ≤ -170141183460469231731687303715884105728 * 1 := Int.mul_le_mul_of_nonpos_left (by omega) (by omega)
      omega)
  · rcases Int.lt_or_le n 0 with h | h
    · have := Int.ediv_neg_of_neg_of_pos h (by omega : 0 < d); omega
    · have := Int.ediv_le_self d h; omega

theorem div_none (a c d : Int) (h : d < 1) (h1 : -9223372036854775808 ≤ d) :
    Gives Try.prog 14 #[.agg #[.int .i64 a, .int .u64 c], .int .i64 d] (.tuple #[.agg #[.int .i64 0, .int .u64 0], .int .i64 0, .bool false]) := by
  refine Gives.mk fun w => ?_
  go_enter Try.func14, Try.ntmps14
  go_wp2
  refine bodyPost_ret (v := .tuple #[.agg #[.int .i64 0, .int .u64 0], .int .i64 0, .bool false]) (by simp [results, Try.results14, go_sem]) rfl ⟨rfl, ?_⟩
  exact bel_alloc (bel_alloc (Below.refl _ _) _) _

set_option maxHeartbeats 400000 in
theorem div_pos (n d : Int) (hn : InW n) (h : 0 ≤ n) (h0 : 1 ≤ d) (h1 : d ≤ 9223372036854775807) :
    Gives Try.prog 14 #[.agg #[.int .i64 (hiOf n), .int .u64 (loOf n)], .int .i64 d] (.tuple #[.agg #[.int .i64 (hiOf (n / d)), .int .u64 (loOf (n / d))], .int .i64 (n % d), .bool true]) := by
  refine Gives.mk fun w => ?_
  have b := hi_bd hn
  have l := lo_bd n
  have b2 : 0 ≤ hiOf n := by unfold hiOf; omega
  have e0 : hiOf n / 9223372036854775808 = 0 := by omega
  have x1 := i64_xor_0 (hiOf n) b.1 b.2
  have x2 := u64_xor_0 (loOf n) l.1 l.2
  have r0 := Int.emod_nonneg (hiOf n) (by omega : d ≠ 0)
  have r1 := Int.emod_lt_of_pos (hiOf n) (by omega : 0 < d)
  have k := div64_any (hiOf n % d) (loOf n) d r0 l.1 l.2 (by omega) r1
  rw [(step_q n d h0).1, (step_q n d h0).2] at k
  have s0 := Int.emod_nonneg n (by omega : d ≠ 0)
  have s1 := Int.emod_lt_of_pos n (by omega : 0 < d)
  have hq := hi_bd (inW_div n d hn h0)
  have x3 := i64_xor_0 (hiOf (n / d)) hq.1 hq.2
  have lq := lo_bd (n / d)
  have x4 := u64_xor_0 (loOf (n / d)) lq.1 lq.2
  have x5 := step_hi n d h0
  have hq0 : 0 ≤ hiOf (n / d) := by rw [← x5]; exact Int.ediv_nonneg b2 (by omega)
  clear hn
  go_enter Try.func14, Try.ntmps14
  go_wp2_with fail
  refine wp_region_grow (by kernel_rfl) (by kernel_rfl) ?_
  repeat (go_big_quiet_step (((first | with_reducible exact k.quiet _ | with_reducible exact k.quiet2 _ _))))
  refine wpQuiet_nil ?_
  rintro _ ⟨x, rfl⟩
  go_wp2
  refine bodyPost_ret (v := .tuple #[.agg #[.int .i64 (hiOf (n / d)), .int .u64 (loOf (n / d))], .int .i64 (n % d), .bool true]) (by simp [results, Try.results14, go_sem]) rfl ⟨rfl, ?_⟩
  exact (by repeat (first | exact Below.refl _ _ | refine bel_then ?_ _ | refine bel_grow ?_ _ | refine bel_alloc ?_ _ | refine bel_set ?_ (by simp) _))

set_option maxHeartbeats 400000 in
theorem div_neg (n d : Int) (hn : InW n) (h : n < 0) (h0 : 1 ≤ d) (h1 : d ≤ 9223372036854775807) :
    Gives Try.prog 14 #[.agg #[.int .i64 (hiOf n), .int .u64 (loOf n)], .int .i64 d] (.tuple #[.agg #[.int .i64 (hiOf (n / d)), .int .u64 (loOf (n / d))], .int .i64 (n % d), .bool true]) := by
  refine Gives.mk fun w => ?_
  have b := hi_bd hn
  have l := lo_bd n
  have b2 : hiOf n < 0 := by unfold hiOf; omega
  have e0 : hiOf n / 9223372036854775808 = -1 := by omega
  have x1 := i64_xor_m1 (hiOf n) b.1 b.2
  have x2 := u64_xor_all (loOf n) l.1 l.2
  have r0 := Int.emod_nonneg (-1 - hiOf n) (by omega : d ≠ 0)
  have r1 := Int.emod_lt_of_pos (-1 - hiOf n) (by omega : 0 < d)
  have k := div64_any ((-1 - hiOf n) % d) (18446744073709551615 - loOf n) d r0 (by omega) (by omega) (by omega) r1
  rw [← flip_lo, ← flip_hi, (step_q (-1 - n) d h0).1, (step_q (-1 - n) d h0).2, flip_hi, flip_lo, (flip_div n d h0).1, (flip_div n d h0).2, flip_lo] at k
  have s0 := Int.emod_nonneg n (by omega : d ≠ 0)
  have s1 := Int.emod_lt_of_pos n (by omega : 0 < d)
  have hq := hi_bd (inW_div n d hn h0)
  have x5 := step_hi (-1 - n) d h0
  rw [(flip_div n d h0).1, flip_hi, flip_hi] at x5
  have hq0 : 0 ≤ -1 - hiOf (n / d) := by rw [← x5]; exact Int.ediv_nonneg (by omega) (by omega)
  have x3 := i64_xor_m1 (-1 - hiOf (n / d)) (by omega) (by omega)
  have lq := lo_bd (n / d)
  have x4 := u64_xor_all (18446744073709551615 - loOf (n / d)) (by omega) (by omega)
  have x6 : -1 - (-1 - hiOf (n / d)) = hiOf (n / d) := by omega
  have x7 : 18446744073709551615 - (18446744073709551615 - loOf (n / d)) = loOf (n / d) := by omega
  have x8 : d - 1 - (d - 1 - n % d) = n % d := by omega
  rw [x6] at x3
  rw [x7] at x4
  clear hn x6 x7
  go_enter Try.func14, Try.ntmps14
  go_wp2_with fail
  refine wp_region_grow (by kernel_rfl) (by kernel_rfl) ?_
  repeat (go_big_quiet_step (((first | with_reducible exact k.quiet _ | with_reducible exact k.quiet2 _ _))))
  refine wpQuiet_nil ?_
  rintro _ ⟨x, rfl⟩
  go_wp2
  refine bodyPost_ret (v := .tuple #[.agg #[.int .i64 (hiOf (n / d)), .int .u64 (loOf (n / d))], .int .i64 (n % d), .bool true]) (by simp [results, Try.results14, go_sem]) rfl ⟨rfl, ?_⟩
  exact (by repeat (first | exact Below.refl _ _ | refine bel_then ?_ _ | refine bel_grow ?_ _ | refine bel_alloc ?_ _ | refine bel_set ?_ (by simp) _))
end Go.Proofs.Ytgfgaaecpdbgeaa

/- The contract of wide's call Sqrt. -/
namespace Go.Proofs.Ytgfgaaecpdbgeaa
open Go.RowKit
set_option linter.unusedVariables false
set_option linter.unusedSimpArgs false

/-- How many bits a number of at most 126 bits has. -/
theorem width_any (n : Int) (h0 : 0 ≤ n) (h1 : n < 85070591730234615865843651857942052864) :
    ∃ B : Int, 0 ≤ B ∧ B ≤ 126 ∧ n < 2 ^ B.toNat ∧ Gives Try.prog 45 #[.agg #[.int .i64 (hiOf n), .int .u64 (loOf n)]] (.int .i64 B) := by
  have l := lo_bd n
  have hh : 0 ≤ hiOf n ∧ hiOf n < 4611686018427387904 := by unfold hiOf; omega
  have e := hi_lo n
  by_cases hz : hiOf n = 0
  · refine ⟨(Lib.bitLen (loOf n).toNat : Int), by omega, ?_, ?_, ?_⟩
    · have := Lib.bitLen_le (loOf n).toNat 64 (by omega) (by omega); omega
    · have := (bitLen_spec (loOf n).toNat (by omega)).1
      rw [Int.toNat_natCast]
      have h2 : ((loOf n).toNat : Int) < ((2 ^ Lib.bitLen (loOf n).toNat : Nat) : Int) := by omega
      simp only [Int.natCast_pow] at h2
      have h3 : ((2 : Nat) : Int) = 2 := rfl
      rw [h3] at h2
      omega
    · refine Gives.mk fun w => ?_
      rw [hz]
      have k := Try.bits_Len64 (loOf n)
      clear hh e hz h0 h1
      go_enter Try.func45, Try.ntmps45
      go_wp2_with (go_at_call 66; refine (k _ l.1 l.2).mono ?_; rintro e w' ⟨rfl, hw⟩; rw [hw])
      go_ret
      exact ⟨rfl, bel_alloc (Below.refl _ _) _⟩
  · refine ⟨64 + (Lib.bitLen (hiOf n).toNat : Int), by omega, ?_, ?_, ?_⟩
    · have := Lib.bitLen_le (hiOf n).toNat 62 (by omega) (by omega); omega
    · have := (bitLen_spec (hiOf n).toNat (by omega)).1
      rw [show (64 + (Lib.bitLen (hiOf n).toNat : Int)).toNat = 64 + Lib.bitLen (hiOf n).toNat from by omega]
      have h2 : (((hiOf n).toNat + 1 : Nat) : Int) ≤ ((2 ^ Lib.bitLen (hiOf n).toNat : Nat) : Int) := by omega
      simp only [Int.natCast_pow] at h2
      have h3 : ((2 : Nat) : Int) = 2 := rfl
      rw [h3] at h2
      rw [Int.pow_add]
      have h4 : (2 : Int) ^ 64 = 18446744073709551616 := by decide
      rw [h4]
      omega
    · refine Gives.mk fun w => ?_
      have k := Try.bits_Len64 (hiOf n)
      have hp : 0 < hiOf n := by omega
      have hb : (hiOf n != 0) = true := by simp; omega
      have lb := Lib.bitLen_le (hiOf n).toNat 62 (by omega) (by omega)
      clear e hz h0 h1
      go_enter Try.func45, Try.ntmps45
      go_wp2_with (go_at_call 66; refine (k _ (by omega) (by omega)).mono ?_; rintro e w' ⟨rfl, hw⟩; rw [hw])
      go_ret
      exact ⟨rfl, bel_alloc (Below.refl _ _) _⟩

theorem sqrt_no (n : Int) (hn : InW n) (h : n < 0 ∨ 85070591730234615865843651857942052864 ≤ n) :
    Gives Try.prog 16 #[.agg #[.int .i64 (hiOf n), .int .u64 (loOf n)]] (.tuple #[.int .i64 0, .bool false]) := by
  refine Gives.mk fun w => ?_
  have hb := hi_bd hn
  have hq : (hiOf n / 4611686018427387904 != 0) = true := by simp; unfold hiOf; omega
  clear hn h
  go_enter Try.func16, Try.ntmps16
  go_wp2
  go_ret2
  exact ⟨rfl, bel_alloc (Below.refl _ _) _⟩

/-- What holds ahead of bit number b: the root's upper bits are found. -/
def RootInv (n r b : Int) : Prop := ∃ k j : Nat, b = (k : Int) - 1 ∧ k ≤ 63 ∧ r = ((j * 2 ^ k : Nat) : Int) ∧ j * 2 ^ k + 2 ^ k ≤ 9223372036854775808 ∧ r * r ≤ n ∧ n < (r + ((2 ^ k : Nat) : Int)) * (r + ((2 ^ k : Nat) : Int))
theorem or_bit (j k : Nat) (h : j * 2 ^ (k + 1) + 2 ^ (k + 1) ≤ 9223372036854775808) (hk : k ≤ 62) :
    bits .or .i64 ((j * 2 ^ (k + 1) : Nat) : Int) (wrap64 (2 ^ k)) = ((j * 2 ^ (k + 1) + 2 ^ k : Nat) : Int) := by
  have hp : 2 ^ k < 2 ^ (k + 1) := by rw [Nat.pow_succ]; have := Nat.two_pow_pos k; omega
  have e1 : wrap64 ((2 : Int) ^ k) = ((2 ^ k : Nat) : Int) := by
    have : ((2 ^ k : Nat) : Int) = (2 : Int) ^ k := by simp
    rw [← this]; unfold wrap64; omega
  rw [e1]
  have e2 : bits .or .i64 ((j * 2 ^ (k + 1) : Nat) : Int) ((2 ^ k : Nat) : Int) = (BitVec.ofInt 64 ((j * 2 ^ (k + 1) : Nat) : Int) ||| BitVec.ofInt 64 ((2 ^ k : Nat) : Int)).toInt := i64_toInt _
  have e3 : (BitVec.ofInt 64 ((j * 2 ^ (k + 1) : Nat) : Int) ||| BitVec.ofInt 64 ((2 ^ k : Nat) : Int)).toNat = j * 2 ^ (k + 1) + 2 ^ k := by
    rw [BitVec.toNat_or, BitVec.ofInt_natCast, BitVec.ofInt_natCast, BitVec.toNat_ofNat, BitVec.toNat_ofNat, Nat.mod_eq_of_lt (by omega), Nat.mod_eq_of_lt (by omega), Nat.mul_comm j, ← Nat.two_pow_add_eq_or_of_lt hp]
  rw [e2, BitVec.toInt_eq_toNat_cond, e3]
  rw [if_pos (by omega)]
theorem odd_bit (j q : Nat) : (2 * j + 1) * 2 ^ q = j * 2 ^ (q + 1) + 2 ^ q := by
  rw [Nat.add_mul, Nat.one_mul, Nat.pow_succ, Nat.mul_comm 2 j, Nat.mul_assoc, Nat.mul_comm 2]
theorem even_bit (j q : Nat) : 2 * j * 2 ^ q = j * 2 ^ (q + 1) := by
  rw [Nat.pow_succ, Nat.mul_comm 2 j, Nat.mul_assoc, Nat.mul_comm 2]
theorem root_unique {n r s : Int} (r0 : 0 ≤ r) (r1 : r * r ≤ n) (r2 : n < (r + 1) * (r + 1)) (s0 : 0 ≤ s) (s1 : s * s ≤ n) (s2 : n < (s + 1) * (s + 1)) : r = s := by
  rcases Int.lt_trichotomy r s with h | h | h
  · have : (r + 1) * (r + 1) ≤ s * s := Int.mul_le_mul (by omega) (by omega) (by omega) (by omega)
    omega
  · exact h
  · have : (s + 1) * (s + 1) ≤ r * r := Int.mul_le_mul (by omega) (by omega) (by omega) (by omega)
    omega
theorem root_first (n B : Int) (h0 : 0 ≤ n) (b0 : 0 ≤ B) (b1 : B ≤ 126) (b2 : n < 2 ^ B.toNat) : RootInv n 0 ((B + 1) / 2 - 1) := by
  refine ⟨((B + 1) / 2).toNat, 0, by omega, by omega, by simp, ?_, by omega, ?_⟩
  · have : 2 ^ ((B + 1) / 2).toNat ≤ 2 ^ 63 := Nat.pow_le_pow_right (by omega) (by omega)
    omega
  · have e1 : (2 : Int) ^ B.toNat = ((2 ^ B.toNat : Nat) : Int) := by simp
    have e2 : 2 ^ B.toNat ≤ 2 ^ (((B + 1) / 2).toNat + ((B + 1) / 2).toNat) := Nat.pow_le_pow_right (by omega) (by omega)
    rw [Nat.pow_add] at e2
    rw [e1] at b2
    have e3 : (((2 ^ ((B + 1) / 2).toNat * 2 ^ ((B + 1) / 2).toNat : Nat)) : Int) = ((2 ^ ((B + 1) / 2).toNat : Nat) : Int) * ((2 ^ ((B + 1) / 2).toNat : Nat) : Int) := Int.natCast_mul _ _
    simp only [Int.zero_add]
    omega

set_option maxHeartbeats 1000000 in
theorem sqrt_yes (n s : Int) (h0 : 0 ≤ n) (h1 : n < 85070591730234615865843651857942052864) (s0 : 0 ≤ s) (s1 : s * s ≤ n) (s2 : n < (s + 1) * (s + 1)) :
    Gives Try.prog 16 #[.agg #[.int .i64 (hiOf n), .int .u64 (loOf n)]] (.tuple #[.int .i64 s, .bool true]) := by
  refine Gives.mk fun w => ?_
  have l := lo_bd n
  have hh : 0 ≤ hiOf n ∧ hiOf n < 4611686018427387904 := by unfold hiOf; omega
  obtain ⟨B, b0, b1, b2, wd⟩ := width_any n h0 h1
  have first := root_first n B h0 b0 b1 b2
  have hn : InW n := by unfold InW; omega
  have s1 := Lib.hid s1
  have s2 := Lib.hid s2
  clear b2
  go_enter Try.func16, Try.ntmps16
  go_wp2_with (go_at_call 45; ((with_reducible refine (wd.at_ _).mono ?_); rintro e w' ⟨rfl, xg, rfl⟩))
  go_loopw [4, 5] (fun t u wr => ∃ r b : Int, t = .int .i64 r ∧ u = .int .i64 b ∧ RootInv n r b ∧ ∃ x, wr = grow (w.alloc (.cells #[.int .i64 (hiOf n), .int .u64 (loOf n)] 24)) x) (fun _ u _ => (intOf u + 1).toNat)
  case atStart => exact ⟨_, _, rfl, rfl, first, _, rfl⟩
  case round =>
    obtain ⟨r, b, rfl, rfl, hinv, xx, rfl⟩ := hrel
    clear first wd b0 b1
    obtain ⟨k, j, hb, hk, hr, hs, hi1, hi2⟩ := hinv
    rcases Nat.eq_zero_or_pos k with hz | hz
    · have hr' : r = s := by
        subst hz
        simp only [Nat.pow_zero, Nat.mul_one] at hr hi2
        exact root_unique (by omega) hi1 hi2 s0 s1.out s2.out
      have hb' : b = -1 := by omega
      clear hi1 hi2 hs hr hb hk hz
      subst hr' hb'
      go_wp2
      go_ret2
      exact ⟨rfl, by repeat (first | exact Below.refl _ _ | refine bel_grow ?_ _ | refine bel_alloc ?_ _)⟩
    · obtain ⟨q, rfl⟩ : ∃ q, k = q + 1 := ⟨k - 1, by omega⟩
      have hb0 : b = (q : Int) := by omega
      subst hb0
      have ob := or_bit j q hs (by omega)
      rw [← hr] at ob
      obtain ⟨m, hm⟩ : ∃ m : Int, ((j * 2 ^ (q + 1) + 2 ^ q : Nat) : Int) = m := ⟨_, rfl⟩
      rw [hm] at ob
      have hp2 : 2 ^ (q + 1) = 2 ^ q + 2 ^ q := by rw [Nat.pow_succ]; omega
      have hq := Nat.two_pow_pos q
      have hq62 : (q : Int) ≤ 62 := by omega
      have hm0 : 0 ≤ m ∧ m ≤ 9223372036854775807 := by omega
      have p := mul_any m m (by omega) (by omega) (by omega) (by omega)
      have c := cmp_any (m * m) n (inW_mul m m (by omega) (by omega) (by omega) (by omega)) hn
      have eP : m = r + ((2 ^ q : Nat) : Int) := by omega
      by_cases hle : m * m ≤ n
      · have next : RootInv n m ((q : Int) - 1) := by
          refine ⟨q, 2 * j + 1, rfl, by omega, ?_, ?_, hle, ?_⟩
          · rw [← hm, odd_bit]
          · rw [odd_bit]; omega
          · rw [hp2] at hi2
            have : m + ((2 ^ q : Nat) : Int) = r + ((2 ^ q + 2 ^ q : Nat) : Int) := by omega
            rw [this]; exact hi2
        obtain ⟨v, hv⟩ : ∃ v, cmpOf (m * m) n = v := ⟨_, rfl⟩
        have hv0 : decide (v ≤ 0) = true := by rw [← hv]; unfold cmpOf; simp; split <;> (try split) <;> omega
        rw [hv] at c
        clear hv hle eP hp2 hs hi1 hi2 hr hm hb hk hz
        go_wp2_with fail
        refine wp_region_grow (by kernel_rfl) (by kernel_rfl) ?_
        repeat (go_big_quiet_step ((first | (first | with_reducible exact p.quiet _ | with_reducible exact p.quiet2 _ _) | (first | with_reducible exact c.quiet _ | with_reducible exact c.quiet2 _ _))))
        refine wpQuiet_nil ?_
        rintro _ ⟨xg, rfl⟩
        go_wp2
        exact ⟨⟨_, _, rfl, rfl, next, grow_of (bel_grow (bel_grow (Below.refl _ _) _) _)⟩, by simp [intOf] <;> omega⟩
      · have next : RootInv n r ((q : Int) - 1) := by
          refine ⟨q, 2 * j, rfl, by omega, ?_, ?_, hi1, ?_⟩
          · rw [hr, even_bit]
          · rw [even_bit]; omega
          · rw [← eP]; omega
        obtain ⟨v, hv⟩ : ∃ v, cmpOf (m * m) n = v := ⟨_, rfl⟩
        have hv0 : decide (v ≤ 0) = false := by rw [← hv]; unfold cmpOf; simp; split <;> (try split) <;> omega
        rw [hv] at c
        clear hv hle eP hp2 hs hi1 hi2 hr hm hb hk hz
        go_wp2_with fail
        refine wp_region_grow (by kernel_rfl) (by kernel_rfl) ?_
        repeat (go_big_quiet_step ((first | (first | with_reducible exact p.quiet _ | with_reducible exact p.quiet2 _ _) | (first | with_reducible exact c.quiet _ | with_reducible exact c.quiet2 _ _))))
        refine wpQuiet_nil ?_
        rintro _ ⟨xg, rfl⟩
        go_wp2
        exact ⟨⟨_, _, rfl, rfl, next, grow_of (bel_grow (bel_grow (Below.refl _ _) _) _)⟩, by simp [intOf] <;> omega⟩
end Go.Proofs.Ytgfgaaecpdbgeaa
