/- WideRests holds for every input: the row, out of the walk. No condition. -/
import Derived.Test.YtjhkbdbhikkchaaRows
import Derived.Test.YtjhkbdbhikkchaaAlive
import Derived.Test.YtjhkbdbhikkchaaPost
import Derived.Test.YtjhkbdbhikkchaaOpen
namespace Go.Proofs.Ytjhkbdbhikkchaa.wideRests
open Go.ChangeShapes Go.WideShapes Go.ChangeAt Go.RowKit
set_option linter.unusedVariables false
set_option linter.unusedSimpArgs false
theorem core_low (n : Int) (n0 : -9223372036854775808 ≤ n) (n1 : n ≤ 9223372036854775807) (m : Int) (m0 : -9223372036854775808 ≤ m) (m1 : m ≤ 9223372036854775807) (d : Int) (d0 : -9223372036854775808 ≤ d) (d1 : d ≤ 9223372036854775807) (h3 : d < 1) :
    Gives Try.prog 6 #[.int .i64 n, .int .i64 m, .int .i64 d] (.bool true) := by
  refine Gives.mk fun w => ?_
  have al := alive_any
  have p := mul_any n m n0 n1 m0 m1
  have dv := div_none (hiOf (n * m)) (loOf (n * m)) d h3 d0
  go_enter Try.func6, Try.ntmps6
  go_wp2_with (first | (go_at_call 11; first | ((with_reducible refine (al.at_ _).mono ?_); rintro e w' ⟨rfl, xg, rfl⟩)) | (go_at_call 30; first | ((with_reducible refine (p.at_ _).mono ?_); rintro e w' ⟨rfl, xg, rfl⟩)) | (go_at_call 24; first | ((with_reducible refine (dv.at_ _).mono ?_); rintro e w' ⟨rfl, xg, rfl⟩)))
  go_ret
  exact ⟨rfl, (by repeat (first | exact Below.refl _ _ | refine bel_grow ?_ _ | refine bel_alloc ?_ _ | refine bel_set ?_ (by simp) _))⟩
theorem core_wide (n : Int) (n0 : -9223372036854775808 ≤ n) (n1 : n ≤ 9223372036854775807) (m : Int) (m0 : -9223372036854775808 ≤ m) (m1 : m ≤ 9223372036854775807) (d : Int) (d0 : -9223372036854775808 ≤ d) (d1 : d ≤ 9223372036854775807) (h3 : 1 ≤ d) (h4 : n * m / d < -9223372036854775808 ∨ 9223372036854775807 < n * m / d) :
    Gives Try.prog 6 #[.int .i64 n, .int .i64 m, .int .i64 d] (.bool true) := by
  refine Gives.mk fun w => ?_
  have al := alive_any
  have p := mul_any n m n0 n1 m0 m1
  have pin := inW_mul n m n0 n1 m0 m1
  have dv : Gives Try.prog 24 #[.agg #[.int .i64 (hiOf (n * m)), .int .u64 (loOf (n * m))], .int .i64 d] (.tuple #[.agg #[.int .i64 (hiOf (n * m / d)), .int .u64 (loOf (n * m / d))], .int .i64 (n * m % d), .bool true]) := by
    rcases Int.lt_or_le (n * m) 0 with h | h
    · exact div_neg (n * m) d pin h h3 d1
    · exact div_pos (n * m) d pin h h3 d1
  have r0 := Int.emod_nonneg (n * m) (by omega : d ≠ 0)
  have r1 := Int.emod_lt_of_pos (n * m) (by omega : 0 < d)
  have qin := inW_div (n * m) d pin h3
  have i := int_no (n * m / d) qin h4
  clear h4 pin qin
  generalize n * m % d = r at *
  generalize n * m / d = q at *
  go_enter Try.func6, Try.ntmps6
  go_wp2_with (first | (go_at_call 11; first | ((with_reducible refine (al.at_ _).mono ?_); rintro e w' ⟨rfl, xg, rfl⟩)) | (go_at_call 30; first | ((with_reducible refine (p.at_ _).mono ?_); rintro e w' ⟨rfl, xg, rfl⟩)) | (go_at_call 24; first | ((with_reducible refine (dv.at_ _).mono ?_); rintro e w' ⟨rfl, xg, rfl⟩)) | (go_at_call 19; first | ((with_reducible refine (i.at_ _).mono ?_); rintro e w' ⟨rfl, xg, rfl⟩)))
  go_ret
  exact ⟨rfl, (by repeat (first | exact Below.refl _ _ | refine bel_grow ?_ _ | refine bel_alloc ?_ _ | refine bel_set ?_ (by simp) _))⟩
set_option maxHeartbeats 1000000 in
theorem core_fits (n : Int) (n0 : -9223372036854775808 ≤ n) (n1 : n ≤ 9223372036854775807) (m : Int) (m0 : -9223372036854775808 ≤ m) (m1 : m ≤ 9223372036854775807) (d : Int) (d0 : -9223372036854775808 ≤ d) (d1 : d ≤ 9223372036854775807) (h3 : 1 ≤ d) (h4 : -9223372036854775808 ≤ n * m / d) (h5 : n * m / d ≤ 9223372036854775807) :
    Gives Try.prog 6 #[.int .i64 n, .int .i64 m, .int .i64 d] (.bool true) := by
  refine Gives.mk fun w => ?_
  have al := alive_any
  have p := mul_any n m n0 n1 m0 m1
  have pin := inW_mul n m n0 n1 m0 m1
  have dv : Gives Try.prog 24 #[.agg #[.int .i64 (hiOf (n * m)), .int .u64 (loOf (n * m))], .int .i64 d] (.tuple #[.agg #[.int .i64 (hiOf (n * m / d)), .int .u64 (loOf (n * m / d))], .int .i64 (n * m % d), .bool true]) := by
    rcases Int.lt_or_le (n * m) 0 with h | h
    · exact div_neg (n * m) d pin h h3 d1
    · exact div_pos (n * m) d pin h h3 d1
  have r0 := Int.emod_nonneg (n * m) (by omega : d ≠ 0)
  have r1 := Int.emod_lt_of_pos (n * m) (by omega : 0 < d)
  have qin := inW_div (n * m) d pin h3
  have i := int_yes (n * m / d) h4 h5
  have p2 := mul_any (n * m / d) d h4 h5 d0 d1
  have o := of_any (n * m % d) (by omega) (by omega)
  have e : n * m / d * d + n * m % d = n * m := by have h1 := Int.emod_add_mul_ediv (n * m) d; have h2 := Int.mul_comm d (n * m / d); omega
  have a := add_yes (n * m / d * d) (n * m % d) (inW_mul _ _ h4 h5 d0 d1) (by unfold InW; omega) (by rw [e]; exact pin)
  rw [e] at a
  clear e pin qin
  generalize n * m % d = r at *
  generalize n * m / d = q at *
  go_enter Try.func6, Try.ntmps6
  go_wp2_with (first | (go_at_call 11; first | ((with_reducible refine (al.at_ _).mono ?_); rintro e w' ⟨rfl, xg, rfl⟩)) | (go_at_call 30; first | ((with_reducible refine (p.at_ _).mono ?_); rintro e w' ⟨rfl, xg, rfl⟩) | ((with_reducible refine (p2.at_ _).mono ?_); rintro e w' ⟨rfl, xg, rfl⟩)) | (go_at_call 24; first | ((with_reducible refine (dv.at_ _).mono ?_); rintro e w' ⟨rfl, xg, rfl⟩)) | (go_at_call 19; first | ((with_reducible refine (i.at_ _).mono ?_); rintro e w' ⟨rfl, xg, rfl⟩)) | (go_at_call 21; first | ((with_reducible refine (o.at_ _).mono ?_); rintro e w' ⟨rfl, xg, rfl⟩)) | (go_at_call 14; first | ((with_reducible refine (a.at_ _).mono ?_); rintro e w' ⟨rfl, xg, rfl⟩)))
  refine wp_region_grow (by kernel_rfl) (by kernel_rfl) ?_
  repeat (go_big_quiet_step ((first | with_reducible exact p.quiet _)))
  refine wpQuiet_nil ?_
  rintro _ ⟨xg, rfl⟩
  go_wp2_with fail
  go_ret
  exact ⟨rfl, (by repeat (first | exact Below.refl _ _ | refine bel_grow ?_ _ | refine bel_alloc ?_ _ | refine bel_set ?_ (by simp) _))⟩
theorem walk (n : Int) (n0 : -9223372036854775808 ≤ n) (n1 : n ≤ 9223372036854775807) (m : Int) (m0 : -9223372036854775808 ≤ m) (m1 : m ≤ 9223372036854775807) (d : Int) (d0 : -9223372036854775808 ≤ d) (d1 : d ≤ 9223372036854775807) : Gives Try.prog 6 #[.int .i64 n, .int .i64 m, .int .i64 d] (.bool true) := by
  by_cases h3 : d < 1
  · exact core_low n n0 n1 m m0 m1 d d0 d1 h3
  · by_cases h4 : -9223372036854775808 ≤ n * m / d
    · by_cases h5 : n * m / d ≤ 9223372036854775807
      · exact core_fits n n0 n1 m m0 m1 d d0 d1 (by omega) h4 h5
      · exact core_wide n n0 n1 m m0 m1 d d0 d1 (by omega) (.inr (by omega))
    · exact core_wide n n0 n1 m m0 m1 d d0 d1 (by omega) (.inl (by omega))

theorem own : ownKnob Try.prog.godebug = none := by kernel_rfl
set_option maxRecDepth 100000 in
theorem lifted (os : Os) (started : os.Started) (H : Type) (enc : TypeId × Value → H) :
    ReturnsInHanded {} Try.checked os 6 .any (Rows.wideRestsSpec.pre6 enc Try.prog Try.f6 Rows.wideRestsRow.domain false) (Rows.wideRestsSpec.post enc Try.prog Try.f6 false true false false) := by
  refine returnsInHanded_of_change (C := Try.checked) own started (by kernel_rfl) Try.func6
    (ChangeSpec.witness6 (enc := enc) (C := Try.checked) false ⟨#[], #[.int .i64 0, .int .i64 0, .int .i64 0], []⟩ 8 (by kernel_rfl) (by kernel_rfl) (by kernel_rfl) (by kernel_rfl)) ?_
  intro W base args ds gs before hval0 hW hcnd _
  have hval : ∀ (j : Nat) t v, Try.f6.params[j]? = some t → args[j]? = some v → Value.okWide Try.prog W .any base t v := hval0
  have hW' := hW
  obtain ⟨p, q, hA0, hV, rfl, hfz, hnd⟩ := hW
  have hA : DataW.TrodAll enc Try.prog W 0 (fun _ => true) true Try.f6.params.toList args.toList ds p := hA0
  rw [Try.params6] at hA hval
  obtain ⟨v0, vs0, d0, ds0, p0, q0, hargs, rfl, rfl, h0, r0⟩ := trodAll_cons hA
  obtain ⟨v1, vs1, d1, ds1, p1, q1, rfl, rfl, rfl, h1, r1⟩ := trodAll_cons r0
  obtain ⟨v2, vs2, d2, ds2, p2, q2, rfl, rfl, rfl, h2, r2⟩ := trodAll_cons r1
  obtain ⟨rfl, rfl, rfl⟩ := trodAll_nil r2
  obtain rfl : args = #[v0, v1, v2] := by cases args; simp_all
  obtain ⟨a0, rfl, b0⟩ := open_Int (hval 0 3 v0 rfl rfl) h0
  obtain ⟨a1, rfl, b1⟩ := open_Int (hval 1 3 v1 rfl rfl) h1
  obtain ⟨a2, rfl, b2⟩ := open_Int (hval 2 3 v2 rfl rfl) h2
  refine ((walk a0 b0.1 b0.2 a1 b1.1 b1.2 a2 b2.1 b2.2).bel W).mono fun e W' ⟨he, hb⟩ => ?_
  subst he
  exact ⟨_, rfl, law_post (tb := 4) (by kernel_rfl) (by kernel_rfl) rfl rfl Try.underlying4 rfl rfl rfl hW' hb⟩

theorem over : Rows.wideRestsRow.holds Try.pinned (OpenSpec.ofChange Rows.wideRestsSpec) :=
  OpenClaim.holds_of_wide 6 Try.f6 rfl rfl rfl rfl rfl rfl rfl ⟨rfl, rfl, rfl, rfl, rfl⟩ rfl rfl rfl rfl rfl (by kernel_rfl) Try.func6 (by kernel_rfl)
    (of_decide_eq_true (by kernel_rfl)) (by unfold Func.isWrapper; first | (rw [if_pos (by decide +kernel)]; kernel_rfl) | (rw [if_neg (by decide +kernel)]; exact ⟨rfl, rfl⟩))
    (fun os started H enc _ => lifted os started H enc)

theorem proved : Rows.WideRestsSaid :=
  over
#print axioms proved
end Go.Proofs.Ytjhkbdbhikkchaa.wideRests
