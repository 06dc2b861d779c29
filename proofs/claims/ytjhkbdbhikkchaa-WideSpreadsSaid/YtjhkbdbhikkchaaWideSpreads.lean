/- WideSpreads holds for every input: the row, out of the walk. No condition. -/
import Derived.Test.YtjhkbdbhikkchaaRows
import Derived.Test.YtjhkbdbhikkchaaAlive
import Derived.Test.YtjhkbdbhikkchaaPost
import Derived.Test.YtjhkbdbhikkchaaOpen
namespace Go.Proofs.Ytjhkbdbhikkchaa.wideSpreads
open Go.ChangeShapes Go.WideShapes Go.ChangeAt Go.RowKit
set_option linter.unusedVariables false
set_option linter.unusedSimpArgs false
theorem walk (a : Int) (a0 : -9223372036854775808 ≤ a) (a1 : a ≤ 9223372036854775807) (b : Int) (b0 : -9223372036854775808 ≤ b) (b1 : b ≤ 9223372036854775807) (c : Int) (c0 : -9223372036854775808 ≤ c) (c1 : c ≤ 9223372036854775807) :
    Gives Try.prog 10 #[.int .i64 a, .int .i64 b, .int .i64 c] (.bool true) := by
  refine Gives.mk fun w => ?_
  have al := alive_any
  by_cases t1 : 2305843009213693952 < a
  · clear a1
    go_enter Try.func10, Try.ntmps10
    go_wp2_with (first | (go_at_call 11; first | ((with_reducible refine (al.at_ _).mono ?_); rintro e w' ⟨rfl, xg, rfl⟩)))
    go_ret
    exact ⟨rfl, (by repeat (first | exact Below.refl _ _ | refine bel_grow ?_ _ | refine bel_alloc ?_ _ | refine bel_set ?_ (by simp) _))⟩

  by_cases t2 : a < -2305843009213693952
  · clear a0
    go_enter Try.func10, Try.ntmps10
    go_wp2_with (first | (go_at_call 11; first | ((with_reducible refine (al.at_ _).mono ?_); rintro e w' ⟨rfl, xg, rfl⟩)))
    go_ret
    exact ⟨rfl, (by repeat (first | exact Below.refl _ _ | refine bel_grow ?_ _ | refine bel_alloc ?_ _ | refine bel_set ?_ (by simp) _))⟩

  by_cases t3 : 2305843009213693952 < b
  · clear b1
    go_enter Try.func10, Try.ntmps10
    go_wp2_with (first | (go_at_call 11; first | ((with_reducible refine (al.at_ _).mono ?_); rintro e w' ⟨rfl, xg, rfl⟩)))
    go_ret
    exact ⟨rfl, (by repeat (first | exact Below.refl _ _ | refine bel_grow ?_ _ | refine bel_alloc ?_ _ | refine bel_set ?_ (by simp) _))⟩

  by_cases t4 : b < -2305843009213693952
  · clear b0
    go_enter Try.func10, Try.ntmps10
    go_wp2_with (first | (go_at_call 11; first | ((with_reducible refine (al.at_ _).mono ?_); rintro e w' ⟨rfl, xg, rfl⟩)))
    go_ret
    exact ⟨rfl, (by repeat (first | exact Below.refl _ _ | refine bel_grow ?_ _ | refine bel_alloc ?_ _ | refine bel_set ?_ (by simp) _))⟩

  have p1 := mul_any a c a0 a1 c0 c1
  have p2 := mul_any b c b0 b1 c0 c1
  have i1 := inW_mul a c a0 a1 c0 c1
  have i2 := inW_mul b c b0 b1 c0 c1
  have e : a * c + b * c = (a + b) * c := by rw [Int.add_mul]
  have i3 := inW_mul (a + b) c (by omega) (by omega) c0 c1
  have s := add_yes (a * c) (b * c) i1 i2 (by rw [e]; exact i3)
  rw [e] at s
  have p3 := mul_any (a + b) c (by omega) (by omega) c0 c1
  clear e i1 i2 i3
  go_enter Try.func10, Try.ntmps10
  go_wp2_with (first | (go_at_call 11; first | ((with_reducible refine (al.at_ _).mono ?_); rintro e w' ⟨rfl, xg, rfl⟩)) | (go_at_call 30; first | ((with_reducible refine (p1.at_ _).mono ?_); rintro e w' ⟨rfl, xg, rfl⟩) | ((with_reducible refine (p2.at_ _).mono ?_); rintro e w' ⟨rfl, xg, rfl⟩)) | (go_at_call 14; first | ((with_reducible refine (s.at_ _).mono ?_); rintro e w' ⟨rfl, xg, rfl⟩)))
  refine wp_region_grow (by kernel_rfl) (by kernel_rfl) ?_
  repeat (go_big_quiet_step ((first | with_reducible exact p3.quiet _)))
  refine wpQuiet_nil ?_
  rintro _ ⟨xg, rfl⟩
  go_wp2_with fail
  go_ret
  exact ⟨rfl, (by repeat (first | exact Below.refl _ _ | refine bel_grow ?_ _ | refine bel_alloc ?_ _ | refine bel_set ?_ (by simp) _))⟩

theorem own : ownKnob Try.prog.godebug = none := by kernel_rfl
set_option maxRecDepth 100000 in
theorem lifted (os : Os) (started : os.Started) (H : Type) (enc : TypeId × Value → H) :
    ReturnsInHanded {} Try.checked os 10 .any (Rows.wideSpreadsSpec.pre6 enc Try.prog Try.f10 Rows.wideSpreadsRow.domain false) (Rows.wideSpreadsSpec.post enc Try.prog Try.f10 false true false false) := by
  refine returnsInHanded_of_change (C := Try.checked) own started (by kernel_rfl) Try.func10
    (ChangeSpec.witness6 (enc := enc) (C := Try.checked) false ⟨#[], #[.int .i64 0, .int .i64 0, .int .i64 0], []⟩ 8 (by kernel_rfl) (by kernel_rfl) (by kernel_rfl) (by kernel_rfl)) ?_
  intro W base args ds gs before hval0 hW hcnd _
  have hval : ∀ (j : Nat) t v, Try.f10.params[j]? = some t → args[j]? = some v → Value.okWide Try.prog W .any base t v := hval0
  have hW' := hW
  obtain ⟨p, q, hA0, hV, rfl, hfz, hnd⟩ := hW
  have hA : DataW.TrodAll enc Try.prog W 0 (fun _ => true) true Try.f10.params.toList args.toList ds p := hA0
  rw [Try.params10] at hA hval
  obtain ⟨v0, vs0, d0, ds0, p0, q0, hargs, rfl, rfl, h0, r0⟩ := trodAll_cons hA
  obtain ⟨v1, vs1, d1, ds1, p1, q1, rfl, rfl, rfl, h1, r1⟩ := trodAll_cons r0
  obtain ⟨v2, vs2, d2, ds2, p2, q2, rfl, rfl, rfl, h2, r2⟩ := trodAll_cons r1
  obtain ⟨rfl, rfl, rfl⟩ := trodAll_nil r2
  obtain rfl : args = #[v0, v1, v2] := by cases args; simp_all
  obtain ⟨a0, rfl, b0⟩ := open_Int (hval 0 3 v0 rfl rfl) h0
  obtain ⟨a1, rfl, b1⟩ := open_Int (hval 1 3 v1 rfl rfl) h1
  obtain ⟨a2, rfl, b2⟩ := open_Int (hval 2 3 v2 rfl rfl) h2
  refine ((walk a0 b0.1 b0.2 a1 b1.1 b1.2 a2 b2.1 b2.2).bel W).mono fun e W' ⟨he, hb⟩ => ?_
  subst he
  exact ⟨_, rfl, law_post (tb := 4) (by kernel_rfl) (by kernel_rfl) rfl rfl Try.underlying4 rfl rfl rfl hW' hb⟩

theorem over : Rows.wideSpreadsRow.holds Try.pinned (OpenSpec.ofChange Rows.wideSpreadsSpec) :=
  OpenClaim.holds_of_wide 10 Try.f10 rfl rfl rfl rfl rfl rfl rfl ⟨rfl, rfl, rfl, rfl, rfl⟩ rfl rfl rfl rfl rfl (by kernel_rfl) Try.func10 (by kernel_rfl)
    (of_decide_eq_true (by kernel_rfl)) (by unfold Func.isWrapper; first | (rw [if_pos (by decide +kernel)]; kernel_rfl) | (rw [if_neg (by decide +kernel)]; exact ⟨rfl, rfl⟩))
    (fun os started H enc _ => lifted os started H enc)

theorem proved : Rows.WideSpreadsSaid :=
  over
#print axioms proved
end Go.Proofs.Ytjhkbdbhikkchaa.wideSpreads
