/- WideProducts holds for every input: the row, out of the walk. No condition. -/
import Derived.Test.YtgfgaaecpdbgeaaRows
import Derived.Test.YtgfgaaecpdbgeaaMRefD
import Derived.Test.YtgfgaaecpdbgeaaSide7
import Derived.Test.YtgfgaaecpdbgeaaMWideB
import Derived.Test.YtgfgaaecpdbgeaaAlive
import Derived.Test.YtgfgaaecpdbgeaaOpen
import Derived.Test.YtgfgaaecpdbgeaaPost
namespace Go.Proofs.Ytgfgaaecpdbgeaa.wideProducts
open Go.ChangeShapes Go.WideShapes Go.ChangeAt Go.RowKit
set_option linter.unusedVariables false
set_option linter.unusedSimpArgs false
theorem root_ex (n : Nat) : ∃ s : Nat, s * s ≤ n ∧ n < (s + 1) * (s + 1) := by
  induction n with
  | zero => exact ⟨0, by omega, by omega⟩
  | succ n ih =>
    obtain ⟨s, h1, h2⟩ := ih
    by_cases h : n + 1 < (s + 1) * (s + 1)
    · exact ⟨s, by omega, h⟩
    · have e : (s + 1 + 1) * (s + 1 + 1) = (s + 1) * (s + 1) + 2 * s + 3 := by grind
      exact ⟨s + 1, by omega, by omega⟩
set_option maxRecDepth 100000 in
set_option maxHeartbeats 4000000 in
theorem core (w : World) (x n m pn pd qn qd : Int) (hx : InW x) (hn : -9223372036854775808 ≤ n ∧ n ≤ 9223372036854775807) (hm : -9223372036854775808 ≤ m ∧ m ≤ 9223372036854775807) (h1 : -9223372036854775808 ≤ pn ∧ pn ≤ 9223372036854775807) (h2 : -9223372036854775808 ≤ pd ∧ pd ≤ 9223372036854775807) (h3 : -9223372036854775808 ≤ qn ∧ qn ≤ 9223372036854775807) (h4 : -9223372036854775808 ≤ qd ∧ qd ≤ 9223372036854775807) :
    Calls Try.prog 3 #[.agg #[.int .i64 (hiOf x), .int .u64 (loOf x)], .int .i64 n, .int .i64 m, .agg #[.int .i64 pn, .int .i64 pd], .agg #[.int .i64 qn, .int .i64 qd]] w fun e w' => e = .returned (.bool true) ∧ Below w.heap.size w w' := by
  have al := alive_any
  have m1 := mul_any n m hn.1 hn.2 hm.1 hm.2
  have m2 := rMul_any n m hn hm
  obtain ⟨d1, d2, dr, dk, dv, rd⟩ : ∃ (d1 d2 dr : Int) (dk : Bool), (Gives Try.prog 14 #[.agg #[.int .i64 (hiOf x), .int .u64 (loOf x)], .int .i64 n] (.tuple #[.agg #[.int .i64 d1, .int .u64 d2], .int .i64 dr, .bool dk])) ∧ Gives Try.prog 15 #[.agg #[.int .i64 (hiOf x), .int .u64 (loOf x)], .int .i64 n] (.tuple #[.agg #[.int .i64 d1, .int .u64 d2], .int .i64 dr, .bool dk]) := by
    by_cases h : n < 1
    · exact ⟨_, _, _, _, div_none _ _ n h hn.1, rDiv_none _ _ n h⟩
    · by_cases h0 : 0 ≤ x
      · exact ⟨_, _, _, _, div_pos x n hx h0 (by omega) hn.2, rDiv_any x n hx (by omega) hn.2⟩
      · exact ⟨_, _, _, _, div_neg x n hx (by omega) (by omega) hn.2, rDiv_any x n hx (by omega) hn.2⟩
  obtain ⟨r, rk, sv, rs⟩ : ∃ (r : Int) (rk : Bool), (Gives Try.prog 16 #[.agg #[.int .i64 (hiOf x), .int .u64 (loOf x)]] (.tuple #[.int .i64 r, .bool rk])) ∧ Gives Try.prog 17 #[.agg #[.int .i64 (hiOf x), .int .u64 (loOf x)]] (.tuple #[.int .i64 r, .bool rk]) := by
    by_cases h0 : x < 0
    · exact ⟨_, _, sqrt_no x hx (.inl h0), rSqrt_neg x hx h0⟩
    · by_cases h5 : x < 85070591730234615865843651857942052864
      · obtain ⟨s, s1, s2⟩ := root_ex x.toNat
        have e : ((x.toNat : Nat) : Int) = x := by omega
        have s1' : (s : Int) * (s : Int) ≤ x := by rw [← e, ← Int.natCast_mul]; exact Int.ofNat_le.2 s1
        have s2' : x < ((s : Int) + 1) * ((s : Int) + 1) := by
          have : ((s : Int) + 1) * ((s : Int) + 1) = (((s + 1) * (s + 1) : Nat) : Int) := by simp
          rw [← e, this]; exact Int.ofNat_lt.2 s2
        exact ⟨_, _, sqrt_yes x s (by omega) h5 (by omega) s1' s2', rSqrt_yes x hx (by omega) h5 s (by omega) s1' s2'⟩
      · exact ⟨_, _, sqrt_no x hx (.inr (by omega)), rSqrt_no x hx (by omega) (by omega)⟩
  obtain ⟨o, ok, ov, ro⟩ : ∃ (o : Int) (ok : Bool), (Gives Try.prog 18 #[.agg #[.int .i64 pn, .int .i64 pd], .agg #[.int .i64 qn, .int .i64 qd]] (.tuple #[.int .i64 o, .bool ok])) ∧ Gives Try.prog 19 #[.agg #[.int .i64 pn, .int .i64 pd], .agg #[.int .i64 qn, .int .i64 qd]] (.tuple #[.int .i64 o, .bool ok]) := by
    by_cases hp : Right pn pd
    · by_cases hq : Right qn qd
      · exact ⟨_, _, order_yes pn pd qn qd h1.1 h1.2 h2.1 h2.2 h3.1 h3.2 h4.1 h4.2 hp hq, rOrder_yes pn pd qn qd h1 h2 h3 h4 hp hq⟩
      · exact ⟨_, _, order_no pn pd qn qd h2.1 h4.1 (fun h => hq h.2), rOrder_no pn pd qn qd (fun h => hq h.2)⟩
    · exact ⟨_, _, order_no pn pd qn qd h2.1 h4.1 (fun h => hp h.1), rOrder_no pn pd qn qd (fun h => hp h.1)⟩
  generalize hiOf (n * m) = v1 at *
  generalize loOf (n * m) = v2 at *
  generalize hiOf x = x1 at *
  generalize loOf x = x2 at *
  clear hx hn hm h1 h2 h3 h4
  go_enter Try.func3, Try.ntmps3
  go_wp2_with (first | (go_at_call 13; first | ((with_reducible refine (al.at_ _).mono ?_); rintro e w' ⟨rfl, xg, rfl⟩)) | (go_at_call 14; first | ((with_reducible refine (dv.at_ _).mono ?_); rintro e w' ⟨rfl, xg, rfl⟩)) | (go_at_call 15; first | ((with_reducible refine (rd.at_ _).mono ?_); rintro e w' ⟨rfl, xg, rfl⟩)) | (go_at_call 16; first | ((with_reducible refine (sv.at_ _).mono ?_); rintro e w' ⟨rfl, xg, rfl⟩)) | (go_at_call 17; first | ((with_reducible refine (rs.at_ _).mono ?_); rintro e w' ⟨rfl, xg, rfl⟩)) | (go_at_call 18; first | ((with_reducible refine (ov.at_ _).mono ?_); rintro e w' ⟨rfl, xg, rfl⟩)) | (go_at_call 19; first | ((with_reducible refine (ro.at_ _).mono ?_); rintro e w' ⟨rfl, xg, rfl⟩)) | (go_at_call 20; first | ((with_reducible refine (m1.at_ _).mono ?_); rintro e w' ⟨rfl, xg, rfl⟩)) | (go_at_call 21; first | ((with_reducible refine (m2.at_ _).mono ?_); rintro e w' ⟨rfl, xg, rfl⟩)))
  all_goals
    go_ret
    exact ⟨rfl, (by repeat (first | exact Below.refl _ _ | refine bel_then ?_ _ | refine bel_grow ?_ _ | refine bel_alloc ?_ _ | refine bel_drew ?_ | refine bel_set ?_ (by simp) _ | refine bel_setRow ?_ (by first | omega | (simp; done) | (refine Nat.le_trans ?_ (top_le _ _); simp; done) | (refine Nat.le_succ_of_le (Nat.le_trans ?_ (top_le _ _)); simp; done) | (refine Nat.le_trans ?_ (top_le _ _); simp only [World.size_alloc]; refine Nat.le_succ_of_le (Nat.le_trans ?_ (top_le _ _)); simp; done)) _))⟩
theorem walk (w : World) (a c : Int) (h0 : (-9223372036854775808 ≤ a ∧ a ≤ 9223372036854775807) ∧ (0 ≤ c ∧ c ≤ 18446744073709551615)) (n : Int) (hn : -9223372036854775808 ≤ n ∧ n ≤ 9223372036854775807) (m : Int) (hm : -9223372036854775808 ≤ m ∧ m ≤ 9223372036854775807) (pn pd : Int) (hp : (-9223372036854775808 ≤ pn ∧ pn ≤ 9223372036854775807) ∧ -9223372036854775808 ≤ pd ∧ pd ≤ 9223372036854775807) (qn qd : Int) (hq : (-9223372036854775808 ≤ qn ∧ qn ≤ 9223372036854775807) ∧ -9223372036854775808 ≤ qd ∧ qd ≤ 9223372036854775807) :
    Calls Try.prog 3 #[.agg #[.int .i64 a, .int .u64 c], .int .i64 n, .int .i64 m, .agg #[.int .i64 pn, .int .i64 pd], .agg #[.int .i64 qn, .int .i64 qd]] w fun e w' => e = .returned (.bool true) ∧ Below w.heap.size w w' := by
  have hx := inW_mk a c h0.2.1 h0.2.2 h0.1.1 h0.1.2
  have e1 := hi_mk a c h0.2.1 h0.2.2
  have e2 := lo_mk a c h0.2.1 h0.2.2
  have k := core w _ n m pn pd qn qd hx hn hm hp.1 hp.2 hq.1 hq.2
  rw [e1, e2] at k
  exact k

theorem own : ownKnob Try.prog.godebug = none := by kernel_rfl
set_option maxRecDepth 100000 in
theorem lifted (os : Os) (started : os.Started) (H : Type) (enc : TypeId × Value → H) :
    ReturnsInHanded {} Try.checked os 3 .any (Rows.wideProductsSpec.pre6 enc Try.prog Try.f3 Rows.wideProductsRow.domain false) (Rows.wideProductsSpec.post enc Try.prog Try.f3 false true false false) := by
  refine returnsInHanded_of_change (C := Try.checked) own started (by kernel_rfl) Try.func3
    (ChangeSpec.witness6 (enc := enc) (C := Try.checked) false ⟨#[], #[.agg #[.int .i64 0, .int .u64 0], .int .i64 0, .int .i64 0, .agg #[.int .i64 0, .int .i64 0], .agg #[.int .i64 0, .int .i64 0]], []⟩ 12 (by kernel_rfl) (by kernel_rfl) (by kernel_rfl) (by kernel_rfl)) ?_
  intro W base args ds gs before hval0 hW hcnd _
  have hval : ∀ (j : Nat) t v, Try.f3.params[j]? = some t → args[j]? = some v → Value.okWide Try.prog W .any base t v := hval0
  have hW' := hW
  obtain ⟨p, q, hA0, hV, rfl, hfz, hnd⟩ := hW
  have hA : DataW.TrodAll enc Try.prog W 0 (fun _ => true) true Try.f3.params.toList args.toList ds p := hA0
  rw [Try.params3] at hA hval
  obtain ⟨v0, vs0, d0, ds0, p0, q0, hargs, rfl, rfl, h0, r0⟩ := trodAll_cons hA
  obtain ⟨v1, vs1, d1, ds1, p1, q1, rfl, rfl, rfl, h1, r1⟩ := trodAll_cons r0
  obtain ⟨v2, vs2, d2, ds2, p2, q2, rfl, rfl, rfl, h2, r2⟩ := trodAll_cons r1
  obtain ⟨v3, vs3, d3, ds3, p3, q3, rfl, rfl, rfl, h3, r3⟩ := trodAll_cons r2
  obtain ⟨v4, vs4, d4, ds4, p4, q4, rfl, rfl, rfl, h4, r4⟩ := trodAll_cons r3
  obtain ⟨rfl, rfl, rfl⟩ := trodAll_nil r4
  obtain rfl : args = #[v0, v1, v2, v3, v4] := by cases args; simp_all
  obtain ⟨a0, c0, rfl, b0⟩ := open_Wide (hval 0 24 v0 rfl rfl) h0
  obtain ⟨a1, rfl, b1⟩ := open_Int (hval 1 3 v1 rfl rfl) h1
  obtain ⟨a2, rfl, b2⟩ := open_Int (hval 2 3 v2 rfl rfl) h2
  obtain ⟨a3, c3, rfl, b3⟩ := open_Frac (hval 3 26 v3 rfl rfl) h3
  obtain ⟨a4, c4, rfl, b4⟩ := open_Frac (hval 4 26 v4 rfl rfl) h4
  refine (walk W a0 c0 b0 a1 b1 a2 b2 a3 c3 b3 a4 c4 b4).mono fun e W' ⟨he, hb⟩ => ?_
  subst he
  exact ⟨_, rfl, law_post (tb := 4) (by kernel_rfl) (by kernel_rfl) rfl rfl Try.underlying4 rfl rfl rfl hW' hb⟩

theorem over : Rows.wideProductsRow.holds Try.pinned (OpenSpec.ofChange Rows.wideProductsSpec) :=
  OpenClaim.holds_of_wide 3 Try.f3 rfl rfl rfl rfl rfl rfl rfl ⟨rfl, rfl, rfl, rfl, rfl⟩ rfl rfl rfl rfl rfl (by kernel_rfl) Try.func3 (by kernel_rfl)
    (of_decide_eq_true (by kernel_rfl)) (by unfold Func.isWrapper; first | (rw [if_pos (by decide +kernel)]; kernel_rfl) | (rw [if_neg (by decide +kernel)]; exact ⟨rfl, rfl⟩))
    (fun os started H enc _ => lifted os started H enc)

theorem proved : Rows.WideProductsSaid :=
  over
#print axioms proved
end Go.Proofs.Ytgfgaaecpdbgeaa.wideProducts
