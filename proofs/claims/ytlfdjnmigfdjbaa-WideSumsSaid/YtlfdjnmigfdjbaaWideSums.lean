/- WideSums holds for every input: the row, out of the walk. No condition. -/
import Derived.Test.YtlfdjnmigfdjbaaRows
import Derived.Test.YtlfdjnmigfdjbaaRef13
import Derived.Test.YtlfdjnmigfdjbaaKeep
import Derived.Test.YtlfdjnmigfdjbaaAlive
import Derived.Test.YtlfdjnmigfdjbaaOpen
import Derived.Test.YtlfdjnmigfdjbaaPost
namespace Go.Proofs.Ytlfdjnmigfdjbaa.wideSums
open Go.ChangeShapes Go.WideShapes Go.ChangeAt Go.RowKit
set_option linter.unusedVariables false
set_option linter.unusedSimpArgs false
theorem alloc_wide (a : Act) (o : Oper) (ho : o.op = .alloc 24) (w : World) : (execOp a.eval o).run Try.prog w = .ok (.value (.pointer (some ⟨w.heap.size, 0, none⟩))) (w.alloc (.cells #[.int .i64 0, .int .u64 0] 24)) := by
  unfold execOp
  rw [ho]
  kernel_rfl
set_option maxRecDepth 100000 in
set_option maxHeartbeats 4000000 in
theorem core (w : World) (x y n : Int) (hx : InW x) (hy : InW y) (n0 : -9223372036854775808 ≤ n) (n1 : n ≤ 9223372036854775807) :
    Calls Try.prog 3 #[.agg #[.int .i64 (hiOf x), .int .u64 (loOf x)], .agg #[.int .i64 (hiOf y), .int .u64 (loOf y)], .int .i64 n] w fun e w' => e = .returned (.bool true) ∧ Below w.heap.size w w' := by
  have al := alive_any
  have fi := fromInt_any n n0 n1
  have ti := to_in n (by unfold InW; omega)
  have of := of_any n n0 n1
  have fx := from_any x hx
  have fy := from_any y hy
  have bx := big_w hx
  have by_ := big_w hy
  have bs : Big (x.natAbs + y.natAbs) := by unfold InW at hx hy; exact Nat.lt_of_le_of_lt (show x.natAbs + y.natAbs ≤ 340282366920938463463374607431768211456 by omega) (by decide)
  have pl := plus_any x y bx by_ bs
  have mi := minus_any x bx
  have cm := cmp_any x y hx hy
  have cr := compare_any x y bx by_
  obtain ⟨a1, a2, ab, ad, ts⟩ : ∃ a1 a2 ab, Gives Try.prog 16 #[.agg #[.int .i64 (hiOf x), .int .u64 (loOf x)], .agg #[.int .i64 (hiOf y), .int .u64 (loOf y)]] (.tuple #[.agg #[.int .i64 a1, .int .u64 a2], .bool ab]) ∧ Gives Try.prog 14 #[.agg (numc (sg (x + y)) (dg (x + y).natAbs))] (.tuple #[.agg #[.int .i64 a1, .int .u64 a2], .bool ab]) := by
    by_cases h : InW (x + y)
    · exact ⟨_, _, _, add_yes x y hx hy h, to_in _ h⟩
    · exact ⟨_, _, _, add_no x y hx hy h, to_out _ h (Nat.lt_of_le_of_lt (show (x + y).natAbs ≤ x.natAbs + y.natAbs by omega) bs)⟩
  obtain ⟨m1, m2, mb, ne, tn⟩ : ∃ m1 m2 mb, Gives Try.prog 19 #[.agg #[.int .i64 (hiOf x), .int .u64 (loOf x)]] (.tuple #[.agg #[.int .i64 m1, .int .u64 m2], .bool mb]) ∧ Gives Try.prog 14 #[.agg (numc (sg (-x)) (dg (-x).natAbs))] (.tuple #[.agg #[.int .i64 m1, .int .u64 m2], .bool mb]) := by
    by_cases h : x = -170141183460469231731687303715884105728
    · refine ⟨_, _, _, ?_, to_out _ (by unfold InW; omega) (by rw [Int.natAbs_neg]; exact bx)⟩
      subst h; exact neg_no
    · exact ⟨_, _, _, neg_yes x hx h, to_in _ (by unfold InW at *; omega)⟩
  obtain ⟨i, ib, wi, ri⟩ : ∃ i ib, Gives Try.prog 21 #[.agg #[.int .i64 (hiOf x), .int .u64 (loOf x)]] (.tuple #[.int .i64 i, .bool ib]) ∧ Gives Try.prog 22 #[.agg #[.int .i64 (hiOf x), .int .u64 (loOf x)]] (.tuple #[.int .i64 i, .bool ib]) := by
    by_cases h1 : x < -9223372036854775808
    · exact ⟨_, _, int_no x hx (.inl h1), rInt_low x hx h1⟩
    · by_cases h2 : 9223372036854775807 < x
      · exact ⟨_, _, int_no x hx (.inr h2), rInt_high x hx h2⟩
      · exact ⟨_, _, int_yes x (by omega) (by omega), rInt_yes x hx ⟨by omega, by omega⟩⟩
  generalize numc (sg n) (dg n.natAbs) = N0 at *
  generalize numc (sg (x + y)) (dg (x + y).natAbs) = N1 at *
  generalize numc (sg (-x)) (dg (-x).natAbs) = N2 at *
  generalize numc (sg x) (dg x.natAbs) = N3 at *
  generalize numc (sg y) (dg y.natAbs) = N4 at *
  generalize hiOf x = x1 at *
  generalize loOf x = x2 at *
  generalize hiOf y = y1 at *
  generalize loOf y = y2 at *
  generalize hiOf n = o1 at *
  generalize loOf n = o2 at *
  generalize cmpOf x y = cv at *
  clear hx hy bx by_ bs n0 n1
  go_enter Try.func3, Try.ntmps3
  go_wp2_with (first | (go_at_call 13; first | ((with_reducible refine (al.at_ _).mono ?_); rintro e w' ⟨rfl, xg, rfl⟩)) | (go_at_call 15; first | ((with_reducible refine (fi.at_ _).mono ?_); rintro e w' ⟨rfl, xg, rfl⟩)) | (go_at_call 14; first | ((with_reducible refine (ti.at_ _).mono ?_); rintro e w' ⟨rfl, xg, rfl⟩) | ((with_reducible refine (ts.at_ _).mono ?_); rintro e w' ⟨rfl, xg, rfl⟩) | ((with_reducible refine (tn.at_ _).mono ?_); rintro e w' ⟨rfl, xg, rfl⟩)) | (go_at_call 16; first | ((with_reducible refine (ad.at_ _).mono ?_); rintro e w' ⟨rfl, xg, rfl⟩)) | (go_at_call 19; first | ((with_reducible refine (ne.at_ _).mono ?_); rintro e w' ⟨rfl, xg, rfl⟩)) | (go_at_call 21; first | ((with_reducible refine (wi.at_ _).mono ?_); rintro e w' ⟨rfl, xg, rfl⟩)) | (go_at_call 22; first | ((with_reducible refine (ri.at_ _).mono ?_); rintro e w' ⟨rfl, xg, rfl⟩)) | (go_at_call 18; first | ((with_reducible refine (fx.at_ _).mono ?_); rintro e w' ⟨rfl, xg, rfl⟩) | ((with_reducible refine (fy.at_ _).mono ?_); rintro e w' ⟨rfl, xg, rfl⟩)) | (go_at_call 20; first | ((with_reducible refine (mi.at_ _).mono ?_); rintro e w' ⟨rfl, xg, rfl⟩)) | (go_at_call 17; first | ((with_reducible refine (pl.at_ _).mono ?_); rintro e w' ⟨rfl, xg, rfl⟩)))
  refine wp_region_keep 9 ?_ 11 (.cells #[.int .i64 0, .int .u64 0] 24) (.cells #[.int .i64 a1, .int .u64 a2] 24) (by kernel_rfl) (by kernel_rfl) (by kernel_rfl) (fun d hd => by cases hd; exact ⟨_, rfl, rfl, rfl, fun A u => alloc_wide A _ rfl u⟩) (fun p => ?_) (fun p => ?_) (fun p q => ?_)
  rotate_left
  · simp only [List.take_succ_cons, List.take_zero]
    repeat (go_big_quiet_step (((first | with_reducible exact fx.quiet _ | with_reducible exact fx.quiet2 _ _ | with_reducible exact fy.quiet _ | with_reducible exact fy.quiet2 _ _ | with_reducible exact pl.quiet _ | with_reducible exact pl.quiet2 _ _ | with_reducible exact ts.quiet _ | with_reducible exact ts.quiet2 _ _))))
    refine wpQuiet_nil ?_
    exact rfl
  · exact ⟨_, rfl, storeAt_row 24 _ _ _ _ rfl rfl rfl rfl rfl (by kernel_rfl) rfl (by first | kernel_rfl | simp [Value.oneCell'] | (simp only [List.all_toArray, Array.all]; rfl))⟩
  · simp only [List.drop_succ_cons, List.drop_zero]
    simp only [Act.put, List.setIfInBounds_toArray, List.set_cons_succ, List.set_cons_zero]
    go_wp2_with (first | (go_at_call 13; first | ((with_reducible refine (al.at_ _).mono ?_); rintro e w' ⟨rfl, xg, rfl⟩)) | (go_at_call 15; first | ((with_reducible refine (fi.at_ _).mono ?_); rintro e w' ⟨rfl, xg, rfl⟩)) | (go_at_call 14; first | ((with_reducible refine (ti.at_ _).mono ?_); rintro e w' ⟨rfl, xg, rfl⟩) | ((with_reducible refine (ts.at_ _).mono ?_); rintro e w' ⟨rfl, xg, rfl⟩) | ((with_reducible refine (tn.at_ _).mono ?_); rintro e w' ⟨rfl, xg, rfl⟩)) | (go_at_call 16; first | ((with_reducible refine (ad.at_ _).mono ?_); rintro e w' ⟨rfl, xg, rfl⟩)) | (go_at_call 19; first | ((with_reducible refine (ne.at_ _).mono ?_); rintro e w' ⟨rfl, xg, rfl⟩)) | (go_at_call 21; first | ((with_reducible refine (wi.at_ _).mono ?_); rintro e w' ⟨rfl, xg, rfl⟩)) | (go_at_call 22; first | ((with_reducible refine (ri.at_ _).mono ?_); rintro e w' ⟨rfl, xg, rfl⟩)) | (go_at_call 18; first | ((with_reducible refine (fx.at_ _).mono ?_); rintro e w' ⟨rfl, xg, rfl⟩) | ((with_reducible refine (fy.at_ _).mono ?_); rintro e w' ⟨rfl, xg, rfl⟩)) | (go_at_call 20; first | ((with_reducible refine (mi.at_ _).mono ?_); rintro e w' ⟨rfl, xg, rfl⟩)) | (go_at_call 17; first | ((with_reducible refine (pl.at_ _).mono ?_); rintro e w' ⟨rfl, xg, rfl⟩)))
    refine wp_region_grow (by kernel_rfl) (by kernel_rfl) ?_
    try simp only [List.cons_append, List.nil_append, List.append_eq]
    repeat (go_big_quiet_step (((first | with_reducible exact of.quiet _ | with_reducible exact of.quiet2 _ _ | with_reducible exact cm.quiet _ | with_reducible exact cm.quiet2 _ _ | with_reducible exact fx.quiet _ | with_reducible exact fx.quiet2 _ _ | with_reducible exact fy.quiet _ | with_reducible exact fy.quiet2 _ _ | with_reducible exact cr.quiet _ | with_reducible exact cr.quiet2 _ _))))
    refine wpQuiet_nil ?_
    rintro _ ⟨xg, rfl⟩
    go_wp2_with fail
    go_ret
    exact ⟨rfl, (by repeat (first | exact Below.refl _ _ | refine bel_then ?_ _ | refine bel_grow ?_ _ | refine bel_alloc ?_ _ | refine bel_drew ?_ | refine bel_set ?_ (by simp) _ | refine bel_setRow ?_ (by first | omega | simp; done | exact Nat.le_trans (by simp) (top_le _ _)) _))⟩
theorem walk (w : World) (a c : Int) (h0 : (-9223372036854775808 ≤ a ∧ a ≤ 9223372036854775807) ∧ (0 ≤ c ∧ c ≤ 18446744073709551615)) (b d : Int) (h1 : (-9223372036854775808 ≤ b ∧ b ≤ 9223372036854775807) ∧ (0 ≤ d ∧ d ≤ 18446744073709551615)) (n : Int) (hn : -9223372036854775808 ≤ n ∧ n ≤ 9223372036854775807) :
    Calls Try.prog 3 #[.agg #[.int .i64 a, .int .u64 c], .agg #[.int .i64 b, .int .u64 d], .int .i64 n] w fun e w' => e = .returned (.bool true) ∧ Below w.heap.size w w' := by
  have hx := inW_mk a c h0.2.1 h0.2.2 h0.1.1 h0.1.2
  have hy := inW_mk b d h1.2.1 h1.2.2 h1.1.1 h1.1.2
  have e1 := hi_mk a c h0.2.1 h0.2.2
  have e2 := lo_mk a c h0.2.1 h0.2.2
  have e3 := hi_mk b d h1.2.1 h1.2.2
  have e4 := lo_mk b d h1.2.1 h1.2.2
  have k := core w _ _ n hx hy hn.1 hn.2
  rw [e1, e2, e3, e4] at k
  exact k

theorem own : ownKnob Try.prog.godebug = none := by kernel_rfl
set_option maxRecDepth 100000 in
theorem lifted (os : Os) (started : os.Started) (H : Type) (enc : TypeId × Value → H) :
    ReturnsInHanded {} Try.checked os 3 .any (Rows.wideSumsSpec.pre6 enc Try.prog Try.f3 Rows.wideSumsRow.domain false) (Rows.wideSumsSpec.post enc Try.prog Try.f3 false true false false) := by
  refine returnsInHanded_of_change (C := Try.checked) own started (by kernel_rfl) Try.func3
    (ChangeSpec.witness6 (enc := enc) (C := Try.checked) false ⟨#[], #[.agg #[.int .i64 0, .int .u64 0], .agg #[.int .i64 0, .int .u64 0], .int .i64 0], []⟩ 12 (by kernel_rfl) (by kernel_rfl) (by kernel_rfl) (by kernel_rfl)) ?_
  intro W base args ds gs before hval0 hW hcnd _
  have hval : ∀ (j : Nat) t v, Try.f3.params[j]? = some t → args[j]? = some v → Value.okWide Try.prog W .any base t v := hval0
  have hW' := hW
  obtain ⟨p, q, hA0, hV, rfl, hfz, hnd⟩ := hW
  have hA : DataW.TrodAll enc Try.prog W 0 (fun _ => true) true Try.f3.params.toList args.toList ds p := hA0
  rw [Try.params3] at hA hval
  obtain ⟨v0, vs0, d0, ds0, p0, q0, hargs, rfl, rfl, h0, r0⟩ := trodAll_cons hA
  obtain ⟨v1, vs1, d1, ds1, p1, q1, rfl, rfl, rfl, h1, r1⟩ := trodAll_cons r0
  obtain ⟨v2, vs2, d2, ds2, p2, q2, rfl, rfl, rfl, h2, r2⟩ := trodAll_cons r1
  obtain ⟨rfl, rfl, rfl⟩ := trodAll_nil r2
  obtain rfl : args = #[v0, v1, v2] := by cases args; simp_all
  obtain ⟨a0, c0, rfl, b0⟩ := open_Wide (hval 0 24 v0 rfl rfl) h0
  obtain ⟨a1, c1, rfl, b1⟩ := open_Wide (hval 1 24 v1 rfl rfl) h1
  obtain ⟨a2, rfl, b2⟩ := open_Int (hval 2 3 v2 rfl rfl) h2
  refine (walk W a0 c0 b0 a1 c1 b1 a2 b2).mono fun e W' ⟨he, hb⟩ => ?_
  subst he
  exact ⟨_, rfl, law_post (tb := 4) (by kernel_rfl) (by kernel_rfl) rfl rfl Try.underlying4 rfl rfl rfl hW' hb⟩

theorem over : Rows.wideSumsRow.holds Try.pinned (OpenSpec.ofChange Rows.wideSumsSpec) :=
  OpenClaim.holds_of_wide 3 Try.f3 rfl rfl rfl rfl rfl rfl rfl ⟨rfl, rfl, rfl, rfl, rfl⟩ rfl rfl rfl rfl rfl (by kernel_rfl) Try.func3 (by kernel_rfl)
    (of_decide_eq_true (by kernel_rfl)) (by unfold Func.isWrapper; first | (rw [if_pos (by decide +kernel)]; kernel_rfl) | (rw [if_neg (by decide +kernel)]; exact ⟨rfl, rfl⟩))
    (fun os started H enc _ => lifted os started H enc)

theorem proved : Rows.WideSumsSaid :=
  over
#print axioms proved
end Go.Proofs.Ytlfdjnmigfdjbaa.wideSums
