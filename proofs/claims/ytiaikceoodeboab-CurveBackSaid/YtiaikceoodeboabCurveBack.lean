/- CurveBack holds for every input: the row, out of the walk. No condition. -/
import Derived.Test.YtiaikceoodeboabRows
import Derived.Test.YtiaikceoodeboabC3
import Derived.Test.YtiaikceoodeboabC4
namespace Go.Proofs.Ytiaikceoodeboab.curveBack
open Go.ChangeShapes Go.WideShapes Go.ChangeAt Go.RowKit
set_option linter.unusedVariables false
set_option linter.unusedSimpArgs false
theorem back_no {p : Nat → P3} {i n : Int} (h : cubK p i n = false) (h0 : ¬ i < 0) (h1 : ¬ n < i) : cubK (revF p) (wrap64 (n - i)) n = false := by
  cases e : cubK (revF p) (wrap64 (n - i)) n
  · rfl
  · have c := cubK_iff.1 e
    have : cubK p i n = true := cubK_iff.2 ⟨c.n0, c.n1, by omega, by omega, (okB_rev p).symm.trans c.hp⟩
    rw [h] at this; cases this
set_option maxRecDepth 100000 in
set_option maxHeartbeats 4000000 in
theorem no (w : World) (p : Nat → P3) (i n : Int) (h : cubK p i n = false) : Calls Try.prog 4 #[.agg (ptsC 4 p), .int .i64 i, .int .i64 n] w fun e w' => e = .returned (.bool true) ∧ Below w.heap.size w w' := by
  have al := alive11_any
  have k1 : Gives Try.prog 11 #[.agg #[.int .i64 (p 0).x, .int .i64 (p 0).y, .int .i64 (p 0).z, .int .i64 (p 1).x, .int .i64 (p 1).y, .int .i64 (p 1).z, .int .i64 (p 2).x, .int .i64 (p 2).y, .int .i64 (p 2).z, .int .i64 (p 3).x, .int .i64 (p 3).y, .int .i64 (p 3).z], .int .i64 i, .int .i64 n] (.tuple #[.agg #[.int .i64 (cubP p i n).x, .int .i64 (cubP p i n).y, .int .i64 (cubP p i n).z], .bool (cubK p i n)]) := cub_any p i n
  have k2 : Gives Try.prog 11 #[.agg #[.int .i64 (p 3).x, .int .i64 (p 3).y, .int .i64 (p 3).z, .int .i64 (p 2).x, .int .i64 (p 2).y, .int .i64 (p 2).z, .int .i64 (p 1).x, .int .i64 (p 1).y, .int .i64 (p 1).z, .int .i64 (p 0).x, .int .i64 (p 0).y, .int .i64 (p 0).z], .int .i64 (wrap64 (n - i)), .int .i64 n] (.tuple #[.agg #[.int .i64 (cubP (revF p) (wrap64 (n - i)) n).x, .int .i64 (cubP (revF p) (wrap64 (n - i)) n).y, .int .i64 (cubP (revF p) (wrap64 (n - i)) n).z], .bool (cubK (revF p) (wrap64 (n - i)) n)]) := cub_any (revF p) (wrap64 (n - i)) n
  have hb := back_no h
  rw [h, cubP_no h] at k1
  generalize cubP (revF p) (wrap64 (n - i)) n = B at *
  generalize cubK (revF p) (wrap64 (n - i)) n = bb at *
  replace hb := Lib.hid hb
  by_cases h0 : i < 0
  · cases bb
    all_goals
      rw [ptsC4]
      go_enter Try.func4, Try.ntmps4
      go_wp2_with (first | (go_at_call 10; first | ((with_reducible refine (al.at_ _).mono ?_); rintro e w' ⟨rfl, xa, rfl⟩)) | (go_at_call 11; first | ((with_reducible refine (k1.at_ _).mono ?_); rintro e w' ⟨rfl, xg, rfl⟩) | ((with_reducible refine (k2.at_ _).mono ?_); rintro e w' ⟨rfl, xh, rfl⟩)) | fail)
      go_ret
      exact ⟨rfl, (by repeat (first | exact Below.refl _ _ | refine bel_then ?_ _ | refine bel_grow ?_ _ | refine bel_alloc ?_ _ | refine bel_drew ?_ | refine bel_set ?_ (by simp) _ | refine bel_setRow ?_ (by first | omega | (simp; done) | (refine Nat.le_trans ?_ (top_le _ _); simp; done) | (refine Nat.le_succ_of_le (Nat.le_trans ?_ (top_le _ _)); simp; done) | (refine Nat.le_trans ?_ (top_le _ _); simp only [World.size_alloc]; refine Nat.le_succ_of_le (Nat.le_trans ?_ (top_le _ _)); simp; done)) _))⟩
  · by_cases h1 : n < i
    · cases bb
      all_goals
        rw [ptsC4]
        go_enter Try.func4, Try.ntmps4
        go_wp2_with (first | (go_at_call 10; first | ((with_reducible refine (al.at_ _).mono ?_); rintro e w' ⟨rfl, xa, rfl⟩)) | (go_at_call 11; first | ((with_reducible refine (k1.at_ _).mono ?_); rintro e w' ⟨rfl, xg, rfl⟩) | ((with_reducible refine (k2.at_ _).mono ?_); rintro e w' ⟨rfl, xh, rfl⟩)) | fail)
        go_ret
        exact ⟨rfl, (by repeat (first | exact Below.refl _ _ | refine bel_then ?_ _ | refine bel_grow ?_ _ | refine bel_alloc ?_ _ | refine bel_drew ?_ | refine bel_set ?_ (by simp) _ | refine bel_setRow ?_ (by first | omega | (simp; done) | (refine Nat.le_trans ?_ (top_le _ _); simp; done) | (refine Nat.le_succ_of_le (Nat.le_trans ?_ (top_le _ _)); simp; done) | (refine Nat.le_trans ?_ (top_le _ _); simp only [World.size_alloc]; refine Nat.le_succ_of_le (Nat.le_trans ?_ (top_le _ _)); simp; done)) _))⟩
    · obtain rfl := hb.out h0 h1
      rw [ptsC4]
      go_enter Try.func4, Try.ntmps4
      go_wp2_with (first | (go_at_call 10; first | ((with_reducible refine (al.at_ _).mono ?_); rintro e w' ⟨rfl, xa, rfl⟩)) | (go_at_call 11; first | ((with_reducible refine (k1.at_ _).mono ?_); rintro e w' ⟨rfl, xg, rfl⟩) | ((with_reducible refine (k2.at_ _).mono ?_); rintro e w' ⟨rfl, xh, rfl⟩)) | fail)
      go_ret
      exact ⟨rfl, (by repeat (first | exact Below.refl _ _ | refine bel_then ?_ _ | refine bel_grow ?_ _ | refine bel_alloc ?_ _ | refine bel_drew ?_ | refine bel_set ?_ (by simp) _ | refine bel_setRow ?_ (by first | omega | (simp; done) | (refine Nat.le_trans ?_ (top_le _ _); simp; done) | (refine Nat.le_succ_of_le (Nat.le_trans ?_ (top_le _ _)); simp; done) | (refine Nat.le_trans ?_ (top_le _ _); simp only [World.size_alloc]; refine Nat.le_succ_of_le (Nat.le_trans ?_ (top_le _ _)); simp; done)) _))⟩
set_option maxRecDepth 100000 in
set_option maxHeartbeats 4000000 in
theorem y0 (w : World) (p : Nat → P3) (i n : Int) (h : cubK p i n = true) (h0 : i = 0) : Calls Try.prog 4 #[.agg (ptsC 4 p), .int .i64 i, .int .i64 n] w fun e w' => e = .returned (.bool true) ∧ Below w.heap.size w w' := by
  have al := alive11_any
  have k1 : Gives Try.prog 11 #[.agg #[.int .i64 (p 0).x, .int .i64 (p 0).y, .int .i64 (p 0).z, .int .i64 (p 1).x, .int .i64 (p 1).y, .int .i64 (p 1).z, .int .i64 (p 2).x, .int .i64 (p 2).y, .int .i64 (p 2).z, .int .i64 (p 3).x, .int .i64 (p 3).y, .int .i64 (p 3).z], .int .i64 i, .int .i64 n] (.tuple #[.agg #[.int .i64 (cubP p i n).x, .int .i64 (cubP p i n).y, .int .i64 (cubP p i n).z], .bool (cubK p i n)]) := cub_any p i n
  have k2 : Gives Try.prog 11 #[.agg #[.int .i64 (p 3).x, .int .i64 (p 3).y, .int .i64 (p 3).z, .int .i64 (p 2).x, .int .i64 (p 2).y, .int .i64 (p 2).z, .int .i64 (p 1).x, .int .i64 (p 1).y, .int .i64 (p 1).z, .int .i64 (p 0).x, .int .i64 (p 0).y, .int .i64 (p 0).z], .int .i64 (wrap64 (n - i)), .int .i64 n] (.tuple #[.agg #[.int .i64 (cubP (revF p) (wrap64 (n - i)) n).x, .int .i64 (cubP (revF p) (wrap64 (n - i)) n).y, .int .i64 (cubP (revF p) (wrap64 (n - i)) n).z], .bool (cubK (revF p) (wrap64 (n - i)) n)]) := cub_any (revF p) (wrap64 (n - i)) n
  have c := cubK_iff.1 h
  have ew : wrap64 (n - i) = n - i := wrap_id (by have := c.i1; omega) (by have := c.n1; have := c.i0; omega)
  rw [h] at k1
  rw [show cubK (revF p) (wrap64 (n - i)) n = true by rw [ew]; exact cubK_iff.2 c.rev, show cubP (revF p) (wrap64 (n - i)) n = cubP p i n by rw [ew]; exact cub_rev c] at k2
  obtain hA := cub_first (p := p) (n := n) (by rw [← h0]; exact c)
  have hn : (0 : Int) ≠ n := by have := c.n0; omega
  rw [← h0] at hA
  rw [hA] at k1 k2
  clear ew c h
  clear hA
  replace h0 := Lib.hid h0
  rw [ptsC4]
  go_enter Try.func4, Try.ntmps4
  go_upto_region 7 with (first | (go_at_call 10; first | ((with_reducible refine (al.at_ _).mono ?_); rintro e w' ⟨rfl, xa, rfl⟩)) | (go_at_call 11; first | ((with_reducible refine (k1.at_ _).mono ?_); rintro e w' ⟨rfl, xg, rfl⟩) | ((with_reducible refine (k2.at_ _).mono ?_); rintro e w' ⟨rfl, xh, rfl⟩)) | fail)
  clear k1 k2
  obtain rfl := h0.out
  go_wp2
  go_ret
  exact ⟨rfl, (by repeat (first | exact Below.refl _ _ | refine bel_then ?_ _ | refine bel_grow ?_ _ | refine bel_alloc ?_ _ | refine bel_drew ?_ | refine bel_set ?_ (by simp) _ | refine bel_setRow ?_ (by first | omega | (simp; done) | (refine Nat.le_trans ?_ (top_le _ _); simp; done) | (refine Nat.le_succ_of_le (Nat.le_trans ?_ (top_le _ _)); simp; done) | (refine Nat.le_trans ?_ (top_le _ _); simp only [World.size_alloc]; refine Nat.le_succ_of_le (Nat.le_trans ?_ (top_le _ _)); simp; done)) _))⟩
set_option maxRecDepth 100000 in
set_option maxHeartbeats 4000000 in
theorem y1 (w : World) (p : Nat → P3) (i n : Int) (h : cubK p i n = true) (h1 : i = n) : Calls Try.prog 4 #[.agg (ptsC 4 p), .int .i64 i, .int .i64 n] w fun e w' => e = .returned (.bool true) ∧ Below w.heap.size w w' := by
  have al := alive11_any
  have k1 : Gives Try.prog 11 #[.agg #[.int .i64 (p 0).x, .int .i64 (p 0).y, .int .i64 (p 0).z, .int .i64 (p 1).x, .int .i64 (p 1).y, .int .i64 (p 1).z, .int .i64 (p 2).x, .int .i64 (p 2).y, .int .i64 (p 2).z, .int .i64 (p 3).x, .int .i64 (p 3).y, .int .i64 (p 3).z], .int .i64 i, .int .i64 n] (.tuple #[.agg #[.int .i64 (cubP p i n).x, .int .i64 (cubP p i n).y, .int .i64 (cubP p i n).z], .bool (cubK p i n)]) := cub_any p i n
  have k2 : Gives Try.prog 11 #[.agg #[.int .i64 (p 3).x, .int .i64 (p 3).y, .int .i64 (p 3).z, .int .i64 (p 2).x, .int .i64 (p 2).y, .int .i64 (p 2).z, .int .i64 (p 1).x, .int .i64 (p 1).y, .int .i64 (p 1).z, .int .i64 (p 0).x, .int .i64 (p 0).y, .int .i64 (p 0).z], .int .i64 (wrap64 (n - i)), .int .i64 n] (.tuple #[.agg #[.int .i64 (cubP (revF p) (wrap64 (n - i)) n).x, .int .i64 (cubP (revF p) (wrap64 (n - i)) n).y, .int .i64 (cubP (revF p) (wrap64 (n - i)) n).z], .bool (cubK (revF p) (wrap64 (n - i)) n)]) := cub_any (revF p) (wrap64 (n - i)) n
  have c := cubK_iff.1 h
  have ew : wrap64 (n - i) = n - i := wrap_id (by have := c.i1; omega) (by have := c.n1; have := c.i0; omega)
  rw [h] at k1
  rw [show cubK (revF p) (wrap64 (n - i)) n = true by rw [ew]; exact cubK_iff.2 c.rev, show cubP (revF p) (wrap64 (n - i)) n = cubP p i n by rw [ew]; exact cub_rev c] at k2
  obtain hA := cub_last (p := p) (n := n) (by rw [h1] at c; exact c)
  have hn : n ≠ 0 := by have := c.n0; omega
  rw [show cubP p n n = cubP p i n by rw [h1]] at hA
  rw [hA] at k1 k2
  clear ew c h
  clear hA
  replace h1 := Lib.hid h1
  rw [ptsC4]
  go_enter Try.func4, Try.ntmps4
  go_upto_region 7 with (first | (go_at_call 10; first | ((with_reducible refine (al.at_ _).mono ?_); rintro e w' ⟨rfl, xa, rfl⟩)) | (go_at_call 11; first | ((with_reducible refine (k1.at_ _).mono ?_); rintro e w' ⟨rfl, xg, rfl⟩) | ((with_reducible refine (k2.at_ _).mono ?_); rintro e w' ⟨rfl, xh, rfl⟩)) | fail)
  clear k1 k2
  obtain rfl := h1.out
  go_wp2
  go_ret
  exact ⟨rfl, (by repeat (first | exact Below.refl _ _ | refine bel_then ?_ _ | refine bel_grow ?_ _ | refine bel_alloc ?_ _ | refine bel_drew ?_ | refine bel_set ?_ (by simp) _ | refine bel_setRow ?_ (by first | omega | (simp; done) | (refine Nat.le_trans ?_ (top_le _ _); simp; done) | (refine Nat.le_succ_of_le (Nat.le_trans ?_ (top_le _ _)); simp; done) | (refine Nat.le_trans ?_ (top_le _ _); simp only [World.size_alloc]; refine Nat.le_succ_of_le (Nat.le_trans ?_ (top_le _ _)); simp; done)) _))⟩
set_option maxRecDepth 100000 in
set_option maxHeartbeats 4000000 in
theorem y2 (w : World) (p : Nat → P3) (i n : Int) (h : cubK p i n = true) (h0 : i ≠ 0) (h1 : i ≠ n) : Calls Try.prog 4 #[.agg (ptsC 4 p), .int .i64 i, .int .i64 n] w fun e w' => e = .returned (.bool true) ∧ Below w.heap.size w w' := by
  have al := alive11_any
  have k1 : Gives Try.prog 11 #[.agg #[.int .i64 (p 0).x, .int .i64 (p 0).y, .int .i64 (p 0).z, .int .i64 (p 1).x, .int .i64 (p 1).y, .int .i64 (p 1).z, .int .i64 (p 2).x, .int .i64 (p 2).y, .int .i64 (p 2).z, .int .i64 (p 3).x, .int .i64 (p 3).y, .int .i64 (p 3).z], .int .i64 i, .int .i64 n] (.tuple #[.agg #[.int .i64 (cubP p i n).x, .int .i64 (cubP p i n).y, .int .i64 (cubP p i n).z], .bool (cubK p i n)]) := cub_any p i n
  have k2 : Gives Try.prog 11 #[.agg #[.int .i64 (p 3).x, .int .i64 (p 3).y, .int .i64 (p 3).z, .int .i64 (p 2).x, .int .i64 (p 2).y, .int .i64 (p 2).z, .int .i64 (p 1).x, .int .i64 (p 1).y, .int .i64 (p 1).z, .int .i64 (p 0).x, .int .i64 (p 0).y, .int .i64 (p 0).z], .int .i64 (wrap64 (n - i)), .int .i64 n] (.tuple #[.agg #[.int .i64 (cubP (revF p) (wrap64 (n - i)) n).x, .int .i64 (cubP (revF p) (wrap64 (n - i)) n).y, .int .i64 (cubP (revF p) (wrap64 (n - i)) n).z], .bool (cubK (revF p) (wrap64 (n - i)) n)]) := cub_any (revF p) (wrap64 (n - i)) n
  have c := cubK_iff.1 h
  have ew : wrap64 (n - i) = n - i := wrap_id (by have := c.i1; omega) (by have := c.n1; have := c.i0; omega)
  rw [h] at k1
  rw [show cubK (revF p) (wrap64 (n - i)) n = true by rw [ew]; exact cubK_iff.2 c.rev, show cubP (revF p) (wrap64 (n - i)) n = cubP p i n by rw [ew]; exact cub_rev c] at k2
  generalize cubP p i n = A at *
  clear ew c h
  
  rw [ptsC4]
  go_enter Try.func4, Try.ntmps4
  go_upto_region 7 with (first | (go_at_call 10; first | ((with_reducible refine (al.at_ _).mono ?_); rintro e w' ⟨rfl, xa, rfl⟩)) | (go_at_call 11; first | ((with_reducible refine (k1.at_ _).mono ?_); rintro e w' ⟨rfl, xg, rfl⟩) | ((with_reducible refine (k2.at_ _).mono ?_); rintro e w' ⟨rfl, xh, rfl⟩)) | fail)
  clear k1 k2
  go_wp2
  go_ret
  exact ⟨rfl, (by repeat (first | exact Below.refl _ _ | refine bel_then ?_ _ | refine bel_grow ?_ _ | refine bel_alloc ?_ _ | refine bel_drew ?_ | refine bel_set ?_ (by simp) _ | refine bel_setRow ?_ (by first | omega | (simp; done) | (refine Nat.le_trans ?_ (top_le _ _); simp; done) | (refine Nat.le_succ_of_le (Nat.le_trans ?_ (top_le _ _)); simp; done) | (refine Nat.le_trans ?_ (top_le _ _); simp only [World.size_alloc]; refine Nat.le_succ_of_le (Nat.le_trans ?_ (top_le _ _)); simp; done)) _))⟩
theorem walk (w : World) (p : Nat → P3) (kp : ∀ k, k < 4 → In3 (p k)) (i : Int) (bi : In64 i) (n : Int) (bn : In64 n) : Calls Try.prog 4 #[.agg (ptsC 4 p), .int .i64 i, .int .i64 n] w fun e w' => e = .returned (.bool true) ∧ Below w.heap.size w w' := by
  cases h : cubK p i n
  · exact no w p i n h
  · by_cases h0 : i = 0
    · exact y0 w p i n h h0
    · by_cases h1 : i = n
      · exact y1 w p i n h h1
      · exact y2 w p i n h h0 h1

theorem own : ownKnob Try.prog.godebug = none := by kernel_rfl
set_option maxRecDepth 100000 in
theorem lifted (os : Os) (started : os.Started) (H : Type) (enc : TypeId × Value → H) :
    ReturnsInHanded {} Try.checked os 4 .any (Rows.curveBackSpec.pre6 enc Try.prog Try.f4 Rows.curveBackRow.domain false) (Rows.curveBackSpec.post enc Try.prog Try.f4 false true false false) := by
  refine returnsInHanded_of_change (C := Try.checked) own started (by kernel_rfl) Try.func4
    (ChangeSpec.witness6 (enc := enc) (C := Try.checked) false ⟨#[], #[.agg #[.int .i64 0, .int .i64 0, .int .i64 0, .int .i64 0, .int .i64 0, .int .i64 0, .int .i64 0, .int .i64 0, .int .i64 0, .int .i64 0, .int .i64 0, .int .i64 0], .int .i64 0, .int .i64 0], []⟩ 12 (by kernel_rfl) (by kernel_rfl) (by kernel_rfl) (by kernel_rfl)) ?_
  intro W base args ds gs before hval0 hW hcnd _
  have hval : ∀ (j : Nat) t v, Try.f4.params[j]? = some t → args[j]? = some v → Value.okWide Try.prog W .any base t v := hval0
  have hW' := hW
  obtain ⟨p, q, hA0, hV, rfl, hfz, hnd⟩ := hW
  have hA : DataW.TrodAll enc Try.prog W 0 (fun _ => true) true Try.f4.params.toList args.toList ds p := hA0
  rw [Try.params4] at hA hval
  obtain ⟨v0, vs0, d0, ds0, p0, q0, hargs, rfl, rfl, h0, r0⟩ := trodAll_cons hA
  obtain ⟨v1, vs1, d1, ds1, p1, q1, rfl, rfl, rfl, h1, r1⟩ := trodAll_cons r0
  obtain ⟨v2, vs2, d2, ds2, p2, q2, rfl, rfl, rfl, h2, r2⟩ := trodAll_cons r1
  obtain ⟨rfl, rfl, rfl⟩ := trodAll_nil r2
  obtain rfl : args = #[v0, v1, v2] := by cases args; simp_all
  obtain ⟨p0, rfl, k0⟩ := open_A4 (hval 0 26 v0 rfl rfl) h0
  obtain ⟨a1, rfl, b1⟩ := open_int64 (hval 1 3 v1 rfl rfl) h1
  obtain ⟨a2, rfl, b2⟩ := open_int64 (hval 2 3 v2 rfl rfl) h2
  refine (walk W p0 k0 a1 b1 a2 b2).mono fun e W' ⟨he, hb⟩ => ?_
  subst he
  exact ⟨_, rfl, law_post (tb := 4) (by kernel_rfl) (by kernel_rfl) rfl rfl Try.underlying4 rfl rfl rfl hW' hb⟩

theorem over : Rows.curveBackRow.holds Try.pinned (OpenSpec.ofChange Rows.curveBackSpec) :=
  OpenClaim.holds_of_wide 4 Try.f4 rfl rfl rfl rfl rfl rfl rfl ⟨rfl, rfl, rfl, rfl, rfl⟩ rfl rfl rfl rfl rfl (by kernel_rfl) Try.func4 (by kernel_rfl)
    (of_decide_eq_true (by kernel_rfl)) (by unfold Func.isWrapper; first | (rw [if_pos (by decide +kernel)]; kernel_rfl) | (rw [if_neg (by decide +kernel)]; exact ⟨rfl, rfl⟩))
    (fun os started H enc _ => lifted os started H enc)

theorem proved : Rows.CurveBackSaid :=
  over
#print axioms proved
end Go.Proofs.Ytiaikceoodeboab.curveBack
