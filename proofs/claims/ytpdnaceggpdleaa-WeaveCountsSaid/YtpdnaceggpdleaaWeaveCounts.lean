/- WeaveCounts holds for every input: the row, out of the walk. No condition. -/
import Derived.Test.YtpdnaceggpdleaaRows
import Derived.Test.YtpdnaceggpdleaaC4
namespace Go.Proofs.Ytpdnaceggpdleaa.weaveCounts
open Go.ChangeShapes Go.WideShapes Go.ChangeAt Go.RowKit
set_option linter.unusedVariables false
set_option linter.unusedSimpArgs false
set_option maxRecDepth 100000 in
set_option maxHeartbeats 4000000 in
theorem walk (W : World) (q : Nat → Int) (hq : ∀ k, k < 4 → i64W (q k)) : Calls Try.prog 5 #[.agg (q4C q)] W fun e w' => e = .returned (.bool true) ∧ Below W.heap.size W w' := by
  have hb0 : Below W.heap.size W (W.alloc (.cells (q4C q) 22)) := bel_alloc (Below.refl _ _) _
  have hQ0 : Blk (W.alloc (.cells (q4C q) 22)) W.heap.size 22 (q4C q) := Blk.new _ _ _ _ rfl
  replace hq := Lib.hid hq
  go_enter Try.func5, Try.ntmps5
  go_upto_region 1 with (fail)
  generalize W.alloc (.cells (q4C q) 22) = w0 at *
  have cA := alive13_any w0
  replace cA := Lib.hid cA
  go_upto_region 3 with (first | (go_at_call 8; (refine cA.out.mono ?_); rintro e w1 ⟨rfl, hb1⟩) | fail)
  have hQ1 := hQ0.below hb1
  have hB1 := bel_trans hb0 hb1
  clear hb0 hQ0 hb1 cA
  have cP := weaveB w1 q hq.out
  replace cP := Lib.hid cP
  have x0 : w1.cell? ⟨W.heap.size, 0, none⟩ = some (.int .i64 (q 0)) := hQ1.cell 0
  have x1 : w1.cell? ⟨W.heap.size, 1, none⟩ = some (.int .i64 (q 1)) := hQ1.cell 1
  have x2 : w1.cell? ⟨W.heap.size, 2, none⟩ = some (.int .i64 (q 2)) := hQ1.cell 2
  have x3 : w1.cell? ⟨W.heap.size, 3, none⟩ = some (.int .i64 (q 3)) := hQ1.cell 3
  have xl := hQ1.lt
  go_upto_region 4 with (first | (go_at_call 9; (refine cP.out.mono ?_); rintro e w2 ⟨hb2, hA⟩; rcases hA with ⟨hok, A1, A2, c1, c2, rfl, hc1, hc2, hL1, hL2⟩ | ⟨hno, rfl⟩) | fail)
  · have hQ2 := hQ1.below hb2
    have hB2 := bel_trans hB1 hb2
    clear x0 x1 x2 x3 xl cP hQ1 hB1 hb2 hL1 hL2
    have hr := okQ_r hok
    have e0 := okQ_eq hok 0 (by omega)
    have e1 := okQ_eq hok 1 (by omega)
    have e2 := okQ_eq hok 2 (by omega)
    have e3 := okQ_eq hok 3 (by omega)
    have n0 := hok 0 (by omega)
    have n1 := hok 1 (by omega)
    have n2 := hok 2 (by omega)
    have n3 := hok 3 (by omega)
    obtain ⟨m1, m2⟩ := most_bd hr
    have hm : (mxR (rQ q) 4 : Int) = max (max (max (q 0) (q 1)) (q 2)) (q 3) := by
      have := mxI_nat 4 (okQ_eq hok)
      rw [← this]
      show max (max (max (max 0 (q 0)) (q 1)) (q 2)) (q 3) = _
      omega
    obtain ⟨p, hp⟩ : ∃ p : Nat, p = (mxR (rQ q) 4 - 1) * (mxR (rQ q) 4 - 1) := ⟨_, rfl⟩
    have hpI : ((mxR (rQ q) 4 : Int) - 1) * ((mxR (rQ q) 4 : Int) - 1) = (p : Int) := by
      rw [hp, Int.natCast_mul, show ((mxR (rQ q) 4 - 1 : Nat) : Int) = (mxR (rQ q) 4 : Int) - 1 by omega]
    have hpb : p ≤ 225 := by
      rw [hp]
      exact Nat.le_trans (Nat.mul_le_mul (show mxR (rQ q) 4 - 1 ≤ 15 by omega) (show mxR (rQ q) 4 - 1 ≤ 15 by omega)) (by omega)
    have hs : ((spotsW (rQ q)).length : Int) = q 0 + q 1 + q 2 + q 3 + (p : Int) := by
      rw [spotsW_len hr, ← hp]; omega
    have ht : ((trisW (rQ q)).length : Int) = q 0 + q 1 + q 2 + q 3 + 2 * (p : Int) - 2 := by
      by_cases e : mxR (rQ q) 4 = 1
      · rw [trisW_one e]
        have : p = 0 := by rw [hp, e]
        have f0 := hr 0 (by omega)
        have f1 := hr 1 (by omega)
        have f2 := hr 2 (by omega)
        have f3 := hr 3 (by omega)
        omega
      · rw [trisW_two (by omega)]
        obtain ⟨m, hm2⟩ : ∃ m, mxR (rQ q) 4 = m + 2 := ⟨mxR (rQ q) 4 - 2, by omega⟩
        rw [hm2] at hp ⊢
        have : p = m * m + 2 * m + 1 := by rw [hp]; simp only [Nat.add_sub_cancel, show m + 2 - 1 = m + 1 by omega]; grind
        simp only [Nat.add_sub_cancel]
        have e5 : m * (m * 2) = 2 * (m * m) := by grind
        rw [e5]
        omega
    generalize (spotsW (rQ q)).length = sl at *
    generalize (trisW (rQ q)).length = tl at *
    generalize (mxR (rQ q) 4 : Int) = mm at *
    clear hr hok e0 e1 e2 e3 hp m1
    have x0 : w2.cell? ⟨W.heap.size, 0, none⟩ = some (.int .i64 (q 0)) := hQ2.cell 0
    have x1 : w2.cell? ⟨W.heap.size, 1, none⟩ = some (.int .i64 (q 1)) := hQ2.cell 1
    have x2 : w2.cell? ⟨W.heap.size, 2, none⟩ = some (.int .i64 (q 2)) := hQ2.cell 2
    have x3 : w2.cell? ⟨W.heap.size, 3, none⟩ = some (.int .i64 (q 3)) := hQ2.cell 3
    have xl := hQ2.lt
    generalize q 0 = a at *
    generalize q 1 = b at *
    generalize q 2 = c at *
    generalize q 3 = d at *
    replace hm := Lib.hid hm
    replace hpI := Lib.hid hpI
    replace hs := Lib.hid hs
    replace ht := Lib.hid ht
    have hsl : sl ≤ 400 := by have := hs.out; omega
    have htl : tl ≤ 600 := by have := ht.out; omega
    have hmx := run_max4W #[3, 3, 3, 3] 3 a b c d
    rw [← hm.out] at hmx
    have hbm : 1 ≤ mm ∧ mm ≤ 16 := by have := hm.out; omega
    obtain ⟨g1, g2⟩ := hbm
    have g3 : 0 ≤ (mm - 1) * (mm - 1) ∧ (mm - 1) * (mm - 1) ≤ 225 := by have := hpI.out; omega
    obtain ⟨g3, g4⟩ := g3
    have t1 : ((3 * (tl : Int) + (a + b + c + d)) % 2 == 0) = true := by have := ht.out; simp; omega
    have t2 : ((sl : Int) - (3 * (tl : Int) + (a + b + c + d)) / 2 + (tl : Int) == 1) = true := by have := ht.out; have := hs.out; simp; omega
    have t3 : ((sl : Int) == a + b + c + d + (mm - 1) * (mm - 1)) = true := by have := hs.out; have := hpI.out; simp; omega
    go_upto_region 9 with (fail)
    go_wp2
    go_ret
    exact ⟨rfl, hB2⟩
  · have hbb := bel_trans hB1 hb2
    go_wp2
    go_ret
    exact ⟨rfl, hbb⟩

theorem own : ownKnob Try.prog.godebug = none := by kernel_rfl
set_option maxRecDepth 100000 in
theorem lifted (os : Os) (started : os.Started) (H : Type) (enc : TypeId × Value → H) :
    ReturnsInHanded {} Try.checked os 5 .any (Rows.weaveCountsSpec.pre6 enc Try.prog Try.f5 Rows.weaveCountsRow.domain false) (Rows.weaveCountsSpec.post enc Try.prog Try.f5 false true false false) := by
  refine returnsInHanded_of_change (C := Try.checked) own started (by kernel_rfl) Try.func5
    (ChangeSpec.witness6 (enc := enc) (C := Try.checked) false ⟨#[], #[.agg #[.int .i64 0, .int .i64 0, .int .i64 0, .int .i64 0]], []⟩ 12 (by kernel_rfl) (by kernel_rfl) (by kernel_rfl) (by kernel_rfl)) ?_
  intro W base args ds gs before hval0 hW hcnd _
  have hval : ∀ (j : Nat) t v, Try.f5.params[j]? = some t → args[j]? = some v → Value.okWide Try.prog W .any base t v := hval0
  have hW' := hW
  obtain ⟨p, q, hA0, hV, rfl, hfz, hnd⟩ := hW
  have hA : DataW.TrodAll enc Try.prog W 0 (fun _ => true) true Try.f5.params.toList args.toList ds p := hA0
  rw [Try.params5] at hA hval
  obtain ⟨v0, vs0, d0, ds0, p0, q0, hargs, rfl, rfl, h0, r0⟩ := trodAll_cons hA
  obtain ⟨rfl, rfl, rfl⟩ := trodAll_nil r0
  obtain rfl : args = #[v0] := by cases args; simp_all
  obtain ⟨q0, rfl, k0⟩ := open_I4 (hval 0 22 v0 rfl rfl) h0
  refine (walk W q0 k0).mono fun e W' ⟨he, hb⟩ => ?_
  subst he
  exact ⟨_, rfl, law_post (tb := 4) (by kernel_rfl) (by kernel_rfl) rfl rfl Try.underlying4 rfl rfl rfl hW' hb⟩

theorem over : Rows.weaveCountsRow.holds Try.pinned (OpenSpec.ofChange Rows.weaveCountsSpec) :=
  OpenClaim.holds_of_wide 5 Try.f5 rfl rfl rfl rfl rfl rfl rfl ⟨rfl, rfl, rfl, rfl, rfl⟩ rfl rfl rfl rfl rfl (by kernel_rfl) Try.func5 (by kernel_rfl)
    (of_decide_eq_true (by kernel_rfl)) (by unfold Func.isWrapper; first | (rw [if_pos (by decide +kernel)]; kernel_rfl) | (rw [if_neg (by decide +kernel)]; exact ⟨rfl, rfl⟩))
    (fun os started H enc _ => lifted os started H enc)

theorem proved : Rows.WeaveCountsSaid :=
  over
#print axioms proved
end Go.Proofs.Ytpdnaceggpdleaa.weaveCounts
