/- WeaveSpots holds for every input: the row, out of the walk. No condition. -/
import Derived.Test.YtpdnaceggpdleaaRows
import Derived.Test.YtpdnaceggpdleaaC4
namespace Go.Proofs.Ytpdnaceggpdleaa.weaveSpots
open Go.ChangeShapes Go.WideShapes Go.ChangeAt Go.RowKit
set_option linter.unusedVariables false
set_option linter.unusedSimpArgs false
set_option maxRecDepth 100000 in
set_option maxHeartbeats 4000000 in
theorem walk (W : World) (q : Nat → Int) (hq : ∀ k, k < 4 → i64W (q k)) : Calls Try.prog 3 #[.agg (q4C q)] W fun e w' => e = .returned (.bool true) ∧ Below W.heap.size W w' := by
  have hb0 : Below W.heap.size W (W.alloc (.cells (q4C q) 22)) := bel_alloc (Below.refl _ _) _
  have hQ0 : Blk (W.alloc (.cells (q4C q) 22)) W.heap.size 22 (q4C q) := Blk.new _ _ _ _ rfl
  replace hq := Lib.hid hq
  go_enter Try.func3, Try.ntmps3
  go_upto_region 1 with (fail)
  generalize W.alloc (.cells (q4C q) 22) = w0 at *
  have cA := alive13_any w0
  replace cA := Lib.hid cA
  go_upto_region 3 with (first | (go_at_call 8; (refine cA.out.mono ?_); rintro e w1 ⟨rfl, hb1⟩) | fail)
  have hQ1 := hQ0.below hb1
  have hB1 := bel_trans hb0 hb1
  clear hb0 hQ0 hb1 cA
  have cP := weaveB w1 q hq.out
  replace cP := Lib.hid cP
  have x0 : w1.cell? ⟨W.heap.size, 0, none⟩ = some (.int .i64 (q 0)) := hQ1.cell 0
  have x1 : w1.cell? ⟨W.heap.size, 1, none⟩ = some (.int .i64 (q 1)) := hQ1.cell 1
  have x2 : w1.cell? ⟨W.heap.size, 2, none⟩ = some (.int .i64 (q 2)) := hQ1.cell 2
  have x3 : w1.cell? ⟨W.heap.size, 3, none⟩ = some (.int .i64 (q 3)) := hQ1.cell 3
  have xl := hQ1.lt
  go_upto_region 4 with (first | (go_at_call 9; (refine cP.out.mono ?_); rintro e w2 ⟨hb2, hA⟩; rcases hA with ⟨hok, A1, A2, c1, c2, rfl, hc1, hc2, hL1, hL2⟩ | ⟨hno, rfl⟩) | fail)
  · have hQ2 := hQ1.below hb2
    have hB2 := bel_trans hB1 hb2
    clear x0 x1 x2 x3 xl cP hQ1 hB1
    have cR := rweaveB w2 q hq.out
    replace cR := Lib.hid cR
    have x0 : w2.cell? ⟨W.heap.size, 0, none⟩ = some (.int .i64 (q 0)) := hQ2.cell 0
    have x1 : w2.cell? ⟨W.heap.size, 1, none⟩ = some (.int .i64 (q 1)) := hQ2.cell 1
    have x2 : w2.cell? ⟨W.heap.size, 2, none⟩ = some (.int .i64 (q 2)) := hQ2.cell 2
    have x3 : w2.cell? ⟨W.heap.size, 3, none⟩ = some (.int .i64 (q 3)) := hQ2.cell 3
    have xl := hQ2.lt
    go_upto_region 5 with (first | (go_at_call 10; (refine cR.out.mono ?_); rintro e w3 ⟨hb3, hA⟩; rcases hA with ⟨hok2, F1, F2, f1, f2, rfl, hf1, hf2, hM1, hM2⟩ | ⟨hno, rfl⟩) | fail)
    rotate_left
    · exact absurd hok hno
    have hB3 := bel_trans hB2 hb3
    replace hL1 := hL1.below hb3
    replace hL2 := hL2.below hb3
    have hle : (trisW (rQ q)).length = ((trisW (rQ q)).map trZ).length := by simp
    rw [hle] at hc2 hf2 ⊢
    have hlP : (spotsW (rQ q)).length ≤ 400 := spotsW_lt (okQ_r hok)
    have hlZ : ((trisW (rQ q)).map trZ).length ≤ 600 := by rw [List.length_map]; exact trisW_lt (okQ_r hok)
    have hrZ : ∀ z ∈ (trisW (rQ q)).map trZ, rngS z := rng_tris (okQ_r hok)
    replace hrZ := Lib.hid hrZ
    clear hle x0 x1 x2 x3 xl cR hQ2 hB2 hb2 hb3 hok hok2
    generalize (trisW (rQ q)).map trZ = Z at *
    generalize spotsW (rQ q) = P at *
    go_upto_region 7 with (fail)
    go_wp2
    go_loopw [9] (fun iv wr => ∃ k : Nat, iv = .int .i64 (k : Int) ∧ k ≤ P.length ∧ Below W.heap.size W wr ∧ Below w3.heap.size w3 wr) (fun iv _ => P.length - (intOf iv).toNat)
    case atStart => exact ⟨0, rfl, by omega, hB3, Below.refl _ _⟩
    case round =>
      obtain ⟨k, rfl, hk, hBr, hb⟩ := hrel
      by_cases hlt : k < P.length
      · obtain ⟨b1, o1, rfl, hl1, a0, a1, a2⟩ := (hL1.below hb).at_ k hlt
        obtain ⟨b2, o2, rfl, hl2, d0, d1, d2⟩ := (hM1.below hb).at_ k hlt
        generalize P[k] = s at *
        have q0 : (0 : Int) ≤ (k : Int) := by omega
        have q1 : (k : Int) < (P.length : Int) := by omega
        go_upto_region 10 with (fail)
        refine wp_region_grow (by kernel_rfl) (by kernel_rfl) ?_
        repeat (go_big_quiet_step (((fail))))
        refine wpQuiet_nil ?_
        rintro _ ⟨xg, rfl⟩
        have hBx := bel_grow hBr xg
        have hbx := bel_grow hb xg
        generalize grow wr xg = w5 at *
        go_wp2
        go_roundw
        case rel => exact ⟨k + 1, by go_num, by omega, hBx, hbx⟩
        case measure => simp [intOf]; omega
      · obtain rfl : k = P.length := by omega
        clear hB3
        go_upto_region 12 with (fail)
        go_wp2
        go_loopw [10] (fun iv wr => ∃ k : Nat, iv = .int .i64 (k : Int) ∧ k ≤ Z.length ∧ Below W.heap.size W wr ∧ Below w3.heap.size w3 wr) (fun iv _ => Z.length - (intOf iv).toNat)
        case atStart => exact ⟨0, rfl, by omega, hBr, hb⟩
        case round =>
          obtain ⟨k, rfl, hk, hBr, hb⟩ := hrel
          by_cases hlt : k < Z.length
          · obtain ⟨b1, o1, rfl, hl1, a0, a1, a2⟩ := (hL2.below hb).at_ k hlt
            obtain ⟨b2, o2, rfl, hl2, d0, d1, d2⟩ := (hM2.below hb).at_ k hlt
            have hrs := hrZ.out _ (List.getElem_mem hlt)
            generalize Z[k] = s at *
            have q0 : (0 : Int) ≤ (k : Int) := by omega
            have q1 : (k : Int) < (Z.length : Int) := by omega
            go_upto_region 15 with (fail)
            refine wp_region_grow (by kernel_rfl) (by kernel_rfl) ?_
            repeat (first | (refine quiet_neT _ _ rfl rfl s rfl rfl hrs ?_) | go_big_quiet_step ((fail)))
            refine wpQuiet_nil ?_
            rintro _ ⟨xg, rfl⟩
            have hBx := bel_grow hBr xg
            have hbx := bel_grow hb xg
            generalize grow wr xg = w5 at *
            go_wp2
            go_roundw
            case rel => exact ⟨k + 1, by go_num, by omega, hBx, hbx⟩
            case measure => simp [intOf]; omega
          · obtain rfl : k = Z.length := by omega
            go_wp2
            go_ret
            exact ⟨rfl, hBr⟩
  · have hQ2 := hQ1.below hb2
    have hB2 := bel_trans hB1 hb2
    clear x0 x1 x2 x3 xl cP hQ1 hB1
    have cR := rweaveB w2 q hq.out
    replace cR := Lib.hid cR
    have x0 : w2.cell? ⟨W.heap.size, 0, none⟩ = some (.int .i64 (q 0)) := hQ2.cell 0
    have x1 : w2.cell? ⟨W.heap.size, 1, none⟩ = some (.int .i64 (q 1)) := hQ2.cell 1
    have x2 : w2.cell? ⟨W.heap.size, 2, none⟩ = some (.int .i64 (q 2)) := hQ2.cell 2
    have x3 : w2.cell? ⟨W.heap.size, 3, none⟩ = some (.int .i64 (q 3)) := hQ2.cell 3
    have xl := hQ2.lt
    go_upto_region 5 with (first | (go_at_call 10; (refine cR.out.mono ?_); rintro e w3 ⟨hb3, hA⟩; rcases hA with ⟨hok2, F1, F2, f1, f2, rfl, hf1, hf2, hM1, hM2⟩ | ⟨hno2, rfl⟩) | fail)
    · exact absurd hok2 hno
    have hB3 := bel_trans hB2 hb3
    clear x0 x1 x2 x3 xl cR hQ2 hB2 hb2 hb3
    go_upto_region 7 with (fail)
    go_wp2
    go_loopw [9] (fun iv wr => iv = .int .i64 0 ∧ Below W.heap.size W wr) (fun iv _ => 0)
    case atStart => exact ⟨rfl, hB3⟩
    case round =>
      obtain ⟨rfl, hBr⟩ := hrel
      go_upto_region 12 with (fail)
      go_wp2
      go_loopw [10] (fun iv wr => iv = .int .i64 0 ∧ Below W.heap.size W wr) (fun iv _ => 0)
      case atStart => exact ⟨rfl, hBr⟩
      case round =>
        obtain ⟨rfl, hBr⟩ := hrel
        go_wp2
        go_ret
        exact ⟨rfl, hBr⟩

theorem own : ownKnob Try.prog.godebug = none := by kernel_rfl
set_option maxRecDepth 100000 in
theorem lifted (os : Os) (started : os.Started) (H : Type) (enc : TypeId × Value → H) :
    ReturnsInHanded {} Try.checked os 3 .any (Rows.weaveSpotsSpec.pre6 enc Try.prog Try.f3 Rows.weaveSpotsRow.domain false) (Rows.weaveSpotsSpec.post enc Try.prog Try.f3 false true false false) := by
  refine returnsInHanded_of_change (C := Try.checked) own started (by kernel_rfl) Try.func3
    (ChangeSpec.witness6 (enc := enc) (C := Try.checked) false ⟨#[], #[.agg #[.int .i64 0, .int .i64 0, .int .i64 0, .int .i64 0]], []⟩ 12 (by kernel_rfl) (by kernel_rfl) (by kernel_rfl) (by kernel_rfl)) ?_
  intro W base args ds gs before hval0 hW hcnd _
  have hval : ∀ (j : Nat) t v, Try.f3.params[j]? = some t → args[j]? = some v → Value.okWide Try.prog W .any base t v := hval0
  have hW' := hW
  obtain ⟨p, q, hA0, hV, rfl, hfz, hnd⟩ := hW
  have hA : DataW.TrodAll enc Try.prog W 0 (fun _ => true) true Try.f3.params.toList args.toList ds p := hA0
  rw [Try.params3] at hA hval
  obtain ⟨v0, vs0, d0, ds0, p0, q0, hargs, rfl, rfl, h0, r0⟩ := trodAll_cons hA
  obtain ⟨rfl, rfl, rfl⟩ := trodAll_nil r0
  obtain rfl : args = #[v0] := by cases args; simp_all
  obtain ⟨q0, rfl, k0⟩ := open_I4 (hval 0 22 v0 rfl rfl) h0
  refine (walk W q0 k0).mono fun e W' ⟨he, hb⟩ => ?_
  subst he
  exact ⟨_, rfl, law_post (tb := 4) (by kernel_rfl) (by kernel_rfl) rfl rfl Try.underlying4 rfl rfl rfl hW' hb⟩

theorem over : Rows.weaveSpotsRow.holds Try.pinned (OpenSpec.ofChange Rows.weaveSpotsSpec) :=
  OpenClaim.holds_of_wide 3 Try.f3 rfl rfl rfl rfl rfl rfl rfl ⟨rfl, rfl, rfl, rfl, rfl⟩ rfl rfl rfl rfl rfl (by kernel_rfl) Try.func3 (by kernel_rfl)
    (of_decide_eq_true (by kernel_rfl)) (by unfold Func.isWrapper; first | (rw [if_pos (by decide +kernel)]; kernel_rfl) | (rw [if_neg (by decide +kernel)]; exact ⟨rfl, rfl⟩))
    (fun os started H enc _ => lifted os started H enc)

theorem proved : Rows.WeaveSpotsSaid :=
  over
#print axioms proved
end Go.Proofs.Ytpdnaceggpdleaa.weaveSpots
