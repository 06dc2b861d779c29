/- TopoFinds holds for every input: the row, out of the walk. No condition. -/
import Derived.Test.YtbehobojgeganaaRows
import Derived.SizedLaws
import Derived.Test.YtbehobojgeganaaOpenF
import Derived.Test.YtbehobojgeganaaTopH
import Derived.Test.YtbehobojgeganaaPost
namespace Go.Proofs.Ytbehobojgeganaa.topoFinds
open Go.ChangeShapes Go.WideShapes Go.ChangeAt Go.RowKit
set_option linter.unusedVariables false
set_option linter.unusedSimpArgs false
set_option maxRecDepth 100000
set_option maxHeartbeats 4000000 in
theorem walk (W : World) (a0 : Int) (b0 : -9223372036854775808 ≤ a0 ∧ a0 ≤ 9223372036854775807) (A1 : Option Addr) (k1 : Nat) (fs1 : List (List Int)) (l1 : fs1.length ≤ reachBytes) (m1 : ∀ q ∈ fs1, q.length ≤ reachBytes ∧ (∀ x ∈ q, i64B x)) (n1 : FL W A1 fs1) (a2 : Int) (b2 : -9223372036854775808 ≤ a2 ∧ a2 ≤ 9223372036854775807) (a3 : Int) (b3 : -9223372036854775808 ≤ a3 ∧ a3 ≤ 9223372036854775807) :
    Calls Try.prog 4 #[.int .i64 a0, .slice A1 fs1.length k1, .int .i64 a2, .int .i64 a3] W fun e W' => e = .returned (.bool true) ∧ Below W.heap.size W W' := by
  obtain ⟨hx, hi⟩ := row_lens m1
  have hl : fs1.length < 1099511627776000 := by rw [reach_num] at l1; omega
  have cG := fun (W1 : World) (hb : Below W.heap.size W W1) => great_any W1 a0 k1 fs1 A1 (n1.below hb) hl hx
  have cB := fun (hg : a0 ≤ 60 ∧ fs1.length + tot fs1 ≤ 300) (W1 : World) (hb : Below W.heap.size W W1) => built_any W1 a0 k1 fs1 A1 (n1.below hb) b0 hi (by omega)
  replace cB := Lib.hid cB
  go_enter Try.func4, Try.ntmps4
  go_upto_region 8 with (first
    | (go_at_call 14; (with_reducible refine (alive8_any _).mono ?_); rintro e W1 ⟨rfl, hb1⟩)
    | (go_at_call 15; (with_reducible refine (cG W1 hb1).mono ?_); rintro e W2 ⟨bb, rfl, hb2, hgr⟩; have hb12 := bel_trans hb1 hb2; replace hgr := Lib.hid hgr; clear hb2 cG; cases bb)
    | (go_at_call 17; (with_reducible refine (cB.out (hgr.out trivial) W2 hb12).mono ?_); rintro e W3 ⟨A4, A5, A6, t, c4, c5, c6, ee, rfl, hP⟩; have hb3 := bel_trans hb12 hP.bel; have hV := Lib.hid hP.isV; have hgd := hP.good; clear hP cB; rcases hgd with ⟨rfl, hs, hS⟩ | ⟨rfl, hn, rfl, rfl, rfl, rfl, rfl, rfl, rfl⟩)
    | fail)
  rotate_left
  · go_ret
    exact ⟨rfl, bel_alloc hb3 _⟩
  · go_ret
    exact ⟨rfl, hb12⟩
  have hT0 : Blk (W3.alloc (.cells #[.slice A4 t.es.length c4, .slice A5 t.fans.length c5, .slice A6 t.rs.length c6] 29)) W3.heap.size 29 #[.slice A4 t.es.length c4, .slice A5 t.fans.length c5, .slice A6 t.rs.length c6] := Blk.new _ _ _ _ rfl
  have hb4 := bel_alloc hb3 (.cells #[.slice A4 t.es.length c4, .slice A5 t.fans.length c5, .slice A6 t.rs.length c6] 29)
  have hV4 := TopoV.below hV.out (bel_alloc (Below.refl _ _) (.cells #[.slice A4 t.es.length c4, .slice A5 t.fans.length c5, .slice A6 t.rs.length c6] 29))
  generalize W3.alloc (.cells #[.slice A4 t.es.length c4, .slice A5 t.fans.length c5, .slice A6 t.rs.length c6] 29) = W4 at *
  generalize W3.heap.size = T at *
  have hnf := hS.nf
  have hnr := hS.nr
  have hwl : (waysL 0 fs1).length ≤ 300 := by
    rw [waysL_len]
    have := hgr.out trivial
    omega
  have hesl : t.es.length ≤ 300 := by
    have h1 := edges_le hS.walk hS.edges
    omega
  have ha60 := (hgr.out trivial).1
  clear hV hb3 hb12 hgr
  have cF := find_any W4 A4 A5 A6 t.fans.length t.rs.length c4 c5 c6 t.es a2 a3 hV4.es (by omega) hS.edges.sorted
  have t0 : W4.cell? ⟨T, 0, none⟩ = some (.slice A4 t.es.length c4) := hT0.cell 0
  have t1 : W4.cell? ⟨T, 1, none⟩ = some (.slice A5 t.fans.length c5) := hT0.cell 1
  have t2 : W4.cell? ⟨T, 2, none⟩ = some (.slice A6 t.rs.length c6) := hT0.cell 2
  have tl := hT0.lt
  go_upto_region 9 with (first | (go_at_call 21; (with_reducible refine cF.mono ?_); rintro e W5 ⟨i, ok, rfl, hF1, hb5⟩) | fail)
  have hV5 := hV4.below hb5
  have hT5 := hT0.below hb5
  have hb45 := bel_trans hb4 hb5
  clear t0 t1 t2 tl cF hV4 hT0 hb4 hb5
  have cR := rfind_any W5 A4 A5 A6 t.fans.length t.rs.length c4 c5 c6 t.es a2 a3 hV5.es (by omega)
  have t0 : W5.cell? ⟨T, 0, none⟩ = some (.slice A4 t.es.length c4) := hT5.cell 0
  have t1 : W5.cell? ⟨T, 1, none⟩ = some (.slice A5 t.fans.length c5) := hT5.cell 1
  have t2 : W5.cell? ⟨T, 2, none⟩ = some (.slice A6 t.rs.length c6) := hT5.cell 2
  have tl := hT5.lt
  go_upto_region 10 with (first | (go_at_call 22; (with_reducible refine cR.mono ?_); rintro e W6 ⟨i2, ok2, rfl, hF2, hb6⟩) | fail)
  obtain ⟨rfl, rfl⟩ := hF1.one hS.edges.sorted hF2
  have hV6 := hV5.below hb6
  have hT6 := hT5.below hb6
  have hb56 := bel_trans hb45 hb6
  clear t0 t1 t2 tl cR hV5 hT5 hb45 hb6 hF1 hF2
  have cE := edged_any W6 A4 A5 A6 t.fans.length t.rs.length c4 c5 c6 t.es a2 hV6.es
  have t0 : W6.cell? ⟨T, 0, none⟩ = some (.slice A4 t.es.length c4) := hT6.cell 0
  have t1 : W6.cell? ⟨T, 1, none⟩ = some (.slice A5 t.fans.length c5) := hT6.cell 1
  have t2 : W6.cell? ⟨T, 2, none⟩ = some (.slice A6 t.rs.length c6) := hT6.cell 2
  have tl := hT6.lt
  by_cases d0 : (0 : Int) ≤ a2
  · obtain ⟨j, rfl⟩ := Int.eq_ofNat_of_zero_le d0
    by_cases d1 : j < t.es.length
    · have d1i : (j : Int) < (t.es.length : Int) := by omega
      have hon := edge_one hS.walk hS.edges _ (List.getElem_mem d1)
      have hed : edgedB t.es (j : Int) = ((t.es[j].f == -1) != (t.es[j].g == -1)) := by simp [edgedB, d1]
      rw [hed] at cE
      obtain ⟨b, off, rfl, hbl, hc⟩ := hV6.es (by omega)
      obtain ⟨_, _, g2, g3⟩ := hc j d1
      clear hc hed hV6 hT6
      generalize t.es[j].f = ef at *
      generalize t.es[j].g = eg at *
      obtain ⟨hf1, hf2, hf3⟩ := hon
      by_cases e1 : ef = -1
      · have e2 : ¬ eg < 0 := by omega
        have e3 : (eg == -1) = false := by simp; omega
        subst e1
        rw [e3] at cE
        go_wp2_with (first | (go_at_call 23; (with_reducible refine cE.mono ?_); rintro e W9 ⟨rfl, hb9⟩) | fail)
        go_ret
        exact ⟨rfl, bel_trans hb56 hb9⟩
      · have e4 : ¬ ef < 0 := by omega
        have e5 : (ef == -1) = false := by simpa using e1
        rw [e5] at cE
        by_cases e6 : eg = -1
        · subst e6
          go_wp2_with (first | (go_at_call 23; (with_reducible refine cE.mono ?_); rintro e W9 ⟨rfl, hb9⟩) | fail)
          go_ret
          exact ⟨rfl, bel_trans hb56 hb9⟩
        · have e7 : ¬ eg < 0 := by omega
          have e8 : (eg == -1) = false := by simpa using e6
          rw [e8] at cE
          go_wp2_with (first | (go_at_call 23; (with_reducible refine cE.mono ?_); rintro e W9 ⟨rfl, hb9⟩) | fail)
          go_ret
          exact ⟨rfl, bel_trans hb56 hb9⟩
    · have d1i : ¬ (j : Int) < (t.es.length : Int) := by omega
      have hed : edgedB t.es (j : Int) = false := by simp [edgedB, List.getElem?_eq_none (Nat.le_of_not_lt d1)]
      rw [hed] at cE
      clear hed
      go_wp2_with (first | (go_at_call 23; (with_reducible refine cE.mono ?_); rintro e W9 ⟨rfl, hb9⟩) | fail)
      go_ret
      exact ⟨rfl, bel_trans hb56 hb9⟩
  · have hed : edgedB t.es a2 = false := by simp [edgedB, d0]
    rw [hed] at cE
    clear hed
    go_wp2_with (first | (go_at_call 23; (with_reducible refine cE.mono ?_); rintro e W9 ⟨rfl, hb9⟩) | fail)
    go_ret
    exact ⟨rfl, bel_trans hb56 hb9⟩

theorem own : ownKnob Try.prog.godebug = none := by kernel_rfl
set_option maxRecDepth 100000 in
theorem lifted (os : Os) (started : os.Started) (H : Type) (enc : TypeId × Value → H) :
    ReturnsInHanded {} Try.checked os 4 .any (Rows.topoFindsSpec.pre6 enc Try.prog Try.f4 Rows.topoFindsRow.domain false) (Rows.topoFindsSpec.post enc Try.prog Try.f4 false true false false) := by
  refine returnsInHanded_of_change_sized (C := Try.checked) own started (by kernel_rfl) Try.func4
    (ChangeSpec.witness6 (enc := enc) (C := Try.checked) false ⟨#[], #[.int .i64 0, .slice none 0 0, .int .i64 0, .int .i64 0], []⟩ 12 (by kernel_rfl) (by kernel_rfl) (by kernel_rfl) (by kernel_rfl)) ?_
  intro W base args ds gs before hval0 hW hcnd hwt _
  have hval : ∀ (j : Nat) t v, Try.f4.params[j]? = some t → args[j]? = some v → Value.okWide Try.prog W .any base t v := hval0
  have hW' := hW
  obtain ⟨p, q, hA0, hV, rfl, hfz, hnd⟩ := hW
  have hA : DataW.TrodAll enc Try.prog W 0 (fun _ => true) true Try.f4.params.toList args.toList ds p := hA0
  rw [Try.params4] at hA hval
  obtain ⟨v0, vs0, d0, ds0, p0, q0, hargs, rfl, rfl, h0, r0⟩ := trodAll_cons hA
  obtain ⟨v1, vs1, d1, ds1, p1, q1, rfl, rfl, rfl, h1, r1⟩ := trodAll_cons r0
  obtain ⟨v2, vs2, d2, ds2, p2, q2, rfl, rfl, rfl, h2, r2⟩ := trodAll_cons r1
  obtain ⟨v3, vs3, d3, ds3, p3, q3, rfl, rfl, rfl, h3, r3⟩ := trodAll_cons r2
  obtain ⟨rfl, rfl, rfl⟩ := trodAll_nil r3
  obtain rfl : args = #[v0, v1, v2, v3] := by cases args; simp_all
  obtain ⟨a0, rfl, b0⟩ := open_int64 (hval 0 3 v0 rfl rfl) h0
  obtain ⟨sa1, sn1, sc1, rfl⟩ := okWide_slice Try.underlying22 (hval 1 22 v1 rfl rfl)
  have hTW1 : TW enc Try.prog W 0 (fun _ => true) true 22 [.slice sa1 sn1 sc1] := by
    obtain ⟨fu, hfu⟩ := h1
    refine ⟨fu, _, hfu, fun n hn => ?_⟩
    have := List.all_eq_true.1 hwt n (DataW.weights_mem_each (j := 1) (t := 22) (d := d1) (by rw [Try.params4]; rfl) (by rfl) n hn)
    simpa using this
  obtain ⟨A1, k1, fs1, e1, l1, m1, n1⟩ := tw_facesF hTW1
  obtain ⟨f1, g1, i1⟩ : A1 = sa1 ∧ fs1.length = sn1 ∧ k1 = sc1 := by simpa [eq_comm] using e1
  subst f1
  subst g1
  subst i1
  clear hTW1
  obtain ⟨a2, rfl, b2⟩ := open_int64 (hval 2 3 v2 rfl rfl) h2
  obtain ⟨a3, rfl, b3⟩ := open_int64 (hval 3 3 v3 rfl rfl) h3
  refine (walk W a0 b0 A1 k1 fs1 l1 m1 n1 a2 b2 a3 b3).mono fun e W' ⟨he, hb⟩ => ?_
  subst he
  exact ⟨_, rfl, law_post (tb := 4) (by kernel_rfl) (by kernel_rfl) rfl rfl Try.underlying4 rfl rfl rfl hW' hb⟩

theorem over : Rows.topoFindsRow.holds Try.pinned (OpenSpec.ofChange Rows.topoFindsSpec) :=
  OpenClaim.holds_of_wide 4 Try.f4 rfl rfl rfl rfl rfl rfl rfl ⟨rfl, rfl, rfl, rfl, rfl⟩ rfl rfl rfl rfl rfl (by kernel_rfl) Try.func4 (by kernel_rfl)
    (of_decide_eq_true (by kernel_rfl)) (by unfold Func.isWrapper; first | (rw [if_pos (by decide +kernel)]; kernel_rfl) | (rw [if_neg (by decide +kernel)]; exact ⟨rfl, rfl⟩))
    (fun os started H enc _ => lifted os started H enc)

theorem proved : Rows.TopoFindsSaid :=
  over
#print axioms proved
end Go.Proofs.Ytbehobojgeganaa.topoFinds
