/- TopoBuilds holds for every input: the row, out of the walk. No condition. -/
import Derived.Test.YtbehobojgeganaaRows
import Derived.SizedLaws
import Derived.Test.YtbehobojgeganaaOpenF
import Derived.Test.YtbehobojgeganaaTopBD
import Derived.Test.YtbehobojgeganaaTopL
import Derived.Test.YtbehobojgeganaaTopB
import Derived.Test.YtbehobojgeganaaPost
namespace Go.Proofs.Ytbehobojgeganaa.topoBuilds
open Go.ChangeShapes Go.WideShapes Go.ChangeAt Go.RowKit
set_option linter.unusedVariables false
set_option linter.unusedSimpArgs false
theorem topo_one {n : Int} {fs : List (List Int)} {t u : TopoT} (h : TopoS n fs t) (k : TopoS n fs u) : u = t := by
  have e1 := h.edges.one k.edges
  have hl : t.fans.length = u.fans.length := by have := h.nf; have := k.nf; omega
  have hl2 : t.rs.length = u.rs.length := by have := h.nr; have := k.nr; omega
  have hl3 : t.rs.length = t.fans.length := by have := h.nr; have := h.nf; omega
  have hv : ∀ v (h1 : v < t.fans.length) (h2 : v < t.rs.length) (h3 : v < u.fans.length) (h4 : v < u.rs.length), t.fans[v] = u.fans[v] ∧ t.rs[v] = u.rs[v] := fun v h1 h2 h3 h4 => by
    obtain ⟨L, p1, p2, p3⟩ := h.fan v h1 h2
    obtain ⟨M, q1, q2, q3⟩ := k.fan v h3 h4
    obtain ⟨r1, r2⟩ := p1.unique h.walk.apart q1
    exact ⟨by rw [p3, q3, r1], r2⟩
  cases t; cases u
  simp only at e1 hl hl2 hl3 hv
  simp only [TopoT.mk.injEq]
  refine ⟨e1.symm, ?_, ?_⟩
  · exact (List.ext_getElem hl fun v h1 h2 => (hv v h1 (by omega) h2 (by omega)).1).symm
  · exact (List.ext_getElem hl2 fun v h1 h2 => (hv v (by omega) h1 (by omega) h2).2).symm
/-- Both Builds tell the same. -/
theorem both_say {W : World} {V ee : Int} {fs : List (List Int)} {t : TopoT} {A1 A2 A3 : Option Addr} {c1 c2 c3 : Nat} {e : Ending} (h : (ee = 0 ∧ Surf V fs ∧ TopoS V fs t) ∨ (ee = 14 ∧ ¬ Surf V fs ∧ t = ⟨[], [], []⟩ ∧ A1 = none ∧ A2 = none ∧ A3 = none ∧ c1 = 0 ∧ c2 = 0 ∧ c3 = 0))
    (k : (¬ Surf V fs ∧ e = .returned (.tuple #[.agg #[.slice none 0 0, .slice none 0 0, .slice none 0 0], .int .i64 14])) ∨ (Surf V fs ∧ ∃ t A1 A2 A3 c1 c2 c3, TopoS V fs t ∧ TopoV W A1 A2 A3 t ∧ e = .returned (.tuple #[.agg #[.slice A1 t.es.length c1, .slice A2 t.fans.length c2, .slice A3 t.rs.length c3], .int .i64 0]))) :
    ∃ B1 B2 B3 d1 d2 d3, e = .returned (.tuple #[.agg #[.slice B1 t.es.length d1, .slice B2 t.fans.length d2, .slice B3 t.rs.length d3], .int .i64 ee]) ∧ TopoV W B1 B2 B3 t := by
  rcases h with ⟨rfl, hs, hS⟩ | ⟨rfl, hn, rfl, _⟩
  · rcases k with ⟨hn, _⟩ | ⟨_, u, B1, B2, B3, d1, d2, d3, hU, hV, he⟩
    · exact absurd hs hn
    · obtain rfl := topo_one hS hU
      exact ⟨B1, B2, B3, d1, d2, d3, he, hV⟩
  · rcases k with ⟨_, he⟩ | ⟨hs, _⟩
    · exact ⟨none, none, none, 0, 0, 0, he, fun h => by simp at h, fun h => by simp at h, fun h => by simp at h⟩
    · exact absurd hs hn
theorem say_lens {V ee : Int} {fs : List (List Int)} {t : TopoT} {A1 A2 A3 : Option Addr} {c1 c2 c3 : Nat} (h : (ee = 0 ∧ Surf V fs ∧ TopoS V fs t) ∨ (ee = 14 ∧ ¬ Surf V fs ∧ t = ⟨[], [], []⟩ ∧ A1 = none ∧ A2 = none ∧ A3 = none ∧ c1 = 0 ∧ c2 = 0 ∧ c3 = 0)) (hw : (waysL 0 fs).length ≤ 300) (hV : V ≤ 60) : t.es.length < 1099511627776 ∧ t.fans.length < 1099511627776 ∧ t.rs.length = t.fans.length ∧ ∀ x ∈ t.fans, x.length < 1099511627776 := by
  rcases h with ⟨_, _, hS⟩ | ⟨_, _, rfl, _⟩
  · have h1 := edges_le hS.walk hS.edges
    have h2 := hS.nf
    have h3 := hS.nr
    refine ⟨by omega, by omega, by omega, fun x hx => ?_⟩
    obtain ⟨v, hv, rfl⟩ := List.mem_iff_getElem.mp hx
    obtain ⟨L, p1, p2, p3⟩ := hS.fan v hv (by omega)
    have h4 : (froms (waysL 0 fs) (v : Int)).length ≤ (waysL 0 fs).length := List.length_filter_le _ _
    rw [p3, List.length_map, p2]; omega
  · exact ⟨by simp, by simp, rfl, fun x hx => by cases hx⟩
set_option maxRecDepth 100000
set_option maxHeartbeats 4000000 in
theorem walk (W : World) (a0 : Int) (b0 : -9223372036854775808 ≤ a0 ∧ a0 ≤ 9223372036854775807) (A1 : Option Addr) (k1 : Nat) (fs1 : List (List Int)) (l1 : fs1.length ≤ reachBytes) (m1 : ∀ q ∈ fs1, q.length ≤ reachBytes ∧ (∀ x ∈ q, i64B x)) (n1 : FL W A1 fs1) :
    Calls Try.prog 3 #[.int .i64 a0, .slice A1 fs1.length k1] W fun e W' => e = .returned (.bool true) ∧ Below W.heap.size W W' := by
  obtain ⟨hx, hi⟩ := row_lens m1
  have hl : fs1.length < 1099511627776000 := by rw [reach_num] at l1; omega
  have cG := fun (W1 : World) (hb : Below W.heap.size W W1) => great_any W1 a0 k1 fs1 A1 (n1.below hb) hl hx
  have cB := fun (hg : a0 ≤ 60 ∧ fs1.length + tot fs1 ≤ 300) (W1 : World) (hb : Below W.heap.size W W1) => built_any W1 a0 k1 fs1 A1 (n1.below hb) b0 hi (by omega)
  replace cB := Lib.hid cB
  go_enter Try.func3, Try.ntmps3
  clear cB
  go_upto_region 5 with (first
    | (go_at_call 14; (with_reducible refine (alive8_any _).mono ?_); rintro e W1 ⟨rfl, hb1⟩)
    | (go_at_call 15; (with_reducible refine (cG W1 hb1).mono ?_); rintro e W2 ⟨bb, rfl, hb2, hgr⟩; have hb12 := bel_trans hb1 hb2; replace hgr := Lib.hid hgr; clear hb2 cG; cases bb)
    | fail)
  all_goals try (go_ret; exact ⟨rfl, hb12⟩)
  have hbd := hgr.out trivial
  have hwl : (waysL 0 fs1).length ≤ 300 := by rw [waysL_len]; omega
  have hxt : ∀ x ∈ fs1, x.length ≤ 300 := fun x hx2 => by have := len_tot hx2; omega
  clear hgr
  go_upto_region 6 with (first | (go_at_call 16; (refine (copyF_any0 W2 A1 k1 fs1 (n1.below hb12) (by omega) (fun x hx2 => by have := hxt x hx2; omega)).mono ?_); rintro e W3 ⟨A9, k9, rfl, hOF, hb3⟩; have hb13 := bel_trans hb12 hb3; have hF3 := hOF.fl) | fail)
  go_upto_region 7 with (first | (go_at_call 17; (refine (built_any W3 a0 k9 fs1 A9 hF3 b0 hi (by omega)).mono ?_); rintro e W4 ⟨A4, A5, A6, t, c4, c5, c6, ee, rfl, hP⟩; have hb4 := hP.bel; have hb14 := bel_trans hb13 hb4; have hF4 := hF3.below hb4; have hV := hP.isV; have hgd := hP.good; clear hP) | fail)
  have hT0 : Blk (W4.alloc (.cells #[.slice A4 t.es.length c4, .slice A5 t.fans.length c5, .slice A6 t.rs.length c6] 29)) W4.heap.size 29 #[.slice A4 t.es.length c4, .slice A5 t.fans.length c5, .slice A6 t.rs.length c6] := Blk.new _ _ _ _ rfl
  have hbA : Below W4.heap.size W4 (W4.alloc (.cells #[.slice A4 t.es.length c4, .slice A5 t.fans.length c5, .slice A6 t.rs.length c6] 29)) := bel_alloc (Below.refl _ _) (.cells #[.slice A4 t.es.length c4, .slice A5 t.fans.length c5, .slice A6 t.rs.length c6] 29)
  have hb15 := bel_trans hb14 hbA
  have hF5 := hF4.below hbA
  have hV5 := hV.below hbA
  clear hbA hF4 hV hb14
  generalize W4.alloc (.cells #[.slice A4 t.es.length c4, .slice A5 t.fans.length c5, .slice A6 t.rs.length c6] 29) = W5 at *
  generalize W4.heap.size = T at *
  have hln := Lib.hid (say_lens hgd hwl hbd.1)
  go_upto_region 8 with (first | (go_at_call 18; (refine (dbuild_any W5 a0 k1 fs1 A1 (n1.below hb15) (by omega) (by omega) (fun x hx2 => by have := hxt x hx2; omega) (by omega)).mono ?_); rintro e W6 ⟨hb6, hdd⟩; have hb16 := bel_trans hb15 hb6; have hF6 := hF5.below hb6; have hV6 := hV5.below hb6; obtain ⟨B4, B5, B6, d4, d5, d6, rfl, hU⟩ := both_say hgd hdd) | fail)
  have hT6 := hT0.below hb6
  have hU0 : Blk (W6.alloc (.cells #[.slice B4 t.es.length d4, .slice B5 t.fans.length d5, .slice B6 t.rs.length d6] 29)) W6.heap.size 29 #[.slice B4 t.es.length d4, .slice B5 t.fans.length d5, .slice B6 t.rs.length d6] := Blk.new _ _ _ _ rfl
  have hbA : Below W6.heap.size W6 (W6.alloc (.cells #[.slice B4 t.es.length d4, .slice B5 t.fans.length d5, .slice B6 t.rs.length d6] 29)) := bel_alloc (Below.refl _ _) (.cells #[.slice B4 t.es.length d4, .slice B5 t.fans.length d5, .slice B6 t.rs.length d6] 29)
  have hb17 := bel_trans hb16 hbA
  have hF7 := hF6.below hbA
  have hV7 := hV6.below hbA
  have hU7 := hU.below hbA
  have hT7 := hT6.below hbA
  clear hbA hF6 hV6 hU hT6 hT0 hb16 hgd
  generalize W6.alloc (.cells #[.slice B4 t.es.length d4, .slice B5 t.fans.length d5, .slice B6 t.rs.length d6] 29) = W7 at *
  generalize W6.heap.size = U at *
  have t0 : W7.cell? ⟨T, 0, none⟩ = some (.slice A4 t.es.length c4) := hT7.cell 0
  have t1 : W7.cell? ⟨T, 1, none⟩ = some (.slice A5 t.fans.length c5) := hT7.cell 1
  have t2 : W7.cell? ⟨T, 2, none⟩ = some (.slice A6 t.rs.length c6) := hT7.cell 2
  have tl := hT7.lt
  have u0 : W7.cell? ⟨U, 0, none⟩ = some (.slice B4 t.es.length d4) := hU0.cell 0
  have u1 : W7.cell? ⟨U, 1, none⟩ = some (.slice B5 t.fans.length d5) := hU0.cell 1
  have u2 : W7.cell? ⟨U, 2, none⟩ = some (.slice B6 t.rs.length d6) := hU0.cell 2
  have ul := hU0.lt
  have n7 := n1.below hb17
  have cS := dsame_yes W7 A4 A5 A6 B4 B5 B6 c4 c5 c6 d4 d5 d6 t hV7 hU7 hln.out.1 hln.out.2.1 hln.out.2.2.1 hln.out.2.2.2
  go_wp2_with (first
    | (go_at_call 19; (with_reducible refine cS.mono ?_); rintro e W8 ⟨rfl, hb8⟩; have cT := sameF_yes W8 A9 A1 k9 k1 fs1 (hF7.below hb8) (n7.below hb8) (by omega) (fun x hx2 => by have := hxt x hx2; omega))
    | (go_at_call 20; (with_reducible refine cT.mono ?_); rintro e W9 ⟨rfl, hb9⟩)
    | fail)
  go_ret
  exact ⟨rfl, bel_trans (bel_trans hb17 hb8) hb9⟩

theorem own : ownKnob Try.prog.godebug = none := by kernel_rfl
set_option maxRecDepth 100000 in
theorem lifted (os : Os) (started : os.Started) (H : Type) (enc : TypeId × Value → H) :
    ReturnsInHanded {} Try.checked os 3 .any (Rows.topoBuildsSpec.pre6 enc Try.prog Try.f3 Rows.topoBuildsRow.domain false) (Rows.topoBuildsSpec.post enc Try.prog Try.f3 false true false false) := by
  refine returnsInHanded_of_change_sized (C := Try.checked) own started (by kernel_rfl) Try.func3
    (ChangeSpec.witness6 (enc := enc) (C := Try.checked) false ⟨#[], #[.int .i64 0, .slice none 0 0], []⟩ 12 (by kernel_rfl) (by kernel_rfl) (by kernel_rfl) (by kernel_rfl)) ?_
  intro W base args ds gs before hval0 hW hcnd hwt _
  have hval : ∀ (j : Nat) t v, Try.f3.params[j]? = some t → args[j]? = some v → Value.okWide Try.prog W .any base t v := hval0
  have hW' := hW
  obtain ⟨p, q, hA0, hV, rfl, hfz, hnd⟩ := hW
  have hA : DataW.TrodAll enc Try.prog W 0 (fun _ => true) true Try.f3.params.toList args.toList ds p := hA0
  rw [Try.params3] at hA hval
  obtain ⟨v0, vs0, d0, ds0, p0, q0, hargs, rfl, rfl, h0, r0⟩ := trodAll_cons hA
  obtain ⟨v1, vs1, d1, ds1, p1, q1, rfl, rfl, rfl, h1, r1⟩ := trodAll_cons r0
  obtain ⟨rfl, rfl, rfl⟩ := trodAll_nil r1
  obtain rfl : args = #[v0, v1] := by cases args; simp_all
  obtain ⟨a0, rfl, b0⟩ := open_int64 (hval 0 3 v0 rfl rfl) h0
  obtain ⟨sa1, sn1, sc1, rfl⟩ := okWide_slice Try.underlying22 (hval 1 22 v1 rfl rfl)
  have hTW1 : TW enc Try.prog W 0 (fun _ => true) true 22 [.slice sa1 sn1 sc1] := by
    obtain ⟨fu, hfu⟩ := h1
    refine ⟨fu, _, hfu, fun n hn => ?_⟩
    have := List.all_eq_true.1 hwt n (DataW.weights_mem_each (j := 1) (t := 22) (d := d1) (by rw [Try.params3]; rfl) (by rfl) n hn)
    simpa using this
  obtain ⟨A1, k1, fs1, e1, l1, m1, n1⟩ := tw_facesF hTW1
  obtain ⟨f1, g1, i1⟩ : A1 = sa1 ∧ fs1.length = sn1 ∧ k1 = sc1 := by simpa [eq_comm] using e1
  subst f1
  subst g1
  subst i1
  clear hTW1
  refine (walk W a0 b0 A1 k1 fs1 l1 m1 n1).mono fun e W' ⟨he, hb⟩ => ?_
  subst he
  exact ⟨_, rfl, law_post (tb := 4) (by kernel_rfl) (by kernel_rfl) rfl rfl Try.underlying4 rfl rfl rfl hW' hb⟩

theorem over : Rows.topoBuildsRow.holds Try.pinned (OpenSpec.ofChange Rows.topoBuildsSpec) :=
  OpenClaim.holds_of_wide 3 Try.f3 rfl rfl rfl rfl rfl rfl rfl ⟨rfl, rfl, rfl, rfl, rfl⟩ rfl rfl rfl rfl rfl (by kernel_rfl) Try.func3 (by kernel_rfl)
    (of_decide_eq_true (by kernel_rfl)) (by unfold Func.isWrapper; first | (rw [if_pos (by decide +kernel)]; kernel_rfl) | (rw [if_neg (by decide +kernel)]; exact ⟨rfl, rfl⟩))
    (fun os started H enc _ => lifted os started H enc)

theorem proved : Rows.TopoBuildsSaid :=
  over
#print axioms proved
end Go.Proofs.Ytbehobojgeganaa.topoBuilds
