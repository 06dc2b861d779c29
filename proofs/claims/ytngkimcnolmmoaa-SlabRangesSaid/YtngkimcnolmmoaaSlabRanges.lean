/- SlabRanges holds for every input: the row, out of the walk. No condition. -/
import Derived.Test.YtngkimcnolmmoaaRows
import Derived.Test.YtngkimcnolmmoaaSlab4
import Derived.Test.YtngkimcnolmmoaaSlab5
import Derived.Test.YtngkimcnolmmoaaSide7
import Derived.Test.YtngkimcnolmmoaaPost
namespace Go.Proofs.Ytngkimcnolmmoaa.slabRanges
open Go.ChangeShapes Go.WideShapes Go.ChangeAt Go.RowKit
set_option linter.unusedVariables false
set_option linter.unusedSimpArgs false
theorem rRange_any (o d l h : P3) : Gives Try.prog 12 #[.agg #[.int .i64 o.x, .int .i64 o.y, .int .i64 o.z], .agg #[.int .i64 d.x, .int .i64 d.y, .int .i64 d.z], .agg #[.int .i64 l.x, .int .i64 l.y, .int .i64 l.z, .int .i64 h.x, .int .i64 h.y, .int .i64 h.z]] (.tuple #[.agg #[.int .i64 (rgV o d l h).a.n, .int .i64 (rgV o d l h).a.d], .agg #[.int .i64 (rgV o d l h).b.n, .int .i64 (rgV o d l h).b.d], .bool (rgV o d l h).k, .int .i64 (rgV o d l h).e]) := by
  have ln := rLine_any o d
  have wl := uWithin_any l.x l.y l.z 131072 (by omega) (by omega)
  have wh := uWithin_any h.x h.y h.z 131072 (by omega) (by omega)
  cases q0 : lnB o d
  · rw [q0] at ln
    rw [rg_no (show rbB o d l h = false by unfold rbB; rw [q0]; rfl)]
    exact rRange_a o d l h ln
  rw [q0] at ln
  cases q1 : wiB l.x l.y l.z 131072
  · rw [q1] at wl
    rw [rg_no (show rbB o d l h = false by unfold rbB corn; rw [q1]; simp)]
    exact rRange_b o d l h ln wl
  rw [q1] at wl
  cases q2 : wiB h.x h.y h.z 131072
  · rw [q2] at wh
    rw [rg_no (show rbB o d l h = false by unfold rbB corn; rw [q2]; simp)]
    exact rRange_c o d l h ln wl wh
  rw [q2] at wh
  have hb : rbB o d l h = true := by unfold rbB corn; rw [q0, q1, q2]; rfl
  obtain ⟨h1, h2, h3, h4⟩ := rbB_in hb
  rcases rg_cases o d l h with ⟨e, _⟩ | ⟨_, hr, e⟩ | ⟨r, _, hr, e⟩
  · rw [hb] at e; cases e
  · rw [e]
    exact rRange_core o d l h h1 h2 h3 h4 ln wl wh _ _ _ (by rw [hr]; rfl)
  · rw [e]
    exact rRange_core o d l h h1 h2 h3 h4 ln wl wh _ _ _ (by rw [hr]; rfl)
set_option maxRecDepth 100000 in
set_option maxHeartbeats 4000000 in
theorem core (w : World) (o d l h : P3) (a b : Fr) (k : Bool) (e : Int) (m1 : Gives Try.prog 11 #[.agg #[.int .i64 o.x, .int .i64 o.y, .int .i64 o.z], .agg #[.int .i64 d.x, .int .i64 d.y, .int .i64 d.z], .agg #[.int .i64 l.x, .int .i64 l.y, .int .i64 l.z, .int .i64 h.x, .int .i64 h.y, .int .i64 h.z]] (.tuple #[.agg #[.int .i64 a.n, .int .i64 a.d], .agg #[.int .i64 b.n, .int .i64 b.d], .bool k, .int .i64 e])) (m2 : Gives Try.prog 12 #[.agg #[.int .i64 o.x, .int .i64 o.y, .int .i64 o.z], .agg #[.int .i64 d.x, .int .i64 d.y, .int .i64 d.z], .agg #[.int .i64 l.x, .int .i64 l.y, .int .i64 l.z, .int .i64 h.x, .int .i64 h.y, .int .i64 h.z]] (.tuple #[.agg #[.int .i64 a.n, .int .i64 a.d], .agg #[.int .i64 b.n, .int .i64 b.d], .bool k, .int .i64 e])) :
    Calls Try.prog 3 #[.agg #[.int .i64 o.x, .int .i64 o.y, .int .i64 o.z], .agg #[.int .i64 d.x, .int .i64 d.y, .int .i64 d.z], .agg #[.int .i64 l.x, .int .i64 l.y, .int .i64 l.z, .int .i64 h.x, .int .i64 h.y, .int .i64 h.z]] w fun e w' => e = .returned (.bool true) ∧ Below w.heap.size w w' := by
  have al := alive4_any
  go_enter Try.func3, Try.ntmps3
  go_wp2_with (first | (go_at_call 10; first | ((with_reducible refine (al.at_ _).mono ?_); rintro e w' ⟨rfl, xa, rfl⟩)) | (go_at_call 11; first | ((with_reducible refine (m1.at_ _).mono ?_); rintro e w' ⟨rfl, xr, rfl⟩)) | (go_at_call 12; first | ((with_reducible refine (m2.at_ _).mono ?_); rintro e w' ⟨rfl, xq, rfl⟩)))
  all_goals
    go_ret
    exact ⟨rfl, (by repeat (first | with_reducible exact Below.refl _ _ | with_reducible refine bel_then ?_ _ | with_reducible refine bel_grow ?_ _ | with_reducible refine bel_alloc ?_ _ | with_reducible refine bel_drew ?_ | with_reducible refine bel_set ?_ (by simp) _ | with_reducible refine bel_setRow ?_ (by first | omega | (simp; done) | (refine Nat.le_trans ?_ (top_le _ _); simp; done) | (refine Nat.le_succ_of_le (Nat.le_trans ?_ (top_le _ _)); simp; done)) _))⟩
theorem walk (w : World) (o : P3) (ko : In3 o) (d : P3) (kd : In3 d) (l h : P3) (kb : In3 l ∧ In3 h) :
    Calls Try.prog 3 #[.agg #[.int .i64 o.x, .int .i64 o.y, .int .i64 o.z], .agg #[.int .i64 d.x, .int .i64 d.y, .int .i64 d.z], .agg #[.int .i64 l.x, .int .i64 l.y, .int .i64 l.z, .int .i64 h.x, .int .i64 h.y, .int .i64 h.z]] w fun e w' => e = .returned (.bool true) ∧ Below w.heap.size w w' :=
  core w o d l h _ _ _ _ (slRange_any o d l h) (rRange_any o d l h)

theorem own : ownKnob Try.prog.godebug = none := by kernel_rfl
set_option maxRecDepth 100000 in
theorem lifted (os : Os) (started : os.Started) (H : Type) (enc : TypeId × Value → H) :
    ReturnsInHanded {} Try.checked os 3 .any (Rows.slabRangesSpec.pre6 enc Try.prog Try.f3 Rows.slabRangesRow.domain false) (Rows.slabRangesSpec.post enc Try.prog Try.f3 false true false false) := by
  refine returnsInHanded_of_change (C := Try.checked) own started (by kernel_rfl) Try.func3
    (ChangeSpec.witness6 (enc := enc) (C := Try.checked) false ⟨#[], #[.agg #[.int .i64 0, .int .i64 0, .int .i64 0], .agg #[.int .i64 0, .int .i64 0, .int .i64 0], .agg #[.int .i64 0, .int .i64 0, .int .i64 0, .int .i64 0, .int .i64 0, .int .i64 0]], []⟩ 12 (by kernel_rfl) (by kernel_rfl) (by kernel_rfl) (by kernel_rfl)) ?_
  intro W base args ds gs before hval0 hW hcnd _
  have hval : ∀ (j : Nat) t v, Try.f3.params[j]? = some t → args[j]? = some v → Value.okWide Try.prog W .any base t v := hval0
  have hW' := hW
  obtain ⟨p, q, hA0, hV, rfl, hfz, hnd⟩ := hW
  have hA : DataW.TrodAll enc Try.prog W 0 (fun _ => true) true Try.f3.params.toList args.toList ds p := hA0
  rw [Try.params3] at hA hval
  obtain ⟨v0, vs0, d0, ds0, p0, q0, hargs, rfl, rfl, h0, r0⟩ := trodAll_cons hA
  obtain ⟨v1, vs1, d1, ds1, p1, q1, rfl, rfl, rfl, h1, r1⟩ := trodAll_cons r0
  obtain ⟨v2, vs2, d2, ds2, p2, q2, rfl, rfl, rfl, h2, r2⟩ := trodAll_cons r1
  obtain ⟨rfl, rfl, rfl⟩ := trodAll_nil r2
  obtain rfl : args = #[v0, v1, v2] := by cases args; simp_all
  obtain ⟨a0, rfl, k0⟩ := open_V3 (hval 0 23 v0 rfl rfl) h0
  obtain ⟨a1, rfl, k1⟩ := open_V3 (hval 1 23 v1 rfl rfl) h1
  obtain ⟨bl2, bh2, rfl, k2⟩ := open_B3 (hval 2 25 v2 rfl rfl) h2
  refine (walk W a0 k0 a1 k1 bl2 bh2 k2).mono fun e W' ⟨he, hb⟩ => ?_
  subst he
  exact ⟨_, rfl, law_post (tb := 4) (by kernel_rfl) (by kernel_rfl) rfl rfl Try.underlying4 rfl rfl rfl hW' hb⟩

theorem over : Rows.slabRangesRow.holds Try.pinned (OpenSpec.ofChange Rows.slabRangesSpec) :=
  OpenClaim.holds_of_wide 3 Try.f3 rfl rfl rfl rfl rfl rfl rfl ⟨rfl, rfl, rfl, rfl, rfl⟩ rfl rfl rfl rfl rfl (by kernel_rfl) Try.func3 (by kernel_rfl)
    (of_decide_eq_true (by kernel_rfl)) (by unfold Func.isWrapper; first | (rw [if_pos (by decide +kernel)]; kernel_rfl) | (rw [if_neg (by decide +kernel)]; exact ⟨rfl, rfl⟩))
    (fun os started H enc _ => lifted os started H enc)

theorem proved : Rows.SlabRangesSaid :=
  over
#print axioms proved
end Go.Proofs.Ytngkimcnolmmoaa.slabRanges
