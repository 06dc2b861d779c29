/- SlabMirror holds for every input: the row, out of the walk. No condition. -/
import Derived.Test.YtngkimcnolmmoaaRows
import Derived.Test.YtngkimcnolmmoaaSlab4
import Derived.Test.YtngkimcnolmmoaaPost
namespace Go.Proofs.Ytngkimcnolmmoaa.slabMirror
open Go.ChangeShapes Go.WideShapes Go.ChangeAt Go.RowKit
set_option linter.unusedVariables false
set_option linter.unusedSimpArgs false
theorem nz_iff (d : P3) : nz d = true ↔ d.x ≠ 0 ∨ d.y ≠ 0 ∨ d.z ≠ 0 := by
  unfold nz
  simp
  omega
theorem mirror_in (o d l h : P3) (ko : In3 o) (kd : In3 d) (kl : In3 l) (kh : In3 h) : rbB ⟨IntKind.i64.wrap (-o.x), o.y, o.z⟩ ⟨IntKind.i64.wrap (-d.x), d.y, d.z⟩ ⟨IntKind.i64.wrap (-h.x), l.y, l.z⟩ ⟨IntKind.i64.wrap (-l.x), h.y, h.z⟩ = rbB o d l h := by
  obtain ⟨⟨o1, o2⟩, _⟩ := ko
  obtain ⟨⟨d1, d2⟩, _⟩ := kd
  obtain ⟨⟨l1, l2⟩, _⟩ := kl
  obtain ⟨⟨h1, h2⟩, _⟩ := kh
  rw [Bool.eq_iff_iff]
  unfold rbB lnB corn
  simp only [Bool.and_eq_true, wiB_iff, nz_iff, IntKind.wrap_i64]
  constructor
  · rintro ⟨⟨⟨⟨a1, a2⟩, a3⟩, a4⟩, a5⟩
    refine ⟨⟨⟨⟨?_, ?_⟩, ?_⟩, ?_⟩, ?_⟩ <;> omega
  · rintro ⟨⟨⟨⟨a1, a2⟩, a3⟩, a4⟩, a5⟩
    refine ⟨⟨⟨⟨?_, ?_⟩, ?_⟩, ?_⟩, ?_⟩ <;> omega
theorem rg_mirror (o d l h : P3) (ko : In3 o) (kd : In3 d) (kl : In3 l) (kh : In3 h) : rgV ⟨IntKind.i64.wrap (-o.x), o.y, o.z⟩ ⟨IntKind.i64.wrap (-d.x), d.y, d.z⟩ ⟨IntKind.i64.wrap (-h.x), l.y, l.z⟩ ⟨IntKind.i64.wrap (-l.x), h.y, h.z⟩ = rgV o d l h := by
  have e := mirror_in o d l h ko kd kl kh
  cases hb : rbB o d l h
  · rw [hb] at e
    rw [rg_no e, rg_no hb]
  · have e0 := e
    rw [hb] at e0
    unfold rgV
    rw [e]
    obtain ⟨⟨a1, _⟩, ⟨a2, _⟩, ⟨a3, _⟩, a4, _⟩ := rbB_in hb
    have w1 : IntKind.i64.wrap (-o.x) = -o.x := by rw [IntKind.wrap_i64]; omega
    have w2 : IntKind.i64.wrap (-d.x) = -d.x := by rw [IntKind.wrap_i64]; omega
    have w3 : IntKind.i64.wrap (-h.x) = -h.x := by rw [IntKind.wrap_i64]; omega
    have w4 : IntKind.i64.wrap (-l.x) = -l.x := by rw [IntKind.wrap_i64]; omega
    rw [w1, w2, w3, w4]
    have er : rangeM ⟨-o.x, o.y, o.z⟩ ⟨-d.x, d.y, d.z⟩ ⟨-h.x, l.y, l.z⟩ ⟨-l.x, h.y, h.z⟩ = rangeM o d l h := by
      unfold rangeM
      simp only
      rw [part_mirror]
    rw [er]
set_option maxRecDepth 100000 in
set_option maxHeartbeats 4000000 in
theorem core (w : World) (o d l h : P3) (x1 x2 x3 x4 : Int) (r1 r2 : Fr) (r3 : Bool) (r4 : Int) (e1 : IntKind.i64.wrap (-o.x) = x1) (e2 : IntKind.i64.wrap (-d.x) = x2) (e3 : IntKind.i64.wrap (-h.x) = x3) (e4 : IntKind.i64.wrap (-l.x) = x4)
    (m1 : Gives Try.prog 11 #[.agg #[.int .i64 o.x, .int .i64 o.y, .int .i64 o.z], .agg #[.int .i64 d.x, .int .i64 d.y, .int .i64 d.z], .agg #[.int .i64 l.x, .int .i64 l.y, .int .i64 l.z, .int .i64 h.x, .int .i64 h.y, .int .i64 h.z]] (.tuple #[.agg #[.int .i64 r1.n, .int .i64 r1.d], .agg #[.int .i64 r2.n, .int .i64 r2.d], .bool r3, .int .i64 r4]))
    (m2 : Gives Try.prog 11 #[.agg #[.int .i64 (⟨x1, o.y, o.z⟩ : P3).x, .int .i64 (⟨x1, o.y, o.z⟩ : P3).y, .int .i64 (⟨x1, o.y, o.z⟩ : P3).z], .agg #[.int .i64 (⟨x2, d.y, d.z⟩ : P3).x, .int .i64 (⟨x2, d.y, d.z⟩ : P3).y, .int .i64 (⟨x2, d.y, d.z⟩ : P3).z], .agg #[.int .i64 (⟨x3, l.y, l.z⟩ : P3).x, .int .i64 (⟨x3, l.y, l.z⟩ : P3).y, .int .i64 (⟨x3, l.y, l.z⟩ : P3).z, .int .i64 (⟨x4, h.y, h.z⟩ : P3).x, .int .i64 (⟨x4, h.y, h.z⟩ : P3).y, .int .i64 (⟨x4, h.y, h.z⟩ : P3).z]] (.tuple #[.agg #[.int .i64 r1.n, .int .i64 r1.d], .agg #[.int .i64 r2.n, .int .i64 r2.d], .bool r3, .int .i64 r4])) :
    Calls Try.prog 9 #[.agg #[.int .i64 o.x, .int .i64 o.y, .int .i64 o.z], .agg #[.int .i64 d.x, .int .i64 d.y, .int .i64 d.z], .agg #[.int .i64 l.x, .int .i64 l.y, .int .i64 l.z, .int .i64 h.x, .int .i64 h.y, .int .i64 h.z]] w fun e w' => e = .returned (.bool true) ∧ Below w.heap.size w w' := by
  have al := alive4_any
  simp only at m2
  go_enter Try.func9, Try.ntmps9
  go_wp2_with (first | (go_at_call 10; first | ((with_reducible refine (al.at_ _).mono ?_); rintro e w' ⟨rfl, xg, rfl⟩)) | (go_at_call 11; first | ((with_reducible refine (m1.at_ _).mono ?_); rintro e w' ⟨rfl, xg, rfl⟩) | ((with_reducible refine (m2.at_ _).mono ?_); rintro e w' ⟨rfl, xg, rfl⟩)))
  go_ret
  exact ⟨rfl, (by repeat (first | with_reducible exact Below.refl _ _ | with_reducible refine bel_then ?_ _ | with_reducible refine bel_grow ?_ _ | with_reducible refine bel_alloc ?_ _ | with_reducible refine bel_drew ?_ | with_reducible refine bel_set ?_ (by simp) _ | with_reducible refine bel_setRow ?_ (by first | omega | (simp; done) | (refine Nat.le_trans ?_ (top_le _ _); simp; done) | (refine Nat.le_succ_of_le (Nat.le_trans ?_ (top_le _ _)); simp; done)) _))⟩
theorem walk (w : World) (o : P3) (ko : In3 o) (d : P3) (kd : In3 d) (l h : P3) (kb : In3 l ∧ In3 h) :
    Calls Try.prog 9 #[.agg #[.int .i64 o.x, .int .i64 o.y, .int .i64 o.z], .agg #[.int .i64 d.x, .int .i64 d.y, .int .i64 d.z], .agg #[.int .i64 l.x, .int .i64 l.y, .int .i64 l.z, .int .i64 h.x, .int .i64 h.y, .int .i64 h.z]] w fun e w' => e = .returned (.bool true) ∧ Below w.heap.size w w' := by
  have m1 := slRange_any o d l h
  have m2 := slRange_any ⟨IntKind.i64.wrap (-o.x), o.y, o.z⟩ ⟨IntKind.i64.wrap (-d.x), d.y, d.z⟩ ⟨IntKind.i64.wrap (-h.x), l.y, l.z⟩ ⟨IntKind.i64.wrap (-l.x), h.y, h.z⟩
  rw [rg_mirror o d l h ko kd kb.1 kb.2] at m2
  exact core w o d l h _ _ _ _ _ _ _ _ rfl rfl rfl rfl m1 m2

theorem own : ownKnob Try.prog.godebug = none := by kernel_rfl
set_option maxRecDepth 100000 in
theorem lifted (os : Os) (started : os.Started) (H : Type) (enc : TypeId × Value → H) :
    ReturnsInHanded {} Try.checked os 9 .any (Rows.slabMirrorSpec.pre6 enc Try.prog Try.f9 Rows.slabMirrorRow.domain false) (Rows.slabMirrorSpec.post enc Try.prog Try.f9 false true false false) := by
  refine returnsInHanded_of_change (C := Try.checked) own started (by kernel_rfl) Try.func9
    (ChangeSpec.witness6 (enc := enc) (C := Try.checked) false ⟨#[], #[.agg #[.int .i64 0, .int .i64 0, .int .i64 0], .agg #[.int .i64 0, .int .i64 0, .int .i64 0], .agg #[.int .i64 0, .int .i64 0, .int .i64 0, .int .i64 0, .int .i64 0, .int .i64 0]], []⟩ 12 (by kernel_rfl) (by kernel_rfl) (by kernel_rfl) (by kernel_rfl)) ?_
  intro W base args ds gs before hval0 hW hcnd _
  have hval : ∀ (j : Nat) t v, Try.f9.params[j]? = some t → args[j]? = some v → Value.okWide Try.prog W .any base t v := hval0
  have hW' := hW
  obtain ⟨p, q, hA0, hV, rfl, hfz, hnd⟩ := hW
  have hA : DataW.TrodAll enc Try.prog W 0 (fun _ => true) true Try.f9.params.toList args.toList ds p := hA0
  rw [Try.params9] at hA hval
  obtain ⟨v0, vs0, d0, ds0, p0, q0, hargs, rfl, rfl, h0, r0⟩ := trodAll_cons hA
  obtain ⟨v1, vs1, d1, ds1, p1, q1, rfl, rfl, rfl, h1, r1⟩ := trodAll_cons r0
  obtain ⟨v2, vs2, d2, ds2, p2, q2, rfl, rfl, rfl, h2, r2⟩ := trodAll_cons r1
  obtain ⟨rfl, rfl, rfl⟩ := trodAll_nil r2
  obtain rfl : args = #[v0, v1, v2] := by cases args; simp_all
  obtain ⟨a0, rfl, k0⟩ := open_V3 (hval 0 23 v0 rfl rfl) h0
  obtain ⟨a1, rfl, k1⟩ := open_V3 (hval 1 23 v1 rfl rfl) h1
  obtain ⟨bl2, bh2, rfl, k2⟩ := open_B3 (hval 2 25 v2 rfl rfl) h2
  refine (walk W a0 k0 a1 k1 bl2 bh2 k2).mono fun e W' ⟨he, hb⟩ => ?_
  subst he
  exact ⟨_, rfl, law_post (tb := 4) (by kernel_rfl) (by kernel_rfl) rfl rfl Try.underlying4 rfl rfl rfl hW' hb⟩

theorem over : Rows.slabMirrorRow.holds Try.pinned (OpenSpec.ofChange Rows.slabMirrorSpec) :=
  OpenClaim.holds_of_wide 9 Try.f9 rfl rfl rfl rfl rfl rfl rfl ⟨rfl, rfl, rfl, rfl, rfl⟩ rfl rfl rfl rfl rfl (by kernel_rfl) Try.func9 (by kernel_rfl)
    (of_decide_eq_true (by kernel_rfl)) (by unfold Func.isWrapper; first | (rw [if_pos (by decide +kernel)]; kernel_rfl) | (rw [if_neg (by decide +kernel)]; exact ⟨rfl, rfl⟩))
    (fun os started H enc _ => lifted os started H enc)

theorem proved : Rows.SlabMirrorSaid :=
  over
#print axioms proved
end Go.Proofs.Ytngkimcnolmmoaa.slabMirror
