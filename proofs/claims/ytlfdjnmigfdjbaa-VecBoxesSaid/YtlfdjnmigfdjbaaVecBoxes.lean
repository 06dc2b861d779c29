/- VecBoxes holds for every input: the row, out of the walk. No condition. -/
import Derived.Test.YtlfdjnmigfdjbaaRows
import Derived.Test.YtlfdjnmigfdjbaaAlive2
import Derived.Test.YtlfdjnmigfdjbaaOpenV
import Derived.Test.YtlfdjnmigfdjbaaVec8
import Derived.Test.YtlfdjnmigfdjbaaCuts
import Derived.Test.YtlfdjnmigfdjbaaPost
namespace Go.Proofs.Ytlfdjnmigfdjbaa.vecBoxes
open Go.ChangeShapes Go.WideShapes Go.ChangeAt Go.RowKit
set_option linter.unusedVariables false
set_option linter.unusedSimpArgs false
theorem long (w : World) (A : Option Addr) (n c : Nat) (q : Nat → Int × Int × Int) (hq : SL A n c ∧ VF w A n q ∧ ∀ i, i < n → In64 (q i).1 ∧ In64 (q i).2.1 ∧ In64 (q i).2.2) (lx ly lz hx hy hz : Int) (ha : (In64 lx ∧ In64 ly ∧ In64 lz) ∧ In64 hx ∧ In64 hy ∧ In64 hz) (mx my mz nx ny nz : Int) (hb : (In64 mx ∧ In64 my ∧ In64 mz) ∧ In64 nx ∧ In64 ny ∧ In64 nz) (px py pz : Int) (hp : In64 px ∧ In64 py ∧ In64 pz) (h : 2000 < n) :
    Calls Try.prog 6 #[.slice A n c, .agg #[.int .i64 lx, .int .i64 ly, .int .i64 lz, .int .i64 hx, .int .i64 hy, .int .i64 hz], .agg #[.int .i64 mx, .int .i64 my, .int .i64 mz, .int .i64 nx, .int .i64 ny, .int .i64 nz], .agg #[.int .i64 px, .int .i64 py, .int .i64 pz]] w fun e w' => e = .returned (.bool true) ∧ Below w.heap.size w w' := by
  have al := alive2_any
  go_enter Try.func6, Try.ntmps6
  go_wp2_with (first | (go_at_call 34; ((with_reducible refine (al.at_ _).mono ?_); rintro e w' ⟨rfl, xg, rfl⟩)))
  go_ret
  exact ⟨rfl, (by repeat (first | exact Below.refl _ _ | refine bel_then ?_ _ | refine bel_grow ?_ _ | refine bel_alloc ?_ _ | refine bel_drew ?_ | refine bel_set ?_ (by simp) _ | refine bel_setRow ?_ (by simp) _))⟩
set_option maxRecDepth 100000 in
set_option maxHeartbeats 2000000 in
theorem empty (w : World) (A : Option Addr) (c : Nat) (q : Nat → Int × Int × Int) (hsl : SL A 0 c) (hv : VF w A 0 q) (lx ly lz hx hy hz : Int) (ha : (In64 lx ∧ In64 ly ∧ In64 lz) ∧ In64 hx ∧ In64 hy ∧ In64 hz) (mx my mz nx ny nz : Int) (hb : (In64 mx ∧ In64 my ∧ In64 mz) ∧ In64 nx ∧ In64 ny ∧ In64 nz) (px py pz : Int) (hp : In64 px ∧ In64 py ∧ In64 pz)  :
    Calls Try.prog 6 #[.slice A 0 c, .agg #[.int .i64 lx, .int .i64 ly, .int .i64 lz, .int .i64 hx, .int .i64 hy, .int .i64 hz], .agg #[.int .i64 mx, .int .i64 my, .int .i64 mz, .int .i64 nx, .int .i64 ny, .int .i64 nz], .agg #[.int .i64 px, .int .i64 py, .int .i64 pz]] w fun e w' => e = .returned (.bool true) ∧ Below w.heap.size w w' := by
  have al := alive2_any
  have j1 := vJoin_any lx ly lz hx hy hz mx my mz nx ny nz
  have j2 := rJoin_any lx ly lz hx hy hz mx my mz nx ny nz
  have h1 := vHas_any lx ly lz hx hy hz px py pz
  have h2 := rHas_any lx ly lz hx hy hz px py pz
  clear ha hb hp
  go_enter Try.func6, Try.ntmps6
  go_wp2_with (first | (go_at_call 34; ((with_reducible refine (al.at_ _).mono ?_); rintro e w' ⟨rfl, xg, rfl⟩)) | (go_at_call 51; ((refine (copy_any _ A _ c q (hv.below (by repeat (first | exact Below.refl _ _ | refine bel_then ?_ _ | refine bel_grow ?_ _ | refine bel_alloc ?_ _ | refine bel_drew ?_ | refine bel_set ?_ (by simp) _ | refine bel_setRow ?_ (by simp) _))) hsl (by omega)).mono ?_); rintro e w' ⟨v, rfl, xg, rfl, hown⟩; obtain ⟨A2, c2, rfl, hsl2, hv2, hb2⟩ := VF_of_own hown)) | (go_at_call 52; ((refine ((vBound_none _ _).at_ _).mono ?_); rintro e w' ⟨rfl, xg, rfl⟩)) | (go_at_call 53; ((refine ((rBound_none _ _).at_ _).mono ?_); rintro e w' ⟨rfl, xg, rfl⟩)))
  refine wp_region_grow (by kernel_rfl) (by kernel_rfl) ?_
  repeat (go_big_quiet_step (((first | with_reducible exact j1.quiet _ | with_reducible exact j1.quiet2 _ _ | with_reducible exact j2.quiet _ | with_reducible exact j2.quiet2 _ _ | with_reducible exact h1.quiet _ | with_reducible exact h1.quiet2 _ _ | with_reducible exact h2.quiet _ | with_reducible exact h2.quiet2 _ _ | exact q1 (same_yes _ A2 A 0 c2 c q (hv2.below (by repeat (first | exact Below.refl _ _ | refine bel_then ?_ _ | refine bel_grow ?_ _ | refine bel_alloc ?_ _ | refine bel_drew ?_ | refine bel_set ?_ (by simp) _ | refine bel_setRow ?_ (by simp) _))) (hv.below (by repeat (first | exact Below.refl _ _ | refine bel_then ?_ _ | refine bel_grow ?_ _ | refine bel_alloc ?_ _ | refine bel_drew ?_ | refine bel_set ?_ (by simp) _ | refine bel_setRow ?_ (by simp) _))) (by omega)) | exact q2 (same_yes _ A2 A 0 c2 c q (hv2.below (by repeat (first | exact Below.refl _ _ | refine bel_then ?_ _ | refine bel_grow ?_ _ | refine bel_alloc ?_ _ | refine bel_drew ?_ | refine bel_set ?_ (by simp) _ | refine bel_setRow ?_ (by simp) _))) (hv.below (by repeat (first | exact Below.refl _ _ | refine bel_then ?_ _ | refine bel_grow ?_ _ | refine bel_alloc ?_ _ | refine bel_drew ?_ | refine bel_set ?_ (by simp) _ | refine bel_setRow ?_ (by simp) _))) (by omega))))))
  refine wpQuiet_nil ?_
  rintro _ ⟨xg, rfl⟩
  go_wp2_with fail
  go_ret
  exact ⟨rfl, (by repeat (first | exact Below.refl _ _ | refine bel_then ?_ _ | refine bel_grow ?_ _ | refine bel_alloc ?_ _ | refine bel_drew ?_ | refine bel_set ?_ (by simp) _ | refine bel_setRow ?_ (by simp) _))⟩
set_option maxRecDepth 100000 in
set_option maxHeartbeats 2000000 in
theorem some_ (w : World) (A : Option Addr) (n c : Nat) (q : Nat → Int × Int × Int) (hsl : SL A (n + 1) c) (hv : VF w A (n + 1) q) (lx ly lz hx hy hz : Int) (ha : (In64 lx ∧ In64 ly ∧ In64 lz) ∧ In64 hx ∧ In64 hy ∧ In64 hz) (mx my mz nx ny nz : Int) (hb : (In64 mx ∧ In64 my ∧ In64 mz) ∧ In64 nx ∧ In64 ny ∧ In64 nz) (px py pz : Int) (hp : In64 px ∧ In64 py ∧ In64 pz) (h : n + 1 ≤ 2000) :
    Calls Try.prog 6 #[.slice A (n + 1) c, .agg #[.int .i64 lx, .int .i64 ly, .int .i64 lz, .int .i64 hx, .int .i64 hy, .int .i64 hz], .agg #[.int .i64 mx, .int .i64 my, .int .i64 mz, .int .i64 nx, .int .i64 ny, .int .i64 nz], .agg #[.int .i64 px, .int .i64 py, .int .i64 pz]] w fun e w' => e = .returned (.bool true) ∧ Below w.heap.size w w' := by
  have al := alive2_any
  have j1 := vJoin_any lx ly lz hx hy hz mx my mz nx ny nz
  have j2 := rJoin_any lx ly lz hx hy hz mx my mz nx ny nz
  have h1 := vHas_any lx ly lz hx hy hz px py pz
  have h2 := rHas_any lx ly lz hx hy hz px py pz
  clear ha hb hp
  have hc := hsl.1
  go_enter Try.func6, Try.ntmps6
  go_wp2_with (first | (go_at_call 34; ((with_reducible refine (al.at_ _).mono ?_); rintro e w' ⟨rfl, xg, rfl⟩)) | (go_at_call 51; ((refine (copy_any _ A _ c q (hv.below (by repeat (first | exact Below.refl _ _ | refine bel_then ?_ _ | refine bel_grow ?_ _ | refine bel_alloc ?_ _ | refine bel_drew ?_ | refine bel_set ?_ (by simp) _ | refine bel_setRow ?_ (by simp) _))) hsl (by omega)).mono ?_); rintro e w' ⟨v, rfl, xg, rfl, hown⟩; obtain ⟨A2, c2, rfl, hsl2, hv2, hb2⟩ := VF_of_own hown)) | (go_at_call 52; ((refine (vBound_some _ A2 n c2 q (hv2.below (by repeat (first | exact Below.refl _ _ | refine bel_then ?_ _ | refine bel_grow ?_ _ | refine bel_alloc ?_ _ | refine bel_drew ?_ | refine bel_set ?_ (by simp) _ | refine bel_setRow ?_ (by simp) _))) (by omega) hsl2.1).mono ?_); rintro e w' ⟨rfl, xg, rfl⟩)) | (go_at_call 53; ((refine (rBound_some _ A n c q (hv.below (by repeat (first | exact Below.refl _ _ | refine bel_then ?_ _ | refine bel_grow ?_ _ | refine bel_alloc ?_ _ | refine bel_drew ?_ | refine bel_set ?_ (by simp) _ | refine bel_setRow ?_ (by simp) _))) (by omega) hc).mono ?_); rintro e w' ⟨rfl, xg, rfl⟩)))
  refine wp_region_grow (by kernel_rfl) (by kernel_rfl) ?_
  repeat (go_big_quiet_step (((first | with_reducible exact j1.quiet _ | with_reducible exact j1.quiet2 _ _ | with_reducible exact j2.quiet _ | with_reducible exact j2.quiet2 _ _ | with_reducible exact h1.quiet _ | with_reducible exact h1.quiet2 _ _ | with_reducible exact h2.quiet _ | with_reducible exact h2.quiet2 _ _ | exact q1 (same_yes _ A2 A (n + 1) c2 c q (hv2.below (by repeat (first | exact Below.refl _ _ | refine bel_then ?_ _ | refine bel_grow ?_ _ | refine bel_alloc ?_ _ | refine bel_drew ?_ | refine bel_set ?_ (by simp) _ | refine bel_setRow ?_ (by simp) _))) (hv.below (by repeat (first | exact Below.refl _ _ | refine bel_then ?_ _ | refine bel_grow ?_ _ | refine bel_alloc ?_ _ | refine bel_drew ?_ | refine bel_set ?_ (by simp) _ | refine bel_setRow ?_ (by simp) _))) (by omega)) | exact q2 (same_yes _ A2 A (n + 1) c2 c q (hv2.below (by repeat (first | exact Below.refl _ _ | refine bel_then ?_ _ | refine bel_grow ?_ _ | refine bel_alloc ?_ _ | refine bel_drew ?_ | refine bel_set ?_ (by simp) _ | refine bel_setRow ?_ (by simp) _))) (hv.below (by repeat (first | exact Below.refl _ _ | refine bel_then ?_ _ | refine bel_grow ?_ _ | refine bel_alloc ?_ _ | refine bel_drew ?_ | refine bel_set ?_ (by simp) _ | refine bel_setRow ?_ (by simp) _))) (by omega))))))
  refine wpQuiet_nil ?_
  rintro _ ⟨xg, rfl⟩
  go_wp2_with fail
  go_ret
  exact ⟨rfl, (by repeat (first | exact Below.refl _ _ | refine bel_then ?_ _ | refine bel_grow ?_ _ | refine bel_alloc ?_ _ | refine bel_drew ?_ | refine bel_set ?_ (by simp) _ | refine bel_setRow ?_ (by simp) _))⟩
theorem walk (w : World) (A : Option Addr) (n c : Nat) (q : Nat → Int × Int × Int) (hq : SL A n c ∧ VF w A n q ∧ ∀ i, i < n → In64 (q i).1 ∧ In64 (q i).2.1 ∧ In64 (q i).2.2) (lx ly lz hx hy hz : Int) (ha : (In64 lx ∧ In64 ly ∧ In64 lz) ∧ In64 hx ∧ In64 hy ∧ In64 hz) (mx my mz nx ny nz : Int) (hb : (In64 mx ∧ In64 my ∧ In64 mz) ∧ In64 nx ∧ In64 ny ∧ In64 nz) (px py pz : Int) (hp : In64 px ∧ In64 py ∧ In64 pz)  :
    Calls Try.prog 6 #[.slice A n c, .agg #[.int .i64 lx, .int .i64 ly, .int .i64 lz, .int .i64 hx, .int .i64 hy, .int .i64 hz], .agg #[.int .i64 mx, .int .i64 my, .int .i64 mz, .int .i64 nx, .int .i64 ny, .int .i64 nz], .agg #[.int .i64 px, .int .i64 py, .int .i64 pz]] w fun e w' => e = .returned (.bool true) ∧ Below w.heap.size w w' := by
  have al := alive2_any
  by_cases h : 2000 < n
  · exact long w A n c q hq lx ly lz hx hy hz ha mx my mz nx ny nz hb px py pz hp h
  · obtain ⟨hsl, hv, _⟩ := hq
    cases n with
    | zero => exact empty w A c q hsl hv lx ly lz hx hy hz ha mx my mz nx ny nz hb px py pz hp
    | succ n => exact some_ w A n c q hsl hv lx ly lz hx hy hz ha mx my mz nx ny nz hb px py pz hp (by omega)

theorem own : ownKnob Try.prog.godebug = none := by kernel_rfl
set_option maxRecDepth 100000 in
theorem lifted (os : Os) (started : os.Started) (H : Type) (enc : TypeId × Value → H) :
    ReturnsInHanded {} Try.checked os 6 .any (Rows.vecBoxesSpec.pre6 enc Try.prog Try.f6 Rows.vecBoxesRow.domain false) (Rows.vecBoxesSpec.post enc Try.prog Try.f6 false true false false) := by
  refine returnsInHanded_of_change (C := Try.checked) own started (by kernel_rfl) Try.func6
    (ChangeSpec.witness6 (enc := enc) (C := Try.checked) false ⟨#[], #[.slice none 0 0, .agg #[.int .i64 0, .int .i64 0, .int .i64 0, .int .i64 0, .int .i64 0, .int .i64 0], .agg #[.int .i64 0, .int .i64 0, .int .i64 0, .int .i64 0, .int .i64 0, .int .i64 0], .agg #[.int .i64 0, .int .i64 0, .int .i64 0]], []⟩ 12 (by kernel_rfl) (by kernel_rfl) (by kernel_rfl) (by kernel_rfl)) ?_
  intro W base args ds gs before hval0 hW hcnd _
  have hval : ∀ (j : Nat) t v, Try.f6.params[j]? = some t → args[j]? = some v → Value.okWide Try.prog W .any base t v := hval0
  have hW' := hW
  obtain ⟨p, q, hA0, hV, rfl, hfz, hnd⟩ := hW
  have hA : DataW.TrodAll enc Try.prog W 0 (fun _ => true) true Try.f6.params.toList args.toList ds p := hA0
  rw [Try.params6] at hA hval
  obtain ⟨v0, vs0, d0, ds0, p0, q0, hargs, rfl, rfl, h0, r0⟩ := trodAll_cons hA
  obtain ⟨v1, vs1, d1, ds1, p1, q1, rfl, rfl, rfl, h1, r1⟩ := trodAll_cons r0
  obtain ⟨v2, vs2, d2, ds2, p2, q2, rfl, rfl, rfl, h2, r2⟩ := trodAll_cons r1
  obtain ⟨v3, vs3, d3, ds3, p3, q3, rfl, rfl, rfl, h3, r3⟩ := trodAll_cons r2
  obtain ⟨rfl, rfl, rfl⟩ := trodAll_nil r3
  obtain rfl : args = #[v0, v1, v2, v3] := by cases args; simp_all
  obtain ⟨A0, n0, c0, q0, rfl, b0⟩ := open_Vs (hval 0 58 v0 rfl rfl) h0
  obtain ⟨lx1, ly1, lz1, hx1, hy1, hz1, rfl, b1⟩ := open_Box (hval 1 60 v1 rfl rfl) h1
  obtain ⟨lx2, ly2, lz2, hx2, hy2, hz2, rfl, b2⟩ := open_Box (hval 2 60 v2 rfl rfl) h2
  obtain ⟨x3, y3, z3, rfl, b3⟩ := open_V (hval 3 51 v3 rfl rfl) h3
  refine (walk W A0 n0 c0 q0 b0 lx1 ly1 lz1 hx1 hy1 hz1 b1 lx2 ly2 lz2 hx2 hy2 hz2 b2 x3 y3 z3 b3).mono fun e W' ⟨he, hb⟩ => ?_
  subst he
  exact ⟨_, rfl, law_post (tb := 4) (by kernel_rfl) (by kernel_rfl) rfl rfl Try.underlying4 rfl rfl rfl hW' hb⟩

theorem over : Rows.vecBoxesRow.holds Try.pinned (OpenSpec.ofChange Rows.vecBoxesSpec) :=
  OpenClaim.holds_of_wide 6 Try.f6 rfl rfl rfl rfl rfl rfl rfl ⟨rfl, rfl, rfl, rfl, rfl⟩ rfl rfl rfl rfl rfl (by kernel_rfl) Try.func6 (by kernel_rfl)
    (of_decide_eq_true (by kernel_rfl)) (by unfold Func.isWrapper; first | (rw [if_pos (by decide +kernel)]; kernel_rfl) | (rw [if_neg (by decide +kernel)]; exact ⟨rfl, rfl⟩))
    (fun os started H enc _ => lifted os started H enc)

theorem proved : Rows.VecBoxesSaid :=
  over
#print axioms proved
end Go.Proofs.Ytlfdjnmigfdjbaa.vecBoxes
