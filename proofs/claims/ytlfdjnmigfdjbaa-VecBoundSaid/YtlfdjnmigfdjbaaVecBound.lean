/- VecBound holds for every input: the row, out of the walk. No condition. -/
import Derived.Test.YtlfdjnmigfdjbaaRows
import Derived.Test.YtlfdjnmigfdjbaaAlive2
import Derived.Test.YtlfdjnmigfdjbaaOpenV
import Derived.Test.YtlfdjnmigfdjbaaVec8
import Derived.Test.YtlfdjnmigfdjbaaCuts
import Derived.Test.YtlfdjnmigfdjbaaPost
namespace Go.Proofs.Ytlfdjnmigfdjbaa.vecBound
open Go.ChangeShapes Go.WideShapes Go.ChangeAt Go.RowKit
set_option linter.unusedVariables false
set_option linter.unusedSimpArgs false
/-- The rounds' world: the box's cells, the flags'. -/
structure FW (w wr : World) (g3 g5 : Nat) (B : (Int × Int × Int) × (Int × Int × Int)) (f : Nat → Bool) : Prop where
  bel : Below w.heap.size w wr
  h3 : w.heap.size ≤ g3
  h35 : g3 < g5
  lt5 : g5 < wr.heap.size
  box : wr.cell? ⟨g3, 0, none⟩ = some (.int .i64 B.1.1) ∧ wr.cell? ⟨g3, 1, none⟩ = some (.int .i64 B.1.2.1) ∧ wr.cell? ⟨g3, 2, none⟩ = some (.int .i64 B.1.2.2) ∧ wr.cell? ⟨g3, 3, none⟩ = some (.int .i64 B.2.1) ∧ wr.cell? ⟨g3, 4, none⟩ = some (.int .i64 B.2.2.1) ∧ wr.cell? ⟨g3, 5, none⟩ = some (.int .i64 B.2.2.2)
  flag : ∀ j, j < 6 → wr.cell? ⟨g5, j, none⟩ = some (.bool (f j)) ∧ wr.frozen? ⟨g5, j, none⟩ = false
theorem FW.below {w wr wr' : World} {g3 g5 : Nat} {B : (Int × Int × Int) × (Int × Int × Int)} {f : Nat → Bool} (h : FW w wr g3 g5 B f) (hb : Below wr.heap.size wr wr') : FW w wr' g3 g5 B f := by
  obtain ⟨a, b, c, d, ⟨e0, e1, e2, e3, e4, e5⟩, g⟩ := h
  have l3 : g3 < wr.heap.size := by omega
  refine ⟨bel_trans a hb, b, c, Nat.lt_of_lt_of_le d hb.size, ⟨?_, ?_, ?_, ?_, ?_, ?_⟩, fun j hj => ⟨?_, ?_⟩⟩
  · exact (hb.cell (p := ⟨g3, 0, none⟩) l3).trans e0
  · exact (hb.cell (p := ⟨g3, 1, none⟩) l3).trans e1
  · exact (hb.cell (p := ⟨g3, 2, none⟩) l3).trans e2
  · exact (hb.cell (p := ⟨g3, 3, none⟩) l3).trans e3
  · exact (hb.cell (p := ⟨g3, 4, none⟩) l3).trans e4
  · exact (hb.cell (p := ⟨g3, 5, none⟩) l3).trans e5
  · exact (hb.cell (p := ⟨g5, j, none⟩) d).trans (g j hj).1
  · exact (hb.frozen (p := ⟨g5, j, none⟩) d).trans (g j hj).2
theorem cell_set_same (w : World) (g i : Nat) (u v : Value) (h : w.cell? ⟨g, i, none⟩ = some v) : (w.setCell ⟨g, i, none⟩ u).cell? ⟨g, i, none⟩ = some u := by
  simp [go_sem, h]
theorem cell_set_ne (w : World) (g i g' j : Nat) (u : Value) (h : g' ≠ g ∨ j ≠ i) : (w.setCell ⟨g, i, none⟩ u).cell? ⟨g', j, none⟩ = w.cell? ⟨g', j, none⟩ :=
  World.cell?_setCell_other w _ _ _ (by intro e; simp at e; omega)
theorem FW.set {w wr : World} {g3 g5 : Nat} {B : (Int × Int × Int) × (Int × Int × Int)} {f : Nat → Bool} (h : FW w wr g3 g5 B f) (k : Nat) (hk : k < 6) (v : Bool) : FW w (wr.setCell ⟨g5, k, none⟩ (.bool v)) g3 g5 B (fun j => if j = k then v else f j) := by
  obtain ⟨a, b, c, d, ⟨e0, e1, e2, e3, e4, e5⟩, g⟩ := h
  have n : ∀ j, (wr.setCell ⟨g5, k, none⟩ (.bool v)).cell? ⟨g3, j, none⟩ = wr.cell? ⟨g3, j, none⟩ := fun j => cell_set_ne _ _ _ _ _ _ (.inl (by omega))
  refine ⟨bel_set a (by show w.heap.size ≤ g5; omega) _, b, c, by simpa [World.setCell] using d, ⟨?_, ?_, ?_, ?_, ?_, ?_⟩, fun j hj => ⟨?_, ?_⟩⟩
  · rw [n]; exact e0
  · rw [n]; exact e1
  · rw [n]; exact e2
  · rw [n]; exact e3
  · rw [n]; exact e4
  · rw [n]; exact e5
  · by_cases hjk : j = k
    · subst hjk
      rw [if_pos rfl]
      exact cell_set_same _ _ _ _ _ (g j hj).1
    · rw [if_neg hjk, cell_set_ne _ _ _ _ _ _ (.inr hjk)]
      exact (g j hj).1
  · have := (g j hj).2
    rw [World.frozen?_setCell]; exact this
/-- Ahead of the inner round number k of the outer one number i. -/
def mix (B : (Int × Int × Int) × (Int × Int × Int)) (p : Nat → Int × Int × Int) (i k : Nat) : Nat → Bool := fun j => if j < k then touF B p (i + 1) j else touF B p i j
theorem mix_next (B : (Int × Int × Int) × (Int × Int × Int)) (p : Nat → Int × Int × Int) (i k : Nat) : (fun j => if j = k then (mix B p i k k || sideOf B (p i) k) else mix B p i k j) = mix B p i (k + 1) := by
  funext j
  unfold mix
  by_cases h : j = k
  · subst h
    rw [if_pos rfl, if_neg (by omega), if_pos (by omega)]; rfl
  · rw [if_neg h]
    by_cases h2 : j < k
    · rw [if_pos h2, if_pos (by omega)]
    · rw [if_neg h2, if_neg (by omega)]
theorem FW.congr {w wr : World} {g3 g5 : Nat} {B : (Int × Int × Int) × (Int × Int × Int)} {f f' : Nat → Bool} (h : FW w wr g3 g5 B f) (e : ∀ j, j < 6 → f j = f' j) : FW w wr g3 g5 B f' :=
  ⟨h.bel, h.h3, h.h35, h.lt5, h.box, fun j hj => by rw [← e j hj]; exact h.flag j hj⟩
set_option maxRecDepth 100000 in
theorem long (w : World) (A : Option Addr) (n c : Nat) (q : Nat → Int × Int × Int) (hq : SL A n c ∧ VF w A n q ∧ ∀ i, i < n → In64 (q i).1 ∧ In64 (q i).2.1 ∧ In64 (q i).2.2) (h : 2000 < n) : Calls Try.prog 10 #[.slice A n c] w fun e w' => e = .returned (.bool true) ∧ Below w.heap.size w w' := by
  have al := alive2_any
  go_enter Try.func10, Try.ntmps10
  go_wp2_with (first | (go_at_call 34; ((with_reducible refine (al.at_ _).mono ?_); rintro e w' ⟨rfl, xg, rfl⟩)))
  go_ret
  exact ⟨rfl, (by repeat (first | exact Below.refl _ _ | refine bel_then ?_ _ | refine bel_grow ?_ _ | refine bel_alloc ?_ _ | refine bel_drew ?_ | refine bel_set ?_ (by simp) _ | refine bel_setRow ?_ (by simp) _))⟩
set_option maxRecDepth 100000 in
theorem empty (w : World) (A : Option Addr) (c : Nat) (q : Nat → Int × Int × Int) (hsl : SL A 0 c) (hv : VF w A 0 q)  : Calls Try.prog 10 #[.slice A 0 c] w fun e w' => e = .returned (.bool true) ∧ Below w.heap.size w w' := by
  have al := alive2_any
  go_enter Try.func10, Try.ntmps10
  go_wp2_with (first | (go_at_call 34; ((with_reducible refine (al.at_ _).mono ?_); rintro e w' ⟨rfl, xg, rfl⟩)) | (go_at_call 52; ((refine ((vBound_none _ _).at_ _).mono ?_); rintro e w' ⟨rfl, xg, rfl⟩)))
  go_ret
  exact ⟨rfl, (by repeat (first | exact Below.refl _ _ | refine bel_then ?_ _ | refine bel_grow ?_ _ | refine bel_alloc ?_ _ | refine bel_drew ?_ | refine bel_set ?_ (by simp) _ | refine bel_setRow ?_ (by simp) _))⟩
set_option maxRecDepth 100000 in
set_option maxHeartbeats 4000000 in
theorem some_ (w : World) (A : Option Addr) (n c : Nat) (q : Nat → Int × Int × Int) (hsl : SL A (n + 1) c) (hv : VF w A (n + 1) q) (h : n + 1 ≤ 2000) : Calls Try.prog 10 #[.slice A (n + 1) c] w fun e w' => e = .returned (.bool true) ∧ Below w.heap.size w w' := by
  have al := alive2_any
  have hc := hsl.1
  have hhas := boxF_has q n
  replace hhas := Lib.hid hhas
  have hall := touF_all q n
  replace hall := Lib.hid hall
  go_enter Try.func10, Try.ntmps10
  go_wp2_with (first | (go_at_call 34; ((with_reducible refine (al.at_ _).mono ?_); rintro e w' ⟨rfl, xga, rfl⟩)) | (go_at_call 52; ((refine (vBound_some _ A n c q (hv.below (by repeat (first | exact Below.refl _ _ | refine bel_then ?_ _ | refine bel_grow ?_ _ | refine bel_alloc ?_ _ | refine bel_drew ?_ | refine bel_set ?_ (by simp) _ | refine bel_setRow ?_ (by simp) _))) (by omega) hc).mono ?_); rintro e w' ⟨rfl, xgb, rfl⟩)))
  go_loopw [6] (fun i wr => ∃ k : Nat, i = .int .i64 k ∧ k ≤ n + 1 ∧ FW w wr (grow w (xga.then xgb)).heap.size ((grow w (xga.then xgb)).heap.size + 1) (boxF q n) (touF (boxF q n) q k)) (fun i _ => (n + 1 - intOf i).toNat)
  case atStart => exact ⟨0, rfl, by omega, ⟨bel_alloc (bel_alloc (bel_grow (Below.refl _ _) _) _) _, top_le _ _, by omega, by simp, ⟨by go_simp, by go_simp, by go_simp, by go_simp, by go_simp, by go_simp⟩, fun j hj => by
    match j, hj with
    | 0, _ => exact ⟨by go_simp; rfl, by go_simp⟩
    | 1, _ => exact ⟨by go_simp; rfl, by go_simp⟩
    | 2, _ => exact ⟨by go_simp; rfl, by go_simp⟩
    | 3, _ => exact ⟨by go_simp; rfl, by go_simp⟩
    | 4, _ => exact ⟨by go_simp; rfl, by go_simp⟩
    | 5, _ => exact ⟨by go_simp; rfl, by go_simp⟩⟩⟩
  case round =>
    obtain ⟨k, rfl, hk, fw⟩ := hrel
    by_cases hlt : k < n + 1
    · obtain ⟨wo, rfl⟩ : ∃ wo : World, wo = wr := ⟨_, rfl⟩
      have hvr := hv.below fw.bel
      obtain ⟨b, off, rfl, hb, hcell⟩ := hvr (by omega)
      obtain ⟨h1, h2, h3⟩ := hcell k hlt
      clear hvr hcell
      have kh := vHas_any (boxF q n).1.1 (boxF q n).1.2.1 (boxF q n).1.2.2 (boxF q n).2.1 (boxF q n).2.2.1 (boxF q n).2.2.2 (q k).1 (q k).2.1 (q k).2.2
      rw [(inB_iff _ _ _ _ _ _ _ _ _).2 (hhas.out k (by omega))] at kh
      obtain ⟨e0, e1, e2, e3, e4, e5⟩ := fw.box
      have l3 : (grow w (xga.then xgb)).heap.size < wo.heap.size := by have := fw.lt5; omega
      have l31 : (grow w (xga.then xgb)).heap.size < wo.heap.size + 1 := by omega
      have l32 : (grow w (xga.then xgb)).heap.size < wo.heap.size + 1 + 1 := by omega
      have hi0 : (0 : Int) ≤ (k : Int) := by omega
      have hi1 : (k : Int) < (n : Int) + 1 := by omega
      have hi2 : (k : Int) ≤ 2000 := by omega
      go_wp2_with (first | (go_at_call 56; ((with_reducible refine (kh.at_ _).mono ?_); rintro e w' ⟨rfl, xgh, rfl⟩)))
      clear e0 e1 e2 e3 e4 e5 h1 h2 h3
      go_loopw [9] (fun t wr => ∃ j : Nat, t = .int .i64 j ∧ j ≤ 6 ∧ FW w wr (grow w (xga.then xgb)).heap.size ((grow w (xga.then xgb)).heap.size + 1) (boxF q n) (mix (boxF q n) q k j) ∧ (∀ m, m < 6 → wr.cell? ⟨(grow (wo.alloc (.cells #[.int .i64 (q k).1, .int .i64 (q k).2.1, .int .i64 (q k).2.2] 51)) xgh).heap.size, m, none⟩ = some (.bool (sideOf (boxF q n) (q k) m))) ∧ ((grow w (xga.then xgb)).heap.size + 1) < (grow (wo.alloc (.cells #[.int .i64 (q k).1, .int .i64 (q k).2.1, .int .i64 (q k).2.2] 51)) xgh).heap.size) (fun t _ => (6 - intOf t).toNat)
      case atStart =>
        refine ⟨0, rfl, by omega, (fw.below (by repeat (first | exact Below.refl _ _ | refine bel_then ?_ _ | refine bel_grow ?_ _ | refine bel_alloc ?_ _ | refine bel_drew ?_ | refine bel_set ?_ (by simp) _ | refine bel_setRow ?_ (by simp) _))).congr (fun j _ => rfl), fun m hm => ?_, ?_⟩
        · match m, hm with
          | 0, _ => go_simp; rfl
          | 1, _ => go_simp; rfl
          | 2, _ => go_simp; rfl
          | 3, _ => go_simp; rfl
          | 4, _ => go_simp; rfl
          | 5, _ => go_simp; rfl
        · have h5 := fw.lt5
          have t := top_le (wo.alloc (.cells #[.int .i64 (q k).1, .int .i64 (q k).2.1, .int .i64 (q k).2.2] 51)) xgh
          rw [World.size_alloc] at t
          exact Nat.lt_of_lt_of_le (by omega) t
      case round =>
        obtain ⟨j, rfl, hj, fv, side, hne⟩ := hrel
        clear fw kh l3 l31 l32
        by_cases hlj : j < 6
        · obtain ⟨c5, f5⟩ := fv.flag j hlj
          have c8 := side j hlj
          have next := fv.set j hlj (mix (boxF q n) q k j j || sideOf (boxF q n) (q k) j)
          rw [mix_next] at next
          obtain ⟨g8, hg8⟩ : ∃ g, (grow (wo.alloc (.cells #[.int .i64 (q k).1, .int .i64 (q k).2.1, .int .i64 (q k).2.2] 51)) xgh).heap.size = g := ⟨_, rfl⟩
          have side2 : ∀ m, m < 6 → (wr.setCell ⟨((grow w (xga.then xgb)).heap.size + 1), j, none⟩ (.bool (mix (boxF q n) q k j j || sideOf (boxF q n) (q k) j))).cell? ⟨(grow (wo.alloc (.cells #[.int .i64 (q k).1, .int .i64 (q k).2.1, .int .i64 (q k).2.2] 51)) xgh).heap.size, m, none⟩ = some (.bool (sideOf (boxF q n) (q k) m)) := fun m hm => by
            rw [cell_set_ne _ _ _ _ _ _ (.inl (by omega))]; exact side m hm
          obtain ⟨u1, hu1⟩ : ∃ u, mix (boxF q n) q k j j = u := ⟨_, rfl⟩
          obtain ⟨u2, hu2⟩ : ∃ u, sideOf (boxF q n) (q k) j = u := ⟨_, rfl⟩
          rw [hu1, hu2] at next side2
          rw [hu1] at c5
          rw [hu2] at c8
          replace next := Lib.hid next
          replace side2 := Lib.hid side2
          clear hg8 hu1 hu2 side fv
          have j0 : (0 : Int) ≤ (j : Int) := by omega
          have j1 : (j : Int) < 6 := by omega
          cases u1
          · go_wp2_with fail
            go_roundw
            case rel => exact ⟨j + 1, by go_num, by omega, next.out, side2.out, hne⟩
            case measure => simp [intOf] <;> omega
          · go_wp2_with fail
            go_roundw
            case rel => exact ⟨j + 1, by go_num, by omega, next.out, side2.out, hne⟩
            case measure => simp [intOf] <;> omega
        · obtain rfl : j = 6 := by omega
          have next := fv.congr (f' := touF (boxF q n) q (k + 1)) (fun j hj => by unfold mix; rw [if_pos hj])
          replace next := Lib.hid next
          clear fv side
          go_wp2_with fail
          go_roundw
          case rel => exact ⟨k + 1, by go_num, by omega, next.out⟩
          case measure => simp [intOf] <;> omega
    · obtain rfl : k = n + 1 := by omega
      have fl : ∀ j, j < 6 → wr.cell? ⟨((grow w (xga.then xgb)).heap.size + 1), j, none⟩ = some (.bool true) := fun j hj => by rw [(fw.flag j hj).1, hall.out j hj]
      have c0 := fl 0 (by omega)
      have c1 := fl 1 (by omega)
      have c2 := fl 2 (by omega)
      have c3 := fl 3 (by omega)
      have c4 := fl 4 (by omega)
      have c5 := fl 5 (by omega)
      have bel := fw.bel
      clear fl fw
      have e : ∀ w : World, (binOp .eql 70 (.agg #[.bool true, .bool true, .bool true, .bool true, .bool true, .bool true]) (.agg #[.bool true, .bool true, .bool true, .bool true, .bool true, .bool true])).run Try.prog w = .ok (.bool true) w := by
        intro w; kernel_rfl
      go_wp2_with fail
      go_ret
      exact ⟨rfl, bel⟩
theorem walk (w : World) (A : Option Addr) (n c : Nat) (q : Nat → Int × Int × Int) (hq : SL A n c ∧ VF w A n q ∧ ∀ i, i < n → In64 (q i).1 ∧ In64 (q i).2.1 ∧ In64 (q i).2.2) : Calls Try.prog 10 #[.slice A n c] w fun e w' => e = .returned (.bool true) ∧ Below w.heap.size w w' := by
  by_cases h : 2000 < n
  · exact long w A n c q hq h
  · obtain ⟨hsl, hv, _⟩ := hq
    cases n with
    | zero => exact empty w A c q hsl hv
    | succ n => exact some_ w A n c q hsl hv (by omega)

theorem own : ownKnob Try.prog.godebug = none := by kernel_rfl
set_option maxRecDepth 100000 in
theorem lifted (os : Os) (started : os.Started) (H : Type) (enc : TypeId × Value → H) :
    ReturnsInHanded {} Try.checked os 10 .any (Rows.vecBoundSpec.pre6 enc Try.prog Try.f10 Rows.vecBoundRow.domain false) (Rows.vecBoundSpec.post enc Try.prog Try.f10 false true false false) := by
  refine returnsInHanded_of_change (C := Try.checked) own started (by kernel_rfl) Try.func10
    (ChangeSpec.witness6 (enc := enc) (C := Try.checked) false ⟨#[], #[.slice none 0 0], []⟩ 12 (by kernel_rfl) (by kernel_rfl) (by kernel_rfl) (by kernel_rfl)) ?_
  intro W base args ds gs before hval0 hW hcnd _
  have hval : ∀ (j : Nat) t v, Try.f10.params[j]? = some t → args[j]? = some v → Value.okWide Try.prog W .any base t v := hval0
  have hW' := hW
  obtain ⟨p, q, hA0, hV, rfl, hfz, hnd⟩ := hW
  have hA : DataW.TrodAll enc Try.prog W 0 (fun _ => true) true Try.f10.params.toList args.toList ds p := hA0
  rw [Try.params10] at hA hval
  obtain ⟨v0, vs0, d0, ds0, p0, q0, hargs, rfl, rfl, h0, r0⟩ := trodAll_cons hA
  obtain ⟨rfl, rfl, rfl⟩ := trodAll_nil r0
  obtain rfl : args = #[v0] := by cases args; simp_all
  obtain ⟨A0, n0, c0, q0, rfl, b0⟩ := open_Vs (hval 0 58 v0 rfl rfl) h0
  refine (walk W A0 n0 c0 q0 b0).mono fun e W' ⟨he, hb⟩ => ?_
  subst he
  exact ⟨_, rfl, law_post (tb := 4) (by kernel_rfl) (by kernel_rfl) rfl rfl Try.underlying4 rfl rfl rfl hW' hb⟩

theorem over : Rows.vecBoundRow.holds Try.pinned (OpenSpec.ofChange Rows.vecBoundSpec) :=
  OpenClaim.holds_of_wide 10 Try.f10 rfl rfl rfl rfl rfl rfl rfl ⟨rfl, rfl, rfl, rfl, rfl⟩ rfl rfl rfl rfl rfl (by kernel_rfl) Try.func10 (by kernel_rfl)
    (of_decide_eq_true (by kernel_rfl)) (by unfold Func.isWrapper; first | (rw [if_pos (by decide +kernel)]; kernel_rfl) | (rw [if_neg (by decide +kernel)]; exact ⟨rfl, rfl⟩))
    (fun os started H enc _ => lifted os started H enc)

theorem proved : Rows.VecBoundSaid :=
  over
#print axioms proved
end Go.Proofs.Ytlfdjnmigfdjbaa.vecBound
