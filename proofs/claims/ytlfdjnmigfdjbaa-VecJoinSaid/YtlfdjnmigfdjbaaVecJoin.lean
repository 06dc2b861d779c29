/- VecJoin holds for every input: the row, out of the walk. No condition. -/
import Derived.Test.YtlfdjnmigfdjbaaRows
import Derived.Test.YtlfdjnmigfdjbaaAlive2
import Derived.Test.YtlfdjnmigfdjbaaOpenV
import Derived.Test.YtlfdjnmigfdjbaaVec8
import Derived.Test.YtlfdjnmigfdjbaaCuts
import Derived.Test.YtlfdjnmigfdjbaaPost
namespace Go.Proofs.Ytlfdjnmigfdjbaa.vecJoin
open Go.ChangeShapes Go.WideShapes Go.ChangeAt Go.RowKit
set_option linter.unusedVariables false
set_option linter.unusedSimpArgs false
theorem long1 (w : World) (A : Option Addr) (n c : Nat) (q : Nat → Int × Int × Int) (hq : SL A n c ∧ VF w A n q ∧ ∀ i, i < n → In64 (q i).1 ∧ In64 (q i).2.1 ∧ In64 (q i).2.2) (B : Option Addr) (m d : Nat) (r : Nat → Int × Int × Int) (hr : SL B m d ∧ VF w B m r ∧ ∀ i, i < m → In64 (r i).1 ∧ In64 (r i).2.1 ∧ In64 (r i).2.2) (px py pz : Int) (hp : In64 px ∧ In64 py ∧ In64 pz) (h : 1000 < n) :
    Calls Try.prog 11 #[.slice A n c, .slice B m d, .agg #[.int .i64 px, .int .i64 py, .int .i64 pz]] w fun e w' => e = .returned (.bool true) ∧ Below w.heap.size w w' := by
  have al := alive2_any
  go_enter Try.func11, Try.ntmps11
  go_wp2_with (first | (go_at_call 34; ((with_reducible refine (al.at_ _).mono ?_); rintro e w' ⟨rfl, xg, rfl⟩)))
  go_ret
  exact ⟨rfl, (by repeat (first | exact Below.refl _ _ | refine bel_then ?_ _ | refine bel_grow ?_ _ | refine bel_alloc ?_ _ | refine bel_drew ?_ | refine bel_set ?_ (by simp) _ | refine bel_setRow ?_ (by simp) _))⟩
theorem long2 (w : World) (A : Option Addr) (n c : Nat) (q : Nat → Int × Int × Int) (hq : SL A n c ∧ VF w A n q ∧ ∀ i, i < n → In64 (q i).1 ∧ In64 (q i).2.1 ∧ In64 (q i).2.2) (B : Option Addr) (m d : Nat) (r : Nat → Int × Int × Int) (hr : SL B m d ∧ VF w B m r ∧ ∀ i, i < m → In64 (r i).1 ∧ In64 (r i).2.1 ∧ In64 (r i).2.2) (px py pz : Int) (hp : In64 px ∧ In64 py ∧ In64 pz) (h0 : n ≤ 1000) (h : 1000 < m) :
    Calls Try.prog 11 #[.slice A n c, .slice B m d, .agg #[.int .i64 px, .int .i64 py, .int .i64 pz]] w fun e w' => e = .returned (.bool true) ∧ Below w.heap.size w w' := by
  have al := alive2_any
  go_enter Try.func11, Try.ntmps11
  go_wp2_with (first | (go_at_call 34; ((with_reducible refine (al.at_ _).mono ?_); rintro e w' ⟨rfl, xg, rfl⟩)))
  go_ret
  exact ⟨rfl, (by repeat (first | exact Below.refl _ _ | refine bel_then ?_ _ | refine bel_grow ?_ _ | refine bel_alloc ?_ _ | refine bel_drew ?_ | refine bel_set ?_ (by simp) _ | refine bel_setRow ?_ (by simp) _))⟩
set_option maxRecDepth 100000 in
set_option maxHeartbeats 2000000 in
theorem e_any (w : World) (A : Option Addr) (c : Nat) (q : Nat → Int × Int × Int) (hsl : SL A 0 c) (hv : VF w A 0 q) (B : Option Addr) (d : Nat) (r : Nat → Int × Int × Int) (hsr : SL B 0 d) (hu : VF w B 0 r) (px py pz : Int) (hp : In64 px ∧ In64 py ∧ In64 pz)  :
    Calls Try.prog 11 #[.slice A 0 c, .slice B 0 d, .agg #[.int .i64 px, .int .i64 py, .int .i64 pz]] w fun e w' => e = .returned (.bool true) ∧ Below w.heap.size w w' := by
  have al := alive2_any
  go_enter Try.func11, Try.ntmps11
  go_wp2_with (first | (go_at_call 34; ((with_reducible refine (al.at_ _).mono ?_); rintro e w' ⟨rfl, xg, rfl⟩)) | (go_at_call 52; first | ((with_reducible refine (((vBound_none A c).at_ _)).mono ?_); rintro e w' ⟨rfl, xg, rfl⟩) | ((with_reducible refine (((vBound_none B d).at_ _)).mono ?_); rintro e w' ⟨rfl, xg, rfl⟩)))
  go_ret
  exact ⟨rfl, (by repeat (first | exact Below.refl _ _ | refine bel_then ?_ _ | refine bel_grow ?_ _ | refine bel_alloc ?_ _ | refine bel_drew ?_ | refine bel_set ?_ (by simp) _ | refine bel_setRow ?_ (by simp) _))⟩
set_option maxRecDepth 100000 in
set_option maxHeartbeats 2000000 in
theorem e_some (w : World) (A : Option Addr) (c : Nat) (q : Nat → Int × Int × Int) (hsl : SL A 0 c) (hv : VF w A 0 q) (B : Option Addr) (m d : Nat) (r : Nat → Int × Int × Int) (hsr : SL B (m + 1) d) (hu : VF w B (m + 1) r) (px py pz : Int) (hp : In64 px ∧ In64 py ∧ In64 pz) (h : m + 1 ≤ 1000) :
    Calls Try.prog 11 #[.slice A 0 c, .slice B (m + 1) d, .agg #[.int .i64 px, .int .i64 py, .int .i64 pz]] w fun e w' => e = .returned (.bool true) ∧ Below w.heap.size w w' := by
  have al := alive2_any
  have hd := hsr.1
  go_enter Try.func11, Try.ntmps11
  go_wp2_with (first | (go_at_call 34; ((with_reducible refine (al.at_ _).mono ?_); rintro e w' ⟨rfl, xg, rfl⟩)) | (go_at_call 52; first | ((with_reducible refine (((vBound_none A c).at_ _)).mono ?_); rintro e w' ⟨rfl, xg, rfl⟩) | ((with_reducible refine ((vBound_some _ B m d r (hu.below (by repeat (first | exact Below.refl _ _ | refine bel_then ?_ _ | refine bel_grow ?_ _ | refine bel_alloc ?_ _ | refine bel_drew ?_ | refine bel_set ?_ (by simp) _ | refine bel_setRow ?_ (by simp) _))) (by omega) hd)).mono ?_); rintro e w' ⟨rfl, xg, rfl⟩)))
  go_ret
  exact ⟨rfl, (by repeat (first | exact Below.refl _ _ | refine bel_then ?_ _ | refine bel_grow ?_ _ | refine bel_alloc ?_ _ | refine bel_drew ?_ | refine bel_set ?_ (by simp) _ | refine bel_setRow ?_ (by simp) _))⟩
set_option maxRecDepth 100000 in
set_option maxHeartbeats 2000000 in
theorem some_e (w : World) (A : Option Addr) (n c : Nat) (q : Nat → Int × Int × Int) (hsl : SL A (n + 1) c) (hv : VF w A (n + 1) q) (B : Option Addr) (d : Nat) (r : Nat → Int × Int × Int) (hsr : SL B 0 d) (hu : VF w B 0 r) (px py pz : Int) (hp : In64 px ∧ In64 py ∧ In64 pz) (h : n + 1 ≤ 1000) :
    Calls Try.prog 11 #[.slice A (n + 1) c, .slice B 0 d, .agg #[.int .i64 px, .int .i64 py, .int .i64 pz]] w fun e w' => e = .returned (.bool true) ∧ Below w.heap.size w w' := by
  have al := alive2_any
  have hc := hsl.1
  go_enter Try.func11, Try.ntmps11
  go_wp2_with (first | (go_at_call 34; ((with_reducible refine (al.at_ _).mono ?_); rintro e w' ⟨rfl, xg, rfl⟩)) | (go_at_call 52; first | ((with_reducible refine ((vBound_some _ A n c q (hv.below (by repeat (first | exact Below.refl _ _ | refine bel_then ?_ _ | refine bel_grow ?_ _ | refine bel_alloc ?_ _ | refine bel_drew ?_ | refine bel_set ?_ (by simp) _ | refine bel_setRow ?_ (by simp) _))) (by omega) hc)).mono ?_); rintro e w' ⟨rfl, xg, rfl⟩) | ((with_reducible refine (((vBound_none B d).at_ _)).mono ?_); rintro e w' ⟨rfl, xg, rfl⟩)))
  go_ret
  exact ⟨rfl, (by repeat (first | exact Below.refl _ _ | refine bel_then ?_ _ | refine bel_grow ?_ _ | refine bel_alloc ?_ _ | refine bel_drew ?_ | refine bel_set ?_ (by simp) _ | refine bel_setRow ?_ (by simp) _))⟩
set_option maxRecDepth 100000 in
set_option maxHeartbeats 2000000 in
theorem some_some (w : World) (A : Option Addr) (n c : Nat) (q : Nat → Int × Int × Int) (hsl : SL A (n + 1) c) (hv : VF w A (n + 1) q) (B : Option Addr) (m d : Nat) (r : Nat → Int × Int × Int) (hsr : SL B (m + 1) d) (hu : VF w B (m + 1) r) (px py pz : Int) (hp : In64 px ∧ In64 py ∧ In64 pz) (h1 : n + 1 ≤ 1000) (h2 : m + 1 ≤ 1000) :
    Calls Try.prog 11 #[.slice A (n + 1) c, .slice B (m + 1) d, .agg #[.int .i64 px, .int .i64 py, .int .i64 pz]] w fun e w' => e = .returned (.bool true) ∧ Below w.heap.size w w' := by
  have al := alive2_any
  obtain ⟨i0, hi0, hz0, hz1, hz2⟩ := info_parts infoV
  have hc := hsl.1
  have hd := hsr.1
  have j1 := vJoin_any (boxF q n).1.1 (boxF q n).1.2.1 (boxF q n).1.2.2 (boxF q n).2.1 (boxF q n).2.2.1 (boxF q n).2.2.2 (boxF r m).1.1 (boxF r m).1.2.1 (boxF r m).1.2.2 (boxF r m).2.1 (boxF r m).2.2.1 (boxF r m).2.2.2
  have j2 := vJoin_any (boxF r m).1.1 (boxF r m).1.2.1 (boxF r m).1.2.2 (boxF r m).2.1 (boxF r m).2.2.1 (boxF r m).2.2.2 (boxF q n).1.1 (boxF q n).1.2.1 (boxF q n).1.2.2 (boxF q n).2.1 (boxF q n).2.2.1 (boxF q n).2.2.2
  rw [Int.min_comm (boxF r m).1.1 (boxF q n).1.1] at j2
  rw [Int.min_comm (boxF r m).1.2.1 (boxF q n).1.2.1] at j2
  rw [Int.min_comm (boxF r m).1.2.2 (boxF q n).1.2.2] at j2
  rw [Int.max_comm (boxF r m).2.1 (boxF q n).2.1] at j2
  rw [Int.max_comm (boxF r m).2.2.1 (boxF q n).2.2.1] at j2
  rw [Int.max_comm (boxF r m).2.2.2 (boxF q n).2.2.2] at j2
  have hx := vHas_any (boxF q n).1.1 (boxF q n).1.2.1 (boxF q n).1.2.2 (boxF q n).2.1 (boxF q n).2.2.1 (boxF q n).2.2.2 px py pz
  have hy := vHas_any (boxF r m).1.1 (boxF r m).1.2.1 (boxF r m).1.2.2 (boxF r m).2.1 (boxF r m).2.2.1 (boxF r m).2.2.2 px py pz
  have hz := vHas_any (min (boxF q n).1.1 (boxF r m).1.1) (min (boxF q n).1.2.1 (boxF r m).1.2.1) (min (boxF q n).1.2.2 (boxF r m).1.2.2) (max (boxF q n).2.1 (boxF r m).2.1) (max (boxF q n).2.2.1 (boxF r m).2.2.1) (max (boxF q n).2.2.2 (boxF r m).2.2.2) px py pz
  have hmath : (inB (boxF q n).1.1 (boxF q n).1.2.1 (boxF q n).1.2.2 (boxF q n).2.1 (boxF q n).2.2.1 (boxF q n).2.2.2 px py pz = true ∨ inB (boxF r m).1.1 (boxF r m).1.2.1 (boxF r m).1.2.2 (boxF r m).2.1 (boxF r m).2.2.1 (boxF r m).2.2.2 px py pz = true) → inB (min (boxF q n).1.1 (boxF r m).1.1) (min (boxF q n).1.2.1 (boxF r m).1.2.1) (min (boxF q n).1.2.2 (boxF r m).1.2.2) (max (boxF q n).2.1 (boxF r m).2.1) (max (boxF q n).2.2.1 (boxF r m).2.2.1) (max (boxF q n).2.2.2 (boxF r m).2.2.2) px py pz = true := by
    rw [inB_iff, inB_iff, inB_iff]; omega
  obtain ⟨ux, hux⟩ : ∃ u, inB (boxF q n).1.1 (boxF q n).1.2.1 (boxF q n).1.2.2 (boxF q n).2.1 (boxF q n).2.2.1 (boxF q n).2.2.2 px py pz = u := ⟨_, rfl⟩
  obtain ⟨uy, huy⟩ : ∃ u, inB (boxF r m).1.1 (boxF r m).1.2.1 (boxF r m).1.2.2 (boxF r m).2.1 (boxF r m).2.2.1 (boxF r m).2.2.2 px py pz = u := ⟨_, rfl⟩
  obtain ⟨uz, huz⟩ : ∃ u, inB (min (boxF q n).1.1 (boxF r m).1.1) (min (boxF q n).1.2.1 (boxF r m).1.2.1) (min (boxF q n).1.2.2 (boxF r m).1.2.2) (max (boxF q n).2.1 (boxF r m).2.1) (max (boxF q n).2.2.1 (boxF r m).2.2.1) (max (boxF q n).2.2.2 (boxF r m).2.2.2) px py pz = u := ⟨_, rfl⟩
  rw [hux] at hx hmath
  rw [huy] at hy hmath
  rw [huz] at hz hmath
  replace hmath := Lib.hid hmath
  clear hux huy huz
  have hcat := boxF_cat n q r m
  rw [show n + 1 + m = n + m + 1 by omega] at hcat
  have fin : ∀ (W : World) (v1 : Value) (w1 : World) (A2 : Option Addr) (c2 : Nat), W.ownsRow W.heap.size 51 3 v1 0 [] → True := fun _ _ _ _ _ _ => trivial
  clear fin
  obtain ⟨b, off, eB, hlB, _⟩ := hu (by omega)
  subst eB
  have kz : ∀ (W : World) (A : Option Addr) (c : Nat), VF W A (n + m + 1 + 1) (catF (n + 1) q r) → n + m + 1 + 1 ≤ c →
      Calls Try.prog 52 #[.slice A (n + m + 1 + 1) c] W fun e w' => e = .returned (.tuple #[.agg #[.int .i64 (min (boxF q n).1.1 (boxF r m).1.1), .int .i64 (min (boxF q n).1.2.1 (boxF r m).1.2.1), .int .i64 (min (boxF q n).1.2.2 (boxF r m).1.2.2), .int .i64 (max (boxF q n).2.1 (boxF r m).2.1), .int .i64 (max (boxF q n).2.2.1 (boxF r m).2.2.1), .int .i64 (max (boxF q n).2.2.2 (boxF r m).2.2.2)], .bool true]) ∧ ∃ x, w' = grow W x := fun W A c h1 h2 => by
    have := vBound_some W A (n + m + 1) c _ h1 (by omega) h2
    rw [hcat] at this
    exact this
  clear hcat
  go_enter Try.func11, Try.ntmps11
  go_wp2_with (first | (go_at_call 34; ((with_reducible refine (al.at_ _).mono ?_); rintro e w' ⟨rfl, xg, rfl⟩)) | (go_at_call 52; ((refine (kz _ A3 c3 (hv3.below (by repeat (first | exact Below.refl _ _ | refine bel_then ?_ _ | refine bel_grow ?_ _ | refine bel_alloc ?_ _ | refine bel_drew ?_ | refine bel_set ?_ (by simp) _ | refine bel_setRow ?_ (by simp) _))) hsl3.1).mono ?_); rintro e w' ⟨rfl, xg, rfl⟩)) | (go_at_call 52; first | ((with_reducible refine ((vBound_some _ A n c q (hv.below (by repeat (first | exact Below.refl _ _ | refine bel_then ?_ _ | refine bel_grow ?_ _ | refine bel_alloc ?_ _ | refine bel_drew ?_ | refine bel_set ?_ (by simp) _ | refine bel_setRow ?_ (by simp) _))) (by omega) hc)).mono ?_); rintro e w' ⟨rfl, xg, rfl⟩) | ((with_reducible refine ((vBound_some _ (some ⟨b, off, none⟩) m d r (hu.below (by repeat (first | exact Below.refl _ _ | refine bel_then ?_ _ | refine bel_grow ?_ _ | refine bel_alloc ?_ _ | refine bel_drew ?_ | refine bel_set ?_ (by simp) _ | refine bel_setRow ?_ (by simp) _))) (by omega) hd)).mono ?_); rintro e w' ⟨rfl, xg, rfl⟩)) | (go_at_call 51; ((refine (copy_any _ A _ c q (hv.below (by repeat (first | exact Below.refl _ _ | refine bel_then ?_ _ | refine bel_grow ?_ _ | refine bel_alloc ?_ _ | refine bel_drew ?_ | refine bel_set ?_ (by simp) _ | refine bel_setRow ?_ (by simp) _))) hsl (by omega)).mono ?_); rintro e w' ⟨v, rfl, xg, rfl, hown⟩)) | (at_builtin; refine wpList_append_own_at _ rfl (.tmp 42) (.tmp 43) _ rfl _ 51 i0 _ 3 24 Try.underlying58 hi0 hz0 hz1 hz2 rfl (by omega) v (n + 1) (newsV q (n + 1)) rfl hown ⟨b, off, none⟩ (m + 1) d (newsV r (m + 1)) rfl (newsV_len _ _) (hu.below (by repeat (first | exact Below.refl _ _ | refine bel_then ?_ _ | refine bel_grow ?_ _ | refine bel_alloc ?_ _ | refine bel_drew ?_ | refine bel_set ?_ (by simp) _ | refine bel_setRow ?_ (by simp) _))).news (newsV_one _ _) (by unfold maxLen; omega) (by omega) (by exact top_le _ _) ?_; intro v1 w1 hown1 hg1 hnil1 hat1; obtain ⟨x1, rfl⟩ := append_step hown hg1; rw [newsV_cat, show n + 1 + (m + 1) = n + m + 1 + 1 by omega] at hown1; obtain ⟨A3, c3, rfl, hsl3, hv3, hb3⟩ := VF_of_own hown1) | (go_at_call 54; ((with_reducible refine (j1.at_ _).mono ?_); rintro e w' ⟨rfl, xg, rfl⟩)))
  clear hv hu hsl hsr hown hown1 hv3 hsl3 hg1 hnil1 hat1 kz
  cases ux <;> cases uy <;> cases uz <;> first | (exfalso; have := hmath.out; simp at this; done) | skip
  all_goals
    refine wp_region_grow (by kernel_rfl) (by kernel_rfl) ?_
    repeat (go_big_quiet_step (((first | with_reducible exact j1.quiet _ | with_reducible exact j1.quiet2 _ _ | with_reducible exact j2.quiet _ | with_reducible exact j2.quiet2 _ _ | with_reducible exact hx.quiet _ | with_reducible exact hx.quiet2 _ _ | with_reducible exact hy.quiet _ | with_reducible exact hy.quiet2 _ _ | with_reducible exact hz.quiet _ | with_reducible exact hz.quiet2 _ _))))
    refine wpQuiet_nil ?_
    rintro _ ⟨xg, rfl⟩
    go_wp2_with fail
    go_ret
    exact ⟨rfl, (by repeat (first | exact Below.refl _ _ | refine bel_then ?_ _ | refine bel_grow ?_ _ | refine bel_alloc ?_ _ | refine bel_drew ?_ | refine bel_set ?_ (by simp) _ | refine bel_setRow ?_ (by simp) _))⟩
theorem walk (w : World) (A : Option Addr) (n c : Nat) (q : Nat → Int × Int × Int) (hq : SL A n c ∧ VF w A n q ∧ ∀ i, i < n → In64 (q i).1 ∧ In64 (q i).2.1 ∧ In64 (q i).2.2) (B : Option Addr) (m d : Nat) (r : Nat → Int × Int × Int) (hr : SL B m d ∧ VF w B m r ∧ ∀ i, i < m → In64 (r i).1 ∧ In64 (r i).2.1 ∧ In64 (r i).2.2) (px py pz : Int) (hp : In64 px ∧ In64 py ∧ In64 pz) : Calls Try.prog 11 #[.slice A n c, .slice B m d, .agg #[.int .i64 px, .int .i64 py, .int .i64 pz]] w fun e w' => e = .returned (.bool true) ∧ Below w.heap.size w w' := by
  by_cases h : 1000 < n
  · exact long1 w A n c q hq B m d r hr px py pz hp h
  · by_cases h2 : 1000 < m
    · exact long2 w A n c q hq B m d r hr px py pz hp (by omega) h2
    · obtain ⟨hsl, hv, _⟩ := hq
      obtain ⟨hsr, hu, _⟩ := hr
      cases n with
      | zero =>
        cases m with
        | zero => exact e_any w A c q hsl hv B d r hsr hu px py pz hp
        | succ m => exact e_some w A c q hsl hv B m d r hsr hu px py pz hp (by omega)
      | succ n =>
        cases m with
        | zero => exact some_e w A n c q hsl hv B d r hsr hu px py pz hp (by omega)
        | succ m => exact some_some w A n c q hsl hv B m d r hsr hu px py pz hp (by omega) (by omega)

theorem own : ownKnob Try.prog.godebug = none := by kernel_rfl
set_option maxRecDepth 100000 in
theorem lifted (os : Os) (started : os.Started) (H : Type) (enc : TypeId × Value → H) :
    ReturnsInHanded {} Try.checked os 11 .any (Rows.vecJoinSpec.pre6 enc Try.prog Try.f11 Rows.vecJoinRow.domain false) (Rows.vecJoinSpec.post enc Try.prog Try.f11 false true false false) := by
  refine returnsInHanded_of_change (C := Try.checked) own started (by kernel_rfl) Try.func11
    (ChangeSpec.witness6 (enc := enc) (C := Try.checked) false ⟨#[], #[.slice none 0 0, .slice none 0 0, .agg #[.int .i64 0, .int .i64 0, .int .i64 0]], []⟩ 12 (by kernel_rfl) (by kernel_rfl) (by kernel_rfl) (by kernel_rfl)) ?_
  intro W base args ds gs before hval0 hW hcnd _
  have hval : ∀ (j : Nat) t v, Try.f11.params[j]? = some t → args[j]? = some v → Value.okWide Try.prog W .any base t v := hval0
  have hW' := hW
  obtain ⟨p, q, hA0, hV, rfl, hfz, hnd⟩ := hW
  have hA : DataW.TrodAll enc Try.prog W 0 (fun _ => true) true Try.f11.params.toList args.toList ds p := hA0
  rw [Try.params11] at hA hval
  obtain ⟨v0, vs0, d0, ds0, p0, q0, hargs, rfl, rfl, h0, r0⟩ := trodAll_cons hA
  obtain ⟨v1, vs1, d1, ds1, p1, q1, rfl, rfl, rfl, h1, r1⟩ := trodAll_cons r0
  obtain ⟨v2, vs2, d2, ds2, p2, q2, rfl, rfl, rfl, h2, r2⟩ := trodAll_cons r1
  obtain ⟨rfl, rfl, rfl⟩ := trodAll_nil r2
  obtain rfl : args = #[v0, v1, v2] := by cases args; simp_all
  obtain ⟨A0, n0, c0, q0, rfl, b0⟩ := open_Vs (hval 0 58 v0 rfl rfl) h0
  obtain ⟨A1, n1, c1, q1, rfl, b1⟩ := open_Vs (hval 1 58 v1 rfl rfl) h1
  obtain ⟨x2, y2, z2, rfl, b2⟩ := open_V (hval 2 51 v2 rfl rfl) h2
  refine (walk W A0 n0 c0 q0 b0 A1 n1 c1 q1 b1 x2 y2 z2 b2).mono fun e W' ⟨he, hb⟩ => ?_
  subst he
  exact ⟨_, rfl, law_post (tb := 4) (by kernel_rfl) (by kernel_rfl) rfl rfl Try.underlying4 rfl rfl rfl hW' hb⟩

theorem over : Rows.vecJoinRow.holds Try.pinned (OpenSpec.ofChange Rows.vecJoinSpec) :=
  OpenClaim.holds_of_wide 11 Try.f11 rfl rfl rfl rfl rfl rfl rfl ⟨rfl, rfl, rfl, rfl, rfl⟩ rfl rfl rfl rfl rfl (by kernel_rfl) Try.func11 (by kernel_rfl)
    (of_decide_eq_true (by kernel_rfl)) (by unfold Func.isWrapper; first | (rw [if_pos (by decide +kernel)]; kernel_rfl) | (rw [if_neg (by decide +kernel)]; exact ⟨rfl, rfl⟩))
    (fun os started H enc _ => lifted os started H enc)

theorem proved : Rows.VecJoinSaid :=
  over
#print axioms proved
end Go.Proofs.Ytlfdjnmigfdjbaa.vecJoin
