/- Contracts of the document's own bounds and sums, exact. The document's own range of a ray in a box. The program's own range: bounds, parts, what is above. The program's own range. Arguments opened down to their single cells, whatever their structs and arrays. No program is imported. Arguments opened: points, boxes, rows of points. -/
import Derived.Deep.RegionHeld3
import Derived.ProofKit
import Derived.OpenShut
import Derived.Deep.Slices
import Derived.Test.YthadlpkdfnonjaaProg
import Derived.Test.YthadlpkdfnonjaaC0
import Derived.Test.YthadlpkdfnonjaaC4
import Derived.Test.YthadlpkdfnonjaaC5
import Derived.Test.YthadlpkdfnonjaaC6
namespace Go.Proofs.Ythadlpkdfnonjaa
open Go.RowKit
set_option linter.unusedVariables false
set_option linter.unusedSimpArgs false
end Go.Proofs.Ythadlpkdfnonjaa
namespace Go.Proofs.Ythadlpkdfnonjaa
open Go.RowKit
set_option linter.unusedVariables false
set_option linter.unusedSimpArgs false
def InFr (a : Fr) : Prop := (-9223372036854775808 ≤ a.n ∧ a.n ≤ 9223372036854775807) ∧ -9223372036854775808 ≤ a.d ∧ a.d ≤ 9223372036854775807
def RightF (a : Fr) : Prop := Right a.n a.d
/-- Three whole numbers in a row. -/
def ar3 (A : Nat → Int) : Array Value := #[.int .i64 (A 0), .int .i64 (A 1), .int .i64 (A 2)]
theorem ar3_get (A : Nat → Int) (i : Nat) : (ar3 A)[i]? = if i < 3 then some (.int .i64 (A i)) else none := by
  match i with
  | 0 => rfl
  | 1 => rfl
  | 2 => rfl
  | n + 3 => rw [if_neg (by omega)]; rfl
theorem ar3_size (A : Nat → Int) : (ar3 A).size = 3 := rfl
theorem ar3_at (A : Nat → Int) (i : Nat) (h : i < (ar3 A).size) : (ar3 A)[i]'h = .int .i64 (A i) := by
  have hi : i < 3 := h
  have := ar3_get A i
  rw [if_pos hi] at this
  exact (Array.getElem?_eq_some_iff.1 this).2
attribute [go_sem] ar3_get ar3_at ar3_size
def pick3 (a : P3) (k : Nat) : Int := if k = 0 then a.x else if k = 1 then a.y else a.z
/-- The range so far. -/
def stR (o d l h : P3) : Nat → Option (Fr × Fr)
  | 0 => some (⟨0, 1⟩, ⟨1, 0⟩)
  | k + 1 => partR (stR o d l h k) (pick3 o k) (pick3 d k) (pick3 l k) (pick3 h k)
theorem stR_three (o d l h : P3) : lastR (stR o d l h 3) = rangeM o d l h := rfl
/-- Bounds of what a range's ends may be. -/
def smallF (a : Fr) : Prop := (-262144 ≤ a.n ∧ a.n ≤ 262144) ∧ -65536 ≤ a.d ∧ a.d ≤ 65536
theorem smallF_in {a : Fr} (h : smallF a) : InFr a := by unfold smallF at h; unfold InFr; omega
theorem in_small {f s l h : Int} (hf : -65536 ≤ f ∧ f ≤ 65536) (hs : -32768 ≤ s ∧ s ≤ 32768) (hl : -131072 ≤ l ∧ l ≤ 131072) (hh : -131072 ≤ h ∧ h ≤ 131072) : smallF (inF f s l h) ∧ smallF (outF f s l h) := by
  unfold smallF inF outF
  split <;> simp only <;> omega
theorem okLo_right {a : Fr} (h : okLo a) : RightF a := .inl h.1
end Go.Proofs.Ythadlpkdfnonjaa
namespace Go.Proofs.Ythadlpkdfnonjaa
open Go.RowKit
set_option linter.unusedVariables false
set_option linter.unusedSimpArgs false
/-- Within the bounds of a box's corners. -/
def corn (a : P3) : Bool := wiB a.x a.y a.z 131072
def rbB (o d l h : P3) : Bool := lnB o d && corn l && corn h
theorem sb_z (o l h : P3) : Gives Try.prog 52 #[.agg #[.int .i64 o.x, .int .i64 o.y, .int .i64 o.z], .agg #[.int .i64 0, .int .i64 0, .int .i64 0], .agg #[.int .i64 l.x, .int .i64 l.y, .int .i64 l.z, .int .i64 h.x, .int .i64 h.y, .int .i64 h.z]] (.bool false) := by
  refine Gives.mk fun w => ?_
  go_enter Try.func52, Try.ntmps52
  go_wp2
  go_ret
  exact ⟨rfl, (by repeat (first | with_reducible exact Below.refl _ _ | with_reducible refine bel_then ?_ _ | with_reducible refine bel_grow ?_ _ | with_reducible refine bel_alloc ?_ _ | with_reducible refine bel_drew ?_ | with_reducible refine bel_set ?_ (by simp) _ | with_reducible refine bel_setRow ?_ (by first | omega | (simp; done) | (refine Nat.le_trans ?_ (top_le _ _); simp; done) | (refine Nat.le_succ_of_le (Nat.le_trans ?_ (top_le _ _)); simp; done)) _))⟩
set_option maxHeartbeats 1000000 in
theorem sb_0 (o l h : P3) (dx dy dz : Int) (hz : nz ⟨dx, dy, dz⟩ = true) (h0 : wiB dx dy dz 32768 = false) : Gives Try.prog 52 #[.agg #[.int .i64 o.x, .int .i64 o.y, .int .i64 o.z], .agg #[.int .i64 dx, .int .i64 dy, .int .i64 dz], .agg #[.int .i64 l.x, .int .i64 l.y, .int .i64 l.z, .int .i64 h.x, .int .i64 h.y, .int .i64 h.z]] (.bool false) := by
  refine Gives.mk fun w => ?_
  have k0 := vWithin_any dx dy dz 32768 (by omega)
  rw [h0] at k0
  clear h0
  rcases nz_cases hz with q | ⟨rfl, q⟩ | ⟨rfl, rfl, q⟩
  all_goals
    go_enter Try.func52, Try.ntmps52
    go_wp2_with (first | (go_at_call 57; first | ((with_reducible refine (k0.at_ _).mono ?_); rintro e w' ⟨rfl, xg, rfl⟩)))
    go_ret
    exact ⟨rfl, (by repeat (first | with_reducible exact Below.refl _ _ | with_reducible refine bel_then ?_ _ | with_reducible refine bel_grow ?_ _ | with_reducible refine bel_alloc ?_ _ | with_reducible refine bel_drew ?_ | with_reducible refine bel_set ?_ (by simp) _ | with_reducible refine bel_setRow ?_ (by first | omega | (simp; done) | (refine Nat.le_trans ?_ (top_le _ _); simp; done) | (refine Nat.le_succ_of_le (Nat.le_trans ?_ (top_le _ _)); simp; done)) _))⟩
set_option maxHeartbeats 1000000 in
theorem sb_1 (o l h : P3) (dx dy dz : Int) (hz : nz ⟨dx, dy, dz⟩ = true) (h0 : wiB dx dy dz 32768 = true) (h1 : wiB o.x o.y o.z 65536 = false) : Gives Try.prog 52 #[.agg #[.int .i64 o.x, .int .i64 o.y, .int .i64 o.z], .agg #[.int .i64 dx, .int .i64 dy, .int .i64 dz], .agg #[.int .i64 l.x, .int .i64 l.y, .int .i64 l.z, .int .i64 h.x, .int .i64 h.y, .int .i64 h.z]] (.bool false) := by
  refine Gives.mk fun w => ?_
  have k0 := vWithin_any dx dy dz 32768 (by omega)
  rw [h0] at k0
  clear h0
  have k1 := vWithin_any o.x o.y o.z 65536 (by omega)
  rw [h1] at k1
  clear h1
  rcases nz_cases hz with q | ⟨rfl, q⟩ | ⟨rfl, rfl, q⟩
  all_goals
    go_enter Try.func52, Try.ntmps52
    go_wp2_with (first | (go_at_call 57; first | ((with_reducible refine (k0.at_ _).mono ?_); rintro e w' ⟨rfl, xg, rfl⟩) | ((with_reducible refine (k1.at_ _).mono ?_); rintro e w' ⟨rfl, xg, rfl⟩)))
    go_ret
    exact ⟨rfl, (by repeat (first | with_reducible exact Below.refl _ _ | with_reducible refine bel_then ?_ _ | with_reducible refine bel_grow ?_ _ | with_reducible refine bel_alloc ?_ _ | with_reducible refine bel_drew ?_ | with_reducible refine bel_set ?_ (by simp) _ | with_reducible refine bel_setRow ?_ (by first | omega | (simp; done) | (refine Nat.le_trans ?_ (top_le _ _); simp; done) | (refine Nat.le_succ_of_le (Nat.le_trans ?_ (top_le _ _)); simp; done)) _))⟩
set_option maxHeartbeats 1000000 in
theorem sb_2 (o l h : P3) (dx dy dz : Int) (hz : nz ⟨dx, dy, dz⟩ = true) (h0 : wiB dx dy dz 32768 = true) (h1 : wiB o.x o.y o.z 65536 = true) (h2 : wiB l.x l.y l.z 131072 = false) : Gives Try.prog 52 #[.agg #[.int .i64 o.x, .int .i64 o.y, .int .i64 o.z], .agg #[.int .i64 dx, .int .i64 dy, .int .i64 dz], .agg #[.int .i64 l.x, .int .i64 l.y, .int .i64 l.z, .int .i64 h.x, .int .i64 h.y, .int .i64 h.z]] (.bool false) := by
  refine Gives.mk fun w => ?_
  have k0 := vWithin_any dx dy dz 32768 (by omega)
  rw [h0] at k0
  clear h0
  have k1 := vWithin_any o.x o.y o.z 65536 (by omega)
  rw [h1] at k1
  clear h1
  have k2 := vWithin_any l.x l.y l.z 131072 (by omega)
  rw [h2] at k2
  clear h2
  rcases nz_cases hz with q | ⟨rfl, q⟩ | ⟨rfl, rfl, q⟩
  all_goals
    go_enter Try.func52, Try.ntmps52
    go_wp2_with (first | (go_at_call 57; first | ((with_reducible refine (k0.at_ _).mono ?_); rintro e w' ⟨rfl, xg, rfl⟩) | ((with_reducible refine (k1.at_ _).mono ?_); rintro e w' ⟨rfl, xg, rfl⟩) | ((with_reducible refine (k2.at_ _).mono ?_); rintro e w' ⟨rfl, xg, rfl⟩)))
    go_ret
    exact ⟨rfl, (by repeat (first | with_reducible exact Below.refl _ _ | with_reducible refine bel_then ?_ _ | with_reducible refine bel_grow ?_ _ | with_reducible refine bel_alloc ?_ _ | with_reducible refine bel_drew ?_ | with_reducible refine bel_set ?_ (by simp) _ | with_reducible refine bel_setRow ?_ (by first | omega | (simp; done) | (refine Nat.le_trans ?_ (top_le _ _); simp; done) | (refine Nat.le_succ_of_le (Nat.le_trans ?_ (top_le _ _)); simp; done)) _))⟩
set_option maxHeartbeats 1000000 in
theorem sb_3 (o l h : P3) (dx dy dz : Int) (hz : nz ⟨dx, dy, dz⟩ = true) (h0 : wiB dx dy dz 32768 = true) (h1 : wiB o.x o.y o.z 65536 = true) (h2 : wiB l.x l.y l.z 131072 = true) (h3 : wiB h.x h.y h.z 131072 = false) : Gives Try.prog 52 #[.agg #[.int .i64 o.x, .int .i64 o.y, .int .i64 o.z], .agg #[.int .i64 dx, .int .i64 dy, .int .i64 dz], .agg #[.int .i64 l.x, .int .i64 l.y, .int .i64 l.z, .int .i64 h.x, .int .i64 h.y, .int .i64 h.z]] (.bool false) := by
  refine Gives.mk fun w => ?_
  have k0 := vWithin_any dx dy dz 32768 (by omega)
  rw [h0] at k0
  clear h0
  have k1 := vWithin_any o.x o.y o.z 65536 (by omega)
  rw [h1] at k1
  clear h1
  have k2 := vWithin_any l.x l.y l.z 131072 (by omega)
  rw [h2] at k2
  clear h2
  have k3 := vWithin_any h.x h.y h.z 131072 (by omega)
  rw [h3] at k3
  clear h3
  rcases nz_cases hz with q | ⟨rfl, q⟩ | ⟨rfl, rfl, q⟩
  all_goals
    go_enter Try.func52, Try.ntmps52
    go_wp2_with (first | (go_at_call 57; first | ((with_reducible refine (k0.at_ _).mono ?_); rintro e w' ⟨rfl, xg, rfl⟩) | ((with_reducible refine (k1.at_ _).mono ?_); rintro e w' ⟨rfl, xg, rfl⟩) | ((with_reducible refine (k2.at_ _).mono ?_); rintro e w' ⟨rfl, xg, rfl⟩) | ((with_reducible refine (k3.at_ _).mono ?_); rintro e w' ⟨rfl, xg, rfl⟩)))
    go_ret
    exact ⟨rfl, (by repeat (first | with_reducible exact Below.refl _ _ | with_reducible refine bel_then ?_ _ | with_reducible refine bel_grow ?_ _ | with_reducible refine bel_alloc ?_ _ | with_reducible refine bel_drew ?_ | with_reducible refine bel_set ?_ (by simp) _ | with_reducible refine bel_setRow ?_ (by first | omega | (simp; done) | (refine Nat.le_trans ?_ (top_le _ _); simp; done) | (refine Nat.le_succ_of_le (Nat.le_trans ?_ (top_le _ _)); simp; done)) _))⟩
set_option maxHeartbeats 1000000 in
theorem sb_4 (o l h : P3) (dx dy dz : Int) (hz : nz ⟨dx, dy, dz⟩ = true) (h0 : wiB dx dy dz 32768 = true) (h1 : wiB o.x o.y o.z 65536 = true) (h2 : wiB l.x l.y l.z 131072 = true) (h3 : wiB h.x h.y h.z 131072 = true) : Gives Try.prog 52 #[.agg #[.int .i64 o.x, .int .i64 o.y, .int .i64 o.z], .agg #[.int .i64 dx, .int .i64 dy, .int .i64 dz], .agg #[.int .i64 l.x, .int .i64 l.y, .int .i64 l.z, .int .i64 h.x, .int .i64 h.y, .int .i64 h.z]] (.bool true) := by
  refine Gives.mk fun w => ?_
  have k0 := vWithin_any dx dy dz 32768 (by omega)
  rw [h0] at k0
  clear h0
  have k1 := vWithin_any o.x o.y o.z 65536 (by omega)
  rw [h1] at k1
  clear h1
  have k2 := vWithin_any l.x l.y l.z 131072 (by omega)
  rw [h2] at k2
  clear h2
  have k3 := vWithin_any h.x h.y h.z 131072 (by omega)
  rw [h3] at k3
  clear h3
  rcases nz_cases hz with q | ⟨rfl, q⟩ | ⟨rfl, rfl, q⟩
  all_goals
    go_enter Try.func52, Try.ntmps52
    go_wp2_with (first | (go_at_call 57; first | ((with_reducible refine (k0.at_ _).mono ?_); rintro e w' ⟨rfl, xg, rfl⟩) | ((with_reducible refine (k1.at_ _).mono ?_); rintro e w' ⟨rfl, xg, rfl⟩) | ((with_reducible refine (k2.at_ _).mono ?_); rintro e w' ⟨rfl, xg, rfl⟩) | ((with_reducible refine (k3.at_ _).mono ?_); rintro e w' ⟨rfl, xg, rfl⟩)))
    go_ret
    exact ⟨rfl, (by repeat (first | with_reducible exact Below.refl _ _ | with_reducible refine bel_then ?_ _ | with_reducible refine bel_grow ?_ _ | with_reducible refine bel_alloc ?_ _ | with_reducible refine bel_drew ?_ | with_reducible refine bel_set ?_ (by simp) _ | with_reducible refine bel_setRow ?_ (by first | omega | (simp; done) | (refine Nat.le_trans ?_ (top_le _ _); simp; done) | (refine Nat.le_succ_of_le (Nat.le_trans ?_ (top_le _ _)); simp; done)) _))⟩
theorem slB_any (o d l h : P3) : Gives Try.prog 52 #[.agg #[.int .i64 o.x, .int .i64 o.y, .int .i64 o.z], .agg #[.int .i64 d.x, .int .i64 d.y, .int .i64 d.z], .agg #[.int .i64 l.x, .int .i64 l.y, .int .i64 l.z, .int .i64 h.x, .int .i64 h.y, .int .i64 h.z]] (.bool (rbB o d l h)) := by
  obtain ⟨dx, dy, dz⟩ := d
  unfold rbB lnB corn
  simp only
  cases hz : nz ⟨dx, dy, dz⟩
  · have e : dx = 0 ∧ dy = 0 ∧ dz = 0 := by unfold nz at hz; simpa [and_assoc] using hz
    obtain ⟨rfl, rfl, rfl⟩ := e
    exact sb_z o l h
  · cases h0 : wiB dx dy dz 32768
    · exact sb_0 o l h dx dy dz hz h0
    · cases h1 : wiB o.x o.y o.z 65536
      · exact sb_1 o l h dx dy dz hz h0 h1
      · cases h2 : wiB l.x l.y l.z 131072
        · exact sb_2 o l h dx dy dz hz h0 h1 h2
        · cases h3 : wiB h.x h.y h.z 131072
          · exact sb_3 o l h dx dy dz hz h0 h1 h2 h3
          · exact sb_4 o l h dx dy dz hz h0 h1 h2 h3
theorem cmp_gt0 (x y : Int) : decide (0 < cmpOf x y) = decide (y < x) := by
  refine decide_eq_decide.2 ?_
  unfold cmpOf
  split
  · omega
  · split <;> omega
theorem above_any (a b : Fr) (ha : InFr a) (hb : InFr b) (ra : RightF a) (rb : RightF b) : Gives Try.prog 54 #[.agg #[.int .i64 a.n, .int .i64 a.d], .agg #[.int .i64 b.n, .int .i64 b.d]] (.bool (ltF b a)) := by
  refine Gives.mk fun w => ?_
  have k := order_yes a.n a.d b.n b.d ha.1.1 ha.1.2 ha.2.1 ha.2.2 hb.1.1 hb.1.2 hb.2.1 hb.2.2 ra rb
  have e : decide (0 < cmpOf (a.n * b.d) (b.n * a.d)) = ltF b a := cmp_gt0 _ _
  have E := Lib.hid e
  generalize cmpOf (a.n * b.d) (b.n * a.d) = v at *
  clear e ha hb ra rb
  go_enter Try.func54, Try.ntmps54
  go_wp2_with (first | (go_at_call 88; first | ((with_reducible refine (k.at_ _).mono ?_); rintro e w' ⟨rfl, xg, rfl⟩)))
  go_ret
  exact ⟨ret_bool E.out, (by repeat (first | with_reducible exact Below.refl _ _ | with_reducible refine bel_then ?_ _ | with_reducible refine bel_grow ?_ _ | with_reducible refine bel_alloc ?_ _ | with_reducible refine bel_drew ?_ | with_reducible refine bel_set ?_ (by simp) _ | with_reducible refine bel_setRow ?_ (by first | omega | (simp; done) | (refine Nat.le_trans ?_ (top_le _ _); simp; done) | (refine Nat.le_succ_of_le (Nat.le_trans ?_ (top_le _ _)); simp; done)) _))⟩
theorem still_yes (f s l h : Int) (q1 : l ≤ f) (q2 : f ≤ h) : Gives Try.prog 87 #[.agg #[.int .i64 f, .int .i64 s, .int .i64 l, .int .i64 h]] (.tuple #[.agg #[.int .i64 0, .int .i64 1], .agg #[.int .i64 1, .int .i64 0]]) := by
  refine Gives.mk fun w => ?_
  go_enter Try.func87, Try.ntmps87
  go_wp2
  go_region
  all_goals
    go_wp2
    refine bodyPost_ret (v := .tuple #[.agg #[.int .i64 0, .int .i64 1], .agg #[.int .i64 1, .int .i64 0]]) (by simp [results, Try.results87, go_sem]) rfl ⟨rfl, (by repeat (first | with_reducible exact Below.refl _ _ | with_reducible refine bel_then ?_ _ | with_reducible refine bel_grow ?_ _ | with_reducible refine bel_alloc ?_ _ | with_reducible refine bel_drew ?_ | with_reducible refine bel_set ?_ (by simp) _ | with_reducible refine bel_setRow ?_ (by first | omega | (simp; done) | (refine Nat.le_trans ?_ (top_le _ _); simp; done) | (refine Nat.le_succ_of_le (Nat.le_trans ?_ (top_le _ _)); simp; done)) _))⟩
theorem still_noa (f s l h : Int) (q1 : f < l) : Gives Try.prog 87 #[.agg #[.int .i64 f, .int .i64 s, .int .i64 l, .int .i64 h]] (.tuple #[.agg #[.int .i64 1, .int .i64 0], .agg #[.int .i64 0, .int .i64 1]]) := by
  refine Gives.mk fun w => ?_
  go_enter Try.func87, Try.ntmps87
  go_wp2
  go_region
  all_goals
    go_wp2
    refine bodyPost_ret (v := .tuple #[.agg #[.int .i64 1, .int .i64 0], .agg #[.int .i64 0, .int .i64 1]]) (by simp [results, Try.results87, go_sem]) rfl ⟨rfl, (by repeat (first | with_reducible exact Below.refl _ _ | with_reducible refine bel_then ?_ _ | with_reducible refine bel_grow ?_ _ | with_reducible refine bel_alloc ?_ _ | with_reducible refine bel_drew ?_ | with_reducible refine bel_set ?_ (by simp) _ | with_reducible refine bel_setRow ?_ (by first | omega | (simp; done) | (refine Nat.le_trans ?_ (top_le _ _); simp; done) | (refine Nat.le_succ_of_le (Nat.le_trans ?_ (top_le _ _)); simp; done)) _))⟩
theorem still_nob (f s l h : Int) (q1 : l ≤ f) (q2 : h < f) : Gives Try.prog 87 #[.agg #[.int .i64 f, .int .i64 s, .int .i64 l, .int .i64 h]] (.tuple #[.agg #[.int .i64 1, .int .i64 0], .agg #[.int .i64 0, .int .i64 1]]) := by
  refine Gives.mk fun w => ?_
  go_enter Try.func87, Try.ntmps87
  go_wp2
  go_region
  all_goals
    go_wp2
    refine bodyPost_ret (v := .tuple #[.agg #[.int .i64 1, .int .i64 0], .agg #[.int .i64 0, .int .i64 1]]) (by simp [results, Try.results87, go_sem]) rfl ⟨rfl, (by repeat (first | with_reducible exact Below.refl _ _ | with_reducible refine bel_then ?_ _ | with_reducible refine bel_grow ?_ _ | with_reducible refine bel_alloc ?_ _ | with_reducible refine bel_drew ?_ | with_reducible refine bel_set ?_ (by simp) _ | with_reducible refine bel_setRow ?_ (by first | omega | (simp; done) | (refine Nat.le_trans ?_ (top_le _ _); simp; done) | (refine Nat.le_succ_of_le (Nat.le_trans ?_ (top_le _ _)); simp; done)) _))⟩
/-- From which t on a part of the ray is within its sides, and to which one. -/
def spI (f s l h : Int) : Fr := if s = 0 then (if l ≤ f ∧ f ≤ h then ⟨0, 1⟩ else ⟨1, 0⟩) else inF f s l h
def spO (f s l h : Int) : Fr := if s = 0 then (if l ≤ f ∧ f ≤ h then ⟨1, 0⟩ else ⟨0, 1⟩) else outF f s l h
theorem span_zero (f l h : Int) (a b c d : Int) (k : Gives Try.prog 87 #[.agg #[.int .i64 f, .int .i64 0, .int .i64 l, .int .i64 h]] (.tuple #[.agg #[.int .i64 a, .int .i64 b], .agg #[.int .i64 c, .int .i64 d]])) : Gives Try.prog 53 #[.agg #[.int .i64 f, .int .i64 0, .int .i64 l, .int .i64 h]] (.tuple #[.agg #[.int .i64 a, .int .i64 b], .agg #[.int .i64 c, .int .i64 d]]) := by
  refine Gives.mk fun w => ?_
  go_enter Try.func53, Try.ntmps53
  go_wp2_with (first | (go_at_call 87; first | ((with_reducible refine (k.at_ _).mono ?_); rintro e w' ⟨rfl, xg, rfl⟩)))
  refine bodyPost_ret (v := .tuple #[.agg #[.int .i64 a, .int .i64 b], .agg #[.int .i64 c, .int .i64 d]]) (by simp [results, Try.results53, go_sem]) rfl ⟨rfl, (by repeat (first | with_reducible exact Below.refl _ _ | with_reducible refine bel_then ?_ _ | with_reducible refine bel_grow ?_ _ | with_reducible refine bel_alloc ?_ _ | with_reducible refine bel_drew ?_ | with_reducible refine bel_set ?_ (by simp) _ | with_reducible refine bel_setRow ?_ (by first | omega | (simp; done) | (refine Nat.le_trans ?_ (top_le _ _); simp; done) | (refine Nat.le_succ_of_le (Nat.le_trans ?_ (top_le _ _)); simp; done)) _))⟩
theorem span_pos (f s l h : Int) (bf : -65536 ≤ f ∧ f ≤ 65536) (bs : -32768 ≤ s ∧ s ≤ 32768) (bl : -131072 ≤ l ∧ l ≤ 131072) (bh : -131072 ≤ h ∧ h ≤ 131072) (q : 0 < s) : Gives Try.prog 53 #[.agg #[.int .i64 f, .int .i64 s, .int .i64 l, .int .i64 h]] (.tuple #[.agg #[.int .i64 (l - f), .int .i64 s], .agg #[.int .i64 (h - f), .int .i64 s]]) := by
  refine Gives.mk fun w => ?_
  have q0 : (s == 0) = false := by simp; omega
  have q1 : decide (s < 0) = false := by simp; omega
  have u1 : IntKind.i64.wrap (l - f) = l - f := by rw [IntKind.wrap_i64]; omega
  have u2 : IntKind.i64.wrap (h - f) = h - f := by rw [IntKind.wrap_i64]; omega
  go_enter Try.func53, Try.ntmps53
  go_wp2
  go_region_held3 (fun w' => w'.cell? ⟨w.heap.size, 0, none⟩ = some (.int .i64 f) ∧ w'.cell? ⟨w.heap.size, 1, none⟩ = some (.int .i64 s) ∧ w'.cell? ⟨w.heap.size, 2, none⟩ = some (.int .i64 l) ∧ w'.cell? ⟨w.heap.size, 3, none⟩ = some (.int .i64 h)) (first | go_keep | (simp [go_sem]; done) | (simp [*, go_sem]; done)) (fail)
  all_goals
    go_wp2
    try simp only [u1, u2]
    refine bodyPost_ret (v := .tuple #[.agg #[.int .i64 (l - f), .int .i64 s], .agg #[.int .i64 (h - f), .int .i64 s]]) (by simp [results, Try.results53, go_sem]) rfl ⟨rfl, (by repeat (first | with_reducible exact Below.refl _ _ | with_reducible refine bel_then ?_ _ | with_reducible refine bel_grow ?_ _ | with_reducible refine bel_alloc ?_ _ | with_reducible refine bel_drew ?_ | with_reducible refine bel_set ?_ (by simp) _ | with_reducible refine bel_setRow ?_ (by first | omega | (simp; done) | (refine Nat.le_trans ?_ (top_le _ _); simp; done) | (refine Nat.le_succ_of_le (Nat.le_trans ?_ (top_le _ _)); simp; done)) _))⟩
theorem span_neg (f s l h : Int) (bf : -65536 ≤ f ∧ f ≤ 65536) (bs : -32768 ≤ s ∧ s ≤ 32768) (bl : -131072 ≤ l ∧ l ≤ 131072) (bh : -131072 ≤ h ∧ h ≤ 131072) (q : s < 0) : Gives Try.prog 53 #[.agg #[.int .i64 f, .int .i64 s, .int .i64 l, .int .i64 h]] (.tuple #[.agg #[.int .i64 (f - h), .int .i64 (-s)], .agg #[.int .i64 (f - l), .int .i64 (-s)]]) := by
  refine Gives.mk fun w => ?_
  have q0 : (s == 0) = false := by simp; omega
  have e1 : -h - -f = f - h := by omega
  have u1 : IntKind.i64.wrap (f - h) = f - h := by rw [IntKind.wrap_i64]; omega
  have u2 : IntKind.i64.wrap (f - l) = f - l := by rw [IntKind.wrap_i64]; omega
  have e2 : -l - -f = f - l := by omega
  go_enter Try.func53, Try.ntmps53
  go_wp2
  go_region_held3 (fun w' => w'.cell? ⟨w.heap.size, 0, none⟩ = some (.int .i64 (-f)) ∧ w'.cell? ⟨w.heap.size, 1, none⟩ = some (.int .i64 (-s)) ∧ w'.cell? ⟨w.heap.size, 2, none⟩ = some (.int .i64 (-h)) ∧ w'.cell? ⟨w.heap.size, 3, none⟩ = some (.int .i64 (-l))) (first | go_keep | (simp [go_sem]; done) | (simp [*, go_sem]; done)) (fail)
  all_goals
    go_wp2
    try simp only [u1, u2]
    refine bodyPost_ret (v := .tuple #[.agg #[.int .i64 (f - h), .int .i64 (-s)], .agg #[.int .i64 (f - l), .int .i64 (-s)]]) (by simp [results, Try.results53, go_sem]) rfl ⟨rfl, (by repeat (first | with_reducible exact Below.refl _ _ | with_reducible refine bel_then ?_ _ | with_reducible refine bel_grow ?_ _ | with_reducible refine bel_alloc ?_ _ | with_reducible refine bel_drew ?_ | with_reducible refine bel_set ?_ (by simp) _ | with_reducible refine bel_setRow ?_ (by first | omega | (simp; done) | (refine Nat.le_trans ?_ (top_le _ _); simp; done) | (refine Nat.le_succ_of_le (Nat.le_trans ?_ (top_le _ _)); simp; done)) _))⟩
end Go.Proofs.Ythadlpkdfnonjaa
namespace Go.Proofs.Ythadlpkdfnonjaa
open Go.RowKit
set_option linter.unusedVariables false
set_option linter.unusedSimpArgs false
theorem spI_small {f s l h : Int} (bf : -65536 ≤ f ∧ f ≤ 65536) (bs : -32768 ≤ s ∧ s ≤ 32768) (bl : -131072 ≤ l ∧ l ≤ 131072) (bh : -131072 ≤ h ∧ h ≤ 131072) : (smallF (spI f s l h) ∧ RightF (spI f s l h)) ∧ smallF (spO f s l h) ∧ RightF (spO f s l h) := by
  obtain ⟨i1, i2⟩ := in_small bf bs bl bh
  unfold spI spO
  by_cases hs : s = 0
  · rw [if_pos hs, if_pos hs]
    split
    · exact ⟨⟨by unfold smallF; simp, .inl (by decide)⟩, by unfold smallF; simp, .inr ⟨rfl, rfl⟩⟩
    · exact ⟨⟨by unfold smallF; simp, .inr ⟨rfl, rfl⟩⟩, by unfold smallF; simp, .inl (by decide)⟩
  · rw [if_neg hs, if_neg hs]
    exact ⟨⟨i1, .inl (inF_d hs)⟩, i2, .inl (outF_d hs)⟩
theorem span_any (f s l h : Int) (bf : -65536 ≤ f ∧ f ≤ 65536) (bs : -32768 ≤ s ∧ s ≤ 32768) (bl : -131072 ≤ l ∧ l ≤ 131072) (bh : -131072 ≤ h ∧ h ≤ 131072) : Gives Try.prog 53 #[.agg #[.int .i64 f, .int .i64 s, .int .i64 l, .int .i64 h]] (.tuple #[.agg #[.int .i64 (spI f s l h).n, .int .i64 (spI f s l h).d], .agg #[.int .i64 (spO f s l h).n, .int .i64 (spO f s l h).d]]) := by
  unfold spI spO inF outF
  by_cases hs : s = 0
  · subst hs
    rw [if_pos rfl, if_pos rfl]
    by_cases q1 : l ≤ f
    · by_cases q2 : f ≤ h
      · rw [if_pos ⟨q1, q2⟩, if_pos ⟨q1, q2⟩]
        exact span_zero f l h 0 1 1 0 (still_yes f 0 l h q1 q2)
      · rw [if_neg (by omega), if_neg (by omega)]
        exact span_zero f l h 1 0 0 1 (still_nob f 0 l h q1 (by omega))
    · rw [if_neg (by omega), if_neg (by omega)]
      exact span_zero f l h 1 0 0 1 (still_noa f 0 l h (by omega))
  · rw [if_neg hs, if_neg hs]
    by_cases hp : 0 < s
    · rw [if_pos hp, if_pos hp]
      exact span_pos f s l h bf bs bl bh hp
    · rw [if_neg hp, if_neg hp]
      exact span_neg f s l h bf bs bl bh (by omega)
/-- The program's range so far. -/
def stC (o d l h : P3) : Nat → Fr × Fr
  | 0 => (⟨0, 1⟩, ⟨1, 0⟩)
  | k + 1 => (if ltF (stC o d l h k).1 (spI (pick3 o k) (pick3 d k) (pick3 l k) (pick3 h k)) then spI (pick3 o k) (pick3 d k) (pick3 l k) (pick3 h k) else (stC o d l h k).1,
     if ltF (spO (pick3 o k) (pick3 d k) (pick3 l k) (pick3 h k)) (stC o d l h k).2 then spO (pick3 o k) (pick3 d k) (pick3 l k) (pick3 h k) else (stC o d l h k).2)
def rangeC (o d l h : P3) : Option (Fr × Fr) := lastR (some (stC o d l h 3))
theorem slRange_out (o d l h : P3) (b : Gives Try.prog 52 #[.agg #[.int .i64 o.x, .int .i64 o.y, .int .i64 o.z], .agg #[.int .i64 d.x, .int .i64 d.y, .int .i64 d.z], .agg #[.int .i64 l.x, .int .i64 l.y, .int .i64 l.z, .int .i64 h.x, .int .i64 h.y, .int .i64 h.z]] (.bool false)) : Gives Try.prog 26 #[.agg #[.int .i64 o.x, .int .i64 o.y, .int .i64 o.z], .agg #[.int .i64 d.x, .int .i64 d.y, .int .i64 d.z], .agg #[.int .i64 l.x, .int .i64 l.y, .int .i64 l.z, .int .i64 h.x, .int .i64 h.y, .int .i64 h.z]] (.tuple #[.agg #[.int .i64 0, .int .i64 0], .agg #[.int .i64 0, .int .i64 0], .bool false, .int .i64 21]) := by
  refine Gives.mk fun w => ?_
  go_enter Try.func26, Try.ntmps26
  go_wp2_with (first | (go_at_call 52; first | ((with_reducible refine (b.at_ _).mono ?_); rintro e w' ⟨rfl, xg, rfl⟩)))
  refine bodyPost_ret (v := .tuple #[.agg #[.int .i64 0, .int .i64 0], .agg #[.int .i64 0, .int .i64 0], .bool false, .int .i64 21]) (by simp [results, Try.results26, go_sem]) rfl ⟨rfl, (by repeat (first | with_reducible exact Below.refl _ _ | with_reducible refine bel_then ?_ _ | with_reducible refine bel_grow ?_ _ | with_reducible refine bel_alloc ?_ _ | with_reducible refine bel_drew ?_ | with_reducible refine bel_set ?_ (by simp) _ | with_reducible refine bel_setRow ?_ (by first | omega | (simp; done) | (refine Nat.le_trans ?_ (top_le _ _); simp; done) | (refine Nat.le_succ_of_le (Nat.le_trans ?_ (top_le _ _)); simp; done)) _))⟩
theorem ne_far {W : World} {g : Nat} (h : g < W.heap.size) (o : Obj) (x : More) (n : Nat) : g ≠ (grow (W.alloc o) x).heap.size + n := by
  have k := top_le (W.alloc o) x
  rw [World.size_alloc] at k
  rw [grow_size]
  omega
theorem ne_far0 {W : World} {g : Nat} (h : g < W.heap.size) (o : Obj) (x : More) : g ≠ (grow (W.alloc o) x).heap.size := ne_far h o x 0
theorem infoF : (Try.prog.info? 70).map (·.size) = some 2 := by kernel_rfl
theorem Blk.set0 {W : World} {g : Nat} {t : TypeId} {x y u : Value} (h : Blk W g t #[x, y]) : Blk (W.setCell ⟨g, 0, none⟩ u) g t #[u, y] := h.set 0 u
theorem Blk.set1 {W : World} {g : Nat} {t : TypeId} {x y u : Value} (h : Blk W g t #[x, y]) : Blk (W.setCell ⟨g, 1, none⟩ u) g t #[x, u] := h.set 1 u
theorem Blk.far_ {W : World} {g : Nat} {t : TypeId} {cs : Array Value} {b : Nat} (hb : b ≠ g) (i : Nat) (u : Value) (h : Blk W g t cs) : Blk (W.setCell ⟨b, i, none⟩ u) g t cs := h.far i u hb
theorem Blk.farRow_ {W : World} {g : Nat} {t : TypeId} {cs : Array Value} {b : Nat} (hb : b ≠ g) (cs' : Array Value) (h : Blk W g t cs) : Blk (W.setRow b cs') g t cs := h.farRow cs' hb
/-! a block with a fraction in it: loads and stores of the whole -/
theorem wpF_store {ops : Array Oper} {rest : List Oper} {op : Oper} {a : Act} {w : World} {Q : Exit → Act → World → Prop} (hgd : op.guard = none) (x y : Operand) (ho : op.op = .store 70 x y)
    (g : Nat) (hx : a.eval x = .pointer (some ⟨g, 0, none⟩)) (m n : Int) (hy : a.eval y = .agg #[.int .i64 m, .int .i64 n]) (m' n' : Int) (hb : Blk w g 70 #[.int .i64 m', .int .i64 n'])
    (h : wpList Try.prog ops Q rest (a.put op.dst undef) (w.setRow g #[.int .i64 m, .int .i64 n])) : wpList Try.prog ops Q (op :: rest) a w :=
  wpList_store_row hgd 70 x y ho g _ hx hy 70 _ hb infoF rfl (by simp [Value.oneCell']) h
theorem idx0 (a : Act) (o : Oper) (x i : Operand) (w : World) (ho : o.op = .index 115 x i) (c0 c1 c2 c3 c4 c5 c6 c7 c8 c9 c10 c11 : Int) (hx : a.eval x = .agg #[.int .i64 c0, .int .i64 c1, .int .i64 c2, .int .i64 c3, .int .i64 c4, .int .i64 c5, .int .i64 c6, .int .i64 c7, .int .i64 c8, .int .i64 c9, .int .i64 c10, .int .i64 c11]) (hi : a.eval i = .int .i64 0) : (execOp a.eval o).run Try.prog w = .ok (.value (.agg #[.int .i64 c0, .int .i64 c1, .int .i64 c2, .int .i64 c3])) w := by
  unfold execOp
  rw [ho]
  simp only [hx, hi]
  kernel_rfl
theorem idx1 (a : Act) (o : Oper) (x i : Operand) (w : World) (ho : o.op = .index 115 x i) (c0 c1 c2 c3 c4 c5 c6 c7 c8 c9 c10 c11 : Int) (hx : a.eval x = .agg #[.int .i64 c0, .int .i64 c1, .int .i64 c2, .int .i64 c3, .int .i64 c4, .int .i64 c5, .int .i64 c6, .int .i64 c7, .int .i64 c8, .int .i64 c9, .int .i64 c10, .int .i64 c11]) (hi : a.eval i = .int .i64 1) : (execOp a.eval o).run Try.prog w = .ok (.value (.agg #[.int .i64 c4, .int .i64 c5, .int .i64 c6, .int .i64 c7])) w := by
  unfold execOp
  rw [ho]
  simp only [hx, hi]
  kernel_rfl
theorem idx2 (a : Act) (o : Oper) (x i : Operand) (w : World) (ho : o.op = .index 115 x i) (c0 c1 c2 c3 c4 c5 c6 c7 c8 c9 c10 c11 : Int) (hx : a.eval x = .agg #[.int .i64 c0, .int .i64 c1, .int .i64 c2, .int .i64 c3, .int .i64 c4, .int .i64 c5, .int .i64 c6, .int .i64 c7, .int .i64 c8, .int .i64 c9, .int .i64 c10, .int .i64 c11]) (hi : a.eval i = .int .i64 2) : (execOp a.eval o).run Try.prog w = .ok (.value (.agg #[.int .i64 c8, .int .i64 c9, .int .i64 c10, .int .i64 c11])) w := by
  unfold execOp
  rw [ho]
  simp only [hx, hi]
  kernel_rfl
/-- What is answered of a range. -/
def rv (r : Option (Fr × Fr)) : Fr × Fr × Bool :=
  match r with
  | none => (⟨0, 0⟩, ⟨0, 0⟩, false)
  | some (a, b) => (a, b, true)
set_option maxRecDepth 100000 in
set_option maxHeartbeats 20000000 in
theorem slRange_core (o d l h : P3) (ho : Sp o) (hd : Dr d) (hl : InP 131072 l) (hh : InP 131072 h) (b : Gives Try.prog 52 #[.agg #[.int .i64 o.x, .int .i64 o.y, .int .i64 o.z], .agg #[.int .i64 d.x, .int .i64 d.y, .int .i64 d.z], .agg #[.int .i64 l.x, .int .i64 l.y, .int .i64 l.z, .int .i64 h.x, .int .i64 h.y, .int .i64 h.z]] (.bool true)) (R1 R2 : Fr) (R3 : Bool) (hR : rv (rangeC o d l h) = (R1, R2, R3)) : Gives Try.prog 26 #[.agg #[.int .i64 o.x, .int .i64 o.y, .int .i64 o.z], .agg #[.int .i64 d.x, .int .i64 d.y, .int .i64 d.z], .agg #[.int .i64 l.x, .int .i64 l.y, .int .i64 l.z, .int .i64 h.x, .int .i64 h.y, .int .i64 h.z]] (.tuple #[.agg #[.int .i64 R1.n, .int .i64 R1.d], .agg #[.int .i64 R2.n, .int .i64 R2.d], .bool R3, .int .i64 0]) := by
  refine Gives.mk fun w => ?_
  have HR := Lib.hid hR
  clear hR
  go_enter Try.func26, Try.ntmps26
  go_wp2_with (first | (go_at_call 52; first | ((with_reducible refine (b.at_ _).mono ?_); rintro e w' ⟨rfl, xg, rfl⟩)))
  have g0 : w.heap.size + 1 + 1 + 1 + 1 + 1 ≤ (grow (((((w.alloc (.cells #[.int .i64 o.x, .int .i64 o.y, .int .i64 o.z] 23)).alloc (.cells #[.int .i64 d.x, .int .i64 d.y, .int .i64 d.z] 23)).alloc (.cells #[.int .i64 l.x, .int .i64 l.y, .int .i64 l.z, .int .i64 h.x, .int .i64 h.y, .int .i64 h.z] 43)).alloc (.cells #[.int .i64 0, .int .i64 0] 70)).alloc (.cells #[.int .i64 0, .int .i64 0] 70)) xg).heap.size := Nat.le_trans (Nat.le_of_eq (by simp)) (top_le _ _)
  have B1 : Blk ((((grow (((((w.alloc (.cells #[.int .i64 o.x, .int .i64 o.y, .int .i64 o.z] 23)).alloc (.cells #[.int .i64 d.x, .int .i64 d.y, .int .i64 d.z] 23)).alloc (.cells #[.int .i64 l.x, .int .i64 l.y, .int .i64 l.z, .int .i64 h.x, .int .i64 h.y, .int .i64 h.z] 43)).alloc (.cells #[.int .i64 0, .int .i64 0] 70)).alloc (.cells #[.int .i64 0, .int .i64 0] 70)) xg).alloc (.cells #[.int .i64 o.x, .int .i64 d.x, .int .i64 l.x, .int .i64 h.x, .int .i64 o.y, .int .i64 d.y, .int .i64 l.y, .int .i64 h.y, .int .i64 o.z, .int .i64 d.z, .int .i64 l.z, .int .i64 h.z] 115)).alloc (.cells #[.int .i64 0, .int .i64 1] 70)).alloc (.cells #[.int .i64 1, .int .i64 0] 70)) ((grow (((((w.alloc (.cells #[.int .i64 o.x, .int .i64 o.y, .int .i64 o.z] 23)).alloc (.cells #[.int .i64 d.x, .int .i64 d.y, .int .i64 d.z] 23)).alloc (.cells #[.int .i64 l.x, .int .i64 l.y, .int .i64 l.z, .int .i64 h.x, .int .i64 h.y, .int .i64 h.z] 43)).alloc (.cells #[.int .i64 0, .int .i64 0] 70)).alloc (.cells #[.int .i64 0, .int .i64 0] 70)) xg).heap.size + 1) 70 #[.int .i64 0, .int .i64 1] := Blk.alloc (Blk.new _ _ _ _ (by simp)) _
  have B2 : Blk ((((grow (((((w.alloc (.cells #[.int .i64 o.x, .int .i64 o.y, .int .i64 o.z] 23)).alloc (.cells #[.int .i64 d.x, .int .i64 d.y, .int .i64 d.z] 23)).alloc (.cells #[.int .i64 l.x, .int .i64 l.y, .int .i64 l.z, .int .i64 h.x, .int .i64 h.y, .int .i64 h.z] 43)).alloc (.cells #[.int .i64 0, .int .i64 0] 70)).alloc (.cells #[.int .i64 0, .int .i64 0] 70)) xg).alloc (.cells #[.int .i64 o.x, .int .i64 d.x, .int .i64 l.x, .int .i64 h.x, .int .i64 o.y, .int .i64 d.y, .int .i64 l.y, .int .i64 h.y, .int .i64 o.z, .int .i64 d.z, .int .i64 l.z, .int .i64 h.z] 115)).alloc (.cells #[.int .i64 0, .int .i64 1] 70)).alloc (.cells #[.int .i64 1, .int .i64 0] 70)) ((grow (((((w.alloc (.cells #[.int .i64 o.x, .int .i64 o.y, .int .i64 o.z] 23)).alloc (.cells #[.int .i64 d.x, .int .i64 d.y, .int .i64 d.z] 23)).alloc (.cells #[.int .i64 l.x, .int .i64 l.y, .int .i64 l.z, .int .i64 h.x, .int .i64 h.y, .int .i64 h.z] 43)).alloc (.cells #[.int .i64 0, .int .i64 0] 70)).alloc (.cells #[.int .i64 0, .int .i64 0] 70)) xg).heap.size + 1 + 1) 70 #[.int .i64 1, .int .i64 0] := Blk.new _ _ _ _ (by simp)
  have B3 : Blk ((((grow (((((w.alloc (.cells #[.int .i64 o.x, .int .i64 o.y, .int .i64 o.z] 23)).alloc (.cells #[.int .i64 d.x, .int .i64 d.y, .int .i64 d.z] 23)).alloc (.cells #[.int .i64 l.x, .int .i64 l.y, .int .i64 l.z, .int .i64 h.x, .int .i64 h.y, .int .i64 h.z] 43)).alloc (.cells #[.int .i64 0, .int .i64 0] 70)).alloc (.cells #[.int .i64 0, .int .i64 0] 70)) xg).alloc (.cells #[.int .i64 o.x, .int .i64 d.x, .int .i64 l.x, .int .i64 h.x, .int .i64 o.y, .int .i64 d.y, .int .i64 l.y, .int .i64 h.y, .int .i64 o.z, .int .i64 d.z, .int .i64 l.z, .int .i64 h.z] 115)).alloc (.cells #[.int .i64 0, .int .i64 1] 70)).alloc (.cells #[.int .i64 1, .int .i64 0] 70)) (w.heap.size + 1 + 1 + 1) 70 #[.int .i64 0, .int .i64 0] := Blk.alloc (Blk.alloc (Blk.alloc (Blk.grow (Blk.alloc (Blk.new _ _ _ _ (by simp)) _) _) _) _) _
  have B4 : Blk ((((grow (((((w.alloc (.cells #[.int .i64 o.x, .int .i64 o.y, .int .i64 o.z] 23)).alloc (.cells #[.int .i64 d.x, .int .i64 d.y, .int .i64 d.z] 23)).alloc (.cells #[.int .i64 l.x, .int .i64 l.y, .int .i64 l.z, .int .i64 h.x, .int .i64 h.y, .int .i64 h.z] 43)).alloc (.cells #[.int .i64 0, .int .i64 0] 70)).alloc (.cells #[.int .i64 0, .int .i64 0] 70)) xg).alloc (.cells #[.int .i64 o.x, .int .i64 d.x, .int .i64 l.x, .int .i64 h.x, .int .i64 o.y, .int .i64 d.y, .int .i64 l.y, .int .i64 h.y, .int .i64 o.z, .int .i64 d.z, .int .i64 l.z, .int .i64 h.z] 115)).alloc (.cells #[.int .i64 0, .int .i64 1] 70)).alloc (.cells #[.int .i64 1, .int .i64 0] 70)) (w.heap.size + 1 + 1 + 1 + 1) 70 #[.int .i64 0, .int .i64 0] := Blk.alloc (Blk.alloc (Blk.alloc (Blk.grow (Blk.new _ _ _ _ (by simp)) _) _) _) _
  have HB : Below w.heap.size w ((((grow (((((w.alloc (.cells #[.int .i64 o.x, .int .i64 o.y, .int .i64 o.z] 23)).alloc (.cells #[.int .i64 d.x, .int .i64 d.y, .int .i64 d.z] 23)).alloc (.cells #[.int .i64 l.x, .int .i64 l.y, .int .i64 l.z, .int .i64 h.x, .int .i64 h.y, .int .i64 h.z] 43)).alloc (.cells #[.int .i64 0, .int .i64 0] 70)).alloc (.cells #[.int .i64 0, .int .i64 0] 70)) xg).alloc (.cells #[.int .i64 o.x, .int .i64 d.x, .int .i64 l.x, .int .i64 h.x, .int .i64 o.y, .int .i64 d.y, .int .i64 l.y, .int .i64 h.y, .int .i64 o.z, .int .i64 d.z, .int .i64 l.z, .int .i64 h.z] 115)).alloc (.cells #[.int .i64 0, .int .i64 1] 70)).alloc (.cells #[.int .i64 1, .int .i64 0] 70)) := (by repeat (first | with_reducible exact Below.refl _ _ | with_reducible refine bel_then ?_ _ | with_reducible refine bel_grow ?_ _ | with_reducible refine bel_alloc ?_ _ | with_reducible refine bel_drew ?_ | with_reducible refine bel_set ?_ (by simp) _ | with_reducible refine bel_setRow ?_ (by first | omega | (simp; done) | (refine Nat.le_trans ?_ (top_le _ _); simp; done) | (refine Nat.le_succ_of_le (Nat.le_trans ?_ (top_le _ _)); simp; done)) _))
  generalize (grow (((((w.alloc (.cells #[.int .i64 o.x, .int .i64 o.y, .int .i64 o.z] 23)).alloc (.cells #[.int .i64 d.x, .int .i64 d.y, .int .i64 d.z] 23)).alloc (.cells #[.int .i64 l.x, .int .i64 l.y, .int .i64 l.z, .int .i64 h.x, .int .i64 h.y, .int .i64 h.z] 43)).alloc (.cells #[.int .i64 0, .int .i64 0] 70)).alloc (.cells #[.int .i64 0, .int .i64 0] 70)) xg).heap.size = G at *
  generalize ((((grow (((((w.alloc (.cells #[.int .i64 o.x, .int .i64 o.y, .int .i64 o.z] 23)).alloc (.cells #[.int .i64 d.x, .int .i64 d.y, .int .i64 d.z] 23)).alloc (.cells #[.int .i64 l.x, .int .i64 l.y, .int .i64 l.z, .int .i64 h.x, .int .i64 h.y, .int .i64 h.z] 43)).alloc (.cells #[.int .i64 0, .int .i64 0] 70)).alloc (.cells #[.int .i64 0, .int .i64 0] 70)) xg).alloc (.cells #[.int .i64 o.x, .int .i64 d.x, .int .i64 l.x, .int .i64 h.x, .int .i64 o.y, .int .i64 d.y, .int .i64 l.y, .int .i64 h.y, .int .i64 o.z, .int .i64 d.z, .int .i64 l.z, .int .i64 h.z] 115)).alloc (.cells #[.int .i64 0, .int .i64 1] 70)).alloc (.cells #[.int .i64 1, .int .i64 0] 70)) = W at *
  clear xg
  have hne : G + 1 ≠ G + 1 + 1 := by omega
  have hr1 : w.heap.size ≤ G + 1 := by omega
  have hr2 : w.heap.size ≤ G + 1 + 1 := by omega
  have hr3 : w.heap.size + 1 + 1 + 1 ≠ G + 1 := by omega
  have hr4 : w.heap.size + 1 + 1 + 1 + 1 ≠ G + 1 := by omega
  have hr5 : w.heap.size + 1 + 1 + 1 ≠ G + 1 + 1 := by omega
  have hr6 : w.heap.size + 1 + 1 + 1 + 1 ≠ G + 1 + 1 := by omega
  generalize G + 1 + 1 = g2 at *
  generalize G + 1 = g1 at *
  go_loopw [61] (fun i wr => ∃ (k : Nat) (v : Int) (a b : Fr), i = .int .i64 v ∧ v = (k : Int) ∧ k ≤ 3 ∧ Hid (stC o d l h k = (a, b)) ∧ ((smallF a ∧ RightF a) ∧ smallF b ∧ RightF b) ∧ (Blk wr g1 70 #[.int .i64 a.n, .int .i64 a.d] ∧ Blk wr g2 70 #[.int .i64 b.n, .int .i64 b.d] ∧ Blk wr (w.heap.size + 1 + 1 + 1) 70 #[.int .i64 0, .int .i64 0] ∧ Blk wr (w.heap.size + 1 + 1 + 1 + 1) 70 #[.int .i64 0, .int .i64 0]) ∧ Below w.heap.size w wr) (fun i _ => (3 - intOf i).toNat)
  case atStart => exact ⟨0, 0, ⟨0, 1⟩, ⟨1, 0⟩, rfl, rfl, by omega, Lib.hid rfl, ⟨⟨by unfold smallF; simp, .inl (by decide)⟩, by unfold smallF; simp, .inr ⟨rfl, rfl⟩⟩, ⟨B1, B2, B3, B4⟩, HB⟩
  case round =>
    clear B1 B2 B3 B4 HB
    obtain ⟨k, v, a, b, rfl, hv, hk, hst, ⟨⟨sa, ra⟩, sb', rb⟩, ⟨hb1, hb2, hb3, hb4⟩, hbel⟩ := hrel
    have hk4 : (k = 0 ∧ v = 0) ∨ (k = 1 ∧ v = 1) ∨ (k = 2 ∧ v = 2) ∨ (k = 3 ∧ v = 3) := by omega
    clear hv hk
    rcases hk4 with ⟨rfl, rfl⟩ | ⟨rfl, rfl⟩ | ⟨rfl, rfl⟩ | ⟨rfl, rfl⟩
    · obtain ⟨⟨is_, ir⟩, us, ur⟩ := spI_small (f := o.x) (s := d.x) (l := l.x) (h := h.x) ho.1 hd.1 hl.1 hh.1
      have sp := span_any (o.x) (d.x) (l.x) (h.x) ho.1 hd.1 hl.1 hh.1
      have hnext : stC o d l h 1 = (if ltF a (spI (o.x) (d.x) (l.x) (h.x)) then spI (o.x) (d.x) (l.x) (h.x) else a, if ltF (spO (o.x) (d.x) (l.x) (h.x)) b then spO (o.x) (d.x) (l.x) (h.x) else b) := by
        show (if ltF (stC o d l h 0).1 _ then _ else (stC o d l h 0).1, if ltF _ (stC o d l h 0).2 then _ else (stC o d l h 0).2) = _
        rw [hst.out]; rfl
      generalize spI (o.x) (d.x) (l.x) (h.x) = I at *
      generalize spO (o.x) (d.x) (l.x) (h.x) = O at *
      have ab1 := above_any I a (smallF_in is_) (smallF_in sa) ir ra
      have ab2 := above_any b O (smallF_in sb') (smallF_in us) rb ur
      replace hnext := Lib.hid hnext
      clear hst HR
      go_upto_region 9 with (first | (go_at_call 53; first | ((with_reducible refine (sp.at_ _).mono ?_); rintro e w' ⟨rfl, xg, rfl⟩)) | (refine wpList_val rfl _ _ (idx0 _ _ _ _ _ rfl _ _ _ _ _ _ _ _ _ _ _ _ rfl rfl) ?_))
      have C1 : Blk (((grow (wr.alloc (.cells #[.int .i64 o.x, .int .i64 d.x, .int .i64 l.x, .int .i64 h.x] 114)) xg).alloc (.cells #[.int .i64 I.n, .int .i64 I.d] 70)).alloc (.cells #[.int .i64 O.n, .int .i64 O.d] 70)) g1 70 #[.int .i64 a.n, .int .i64 a.d] := (by repeat (first | with_reducible exact hb1 | with_reducible exact hb2 | with_reducible exact hb3 | with_reducible exact hb4 | with_reducible exact Blk.new _ _ _ _ rfl | (with_reducible refine Blk.new _ _ _ _ ?_; simp; done) | with_reducible refine Blk.alloc ?_ _ | with_reducible refine Blk.grow ?_ _ | with_reducible apply Blk.setRow | with_reducible apply Blk.set0 | with_reducible apply Blk.set1 | (with_reducible refine Blk.far_ ?_ _ _ ?_; (first | exact hne | exact Ne.symm hne | exact ne_far hb1.lt _ _ _ | exact ne_far0 hb1.lt _ _ | exact ne_far hb2.lt _ _ _ | exact ne_far0 hb2.lt _ _ | exact ne_far hb3.lt _ _ _ | exact ne_far hb4.lt _ _ _ | omega)) | (with_reducible refine Blk.farRow_ ?_ _ ?_; (first | exact hne | exact Ne.symm hne | exact ne_far hb1.lt _ _ _ | exact ne_far0 hb1.lt _ _ | exact ne_far hb2.lt _ _ _ | exact ne_far0 hb2.lt _ _ | exact ne_far hb3.lt _ _ _ | exact ne_far hb4.lt _ _ _ | omega))))
      have C2 : Blk (((grow (wr.alloc (.cells #[.int .i64 o.x, .int .i64 d.x, .int .i64 l.x, .int .i64 h.x] 114)) xg).alloc (.cells #[.int .i64 I.n, .int .i64 I.d] 70)).alloc (.cells #[.int .i64 O.n, .int .i64 O.d] 70)) g2 70 #[.int .i64 b.n, .int .i64 b.d] := (by repeat (first | with_reducible exact hb1 | with_reducible exact hb2 | with_reducible exact hb3 | with_reducible exact hb4 | with_reducible exact Blk.new _ _ _ _ rfl | (with_reducible refine Blk.new _ _ _ _ ?_; simp; done) | with_reducible refine Blk.alloc ?_ _ | with_reducible refine Blk.grow ?_ _ | with_reducible apply Blk.setRow | with_reducible apply Blk.set0 | with_reducible apply Blk.set1 | (with_reducible refine Blk.far_ ?_ _ _ ?_; (first | exact hne | exact Ne.symm hne | exact ne_far hb1.lt _ _ _ | exact ne_far0 hb1.lt _ _ | exact ne_far hb2.lt _ _ _ | exact ne_far0 hb2.lt _ _ | exact ne_far hb3.lt _ _ _ | exact ne_far hb4.lt _ _ _ | omega)) | (with_reducible refine Blk.farRow_ ?_ _ ?_; (first | exact hne | exact Ne.symm hne | exact ne_far hb1.lt _ _ _ | exact ne_far0 hb1.lt _ _ | exact ne_far hb2.lt _ _ _ | exact ne_far0 hb2.lt _ _ | exact ne_far hb3.lt _ _ _ | exact ne_far hb4.lt _ _ _ | omega))))
      have C3 : Blk (((grow (wr.alloc (.cells #[.int .i64 o.x, .int .i64 d.x, .int .i64 l.x, .int .i64 h.x] 114)) xg).alloc (.cells #[.int .i64 I.n, .int .i64 I.d] 70)).alloc (.cells #[.int .i64 O.n, .int .i64 O.d] 70)) (w.heap.size + 1 + 1 + 1) 70 #[.int .i64 0, .int .i64 0] := (by repeat (first | with_reducible exact hb1 | with_reducible exact hb2 | with_reducible exact hb3 | with_reducible exact hb4 | with_reducible exact Blk.new _ _ _ _ rfl | (with_reducible refine Blk.new _ _ _ _ ?_; simp; done) | with_reducible refine Blk.alloc ?_ _ | with_reducible refine Blk.grow ?_ _ | with_reducible apply Blk.setRow | with_reducible apply Blk.set0 | with_reducible apply Blk.set1 | (with_reducible refine Blk.far_ ?_ _ _ ?_; (first | exact hne | exact Ne.symm hne | exact ne_far hb1.lt _ _ _ | exact ne_far0 hb1.lt _ _ | exact ne_far hb2.lt _ _ _ | exact ne_far0 hb2.lt _ _ | exact ne_far hb3.lt _ _ _ | exact ne_far hb4.lt _ _ _ | omega)) | (with_reducible refine Blk.farRow_ ?_ _ ?_; (first | exact hne | exact Ne.symm hne | exact ne_far hb1.lt _ _ _ | exact ne_far0 hb1.lt _ _ | exact ne_far hb2.lt _ _ _ | exact ne_far0 hb2.lt _ _ | exact ne_far hb3.lt _ _ _ | exact ne_far hb4.lt _ _ _ | omega))))
      have C4 : Blk (((grow (wr.alloc (.cells #[.int .i64 o.x, .int .i64 d.x, .int .i64 l.x, .int .i64 h.x] 114)) xg).alloc (.cells #[.int .i64 I.n, .int .i64 I.d] 70)).alloc (.cells #[.int .i64 O.n, .int .i64 O.d] 70)) (w.heap.size + 1 + 1 + 1 + 1) 70 #[.int .i64 0, .int .i64 0] := (by repeat (first | with_reducible exact hb1 | with_reducible exact hb2 | with_reducible exact hb3 | with_reducible exact hb4 | with_reducible exact Blk.new _ _ _ _ rfl | (with_reducible refine Blk.new _ _ _ _ ?_; simp; done) | with_reducible refine Blk.alloc ?_ _ | with_reducible refine Blk.grow ?_ _ | with_reducible apply Blk.setRow | with_reducible apply Blk.set0 | with_reducible apply Blk.set1 | (with_reducible refine Blk.far_ ?_ _ _ ?_; (first | exact hne | exact Ne.symm hne | exact ne_far hb1.lt _ _ _ | exact ne_far0 hb1.lt _ _ | exact ne_far hb2.lt _ _ _ | exact ne_far0 hb2.lt _ _ | exact ne_far hb3.lt _ _ _ | exact ne_far hb4.lt _ _ _ | omega)) | (with_reducible refine Blk.farRow_ ?_ _ ?_; (first | exact hne | exact Ne.symm hne | exact ne_far hb1.lt _ _ _ | exact ne_far0 hb1.lt _ _ | exact ne_far hb2.lt _ _ _ | exact ne_far0 hb2.lt _ _ | exact ne_far hb3.lt _ _ _ | exact ne_far hb4.lt _ _ _ | omega))))
      have C5 : Blk (((grow (wr.alloc (.cells #[.int .i64 o.x, .int .i64 d.x, .int .i64 l.x, .int .i64 h.x] 114)) xg).alloc (.cells #[.int .i64 I.n, .int .i64 I.d] 70)).alloc (.cells #[.int .i64 O.n, .int .i64 O.d] 70)) ((grow (wr.alloc (.cells #[.int .i64 o.x, .int .i64 d.x, .int .i64 l.x, .int .i64 h.x] 114)) xg).heap.size) 70 #[.int .i64 I.n, .int .i64 I.d] := (by repeat (first | with_reducible exact hb1 | with_reducible exact hb2 | with_reducible exact hb3 | with_reducible exact hb4 | with_reducible exact Blk.new _ _ _ _ rfl | (with_reducible refine Blk.new _ _ _ _ ?_; simp; done) | with_reducible refine Blk.alloc ?_ _ | with_reducible refine Blk.grow ?_ _ | with_reducible apply Blk.setRow | with_reducible apply Blk.set0 | with_reducible apply Blk.set1 | (with_reducible refine Blk.far_ ?_ _ _ ?_; (first | exact hne | exact Ne.symm hne | exact ne_far hb1.lt _ _ _ | exact ne_far0 hb1.lt _ _ | exact ne_far hb2.lt _ _ _ | exact ne_far0 hb2.lt _ _ | exact ne_far hb3.lt _ _ _ | exact ne_far hb4.lt _ _ _ | omega)) | (with_reducible refine Blk.farRow_ ?_ _ ?_; (first | exact hne | exact Ne.symm hne | exact ne_far hb1.lt _ _ _ | exact ne_far0 hb1.lt _ _ | exact ne_far hb2.lt _ _ _ | exact ne_far0 hb2.lt _ _ | exact ne_far hb3.lt _ _ _ | exact ne_far hb4.lt _ _ _ | omega))))
      have C6 : Blk (((grow (wr.alloc (.cells #[.int .i64 o.x, .int .i64 d.x, .int .i64 l.x, .int .i64 h.x] 114)) xg).alloc (.cells #[.int .i64 I.n, .int .i64 I.d] 70)).alloc (.cells #[.int .i64 O.n, .int .i64 O.d] 70)) ((grow (wr.alloc (.cells #[.int .i64 o.x, .int .i64 d.x, .int .i64 l.x, .int .i64 h.x] 114)) xg).heap.size + 1) 70 #[.int .i64 O.n, .int .i64 O.d] := (by repeat (first | with_reducible exact hb1 | with_reducible exact hb2 | with_reducible exact hb3 | with_reducible exact hb4 | with_reducible exact Blk.new _ _ _ _ rfl | (with_reducible refine Blk.new _ _ _ _ ?_; simp; done) | with_reducible refine Blk.alloc ?_ _ | with_reducible refine Blk.grow ?_ _ | with_reducible apply Blk.setRow | with_reducible apply Blk.set0 | with_reducible apply Blk.set1 | (with_reducible refine Blk.far_ ?_ _ _ ?_; (first | exact hne | exact Ne.symm hne | exact ne_far hb1.lt _ _ _ | exact ne_far0 hb1.lt _ _ | exact ne_far hb2.lt _ _ _ | exact ne_far0 hb2.lt _ _ | exact ne_far hb3.lt _ _ _ | exact ne_far hb4.lt _ _ _ | omega)) | (with_reducible refine Blk.farRow_ ?_ _ ?_; (first | exact hne | exact Ne.symm hne | exact ne_far hb1.lt _ _ _ | exact ne_far0 hb1.lt _ _ | exact ne_far hb2.lt _ _ _ | exact ne_far0 hb2.lt _ _ | exact ne_far hb3.lt _ _ _ | exact ne_far hb4.lt _ _ _ | omega))))
      have CB : Below w.heap.size w (((grow (wr.alloc (.cells #[.int .i64 o.x, .int .i64 d.x, .int .i64 l.x, .int .i64 h.x] 114)) xg).alloc (.cells #[.int .i64 I.n, .int .i64 I.d] 70)).alloc (.cells #[.int .i64 O.n, .int .i64 O.d] 70)) := (by repeat (first | with_reducible exact hbel | with_reducible refine bel_then ?_ _ | with_reducible refine bel_grow ?_ _ | with_reducible refine bel_alloc ?_ _ | with_reducible refine bel_drew ?_ | with_reducible refine bel_set ?_ (by simp) _ | with_reducible refine bel_setRow ?_ (by first | omega | (simp; done) | (refine Nat.le_trans ?_ (top_le _ _); simp; done) | (refine Nat.le_succ_of_le (Nat.le_trans ?_ (top_le _ _)); simp; done)) _))
      have n1 : (grow (wr.alloc (.cells #[.int .i64 o.x, .int .i64 d.x, .int .i64 l.x, .int .i64 h.x] 114)) xg).heap.size ≠ g1 := Ne.symm (ne_far0 hb1.lt _ _)
      have n2 : (grow (wr.alloc (.cells #[.int .i64 o.x, .int .i64 d.x, .int .i64 l.x, .int .i64 h.x] 114)) xg).heap.size ≠ g2 := Ne.symm (ne_far0 hb2.lt _ _)
      have n3 : (grow (wr.alloc (.cells #[.int .i64 o.x, .int .i64 d.x, .int .i64 l.x, .int .i64 h.x] 114)) xg).heap.size + 1 ≠ g1 := Ne.symm (ne_far hb1.lt _ _ 1)
      have n4 : (grow (wr.alloc (.cells #[.int .i64 o.x, .int .i64 d.x, .int .i64 l.x, .int .i64 h.x] 114)) xg).heap.size + 1 ≠ g2 := Ne.symm (ne_far hb2.lt _ _ 1)
      generalize (grow (wr.alloc (.cells #[.int .i64 o.x, .int .i64 d.x, .int .i64 l.x, .int .i64 h.x] 114)) xg).heap.size + 1 = go_ at *
      generalize (grow (wr.alloc (.cells #[.int .i64 o.x, .int .i64 d.x, .int .i64 l.x, .int .i64 h.x] 114)) xg).heap.size = gi at *
      generalize (((grow (wr.alloc (.cells #[.int .i64 o.x, .int .i64 d.x, .int .i64 l.x, .int .i64 h.x] 114)) xg).alloc (.cells #[.int .i64 I.n, .int .i64 I.d] 70)).alloc (.cells #[.int .i64 O.n, .int .i64 O.d] 70)) = V at *
      clear hb1 hb2 hb3 hb4 hbel sp
      have l1 := C1.lt
      have l2 := C2.lt
      have l3 := C3.lt
      have l4 := C4.lt
      have l5 := C5.lt
      have l6 := C6.lt
      have f1 := C1.frozen
      have f2 := C2.frozen
      have c10 := C1.cell 0
      have c11 := C1.cell 1
      have c20 := C2.cell 0
      have c21 := C2.cell 1
      have c50 := C5.cell 0
      have c51 := C5.cell 1
      have c60 := C6.cell 0
      have c61 := C6.cell 1
      simp at c10 c11 c20 c21 c50 c51 c60 c61
      by_cases c1 : ltF a I = true
      · rw [c1] at ab1
        by_cases c2 : ltF O b = true
        · rw [c2] at ab2
          have next := Lib.hid (show stC o d l h 1 = (I, O) by rw [hnext.out, c1, c2]; rfl)
          clear hnext c1 c2
          have GOOD := Lib.hid (show (smallF I ∧ RightF I) ∧ smallF O ∧ RightF O from ⟨⟨is_, ir⟩, us, ur⟩)
          clear is_ ir us ur sa ra sb' rb
          go_wp2_with (first | (go_at_call 54; first | ((with_reducible refine (ab1.at_ _).mono ?_); rintro e w' ⟨rfl, xg, rfl⟩) | ((with_reducible refine (ab2.at_ _).mono ?_); rintro e w' ⟨rfl, xg, rfl⟩)) | (refine wpF_store rfl _ _ rfl _ rfl _ _ rfl ?xm ?xn ?hb ?hk; case hb => (repeat (first | with_reducible exact C1 | with_reducible exact C2 | with_reducible exact C3 | with_reducible exact C4 | with_reducible exact Blk.new _ _ _ _ rfl | (with_reducible refine Blk.new _ _ _ _ ?_; simp; done) | with_reducible refine Blk.alloc ?_ _ | with_reducible refine Blk.grow ?_ _ | with_reducible apply Blk.setRow | with_reducible apply Blk.set0 | with_reducible apply Blk.set1 | (with_reducible refine Blk.far_ ?_ _ _ ?_; (first | exact hne | exact Ne.symm hne | assumption | (refine Ne.symm ?_; assumption))) | (with_reducible refine Blk.farRow_ ?_ _ ?_; (first | exact hne | exact Ne.symm hne | assumption | (refine Ne.symm ?_; assumption)))); done)))
          go_roundw
          case rel => exact ⟨1, 1, I, O, by go_num, by omega, by omega, next, GOOD.out, ⟨(by repeat (first | with_reducible exact C1 | with_reducible exact C2 | with_reducible exact C3 | with_reducible exact C4 | with_reducible exact Blk.new _ _ _ _ rfl | (with_reducible refine Blk.new _ _ _ _ ?_; simp; done) | with_reducible refine Blk.alloc ?_ _ | with_reducible refine Blk.grow ?_ _ | with_reducible apply Blk.setRow | with_reducible apply Blk.set0 | with_reducible apply Blk.set1 | (with_reducible refine Blk.far_ ?_ _ _ ?_; (first | exact hne | exact Ne.symm hne | assumption | (refine Ne.symm ?_; assumption))) | (with_reducible refine Blk.farRow_ ?_ _ ?_; (first | exact hne | exact Ne.symm hne | assumption | (refine Ne.symm ?_; assumption))))), (by repeat (first | with_reducible exact C1 | with_reducible exact C2 | with_reducible exact C3 | with_reducible exact C4 | with_reducible exact Blk.new _ _ _ _ rfl | (with_reducible refine Blk.new _ _ _ _ ?_; simp; done) | with_reducible refine Blk.alloc ?_ _ | with_reducible refine Blk.grow ?_ _ | with_reducible apply Blk.setRow | with_reducible apply Blk.set0 | with_reducible apply Blk.set1 | (with_reducible refine Blk.far_ ?_ _ _ ?_; (first | exact hne | exact Ne.symm hne | assumption | (refine Ne.symm ?_; assumption))) | (with_reducible refine Blk.farRow_ ?_ _ ?_; (first | exact hne | exact Ne.symm hne | assumption | (refine Ne.symm ?_; assumption))))), (by repeat (first | with_reducible exact C1 | with_reducible exact C2 | with_reducible exact C3 | with_reducible exact C4 | with_reducible exact Blk.new _ _ _ _ rfl | (with_reducible refine Blk.new _ _ _ _ ?_; simp; done) | with_reducible refine Blk.alloc ?_ _ | with_reducible refine Blk.grow ?_ _ | with_reducible apply Blk.setRow | with_reducible apply Blk.set0 | with_reducible apply Blk.set1 | (with_reducible refine Blk.far_ ?_ _ _ ?_; (first | exact hne | exact Ne.symm hne | assumption | (refine Ne.symm ?_; assumption))) | (with_reducible refine Blk.farRow_ ?_ _ ?_; (first | exact hne | exact Ne.symm hne | assumption | (refine Ne.symm ?_; assumption))))), (by repeat (first | with_reducible exact C1 | with_reducible exact C2 | with_reducible exact C3 | with_reducible exact C4 | with_reducible exact Blk.new _ _ _ _ rfl | (with_reducible refine Blk.new _ _ _ _ ?_; simp; done) | with_reducible refine Blk.alloc ?_ _ | with_reducible refine Blk.grow ?_ _ | with_reducible apply Blk.setRow | with_reducible apply Blk.set0 | with_reducible apply Blk.set1 | (with_reducible refine Blk.far_ ?_ _ _ ?_; (first | exact hne | exact Ne.symm hne | assumption | (refine Ne.symm ?_; assumption))) | (with_reducible refine Blk.farRow_ ?_ _ ?_; (first | exact hne | exact Ne.symm hne | assumption | (refine Ne.symm ?_; assumption)))))⟩, (by repeat (first | with_reducible exact CB | with_reducible refine bel_then ?_ _ | with_reducible refine bel_grow ?_ _ | with_reducible refine bel_alloc ?_ _ | with_reducible refine bel_drew ?_ | with_reducible refine bel_set ?_ (by first | exact hr1 | exact hr2) _ | with_reducible refine bel_setRow ?_ (by first | exact hr1 | exact hr2 | omega | (simp; done) | (refine Nat.le_trans ?_ (top_le _ _); simp; done) | (refine Nat.le_succ_of_le (Nat.le_trans ?_ (top_le _ _)); simp; done)) _))⟩
          case measure => simp [intOf]
        · have c2 : ltF O b = false := by simpa using c2
          rw [c2] at ab2
          have next := Lib.hid (show stC o d l h 1 = (I, b) by rw [hnext.out, c1, c2]; rfl)
          clear hnext c1 c2
          have GOOD := Lib.hid (show (smallF I ∧ RightF I) ∧ smallF b ∧ RightF b from ⟨⟨is_, ir⟩, sb', rb⟩)
          clear is_ ir us ur sa ra sb' rb
          go_wp2_with (first | (go_at_call 54; first | ((with_reducible refine (ab1.at_ _).mono ?_); rintro e w' ⟨rfl, xg, rfl⟩) | ((with_reducible refine (ab2.at_ _).mono ?_); rintro e w' ⟨rfl, xg, rfl⟩)) | (refine wpF_store rfl _ _ rfl _ rfl _ _ rfl ?xm ?xn ?hb ?hk; case hb => (repeat (first | with_reducible exact C1 | with_reducible exact C2 | with_reducible exact C3 | with_reducible exact C4 | with_reducible exact Blk.new _ _ _ _ rfl | (with_reducible refine Blk.new _ _ _ _ ?_; simp; done) | with_reducible refine Blk.alloc ?_ _ | with_reducible refine Blk.grow ?_ _ | with_reducible apply Blk.setRow | with_reducible apply Blk.set0 | with_reducible apply Blk.set1 | (with_reducible refine Blk.far_ ?_ _ _ ?_; (first | exact hne | exact Ne.symm hne | assumption | (refine Ne.symm ?_; assumption))) | (with_reducible refine Blk.farRow_ ?_ _ ?_; (first | exact hne | exact Ne.symm hne | assumption | (refine Ne.symm ?_; assumption)))); done)))
          go_roundw
          case rel => exact ⟨1, 1, I, b, by go_num, by omega, by omega, next, GOOD.out, ⟨(by repeat (first | with_reducible exact C1 | with_reducible exact C2 | with_reducible exact C3 | with_reducible exact C4 | with_reducible exact Blk.new _ _ _ _ rfl | (with_reducible refine Blk.new _ _ _ _ ?_; simp; done) | with_reducible refine Blk.alloc ?_ _ | with_reducible refine Blk.grow ?_ _ | with_reducible apply Blk.setRow | with_reducible apply Blk.set0 | with_reducible apply Blk.set1 | (with_reducible refine Blk.far_ ?_ _ _ ?_; (first | exact hne | exact Ne.symm hne | assumption | (refine Ne.symm ?_; assumption))) | (with_reducible refine Blk.farRow_ ?_ _ ?_; (first | exact hne | exact Ne.symm hne | assumption | (refine Ne.symm ?_; assumption))))), (by repeat (first | with_reducible exact C1 | with_reducible exact C2 | with_reducible exact C3 | with_reducible exact C4 | with_reducible exact Blk.new _ _ _ _ rfl | (with_reducible refine Blk.new _ _ _ _ ?_; simp; done) | with_reducible refine Blk.alloc ?_ _ | with_reducible refine Blk.grow ?_ _ | with_reducible apply Blk.setRow | with_reducible apply Blk.set0 | with_reducible apply Blk.set1 | (with_reducible refine Blk.far_ ?_ _ _ ?_; (first | exact hne | exact Ne.symm hne | assumption | (refine Ne.symm ?_; assumption))) | (with_reducible refine Blk.farRow_ ?_ _ ?_; (first | exact hne | exact Ne.symm hne | assumption | (refine Ne.symm ?_; assumption))))), (by repeat (first | with_reducible exact C1 | with_reducible exact C2 | with_reducible exact C3 | with_reducible exact C4 | with_reducible exact Blk.new _ _ _ _ rfl | (with_reducible refine Blk.new _ _ _ _ ?_; simp; done) | with_reducible refine Blk.alloc ?_ _ | with_reducible refine Blk.grow ?_ _ | with_reducible apply Blk.setRow | with_reducible apply Blk.set0 | with_reducible apply Blk.set1 | (with_reducible refine Blk.far_ ?_ _ _ ?_; (first | exact hne | exact Ne.symm hne | assumption | (refine Ne.symm ?_; assumption))) | (with_reducible refine Blk.farRow_ ?_ _ ?_; (first | exact hne | exact Ne.symm hne | assumption | (refine Ne.symm ?_; assumption))))), (by repeat (first | with_reducible exact C1 | with_reducible exact C2 | with_reducible exact C3 | with_reducible exact C4 | with_reducible exact Blk.new _ _ _ _ rfl | (with_reducible refine Blk.new _ _ _ _ ?_; simp; done) | with_reducible refine Blk.alloc ?_ _ | with_reducible refine Blk.grow ?_ _ | with_reducible apply Blk.setRow | with_reducible apply Blk.set0 | with_reducible apply Blk.set1 | (with_reducible refine Blk.far_ ?_ _ _ ?_; (first | exact hne | exact Ne.symm hne | assumption | (refine Ne.symm ?_; assumption))) | (with_reducible refine Blk.farRow_ ?_ _ ?_; (first | exact hne | exact Ne.symm hne | assumption | (refine Ne.symm ?_; assumption)))))⟩, (by repeat (first | with_reducible exact CB | with_reducible refine bel_then ?_ _ | with_reducible refine bel_grow ?_ _ | with_reducible refine bel_alloc ?_ _ | with_reducible refine bel_drew ?_ | with_reducible refine bel_set ?_ (by first | exact hr1 | exact hr2) _ | with_reducible refine bel_setRow ?_ (by first | exact hr1 | exact hr2 | omega | (simp; done) | (refine Nat.le_trans ?_ (top_le _ _); simp; done) | (refine Nat.le_succ_of_le (Nat.le_trans ?_ (top_le _ _)); simp; done)) _))⟩
          case measure => simp [intOf]
      · have c1 : ltF a I = false := by simpa using c1
        rw [c1] at ab1
        by_cases c2 : ltF O b = true
        · rw [c2] at ab2
          have next := Lib.hid (show stC o d l h 1 = (a, O) by rw [hnext.out, c1, c2]; rfl)
          clear hnext c1 c2
          have GOOD := Lib.hid (show (smallF a ∧ RightF a) ∧ smallF O ∧ RightF O from ⟨⟨sa, ra⟩, us, ur⟩)
          clear is_ ir us ur sa ra sb' rb
          go_wp2_with (first | (go_at_call 54; first | ((with_reducible refine (ab1.at_ _).mono ?_); rintro e w' ⟨rfl, xg, rfl⟩) | ((with_reducible refine (ab2.at_ _).mono ?_); rintro e w' ⟨rfl, xg, rfl⟩)) | (refine wpF_store rfl _ _ rfl _ rfl _ _ rfl ?xm ?xn ?hb ?hk; case hb => (repeat (first | with_reducible exact C1 | with_reducible exact C2 | with_reducible exact C3 | with_reducible exact C4 | with_reducible exact Blk.new _ _ _ _ rfl | (with_reducible refine Blk.new _ _ _ _ ?_; simp; done) | with_reducible refine Blk.alloc ?_ _ | with_reducible refine Blk.grow ?_ _ | with_reducible apply Blk.setRow | with_reducible apply Blk.set0 | with_reducible apply Blk.set1 | (with_reducible refine Blk.far_ ?_ _ _ ?_; (first | exact hne | exact Ne.symm hne | assumption | (refine Ne.symm ?_; assumption))) | (with_reducible refine Blk.farRow_ ?_ _ ?_; (first | exact hne | exact Ne.symm hne | assumption | (refine Ne.symm ?_; assumption)))); done)))
          go_roundw
          case rel => exact ⟨1, 1, a, O, by go_num, by omega, by omega, next, GOOD.out, ⟨(by repeat (first | with_reducible exact C1 | with_reducible exact C2 | with_reducible exact C3 | with_reducible exact C4 | with_reducible exact Blk.new _ _ _ _ rfl | (with_reducible refine Blk.new _ _ _ _ ?_; simp; done) | with_reducible refine Blk.alloc ?_ _ | with_reducible refine Blk.grow ?_ _ | with_reducible apply Blk.setRow | with_reducible apply Blk.set0 | with_reducible apply Blk.set1 | (with_reducible refine Blk.far_ ?_ _ _ ?_; (first | exact hne | exact Ne.symm hne | assumption | (refine Ne.symm ?_; assumption))) | (with_reducible refine Blk.farRow_ ?_ _ ?_; (first | exact hne | exact Ne.symm hne | assumption | (refine Ne.symm ?_; assumption))))), (by repeat (first | with_reducible exact C1 | with_reducible exact C2 | with_reducible exact C3 | with_reducible exact C4 | with_reducible exact Blk.new _ _ _ _ rfl | (with_reducible refine Blk.new _ _ _ _ ?_; simp; done) | with_reducible refine Blk.alloc ?_ _ | with_reducible refine Blk.grow ?_ _ | with_reducible apply Blk.setRow | with_reducible apply Blk.set0 | with_reducible apply Blk.set1 | (with_reducible refine Blk.far_ ?_ _ _ ?_; (first | exact hne | exact Ne.symm hne | assumption | (refine Ne.symm ?_; assumption))) | (with_reducible refine Blk.farRow_ ?_ _ ?_; (first | exact hne | exact Ne.symm hne | assumption | (refine Ne.symm ?_; assumption))))), (by repeat (first | with_reducible exact C1 | with_reducible exact C2 | with_reducible exact C3 | with_reducible exact C4 | with_reducible exact Blk.new _ _ _ _ rfl | (with_reducible refine Blk.new _ _ _ _ ?_; simp; done) | with_reducible refine Blk.alloc ?_ _ | with_reducible refine Blk.grow ?_ _ | with_reducible apply Blk.setRow | with_reducible apply Blk.set0 | with_reducible apply Blk.set1 | (with_reducible refine Blk.far_ ?_ _ _ ?_; (first | exact hne | exact Ne.symm hne | assumption | (refine Ne.symm ?_; assumption))) | (with_reducible refine Blk.farRow_ ?_ _ ?_; (first | exact hne | exact Ne.symm hne | assumption | (refine Ne.symm ?_; assumption))))), (by repeat (first | with_reducible exact C1 | with_reducible exact C2 | with_reducible exact C3 | with_reducible exact C4 | with_reducible exact Blk.new _ _ _ _ rfl | (with_reducible refine Blk.new _ _ _ _ ?_; simp; done) | with_reducible refine Blk.alloc ?_ _ | with_reducible refine Blk.grow ?_ _ | with_reducible apply Blk.setRow | with_reducible apply Blk.set0 | with_reducible apply Blk.set1 | (with_reducible refine Blk.far_ ?_ _ _ ?_; (first | exact hne | exact Ne.symm hne | assumption | (refine Ne.symm ?_; assumption))) | (with_reducible refine Blk.farRow_ ?_ _ ?_; (first | exact hne | exact Ne.symm hne | assumption | (refine Ne.symm ?_; assumption)))))⟩, (by repeat (first | with_reducible exact CB | with_reducible refine bel_then ?_ _ | with_reducible refine bel_grow ?_ _ | with_reducible refine bel_alloc ?_ _ | with_reducible refine bel_drew ?_ | with_reducible refine bel_set ?_ (by first | exact hr1 | exact hr2) _ | with_reducible refine bel_setRow ?_ (by first | exact hr1 | exact hr2 | omega | (simp; done) | (refine Nat.le_trans ?_ (top_le _ _); simp; done) | (refine Nat.le_succ_of_le (Nat.le_trans ?_ (top_le _ _)); simp; done)) _))⟩
          case measure => simp [intOf]
        · have c2 : ltF O b = false := by simpa using c2
          rw [c2] at ab2
          have next := Lib.hid (show stC o d l h 1 = (a, b) by rw [hnext.out, c1, c2]; rfl)
          clear hnext c1 c2
          have GOOD := Lib.hid (show (smallF a ∧ RightF a) ∧ smallF b ∧ RightF b from ⟨⟨sa, ra⟩, sb', rb⟩)
          clear is_ ir us ur sa ra sb' rb
          go_wp2_with (first | (go_at_call 54; first | ((with_reducible refine (ab1.at_ _).mono ?_); rintro e w' ⟨rfl, xg, rfl⟩) | ((with_reducible refine (ab2.at_ _).mono ?_); rintro e w' ⟨rfl, xg, rfl⟩)) | (refine wpF_store rfl _ _ rfl _ rfl _ _ rfl ?xm ?xn ?hb ?hk; case hb => (repeat (first | with_reducible exact C1 | with_reducible exact C2 | with_reducible exact C3 | with_reducible exact C4 | with_reducible exact Blk.new _ _ _ _ rfl | (with_reducible refine Blk.new _ _ _ _ ?_; simp; done) | with_reducible refine Blk.alloc ?_ _ | with_reducible refine Blk.grow ?_ _ | with_reducible apply Blk.setRow | with_reducible apply Blk.set0 | with_reducible apply Blk.set1 | (with_reducible refine Blk.far_ ?_ _ _ ?_; (first | exact hne | exact Ne.symm hne | assumption | (refine Ne.symm ?_; assumption))) | (with_reducible refine Blk.farRow_ ?_ _ ?_; (first | exact hne | exact Ne.symm hne | assumption | (refine Ne.symm ?_; assumption)))); done)))
          go_roundw
          case rel => exact ⟨1, 1, a, b, by go_num, by omega, by omega, next, GOOD.out, ⟨(by repeat (first | with_reducible exact C1 | with_reducible exact C2 | with_reducible exact C3 | with_reducible exact C4 | with_reducible exact Blk.new _ _ _ _ rfl | (with_reducible refine Blk.new _ _ _ _ ?_; simp; done) | with_reducible refine Blk.alloc ?_ _ | with_reducible refine Blk.grow ?_ _ | with_reducible apply Blk.setRow | with_reducible apply Blk.set0 | with_reducible apply Blk.set1 | (with_reducible refine Blk.far_ ?_ _ _ ?_; (first | exact hne | exact Ne.symm hne | assumption | (refine Ne.symm ?_; assumption))) | (with_reducible refine Blk.farRow_ ?_ _ ?_; (first | exact hne | exact Ne.symm hne | assumption | (refine Ne.symm ?_; assumption))))), (by repeat (first | with_reducible exact C1 | with_reducible exact C2 | with_reducible exact C3 | with_reducible exact C4 | with_reducible exact Blk.new _ _ _ _ rfl | (with_reducible refine Blk.new _ _ _ _ ?_; simp; done) | with_reducible refine Blk.alloc ?_ _ | with_reducible refine Blk.grow ?_ _ | with_reducible apply Blk.setRow | with_reducible apply Blk.set0 | with_reducible apply Blk.set1 | (with_reducible refine Blk.far_ ?_ _ _ ?_; (first | exact hne | exact Ne.symm hne | assumption | (refine Ne.symm ?_; assumption))) | (with_reducible refine Blk.farRow_ ?_ _ ?_; (first | exact hne | exact Ne.symm hne | assumption | (refine Ne.symm ?_; assumption))))), (by repeat (first | with_reducible exact C1 | with_reducible exact C2 | with_reducible exact C3 | with_reducible exact C4 | with_reducible exact Blk.new _ _ _ _ rfl | (with_reducible refine Blk.new _ _ _ _ ?_; simp; done) | with_reducible refine Blk.alloc ?_ _ | with_reducible refine Blk.grow ?_ _ | with_reducible apply Blk.setRow | with_reducible apply Blk.set0 | with_reducible apply Blk.set1 | (with_reducible refine Blk.far_ ?_ _ _ ?_; (first | exact hne | exact Ne.symm hne | assumption | (refine Ne.symm ?_; assumption))) | (with_reducible refine Blk.farRow_ ?_ _ ?_; (first | exact hne | exact Ne.symm hne | assumption | (refine Ne.symm ?_; assumption))))), (by repeat (first | with_reducible exact C1 | with_reducible exact C2 | with_reducible exact C3 | with_reducible exact C4 | with_reducible exact Blk.new _ _ _ _ rfl | (with_reducible refine Blk.new _ _ _ _ ?_; simp; done) | with_reducible refine Blk.alloc ?_ _ | with_reducible refine Blk.grow ?_ _ | with_reducible apply Blk.setRow | with_reducible apply Blk.set0 | with_reducible apply Blk.set1 | (with_reducible refine Blk.far_ ?_ _ _ ?_; (first | exact hne | exact Ne.symm hne | assumption | (refine Ne.symm ?_; assumption))) | (with_reducible refine Blk.farRow_ ?_ _ ?_; (first | exact hne | exact Ne.symm hne | assumption | (refine Ne.symm ?_; assumption)))))⟩, (by repeat (first | with_reducible exact CB | with_reducible refine bel_then ?_ _ | with_reducible refine bel_grow ?_ _ | with_reducible refine bel_alloc ?_ _ | with_reducible refine bel_drew ?_ | with_reducible refine bel_set ?_ (by first | exact hr1 | exact hr2) _ | with_reducible refine bel_setRow ?_ (by first | exact hr1 | exact hr2 | omega | (simp; done) | (refine Nat.le_trans ?_ (top_le _ _); simp; done) | (refine Nat.le_succ_of_le (Nat.le_trans ?_ (top_le _ _)); simp; done)) _))⟩
          case measure => simp [intOf]
    · obtain ⟨⟨is_, ir⟩, us, ur⟩ := spI_small (f := o.y) (s := d.y) (l := l.y) (h := h.y) ho.2.1 hd.2.1 hl.2.1 hh.2.1
      have sp := span_any (o.y) (d.y) (l.y) (h.y) ho.2.1 hd.2.1 hl.2.1 hh.2.1
      have hnext : stC o d l h 2 = (if ltF a (spI (o.y) (d.y) (l.y) (h.y)) then spI (o.y) (d.y) (l.y) (h.y) else a, if ltF (spO (o.y) (d.y) (l.y) (h.y)) b then spO (o.y) (d.y) (l.y) (h.y) else b) := by
        show (if ltF (stC o d l h 1).1 _ then _ else (stC o d l h 1).1, if ltF _ (stC o d l h 1).2 then _ else (stC o d l h 1).2) = _
        rw [hst.out]; rfl
      generalize spI (o.y) (d.y) (l.y) (h.y) = I at *
      generalize spO (o.y) (d.y) (l.y) (h.y) = O at *
      have ab1 := above_any I a (smallF_in is_) (smallF_in sa) ir ra
      have ab2 := above_any b O (smallF_in sb') (smallF_in us) rb ur
      replace hnext := Lib.hid hnext
      clear hst HR
      go_upto_region 9 with (first | (go_at_call 53; first | ((with_reducible refine (sp.at_ _).mono ?_); rintro e w' ⟨rfl, xg, rfl⟩)) | (refine wpList_val rfl _ _ (idx1 _ _ _ _ _ rfl _ _ _ _ _ _ _ _ _ _ _ _ rfl rfl) ?_))
      have C1 : Blk (((grow (wr.alloc (.cells #[.int .i64 o.y, .int .i64 d.y, .int .i64 l.y, .int .i64 h.y] 114)) xg).alloc (.cells #[.int .i64 I.n, .int .i64 I.d] 70)).alloc (.cells #[.int .i64 O.n, .int .i64 O.d] 70)) g1 70 #[.int .i64 a.n, .int .i64 a.d] := (by repeat (first | with_reducible exact hb1 | with_reducible exact hb2 | with_reducible exact hb3 | with_reducible exact hb4 | with_reducible exact Blk.new _ _ _ _ rfl | (with_reducible refine Blk.new _ _ _ _ ?_; simp; done) | with_reducible refine Blk.alloc ?_ _ | with_reducible refine Blk.grow ?_ _ | with_reducible apply Blk.setRow | with_reducible apply Blk.set0 | with_reducible apply Blk.set1 | (with_reducible refine Blk.far_ ?_ _ _ ?_; (first | exact hne | exact Ne.symm hne | exact ne_far hb1.lt _ _ _ | exact ne_far0 hb1.lt _ _ | exact ne_far hb2.lt _ _ _ | exact ne_far0 hb2.lt _ _ | exact ne_far hb3.lt _ _ _ | exact ne_far hb4.lt _ _ _ | omega)) | (with_reducible refine Blk.farRow_ ?_ _ ?_; (first | exact hne | exact Ne.symm hne | exact ne_far hb1.lt _ _ _ | exact ne_far0 hb1.lt _ _ | exact ne_far hb2.lt _ _ _ | exact ne_far0 hb2.lt _ _ | exact ne_far hb3.lt _ _ _ | exact ne_far hb4.lt _ _ _ | omega))))
      have C2 : Blk (((grow (wr.alloc (.cells #[.int .i64 o.y, .int .i64 d.y, .int .i64 l.y, .int .i64 h.y] 114)) xg).alloc (.cells #[.int .i64 I.n, .int .i64 I.d] 70)).alloc (.cells #[.int .i64 O.n, .int .i64 O.d] 70)) g2 70 #[.int .i64 b.n, .int .i64 b.d] := (by repeat (first | with_reducible exact hb1 | with_reducible exact hb2 | with_reducible exact hb3 | with_reducible exact hb4 | with_reducible exact Blk.new _ _ _ _ rfl | (with_reducible refine Blk.new _ _ _ _ ?_; simp; done) | with_reducible refine Blk.alloc ?_ _ | with_reducible refine Blk.grow ?_ _ | with_reducible apply Blk.setRow | with_reducible apply Blk.set0 | with_reducible apply Blk.set1 | (with_reducible refine Blk.far_ ?_ _ _ ?_; (first | exact hne | exact Ne.symm hne | exact ne_far hb1.lt _ _ _ | exact ne_far0 hb1.lt _ _ | exact ne_far hb2.lt _ _ _ | exact ne_far0 hb2.lt _ _ | exact ne_far hb3.lt _ _ _ | exact ne_far hb4.lt _ _ _ | omega)) | (with_reducible refine Blk.farRow_ ?_ _ ?_; (first | exact hne | exact Ne.symm hne | exact ne_far hb1.lt _ _ _ | exact ne_far0 hb1.lt _ _ | exact ne_far hb2.lt _ _ _ | exact ne_far0 hb2.lt _ _ | exact ne_far hb3.lt _ _ _ | exact ne_far hb4.lt _ _ _ | omega))))
      have C3 : Blk (((grow (wr.alloc (.cells #[.int .i64 o.y, .int .i64 d.y, .int .i64 l.y, .int .i64 h.y] 114)) xg).alloc (.cells #[.int .i64 I.n, .int .i64 I.d] 70)).alloc (.cells #[.int .i64 O.n, .int .i64 O.d] 70)) (w.heap.size + 1 + 1 + 1) 70 #[.int .i64 0, .int .i64 0] := (by repeat (first | with_reducible exact hb1 | with_reducible exact hb2 | with_reducible exact hb3 | with_reducible exact hb4 | with_reducible exact Blk.new _ _ _ _ rfl | (with_reducible refine Blk.new _ _ _ _ ?_; simp; done) | with_reducible refine Blk.alloc ?_ _ | with_reducible refine Blk.grow ?_ _ | with_reducible apply Blk.setRow | with_reducible apply Blk.set0 | with_reducible apply Blk.set1 | (with_reducible refine Blk.far_ ?_ _ _ ?_; (first | exact hne | exact Ne.symm hne | exact ne_far hb1.lt _ _ _ | exact ne_far0 hb1.lt _ _ | exact ne_far hb2.lt _ _ _ | exact ne_far0 hb2.lt _ _ | exact ne_far hb3.lt _ _ _ | exact ne_far hb4.lt _ _ _ | omega)) | (with_reducible refine Blk.farRow_ ?_ _ ?_; (first | exact hne | exact Ne.symm hne | exact ne_far hb1.lt _ _ _ | exact ne_far0 hb1.lt _ _ | exact ne_far hb2.lt _ _ _ | exact ne_far0 hb2.lt _ _ | exact ne_far hb3.lt _ _ _ | exact ne_far hb4.lt _ _ _ | omega))))
      have C4 : Blk (((grow (wr.alloc (.cells #[.int .i64 o.y, .int .i64 d.y, .int .i64 l.y, .int .i64 h.y] 114)) xg).alloc (.cells #[.int .i64 I.n, .int .i64 I.d] 70)).alloc (.cells #[.int .i64 O.n, .int .i64 O.d] 70)) (w.heap.size + 1 + 1 + 1 + 1) 70 #[.int .i64 0, .int .i64 0] := (by repeat (first | with_reducible exact hb1 | with_reducible exact hb2 | with_reducible exact hb3 | with_reducible exact hb4 | with_reducible exact Blk.new _ _ _ _ rfl | (with_reducible refine Blk.new _ _ _ _ ?_; simp; done) | with_reducible refine Blk.alloc ?_ _ | with_reducible refine Blk.grow ?_ _ | with_reducible apply Blk.setRow | with_reducible apply Blk.set0 | with_reducible apply Blk.set1 | (with_reducible refine Blk.far_ ?_ _ _ ?_; (first | exact hne | exact Ne.symm hne | exact ne_far hb1.lt _ _ _ | exact ne_far0 hb1.lt _ _ | exact ne_far hb2.lt _ _ _ | exact ne_far0 hb2.lt _ _ | exact ne_far hb3.lt _ _ _ | exact ne_far hb4.lt _ _ _ | omega)) | (with_reducible refine Blk.farRow_ ?_ _ ?_; (first | exact hne | exact Ne.symm hne | exact ne_far hb1.lt _ _ _ | exact ne_far0 hb1.lt _ _ | exact ne_far hb2.lt _ _ _ | exact ne_far0 hb2.lt _ _ | exact ne_far hb3.lt _ _ _ | exact ne_far hb4.lt _ _ _ | omega))))
      have C5 : Blk (((grow (wr.alloc (.cells #[.int .i64 o.y, .int .i64 d.y, .int .i64 l.y, .int .i64 h.y] 114)) xg).alloc (.cells #[.int .i64 I.n, .int .i64 I.d] 70)).alloc (.cells #[.int .i64 O.n, .int .i64 O.d] 70)) ((grow (wr.alloc (.cells #[.int .i64 o.y, .int .i64 d.y, .int .i64 l.y, .int .i64 h.y] 114)) xg).heap.size) 70 #[.int .i64 I.n, .int .i64 I.d] := (by repeat (first | with_reducible exact hb1 | with_reducible exact hb2 | with_reducible exact hb3 | with_reducible exact hb4 | with_reducible exact Blk.new _ _ _ _ rfl | (with_reducible refine Blk.new _ _ _ _ ?_; simp; done) | with_reducible refine Blk.alloc ?_ _ | with_reducible refine Blk.grow ?_ _ | with_reducible apply Blk.setRow | with_reducible apply Blk.set0 | with_reducible apply Blk.set1 | (with_reducible refine Blk.far_ ?_ _ _ ?_; (first | exact hne | exact Ne.symm hne | exact ne_far hb1.lt _ _ _ | exact ne_far0 hb1.lt _ _ | exact ne_far hb2.lt _ _ _ | exact ne_far0 hb2.lt _ _ | exact ne_far hb3.lt _ _ _ | exact ne_far hb4.lt _ _ _ | omega)) | (with_reducible refine Blk.farRow_ ?_ _ ?_; (first | exact hne | exact Ne.symm hne | exact ne_far hb1.lt _ _ _ | exact ne_far0 hb1.lt _ _ | exact ne_far hb2.lt _ _ _ | exact ne_far0 hb2.lt _ _ | exact ne_far hb3.lt _ _ _ | exact ne_far hb4.lt _ _ _ | omega))))
      have C6 : Blk (((grow (wr.alloc (.cells #[.int .i64 o.y, .int .i64 d.y, .int .i64 l.y, .int .i64 h.y] 114)) xg).alloc (.cells #[.int .i64 I.n, .int .i64 I.d] 70)).alloc (.cells #[.int .i64 O.n, .int .i64 O.d] 70)) ((grow (wr.alloc (.cells #[.int .i64 o.y, .int .i64 d.y, .int .i64 l.y, .int .i64 h.y] 114)) xg).heap.size + 1) 70 #[.int .i64 O.n, .int .i64 O.d] := (by repeat (first | with_reducible exact hb1 | with_reducible exact hb2 | with_reducible exact hb3 | with_reducible exact hb4 | with_reducible exact Blk.new _ _ _ _ rfl | (with_reducible refine Blk.new _ _ _ _ ?_; simp; done) | with_reducible refine Blk.alloc ?_ _ | with_reducible refine Blk.grow ?_ _ | with_reducible apply Blk.setRow | with_reducible apply Blk.set0 | with_reducible apply Blk.set1 | (with_reducible refine Blk.far_ ?_ _ _ ?_; (first | exact hne | exact Ne.symm hne | exact ne_far hb1.lt _ _ _ | exact ne_far0 hb1.lt _ _ | exact ne_far hb2.lt _ _ _ | exact ne_far0 hb2.lt _ _ | exact ne_far hb3.lt _ _ _ | exact ne_far hb4.lt _ _ _ | omega)) | (with_reducible refine Blk.farRow_ ?_ _ ?_; (first | exact hne | exact Ne.symm hne | exact ne_far hb1.lt _ _ _ | exact ne_far0 hb1.lt _ _ | exact ne_far hb2.lt _ _ _ | exact ne_far0 hb2.lt _ _ | exact ne_far hb3.lt _ _ _ | exact ne_far hb4.lt _ _ _ | omega))))
      have CB : Below w.heap.size w (((grow (wr.alloc (.cells #[.int .i64 o.y, .int .i64 d.y, .int .i64 l.y, .int .i64 h.y] 114)) xg).alloc (.cells #[.int .i64 I.n, .int .i64 I.d] 70)).alloc (.cells #[.int .i64 O.n, .int .i64 O.d] 70)) := (by repeat (first | with_reducible exact hbel | with_reducible refine bel_then ?_ _ | with_reducible refine bel_grow ?_ _ | with_reducible refine bel_alloc ?_ _ | with_reducible refine bel_drew ?_ | with_reducible refine bel_set ?_ (by simp) _ | with_reducible refine bel_setRow ?_ (by first | omega | (simp; done) | (refine Nat.le_trans ?_ (top_le _ _); simp; done) | (refine Nat.le_succ_of_le (Nat.le_trans ?_ (top_le _ _)); simp; done)) _))
      have n1 : (grow (wr.alloc (.cells #[.int .i64 o.y, .int .i64 d.y, .int .i64 l.y, .int .i64 h.y] 114)) xg).heap.size ≠ g1 := Ne.symm (ne_far0 hb1.lt _ _)
      have n2 : (grow (wr.alloc (.cells #[.int .i64 o.y, .int .i64 d.y, .int .i64 l.y, .int .i64 h.y] 114)) xg).heap.size ≠ g2 := Ne.symm (ne_far0 hb2.lt _ _)
      have n3 : (grow (wr.alloc (.cells #[.int .i64 o.y, .int .i64 d.y, .int .i64 l.y, .int .i64 h.y] 114)) xg).heap.size + 1 ≠ g1 := Ne.symm (ne_far hb1.lt _ _ 1)
      have n4 : (grow (wr.alloc (.cells #[.int .i64 o.y, .int .i64 d.y, .int .i64 l.y, .int .i64 h.y] 114)) xg).heap.size + 1 ≠ g2 := Ne.symm (ne_far hb2.lt _ _ 1)
      generalize (grow (wr.alloc (.cells #[.int .i64 o.y, .int .i64 d.y, .int .i64 l.y, .int .i64 h.y] 114)) xg).heap.size + 1 = go_ at *
      generalize (grow (wr.alloc (.cells #[.int .i64 o.y, .int .i64 d.y, .int .i64 l.y, .int .i64 h.y] 114)) xg).heap.size = gi at *
      generalize (((grow (wr.alloc (.cells #[.int .i64 o.y, .int .i64 d.y, .int .i64 l.y, .int .i64 h.y] 114)) xg).alloc (.cells #[.int .i64 I.n, .int .i64 I.d] 70)).alloc (.cells #[.int .i64 O.n, .int .i64 O.d] 70)) = V at *
      clear hb1 hb2 hb3 hb4 hbel sp
      have l1 := C1.lt
      have l2 := C2.lt
      have l3 := C3.lt
      have l4 := C4.lt
      have l5 := C5.lt
      have l6 := C6.lt
      have f1 := C1.frozen
      have f2 := C2.frozen
      have c10 := C1.cell 0
      have c11 := C1.cell 1
      have c20 := C2.cell 0
      have c21 := C2.cell 1
      have c50 := C5.cell 0
      have c51 := C5.cell 1
      have c60 := C6.cell 0
      have c61 := C6.cell 1
      simp at c10 c11 c20 c21 c50 c51 c60 c61
      by_cases c1 : ltF a I = true
      · rw [c1] at ab1
        by_cases c2 : ltF O b = true
        · rw [c2] at ab2
          have next := Lib.hid (show stC o d l h 2 = (I, O) by rw [hnext.out, c1, c2]; rfl)
          clear hnext c1 c2
          have GOOD := Lib.hid (show (smallF I ∧ RightF I) ∧ smallF O ∧ RightF O from ⟨⟨is_, ir⟩, us, ur⟩)
          clear is_ ir us ur sa ra sb' rb
          go_wp2_with (first | (go_at_call 54; first | ((with_reducible refine (ab1.at_ _).mono ?_); rintro e w' ⟨rfl, xg, rfl⟩) | ((with_reducible refine (ab2.at_ _).mono ?_); rintro e w' ⟨rfl, xg, rfl⟩)) | (refine wpF_store rfl _ _ rfl _ rfl _ _ rfl ?xm ?xn ?hb ?hk; case hb => (repeat (first | with_reducible exact C1 | with_reducible exact C2 | with_reducible exact C3 | with_reducible exact C4 | with_reducible exact Blk.new _ _ _ _ rfl | (with_reducible refine Blk.new _ _ _ _ ?_; simp; done) | with_reducible refine Blk.alloc ?_ _ | with_reducible refine Blk.grow ?_ _ | with_reducible apply Blk.setRow | with_reducible apply Blk.set0 | with_reducible apply Blk.set1 | (with_reducible refine Blk.far_ ?_ _ _ ?_; (first | exact hne | exact Ne.symm hne | assumption | (refine Ne.symm ?_; assumption))) | (with_reducible refine Blk.farRow_ ?_ _ ?_; (first | exact hne | exact Ne.symm hne | assumption | (refine Ne.symm ?_; assumption)))); done)))
          go_roundw
          case rel => exact ⟨2, 2, I, O, by go_num, by omega, by omega, next, GOOD.out, ⟨(by repeat (first | with_reducible exact C1 | with_reducible exact C2 | with_reducible exact C3 | with_reducible exact C4 | with_reducible exact Blk.new _ _ _ _ rfl | (with_reducible refine Blk.new _ _ _ _ ?_; simp; done) | with_reducible refine Blk.alloc ?_ _ | with_reducible refine Blk.grow ?_ _ | with_reducible apply Blk.setRow | with_reducible apply Blk.set0 | with_reducible apply Blk.set1 | (with_reducible refine Blk.far_ ?_ _ _ ?_; (first | exact hne | exact Ne.symm hne | assumption | (refine Ne.symm ?_; assumption))) | (with_reducible refine Blk.farRow_ ?_ _ ?_; (first | exact hne | exact Ne.symm hne | assumption | (refine Ne.symm ?_; assumption))))), (by repeat (first | with_reducible exact C1 | with_reducible exact C2 | with_reducible exact C3 | with_reducible exact C4 | with_reducible exact Blk.new _ _ _ _ rfl | (with_reducible refine Blk.new _ _ _ _ ?_; simp; done) | with_reducible refine Blk.alloc ?_ _ | with_reducible refine Blk.grow ?_ _ | with_reducible apply Blk.setRow | with_reducible apply Blk.set0 | with_reducible apply Blk.set1 | (with_reducible refine Blk.far_ ?_ _ _ ?_; (first | exact hne | exact Ne.symm hne | assumption | (refine Ne.symm ?_; assumption))) | (with_reducible refine Blk.farRow_ ?_ _ ?_; (first | exact hne | exact Ne.symm hne | assumption | (refine Ne.symm ?_; assumption))))), (by repeat (first | with_reducible exact C1 | with_reducible exact C2 | with_reducible exact C3 | with_reducible exact C4 | with_reducible exact Blk.new _ _ _ _ rfl | (with_reducible refine Blk.new _ _ _ _ ?_; simp; done) | with_reducible refine Blk.alloc ?_ _ | with_reducible refine Blk.grow ?_ _ | with_reducible apply Blk.setRow | with_reducible apply Blk.set0 | with_reducible apply Blk.set1 | (with_reducible refine Blk.far_ ?_ _ _ ?_; (first | exact hne | exact Ne.symm hne | assumption | (refine Ne.symm ?_; assumption))) | (with_reducible refine Blk.farRow_ ?_ _ ?_; (first | exact hne | exact Ne.symm hne | assumption | (refine Ne.symm ?_; assumption))))), (by repeat (first | with_reducible exact C1 | with_reducible exact C2 | with_reducible exact C3 | with_reducible exact C4 | with_reducible exact Blk.new _ _ _ _ rfl | (with_reducible refine Blk.new _ _ _ _ ?_; simp; done) | with_reducible refine Blk.alloc ?_ _ | with_reducible refine Blk.grow ?_ _ | with_reducible apply Blk.setRow | with_reducible apply Blk.set0 | with_reducible apply Blk.set1 | (with_reducible refine Blk.far_ ?_ _ _ ?_; (first | exact hne | exact Ne.symm hne | assumption | (refine Ne.symm ?_; assumption))) | (with_reducible refine Blk.farRow_ ?_ _ ?_; (first | exact hne | exact Ne.symm hne | assumption | (refine Ne.symm ?_; assumption)))))⟩, (by repeat (first | with_reducible exact CB | with_reducible refine bel_then ?_ _ | with_reducible refine bel_grow ?_ _ | with_reducible refine bel_alloc ?_ _ | with_reducible refine bel_drew ?_ | with_reducible refine bel_set ?_ (by first | exact hr1 | exact hr2) _ | with_reducible refine bel_setRow ?_ (by first | exact hr1 | exact hr2 | omega | (simp; done) | (refine Nat.le_trans ?_ (top_le _ _); simp; done) | (refine Nat.le_succ_of_le (Nat.le_trans ?_ (top_le _ _)); simp; done)) _))⟩
          case measure => simp [intOf]
        · have c2 : ltF O b = false := by simpa using c2
          rw [c2] at ab2
          have next := Lib.hid (show stC o d l h 2 = (I, b) by rw [hnext.out, c1, c2]; rfl)
          clear hnext c1 c2
          have GOOD := Lib.hid (show (smallF I ∧ RightF I) ∧ smallF b ∧ RightF b from ⟨⟨is_, ir⟩, sb', rb⟩)
          clear is_ ir us ur sa ra sb' rb
          go_wp2_with (first | (go_at_call 54; first | ((with_reducible refine (ab1.at_ _).mono ?_); rintro e w' ⟨rfl, xg, rfl⟩) | ((with_reducible refine (ab2.at_ _).mono ?_); rintro e w' ⟨rfl, xg, rfl⟩)) | (refine wpF_store rfl _ _ rfl _ rfl _ _ rfl ?xm ?xn ?hb ?hk; case hb => (repeat (first | with_reducible exact C1 | with_reducible exact C2 | with_reducible exact C3 | with_reducible exact C4 | with_reducible exact Blk.new _ _ _ _ rfl | (with_reducible refine Blk.new _ _ _ _ ?_; simp; done) | with_reducible refine Blk.alloc ?_ _ | with_reducible refine Blk.grow ?_ _ | with_reducible apply Blk.setRow | with_reducible apply Blk.set0 | with_reducible apply Blk.set1 | (with_reducible refine Blk.far_ ?_ _ _ ?_; (first | exact hne | exact Ne.symm hne | assumption | (refine Ne.symm ?_; assumption))) | (with_reducible refine Blk.farRow_ ?_ _ ?_; (first | exact hne | exact Ne.symm hne | assumption | (refine Ne.symm ?_; assumption)))); done)))
          go_roundw
          case rel => exact ⟨2, 2, I, b, by go_num, by omega, by omega, next, GOOD.out, ⟨(by repeat (first | with_reducible exact C1 | with_reducible exact C2 | with_reducible exact C3 | with_reducible exact C4 | with_reducible exact Blk.new _ _ _ _ rfl | (with_reducible refine Blk.new _ _ _ _ ?_; simp; done) | with_reducible refine Blk.alloc ?_ _ | with_reducible refine Blk.grow ?_ _ | with_reducible apply Blk.setRow | with_reducible apply Blk.set0 | with_reducible apply Blk.set1 | (with_reducible refine Blk.far_ ?_ _ _ ?_; (first | exact hne | exact Ne.symm hne | assumption | (refine Ne.symm ?_; assumption))) | (with_reducible refine Blk.farRow_ ?_ _ ?_; (first | exact hne | exact Ne.symm hne | assumption | (refine Ne.symm ?_; assumption))))), (by repeat (first | with_reducible exact C1 | with_reducible exact C2 | with_reducible exact C3 | with_reducible exact C4 | with_reducible exact Blk.new _ _ _ _ rfl | (with_reducible refine Blk.new _ _ _ _ ?_; simp; done) | with_reducible refine Blk.alloc ?_ _ | with_reducible refine Blk.grow ?_ _ | with_reducible apply Blk.setRow | with_reducible apply Blk.set0 | with_reducible apply Blk.set1 | (with_reducible refine Blk.far_ ?_ _ _ ?_; (first | exact hne | exact Ne.symm hne | assumption | (refine Ne.symm ?_; assumption))) | (with_reducible refine Blk.farRow_ ?_ _ ?_; (first | exact hne | exact Ne.symm hne | assumption | (refine Ne.symm ?_; assumption))))), (by repeat (first | with_reducible exact C1 | with_reducible exact C2 | with_reducible exact C3 | with_reducible exact C4 | with_reducible exact Blk.new _ _ _ _ rfl | (with_reducible refine Blk.new _ _ _ _ ?_; simp; done) | with_reducible refine Blk.alloc ?_ _ | with_reducible refine Blk.grow ?_ _ | with_reducible apply Blk.setRow | with_reducible apply Blk.set0 | with_reducible apply Blk.set1 | (with_reducible refine Blk.far_ ?_ _ _ ?_; (first | exact hne | exact Ne.symm hne | assumption | (refine Ne.symm ?_; assumption))) | (with_reducible refine Blk.farRow_ ?_ _ ?_; (first | exact hne | exact Ne.symm hne | assumption | (refine Ne.symm ?_; assumption))))), (by repeat (first | with_reducible exact C1 | with_reducible exact C2 | with_reducible exact C3 | with_reducible exact C4 | with_reducible exact Blk.new _ _ _ _ rfl | (with_reducible refine Blk.new _ _ _ _ ?_; simp; done) | with_reducible refine Blk.alloc ?_ _ | with_reducible refine Blk.grow ?_ _ | with_reducible apply Blk.setRow | with_reducible apply Blk.set0 | with_reducible apply Blk.set1 | (with_reducible refine Blk.far_ ?_ _ _ ?_; (first | exact hne | exact Ne.symm hne | assumption | (refine Ne.symm ?_; assumption))) | (with_reducible refine Blk.farRow_ ?_ _ ?_; (first | exact hne | exact Ne.symm hne | assumption | (refine Ne.symm ?_; assumption)))))⟩, (by repeat (first | with_reducible exact CB | with_reducible refine bel_then ?_ _ | with_reducible refine bel_grow ?_ _ | with_reducible refine bel_alloc ?_ _ | with_reducible refine bel_drew ?_ | with_reducible refine bel_set ?_ (by first | exact hr1 | exact hr2) _ | with_reducible refine bel_setRow ?_ (by first | exact hr1 | exact hr2 | omega | (simp; done) | (refine Nat.le_trans ?_ (top_le _ _); simp; done) | (refine Nat.le_succ_of_le (Nat.le_trans ?_ (top_le _ _)); simp; done)) _))⟩
          case measure => simp [intOf]
      · have c1 : ltF a I = false := by simpa using c1
        rw [c1] at ab1
        by_cases c2 : ltF O b = true
        · rw [c2] at ab2
          have next := Lib.hid (show stC o d l h 2 = (a, O) by rw [hnext.out, c1, c2]; rfl)
          clear hnext c1 c2
          have GOOD := Lib.hid (show (smallF a ∧ RightF a) ∧ smallF O ∧ RightF O from ⟨⟨sa, ra⟩, us, ur⟩)
          clear is_ ir us ur sa ra sb' rb
          go_wp2_with (first | (go_at_call 54; first | ((with_reducible refine (ab1.at_ _).mono ?_); rintro e w' ⟨rfl, xg, rfl⟩) | ((with_reducible refine (ab2.at_ _).mono ?_); rintro e w' ⟨rfl, xg, rfl⟩)) | (refine wpF_store rfl _ _ rfl _ rfl _ _ rfl ?xm ?xn ?hb ?hk; case hb => (repeat (first | with_reducible exact C1 | with_reducible exact C2 | with_reducible exact C3 | with_reducible exact C4 | with_reducible exact Blk.new _ _ _ _ rfl | (with_reducible refine Blk.new _ _ _ _ ?_; simp; done) | with_reducible refine Blk.alloc ?_ _ | with_reducible refine Blk.grow ?_ _ | with_reducible apply Blk.setRow | with_reducible apply Blk.set0 | with_reducible apply Blk.set1 | (with_reducible refine Blk.far_ ?_ _ _ ?_; (first | exact hne | exact Ne.symm hne | assumption | (refine Ne.symm ?_; assumption))) | (with_reducible refine Blk.farRow_ ?_ _ ?_; (first | exact hne | exact Ne.symm hne | assumption | (refine Ne.symm ?_; assumption)))); done)))
          go_roundw
          case rel => exact ⟨2, 2, a, O, by go_num, by omega, by omega, next, GOOD.out, ⟨(by repeat (first | with_reducible exact C1 | with_reducible exact C2 | with_reducible exact C3 | with_reducible exact C4 | with_reducible exact Blk.new _ _ _ _ rfl | (with_reducible refine Blk.new _ _ _ _ ?_; simp; done) | with_reducible refine Blk.alloc ?_ _ | with_reducible refine Blk.grow ?_ _ | with_reducible apply Blk.setRow | with_reducible apply Blk.set0 | with_reducible apply Blk.set1 | (with_reducible refine Blk.far_ ?_ _ _ ?_; (first | exact hne | exact Ne.symm hne | assumption | (refine Ne.symm ?_; assumption))) | (with_reducible refine Blk.farRow_ ?_ _ ?_; (first | exact hne | exact Ne.symm hne | assumption | (refine Ne.symm ?_; assumption))))), (by repeat (first | with_reducible exact C1 | with_reducible exact C2 | with_reducible exact C3 | with_reducible exact C4 | with_reducible exact Blk.new _ _ _ _ rfl | (with_reducible refine Blk.new _ _ _ _ ?_; simp; done) | with_reducible refine Blk.alloc ?_ _ | with_reducible refine Blk.grow ?_ _ | with_reducible apply Blk.setRow | with_reducible apply Blk.set0 | with_reducible apply Blk.set1 | (with_reducible refine Blk.far_ ?_ _ _ ?_; (first | exact hne | exact Ne.symm hne | assumption | (refine Ne.symm ?_; assumption))) | (with_reducible refine Blk.farRow_ ?_ _ ?_; (first | exact hne | exact Ne.symm hne | assumption | (refine Ne.symm ?_; assumption))))), (by repeat (first | with_reducible exact C1 | with_reducible exact C2 | with_reducible exact C3 | with_reducible exact C4 | with_reducible exact Blk.new _ _ _ _ rfl | (with_reducible refine Blk.new _ _ _ _ ?_; simp; done) | with_reducible refine Blk.alloc ?_ _ | with_reducible refine Blk.grow ?_ _ | with_reducible apply Blk.setRow | with_reducible apply Blk.set0 | with_reducible apply Blk.set1 | (with_reducible refine Blk.far_ ?_ _ _ ?_; (first | exact hne | exact Ne.symm hne | assumption | (refine Ne.symm ?_; assumption))) | (with_reducible refine Blk.farRow_ ?_ _ ?_; (first | exact hne | exact Ne.symm hne | assumption | (refine Ne.symm ?_; assumption))))), (by repeat (first | with_reducible exact C1 | with_reducible exact C2 | with_reducible exact C3 | with_reducible exact C4 | with_reducible exact Blk.new _ _ _ _ rfl | (with_reducible refine Blk.new _ _ _ _ ?_; simp; done) | with_reducible refine Blk.alloc ?_ _ | with_reducible refine Blk.grow ?_ _ | with_reducible apply Blk.setRow | with_reducible apply Blk.set0 | with_reducible apply Blk.set1 | (with_reducible refine Blk.far_ ?_ _ _ ?_; (first | exact hne | exact Ne.symm hne | assumption | (refine Ne.symm ?_; assumption))) | (with_reducible refine Blk.farRow_ ?_ _ ?_; (first | exact hne | exact Ne.symm hne | assumption | (refine Ne.symm ?_; assumption)))))⟩, (by repeat (first | with_reducible exact CB | with_reducible refine bel_then ?_ _ | with_reducible refine bel_grow ?_ _ | with_reducible refine bel_alloc ?_ _ | with_reducible refine bel_drew ?_ | with_reducible refine bel_set ?_ (by first | exact hr1 | exact hr2) _ | with_reducible refine bel_setRow ?_ (by first | exact hr1 | exact hr2 | omega | (simp; done) | (refine Nat.le_trans ?_ (top_le _ _); simp; done) | (refine Nat.le_succ_of_le (Nat.le_trans ?_ (top_le _ _)); simp; done)) _))⟩
          case measure => simp [intOf]
        · have c2 : ltF O b = false := by simpa using c2
          rw [c2] at ab2
          have next := Lib.hid (show stC o d l h 2 = (a, b) by rw [hnext.out, c1, c2]; rfl)
          clear hnext c1 c2
          have GOOD := Lib.hid (show (smallF a ∧ RightF a) ∧ smallF b ∧ RightF b from ⟨⟨sa, ra⟩, sb', rb⟩)
          clear is_ ir us ur sa ra sb' rb
          go_wp2_with (first | (go_at_call 54; first | ((with_reducible refine (ab1.at_ _).mono ?_); rintro e w' ⟨rfl, xg, rfl⟩) | ((with_reducible refine (ab2.at_ _).mono ?_); rintro e w' ⟨rfl, xg, rfl⟩)) | (refine wpF_store rfl _ _ rfl _ rfl _ _ rfl ?xm ?xn ?hb ?hk; case hb => (repeat (first | with_reducible exact C1 | with_reducible exact C2 | with_reducible exact C3 | with_reducible exact C4 | with_reducible exact Blk.new _ _ _ _ rfl | (with_reducible refine Blk.new _ _ _ _ ?_; simp; done) | with_reducible refine Blk.alloc ?_ _ | with_reducible refine Blk.grow ?_ _ | with_reducible apply Blk.setRow | with_reducible apply Blk.set0 | with_reducible apply Blk.set1 | (with_reducible refine Blk.far_ ?_ _ _ ?_; (first | exact hne | exact Ne.symm hne | assumption | (refine Ne.symm ?_; assumption))) | (with_reducible refine Blk.farRow_ ?_ _ ?_; (first | exact hne | exact Ne.symm hne | assumption | (refine Ne.symm ?_; assumption)))); done)))
          go_roundw
          case rel => exact ⟨2, 2, a, b, by go_num, by omega, by omega, next, GOOD.out, ⟨(by repeat (first | with_reducible exact C1 | with_reducible exact C2 | with_reducible exact C3 | with_reducible exact C4 | with_reducible exact Blk.new _ _ _ _ rfl | (with_reducible refine Blk.new _ _ _ _ ?_; simp; done) | with_reducible refine Blk.alloc ?_ _ | with_reducible refine Blk.grow ?_ _ | with_reducible apply Blk.setRow | with_reducible apply Blk.set0 | with_reducible apply Blk.set1 | (with_reducible refine Blk.far_ ?_ _ _ ?_; (first | exact hne | exact Ne.symm hne | assumption | (refine Ne.symm ?_; assumption))) | (with_reducible refine Blk.farRow_ ?_ _ ?_; (first | exact hne | exact Ne.symm hne | assumption | (refine Ne.symm ?_; assumption))))), (by repeat (first | with_reducible exact C1 | with_reducible exact C2 | with_reducible exact C3 | with_reducible exact C4 | with_reducible exact Blk.new _ _ _ _ rfl | (with_reducible refine Blk.new _ _ _ _ ?_; simp; done) | with_reducible refine Blk.alloc ?_ _ | with_reducible refine Blk.grow ?_ _ | with_reducible apply Blk.setRow | with_reducible apply Blk.set0 | with_reducible apply Blk.set1 | (with_reducible refine Blk.far_ ?_ _ _ ?_; (first | exact hne | exact Ne.symm hne | assumption | (refine Ne.symm ?_; assumption))) | (with_reducible refine Blk.farRow_ ?_ _ ?_; (first | exact hne | exact Ne.symm hne | assumption | (refine Ne.symm ?_; assumption))))), (by repeat (first | with_reducible exact C1 | with_reducible exact C2 | with_reducible exact C3 | with_reducible exact C4 | with_reducible exact Blk.new _ _ _ _ rfl | (with_reducible refine Blk.new _ _ _ _ ?_; simp; done) | with_reducible refine Blk.alloc ?_ _ | with_reducible refine Blk.grow ?_ _ | with_reducible apply Blk.setRow | with_reducible apply Blk.set0 | with_reducible apply Blk.set1 | (with_reducible refine Blk.far_ ?_ _ _ ?_; (first | exact hne | exact Ne.symm hne | assumption | (refine Ne.symm ?_; assumption))) | (with_reducible refine Blk.farRow_ ?_ _ ?_; (first | exact hne | exact Ne.symm hne | assumption | (refine Ne.symm ?_; assumption))))), (by repeat (first | with_reducible exact C1 | with_reducible exact C2 | with_reducible exact C3 | with_reducible exact C4 | with_reducible exact Blk.new _ _ _ _ rfl | (with_reducible refine Blk.new _ _ _ _ ?_; simp; done) | with_reducible refine Blk.alloc ?_ _ | with_reducible refine Blk.grow ?_ _ | with_reducible apply Blk.setRow | with_reducible apply Blk.set0 | with_reducible apply Blk.set1 | (with_reducible refine Blk.far_ ?_ _ _ ?_; (first | exact hne | exact Ne.symm hne | assumption | (refine Ne.symm ?_; assumption))) | (with_reducible refine Blk.farRow_ ?_ _ ?_; (first | exact hne | exact Ne.symm hne | assumption | (refine Ne.symm ?_; assumption)))))⟩, (by repeat (first | with_reducible exact CB | with_reducible refine bel_then ?_ _ | with_reducible refine bel_grow ?_ _ | with_reducible refine bel_alloc ?_ _ | with_reducible refine bel_drew ?_ | with_reducible refine bel_set ?_ (by first | exact hr1 | exact hr2) _ | with_reducible refine bel_setRow ?_ (by first | exact hr1 | exact hr2 | omega | (simp; done) | (refine Nat.le_trans ?_ (top_le _ _); simp; done) | (refine Nat.le_succ_of_le (Nat.le_trans ?_ (top_le _ _)); simp; done)) _))⟩
          case measure => simp [intOf]
    · obtain ⟨⟨is_, ir⟩, us, ur⟩ := spI_small (f := o.z) (s := d.z) (l := l.z) (h := h.z) ho.2.2 hd.2.2 hl.2.2 hh.2.2
      have sp := span_any (o.z) (d.z) (l.z) (h.z) ho.2.2 hd.2.2 hl.2.2 hh.2.2
      have hnext : stC o d l h 3 = (if ltF a (spI (o.z) (d.z) (l.z) (h.z)) then spI (o.z) (d.z) (l.z) (h.z) else a, if ltF (spO (o.z) (d.z) (l.z) (h.z)) b then spO (o.z) (d.z) (l.z) (h.z) else b) := by
        show (if ltF (stC o d l h 2).1 _ then _ else (stC o d l h 2).1, if ltF _ (stC o d l h 2).2 then _ else (stC o d l h 2).2) = _
        rw [hst.out]; rfl
      generalize spI (o.z) (d.z) (l.z) (h.z) = I at *
      generalize spO (o.z) (d.z) (l.z) (h.z) = O at *
      have ab1 := above_any I a (smallF_in is_) (smallF_in sa) ir ra
      have ab2 := above_any b O (smallF_in sb') (smallF_in us) rb ur
      replace hnext := Lib.hid hnext
      clear hst HR
      go_upto_region 9 with (first | (go_at_call 53; first | ((with_reducible refine (sp.at_ _).mono ?_); rintro e w' ⟨rfl, xg, rfl⟩)) | (refine wpList_val rfl _ _ (idx2 _ _ _ _ _ rfl _ _ _ _ _ _ _ _ _ _ _ _ rfl rfl) ?_))
      have C1 : Blk (((grow (wr.alloc (.cells #[.int .i64 o.z, .int .i64 d.z, .int .i64 l.z, .int .i64 h.z] 114)) xg).alloc (.cells #[.int .i64 I.n, .int .i64 I.d] 70)).alloc (.cells #[.int .i64 O.n, .int .i64 O.d] 70)) g1 70 #[.int .i64 a.n, .int .i64 a.d] := (by repeat (first | with_reducible exact hb1 | with_reducible exact hb2 | with_reducible exact hb3 | with_reducible exact hb4 | with_reducible exact Blk.new _ _ _ _ rfl | (with_reducible refine Blk.new _ _ _ _ ?_; simp; done) | with_reducible refine Blk.alloc ?_ _ | with_reducible refine Blk.grow ?_ _ | with_reducible apply Blk.setRow | with_reducible apply Blk.set0 | with_reducible apply Blk.set1 | (with_reducible refine Blk.far_ ?_ _ _ ?_; (first | exact hne | exact Ne.symm hne | exact ne_far hb1.lt _ _ _ | exact ne_far0 hb1.lt _ _ | exact ne_far hb2.lt _ _ _ | exact ne_far0 hb2.lt _ _ | exact ne_far hb3.lt _ _ _ | exact ne_far hb4.lt _ _ _ | omega)) | (with_reducible refine Blk.farRow_ ?_ _ ?_; (first | exact hne | exact Ne.symm hne | exact ne_far hb1.lt _ _ _ | exact ne_far0 hb1.lt _ _ | exact ne_far hb2.lt _ _ _ | exact ne_far0 hb2.lt _ _ | exact ne_far hb3.lt _ _ _ | exact ne_far hb4.lt _ _ _ | omega))))
      have C2 : Blk (((grow (wr.alloc (.cells #[.int .i64 o.z, .int .i64 d.z, .int .i64 l.z, .int .i64 h.z] 114)) xg).alloc (.cells #[.int .i64 I.n, .int .i64 I.d] 70)).alloc (.cells #[.int .i64 O.n, .int .i64 O.d] 70)) g2 70 #[.int .i64 b.n, .int .i64 b.d] := (by repeat (first | with_reducible exact hb1 | with_reducible exact hb2 | with_reducible exact hb3 | with_reducible exact hb4 | with_reducible exact Blk.new _ _ _ _ rfl | (with_reducible refine Blk.new _ _ _ _ ?_; simp; done) | with_reducible refine Blk.alloc ?_ _ | with_reducible refine Blk.grow ?_ _ | with_reducible apply Blk.setRow | with_reducible apply Blk.set0 | with_reducible apply Blk.set1 | (with_reducible refine Blk.far_ ?_ _ _ ?_; (first | exact hne | exact Ne.symm hne | exact ne_far hb1.lt _ _ _ | exact ne_far0 hb1.lt _ _ | exact ne_far hb2.lt _ _ _ | exact ne_far0 hb2.lt _ _ | exact ne_far hb3.lt _ _ _ | exact ne_far hb4.lt _ _ _ | omega)) | (with_reducible refine Blk.farRow_ ?_ _ ?_; (first | exact hne | exact Ne.symm hne | exact ne_far hb1.lt _ _ _ | exact ne_far0 hb1.lt _ _ | exact ne_far hb2.lt _ _ _ | exact ne_far0 hb2.lt _ _ | exact ne_far hb3.lt _ _ _ | exact ne_far hb4.lt _ _ _ | omega))))
      have C3 : Blk (((grow (wr.alloc (.cells #[.int .i64 o.z, .int .i64 d.z, .int .i64 l.z, .int .i64 h.z] 114)) xg).alloc (.cells #[.int .i64 I.n, .int .i64 I.d] 70)).alloc (.cells #[.int .i64 O.n, .int .i64 O.d] 70)) (w.heap.size + 1 + 1 + 1) 70 #[.int .i64 0, .int .i64 0] := (by repeat (first | with_reducible exact hb1 | with_reducible exact hb2 | with_reducible exact hb3 | with_reducible exact hb4 | with_reducible exact Blk.new _ _ _ _ rfl | (with_reducible refine Blk.new _ _ _ _ ?_; simp; done) | with_reducible refine Blk.alloc ?_ _ | with_reducible refine Blk.grow ?_ _ | with_reducible apply Blk.setRow | with_reducible apply Blk.set0 | with_reducible apply Blk.set1 | (with_reducible refine Blk.far_ ?_ _ _ ?_; (first | exact hne | exact Ne.symm hne | exact ne_far hb1.lt _ _ _ | exact ne_far0 hb1.lt _ _ | exact ne_far hb2.lt _ _ _ | exact ne_far0 hb2.lt _ _ | exact ne_far hb3.lt _ _ _ | exact ne_far hb4.lt _ _ _ | omega)) | (with_reducible refine Blk.farRow_ ?_ _ ?_; (first | exact hne | exact Ne.symm hne | exact ne_far hb1.lt _ _ _ | exact ne_far0 hb1.lt _ _ | exact ne_far hb2.lt _ _ _ | exact ne_far0 hb2.lt _ _ | exact ne_far hb3.lt _ _ _ | exact ne_far hb4.lt _ _ _ | omega))))
      have C4 : Blk (((grow (wr.alloc (.cells #[.int .i64 o.z, .int .i64 d.z, .int .i64 l.z, .int .i64 h.z] 114)) xg).alloc (.cells #[.int .i64 I.n, .int .i64 I.d] 70)).alloc (.cells #[.int .i64 O.n, .int .i64 O.d] 70)) (w.heap.size + 1 + 1 + 1 + 1) 70 #[.int .i64 0, .int .i64 0] := (by repeat (first | with_reducible exact hb1 | with_reducible exact hb2 | with_reducible exact hb3 | with_reducible exact hb4 | with_reducible exact Blk.new _ _ _ _ rfl | (with_reducible refine Blk.new _ _ _ _ ?_; simp; done) | with_reducible refine Blk.alloc ?_ _ | with_reducible refine Blk.grow ?_ _ | with_reducible apply Blk.setRow | with_reducible apply Blk.set0 | with_reducible apply Blk.set1 | (with_reducible refine Blk.far_ ?_ _ _ ?_; (first | exact hne | exact Ne.symm hne | exact ne_far hb1.lt _ _ _ | exact ne_far0 hb1.lt _ _ | exact ne_far hb2.lt _ _ _ | exact ne_far0 hb2.lt _ _ | exact ne_far hb3.lt _ _ _ | exact ne_far hb4.lt _ _ _ | omega)) | (with_reducible refine Blk.farRow_ ?_ _ ?_; (first | exact hne | exact Ne.symm hne | exact ne_far hb1.lt _ _ _ | exact ne_far0 hb1.lt _ _ | exact ne_far hb2.lt _ _ _ | exact ne_far0 hb2.lt _ _ | exact ne_far hb3.lt _ _ _ | exact ne_far hb4.lt _ _ _ | omega))))
      have C5 : Blk (((grow (wr.alloc (.cells #[.int .i64 o.z, .int .i64 d.z, .int .i64 l.z, .int .i64 h.z] 114)) xg).alloc (.cells #[.int .i64 I.n, .int .i64 I.d] 70)).alloc (.cells #[.int .i64 O.n, .int .i64 O.d] 70)) ((grow (wr.alloc (.cells #[.int .i64 o.z, .int .i64 d.z, .int .i64 l.z, .int .i64 h.z] 114)) xg).heap.size) 70 #[.int .i64 I.n, .int .i64 I.d] := (by repeat (first | with_reducible exact hb1 | with_reducible exact hb2 | with_reducible exact hb3 | with_reducible exact hb4 | with_reducible exact Blk.new _ _ _ _ rfl | (with_reducible refine Blk.new _ _ _ _ ?_; simp; done) | with_reducible refine Blk.alloc ?_ _ | with_reducible refine Blk.grow ?_ _ | with_reducible apply Blk.setRow | with_reducible apply Blk.set0 | with_reducible apply Blk.set1 | (with_reducible refine Blk.far_ ?_ _ _ ?_; (first | exact hne | exact Ne.symm hne | exact ne_far hb1.lt _ _ _ | exact ne_far0 hb1.lt _ _ | exact ne_far hb2.lt _ _ _ | exact ne_far0 hb2.lt _ _ | exact ne_far hb3.lt _ _ _ | exact ne_far hb4.lt _ _ _ | omega)) | (with_reducible refine Blk.farRow_ ?_ _ ?_; (first | exact hne | exact Ne.symm hne | exact ne_far hb1.lt _ _ _ | exact ne_far0 hb1.lt _ _ | exact ne_far hb2.lt _ _ _ | exact ne_far0 hb2.lt _ _ | exact ne_far hb3.lt _ _ _ | exact ne_far hb4.lt _ _ _ | omega))))
      have C6 : Blk (((grow (wr.alloc (.cells #[.int .i64 o.z, .int .i64 d.z, .int .i64 l.z, .int .i64 h.z] 114)) xg).alloc (.cells #[.int .i64 I.n, .int .i64 I.d] 70)).alloc (.cells #[.int .i64 O.n, .int .i64 O.d] 70)) ((grow (wr.alloc (.cells #[.int .i64 o.z, .int .i64 d.z, .int .i64 l.z, .int .i64 h.z] 114)) xg).heap.size + 1) 70 #[.int .i64 O.n, .int .i64 O.d] := (by repeat (first | with_reducible exact hb1 | with_reducible exact hb2 | with_reducible exact hb3 | with_reducible exact hb4 | with_reducible exact Blk.new _ _ _ _ rfl | (with_reducible refine Blk.new _ _ _ _ ?_; simp; done) | with_reducible refine Blk.alloc ?_ _ | with_reducible refine Blk.grow ?_ _ | with_reducible apply Blk.setRow | with_reducible apply Blk.set0 | with_reducible apply Blk.set1 | (with_reducible refine Blk.far_ ?_ _ _ ?_; (first | exact hne | exact Ne.symm hne | exact ne_far hb1.lt _ _ _ | exact ne_far0 hb1.lt _ _ | exact ne_far hb2.lt _ _ _ | exact ne_far0 hb2.lt _ _ | exact ne_far hb3.lt _ _ _ | exact ne_far hb4.lt _ _ _ | omega)) | (with_reducible refine Blk.farRow_ ?_ _ ?_; (first | exact hne | exact Ne.symm hne | exact ne_far hb1.lt _ _ _ | exact ne_far0 hb1.lt _ _ | exact ne_far hb2.lt _ _ _ | exact ne_far0 hb2.lt _ _ | exact ne_far hb3.lt _ _ _ | exact ne_far hb4.lt _ _ _ | omega))))
      have CB : Below w.heap.size w (((grow (wr.alloc (.cells #[.int .i64 o.z, .int .i64 d.z, .int .i64 l.z, .int .i64 h.z] 114)) xg).alloc (.cells #[.int .i64 I.n, .int .i64 I.d] 70)).alloc (.cells #[.int .i64 O.n, .int .i64 O.d] 70)) := (by repeat (first | with_reducible exact hbel | with_reducible refine bel_then ?_ _ | with_reducible refine bel_grow ?_ _ | with_reducible refine bel_alloc ?_ _ | with_reducible refine bel_drew ?_ | with_reducible refine bel_set ?_ (by simp) _ | with_reducible refine bel_setRow ?_ (by first | omega | (simp; done) | (refine Nat.le_trans ?_ (top_le _ _); simp; done) | (refine Nat.le_succ_of_le (Nat.le_trans ?_ (top_le _ _)); simp; done)) _))
      have n1 : (grow (wr.alloc (.cells #[.int .i64 o.z, .int .i64 d.z, .int .i64 l.z, .int .i64 h.z] 114)) xg).heap.size ≠ g1 := Ne.symm (ne_far0 hb1.lt _ _)
      have n2 : (grow (wr.alloc (.cells #[.int .i64 o.z, .int .i64 d.z, .int .i64 l.z, .int .i64 h.z] 114)) xg).heap.size ≠ g2 := Ne.symm (ne_far0 hb2.lt _ _)
      have n3 : (grow (wr.alloc (.cells #[.int .i64 o.z, .int .i64 d.z, .int .i64 l.z, .int .i64 h.z] 114)) xg).heap.size + 1 ≠ g1 := Ne.symm (ne_far hb1.lt _ _ 1)
      have n4 : (grow (wr.alloc (.cells #[.int .i64 o.z, .int .i64 d.z, .int .i64 l.z, .int .i64 h.z] 114)) xg).heap.size + 1 ≠ g2 := Ne.symm (ne_far hb2.lt _ _ 1)
      generalize (grow (wr.alloc (.cells #[.int .i64 o.z, .int .i64 d.z, .int .i64 l.z, .int .i64 h.z] 114)) xg).heap.size + 1 = go_ at *
      generalize (grow (wr.alloc (.cells #[.int .i64 o.z, .int .i64 d.z, .int .i64 l.z, .int .i64 h.z] 114)) xg).heap.size = gi at *
      generalize (((grow (wr.alloc (.cells #[.int .i64 o.z, .int .i64 d.z, .int .i64 l.z, .int .i64 h.z] 114)) xg).alloc (.cells #[.int .i64 I.n, .int .i64 I.d] 70)).alloc (.cells #[.int .i64 O.n, .int .i64 O.d] 70)) = V at *
      clear hb1 hb2 hb3 hb4 hbel sp
      have l1 := C1.lt
      have l2 := C2.lt
      have l3 := C3.lt
      have l4 := C4.lt
      have l5 := C5.lt
      have l6 := C6.lt
      have f1 := C1.frozen
      have f2 := C2.frozen
      have c10 := C1.cell 0
      have c11 := C1.cell 1
      have c20 := C2.cell 0
      have c21 := C2.cell 1
      have c50 := C5.cell 0
      have c51 := C5.cell 1
      have c60 := C6.cell 0
      have c61 := C6.cell 1
      simp at c10 c11 c20 c21 c50 c51 c60 c61
      by_cases c1 : ltF a I = true
      · rw [c1] at ab1
        by_cases c2 : ltF O b = true
        · rw [c2] at ab2
          have next := Lib.hid (show stC o d l h 3 = (I, O) by rw [hnext.out, c1, c2]; rfl)
          clear hnext c1 c2
          have GOOD := Lib.hid (show (smallF I ∧ RightF I) ∧ smallF O ∧ RightF O from ⟨⟨is_, ir⟩, us, ur⟩)
          clear is_ ir us ur sa ra sb' rb
          go_wp2_with (first | (go_at_call 54; first | ((with_reducible refine (ab1.at_ _).mono ?_); rintro e w' ⟨rfl, xg, rfl⟩) | ((with_reducible refine (ab2.at_ _).mono ?_); rintro e w' ⟨rfl, xg, rfl⟩)) | (refine wpF_store rfl _ _ rfl _ rfl _ _ rfl ?xm ?xn ?hb ?hk; case hb => (repeat (first | with_reducible exact C1 | with_reducible exact C2 | with_reducible exact C3 | with_reducible exact C4 | with_reducible exact Blk.new _ _ _ _ rfl | (with_reducible refine Blk.new _ _ _ _ ?_; simp; done) | with_reducible refine Blk.alloc ?_ _ | with_reducible refine Blk.grow ?_ _ | with_reducible apply Blk.setRow | with_reducible apply Blk.set0 | with_reducible apply Blk.set1 | (with_reducible refine Blk.far_ ?_ _ _ ?_; (first | exact hne | exact Ne.symm hne | assumption | (refine Ne.symm ?_; assumption))) | (with_reducible refine Blk.farRow_ ?_ _ ?_; (first | exact hne | exact Ne.symm hne | assumption | (refine Ne.symm ?_; assumption)))); done)))
          go_roundw
          case rel => exact ⟨3, 3, I, O, by go_num, by omega, by omega, next, GOOD.out, ⟨(by repeat (first | with_reducible exact C1 | with_reducible exact C2 | with_reducible exact C3 | with_reducible exact C4 | with_reducible exact Blk.new _ _ _ _ rfl | (with_reducible refine Blk.new _ _ _ _ ?_; simp; done) | with_reducible refine Blk.alloc ?_ _ | with_reducible refine Blk.grow ?_ _ | with_reducible apply Blk.setRow | with_reducible apply Blk.set0 | with_reducible apply Blk.set1 | (with_reducible refine Blk.far_ ?_ _ _ ?_; (first | exact hne | exact Ne.symm hne | assumption | (refine Ne.symm ?_; assumption))) | (with_reducible refine Blk.farRow_ ?_ _ ?_; (first | exact hne | exact Ne.symm hne | assumption | (refine Ne.symm ?_; assumption))))), (by repeat (first | with_reducible exact C1 | with_reducible exact C2 | with_reducible exact C3 | with_reducible exact C4 | with_reducible exact Blk.new _ _ _ _ rfl | (with_reducible refine Blk.new _ _ _ _ ?_; simp; done) | with_reducible refine Blk.alloc ?_ _ | with_reducible refine Blk.grow ?_ _ | with_reducible apply Blk.setRow | with_reducible apply Blk.set0 | with_reducible apply Blk.set1 | (with_reducible refine Blk.far_ ?_ _ _ ?_; (first | exact hne | exact Ne.symm hne | assumption | (refine Ne.symm ?_; assumption))) | (with_reducible refine Blk.farRow_ ?_ _ ?_; (first | exact hne | exact Ne.symm hne | assumption | (refine Ne.symm ?_; assumption))))), (by repeat (first | with_reducible exact C1 | with_reducible exact C2 | with_reducible exact C3 | with_reducible exact C4 | with_reducible exact Blk.new _ _ _ _ rfl | (with_reducible refine Blk.new _ _ _ _ ?_; simp; done) | with_reducible refine Blk.alloc ?_ _ | with_reducible refine Blk.grow ?_ _ | with_reducible apply Blk.setRow | with_reducible apply Blk.set0 | with_reducible apply Blk.set1 | (with_reducible refine Blk.far_ ?_ _ _ ?_; (first | exact hne | exact Ne.symm hne | assumption | (refine Ne.symm ?_; assumption))) | (with_reducible refine Blk.farRow_ ?_ _ ?_; (first | exact hne | exact Ne.symm hne | assumption | (refine Ne.symm ?_; assumption))))), (by repeat (first | with_reducible exact C1 | with_reducible exact C2 | with_reducible exact C3 | with_reducible exact C4 | with_reducible exact Blk.new _ _ _ _ rfl | (with_reducible refine Blk.new _ _ _ _ ?_; simp; done) | with_reducible refine Blk.alloc ?_ _ | with_reducible refine Blk.grow ?_ _ | with_reducible apply Blk.setRow | with_reducible apply Blk.set0 | with_reducible apply Blk.set1 | (with_reducible refine Blk.far_ ?_ _ _ ?_; (first | exact hne | exact Ne.symm hne | assumption | (refine Ne.symm ?_; assumption))) | (with_reducible refine Blk.farRow_ ?_ _ ?_; (first | exact hne | exact Ne.symm hne | assumption | (refine Ne.symm ?_; assumption)))))⟩, (by repeat (first | with_reducible exact CB | with_reducible refine bel_then ?_ _ | with_reducible refine bel_grow ?_ _ | with_reducible refine bel_alloc ?_ _ | with_reducible refine bel_drew ?_ | with_reducible refine bel_set ?_ (by first | exact hr1 | exact hr2) _ | with_reducible refine bel_setRow ?_ (by first | exact hr1 | exact hr2 | omega | (simp; done) | (refine Nat.le_trans ?_ (top_le _ _); simp; done) | (refine Nat.le_succ_of_le (Nat.le_trans ?_ (top_le _ _)); simp; done)) _))⟩
          case measure => simp [intOf]
        · have c2 : ltF O b = false := by simpa using c2
          rw [c2] at ab2
          have next := Lib.hid (show stC o d l h 3 = (I, b) by rw [hnext.out, c1, c2]; rfl)
          clear hnext c1 c2
          have GOOD := Lib.hid (show (smallF I ∧ RightF I) ∧ smallF b ∧ RightF b from ⟨⟨is_, ir⟩, sb', rb⟩)
          clear is_ ir us ur sa ra sb' rb
          go_wp2_with (first | (go_at_call 54; first | ((with_reducible refine (ab1.at_ _).mono ?_); rintro e w' ⟨rfl, xg, rfl⟩) | ((with_reducible refine (ab2.at_ _).mono ?_); rintro e w' ⟨rfl, xg, rfl⟩)) | (refine wpF_store rfl _ _ rfl _ rfl _ _ rfl ?xm ?xn ?hb ?hk; case hb => (repeat (first | with_reducible exact C1 | with_reducible exact C2 | with_reducible exact C3 | with_reducible exact C4 | with_reducible exact Blk.new _ _ _ _ rfl | (with_reducible refine Blk.new _ _ _ _ ?_; simp; done) | with_reducible refine Blk.alloc ?_ _ | with_reducible refine Blk.grow ?_ _ | with_reducible apply Blk.setRow | with_reducible apply Blk.set0 | with_reducible apply Blk.set1 | (with_reducible refine Blk.far_ ?_ _ _ ?_; (first | exact hne | exact Ne.symm hne | assumption | (refine Ne.symm ?_; assumption))) | (with_reducible refine Blk.farRow_ ?_ _ ?_; (first | exact hne | exact Ne.symm hne | assumption | (refine Ne.symm ?_; assumption)))); done)))
          go_roundw
          case rel => exact ⟨3, 3, I, b, by go_num, by omega, by omega, next, GOOD.out, ⟨(by repeat (first | with_reducible exact C1 | with_reducible exact C2 | with_reducible exact C3 | with_reducible exact C4 | with_reducible exact Blk.new _ _ _ _ rfl | (with_reducible refine Blk.new _ _ _ _ ?_; simp; done) | with_reducible refine Blk.alloc ?_ _ | with_reducible refine Blk.grow ?_ _ | with_reducible apply Blk.setRow | with_reducible apply Blk.set0 | with_reducible apply Blk.set1 | (with_reducible refine Blk.far_ ?_ _ _ ?_; (first | exact hne | exact Ne.symm hne | assumption | (refine Ne.symm ?_; assumption))) | (with_reducible refine Blk.farRow_ ?_ _ ?_; (first | exact hne | exact Ne.symm hne | assumption | (refine Ne.symm ?_; assumption))))), (by repeat (first | with_reducible exact C1 | with_reducible exact C2 | with_reducible exact C3 | with_reducible exact C4 | with_reducible exact Blk.new _ _ _ _ rfl | (with_reducible refine Blk.new _ _ _ _ ?_; simp; done) | with_reducible refine Blk.alloc ?_ _ | with_reducible refine Blk.grow ?_ _ | with_reducible apply Blk.setRow | with_reducible apply Blk.set0 | with_reducible apply Blk.set1 | (with_reducible refine Blk.far_ ?_ _ _ ?_; (first | exact hne | exact Ne.symm hne | assumption | (refine Ne.symm ?_; assumption))) | (with_reducible refine Blk.farRow_ ?_ _ ?_; (first | exact hne | exact Ne.symm hne | assumption | (refine Ne.symm ?_; assumption))))), (by repeat (first | with_reducible exact C1 | with_reducible exact C2 | with_reducible exact C3 | with_reducible exact C4 | with_reducible exact Blk.new _ _ _ _ rfl | (with_reducible refine Blk.new _ _ _ _ ?_; simp; done) | with_reducible refine Blk.alloc ?_ _ | with_reducible refine Blk.grow ?_ _ | with_reducible apply Blk.setRow | with_reducible apply Blk.set0 | with_reducible apply Blk.set1 | (with_reducible refine Blk.far_ ?_ _ _ ?_; (first | exact hne | exact Ne.symm hne | assumption | (refine Ne.symm ?_; assumption))) | (with_reducible refine Blk.farRow_ ?_ _ ?_; (first | exact hne | exact Ne.symm hne | assumption | (refine Ne.symm ?_; assumption))))), (by repeat (first | with_reducible exact C1 | with_reducible exact C2 | with_reducible exact C3 | with_reducible exact C4 | with_reducible exact Blk.new _ _ _ _ rfl | (with_reducible refine Blk.new _ _ _ _ ?_; simp; done) | with_reducible refine Blk.alloc ?_ _ | with_reducible refine Blk.grow ?_ _ | with_reducible apply Blk.setRow | with_reducible apply Blk.set0 | with_reducible apply Blk.set1 | (with_reducible refine Blk.far_ ?_ _ _ ?_; (first | exact hne | exact Ne.symm hne | assumption | (refine Ne.symm ?_; assumption))) | (with_reducible refine Blk.farRow_ ?_ _ ?_; (first | exact hne | exact Ne.symm hne | assumption | (refine Ne.symm ?_; assumption)))))⟩, (by repeat (first | with_reducible exact CB | with_reducible refine bel_then ?_ _ | with_reducible refine bel_grow ?_ _ | with_reducible refine bel_alloc ?_ _ | with_reducible refine bel_drew ?_ | with_reducible refine bel_set ?_ (by first | exact hr1 | exact hr2) _ | with_reducible refine bel_setRow ?_ (by first | exact hr1 | exact hr2 | omega | (simp; done) | (refine Nat.le_trans ?_ (top_le _ _); simp; done) | (refine Nat.le_succ_of_le (Nat.le_trans ?_ (top_le _ _)); simp; done)) _))⟩
          case measure => simp [intOf]
      · have c1 : ltF a I = false := by simpa using c1
        rw [c1] at ab1
        by_cases c2 : ltF O b = true
        · rw [c2] at ab2
          have next := Lib.hid (show stC o d l h 3 = (a, O) by rw [hnext.out, c1, c2]; rfl)
          clear hnext c1 c2
          have GOOD := Lib.hid (show (smallF a ∧ RightF a) ∧ smallF O ∧ RightF O from ⟨⟨sa, ra⟩, us, ur⟩)
          clear is_ ir us ur sa ra sb' rb
          go_wp2_with (first | (go_at_call 54; first | ((with_reducible refine (ab1.at_ _).mono ?_); rintro e w' ⟨rfl, xg, rfl⟩) | ((with_reducible refine (ab2.at_ _).mono ?_); rintro e w' ⟨rfl, xg, rfl⟩)) | (refine wpF_store rfl _ _ rfl _ rfl _ _ rfl ?xm ?xn ?hb ?hk; case hb => (repeat (first | with_reducible exact C1 | with_reducible exact C2 | with_reducible exact C3 | with_reducible exact C4 | with_reducible exact Blk.new _ _ _ _ rfl | (with_reducible refine Blk.new _ _ _ _ ?_; simp; done) | with_reducible refine Blk.alloc ?_ _ | with_reducible refine Blk.grow ?_ _ | with_reducible apply Blk.setRow | with_reducible apply Blk.set0 | with_reducible apply Blk.set1 | (with_reducible refine Blk.far_ ?_ _ _ ?_; (first | exact hne | exact Ne.symm hne | assumption | (refine Ne.symm ?_; assumption))) | (with_reducible refine Blk.farRow_ ?_ _ ?_; (first | exact hne | exact Ne.symm hne | assumption | (refine Ne.symm ?_; assumption)))); done)))
          go_roundw
          case rel => exact ⟨3, 3, a, O, by go_num, by omega, by omega, next, GOOD.out, ⟨(by repeat (first | with_reducible exact C1 | with_reducible exact C2 | with_reducible exact C3 | with_reducible exact C4 | with_reducible exact Blk.new _ _ _ _ rfl | (with_reducible refine Blk.new _ _ _ _ ?_; simp; done) | with_reducible refine Blk.alloc ?_ _ | with_reducible refine Blk.grow ?_ _ | with_reducible apply Blk.setRow | with_reducible apply Blk.set0 | with_reducible apply Blk.set1 | (with_reducible refine Blk.far_ ?_ _ _ ?_; (first | exact hne | exact Ne.symm hne | assumption | (refine Ne.symm ?_; assumption))) | (with_reducible refine Blk.farRow_ ?_ _ ?_; (first | exact hne | exact Ne.symm hne | assumption | (refine Ne.symm ?_; assumption))))), (by repeat (first | with_reducible exact C1 | with_reducible exact C2 | with_reducible exact C3 | with_reducible exact C4 | with_reducible exact Blk.new _ _ _ _ rfl | (with_reducible refine Blk.new _ _ _ _ ?_; simp; done) | with_reducible refine Blk.alloc ?_ _ | with_reducible refine Blk.grow ?_ _ | with_reducible apply Blk.setRow | with_reducible apply Blk.set0 | with_reducible apply Blk.set1 | (with_reducible refine Blk.far_ ?_ _ _ ?_; (first | exact hne | exact Ne.symm hne | assumption | (refine Ne.symm ?_; assumption))) | (with_reducible refine Blk.farRow_ ?_ _ ?_; (first | exact hne | exact Ne.symm hne | assumption | (refine Ne.symm ?_; assumption))))), (by repeat (first | with_reducible exact C1 | with_reducible exact C2 | with_reducible exact C3 | with_reducible exact C4 | with_reducible exact Blk.new _ _ _ _ rfl | (with_reducible refine Blk.new _ _ _ _ ?_; simp; done) | with_reducible refine Blk.alloc ?_ _ | with_reducible refine Blk.grow ?_ _ | with_reducible apply Blk.setRow | with_reducible apply Blk.set0 | with_reducible apply Blk.set1 | (with_reducible refine Blk.far_ ?_ _ _ ?_; (first | exact hne | exact Ne.symm hne | assumption | (refine Ne.symm ?_; assumption))) | (with_reducible refine Blk.farRow_ ?_ _ ?_; (first | exact hne | exact Ne.symm hne | assumption | (refine Ne.symm ?_; assumption))))), (by repeat (first | with_reducible exact C1 | with_reducible exact C2 | with_reducible exact C3 | with_reducible exact C4 | with_reducible exact Blk.new _ _ _ _ rfl | (with_reducible refine Blk.new _ _ _ _ ?_; simp; done) | with_reducible refine Blk.alloc ?_ _ | with_reducible refine Blk.grow ?_ _ | with_reducible apply Blk.setRow | with_reducible apply Blk.set0 | with_reducible apply Blk.set1 | (with_reducible refine Blk.far_ ?_ _ _ ?_; (first | exact hne | exact Ne.symm hne | assumption | (refine Ne.symm ?_; assumption))) | (with_reducible refine Blk.farRow_ ?_ _ ?_; (first | exact hne | exact Ne.symm hne | assumption | (refine Ne.symm ?_; assumption)))))⟩, (by repeat (first | with_reducible exact CB | with_reducible refine bel_then ?_ _ | with_reducible refine bel_grow ?_ _ | with_reducible refine bel_alloc ?_ _ | with_reducible refine bel_drew ?_ | with_reducible refine bel_set ?_ (by first | exact hr1 | exact hr2) _ | with_reducible refine bel_setRow ?_ (by first | exact hr1 | exact hr2 | omega | (simp; done) | (refine Nat.le_trans ?_ (top_le _ _); simp; done) | (refine Nat.le_succ_of_le (Nat.le_trans ?_ (top_le _ _)); simp; done)) _))⟩
          case measure => simp [intOf]
        · have c2 : ltF O b = false := by simpa using c2
          rw [c2] at ab2
          have next := Lib.hid (show stC o d l h 3 = (a, b) by rw [hnext.out, c1, c2]; rfl)
          clear hnext c1 c2
          have GOOD := Lib.hid (show (smallF a ∧ RightF a) ∧ smallF b ∧ RightF b from ⟨⟨sa, ra⟩, sb', rb⟩)
          clear is_ ir us ur sa ra sb' rb
          go_wp2_with (first | (go_at_call 54; first | ((with_reducible refine (ab1.at_ _).mono ?_); rintro e w' ⟨rfl, xg, rfl⟩) | ((with_reducible refine (ab2.at_ _).mono ?_); rintro e w' ⟨rfl, xg, rfl⟩)) | (refine wpF_store rfl _ _ rfl _ rfl _ _ rfl ?xm ?xn ?hb ?hk; case hb => (repeat (first | with_reducible exact C1 | with_reducible exact C2 | with_reducible exact C3 | with_reducible exact C4 | with_reducible exact Blk.new _ _ _ _ rfl | (with_reducible refine Blk.new _ _ _ _ ?_; simp; done) | with_reducible refine Blk.alloc ?_ _ | with_reducible refine Blk.grow ?_ _ | with_reducible apply Blk.setRow | with_reducible apply Blk.set0 | with_reducible apply Blk.set1 | (with_reducible refine Blk.far_ ?_ _ _ ?_; (first | exact hne | exact Ne.symm hne | assumption | (refine Ne.symm ?_; assumption))) | (with_reducible refine Blk.farRow_ ?_ _ ?_; (first | exact hne | exact Ne.symm hne | assumption | (refine Ne.symm ?_; assumption)))); done)))
          go_roundw
          case rel => exact ⟨3, 3, a, b, by go_num, by omega, by omega, next, GOOD.out, ⟨(by repeat (first | with_reducible exact C1 | with_reducible exact C2 | with_reducible exact C3 | with_reducible exact C4 | with_reducible exact Blk.new _ _ _ _ rfl | (with_reducible refine Blk.new _ _ _ _ ?_; simp; done) | with_reducible refine Blk.alloc ?_ _ | with_reducible refine Blk.grow ?_ _ | with_reducible apply Blk.setRow | with_reducible apply Blk.set0 | with_reducible apply Blk.set1 | (with_reducible refine Blk.far_ ?_ _ _ ?_; (first | exact hne | exact Ne.symm hne | assumption | (refine Ne.symm ?_; assumption))) | (with_reducible refine Blk.farRow_ ?_ _ ?_; (first | exact hne | exact Ne.symm hne | assumption | (refine Ne.symm ?_; assumption))))), (by repeat (first | with_reducible exact C1 | with_reducible exact C2 | with_reducible exact C3 | with_reducible exact C4 | with_reducible exact Blk.new _ _ _ _ rfl | (with_reducible refine Blk.new _ _ _ _ ?_; simp; done) | with_reducible refine Blk.alloc ?_ _ | with_reducible refine Blk.grow ?_ _ | with_reducible apply Blk.setRow | with_reducible apply Blk.set0 | with_reducible apply Blk.set1 | (with_reducible refine Blk.far_ ?_ _ _ ?_; (first | exact hne | exact Ne.symm hne | assumption | (refine Ne.symm ?_; assumption))) | (with_reducible refine Blk.farRow_ ?_ _ ?_; (first | exact hne | exact Ne.symm hne | assumption | (refine Ne.symm ?_; assumption))))), (by repeat (first | with_reducible exact C1 | with_reducible exact C2 | with_reducible exact C3 | with_reducible exact C4 | with_reducible exact Blk.new _ _ _ _ rfl | (with_reducible refine Blk.new _ _ _ _ ?_; simp; done) | with_reducible refine Blk.alloc ?_ _ | with_reducible refine Blk.grow ?_ _ | with_reducible apply Blk.setRow | with_reducible apply Blk.set0 | with_reducible apply Blk.set1 | (with_reducible refine Blk.far_ ?_ _ _ ?_; (first | exact hne | exact Ne.symm hne | assumption | (refine Ne.symm ?_; assumption))) | (with_reducible refine Blk.farRow_ ?_ _ ?_; (first | exact hne | exact Ne.symm hne | assumption | (refine Ne.symm ?_; assumption))))), (by repeat (first | with_reducible exact C1 | with_reducible exact C2 | with_reducible exact C3 | with_reducible exact C4 | with_reducible exact Blk.new _ _ _ _ rfl | (with_reducible refine Blk.new _ _ _ _ ?_; simp; done) | with_reducible refine Blk.alloc ?_ _ | with_reducible refine Blk.grow ?_ _ | with_reducible apply Blk.setRow | with_reducible apply Blk.set0 | with_reducible apply Blk.set1 | (with_reducible refine Blk.far_ ?_ _ _ ?_; (first | exact hne | exact Ne.symm hne | assumption | (refine Ne.symm ?_; assumption))) | (with_reducible refine Blk.farRow_ ?_ _ ?_; (first | exact hne | exact Ne.symm hne | assumption | (refine Ne.symm ?_; assumption)))))⟩, (by repeat (first | with_reducible exact CB | with_reducible refine bel_then ?_ _ | with_reducible refine bel_grow ?_ _ | with_reducible refine bel_alloc ?_ _ | with_reducible refine bel_drew ?_ | with_reducible refine bel_set ?_ (by first | exact hr1 | exact hr2) _ | with_reducible refine bel_setRow ?_ (by first | exact hr1 | exact hr2 | omega | (simp; done) | (refine Nat.le_trans ?_ (top_le _ _); simp; done) | (refine Nat.le_succ_of_le (Nat.le_trans ?_ (top_le _ _)); simp; done)) _))⟩
          case measure => simp [intOf]
    · have l1 := hb1.lt
      have f1 := hb1.frozen
      have c10 := hb1.cell 0
      have c11 := hb1.cell 1
      have l2 := hb2.lt
      have f2 := hb2.frozen
      have c20 := hb2.cell 0
      have c21 := hb2.cell 1
      have l3 := hb3.lt
      have f3 := hb3.frozen
      have c30 := hb3.cell 0
      have c31 := hb3.cell 1
      have l4 := hb4.lt
      have f4 := hb4.frozen
      have c40 := hb4.cell 0
      have c41 := hb4.cell 1
      simp at c10 c11 c20 c21 c30 c31 c40 c41
      have ab := above_any a b (smallF_in sa) (smallF_in sb') ra rb
      have hq := HR.out
      unfold rangeC at hq
      rw [hst.out] at hq
      unfold lastR at hq
      simp only at hq
      clear hst HR
      by_cases c : ltF b a = true
      · rw [if_pos c] at hq
        rw [c] at ab
        have HE := Lib.hid (show R1 = ⟨0, 0⟩ ∧ R2 = ⟨0, 0⟩ ∧ R3 = false from by
          have q' : ((⟨0, 0⟩ : Fr), (⟨0, 0⟩ : Fr), false) = (R1, R2, R3) := hq
          simp only [Prod.mk.injEq] at q'
          exact ⟨q'.1.symm, q'.2.1.symm, q'.2.2.symm⟩)
        clear hq c
        go_wp2_with (first | (go_at_call 54; first | ((with_reducible refine (ab.at_ _).mono ?_); rintro e w' ⟨rfl, xg, rfl⟩)))
        refine bodyPost_ret (v := .tuple #[.agg #[.int .i64 0, .int .i64 0], .agg #[.int .i64 0, .int .i64 0], .bool false, .int .i64 0]) (by simp [results, Try.results26, go_sem, c10, c11, c20, c21, c30, c31, c40, c41, f3, f4, l1, l2, l3, l4, hr3, hr4, hr5, hr6, hne]) rfl ⟨by obtain ⟨e1, e2, e3⟩ := HE.out; rw [e1, e2, e3], (by repeat (first | with_reducible exact hbel | with_reducible refine bel_then ?_ _ | with_reducible refine bel_grow ?_ _ | with_reducible refine bel_alloc ?_ _ | with_reducible refine bel_drew ?_ | with_reducible refine bel_set ?_ (by simp; omega) _ | with_reducible refine bel_setRow ?_ (by first | (simp; omega) | (simp; done) | (refine Nat.le_trans ?_ (top_le _ _); simp; done) | (refine Nat.le_succ_of_le (Nat.le_trans ?_ (top_le _ _)); simp; done)) _))⟩
      · have c : ltF b a = false := by simpa using c
        rw [if_neg (by rw [c]; exact Bool.false_ne_true)] at hq
        rw [c] at ab
        have HE := Lib.hid (show R1 = a ∧ R2 = b ∧ R3 = true from by
          have q' : (a, b, true) = (R1, R2, R3) := hq
          simp only [Prod.mk.injEq] at q'
          exact ⟨q'.1.symm, q'.2.1.symm, q'.2.2.symm⟩)
        clear hq c
        go_upto_region 16 with (first | (go_at_call 54; first | ((with_reducible refine (ab.at_ _).mono ?_); rintro e w' ⟨rfl, xg, rfl⟩)))
        replace hb1 := hb1.grow xg
        replace hb2 := hb2.grow xg
        replace hb3 := hb3.grow xg
        replace hb4 := hb4.grow xg
        replace hbel := bel_grow hbel xg
        clear l1 f1 c10 c11 l2 f2 c20 c21 l3 f3 c30 c31 l4 f4 c40 c41
        generalize grow wr xg = V at *
        have l1 := hb1.lt
        have f1 := hb1.frozen
        have c10 := hb1.cell 0
        have c11 := hb1.cell 1
        have l2 := hb2.lt
        have f2 := hb2.frozen
        have c20 := hb2.cell 0
        have c21 := hb2.cell 1
        have l3 := hb3.lt
        have f3 := hb3.frozen
        have c30 := hb3.cell 0
        have c31 := hb3.cell 1
        have l4 := hb4.lt
        have f4 := hb4.frozen
        have c40 := hb4.cell 0
        have c41 := hb4.cell 1
        simp at c10 c11 c20 c21 c30 c31 c40 c41
        go_region_held3 (fun w' => w'.cell? ⟨g1, 0, none⟩ = some (.int .i64 a.n) ∧ w'.cell? ⟨g1, 1, none⟩ = some (.int .i64 a.d) ∧ w'.cell? ⟨g2, 0, none⟩ = some (.int .i64 b.n) ∧ w'.cell? ⟨g2, 1, none⟩ = some (.int .i64 b.d)) (first | go_keep | (simp [go_sem]; done) | (simp [*, go_sem]; done)) (fail)
        all_goals
          go_wp2
          refine bodyPost_ret (v := .tuple #[.agg #[.int .i64 a.n, .int .i64 a.d], .agg #[.int .i64 b.n, .int .i64 b.d], .bool true, .int .i64 0]) (by simp [results, Try.results26, go_sem, c10, c11, c20, c21, c30, c31, c40, c41, f3, f4, l1, l2, l3, l4, hr3, hr4, hr5, hr6, hne]) rfl ⟨by obtain ⟨e1, e2, e3⟩ := HE.out; rw [e1, e2, e3], (by repeat (first | with_reducible exact hbel | with_reducible refine bel_then ?_ _ | with_reducible refine bel_grow ?_ _ | with_reducible refine bel_alloc ?_ _ | with_reducible refine bel_drew ?_ | with_reducible refine bel_set ?_ (by simp; omega) _ | with_reducible refine bel_setRow ?_ (by first | (simp; omega) | (simp; done) | (refine Nat.le_trans ?_ (top_le _ _); simp; done) | (refine Nat.le_succ_of_le (Nat.le_trans ?_ (top_le _ _)); simp; done)) _))⟩
theorem spI_right (f s l h : Int) : RightF (spI f s l h) ∧ RightF (spO f s l h) := by
  unfold spI spO
  by_cases hs : s = 0
  · rw [if_pos hs, if_pos hs]
    split
    · exact ⟨.inl (by decide), .inr ⟨rfl, rfl⟩⟩
    · exact ⟨.inr ⟨rfl, rfl⟩, .inl (by decide)⟩
  · rw [if_neg hs, if_neg hs]
    exact ⟨.inl (inF_d hs), .inl (outF_d hs)⟩
theorem lt_chain {x y a b : Fr} (hx : RightF x) (hy : RightF y) (ha : RightF a) (hb : RightF b) (h : ltF y x = true) (h1 : leF x a) (h2 : leF b y) : ltF b a = true := by
  refine (lt_not_le b a).2 fun h3 => (lt_not_le y x).1 h ?_
  have nx : 0 ≤ x.d := by rcases hx with q | ⟨_, q⟩ <;> omega
  have yd : 0 < y.d := by
    rcases hy with q | ⟨q, q'⟩
    · exact q
    · exfalso
      unfold ltF at h
      rw [q, q'] at h
      simp at h
      omega
  have bd : 0 < b.d := by
    rcases hb with q | ⟨q, q'⟩
    · exact q
    · unfold leF at h2; rw [q, q'] at h2; omega
  have ad : 0 < a.d := by
    rcases ha with q | ⟨q, q'⟩
    · exact q
    · unfold leF at h3; rw [q, q'] at h3; omega
  exact le_mid nx bd (by omega) (le_mid nx ad (by omega) h1 h3) h2
def Dead (p : Fr × Fr) : Prop := RightF p.1 ∧ RightF p.2 ∧ ltF p.2 p.1 = true
def stepC (p : Fr × Fr) (f s l h : Int) : Fr × Fr := (if ltF p.1 (spI f s l h) then spI f s l h else p.1, if ltF (spO f s l h) p.2 then spO f s l h else p.2)
theorem stepC_right {p : Fr × Fr} (f s l h : Int) (h1 : RightF p.1) (h2 : RightF p.2) : RightF (stepC p f s l h).1 ∧ RightF (stepC p f s l h).2 := by
  obtain ⟨q1, q2⟩ := spI_right f s l h
  unfold stepC
  constructor
  · simp only; split <;> assumption
  · simp only; split <;> assumption
theorem stepC_up (p : Fr × Fr) (f s l h : Int) : (leF p.1 (stepC p f s l h).1 ∧ leF (spI f s l h) (stepC p f s l h).1) ∧ leF (stepC p f s l h).2 p.2 ∧ leF (stepC p f s l h).2 (spO f s l h) := by
  unfold stepC
  simp only
  refine ⟨?_, ?_⟩
  · rcases pick_lo (lo := p.1) (i := spI f s l h) with ⟨e, g⟩ | ⟨e, g⟩ <;> rw [e]
    · exact ⟨le_refl_F _, g⟩
    · exact ⟨g, le_refl_F _⟩
  · rcases pick_hi (hi := p.2) (u := spO f s l h) with ⟨e, g⟩ | ⟨e, g⟩ <;> rw [e]
    · exact ⟨le_refl_F _, g⟩
    · exact ⟨g, le_refl_F _⟩
theorem dead_next {p : Fr × Fr} (f s l h : Int) (hp : Dead p) : Dead (stepC p f s l h) := by
  obtain ⟨h1, h2, h3⟩ := hp
  obtain ⟨r1, r2⟩ := stepC_right f s l h h1 h2
  obtain ⟨⟨u1, _⟩, u2, _⟩ := stepC_up p f s l h
  exact ⟨r1, r2, lt_chain h1 h2 r1 r2 h3 u1 u2⟩
theorem part_some {p r : Fr × Fr} {f s l h : Int} (h1 : okLo p.1) (h2 : okHi p.2) (hr : partR (some p) f s l h = some r) : stepC p f s l h = r := by
  unfold partR at hr
  simp only at hr
  split at hr
  · cases hr
  · split at hr
    · rename_i hl hs
      split at hr
      · cases hr
      · rename_i hf
        cases hr
        have hP : l ≤ f ∧ f ≤ h := by omega
        have a1 : spI f s l h = ⟨0, 1⟩ := by unfold spI; rw [if_pos hs, if_pos hP]
        have a2 : spO f s l h = ⟨1, 0⟩ := by unfold spO; rw [if_pos hs, if_pos hP]
        unfold stepC
        rw [a1, a2]
        have e1 : ltF p.1 ⟨0, 1⟩ = false := lt_false.2 (by unfold leF; have := h1.2; simp only; omega)
        have e2 : ltF ⟨1, 0⟩ p.2 = false := lt_false.2 (by unfold leF; simp only; rcases h2 with q | ⟨_, q⟩ <;> omega)
        rw [e1, e2]
        rfl
    · rename_i hs
      cases hr
      unfold stepC spI spO
      rw [if_neg hs, if_neg hs]
theorem part_none {p : Fr × Fr} {f s l h : Int} (h1 : okLo p.1) (h2 : okHi p.2) (hr : partR (some p) f s l h = none) : Dead (stepC p f s l h) := by
  have r1 : RightF p.1 := okLo_right h1
  have r2 : RightF p.2 := h2
  obtain ⟨s1, s2⟩ := stepC_right f s l h r1 r2
  obtain ⟨q1, q2⟩ := spI_right f s l h
  obtain ⟨⟨_, u1⟩, _, u2⟩ := stepC_up p f s l h
  refine ⟨s1, s2, lt_chain q1 q2 s1 s2 ?_ u1 u2⟩
  unfold partR at hr
  simp only at hr
  unfold spI spO
  split at hr
  · rename_i hl
    by_cases hs : s = 0
    · rw [if_pos hs, if_pos hs, if_neg (by omega), if_neg (by omega)]; rfl
    · rw [if_neg hs, if_neg hs]
      refine (lt_not_le _ _).2 ?_
      unfold leF inF outF
      intro hc
      split at hc
      · rename_i hp
        simp only at hc
        have := le_of_mul hp hc
        omega
      · simp only at hc
        have := le_of_mul (by omega) hc
        omega
  · rename_i hl
    split at hr
    · rename_i hs
      split at hr
      · rename_i hf
        rw [if_pos hs, if_pos hs, if_neg (by omega), if_neg (by omega)]; rfl
      · cases hr
    · cases hr
theorem stC_step (o d l h : P3) (k : Nat) : stC o d l h (k + 1) = stepC (stC o d l h k) (pick3 o k) (pick3 d k) (pick3 l k) (pick3 h k) := rfl
theorem stC_right (o d l h : P3) : ∀ k, (∃ r, stR o d l h k = some r ∧ stC o d l h k = r ∧ okLo r.1 ∧ okHi r.2) ∨ (stR o d l h k = none ∧ Dead (stC o d l h k))
  | 0 => .inl ⟨_, rfl, rfl, ⟨by decide, by decide⟩, .inr ⟨rfl, rfl⟩⟩
  | k + 1 => by
    rcases stC_right o d l h k with ⟨r, e1, e2, k1, k2⟩ | ⟨e1, e2⟩
    · cases hp : partR (some r) (pick3 o k) (pick3 d k) (pick3 l k) (pick3 h k) with
      | none =>
        refine .inr ⟨?_, ?_⟩
        · show partR (stR o d l h k) _ _ _ _ = none
          rw [e1]; exact hp
        · rw [stC_step, e2]; exact part_none k1 k2 hp
      | some q =>
        obtain ⟨j1, j2⟩ := part_ok (lo := r.1) (hi := r.2) k1 k2 hp
        refine .inl ⟨q, ?_, ?_, j1, j2⟩
        · show partR (stR o d l h k) _ _ _ _ = some q
          rw [e1]; exact hp
        · rw [stC_step, e2]; exact part_some k1 k2 hp
    · refine .inr ⟨?_, ?_⟩
      · show partR (stR o d l h k) _ _ _ _ = none
        rw [e1]; rfl
      · rw [stC_step]; exact dead_next _ _ _ _ e2
theorem rangeC_eq (o d l h : P3) : rangeC o d l h = rangeM o d l h := by
  rw [← stR_three]
  unfold rangeC
  rcases stC_right o d l h 3 with ⟨r, e1, e2, _, _⟩ | ⟨e1, e2⟩
  · rw [e1, e2]
  · rw [e1]
    unfold lastR
    simp only
    rw [if_pos e2.2.2]
/-- Within the bounds. -/
theorem rbB_in {o d l h : P3} (hb : rbB o d l h = true) : Sp o ∧ Dr d ∧ InP 131072 l ∧ InP 131072 h := by
  unfold rbB lnB corn at hb
  simp only [Bool.and_eq_true] at hb
  obtain ⟨⟨⟨⟨_, h1⟩, h2⟩, h3⟩, h4⟩ := hb
  have a1 := (wiB_iff _ _ _ _).1 h1
  have a2 := (wiB_iff _ _ _ _).1 h2
  have a3 := (wiB_iff _ _ _ _).1 h3
  have a4 := (wiB_iff _ _ _ _).1 h4
  exact ⟨a2.2, a1.2, a3.2, a4.2⟩
theorem slRange_no (o d l h : P3) (hb : rbB o d l h = false) : Gives Try.prog 26 #[.agg #[.int .i64 o.x, .int .i64 o.y, .int .i64 o.z], .agg #[.int .i64 d.x, .int .i64 d.y, .int .i64 d.z], .agg #[.int .i64 l.x, .int .i64 l.y, .int .i64 l.z, .int .i64 h.x, .int .i64 h.y, .int .i64 h.z]] (.tuple #[.agg #[.int .i64 0, .int .i64 0], .agg #[.int .i64 0, .int .i64 0], .bool false, .int .i64 21]) := slRange_out o d l h (by have := slB_any o d l h; rw [hb] at this; exact this)
theorem slRange_yes (o d l h : P3) (hb : rbB o d l h = true) (R1 R2 : Fr) (R3 : Bool) (hR : rv (rangeM o d l h) = (R1, R2, R3)) : Gives Try.prog 26 #[.agg #[.int .i64 o.x, .int .i64 o.y, .int .i64 o.z], .agg #[.int .i64 d.x, .int .i64 d.y, .int .i64 d.z], .agg #[.int .i64 l.x, .int .i64 l.y, .int .i64 l.z, .int .i64 h.x, .int .i64 h.y, .int .i64 h.z]] (.tuple #[.agg #[.int .i64 R1.n, .int .i64 R1.d], .agg #[.int .i64 R2.n, .int .i64 R2.d], .bool R3, .int .i64 0]) := by
  obtain ⟨h1, h2, h3, h4⟩ := rbB_in hb
  exact slRange_core o d l h h1 h2 h3 h4 (by have := slB_any o d l h; rw [hb] at this; exact this) R1 R2 R3 (by rw [rangeC_eq]; exact hR)
end Go.Proofs.Ythadlpkdfnonjaa
namespace Go.Proofs.Ythadlpkdfnonjaa
open Go.ChangeShapes Go.WideShapes Go.ChangeAt Go.RowKit
set_option linter.unusedVariables false
set_option linter.unusedSimpArgs false
/-- The single cells of a type: where each lies, and its type. -/
def leavesAt (P : Program) : Nat → Nat → TypeId → List (Nat × TypeId)
  | 0, _, _ => []
  | f + 1, off, t => match P.underlying t with
    | some (.struct fs) => fs.toList.flatMap fun fd => leavesAt P f (off + fd.offset) fd.type
    | some (.array n e) => (List.range n).flatMap fun i => leavesAt P f (off + i * P.cellsOf e) e
    | _ => [(off, t)]
section
variable {H : Type} {enc : TypeId × Value → H} {P : Program} {w : World} {base : Nat} {spare : Nat → Bool} {held : Bool}
theorem trod_single {fuel : Nat} {t : TypeId} {cs : List Value} {x : DataW H × List MemPlace} (h : DataW.trod enc P w base spare held fuel t cs = some x) (hs : ∀ fs, P.underlying t ≠ some (.struct fs)) (ha : ∀ n e, P.underlying t ≠ some (.array n e)) : ∃ c, cs = [c] := by
  cases fuel with
  | zero => simp [DataW.trod] at h
  | succ n =>
    unfold DataW.trod at h
    split at h <;> first | exact ⟨_, rfl⟩ | (rename_i hu; first | exact absurd hu (hs _) | exact absurd hu (ha _ _)) | cases h
theorem leaf_trod : ∀ (f : Nat) (t : TypeId) (off0 o : Nat) (lt : TypeId), (o, lt) ∈ leavesAt P f off0 t → ∀ (n : Nat) (cs : List Value) (x : DataW H × List MemPlace), DataW.trod enc P w base spare held n t cs = some x →
    off0 ≤ o ∧ ∃ c m y, cs[o - off0]? = some c ∧ DataW.trod enc P w base spare held m lt [c] = some y
  | 0, _, _, _, _, h, _, _, _, _ => by simp [leavesAt] at h
  | f + 1, t, off0, o, lt, h, n, cs, x, hx => by
    unfold leavesAt at h
    split at h
    · rename_i fs hu
      obtain ⟨fd, hfd, hm⟩ := List.mem_flatMap.1 h
      obtain ⟨ys, n', _, _, hlen, hyl, hf⟩ := DataW.trod_struct hu hx
      obtain ⟨j, hj⟩ := List.getElem?_of_mem hfd
      have hj' : fs[j]? = some fd := by simpa using hj
      have h1 := hf j fd hj'
      have hjl : j < ys.length := by rw [hyl]; exact (Array.getElem?_eq_some_iff.1 hj').1
      rw [List.getElem?_eq_getElem hjl] at h1
      obtain ⟨hle, c, m, y, hc, hy⟩ := leaf_trod f fd.type (off0 + fd.offset) o lt hm _ _ _ h1
      refine ⟨by omega, c, m, y, ?_, hy⟩
      rw [List.getElem?_take] at hc
      split at hc
      · rw [List.getElem?_drop] at hc
        rw [← hc]; congr 1; omega
      · cases hc
    · rename_i k e hu
      obtain ⟨i, hi, hm⟩ := List.mem_flatMap.1 h
      rw [List.mem_range] at hi
      obtain ⟨ys, n', _, _, hlen, hyl, hf⟩ := DataW.trod_array hu hx
      have h1 := hf i hi
      have hjl : i < ys.length := by rw [hyl]; exact hi
      rw [List.getElem?_eq_getElem hjl] at h1
      obtain ⟨hle, c, m, y, hc, hy⟩ := leaf_trod f e (off0 + i * P.cellsOf e) o lt hm _ _ _ h1
      refine ⟨by omega, c, m, y, ?_, hy⟩
      rw [List.getElem?_take] at hc
      split at hc
      · rw [List.getElem?_drop] at hc
        rw [← hc]; congr 1; omega
      · cases hc
    · rename_i hs ha
      simp only [List.mem_singleton, Prod.mk.injEq] at h
      obtain ⟨rfl, rfl⟩ := h
      obtain ⟨c, rfl⟩ := trod_single hx (fun fs hu => hs fs hu) (fun k e hu => ha k e hu)
      exact ⟨Nat.le_refl _, c, n, x, by simp, hx⟩
/-- All cells whole numbers of 64 bits. -/
theorem ints_trod {t ti : TypeId} {f k n : Nat} {cs : List Value} {x : DataW H × List MemPlace} (hl : leavesAt P f 0 t = (List.range k).map fun i => (i, ti)) (hti : P.underlying ti = some (.int .i64)) (hk : cs.length = k)
    (h : DataW.trod enc P w base spare held n t cs = some x) : ∃ g : Nat → Int, cs = (List.range k).map (fun i => .int .i64 (g i)) ∧ ∀ i, i < k → -9223372036854775808 ≤ g i ∧ g i ≤ 9223372036854775807 := by
  have each : ∀ i, i < k → ∃ a : Int, cs[i]? = some (.int .i64 a) ∧ (-9223372036854775808 ≤ a ∧ a ≤ 9223372036854775807) := fun i hi => by
    obtain ⟨_, c, m, y, hc, hy⟩ := leaf_trod f t 0 i ti (by rw [hl]; exact List.mem_map.2 ⟨i, List.mem_range.2 hi, rfl⟩) n cs x h
    obtain ⟨a, e0, _, wa⟩ := DataW.trod_int hti hy
    simp at e0
    subst e0
    exact ⟨a, by simpa using hc, bounds_i64 wa⟩
  refine ⟨fun i => if h : i < k then Classical.choose (each i h) else 0, ?_, fun i hi => by simp only [hi, dif_pos]; exact (Classical.choose_spec (each i hi)).2⟩
  apply List.ext_getElem?
  intro i
  by_cases hi : i < k
  · rw [(Classical.choose_spec (each i hi)).1]
    simp [hi]
  · rw [List.getElem?_eq_none (by omega), List.getElem?_eq_none (by simp; omega)]
end
end Go.Proofs.Ythadlpkdfnonjaa
namespace Go.Proofs.Ythadlpkdfnonjaa
open Go.ChangeShapes Go.WideShapes Go.ChangeAt Go.RowKit
set_option linter.unusedVariables false
set_option linter.unusedSimpArgs false
set_option maxRecDepth 100000
section
variable {H : Type} {enc : TypeId × Value → H} {w : World} {base b0 : Nat} {spare : Nat → Bool} {held : Bool} {v : Value} {d : DataW H} {p : List MemPlace} {r : Reach}
def In64 (a : Int) : Prop := -9223372036854775808 ≤ a ∧ a ≤ 9223372036854775807
theorem open_int64 (hv : Value.okWide Try.prog w r b0 3 v) (h : DataW.Trod enc Try.prog w base spare held 3 v d p) : ∃ a : Int, v = .int .i64 a ∧ In64 a := by
  obtain ⟨a, rfl, _, _, wa⟩ := open_int Try.underlying3 hv h
  exact ⟨a, rfl, bounds_i64 wa⟩
end
end Go.Proofs.Ythadlpkdfnonjaa
