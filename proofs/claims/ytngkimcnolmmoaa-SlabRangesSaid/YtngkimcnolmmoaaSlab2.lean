/- The program's own range: bounds, parts, what is above. -/
import Derived.Test.YtngkimcnolmmoaaSlab1
import Derived.Test.YtngkimcnolmmoaaMSideA
import Derived.Deep.RegionHeld3
namespace Go.Proofs.Ytngkimcnolmmoaa
open Go.RowKit
set_option linter.unusedVariables false
set_option linter.unusedSimpArgs false
/-- Within the bounds of a box's corners. -/
def corn (a : P3) : Bool := wiB a.x a.y a.z 131072
def rbB (o d l h : P3) : Bool := lnB o d && corn l && corn h
theorem sb_z (o l h : P3) : Gives Try.prog 21 #[.agg #[.int .i64 o.x, .int .i64 o.y, .int .i64 o.z], .agg #[.int .i64 0, .int .i64 0, .int .i64 0], .agg #[.int .i64 l.x, .int .i64 l.y, .int .i64 l.z, .int .i64 h.x, .int .i64 h.y, .int .i64 h.z]] (.bool false) := by
  refine Gives.mk fun w => ?_
  go_enter Try.func21, Try.ntmps21
  go_wp2
  go_ret
  exact ⟨rfl, (by repeat (first | with_reducible exact Below.refl _ _ | with_reducible refine bel_then ?_ _ | with_reducible refine bel_grow ?_ _ | with_reducible refine bel_alloc ?_ _ | with_reducible refine bel_drew ?_ | with_reducible refine bel_set ?_ (by simp) _ | with_reducible refine bel_setRow ?_ (by first | omega | (simp; done) | (refine Nat.le_trans ?_ (top_le _ _); simp; done) | (refine Nat.le_succ_of_le (Nat.le_trans ?_ (top_le _ _)); simp; done)) _))⟩
set_option maxHeartbeats 1000000 in
theorem sb_0 (o l h : P3) (dx dy dz : Int) (hz : nz ⟨dx, dy, dz⟩ = true) (h0 : wiB dx dy dz 32768 = false) : Gives Try.prog 21 #[.agg #[.int .i64 o.x, .int .i64 o.y, .int .i64 o.z], .agg #[.int .i64 dx, .int .i64 dy, .int .i64 dz], .agg #[.int .i64 l.x, .int .i64 l.y, .int .i64 l.z, .int .i64 h.x, .int .i64 h.y, .int .i64 h.z]] (.bool false) := by
  refine Gives.mk fun w => ?_
  have k0 := vWithin_any dx dy dz 32768 (by omega)
  rw [h0] at k0
  clear h0
  rcases nz_cases hz with q | ⟨rfl, q⟩ | ⟨rfl, rfl, q⟩
  all_goals
    go_enter Try.func21, Try.ntmps21
    go_wp2_with (first | (go_at_call 18; first | ((with_reducible refine (k0.at_ _).mono ?_); rintro e w' ⟨rfl, xg, rfl⟩)))
    go_ret
    exact ⟨rfl, (by repeat (first | with_reducible exact Below.refl _ _ | with_reducible refine bel_then ?_ _ | with_reducible refine bel_grow ?_ _ | with_reducible refine bel_alloc ?_ _ | with_reducible refine bel_drew ?_ | with_reducible refine bel_set ?_ (by simp) _ | with_reducible refine bel_setRow ?_ (by first | omega | (simp; done) | (refine Nat.le_trans ?_ (top_le _ _); simp; done) | (refine Nat.le_succ_of_le (Nat.le_trans ?_ (top_le _ _)); simp; done)) _))⟩
set_option maxHeartbeats 1000000 in
theorem sb_1 (o l h : P3) (dx dy dz : Int) (hz : nz ⟨dx, dy, dz⟩ = true) (h0 : wiB dx dy dz 32768 = true) (h1 : wiB o.x o.y o.z 65536 = false) : Gives Try.prog 21 #[.agg #[.int .i64 o.x, .int .i64 o.y, .int .i64 o.z], .agg #[.int .i64 dx, .int .i64 dy, .int .i64 dz], .agg #[.int .i64 l.x, .int .i64 l.y, .int .i64 l.z, .int .i64 h.x, .int .i64 h.y, .int .i64 h.z]] (.bool false) := by
  refine Gives.mk fun w => ?_
  have k0 := vWithin_any dx dy dz 32768 (by omega)
  rw [h0] at k0
  clear h0
  have k1 := vWithin_any o.x o.y o.z 65536 (by omega)
  rw [h1] at k1
  clear h1
  rcases nz_cases hz with q | ⟨rfl, q⟩ | ⟨rfl, rfl, q⟩
  all_goals
    go_enter Try.func21, Try.ntmps21
    go_wp2_with (first | (go_at_call 18; first | ((with_reducible refine (k0.at_ _).mono ?_); rintro e w' ⟨rfl, xg, rfl⟩) | ((with_reducible refine (k1.at_ _).mono ?_); rintro e w' ⟨rfl, xg, rfl⟩)))
    go_ret
    exact ⟨rfl, (by repeat (first | with_reducible exact Below.refl _ _ | with_reducible refine bel_then ?_ _ | with_reducible refine bel_grow ?_ _ | with_reducible refine bel_alloc ?_ _ | with_reducible refine bel_drew ?_ | with_reducible refine bel_set ?_ (by simp) _ | with_reducible refine bel_setRow ?_ (by first | omega | (simp; done) | (refine Nat.le_trans ?_ (top_le _ _); simp; done) | (refine Nat.le_succ_of_le (Nat.le_trans ?_ (top_le _ _)); simp; done)) _))⟩
set_option maxHeartbeats 1000000 in
theorem sb_2 (o l h : P3) (dx dy dz : Int) (hz : nz ⟨dx, dy, dz⟩ = true) (h0 : wiB dx dy dz 32768 = true) (h1 : wiB o.x o.y o.z 65536 = true) (h2 : wiB l.x l.y l.z 131072 = false) : Gives Try.prog 21 #[.agg #[.int .i64 o.x, .int .i64 o.y, .int .i64 o.z], .agg #[.int .i64 dx, .int .i64 dy, .int .i64 dz], .agg #[.int .i64 l.x, .int .i64 l.y, .int .i64 l.z, .int .i64 h.x, .int .i64 h.y, .int .i64 h.z]] (.bool false) := by
  refine Gives.mk fun w => ?_
  have k0 := vWithin_any dx dy dz 32768 (by omega)
  rw [h0] at k0
  clear h0
  have k1 := vWithin_any o.x o.y o.z 65536 (by omega)
  rw [h1] at k1
  clear h1
  have k2 := vWithin_any l.x l.y l.z 131072 (by omega)
  rw [h2] at k2
  clear h2
  rcases nz_cases hz with q | ⟨rfl, q⟩ | ⟨rfl, rfl, q⟩
  all_goals
    go_enter Try.func21, Try.ntmps21
    go_wp2_with (first | (go_at_call 18; first | ((with_reducible refine (k0.at_ _).mono ?_); rintro e w' ⟨rfl, xg, rfl⟩) | ((with_reducible refine (k1.at_ _).mono ?_); rintro e w' ⟨rfl, xg, rfl⟩) | ((with_reducible refine (k2.at_ _).mono ?_); rintro e w' ⟨rfl, xg, rfl⟩)))
    go_ret
    exact ⟨rfl, (by repeat (first | with_reducible exact Below.refl _ _ | with_reducible refine bel_then ?_ _ | with_reducible refine bel_grow ?_ _ | with_reducible refine bel_alloc ?_ _ | with_reducible refine bel_drew ?_ | with_reducible refine bel_set ?_ (by simp) _ | with_reducible refine bel_setRow ?_ (by first | omega | (simp; done) | (refine Nat.le_trans ?_ (top_le _ _); simp; done) | (refine Nat.le_succ_of_le (Nat.le_trans ?_ (top_le _ _)); simp; done)) _))⟩
set_option maxHeartbeats 1000000 in
theorem sb_3 (o l h : P3) (dx dy dz : Int) (hz : nz ⟨dx, dy, dz⟩ = true) (h0 : wiB dx dy dz 32768 = true) (h1 : wiB o.x o.y o.z 65536 = true) (h2 : wiB l.x l.y l.z 131072 = true) (h3 : wiB h.x h.y h.z 131072 = false) : Gives Try.prog 21 #[.agg #[.int .i64 o.x, .int .i64 o.y, .int .i64 o.z], .agg #[.int .i64 dx, .int .i64 dy, .int .i64 dz], .agg #[.int .i64 l.x, .int .i64 l.y, .int .i64 l.z, .int .i64 h.x, .int .i64 h.y, .int .i64 h.z]] (.bool false) := by
  refine Gives.mk fun w => ?_
  have k0 := vWithin_any dx dy dz 32768 (by omega)
  rw [h0] at k0
  clear h0
  have k1 := vWithin_any o.x o.y o.z 65536 (by omega)
  rw [h1] at k1
  clear h1
  have k2 := vWithin_any l.x l.y l.z 131072 (by omega)
  rw [h2] at k2
  clear h2
  have k3 := vWithin_any h.x h.y h.z 131072 (by omega)
  rw [h3] at k3
  clear h3
  rcases nz_cases hz with q | ⟨rfl, q⟩ | ⟨rfl, rfl, q⟩
  all_goals
    go_enter Try.func21, Try.ntmps21
    go_wp2_with (first | (go_at_call 18; first | ((with_reducible refine (k0.at_ _).mono ?_); rintro e w' ⟨rfl, xg, rfl⟩) | ((with_reducible refine (k1.at_ _).mono ?_); rintro e w' ⟨rfl, xg, rfl⟩) | ((with_reducible refine (k2.at_ _).mono ?_); rintro e w' ⟨rfl, xg, rfl⟩) | ((with_reducible refine (k3.at_ _).mono ?_); rintro e w' ⟨rfl, xg, rfl⟩)))
    go_ret
    exact ⟨rfl, (by repeat (first | with_reducible exact Below.refl _ _ | with_reducible refine bel_then ?_ _ | with_reducible refine bel_grow ?_ _ | with_reducible refine bel_alloc ?_ _ | with_reducible refine bel_drew ?_ | with_reducible refine bel_set ?_ (by simp) _ | with_reducible refine bel_setRow ?_ (by first | omega | (simp; done) | (refine Nat.le_trans ?_ (top_le _ _); simp; done) | (refine Nat.le_succ_of_le (Nat.le_trans ?_ (top_le _ _)); simp; done)) _))⟩
set_option maxHeartbeats 1000000 in
theorem sb_4 (o l h : P3) (dx dy dz : Int) (hz : nz ⟨dx, dy, dz⟩ = true) (h0 : wiB dx dy dz 32768 = true) (h1 : wiB o.x o.y o.z 65536 = true) (h2 : wiB l.x l.y l.z 131072 = true) (h3 : wiB h.x h.y h.z 131072 = true) : Gives Try.prog 21 #[.agg #[.int .i64 o.x, .int .i64 o.y, .int .i64 o.z], .agg #[.int .i64 dx, .int .i64 dy, .int .i64 dz], .agg #[.int .i64 l.x, .int .i64 l.y, .int .i64 l.z, .int .i64 h.x, .int .i64 h.y, .int .i64 h.z]] (.bool true) := by
  refine Gives.mk fun w => ?_
  have k0 := vWithin_any dx dy dz 32768 (by omega)
  rw [h0] at k0
  clear h0
  have k1 := vWithin_any o.x o.y o.z 65536 (by omega)
  rw [h1] at k1
  clear h1
  have k2 := vWithin_any l.x l.y l.z 131072 (by omega)
  rw [h2] at k2
  clear h2
  have k3 := vWithin_any h.x h.y h.z 131072 (by omega)
  rw [h3] at k3
  clear h3
  rcases nz_cases hz with q | ⟨rfl, q⟩ | ⟨rfl, rfl, q⟩
  all_goals
    go_enter Try.func21, Try.ntmps21
    go_wp2_with (first | (go_at_call 18; first | ((with_reducible refine (k0.at_ _).mono ?_); rintro e w' ⟨rfl, xg, rfl⟩) | ((with_reducible refine (k1.at_ _).mono ?_); rintro e w' ⟨rfl, xg, rfl⟩) | ((with_reducible refine (k2.at_ _).mono ?_); rintro e w' ⟨rfl, xg, rfl⟩) | ((with_reducible refine (k3.at_ _).mono ?_); rintro e w' ⟨rfl, xg, rfl⟩)))
    go_ret
    exact ⟨rfl, (by repeat (first | with_reducible exact Below.refl _ _ | with_reducible refine bel_then ?_ _ | with_reducible refine bel_grow ?_ _ | with_reducible refine bel_alloc ?_ _ | with_reducible refine bel_drew ?_ | with_reducible refine bel_set ?_ (by simp) _ | with_reducible refine bel_setRow ?_ (by first | omega | (simp; done) | (refine Nat.le_trans ?_ (top_le _ _); simp; done) | (refine Nat.le_succ_of_le (Nat.le_trans ?_ (top_le _ _)); simp; done)) _))⟩
theorem slB_any (o d l h : P3) : Gives Try.prog 21 #[.agg #[.int .i64 o.x, .int .i64 o.y, .int .i64 o.z], .agg #[.int .i64 d.x, .int .i64 d.y, .int .i64 d.z], .agg #[.int .i64 l.x, .int .i64 l.y, .int .i64 l.z, .int .i64 h.x, .int .i64 h.y, .int .i64 h.z]] (.bool (rbB o d l h)) := by
  obtain ⟨dx, dy, dz⟩ := d
  unfold rbB lnB corn
  simp only
  cases hz : nz ⟨dx, dy, dz⟩
  · have e : dx = 0 ∧ dy = 0 ∧ dz = 0 := by unfold nz at hz; simpa [and_assoc] using hz
    obtain ⟨rfl, rfl, rfl⟩ := e
    exact sb_z o l h
  · cases h0 : wiB dx dy dz 32768
    · exact sb_0 o l h dx dy dz hz h0
    · cases h1 : wiB o.x o.y o.z 65536
      · exact sb_1 o l h dx dy dz hz h0 h1
      · cases h2 : wiB l.x l.y l.z 131072
        · exact sb_2 o l h dx dy dz hz h0 h1 h2
        · cases h3 : wiB h.x h.y h.z 131072
          · exact sb_3 o l h dx dy dz hz h0 h1 h2 h3
          · exact sb_4 o l h dx dy dz hz h0 h1 h2 h3
theorem cmp_gt0 (x y : Int) : decide (0 < cmpOf x y) = decide (y < x) := by
  refine decide_eq_decide.2 ?_
  unfold cmpOf
  split
  · omega
  · split <;> omega
theorem above_any (a b : Fr) (ha : InFr a) (hb : InFr b) (ra : RightF a) (rb : RightF b) : Gives Try.prog 23 #[.agg #[.int .i64 a.n, .int .i64 a.d], .agg #[.int .i64 b.n, .int .i64 b.d]] (.bool (ltF b a)) := by
  refine Gives.mk fun w => ?_
  have k := order_yes a.n a.d b.n b.d ha.1.1 ha.1.2 ha.2.1 ha.2.2 hb.1.1 hb.1.2 hb.2.1 hb.2.2 ra rb
  have e : decide (0 < cmpOf (a.n * b.d) (b.n * a.d)) = ltF b a := cmp_gt0 _ _
  have E := Lib.hid e
  generalize cmpOf (a.n * b.d) (b.n * a.d) = v at *
  clear e ha hb ra rb
  go_enter Try.func23, Try.ntmps23
  go_wp2_with (first | (go_at_call 16; first | ((with_reducible refine (k.at_ _).mono ?_); rintro e w' ⟨rfl, xg, rfl⟩)))
  go_ret
  exact ⟨ret_bool E.out, (by repeat (first | with_reducible exact Below.refl _ _ | with_reducible refine bel_then ?_ _ | with_reducible refine bel_grow ?_ _ | with_reducible refine bel_alloc ?_ _ | with_reducible refine bel_drew ?_ | with_reducible refine bel_set ?_ (by simp) _ | with_reducible refine bel_setRow ?_ (by first | omega | (simp; done) | (refine Nat.le_trans ?_ (top_le _ _); simp; done) | (refine Nat.le_succ_of_le (Nat.le_trans ?_ (top_le _ _)); simp; done)) _))⟩
theorem still_yes (f s l h : Int) (q1 : l ≤ f) (q2 : f ≤ h) : Gives Try.prog 35 #[.agg #[.int .i64 f, .int .i64 s, .int .i64 l, .int .i64 h]] (.tuple #[.agg #[.int .i64 0, .int .i64 1], .agg #[.int .i64 1, .int .i64 0]]) := by
  refine Gives.mk fun w => ?_
  go_enter Try.func35, Try.ntmps35
  go_wp2
  go_region
  all_goals
    go_wp2
    refine bodyPost_ret (v := .tuple #[.agg #[.int .i64 0, .int .i64 1], .agg #[.int .i64 1, .int .i64 0]]) (by simp [results, Try.results35, go_sem]) rfl ⟨rfl, (by repeat (first | with_reducible exact Below.refl _ _ | with_reducible refine bel_then ?_ _ | with_reducible refine bel_grow ?_ _ | with_reducible refine bel_alloc ?_ _ | with_reducible refine bel_drew ?_ | with_reducible refine bel_set ?_ (by simp) _ | with_reducible refine bel_setRow ?_ (by first | omega | (simp; done) | (refine Nat.le_trans ?_ (top_le _ _); simp; done) | (refine Nat.le_succ_of_le (Nat.le_trans ?_ (top_le _ _)); simp; done)) _))⟩
theorem still_noa (f s l h : Int) (q1 : f < l) : Gives Try.prog 35 #[.agg #[.int .i64 f, .int .i64 s, .int .i64 l, .int .i64 h]] (.tuple #[.agg #[.int .i64 1, .int .i64 0], .agg #[.int .i64 0, .int .i64 1]]) := by
  refine Gives.mk fun w => ?_
  go_enter Try.func35, Try.ntmps35
  go_wp2
  go_region
  all_goals
    go_wp2
    refine bodyPost_ret (v := .tuple #[.agg #[.int .i64 1, .int .i64 0], .agg #[.int .i64 0, .int .i64 1]]) (by simp [results, Try.results35, go_sem]) rfl ⟨rfl, (by repeat (first | with_reducible exact Below.refl _ _ | with_reducible refine bel_then ?_ _ | with_reducible refine bel_grow ?_ _ | with_reducible refine bel_alloc ?_ _ | with_reducible refine bel_drew ?_ | with_reducible refine bel_set ?_ (by simp) _ | with_reducible refine bel_setRow ?_ (by first | omega | (simp; done) | (refine Nat.le_trans ?_ (top_le _ _); simp; done) | (refine Nat.le_succ_of_le (Nat.le_trans ?_ (top_le _ _)); simp; done)) _))⟩
theorem still_nob (f s l h : Int) (q1 : l ≤ f) (q2 : h < f) : Gives Try.prog 35 #[.agg #[.int .i64 f, .int .i64 s, .int .i64 l, .int .i64 h]] (.tuple #[.agg #[.int .i64 1, .int .i64 0], .agg #[.int .i64 0, .int .i64 1]]) := by
  refine Gives.mk fun w => ?_
  go_enter Try.func35, Try.ntmps35
  go_wp2
  go_region
  all_goals
    go_wp2
    refine bodyPost_ret (v := .tuple #[.agg #[.int .i64 1, .int .i64 0], .agg #[.int .i64 0, .int .i64 1]]) (by simp [results, Try.results35, go_sem]) rfl ⟨rfl, (by repeat (first | with_reducible exact Below.refl _ _ | with_reducible refine bel_then ?_ _ | with_reducible refine bel_grow ?_ _ | with_reducible refine bel_alloc ?_ _ | with_reducible refine bel_drew ?_ | with_reducible refine bel_set ?_ (by simp) _ | with_reducible refine bel_setRow ?_ (by first | omega | (simp; done) | (refine Nat.le_trans ?_ (top_le _ _); simp; done) | (refine Nat.le_succ_of_le (Nat.le_trans ?_ (top_le _ _)); simp; done)) _))⟩
/-- From which t on a part of the ray is within its sides, and to which one. -/
def spI (f s l h : Int) : Fr := if s = 0 then (if l ≤ f ∧ f ≤ h then ⟨0, 1⟩ else ⟨1, 0⟩) else inF f s l h
def spO (f s l h : Int) : Fr := if s = 0 then (if l ≤ f ∧ f ≤ h then ⟨1, 0⟩ else ⟨0, 1⟩) else outF f s l h
theorem span_zero (f l h : Int) (a b c d : Int) (k : Gives Try.prog 35 #[.agg #[.int .i64 f, .int .i64 0, .int .i64 l, .int .i64 h]] (.tuple #[.agg #[.int .i64 a, .int .i64 b], .agg #[.int .i64 c, .int .i64 d]])) : Gives Try.prog 22 #[.agg #[.int .i64 f, .int .i64 0, .int .i64 l, .int .i64 h]] (.tuple #[.agg #[.int .i64 a, .int .i64 b], .agg #[.int .i64 c, .int .i64 d]]) := by
  refine Gives.mk fun w => ?_
  go_enter Try.func22, Try.ntmps22
  go_wp2_with (first | (go_at_call 35; first | ((with_reducible refine (k.at_ _).mono ?_); rintro e w' ⟨rfl, xg, rfl⟩)))
  refine bodyPost_ret (v := .tuple #[.agg #[.int .i64 a, .int .i64 b], .agg #[.int .i64 c, .int .i64 d]]) (by simp [results, Try.results22, go_sem]) rfl ⟨rfl, (by repeat (first | with_reducible exact Below.refl _ _ | with_reducible refine bel_then ?_ _ | with_reducible refine bel_grow ?_ _ | with_reducible refine bel_alloc ?_ _ | with_reducible refine bel_drew ?_ | with_reducible refine bel_set ?_ (by simp) _ | with_reducible refine bel_setRow ?_ (by first | omega | (simp; done) | (refine Nat.le_trans ?_ (top_le _ _); simp; done) | (refine Nat.le_succ_of_le (Nat.le_trans ?_ (top_le _ _)); simp; done)) _))⟩
theorem span_pos (f s l h : Int) (bf : -65536 ≤ f ∧ f ≤ 65536) (bs : -32768 ≤ s ∧ s ≤ 32768) (bl : -131072 ≤ l ∧ l ≤ 131072) (bh : -131072 ≤ h ∧ h ≤ 131072) (q : 0 < s) : Gives Try.prog 22 #[.agg #[.int .i64 f, .int .i64 s, .int .i64 l, .int .i64 h]] (.tuple #[.agg #[.int .i64 (l - f), .int .i64 s], .agg #[.int .i64 (h - f), .int .i64 s]]) := by
  refine Gives.mk fun w => ?_
  have q0 : (s == 0) = false := by simp; omega
  have q1 : decide (s < 0) = false := by simp; omega
  have u1 : IntKind.i64.wrap (l - f) = l - f := by rw [IntKind.wrap_i64]; omega
  have u2 : IntKind.i64.wrap (h - f) = h - f := by rw [IntKind.wrap_i64]; omega
  go_enter Try.func22, Try.ntmps22
  go_wp2
  go_region_held3 (fun w' => w'.cell? ⟨w.heap.size, 0, none⟩ = some (.int .i64 f) ∧ w'.cell? ⟨w.heap.size, 1, none⟩ = some (.int .i64 s) ∧ w'.cell? ⟨w.heap.size, 2, none⟩ = some (.int .i64 l) ∧ w'.cell? ⟨w.heap.size, 3, none⟩ = some (.int .i64 h)) (first | go_keep | (simp [go_sem]; done) | (simp [*, go_sem]; done)) (fail)
  all_goals
    go_wp2
    try simp only [u1, u2]
    refine bodyPost_ret (v := .tuple #[.agg #[.int .i64 (l - f), .int .i64 s], .agg #[.int .i64 (h - f), .int .i64 s]]) (by simp [results, Try.results22, go_sem]) rfl ⟨rfl, (by repeat (first | with_reducible exact Below.refl _ _ | with_reducible refine bel_then ?_ _ | with_reducible refine bel_grow ?_ _ | with_reducible refine bel_alloc ?_ _ | with_reducible refine bel_drew ?_ | with_reducible refine bel_set ?_ (by simp) _ | with_reducible refine bel_setRow ?_ (by first | omega | (simp; done) | (refine Nat.le_trans ?_ (top_le _ _); simp; done) | (refine Nat.le_succ_of_le (Nat.le_trans ?_ (top_le _ _)); simp; done)) _))⟩
theorem span_neg (f s l h : Int) (bf : -65536 ≤ f ∧ f ≤ 65536) (bs : -32768 ≤ s ∧ s ≤ 32768) (bl : -131072 ≤ l ∧ l ≤ 131072) (bh : -131072 ≤ h ∧ h ≤ 131072) (q : s < 0) : Gives Try.prog 22 #[.agg #[.int .i64 f, .int .i64 s, .int .i64 l, .int .i64 h]] (.tuple #[.agg #[.int .i64 (f - h), .int .i64 (-s)], .agg #[.int .i64 (f - l), .int .i64 (-s)]]) := by
  refine Gives.mk fun w => ?_
  have q0 : (s == 0) = false := by simp; omega
  have e1 : -h - -f = f - h := by omega
  have u1 : IntKind.i64.wrap (f - h) = f - h := by rw [IntKind.wrap_i64]; omega
  have u2 : IntKind.i64.wrap (f - l) = f - l := by rw [IntKind.wrap_i64]; omega
  have e2 : -l - -f = f - l := by omega
  go_enter Try.func22, Try.ntmps22
  go_wp2
  go_region_held3 (fun w' => w'.cell? ⟨w.heap.size, 0, none⟩ = some (.int .i64 (-f)) ∧ w'.cell? ⟨w.heap.size, 1, none⟩ = some (.int .i64 (-s)) ∧ w'.cell? ⟨w.heap.size, 2, none⟩ = some (.int .i64 (-h)) ∧ w'.cell? ⟨w.heap.size, 3, none⟩ = some (.int .i64 (-l))) (first | go_keep | (simp [go_sem]; done) | (simp [*, go_sem]; done)) (fail)
  all_goals
    go_wp2
    try simp only [u1, u2]
    refine bodyPost_ret (v := .tuple #[.agg #[.int .i64 (f - h), .int .i64 (-s)], .agg #[.int .i64 (f - l), .int .i64 (-s)]]) (by simp [results, Try.results22, go_sem]) rfl ⟨rfl, (by repeat (first | with_reducible exact Below.refl _ _ | with_reducible refine bel_then ?_ _ | with_reducible refine bel_grow ?_ _ | with_reducible refine bel_alloc ?_ _ | with_reducible refine bel_drew ?_ | with_reducible refine bel_set ?_ (by simp) _ | with_reducible refine bel_setRow ?_ (by first | omega | (simp; done) | (refine Nat.le_trans ?_ (top_le _ _); simp; done) | (refine Nat.le_succ_of_le (Nat.le_trans ?_ (top_le _ _)); simp; done)) _))⟩
end Go.Proofs.Ytngkimcnolmmoaa
