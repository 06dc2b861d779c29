/- Contracts of the bounds of a line and of points. -/
import Derived.Test.YtgfgaaecpdbgeaaSide1
namespace Go.Proofs.Ytgfgaaecpdbgeaa
open Go.RowKit
set_option linter.unusedVariables false
set_option linter.unusedSimpArgs false
/-- May a line be reckoned with? -/
def nz (d : P3) : Bool := !(d.x == 0 && d.y == 0 && d.z == 0)
def lnB (o d : P3) : Bool := nz d && wiB d.x d.y d.z 32768 && wiB o.x o.y o.z 65536
def inB3 (a : P3) : Bool := wiB a.x a.y a.z 65536
def insF (p : Nat → Int × Int × Int) : Nat → Bool
  | 0 => true
  | k + 1 => insF p k && wiB (p k).1 (p k).2.1 (p k).2.2 65536
theorem insF_no (p : Nat → Int × Int × Int) (k : Nat) (h : wiB (p k).1 (p k).2.1 (p k).2.2 65536 = false) : ∀ n, k < n → insF p n = false
  | 0, hn => by omega
  | n + 1, hn => by
    unfold insF
    by_cases e : k = n
    · subst e; rw [h]; simp
    · rw [insF_no p k h n (by omega)]; rfl
theorem nz_cases {dx dy dz : Int} (h : nz ⟨dx, dy, dz⟩ = true) : dx ≠ 0 ∨ (dx = 0 ∧ dy ≠ 0) ∨ dx = 0 ∧ dy = 0 ∧ dz ≠ 0 := by
  unfold nz at h; simp at h; omega
theorem bl_z (o : P3) (A : Option Addr) (n c : Nat) : Gives Try.prog 52 #[.agg #[.int .i64 o.x, .int .i64 o.y, .int .i64 o.z], .agg #[.int .i64 0, .int .i64 0, .int .i64 0], .slice A n c] (.bool false) := by
  refine Gives.mk fun w => ?_
  go_enter Try.func52, Try.ntmps52
  go_wp2
  go_ret
  exact ⟨rfl, (by repeat (first | exact Below.refl _ _ | refine bel_then ?_ _ | refine bel_grow ?_ _ | refine bel_alloc ?_ _ | refine bel_drew ?_ | refine bel_set ?_ (by simp) _ | refine bel_setRow ?_ (by first | omega | simp; done | exact Nat.le_trans (by simp) (top_le _ _)) _))⟩
theorem bl_d (o : P3) (dx dy dz : Int) (A : Option Addr) (n c : Nat) (hz : nz ⟨dx, dy, dz⟩ = true) (h1 : wiB dx dy dz 32768 = false) : Gives Try.prog 52 #[.agg #[.int .i64 o.x, .int .i64 o.y, .int .i64 o.z], .agg #[.int .i64 dx, .int .i64 dy, .int .i64 dz], .slice A n c] (.bool false) := by
  refine Gives.mk fun w => ?_
  have k1 := vWithin_any dx dy dz 32768 (by omega)
  rw [h1] at k1
  clear h1
  rcases nz_cases hz with h | ⟨rfl, h⟩ | ⟨rfl, rfl, h⟩
  all_goals
    go_enter Try.func52, Try.ntmps52
    go_wp2_with (first | (go_at_call 59; first | ((with_reducible refine (k1.at_ _).mono ?_); rintro e w' ⟨rfl, xg, rfl⟩)))
    go_ret
    exact ⟨rfl, (by repeat (first | exact Below.refl _ _ | refine bel_then ?_ _ | refine bel_grow ?_ _ | refine bel_alloc ?_ _ | refine bel_drew ?_ | refine bel_set ?_ (by simp) _ | refine bel_setRow ?_ (by first | omega | simp; done | exact Nat.le_trans (by simp) (top_le _ _)) _))⟩
theorem bl_o (o : P3) (dx dy dz : Int) (A : Option Addr) (n c : Nat) (hz : nz ⟨dx, dy, dz⟩ = true) (h1 : wiB dx dy dz 32768 = true) (h2 : wiB o.x o.y o.z 65536 = false) : Gives Try.prog 52 #[.agg #[.int .i64 o.x, .int .i64 o.y, .int .i64 o.z], .agg #[.int .i64 dx, .int .i64 dy, .int .i64 dz], .slice A n c] (.bool false) := by
  refine Gives.mk fun w => ?_
  have k1 := vWithin_any dx dy dz 32768 (by omega)
  have k2 := vWithin_any o.x o.y o.z 65536 (by omega)
  rw [h1] at k1
  rw [h2] at k2
  clear h1 h2
  rcases nz_cases hz with h | ⟨rfl, h⟩ | ⟨rfl, rfl, h⟩
  all_goals
    go_enter Try.func52, Try.ntmps52
    go_wp2_with (first | (go_at_call 59; first | ((with_reducible refine (k1.at_ _).mono ?_); rintro e w' ⟨rfl, xg, rfl⟩) | ((with_reducible refine (k2.at_ _).mono ?_); rintro e w' ⟨rfl, xg, rfl⟩)))
    go_ret
    exact ⟨rfl, (by repeat (first | exact Below.refl _ _ | refine bel_then ?_ _ | refine bel_grow ?_ _ | refine bel_alloc ?_ _ | refine bel_drew ?_ | refine bel_set ?_ (by simp) _ | refine bel_setRow ?_ (by first | omega | simp; done | exact Nat.le_trans (by simp) (top_le _ _)) _))⟩
set_option maxHeartbeats 2000000 in
theorem bl_yes (w : World) (o : P3) (dx dy dz : Int) (A : Option Addr) (n c : Nat) (p : Nat → Int × Int × Int) (hv : VF w A n p) (hn : n ≤ 2147483647) (hc : n ≤ c) (hz : nz ⟨dx, dy, dz⟩ = true) (h1 : wiB dx dy dz 32768 = true) (h2 : wiB o.x o.y o.z 65536 = true) :
    Calls Try.prog 52 #[.agg #[.int .i64 o.x, .int .i64 o.y, .int .i64 o.z], .agg #[.int .i64 dx, .int .i64 dy, .int .i64 dz], .slice A n c] w fun e w' => e = .returned (.bool (insF p n)) ∧ ∃ x, w' = grow w x := by
  have k1 := vWithin_any dx dy dz 32768 (by omega)
  have k2 := vWithin_any o.x o.y o.z 65536 (by omega)
  rw [h1] at k1
  rw [h2] at k2
  clear h1 h2
  rcases nz_cases hz with h | ⟨rfl, h⟩ | ⟨rfl, rfl, h⟩
  · clear hz
    go_enter Try.func52, Try.ntmps52
    go_wp2_with (first | (go_at_call 59; first | ((with_reducible refine (k1.at_ _).mono ?_); rintro e w' ⟨rfl, xg, rfl⟩) | ((with_reducible refine (k2.at_ _).mono ?_); rintro e w' ⟨rfl, xg, rfl⟩)))
    clear k1 k2
    go_loopw [24] (fun i wr => ∃ k : Nat, i = .int .i64 k ∧ k ≤ n ∧ insF p k = true ∧ ∃ x, wr = grow ((w.alloc (.cells #[.int .i64 o.x, .int .i64 o.y, .int .i64 o.z] 36)).alloc (.cells #[.int .i64 dx, .int .i64 dy, .int .i64 dz] 36)) x) (fun i _ => (n - intOf i).toNat)
    case atStart => exact ⟨0, rfl, by omega, rfl, grow_of (by repeat (first | exact Below.refl _ _ | refine bel_then ?_ _ | refine bel_grow ?_ _ | refine bel_alloc ?_ _ | refine bel_drew ?_ | refine bel_set ?_ (by simp) _ | refine bel_setRow ?_ (by first | omega | simp; done | exact Nat.le_trans (by simp) (top_le _ _)) _))⟩
    case round =>
      obtain ⟨k, rfl, hk, hins, xx, rfl⟩ := hrel
      by_cases hlt : k < n
      · obtain ⟨b, off, rfl, hb, hcell⟩ := hv (by omega)
        have hb1 : b < w.heap.size + 1 := by omega
        have hb2 : b < w.heap.size + 1 + 1 := by omega
        obtain ⟨c1, c2, c3⟩ := hcell k hlt
        clear hcell hv
        have kp := vWithin_any (p k).1 (p k).2.1 (p k).2.2 65536 (by omega)
        by_cases hw : wiB (p k).1 (p k).2.1 (p k).2.2 65536 = true
        · rw [hw] at kp
          have hn' : insF p (k + 1) = true := by unfold insF; rw [hins, hw]; rfl
          have HN := Lib.hid hn'
          clear hw hins hn'
          go_wp2_with (first | (go_at_call 59; first | ((with_reducible refine (kp.at_ _).mono ?_); rintro e w' ⟨rfl, xg, rfl⟩)))
          go_roundw
          case rel => exact ⟨k + 1, by go_num, by omega, HN.out, grow_of (by repeat (first | exact Below.refl _ _ | refine bel_then ?_ _ | refine bel_grow ?_ _ | refine bel_alloc ?_ _ | refine bel_drew ?_ | refine bel_set ?_ (by simp) _ | refine bel_setRow ?_ (by first | omega | simp; done | exact Nat.le_trans (by simp) (top_le _ _)) _))⟩
          case measure => simp [intOf] <;> omega
        · have hw' : wiB (p k).1 (p k).2.1 (p k).2.2 65536 = false := by simpa using hw
          have hn' := insF_no p k hw' n hlt
          rw [hw'] at kp
          have HN := Lib.hid hn'
          clear hw hw' hins hn'
          go_wp2_with (first | (go_at_call 59; first | ((with_reducible refine (kp.at_ _).mono ?_); rintro e w' ⟨rfl, xg, rfl⟩)))
          go_ret
          exact ⟨by rw [HN.out]; rfl, grow_of (by repeat (first | exact Below.refl _ _ | refine bel_then ?_ _ | refine bel_grow ?_ _ | refine bel_alloc ?_ _ | refine bel_drew ?_ | refine bel_set ?_ (by simp) _ | refine bel_setRow ?_ (by first | omega | simp; done | exact Nat.le_trans (by simp) (top_le _ _)) _))⟩
      · obtain rfl : k = n := by omega
        have HN := Lib.hid hins
        clear hins hv
        go_wp2
        go_ret
        exact ⟨by rw [HN.out]; rfl, grow_of (by repeat (first | exact Below.refl _ _ | refine bel_then ?_ _ | refine bel_grow ?_ _ | refine bel_alloc ?_ _ | refine bel_drew ?_ | refine bel_set ?_ (by simp) _ | refine bel_setRow ?_ (by first | omega | simp; done | exact Nat.le_trans (by simp) (top_le _ _)) _))⟩
  · clear hz
    go_enter Try.func52, Try.ntmps52
    go_wp2_with (first | (go_at_call 59; first | ((with_reducible refine (k1.at_ _).mono ?_); rintro e w' ⟨rfl, xg, rfl⟩) | ((with_reducible refine (k2.at_ _).mono ?_); rintro e w' ⟨rfl, xg, rfl⟩)))
    clear k1 k2
    go_loopw [24] (fun i wr => ∃ k : Nat, i = .int .i64 k ∧ k ≤ n ∧ insF p k = true ∧ ∃ x, wr = grow ((w.alloc (.cells #[.int .i64 o.x, .int .i64 o.y, .int .i64 o.z] 36)).alloc (.cells #[.int .i64 0, .int .i64 dy, .int .i64 dz] 36)) x) (fun i _ => (n - intOf i).toNat)
    case atStart => exact ⟨0, rfl, by omega, rfl, grow_of (by repeat (first | exact Below.refl _ _ | refine bel_then ?_ _ | refine bel_grow ?_ _ | refine bel_alloc ?_ _ | refine bel_drew ?_ | refine bel_set ?_ (by simp) _ | refine bel_setRow ?_ (by first | omega | simp; done | exact Nat.le_trans (by simp) (top_le _ _)) _))⟩
    case round =>
      obtain ⟨k, rfl, hk, hins, xx, rfl⟩ := hrel
      by_cases hlt : k < n
      · obtain ⟨b, off, rfl, hb, hcell⟩ := hv (by omega)
        have hb1 : b < w.heap.size + 1 := by omega
        have hb2 : b < w.heap.size + 1 + 1 := by omega
        obtain ⟨c1, c2, c3⟩ := hcell k hlt
        clear hcell hv
        have kp := vWithin_any (p k).1 (p k).2.1 (p k).2.2 65536 (by omega)
        by_cases hw : wiB (p k).1 (p k).2.1 (p k).2.2 65536 = true
        · rw [hw] at kp
          have hn' : insF p (k + 1) = true := by unfold insF; rw [hins, hw]; rfl
          have HN := Lib.hid hn'
          clear hw hins hn'
          go_wp2_with (first | (go_at_call 59; first | ((with_reducible refine (kp.at_ _).mono ?_); rintro e w' ⟨rfl, xg, rfl⟩)))
          go_roundw
          case rel => exact ⟨k + 1, by go_num, by omega, HN.out, grow_of (by repeat (first | exact Below.refl _ _ | refine bel_then ?_ _ | refine bel_grow ?_ _ | refine bel_alloc ?_ _ | refine bel_drew ?_ | refine bel_set ?_ (by simp) _ | refine bel_setRow ?_ (by first | omega | simp; done | exact Nat.le_trans (by simp) (top_le _ _)) _))⟩
          case measure => simp [intOf] <;> omega
        · have hw' : wiB (p k).1 (p k).2.1 (p k).2.2 65536 = false := by simpa using hw
          have hn' := insF_no p k hw' n hlt
          rw [hw'] at kp
          have HN := Lib.hid hn'
          clear hw hw' hins hn'
          go_wp2_with (first | (go_at_call 59; first | ((with_reducible refine (kp.at_ _).mono ?_); rintro e w' ⟨rfl, xg, rfl⟩)))
          go_ret
          exact ⟨by rw [HN.out]; rfl, grow_of (by repeat (first | exact Below.refl _ _ | refine bel_then ?_ _ | refine bel_grow ?_ _ | refine bel_alloc ?_ _ | refine bel_drew ?_ | refine bel_set ?_ (by simp) _ | refine bel_setRow ?_ (by first | omega | simp; done | exact Nat.le_trans (by simp) (top_le _ _)) _))⟩
      · obtain rfl : k = n := by omega
        have HN := Lib.hid hins
        clear hins hv
        go_wp2
        go_ret
        exact ⟨by rw [HN.out]; rfl, grow_of (by repeat (first | exact Below.refl _ _ | refine bel_then ?_ _ | refine bel_grow ?_ _ | refine bel_alloc ?_ _ | refine bel_drew ?_ | refine bel_set ?_ (by simp) _ | refine bel_setRow ?_ (by first | omega | simp; done | exact Nat.le_trans (by simp) (top_le _ _)) _))⟩
  · clear hz
    go_enter Try.func52, Try.ntmps52
    go_wp2_with (first | (go_at_call 59; first | ((with_reducible refine (k1.at_ _).mono ?_); rintro e w' ⟨rfl, xg, rfl⟩) | ((with_reducible refine (k2.at_ _).mono ?_); rintro e w' ⟨rfl, xg, rfl⟩)))
    clear k1 k2
    go_loopw [24] (fun i wr => ∃ k : Nat, i = .int .i64 k ∧ k ≤ n ∧ insF p k = true ∧ ∃ x, wr = grow ((w.alloc (.cells #[.int .i64 o.x, .int .i64 o.y, .int .i64 o.z] 36)).alloc (.cells #[.int .i64 0, .int .i64 0, .int .i64 dz] 36)) x) (fun i _ => (n - intOf i).toNat)
    case atStart => exact ⟨0, rfl, by omega, rfl, grow_of (by repeat (first | exact Below.refl _ _ | refine bel_then ?_ _ | refine bel_grow ?_ _ | refine bel_alloc ?_ _ | refine bel_drew ?_ | refine bel_set ?_ (by simp) _ | refine bel_setRow ?_ (by first | omega | simp; done | exact Nat.le_trans (by simp) (top_le _ _)) _))⟩
    case round =>
      obtain ⟨k, rfl, hk, hins, xx, rfl⟩ := hrel
      by_cases hlt : k < n
      · obtain ⟨b, off, rfl, hb, hcell⟩ := hv (by omega)
        have hb1 : b < w.heap.size + 1 := by omega
        have hb2 : b < w.heap.size + 1 + 1 := by omega
        obtain ⟨c1, c2, c3⟩ := hcell k hlt
        clear hcell hv
        have kp := vWithin_any (p k).1 (p k).2.1 (p k).2.2 65536 (by omega)
        by_cases hw : wiB (p k).1 (p k).2.1 (p k).2.2 65536 = true
        · rw [hw] at kp
          have hn' : insF p (k + 1) = true := by unfold insF; rw [hins, hw]; rfl
          have HN := Lib.hid hn'
          clear hw hins hn'
          go_wp2_with (first | (go_at_call 59; first | ((with_reducible refine (kp.at_ _).mono ?_); rintro e w' ⟨rfl, xg, rfl⟩)))
          go_roundw
          case rel => exact ⟨k + 1, by go_num, by omega, HN.out, grow_of (by repeat (first | exact Below.refl _ _ | refine bel_then ?_ _ | refine bel_grow ?_ _ | refine bel_alloc ?_ _ | refine bel_drew ?_ | refine bel_set ?_ (by simp) _ | refine bel_setRow ?_ (by first | omega | simp; done | exact Nat.le_trans (by simp) (top_le _ _)) _))⟩
          case measure => simp [intOf] <;> omega
        · have hw' : wiB (p k).1 (p k).2.1 (p k).2.2 65536 = false := by simpa using hw
          have hn' := insF_no p k hw' n hlt
          rw [hw'] at kp
          have HN := Lib.hid hn'
          clear hw hw' hins hn'
          go_wp2_with (first | (go_at_call 59; first | ((with_reducible refine (kp.at_ _).mono ?_); rintro e w' ⟨rfl, xg, rfl⟩)))
          go_ret
          exact ⟨by rw [HN.out]; rfl, grow_of (by repeat (first | exact Below.refl _ _ | refine bel_then ?_ _ | refine bel_grow ?_ _ | refine bel_alloc ?_ _ | refine bel_drew ?_ | refine bel_set ?_ (by simp) _ | refine bel_setRow ?_ (by first | omega | simp; done | exact Nat.le_trans (by simp) (top_le _ _)) _))⟩
      · obtain rfl : k = n := by omega
        have HN := Lib.hid hins
        clear hins hv
        go_wp2
        go_ret
        exact ⟨by rw [HN.out]; rfl, grow_of (by repeat (first | exact Below.refl _ _ | refine bel_then ?_ _ | refine bel_grow ?_ _ | refine bel_alloc ?_ _ | refine bel_drew ?_ | refine bel_set ?_ (by simp) _ | refine bel_setRow ?_ (by first | omega | simp; done | exact Nat.le_trans (by simp) (top_le _ _)) _))⟩
end Go.Proofs.Ytgfgaaecpdbgeaa
