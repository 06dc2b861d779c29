/- SideSplit holds for every input: the row, out of the walk. No condition. -/
import Derived.Test.YtgfgaaecpdbgeaaRows
import Derived.Test.YtgfgaaecpdbgeaaAlive3
import Derived.Test.YtgfgaaecpdbgeaaOpenT
import Derived.Test.YtgfgaaecpdbgeaaSide6
import Derived.Test.YtgfgaaecpdbgeaaSide7
import Derived.Test.YtgfgaaecpdbgeaaSideS
import Derived.Test.YtgfgaaecpdbgeaaPost
namespace Go.Proofs.Ytgfgaaecpdbgeaa.sideSplit
open Go.ChangeShapes Go.WideShapes Go.ChangeAt Go.RowKit
set_option linter.unusedVariables false
set_option linter.unusedSimpArgs false
set_option maxRecDepth 100000 in
set_option maxHeartbeats 4000000 in
theorem x1 (w : World) (o d a b c t : P3) (k : Int) (ln : Gives Try.prog 31 #[.agg #[.int .i64 o.x, .int .i64 o.y, .int .i64 o.z], .agg #[.int .i64 d.x, .int .i64 d.y, .int .i64 d.z]] (.bool false)) :
    Calls Try.prog 8 #[.agg #[.int .i64 o.x, .int .i64 o.y, .int .i64 o.z], .agg #[.int .i64 d.x, .int .i64 d.y, .int .i64 d.z], .agg #[.int .i64 a.x, .int .i64 a.y, .int .i64 a.z, .int .i64 b.x, .int .i64 b.y, .int .i64 b.z, .int .i64 c.x, .int .i64 c.y, .int .i64 c.z], .int .i64 k] w fun e w' => e = .returned (.bool true) ∧ Below w.heap.size w w' := by
  have al := alive3_any
  go_enter Try.func8, Try.ntmps8
  go_wp2_with (first | (go_at_call 22; first | ((with_reducible refine (al.at_ _).mono ?_); rintro e w' ⟨rfl, xg, rfl⟩)) | (go_at_call 31; first | ((with_reducible refine (ln.at_ _).mono ?_); rintro e w' ⟨rfl, xg, rfl⟩)))
  go_ret
  exact ⟨rfl, (by repeat (first | exact Below.refl _ _ | refine bel_then ?_ _ | refine bel_grow ?_ _ | refine bel_alloc ?_ _ | refine bel_drew ?_ | refine bel_set ?_ (by simp) _ | refine bel_setRow ?_ (by first | omega | simp; done | exact Nat.le_trans (by simp) (top_le _ _)) _))⟩
set_option maxRecDepth 100000 in
set_option maxHeartbeats 4000000 in
theorem x2 (w : World) (o d a b c t : P3) (k : Int) (ln : Gives Try.prog 31 #[.agg #[.int .i64 o.x, .int .i64 o.y, .int .i64 o.z], .agg #[.int .i64 d.x, .int .i64 d.y, .int .i64 d.z]] (.bool true)) (wa : Gives Try.prog 32 #[.agg #[.int .i64 a.x, .int .i64 a.y, .int .i64 a.z], .int .i64 65536] (.bool false)) :
    Calls Try.prog 8 #[.agg #[.int .i64 o.x, .int .i64 o.y, .int .i64 o.z], .agg #[.int .i64 d.x, .int .i64 d.y, .int .i64 d.z], .agg #[.int .i64 a.x, .int .i64 a.y, .int .i64 a.z, .int .i64 b.x, .int .i64 b.y, .int .i64 b.z, .int .i64 c.x, .int .i64 c.y, .int .i64 c.z], .int .i64 k] w fun e w' => e = .returned (.bool true) ∧ Below w.heap.size w w' := by
  have al := alive3_any
  go_enter Try.func8, Try.ntmps8
  go_wp2_with (first | (go_at_call 22; first | ((with_reducible refine (al.at_ _).mono ?_); rintro e w' ⟨rfl, xg, rfl⟩)) | (go_at_call 31; first | ((with_reducible refine (ln.at_ _).mono ?_); rintro e w' ⟨rfl, xg, rfl⟩)) | (go_at_call 32; first | ((with_reducible refine (wa.at_ _).mono ?_); rintro e w' ⟨rfl, xg, rfl⟩)))
  go_ret
  exact ⟨rfl, (by repeat (first | exact Below.refl _ _ | refine bel_then ?_ _ | refine bel_grow ?_ _ | refine bel_alloc ?_ _ | refine bel_drew ?_ | refine bel_set ?_ (by simp) _ | refine bel_setRow ?_ (by first | omega | simp; done | exact Nat.le_trans (by simp) (top_le _ _)) _))⟩
set_option maxRecDepth 100000 in
set_option maxHeartbeats 4000000 in
theorem x3 (w : World) (o d a b c t : P3) (k : Int) (ln : Gives Try.prog 31 #[.agg #[.int .i64 o.x, .int .i64 o.y, .int .i64 o.z], .agg #[.int .i64 d.x, .int .i64 d.y, .int .i64 d.z]] (.bool true)) (wa : Gives Try.prog 32 #[.agg #[.int .i64 a.x, .int .i64 a.y, .int .i64 a.z], .int .i64 65536] (.bool true)) (wb : Gives Try.prog 32 #[.agg #[.int .i64 b.x, .int .i64 b.y, .int .i64 b.z], .int .i64 65536] (.bool false)) :
    Calls Try.prog 8 #[.agg #[.int .i64 o.x, .int .i64 o.y, .int .i64 o.z], .agg #[.int .i64 d.x, .int .i64 d.y, .int .i64 d.z], .agg #[.int .i64 a.x, .int .i64 a.y, .int .i64 a.z, .int .i64 b.x, .int .i64 b.y, .int .i64 b.z, .int .i64 c.x, .int .i64 c.y, .int .i64 c.z], .int .i64 k] w fun e w' => e = .returned (.bool true) ∧ Below w.heap.size w w' := by
  have al := alive3_any
  go_enter Try.func8, Try.ntmps8
  go_wp2_with (first | (go_at_call 22; first | ((with_reducible refine (al.at_ _).mono ?_); rintro e w' ⟨rfl, xg, rfl⟩)) | (go_at_call 31; first | ((with_reducible refine (ln.at_ _).mono ?_); rintro e w' ⟨rfl, xg, rfl⟩)) | (go_at_call 32; first | ((with_reducible refine (wa.at_ _).mono ?_); rintro e w' ⟨rfl, xg, rfl⟩) | ((with_reducible refine (wb.at_ _).mono ?_); rintro e w' ⟨rfl, xg, rfl⟩)))
  go_ret
  exact ⟨rfl, (by repeat (first | exact Below.refl _ _ | refine bel_then ?_ _ | refine bel_grow ?_ _ | refine bel_alloc ?_ _ | refine bel_drew ?_ | refine bel_set ?_ (by simp) _ | refine bel_setRow ?_ (by first | omega | simp; done | exact Nat.le_trans (by simp) (top_le _ _)) _))⟩
set_option maxRecDepth 100000 in
set_option maxHeartbeats 4000000 in
theorem x4 (w : World) (o d a b c t : P3) (k : Int) (ln : Gives Try.prog 31 #[.agg #[.int .i64 o.x, .int .i64 o.y, .int .i64 o.z], .agg #[.int .i64 d.x, .int .i64 d.y, .int .i64 d.z]] (.bool true)) (wa : Gives Try.prog 32 #[.agg #[.int .i64 a.x, .int .i64 a.y, .int .i64 a.z], .int .i64 65536] (.bool true)) (wb : Gives Try.prog 32 #[.agg #[.int .i64 b.x, .int .i64 b.y, .int .i64 b.z], .int .i64 65536] (.bool true)) (wc : Gives Try.prog 32 #[.agg #[.int .i64 c.x, .int .i64 c.y, .int .i64 c.z], .int .i64 65536] (.bool false)) :
    Calls Try.prog 8 #[.agg #[.int .i64 o.x, .int .i64 o.y, .int .i64 o.z], .agg #[.int .i64 d.x, .int .i64 d.y, .int .i64 d.z], .agg #[.int .i64 a.x, .int .i64 a.y, .int .i64 a.z, .int .i64 b.x, .int .i64 b.y, .int .i64 b.z, .int .i64 c.x, .int .i64 c.y, .int .i64 c.z], .int .i64 k] w fun e w' => e = .returned (.bool true) ∧ Below w.heap.size w w' := by
  have al := alive3_any
  go_enter Try.func8, Try.ntmps8
  go_wp2_with (first | (go_at_call 22; first | ((with_reducible refine (al.at_ _).mono ?_); rintro e w' ⟨rfl, xg, rfl⟩)) | (go_at_call 31; first | ((with_reducible refine (ln.at_ _).mono ?_); rintro e w' ⟨rfl, xg, rfl⟩)) | (go_at_call 32; first | ((with_reducible refine (wa.at_ _).mono ?_); rintro e w' ⟨rfl, xg, rfl⟩) | ((with_reducible refine (wb.at_ _).mono ?_); rintro e w' ⟨rfl, xg, rfl⟩) | ((with_reducible refine (wc.at_ _).mono ?_); rintro e w' ⟨rfl, xg, rfl⟩)))
  go_ret
  exact ⟨rfl, (by repeat (first | exact Below.refl _ _ | refine bel_then ?_ _ | refine bel_grow ?_ _ | refine bel_alloc ?_ _ | refine bel_drew ?_ | refine bel_set ?_ (by simp) _ | refine bel_setRow ?_ (by first | omega | simp; done | exact Nat.le_trans (by simp) (top_le _ _)) _))⟩
set_option maxRecDepth 100000 in
set_option maxHeartbeats 4000000 in
theorem x5 (w : World) (o d a b c t : P3) (k : Int) (ln : Gives Try.prog 31 #[.agg #[.int .i64 o.x, .int .i64 o.y, .int .i64 o.z], .agg #[.int .i64 d.x, .int .i64 d.y, .int .i64 d.z]] (.bool true)) (wa : Gives Try.prog 32 #[.agg #[.int .i64 a.x, .int .i64 a.y, .int .i64 a.z], .int .i64 65536] (.bool true)) (wb : Gives Try.prog 32 #[.agg #[.int .i64 b.x, .int .i64 b.y, .int .i64 b.z], .int .i64 65536] (.bool true)) (wc : Gives Try.prog 32 #[.agg #[.int .i64 c.x, .int .i64 c.y, .int .i64 c.z], .int .i64 65536] (.bool true)) (h : k < 0) :
    Calls Try.prog 8 #[.agg #[.int .i64 o.x, .int .i64 o.y, .int .i64 o.z], .agg #[.int .i64 d.x, .int .i64 d.y, .int .i64 d.z], .agg #[.int .i64 a.x, .int .i64 a.y, .int .i64 a.z, .int .i64 b.x, .int .i64 b.y, .int .i64 b.z, .int .i64 c.x, .int .i64 c.y, .int .i64 c.z], .int .i64 k] w fun e w' => e = .returned (.bool true) ∧ Below w.heap.size w w' := by
  have al := alive3_any
  go_enter Try.func8, Try.ntmps8
  go_wp2_with (first | (go_at_call 22; first | ((with_reducible refine (al.at_ _).mono ?_); rintro e w' ⟨rfl, xg, rfl⟩)) | (go_at_call 31; first | ((with_reducible refine (ln.at_ _).mono ?_); rintro e w' ⟨rfl, xg, rfl⟩)) | (go_at_call 32; first | ((with_reducible refine (wa.at_ _).mono ?_); rintro e w' ⟨rfl, xg, rfl⟩) | ((with_reducible refine (wb.at_ _).mono ?_); rintro e w' ⟨rfl, xg, rfl⟩) | ((with_reducible refine (wc.at_ _).mono ?_); rintro e w' ⟨rfl, xg, rfl⟩)))
  go_ret
  exact ⟨rfl, (by repeat (first | exact Below.refl _ _ | refine bel_then ?_ _ | refine bel_grow ?_ _ | refine bel_alloc ?_ _ | refine bel_drew ?_ | refine bel_set ?_ (by simp) _ | refine bel_setRow ?_ (by first | omega | simp; done | exact Nat.le_trans (by simp) (top_le _ _)) _))⟩
set_option maxRecDepth 100000 in
set_option maxHeartbeats 4000000 in
theorem x6 (w : World) (o d a b c t : P3) (k : Int) (ln : Gives Try.prog 31 #[.agg #[.int .i64 o.x, .int .i64 o.y, .int .i64 o.z], .agg #[.int .i64 d.x, .int .i64 d.y, .int .i64 d.z]] (.bool true)) (wa : Gives Try.prog 32 #[.agg #[.int .i64 a.x, .int .i64 a.y, .int .i64 a.z], .int .i64 65536] (.bool true)) (wb : Gives Try.prog 32 #[.agg #[.int .i64 b.x, .int .i64 b.y, .int .i64 b.z], .int .i64 65536] (.bool true)) (wc : Gives Try.prog 32 #[.agg #[.int .i64 c.x, .int .i64 c.y, .int .i64 c.z], .int .i64 65536] (.bool true)) (h0 : 0 ≤ k) (h : 8 < k) :
    Calls Try.prog 8 #[.agg #[.int .i64 o.x, .int .i64 o.y, .int .i64 o.z], .agg #[.int .i64 d.x, .int .i64 d.y, .int .i64 d.z], .agg #[.int .i64 a.x, .int .i64 a.y, .int .i64 a.z, .int .i64 b.x, .int .i64 b.y, .int .i64 b.z, .int .i64 c.x, .int .i64 c.y, .int .i64 c.z], .int .i64 k] w fun e w' => e = .returned (.bool true) ∧ Below w.heap.size w w' := by
  have al := alive3_any
  go_enter Try.func8, Try.ntmps8
  go_wp2_with (first | (go_at_call 22; first | ((with_reducible refine (al.at_ _).mono ?_); rintro e w' ⟨rfl, xg, rfl⟩)) | (go_at_call 31; first | ((with_reducible refine (ln.at_ _).mono ?_); rintro e w' ⟨rfl, xg, rfl⟩)) | (go_at_call 32; first | ((with_reducible refine (wa.at_ _).mono ?_); rintro e w' ⟨rfl, xg, rfl⟩) | ((with_reducible refine (wb.at_ _).mono ?_); rintro e w' ⟨rfl, xg, rfl⟩) | ((with_reducible refine (wc.at_ _).mono ?_); rintro e w' ⟨rfl, xg, rfl⟩)))
  go_ret
  exact ⟨rfl, (by repeat (first | exact Below.refl _ _ | refine bel_then ?_ _ | refine bel_grow ?_ _ | refine bel_alloc ?_ _ | refine bel_drew ?_ | refine bel_set ?_ (by simp) _ | refine bel_setRow ?_ (by first | omega | simp; done | exact Nat.le_trans (by simp) (top_le _ _)) _))⟩
set_option maxRecDepth 100000 in
set_option maxHeartbeats 4000000 in
theorem x7 (w : World) (o d a b c t : P3) (k : Int) (ln : Gives Try.prog 31 #[.agg #[.int .i64 o.x, .int .i64 o.y, .int .i64 o.z], .agg #[.int .i64 d.x, .int .i64 d.y, .int .i64 d.z]] (.bool true)) (wa : Gives Try.prog 32 #[.agg #[.int .i64 a.x, .int .i64 a.y, .int .i64 a.z], .int .i64 65536] (.bool true)) (wb : Gives Try.prog 32 #[.agg #[.int .i64 b.x, .int .i64 b.y, .int .i64 b.z], .int .i64 65536] (.bool true)) (wc : Gives Try.prog 32 #[.agg #[.int .i64 c.x, .int .i64 c.y, .int .i64 c.z], .int .i64 65536] (.bool true)) (k0 : 0 ≤ k) (k8 : k ≤ 8) (s1 : Gives Try.prog 33 #[.agg #[.int .i64 c.x, .int .i64 c.y, .int .i64 c.z], .agg #[.int .i64 b.x, .int .i64 b.y, .int .i64 b.z]] (.agg #[.int .i64 t.x, .int .i64 t.y, .int .i64 t.z])) (hx : t.x.tmod 8 ≠ 0) :
    Calls Try.prog 8 #[.agg #[.int .i64 o.x, .int .i64 o.y, .int .i64 o.z], .agg #[.int .i64 d.x, .int .i64 d.y, .int .i64 d.z], .agg #[.int .i64 a.x, .int .i64 a.y, .int .i64 a.z, .int .i64 b.x, .int .i64 b.y, .int .i64 b.z, .int .i64 c.x, .int .i64 c.y, .int .i64 c.z], .int .i64 k] w fun e w' => e = .returned (.bool true) ∧ Below w.heap.size w w' := by
  have al := alive3_any
  have yx : (t.x.tmod 8 == 0) = false := by simpa using hx
  have zx : (t.x.tmod 8 != 0) = true := by simpa using hx
  clear hx
  go_enter Try.func8, Try.ntmps8
  go_wp2_with (first | (go_at_call 22; first | ((with_reducible refine (al.at_ _).mono ?_); rintro e w' ⟨rfl, xg, rfl⟩)) | (go_at_call 31; first | ((with_reducible refine (ln.at_ _).mono ?_); rintro e w' ⟨rfl, xg, rfl⟩)) | (go_at_call 32; first | ((with_reducible refine (wa.at_ _).mono ?_); rintro e w' ⟨rfl, xg, rfl⟩) | ((with_reducible refine (wb.at_ _).mono ?_); rintro e w' ⟨rfl, xg, rfl⟩) | ((with_reducible refine (wc.at_ _).mono ?_); rintro e w' ⟨rfl, xg, rfl⟩)) | (go_at_call 33; first | ((with_reducible refine (s1.at_ _).mono ?_); rintro e w' ⟨rfl, xg, rfl⟩)))
  go_ret
  exact ⟨rfl, (by repeat (first | exact Below.refl _ _ | refine bel_then ?_ _ | refine bel_grow ?_ _ | refine bel_alloc ?_ _ | refine bel_drew ?_ | refine bel_set ?_ (by simp) _ | refine bel_setRow ?_ (by first | omega | simp; done | exact Nat.le_trans (by simp) (top_le _ _)) _))⟩
set_option maxRecDepth 100000 in
set_option maxHeartbeats 4000000 in
theorem x8 (w : World) (o d a b c t : P3) (k : Int) (ln : Gives Try.prog 31 #[.agg #[.int .i64 o.x, .int .i64 o.y, .int .i64 o.z], .agg #[.int .i64 d.x, .int .i64 d.y, .int .i64 d.z]] (.bool true)) (wa : Gives Try.prog 32 #[.agg #[.int .i64 a.x, .int .i64 a.y, .int .i64 a.z], .int .i64 65536] (.bool true)) (wb : Gives Try.prog 32 #[.agg #[.int .i64 b.x, .int .i64 b.y, .int .i64 b.z], .int .i64 65536] (.bool true)) (wc : Gives Try.prog 32 #[.agg #[.int .i64 c.x, .int .i64 c.y, .int .i64 c.z], .int .i64 65536] (.bool true)) (k0 : 0 ≤ k) (k8 : k ≤ 8) (s1 : Gives Try.prog 33 #[.agg #[.int .i64 c.x, .int .i64 c.y, .int .i64 c.z], .agg #[.int .i64 b.x, .int .i64 b.y, .int .i64 b.z]] (.agg #[.int .i64 t.x, .int .i64 t.y, .int .i64 t.z])) (hx : t.x.tmod 8 = 0) (hy : t.y.tmod 8 ≠ 0) :
    Calls Try.prog 8 #[.agg #[.int .i64 o.x, .int .i64 o.y, .int .i64 o.z], .agg #[.int .i64 d.x, .int .i64 d.y, .int .i64 d.z], .agg #[.int .i64 a.x, .int .i64 a.y, .int .i64 a.z, .int .i64 b.x, .int .i64 b.y, .int .i64 b.z, .int .i64 c.x, .int .i64 c.y, .int .i64 c.z], .int .i64 k] w fun e w' => e = .returned (.bool true) ∧ Below w.heap.size w w' := by
  have al := alive3_any
  have yx : (t.x.tmod 8 == 0) = true := by simpa using hx
  have zx : (t.x.tmod 8 != 0) = false := by simpa using hx
  have yy : (t.y.tmod 8 == 0) = false := by simpa using hy
  have zy : (t.y.tmod 8 != 0) = true := by simpa using hy
  clear hx hy
  go_enter Try.func8, Try.ntmps8
  go_wp2_with (first | (go_at_call 22; first | ((with_reducible refine (al.at_ _).mono ?_); rintro e w' ⟨rfl, xg, rfl⟩)) | (go_at_call 31; first | ((with_reducible refine (ln.at_ _).mono ?_); rintro e w' ⟨rfl, xg, rfl⟩)) | (go_at_call 32; first | ((with_reducible refine (wa.at_ _).mono ?_); rintro e w' ⟨rfl, xg, rfl⟩) | ((with_reducible refine (wb.at_ _).mono ?_); rintro e w' ⟨rfl, xg, rfl⟩) | ((with_reducible refine (wc.at_ _).mono ?_); rintro e w' ⟨rfl, xg, rfl⟩)) | (go_at_call 33; first | ((with_reducible refine (s1.at_ _).mono ?_); rintro e w' ⟨rfl, xg, rfl⟩)))
  go_ret
  exact ⟨rfl, (by repeat (first | exact Below.refl _ _ | refine bel_then ?_ _ | refine bel_grow ?_ _ | refine bel_alloc ?_ _ | refine bel_drew ?_ | refine bel_set ?_ (by simp) _ | refine bel_setRow ?_ (by first | omega | simp; done | exact Nat.le_trans (by simp) (top_le _ _)) _))⟩
set_option maxRecDepth 100000 in
set_option maxHeartbeats 4000000 in
theorem x9 (w : World) (o d a b c t : P3) (k : Int) (ln : Gives Try.prog 31 #[.agg #[.int .i64 o.x, .int .i64 o.y, .int .i64 o.z], .agg #[.int .i64 d.x, .int .i64 d.y, .int .i64 d.z]] (.bool true)) (wa : Gives Try.prog 32 #[.agg #[.int .i64 a.x, .int .i64 a.y, .int .i64 a.z], .int .i64 65536] (.bool true)) (wb : Gives Try.prog 32 #[.agg #[.int .i64 b.x, .int .i64 b.y, .int .i64 b.z], .int .i64 65536] (.bool true)) (wc : Gives Try.prog 32 #[.agg #[.int .i64 c.x, .int .i64 c.y, .int .i64 c.z], .int .i64 65536] (.bool true)) (k0 : 0 ≤ k) (k8 : k ≤ 8) (s1 : Gives Try.prog 33 #[.agg #[.int .i64 c.x, .int .i64 c.y, .int .i64 c.z], .agg #[.int .i64 b.x, .int .i64 b.y, .int .i64 b.z]] (.agg #[.int .i64 t.x, .int .i64 t.y, .int .i64 t.z])) (hx : t.x.tmod 8 = 0) (hy : t.y.tmod 8 = 0) (hz : t.z.tmod 8 ≠ 0) :
    Calls Try.prog 8 #[.agg #[.int .i64 o.x, .int .i64 o.y, .int .i64 o.z], .agg #[.int .i64 d.x, .int .i64 d.y, .int .i64 d.z], .agg #[.int .i64 a.x, .int .i64 a.y, .int .i64 a.z, .int .i64 b.x, .int .i64 b.y, .int .i64 b.z, .int .i64 c.x, .int .i64 c.y, .int .i64 c.z], .int .i64 k] w fun e w' => e = .returned (.bool true) ∧ Below w.heap.size w w' := by
  have al := alive3_any
  have yx : (t.x.tmod 8 == 0) = true := by simpa using hx
  have zx : (t.x.tmod 8 != 0) = false := by simpa using hx
  have yy : (t.y.tmod 8 == 0) = true := by simpa using hy
  have zy : (t.y.tmod 8 != 0) = false := by simpa using hy
  have yz : (t.z.tmod 8 == 0) = false := by simpa using hz
  have zz : (t.z.tmod 8 != 0) = true := by simpa using hz
  clear hx hy hz
  go_enter Try.func8, Try.ntmps8
  go_wp2_with (first | (go_at_call 22; first | ((with_reducible refine (al.at_ _).mono ?_); rintro e w' ⟨rfl, xg, rfl⟩)) | (go_at_call 31; first | ((with_reducible refine (ln.at_ _).mono ?_); rintro e w' ⟨rfl, xg, rfl⟩)) | (go_at_call 32; first | ((with_reducible refine (wa.at_ _).mono ?_); rintro e w' ⟨rfl, xg, rfl⟩) | ((with_reducible refine (wb.at_ _).mono ?_); rintro e w' ⟨rfl, xg, rfl⟩) | ((with_reducible refine (wc.at_ _).mono ?_); rintro e w' ⟨rfl, xg, rfl⟩)) | (go_at_call 33; first | ((with_reducible refine (s1.at_ _).mono ?_); rintro e w' ⟨rfl, xg, rfl⟩)))
  go_ret
  exact ⟨rfl, (by repeat (first | exact Below.refl _ _ | refine bel_then ?_ _ | refine bel_grow ?_ _ | refine bel_alloc ?_ _ | refine bel_drew ?_ | refine bel_set ?_ (by simp) _ | refine bel_setRow ?_ (by first | omega | simp; done | exact Nat.le_trans (by simp) (top_le _ _)) _))⟩
set_option maxRecDepth 100000 in
set_option maxHeartbeats 4000000 in
theorem main (w : World) (o d a b c t m : P3) (k n0 e0 n1 e1 n2 e2 : Int) (f0 f1 f2 K1 K2 : Bool) (ln : Gives Try.prog 31 #[.agg #[.int .i64 o.x, .int .i64 o.y, .int .i64 o.z], .agg #[.int .i64 d.x, .int .i64 d.y, .int .i64 d.z]] (.bool true)) (wa : Gives Try.prog 32 #[.agg #[.int .i64 a.x, .int .i64 a.y, .int .i64 a.z], .int .i64 65536] (.bool true)) (wb : Gives Try.prog 32 #[.agg #[.int .i64 b.x, .int .i64 b.y, .int .i64 b.z], .int .i64 65536] (.bool true)) (wc : Gives Try.prog 32 #[.agg #[.int .i64 c.x, .int .i64 c.y, .int .i64 c.z], .int .i64 65536] (.bool true)) (k0 : 0 ≤ k) (k8 : k ≤ 8) (s1 : Gives Try.prog 33 #[.agg #[.int .i64 c.x, .int .i64 c.y, .int .i64 c.z], .agg #[.int .i64 b.x, .int .i64 b.y, .int .i64 b.z]] (.agg #[.int .i64 t.x, .int .i64 t.y, .int .i64 t.z])) (hx : t.x.tmod 8 = 0) (hy : t.y.tmod 8 = 0) (hz : t.z.tmod 8 = 0) (ad1 : Gives Try.prog 34 #[.agg #[.int .i64 b.x, .int .i64 b.y, .int .i64 b.z], .agg #[.int .i64 (wrap64 (wrap64 (t.x.tdiv 8) * k)), .int .i64 (wrap64 (wrap64 (t.y.tdiv 8) * k)), .int .i64 (wrap64 (wrap64 (t.z.tdiv 8) * k))]] (.agg #[.int .i64 m.x, .int .i64 m.y, .int .i64 m.z])) (hK : (K1 && K2) = false)
    (m0 : Gives Try.prog 25 #[.agg #[.int .i64 o.x, .int .i64 o.y, .int .i64 o.z], .agg #[.int .i64 d.x, .int .i64 d.y, .int .i64 d.z], .agg #[.int .i64 a.x, .int .i64 a.y, .int .i64 a.z, .int .i64 b.x, .int .i64 b.y, .int .i64 b.z, .int .i64 c.x, .int .i64 c.y, .int .i64 c.z]] (.tuple #[.agg #[.int .i64 (n0), .int .i64 (e0), .bool (f0), .int .i64 0, .int .i64 0], .bool (K1 || K2), .int .i64 (0)]))
    (m1 : Gives Try.prog 25 #[.agg #[.int .i64 o.x, .int .i64 o.y, .int .i64 o.z], .agg #[.int .i64 d.x, .int .i64 d.y, .int .i64 d.z], .agg #[.int .i64 a.x, .int .i64 a.y, .int .i64 a.z, .int .i64 b.x, .int .i64 b.y, .int .i64 b.z, .int .i64 m.x, .int .i64 m.y, .int .i64 m.z]] (.tuple #[.agg #[.int .i64 (n1), .int .i64 (e1), .bool (f1), .int .i64 0, .int .i64 0], .bool (K1), .int .i64 (0)]))
    (m2 : Gives Try.prog 25 #[.agg #[.int .i64 o.x, .int .i64 o.y, .int .i64 o.z], .agg #[.int .i64 d.x, .int .i64 d.y, .int .i64 d.z], .agg #[.int .i64 a.x, .int .i64 a.y, .int .i64 a.z, .int .i64 m.x, .int .i64 m.y, .int .i64 m.z, .int .i64 c.x, .int .i64 c.y, .int .i64 c.z]] (.tuple #[.agg #[.int .i64 (n2), .int .i64 (e2), .bool (f2), .int .i64 0, .int .i64 0], .bool (K2), .int .i64 (0)])) :
    Calls Try.prog 8 #[.agg #[.int .i64 o.x, .int .i64 o.y, .int .i64 o.z], .agg #[.int .i64 d.x, .int .i64 d.y, .int .i64 d.z], .agg #[.int .i64 a.x, .int .i64 a.y, .int .i64 a.z, .int .i64 b.x, .int .i64 b.y, .int .i64 b.z, .int .i64 c.x, .int .i64 c.y, .int .i64 c.z], .int .i64 k] w fun e w' => e = .returned (.bool true) ∧ Below w.heap.size w w' := by
  have al := alive3_any
  have yx : (t.x.tmod 8 == 0) = true := by simpa using hx
  have zx : (t.x.tmod 8 != 0) = false := by simpa using hx
  have yy : (t.y.tmod 8 == 0) = true := by simpa using hy
  have zy : (t.y.tmod 8 != 0) = false := by simpa using hy
  have yz : (t.z.tmod 8 == 0) = true := by simpa using hz
  have zz : (t.z.tmod 8 != 0) = false := by simpa using hz
  clear hx hy hz
  cases K1 <;> cases K2
  · simp only [Bool.or_false, Bool.or_true, Bool.false_or, Bool.true_or] at m0
    clear hK
    go_enter Try.func8, Try.ntmps8
    go_wp2_with (first | (go_at_call 22; first | ((with_reducible refine (al.at_ _).mono ?_); rintro e w' ⟨rfl, xg, rfl⟩)) | (go_at_call 31; first | ((with_reducible refine (ln.at_ _).mono ?_); rintro e w' ⟨rfl, xg, rfl⟩)) | (go_at_call 32; first | ((with_reducible refine (wa.at_ _).mono ?_); rintro e w' ⟨rfl, xg, rfl⟩) | ((with_reducible refine (wb.at_ _).mono ?_); rintro e w' ⟨rfl, xg, rfl⟩) | ((with_reducible refine (wc.at_ _).mono ?_); rintro e w' ⟨rfl, xg, rfl⟩)) | (go_at_call 33; first | ((with_reducible refine (s1.at_ _).mono ?_); rintro e w' ⟨rfl, xg, rfl⟩)) | (go_at_call 34; first | ((with_reducible refine (ad1.at_ _).mono ?_); rintro e w' ⟨rfl, xg, rfl⟩)) | (go_at_call 25; first | ((with_reducible refine (m0.at_ _).mono ?_); rintro e w' ⟨rfl, xg, rfl⟩) | ((with_reducible refine (m1.at_ _).mono ?_); rintro e w' ⟨rfl, xg, rfl⟩) | ((with_reducible refine (m2.at_ _).mono ?_); rintro e w' ⟨rfl, xg, rfl⟩)))
    go_ret
    exact ⟨rfl, (by repeat (first | exact Below.refl _ _ | refine bel_then ?_ _ | refine bel_grow ?_ _ | refine bel_alloc ?_ _ | refine bel_drew ?_ | refine bel_set ?_ (by simp) _ | refine bel_setRow ?_ (by first | omega | simp; done | exact Nat.le_trans (by simp) (top_le _ _)) _))⟩
  · simp only [Bool.or_false, Bool.or_true, Bool.false_or, Bool.true_or] at m0
    clear hK
    go_enter Try.func8, Try.ntmps8
    go_wp2_with (first | (go_at_call 22; first | ((with_reducible refine (al.at_ _).mono ?_); rintro e w' ⟨rfl, xg, rfl⟩)) | (go_at_call 31; first | ((with_reducible refine (ln.at_ _).mono ?_); rintro e w' ⟨rfl, xg, rfl⟩)) | (go_at_call 32; first | ((with_reducible refine (wa.at_ _).mono ?_); rintro e w' ⟨rfl, xg, rfl⟩) | ((with_reducible refine (wb.at_ _).mono ?_); rintro e w' ⟨rfl, xg, rfl⟩) | ((with_reducible refine (wc.at_ _).mono ?_); rintro e w' ⟨rfl, xg, rfl⟩)) | (go_at_call 33; first | ((with_reducible refine (s1.at_ _).mono ?_); rintro e w' ⟨rfl, xg, rfl⟩)) | (go_at_call 34; first | ((with_reducible refine (ad1.at_ _).mono ?_); rintro e w' ⟨rfl, xg, rfl⟩)) | (go_at_call 25; first | ((with_reducible refine (m0.at_ _).mono ?_); rintro e w' ⟨rfl, xg, rfl⟩) | ((with_reducible refine (m1.at_ _).mono ?_); rintro e w' ⟨rfl, xg, rfl⟩) | ((with_reducible refine (m2.at_ _).mono ?_); rintro e w' ⟨rfl, xg, rfl⟩)))
    go_ret
    exact ⟨rfl, (by repeat (first | exact Below.refl _ _ | refine bel_then ?_ _ | refine bel_grow ?_ _ | refine bel_alloc ?_ _ | refine bel_drew ?_ | refine bel_set ?_ (by simp) _ | refine bel_setRow ?_ (by first | omega | simp; done | exact Nat.le_trans (by simp) (top_le _ _)) _))⟩
  · simp only [Bool.or_false, Bool.or_true, Bool.false_or, Bool.true_or] at m0
    clear hK
    go_enter Try.func8, Try.ntmps8
    go_wp2_with (first | (go_at_call 22; first | ((with_reducible refine (al.at_ _).mono ?_); rintro e w' ⟨rfl, xg, rfl⟩)) | (go_at_call 31; first | ((with_reducible refine (ln.at_ _).mono ?_); rintro e w' ⟨rfl, xg, rfl⟩)) | (go_at_call 32; first | ((with_reducible refine (wa.at_ _).mono ?_); rintro e w' ⟨rfl, xg, rfl⟩) | ((with_reducible refine (wb.at_ _).mono ?_); rintro e w' ⟨rfl, xg, rfl⟩) | ((with_reducible refine (wc.at_ _).mono ?_); rintro e w' ⟨rfl, xg, rfl⟩)) | (go_at_call 33; first | ((with_reducible refine (s1.at_ _).mono ?_); rintro e w' ⟨rfl, xg, rfl⟩)) | (go_at_call 34; first | ((with_reducible refine (ad1.at_ _).mono ?_); rintro e w' ⟨rfl, xg, rfl⟩)) | (go_at_call 25; first | ((with_reducible refine (m0.at_ _).mono ?_); rintro e w' ⟨rfl, xg, rfl⟩) | ((with_reducible refine (m1.at_ _).mono ?_); rintro e w' ⟨rfl, xg, rfl⟩) | ((with_reducible refine (m2.at_ _).mono ?_); rintro e w' ⟨rfl, xg, rfl⟩)))
    go_ret
    exact ⟨rfl, (by repeat (first | exact Below.refl _ _ | refine bel_then ?_ _ | refine bel_grow ?_ _ | refine bel_alloc ?_ _ | refine bel_drew ?_ | refine bel_set ?_ (by simp) _ | refine bel_setRow ?_ (by first | omega | simp; done | exact Nat.le_trans (by simp) (top_le _ _)) _))⟩
  · exact absurd hK (by simp)
theorem tq8 (n : Int) (h : n.tmod 8 = 0) : n.tdiv 8 * 8 = n := by
  have := Int.tmod_add_mul_tdiv n 8; omega
theorem ed_in {b c : Int} (hb : -65536 ≤ b ∧ b ≤ 65536) (hc : -65536 ≤ c ∧ c ≤ 65536) (h : (c - b).tmod 8 = 0) : ∃ e : Int, (c - b).tdiv 8 = e ∧ c = b + e * 8 ∧ -32768 ≤ e ∧ e ≤ 32768 := by
  have := tq8 _ h
  exact ⟨_, rfl, by omega, by omega, by omega⟩
theorem walk (w : World) (o : P3) (ko : In3 o) (d : P3) (kd : In3 d) (a b c : P3) (kt : In3 a ∧ In3 b ∧ In3 c) (k : Int) (kk : In64 k) :
    Calls Try.prog 8 #[.agg #[.int .i64 o.x, .int .i64 o.y, .int .i64 o.z], .agg #[.int .i64 d.x, .int .i64 d.y, .int .i64 d.z], .agg #[.int .i64 a.x, .int .i64 a.y, .int .i64 a.z, .int .i64 b.x, .int .i64 b.y, .int .i64 b.z, .int .i64 c.x, .int .i64 c.y, .int .i64 c.z], .int .i64 k] w fun e w' => e = .returned (.bool true) ∧ Below w.heap.size w w' := by
  have ln := rLine_any o d
  have wa := uWithin_any a.x a.y a.z 65536 (by omega) (by omega)
  have wb := uWithin_any b.x b.y b.z 65536 (by omega) (by omega)
  have wc := uWithin_any c.x c.y c.z 65536 (by omega) (by omega)
  have ea : wiB a.x a.y a.z 65536 = inB3 a := rfl
  have eb : wiB b.x b.y b.z 65536 = inB3 b := rfl
  have ec : wiB c.x c.y c.z 65536 = inB3 c := rfl
  rw [ea] at wa
  rw [eb] at wb
  rw [ec] at wc
  by_cases hl : lnB o d = true
  · by_cases ha : inB3 a = true
    · by_cases hb : inB3 b = true
      · by_cases hc : inB3 c = true
        · rw [hl] at ln
          rw [ha] at wa
          rw [hb] at wb
          rw [hc] at wc
          by_cases k0 : 0 ≤ k
          · by_cases k8 : k ≤ 8
            · have sb1 := inB3_sp.1 hb
              have sc1 := inB3_sp.1 hc
              have sa1 := inB3_sp.1 ha
              have s1 := rSub_P c b (by have := sb_in sc1 sb1; unfold InP at *; omega)
              by_cases hx : (sb c b).x.tmod 8 = 0
              · by_cases hy : (sb c b).y.tmod 8 = 0
                · by_cases hz : (sb c b).z.tmod 8 = 0
                  · obtain ⟨b1, b2, b3⟩ := sb1
                    obtain ⟨c1, c2, c3⟩ := sc1
                    obtain ⟨ex, ex1, ex2, ex3⟩ := ed_in b1 c1 hx
                    obtain ⟨ey, ey1, ey2, ey3⟩ := ed_in b2 c2 hy
                    obtain ⟨ez, ez1, ez2, ez3⟩ := ed_in b3 c3 hz
                    have px := part_in b1 c1 ex2 ⟨k0, k8⟩
                    have py := part_in b2 c2 ey2 ⟨k0, k8⟩
                    have pz := part_in b3 c3 ez2 ⟨k0, k8⟩
                    have hce : c = ad b (sc ⟨ex, ey, ez⟩ 8) := by
                      obtain ⟨cx, cy, cz⟩ := c
                      unfold ad sc
                      simp only at ex2 ey2 ez2
                      rw [ex2, ey2, ez2]
                    have hm : inB3 (ad b (sc ⟨ex, ey, ez⟩ k)) = true := inB3_sp.2 ⟨px.1, py.1, pz.1⟩
                    have h0 : bdB o d a b (ad b (sc ⟨ex, ey, ez⟩ 8)) = true := by rw [← hce]; unfold bdB; rw [hl, ha, hb, hc]; rfl
                    have h1 : bdB o d a b (ad b (sc ⟨ex, ey, ez⟩ k)) = true := by unfold bdB; rw [hl, ha, hb, hm]; rfl
                    have h2 : bdB o d a (ad b (sc ⟨ex, ey, ez⟩ k)) (ad b (sc ⟨ex, ey, ez⟩ 8)) = true := by rw [← hce]; unfold bdB; rw [hl, ha, hm, hc]; rfl
                    obtain ⟨q1, q2⟩ := hit_split o d a b ⟨ex, ey, ez⟩ k ⟨k0, k8⟩ h0 h1 h2
                    have m0 := vMeet_any o d a b (ad b (sc ⟨ex, ey, ez⟩ 8))
                    have m1 := vMeet_any o d a b (ad b (sc ⟨ex, ey, ez⟩ k))
                    have m2 := vMeet_any o d a (ad b (sc ⟨ex, ey, ez⟩ k)) (ad b (sc ⟨ex, ey, ez⟩ 8))
                    rw [(h_in h0).2.2.2.2, q1] at m0
                    rw [(h_in h1).2.2.2.2] at m1
                    rw [(h_in h2).2.2.2.2] at m2
                    rw [← hce] at m0 m2 q2
                    have gx : (sb c b).x.tdiv 8 = ex := ex1
                    have gy : (sb c b).y.tdiv 8 = ey := ey1
                    have gz : (sb c b).z.tdiv 8 = ez := ez1
                    have ad1 : Gives Try.prog 34 #[.agg #[.int .i64 b.x, .int .i64 b.y, .int .i64 b.z], .agg #[.int .i64 (wrap64 (wrap64 ((sb c b).x.tdiv 8) * k)), .int .i64 (wrap64 (wrap64 ((sb c b).y.tdiv 8) * k)), .int .i64 (wrap64 (wrap64 ((sb c b).z.tdiv 8) * k))]] (.agg #[.int .i64 (ad b (sc ⟨ex, ey, ez⟩ k)).x, .int .i64 (ad b (sc ⟨ex, ey, ez⟩ k)).y, .int .i64 (ad b (sc ⟨ex, ey, ez⟩ k)).z]) := by
                      rw [gx, gy, gz, wrap_in (x := ex) (by omega), wrap_in (x := ey) (by omega), wrap_in (x := ez) (by omega), wrap_in (x := ex * k) (by omega), wrap_in (x := ey * k) (by omega), wrap_in (x := ez * k) (by omega)]
                      refine rAdd_P b (sc ⟨ex, ey, ez⟩ k) ?_
                      obtain ⟨⟨p1, p2⟩, _⟩ := px
                      obtain ⟨⟨p3, p4⟩, _⟩ := py
                      obtain ⟨⟨p5, p6⟩, _⟩ := pz
                      unfold InP ad sc; simp only; omega
                    exact main w o d a b c (sb c b) _ k _ _ _ _ _ _ _ _ _ _ _ ln wa wb wc k0 k8 s1 hx hy hz ad1 q2 m0 m1 m2
                  · exact x9 w o d a b c (sb c b) k ln wa wb wc k0 k8 s1 hx hy hz
                · exact x8 w o d a b c (sb c b) k ln wa wb wc k0 k8 s1 hx hy
              · exact x7 w o d a b c (sb c b) k ln wa wb wc k0 k8 s1 hx
            · exact x6 w o d a b c a k ln wa wb wc k0 (by omega)
          · exact x5 w o d a b c a k ln wa wb wc (by omega)
        · have hc : inB3 c = false := by simpa using hc
          rw [hl] at ln
          rw [ha] at wa
          rw [hb] at wb
          rw [hc] at wc
          exact x4 w o d a b c a k ln wa wb wc
      · have hb : inB3 b = false := by simpa using hb
        rw [hl] at ln
        rw [ha] at wa
        rw [hb] at wb
        exact x3 w o d a b c a k ln wa wb
    · have ha : inB3 a = false := by simpa using ha
      rw [hl] at ln
      rw [ha] at wa
      exact x2 w o d a b c a k ln wa
  · have hl : lnB o d = false := by simpa using hl
    rw [hl] at ln
    exact x1 w o d a b c a k ln

theorem own : ownKnob Try.prog.godebug = none := by kernel_rfl
set_option maxRecDepth 100000 in
theorem lifted (os : Os) (started : os.Started) (H : Type) (enc : TypeId × Value → H) :
    ReturnsInHanded {} Try.checked os 8 .any (Rows.sideSplitSpec.pre6 enc Try.prog Try.f8 Rows.sideSplitRow.domain false) (Rows.sideSplitSpec.post enc Try.prog Try.f8 false true false false) := by
  refine returnsInHanded_of_change (C := Try.checked) own started (by kernel_rfl) Try.func8
    (ChangeSpec.witness6 (enc := enc) (C := Try.checked) false ⟨#[], #[.agg #[.int .i64 0, .int .i64 0, .int .i64 0], .agg #[.int .i64 0, .int .i64 0, .int .i64 0], .agg #[.int .i64 0, .int .i64 0, .int .i64 0, .int .i64 0, .int .i64 0, .int .i64 0, .int .i64 0, .int .i64 0, .int .i64 0], .int .i64 0], []⟩ 12 (by kernel_rfl) (by kernel_rfl) (by kernel_rfl) (by kernel_rfl)) ?_
  intro W base args ds gs before hval0 hW hcnd _
  have hval : ∀ (j : Nat) t v, Try.f8.params[j]? = some t → args[j]? = some v → Value.okWide Try.prog W .any base t v := hval0
  have hW' := hW
  obtain ⟨p, q, hA0, hV, rfl, hfz, hnd⟩ := hW
  have hA : DataW.TrodAll enc Try.prog W 0 (fun _ => true) true Try.f8.params.toList args.toList ds p := hA0
  rw [Try.params8] at hA hval
  obtain ⟨v0, vs0, d0, ds0, p0, q0, hargs, rfl, rfl, h0, r0⟩ := trodAll_cons hA
  obtain ⟨v1, vs1, d1, ds1, p1, q1, rfl, rfl, rfl, h1, r1⟩ := trodAll_cons r0
  obtain ⟨v2, vs2, d2, ds2, p2, q2, rfl, rfl, rfl, h2, r2⟩ := trodAll_cons r1
  obtain ⟨v3, vs3, d3, ds3, p3, q3, rfl, rfl, rfl, h3, r3⟩ := trodAll_cons r2
  obtain ⟨rfl, rfl, rfl⟩ := trodAll_nil r3
  obtain rfl : args = #[v0, v1, v2, v3] := by cases args; simp_all
  obtain ⟨a0, rfl, k0⟩ := open_V3 (hval 0 36 v0 rfl rfl) h0
  obtain ⟨a1, rfl, k1⟩ := open_V3 (hval 1 36 v1 rfl rfl) h1
  obtain ⟨a2, b2, c2, rfl, k2⟩ := open_T3 (hval 2 38 v2 rfl rfl) h2
  obtain ⟨a3, rfl, b3⟩ := open_int64 (hval 3 3 v3 rfl rfl) h3
  refine (walk W a0 k0 a1 k1 a2 b2 c2 k2 a3 b3).mono fun e W' ⟨he, hb⟩ => ?_
  subst he
  exact ⟨_, rfl, law_post (tb := 4) (by kernel_rfl) (by kernel_rfl) rfl rfl Try.underlying4 rfl rfl rfl hW' hb⟩

theorem over : Rows.sideSplitRow.holds Try.pinned (OpenSpec.ofChange Rows.sideSplitSpec) :=
  OpenClaim.holds_of_wide 8 Try.f8 rfl rfl rfl rfl rfl rfl rfl ⟨rfl, rfl, rfl, rfl, rfl⟩ rfl rfl rfl rfl rfl (by kernel_rfl) Try.func8 (by kernel_rfl)
    (of_decide_eq_true (by kernel_rfl)) (by unfold Func.isWrapper; first | (rw [if_pos (by decide +kernel)]; kernel_rfl) | (rw [if_neg (by decide +kernel)]; exact ⟨rfl, rfl⟩))
    (fun os started H enc _ => lifted os started H enc)

theorem proved : Rows.SideSplitSaid :=
  over
#print axioms proved
end Go.Proofs.Ytgfgaaecpdbgeaa.sideSplit
