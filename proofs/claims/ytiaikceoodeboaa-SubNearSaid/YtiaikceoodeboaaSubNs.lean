/- The law's own near; the finer cage's vertices by their numbers. -/
import Derived.Test.YtiaikceoodeboaaSubNr
import Derived.Test.YtiaikceoodeboaaC0
import Derived.Test.YtiaikceoodeboaaC11
namespace Go.Proofs.Ytiaikceoodeboaa
open Go.RowKit
set_option linter.unusedVariables false
set_option linter.unusedSimpArgs false
set_option linter.unnecessarySimpa false
set_option maxRecDepth 100000
theorem near_G (x n d : Int) (h : nrI x n d) : Gives Try.prog 44 #[.int .i64 x, .int .i64 n, .int .i64 d] (.bool true) := by
  refine Gives.mk fun w => ?_
  obtain ⟨h1, h2, h3, h4, h5⟩ := h
  go_enter Try.func44, Try.ntmps44
  have w1 : wrap64 (x * d) = x * d := wr_in (by omega)
  have w2 : wrap64 (wrap64 (x * d) - n) = x * d - n := by rw [w1]; exact wr_in (by omega)
  have w3 : wrap64 (n - wrap64 (x * d)) = n - x * d := by rw [w1]; exact wr_in (by omega)
  go_wp2
  all_goals
    go_ret
    refine ⟨ret_bool ?_, (by repeat (first | exact Below.refl _ _ | refine bel_grow ?_ _ | refine bel_alloc ?_ _ | refine bel_set ?_ (by simp) _))⟩
    first | (simp; omega) | (symm; simp; omega) | (simp only [w1, w2, w3] at * <;> first | omega | (simp; omega))
theorem nearV_G (x n : P3) (d : Int) (h : nearP x n d) : Gives Try.prog 17 #[.agg #[.int .i64 x.x, .int .i64 x.y, .int .i64 x.z], .agg #[.int .i64 n.x, .int .i64 n.y, .int .i64 n.z], .int .i64 d] (.bool true) := by
  refine Gives.mk fun w => ?_
  have c1 := near_G _ _ _ (h _ co_x)
  have c2 := near_G _ _ _ (h _ co_y)
  have c3 := near_G _ _ _ (h _ co_z)
  go_enter Try.func17, Try.ntmps17
  go_wp2_with (first | (go_at_call 44; (first | (with_reducible refine (c1.at_ _).mono ?_) | (with_reducible refine (c2.at_ _).mono ?_) | (with_reducible refine (c3.at_ _).mono ?_)); rintro e W9 ⟨rfl, xg, rfl⟩) | fail)
  all_goals
    go_ret
    refine ⟨ret_bool ?_, (by repeat (first | exact Below.refl _ _ | refine bel_grow ?_ _ | refine bel_alloc ?_ _ | refine bel_set ?_ (by simp) _))⟩
    rfl
section
variable {vs : List P3} {fs : List (List Int)} {ks : List P3} {t : TopoT} {sh : List Int}
theorem levN_face (i : Nat) (hi : i < fs.length) : vat (levC ⟨vs, fs, ks⟩ t sh).vs ((vs.length + t.es.length + i : Nat) : Int) = midP vs fs[i] := by
  unfold vat levC
  dsimp only
  rw [List.getD_eq_getElem?_getD, Int.toNat_natCast, List.getElem?_append_right (by rw [List.length_append, movedL_len, halvesL_len]; omega), List.length_append, movedL_len, halvesL_len]
  rw [show vs.length + t.es.length + i - (vs.length + t.es.length) = i by omega]
  simp [midsL, hi]
theorem levN_edge (i : Nat) (hi : i < t.es.length) : vat (levC ⟨vs, fs, ks⟩ t sh).vs ((vs.length + i : Nat) : Int) = halfP vs (midsL vs fs) (t.es.getD i ed0) (sh.getD i 0) := by
  unfold vat levC
  dsimp only
  rw [List.getD_eq_getElem?_getD, Int.toNat_natCast, List.getElem?_append_left (by rw [List.length_append, movedL_len, halvesL_len]; omega), List.getElem?_append_right (by rw [movedL_len]; omega), movedL_len]
  rw [show vs.length + i - vs.length = i by omega]
  simp [halvesL, hi]
theorem levN_vert (v : Nat) (hv : v < vs.length) : vat (levC ⟨vs, fs, ks⟩ t sh).vs (v : Int) = placeA vs (midsL vs fs) t.fans (t.es.zip sh) v := by
  unfold vat levC
  dsimp only
  rw [List.getD_eq_getElem?_getD, Int.toNat_natCast, List.getElem?_append_left (by rw [List.length_append, movedL_len, halvesL_len]; omega), List.getElem?_append_left (by rw [movedL_len]; omega)]
  simp [movedL, hv]
theorem levN_len : (levC ⟨vs, fs, ks⟩ t sh).vs.length = vs.length + t.es.length + fs.length := by
  unfold levC
  rw [List.length_append, List.length_append, movedL_len, halvesL_len, midsL_len]
theorem place_hard (ms : List P3) (fans : List (List Int)) (L : List (Ed × Int)) (v : Nat) (h : 2 < (othS (v : Int) L).length) : placeA vs ms fans L v = vat vs (v : Int) := by
  have hn : (starF vs ms (fans.getD v []) L (v : Int)).n = (othS (v : Int) L).length := by
    have e : starF vs ms (fans.getD v []) L (v : Int) = L.foldl (starE vs v) (star0 ms (fans.getD v [])) := rfl
    rw [e, starF_eq]; show 0 + _ = _; omega
  unfold placeA placeP
  rw [if_pos (by omega)]
end
end Go.Proofs.Ytiaikceoodeboaa
