/- Edge of both. A patch's sides: the document's Row. Arguments opened down to their single cells, whatever their structs and arrays. No program is imported. Arguments opened: points, boxes, rows of points. Arguments opened: points and triangles. Arguments opened: arrays of four and of sixteen points. -/
import Derived.ProofKit
import Derived.OpenShut
import Derived.Deep.Slices
import Derived.Test.YtgmifpicilfcdaaProg
import Derived.Test.YtgmifpicilfcdaaC0
import Derived.Test.YtgmifpicilfcdaaC1
import Derived.Test.YtgmifpicilfcdaaC3
namespace Go.Proofs.Ytgmifpicilfcdaa
open Go.RowKit
set_option linter.unusedVariables false
set_option linter.unusedSimpArgs false
set_option linter.unnecessarySimpa false
set_option maxRecDepth 100000
theorem ok_pr (p : Nat → P3) : okB (pr4 (p 0) (p 1) (p 2) (p 3)) 4 = okB p 4 := by rw [okB4, okB4]; rfl
theorem len_pr (p : Nat → P3) : lenF (pr4 (p 0) (p 1) (p 2) (p 3)) = lenF p := by rw [lenF_eq, lenF_eq]; rfl
theorem lenK_pr (p : Nat → P3) : lenK (pr4 (p 0) (p 1) (p 2) (p 3)) = lenK p := by unfold lenK; rw [ok_pr, len_pr]
theorem edK_pr (p : Nat → P3) (u : Int) : edK (pr4 (p 0) (p 1) (p 2) (p 3)) u = edK p u := by unfold edK; rw [ok_pr, len_pr]
theorem length_any (p : Nat → P3) : Gives Try.prog 8 #[.agg (ptsC 4 p)] (.tuple #[.int .i64 (lenK p), .bool (okB p 4)]) := by
  have h := length_lit (p 0) (p 1) (p 2) (p 3)
  rw [lenK_pr, ← okB4] at h
  exact h
theorem rLength_any (p : Nat → P3) : Gives Try.prog 9 #[.agg (ptsC 4 p)] (.tuple #[.int .i64 (lenK p), .bool (okB p 4)]) := by
  have h := rLength_lit (p 0) (p 1) (p 2) (p 3)
  rw [lenK_pr, ← okB4] at h
  exact h
theorem lenK_bd (p : Nat → P3) : 0 ≤ lenK p ∧ lenK p ≤ 1179648 := by
  unfold lenK
  split
  · rename_i h; exact lenF_bd h
  · omega
theorem edK_yes {p : Nat → P3} {u : Int} (h : okB p 4 = true) (hu : 1 ≤ u) : edK p u = min (1 + lenK p / u) 16 := by
  unfold edK lenK edF
  rw [if_pos ⟨h, hu⟩, if_pos h]
theorem edK_no {p : Nat → P3} {u : Int} (h : okB p 4 = false ∨ ¬ 1 ≤ u) : edK p u = 0 := by
  unfold edK
  rw [if_neg]
  rintro ⟨a, b⟩
  rcases h with h | h
  · rw [h] at a; cases a
  · exact h b
theorem div_bd {n u : Int} (hn : 0 ≤ n ∧ n ≤ 1179648) (hu : 1 ≤ u) : n.tdiv u = n / u ∧ 0 ≤ n / u ∧ n / u ≤ 1179648 := by
  refine ⟨Int.tdiv_eq_ediv_of_nonneg hn.1, Int.ediv_nonneg hn.1 (by omega), ?_⟩
  have := Int.ediv_le_self u hn.1
  omega
set_option maxHeartbeats 4000000 in
theorem edge_any (p : Nat → P3) (u : Int) : Gives Try.prog 10 #[.agg (ptsC 4 p), .int .i64 u] (.int .i64 (edK p u)) := by
  have k1 := length_any p
  have bl := lenK_bd p
  have hy := @edK_yes p u
  have hn := @edK_no p u
  generalize edK p u = EE at *
  generalize lenK p = LL at *
  obtain ⟨ok, hok⟩ : ∃ o, o = okB p 4 := ⟨_, rfl⟩
  rw [← hok] at k1 hy hn
  clear hok
  rw [ptsC4] at k1 ⊢
  replace hn := Lib.hid hn
  replace hy := Lib.hid hy
  refine Gives.mk fun w => ?_
  cases ok
  · obtain rfl := hn.out (.inl rfl)
    go_enter Try.func10, Try.ntmps10
    go_wp2_with (first | (go_at_call 8; (with_reducible refine (k1.at_ _).mono ?_); rintro e w' ⟨rfl, xg, rfl⟩) | fail)
    go_ret
    exact ⟨rfl, (by repeat (first | exact Below.refl _ _ | refine bel_then ?_ _ | refine bel_grow ?_ _ | refine bel_alloc ?_ _ | refine bel_drew ?_ | refine bel_set ?_ (by simp) _ | refine bel_setRow ?_ (by first | omega | (simp; done) | (refine Nat.le_trans ?_ (top_le _ _); simp; done) | (refine Nat.le_succ_of_le (Nat.le_trans ?_ (top_le _ _)); simp; done) | (refine Nat.le_trans ?_ (top_le _ _); simp only [World.size_alloc]; refine Nat.le_succ_of_le (Nat.le_trans ?_ (top_le _ _)); simp; done)) _))⟩
  · by_cases hu : u < 1
    · obtain rfl := hn.out (.inr (by omega))
      go_enter Try.func10, Try.ntmps10
      go_wp2_with (first | (go_at_call 8; (with_reducible refine (k1.at_ _).mono ?_); rintro e w' ⟨rfl, xg, rfl⟩) | fail)
      go_ret
      exact ⟨rfl, (by repeat (first | exact Below.refl _ _ | refine bel_then ?_ _ | refine bel_grow ?_ _ | refine bel_alloc ?_ _ | refine bel_drew ?_ | refine bel_set ?_ (by simp) _ | refine bel_setRow ?_ (by first | omega | (simp; done) | (refine Nat.le_trans ?_ (top_le _ _); simp; done) | (refine Nat.le_succ_of_le (Nat.le_trans ?_ (top_le _ _)); simp; done) | (refine Nat.le_trans ?_ (top_le _ _); simp only [World.size_alloc]; refine Nat.le_succ_of_le (Nat.le_trans ?_ (top_le _ _)); simp; done)) _))⟩
    · have hE := hy.out rfl (by omega)
      obtain ⟨d1, d2, d3⟩ := div_bd bl (show 1 ≤ u by omega)
      have hz : u ≠ 0 := by omega
      have hz1 : u ≠ -1 := by omega
      rw [← d1] at d2 d3 hE
      clear d1
      replace hE := Lib.hid hE
      clear hy hn
      go_enter Try.func10, Try.ntmps10
      go_wp2_with (first | (go_at_call 8; (with_reducible refine (k1.at_ _).mono ?_); rintro e w' ⟨rfl, xg, rfl⟩) | fail)
      go_ret
      exact ⟨by rw [hE.out]; rfl, (by repeat (first | exact Below.refl _ _ | refine bel_then ?_ _ | refine bel_grow ?_ _ | refine bel_alloc ?_ _ | refine bel_drew ?_ | refine bel_set ?_ (by simp) _ | refine bel_setRow ?_ (by first | omega | (simp; done) | (refine Nat.le_trans ?_ (top_le _ _); simp; done) | (refine Nat.le_succ_of_le (Nat.le_trans ?_ (top_le _ _)); simp; done) | (refine Nat.le_trans ?_ (top_le _ _); simp only [World.size_alloc]; refine Nat.le_succ_of_le (Nat.le_trans ?_ (top_le _ _)); simp; done)) _))⟩
set_option maxHeartbeats 4000000 in
theorem rEdge_any (p : Nat → P3) (u : Int) : Gives Try.prog 11 #[.agg (ptsC 4 p), .int .i64 u] (.int .i64 (edK p u)) := by
  have k1 := rLength_any p
  have bl := lenK_bd p
  have hy := @edK_yes p u
  have hn := @edK_no p u
  generalize edK p u = EE at *
  generalize lenK p = LL at *
  obtain ⟨ok, hok⟩ : ∃ o, o = okB p 4 := ⟨_, rfl⟩
  rw [← hok] at k1 hy hn
  clear hok
  rw [ptsC4] at k1 ⊢
  replace hn := Lib.hid hn
  replace hy := Lib.hid hy
  refine Gives.mk fun w => ?_
  cases ok
  · obtain rfl := hn.out (.inl rfl)
    go_enter Try.func11, Try.ntmps11
    go_wp2_with (first | (go_at_call 9; (with_reducible refine (k1.at_ _).mono ?_); rintro e w' ⟨rfl, xg, rfl⟩) | fail)
    go_ret
    exact ⟨rfl, (by repeat (first | exact Below.refl _ _ | refine bel_then ?_ _ | refine bel_grow ?_ _ | refine bel_alloc ?_ _ | refine bel_drew ?_ | refine bel_set ?_ (by simp) _ | refine bel_setRow ?_ (by first | omega | (simp; done) | (refine Nat.le_trans ?_ (top_le _ _); simp; done) | (refine Nat.le_succ_of_le (Nat.le_trans ?_ (top_le _ _)); simp; done) | (refine Nat.le_trans ?_ (top_le _ _); simp only [World.size_alloc]; refine Nat.le_succ_of_le (Nat.le_trans ?_ (top_le _ _)); simp; done)) _))⟩
  · by_cases hu : u < 1
    · obtain rfl := hn.out (.inr (by omega))
      go_enter Try.func11, Try.ntmps11
      go_wp2_with (first | (go_at_call 9; (with_reducible refine (k1.at_ _).mono ?_); rintro e w' ⟨rfl, xg, rfl⟩) | fail)
      go_ret
      exact ⟨rfl, (by repeat (first | exact Below.refl _ _ | refine bel_then ?_ _ | refine bel_grow ?_ _ | refine bel_alloc ?_ _ | refine bel_drew ?_ | refine bel_set ?_ (by simp) _ | refine bel_setRow ?_ (by first | omega | (simp; done) | (refine Nat.le_trans ?_ (top_le _ _); simp; done) | (refine Nat.le_succ_of_le (Nat.le_trans ?_ (top_le _ _)); simp; done) | (refine Nat.le_trans ?_ (top_le _ _); simp only [World.size_alloc]; refine Nat.le_succ_of_le (Nat.le_trans ?_ (top_le _ _)); simp; done)) _))⟩
    · have hE := hy.out rfl (by omega)
      obtain ⟨d1, d2, d3⟩ := div_bd bl (show 1 ≤ u by omega)
      have hz : u ≠ 0 := by omega
      have hz1 : u ≠ -1 := by omega
      rw [← d1] at d2 d3 hE
      clear d1
      replace hE := Lib.hid hE
      clear hy hn
      go_enter Try.func11, Try.ntmps11
      go_wp2_with (first | (go_at_call 9; (with_reducible refine (k1.at_ _).mono ?_); rintro e w' ⟨rfl, xg, rfl⟩) | fail)
      go_ret
      exact ⟨by rw [hE.out]; rfl, (by repeat (first | exact Below.refl _ _ | refine bel_then ?_ _ | refine bel_grow ?_ _ | refine bel_alloc ?_ _ | refine bel_drew ?_ | refine bel_set ?_ (by simp) _ | refine bel_setRow ?_ (by first | omega | (simp; done) | (refine Nat.le_trans ?_ (top_le _ _); simp; done) | (refine Nat.le_succ_of_le (Nat.le_trans ?_ (top_le _ _)); simp; done) | (refine Nat.le_trans ?_ (top_le _ _); simp only [World.size_alloc]; refine Nat.le_succ_of_le (Nat.le_trans ?_ (top_le _ _)); simp; done)) _))⟩
end Go.Proofs.Ytgmifpicilfcdaa
namespace Go.Proofs.Ytgmifpicilfcdaa
open Go.RowKit
set_option linter.unusedVariables false
set_option linter.unusedSimpArgs false
set_option linter.unnecessarySimpa false
set_option maxRecDepth 100000
set_option maxHeartbeats 8000000 in
theorem rRow0 (p : Nat → P3)  : Gives Try.prog 22 #[.agg (ptsC 16 p), .int .i64 (0)] (.agg (ptsC 4 (rowF p 0))) := by
  have wr0 : wrap64 0 = 0 := wrap_id (by omega) (by omega)
  have wr3 : wrap64 3 = 3 := wrap_id (by omega) (by omega)
  have wr4 : wrap64 4 = 4 := wrap_id (by omega) (by omega)
  have wr7 : wrap64 7 = 7 := wrap_id (by omega) (by omega)
  have wr8 : wrap64 8 = 8 := wrap_id (by omega) (by omega)
  have wr11 : wrap64 11 = 11 := wrap_id (by omega) (by omega)
  have wr12 : wrap64 12 = 12 := wrap_id (by omega) (by omega)
  have wr13 : wrap64 13 = 13 := wrap_id (by omega) (by omega)
  have wr14 : wrap64 14 = 14 := wrap_id (by omega) (by omega)
  have wr15 : wrap64 15 = 15 := wrap_id (by omega) (by omega)
  have wr1 : wrap64 1 = 1 := wrap_id (by omega) (by omega)
  have wr2 : wrap64 2 = 2 := wrap_id (by omega) (by omega)
  rw [ptsC4]
  refine Gives.mk fun W => ?_
  have hP : Blk (((W.alloc (.cells (ptsC 16 p) 24)).alloc (.cells #[.int .i64 0, .int .i64 0, .int .i64 0, .int .i64 0, .int .i64 0, .int .i64 0, .int .i64 0, .int .i64 0, .int .i64 0, .int .i64 0, .int .i64 0, .int .i64 0] 26)).alloc (.cells #[.int .i64 0, .int .i64 0, .int .i64 0, .int .i64 0, .int .i64 0, .int .i64 0, .int .i64 0, .int .i64 0, .int .i64 0, .int .i64 0, .int .i64 0, .int .i64 0] 26)) W.heap.size 24 (ptsC 16 p) := ((Blk.new _ _ _ _ rfl).alloc _).alloc _
  have hR : Blk (((W.alloc (.cells (ptsC 16 p) 24)).alloc (.cells #[.int .i64 0, .int .i64 0, .int .i64 0, .int .i64 0, .int .i64 0, .int .i64 0, .int .i64 0, .int .i64 0, .int .i64 0, .int .i64 0, .int .i64 0, .int .i64 0] 26)).alloc (.cells #[.int .i64 0, .int .i64 0, .int .i64 0, .int .i64 0, .int .i64 0, .int .i64 0, .int .i64 0, .int .i64 0, .int .i64 0, .int .i64 0, .int .i64 0, .int .i64 0] 26)) (W.heap.size + 1) 26 #[.int .i64 0, .int .i64 0, .int .i64 0, .int .i64 0, .int .i64 0, .int .i64 0, .int .i64 0, .int .i64 0, .int .i64 0, .int .i64 0, .int .i64 0, .int .i64 0] := (Blk.new _ _ _ _ (by simp)).alloc _
  have hO : Blk (((W.alloc (.cells (ptsC 16 p) 24)).alloc (.cells #[.int .i64 0, .int .i64 0, .int .i64 0, .int .i64 0, .int .i64 0, .int .i64 0, .int .i64 0, .int .i64 0, .int .i64 0, .int .i64 0, .int .i64 0, .int .i64 0] 26)).alloc (.cells #[.int .i64 0, .int .i64 0, .int .i64 0, .int .i64 0, .int .i64 0, .int .i64 0, .int .i64 0, .int .i64 0, .int .i64 0, .int .i64 0, .int .i64 0, .int .i64 0] 26)) (W.heap.size + 2) 26 (ptsC 4 (rowU p 0 0)) := Blk.new _ _ _ _ (by simp)
  have hB : Below W.heap.size W (((W.alloc (.cells (ptsC 16 p) 24)).alloc (.cells #[.int .i64 0, .int .i64 0, .int .i64 0, .int .i64 0, .int .i64 0, .int .i64 0, .int .i64 0, .int .i64 0, .int .i64 0, .int .i64 0, .int .i64 0, .int .i64 0] 26)).alloc (.cells #[.int .i64 0, .int .i64 0, .int .i64 0, .int .i64 0, .int .i64 0, .int .i64 0, .int .i64 0, .int .i64 0, .int .i64 0, .int .i64 0, .int .i64 0, .int .i64 0] 26)) := bel_alloc (bel_alloc (bel_alloc (Below.refl _ _) _) _) _
  go_enter Try.func22, Try.ntmps22
  go_upto_region 2 with (fail)
  generalize (((W.alloc (.cells (ptsC 16 p) 24)).alloc (.cells #[.int .i64 0, .int .i64 0, .int .i64 0, .int .i64 0, .int .i64 0, .int .i64 0, .int .i64 0, .int .i64 0, .int .i64 0, .int .i64 0, .int .i64 0, .int .i64 0] 26)).alloc (.cells #[.int .i64 0, .int .i64 0, .int .i64 0, .int .i64 0, .int .i64 0, .int .i64 0, .int .i64 0, .int .i64 0, .int .i64 0, .int .i64 0, .int .i64 0, .int .i64 0] 26)) = W1 at *
  go_wp2
  go_loopw [6] (fun iv wr => ∃ k : Nat, rowI iv k ∧ Below W.heap.size W wr ∧ Blk wr W.heap.size 24 (ptsC 16 p) ∧ Blk wr (W.heap.size + 1) 26 #[.int .i64 0, .int .i64 0, .int .i64 0, .int .i64 0, .int .i64 0, .int .i64 0, .int .i64 0, .int .i64 0, .int .i64 0, .int .i64 0, .int .i64 0, .int .i64 0] ∧ Blk wr (W.heap.size + 2) 26 (ptsC 4 (rowU p 0 k))) (fun iv _ => 4 - (intOf iv).toNat)
  case atStart => exact ⟨0, .inl ⟨rfl, rfl⟩, hB, hP, hR, hO⟩
  case round =>
    obtain ⟨k, hi, hBr, hPr, hRr, hOr⟩ := hrel
    clear hB hP hR hO
    have pl := hPr.lt
    have ol := hOr.lt
    rcases hi with ⟨rfl, rfl⟩ | ⟨rfl, rfl⟩ | ⟨rfl, rfl⟩ | ⟨rfl, rfl⟩ | ⟨rfl, rfl⟩
    · obtain ⟨c1, c2, c3⟩ := ptsB hPr (k := 0) (by omega)
      have hOs := ((hOr.set 0 (.int .i64 (p 0).x)).set 1 (.int .i64 (p 0).y)).set 2 (.int .i64 (p 0).z)
      have hPs := ((hPr.far (b := W.heap.size + 2) 0 (.int .i64 (p 0).x) (by omega)).far (b := W.heap.size + 2) 1 (.int .i64 (p 0).y) (by omega)).far (b := W.heap.size + 2) 2 (.int .i64 (p 0).z) (by omega)
      have hRs := ((hRr.far (b := W.heap.size + 2) 0 (.int .i64 (p 0).x) (by omega)).far (b := W.heap.size + 2) 1 (.int .i64 (p 0).y) (by omega)).far (b := W.heap.size + 2) 2 (.int .i64 (p 0).z) (by omega)
      have hBs := (bel_set (bel_set (bel_set hBr (p := ⟨W.heap.size + 2, 0, none⟩) (by simp) (.int .i64 ((p 0).x))) (p := ⟨W.heap.size + 2, 1, none⟩) (by simp) (.int .i64 ((p 0).y))) (p := ⟨W.heap.size + 2, 2, none⟩) (by simp) (.int .i64 ((p 0).z)))
      have x1 : wr.cell? ⟨W.heap.size, 0, none⟩ = some (.int .i64 (p 0).x) := c1
      have x2 : wr.cell? ⟨W.heap.size, 1, none⟩ = some (.int .i64 (p 0).y) := c2
      have x3 : wr.cell? ⟨W.heap.size, 2, none⟩ = some (.int .i64 (p 0).z) := c3
      have hn : ptsC 4 (rowU p 0 1) = _ := (rowU_next p 0 (k := 0) (by omega)).symm
      replace hn := Lib.hid hn
      rw [ptsC4] at hOr
      have o0 := hOr.cell 0
      have o1 := hOr.cell 1
      have o2 := hOr.cell 2
      have g0 := hOr.frozen 0
      have g1 := hOr.frozen 1
      have g2 := hOr.frozen 2
      clear c1 c2 c3 hBr hPr hRr hOr
      replace hOs := Lib.hid hOs
      replace hPs := Lib.hid hPs
      replace hRs := Lib.hid hRs
      replace hBs := Lib.hid hBs
      go_wp2
      go_roundw
      case rel =>
        refine ⟨1, .inr (.inl ⟨rfl, rfl⟩), hBs.out, hPs.out, hRs.out, ?_⟩
        rw [hn.out]
        exact hOs.out
      case measure => simp [intOf]
    · obtain ⟨c1, c2, c3⟩ := ptsB hPr (k := 1) (by omega)
      have hOs := ((hOr.set 3 (.int .i64 (p 1).x)).set 4 (.int .i64 (p 1).y)).set 5 (.int .i64 (p 1).z)
      have hPs := ((hPr.far (b := W.heap.size + 2) 3 (.int .i64 (p 1).x) (by omega)).far (b := W.heap.size + 2) 4 (.int .i64 (p 1).y) (by omega)).far (b := W.heap.size + 2) 5 (.int .i64 (p 1).z) (by omega)
      have hRs := ((hRr.far (b := W.heap.size + 2) 3 (.int .i64 (p 1).x) (by omega)).far (b := W.heap.size + 2) 4 (.int .i64 (p 1).y) (by omega)).far (b := W.heap.size + 2) 5 (.int .i64 (p 1).z) (by omega)
      have hBs := (bel_set (bel_set (bel_set hBr (p := ⟨W.heap.size + 2, 3, none⟩) (by simp) (.int .i64 ((p 1).x))) (p := ⟨W.heap.size + 2, 4, none⟩) (by simp) (.int .i64 ((p 1).y))) (p := ⟨W.heap.size + 2, 5, none⟩) (by simp) (.int .i64 ((p 1).z)))
      have x1 : wr.cell? ⟨W.heap.size, 3, none⟩ = some (.int .i64 (p 1).x) := c1
      have x2 : wr.cell? ⟨W.heap.size, 4, none⟩ = some (.int .i64 (p 1).y) := c2
      have x3 : wr.cell? ⟨W.heap.size, 5, none⟩ = some (.int .i64 (p 1).z) := c3
      have hn : ptsC 4 (rowU p 0 2) = _ := (rowU_next p 0 (k := 1) (by omega)).symm
      replace hn := Lib.hid hn
      rw [ptsC4] at hOr
      have o0 := hOr.cell 3
      have o1 := hOr.cell 4
      have o2 := hOr.cell 5
      have g0 := hOr.frozen 3
      have g1 := hOr.frozen 4
      have g2 := hOr.frozen 5
      clear c1 c2 c3 hBr hPr hRr hOr
      replace hOs := Lib.hid hOs
      replace hPs := Lib.hid hPs
      replace hRs := Lib.hid hRs
      replace hBs := Lib.hid hBs
      go_wp2
      go_roundw
      case rel =>
        refine ⟨2, .inr (.inr (.inl ⟨rfl, rfl⟩)), hBs.out, hPs.out, hRs.out, ?_⟩
        rw [hn.out]
        exact hOs.out
      case measure => simp [intOf]
    · obtain ⟨c1, c2, c3⟩ := ptsB hPr (k := 2) (by omega)
      have hOs := ((hOr.set 6 (.int .i64 (p 2).x)).set 7 (.int .i64 (p 2).y)).set 8 (.int .i64 (p 2).z)
      have hPs := ((hPr.far (b := W.heap.size + 2) 6 (.int .i64 (p 2).x) (by omega)).far (b := W.heap.size + 2) 7 (.int .i64 (p 2).y) (by omega)).far (b := W.heap.size + 2) 8 (.int .i64 (p 2).z) (by omega)
      have hRs := ((hRr.far (b := W.heap.size + 2) 6 (.int .i64 (p 2).x) (by omega)).far (b := W.heap.size + 2) 7 (.int .i64 (p 2).y) (by omega)).far (b := W.heap.size + 2) 8 (.int .i64 (p 2).z) (by omega)
      have hBs := (bel_set (bel_set (bel_set hBr (p := ⟨W.heap.size + 2, 6, none⟩) (by simp) (.int .i64 ((p 2).x))) (p := ⟨W.heap.size + 2, 7, none⟩) (by simp) (.int .i64 ((p 2).y))) (p := ⟨W.heap.size + 2, 8, none⟩) (by simp) (.int .i64 ((p 2).z)))
      have x1 : wr.cell? ⟨W.heap.size, 6, none⟩ = some (.int .i64 (p 2).x) := c1
      have x2 : wr.cell? ⟨W.heap.size, 7, none⟩ = some (.int .i64 (p 2).y) := c2
      have x3 : wr.cell? ⟨W.heap.size, 8, none⟩ = some (.int .i64 (p 2).z) := c3
      have hn : ptsC 4 (rowU p 0 3) = _ := (rowU_next p 0 (k := 2) (by omega)).symm
      replace hn := Lib.hid hn
      rw [ptsC4] at hOr
      have o0 := hOr.cell 6
      have o1 := hOr.cell 7
      have o2 := hOr.cell 8
      have g0 := hOr.frozen 6
      have g1 := hOr.frozen 7
      have g2 := hOr.frozen 8
      clear c1 c2 c3 hBr hPr hRr hOr
      replace hOs := Lib.hid hOs
      replace hPs := Lib.hid hPs
      replace hRs := Lib.hid hRs
      replace hBs := Lib.hid hBs
      go_wp2
      go_roundw
      case rel =>
        refine ⟨3, .inr (.inr (.inr (.inl ⟨rfl, rfl⟩))), hBs.out, hPs.out, hRs.out, ?_⟩
        rw [hn.out]
        exact hOs.out
      case measure => simp [intOf]
    · obtain ⟨c1, c2, c3⟩ := ptsB hPr (k := 3) (by omega)
      have hOs := ((hOr.set 9 (.int .i64 (p 3).x)).set 10 (.int .i64 (p 3).y)).set 11 (.int .i64 (p 3).z)
      have hPs := ((hPr.far (b := W.heap.size + 2) 9 (.int .i64 (p 3).x) (by omega)).far (b := W.heap.size + 2) 10 (.int .i64 (p 3).y) (by omega)).far (b := W.heap.size + 2) 11 (.int .i64 (p 3).z) (by omega)
      have hRs := ((hRr.far (b := W.heap.size + 2) 9 (.int .i64 (p 3).x) (by omega)).far (b := W.heap.size + 2) 10 (.int .i64 (p 3).y) (by omega)).far (b := W.heap.size + 2) 11 (.int .i64 (p 3).z) (by omega)
      have hBs := (bel_set (bel_set (bel_set hBr (p := ⟨W.heap.size + 2, 9, none⟩) (by simp) (.int .i64 ((p 3).x))) (p := ⟨W.heap.size + 2, 10, none⟩) (by simp) (.int .i64 ((p 3).y))) (p := ⟨W.heap.size + 2, 11, none⟩) (by simp) (.int .i64 ((p 3).z)))
      have x1 : wr.cell? ⟨W.heap.size, 9, none⟩ = some (.int .i64 (p 3).x) := c1
      have x2 : wr.cell? ⟨W.heap.size, 10, none⟩ = some (.int .i64 (p 3).y) := c2
      have x3 : wr.cell? ⟨W.heap.size, 11, none⟩ = some (.int .i64 (p 3).z) := c3
      have hn : ptsC 4 (rowU p 0 4) = _ := (rowU_next p 0 (k := 3) (by omega)).symm
      replace hn := Lib.hid hn
      rw [ptsC4] at hOr
      have o0 := hOr.cell 9
      have o1 := hOr.cell 10
      have o2 := hOr.cell 11
      have g0 := hOr.frozen 9
      have g1 := hOr.frozen 10
      have g2 := hOr.frozen 11
      clear c1 c2 c3 hBr hPr hRr hOr
      replace hOs := Lib.hid hOs
      replace hPs := Lib.hid hPs
      replace hRs := Lib.hid hRs
      replace hBs := Lib.hid hBs
      go_wp2
      go_roundw
      case rel =>
        refine ⟨4, .inr (.inr (.inr (.inr ⟨rfl, rfl⟩))), hBs.out, hPs.out, hRs.out, ?_⟩
        rw [hn.out]
        exact hOs.out
      case measure => simp [intOf]
    · rw [rowU_end, ptsC4] at hOr
      replace hPr := Lib.hid hPr
      replace hRr := Lib.hid hRr
      replace hBr := Lib.hid hBr
      replace hOr := Lib.hid hOr
      go_upto_region 14 with (fail)
      replace hRr := hRr.out
      replace hBr := hBr.out
      replace hOr := hOr.out
      have r0 := hRr.cell 0
      have f0 := hRr.frozen 0
      have o0 := hOr.cell 0
      have r1 := hRr.cell 1
      have f1 := hRr.frozen 1
      have o1 := hOr.cell 1
      have r2 := hRr.cell 2
      have f2 := hRr.frozen 2
      have o2 := hOr.cell 2
      have r3 := hRr.cell 3
      have f3 := hRr.frozen 3
      have o3 := hOr.cell 3
      have r4 := hRr.cell 4
      have f4 := hRr.frozen 4
      have o4 := hOr.cell 4
      have r5 := hRr.cell 5
      have f5 := hRr.frozen 5
      have o5 := hOr.cell 5
      have r6 := hRr.cell 6
      have f6 := hRr.frozen 6
      have o6 := hOr.cell 6
      have r7 := hRr.cell 7
      have f7 := hRr.frozen 7
      have o7 := hOr.cell 7
      have r8 := hRr.cell 8
      have f8 := hRr.frozen 8
      have o8 := hOr.cell 8
      have r9 := hRr.cell 9
      have f9 := hRr.frozen 9
      have o9 := hOr.cell 9
      have r10 := hRr.cell 10
      have f10 := hRr.frozen 10
      have o10 := hOr.cell 10
      have r11 := hRr.cell 11
      have f11 := hRr.frozen 11
      have o11 := hOr.cell 11
      have rl := hRr.lt
      have hR2 := ((((((((((((hRr.set 0 (.int .i64 ((rowF p 0 0).x))).set 1 (.int .i64 ((rowF p 0 0).y))).set 2 (.int .i64 ((rowF p 0 0).z))).set 3 (.int .i64 ((rowF p 0 1).x))).set 4 (.int .i64 ((rowF p 0 1).y))).set 5 (.int .i64 ((rowF p 0 1).z))).set 6 (.int .i64 ((rowF p 0 2).x))).set 7 (.int .i64 ((rowF p 0 2).y))).set 8 (.int .i64 ((rowF p 0 2).z))).set 9 (.int .i64 ((rowF p 0 3).x))).set 10 (.int .i64 ((rowF p 0 3).y))).set 11 (.int .i64 ((rowF p 0 3).z)))
      have hB2 : Below W.heap.size W ((((((((((((wr.setCell ⟨W.heap.size + 1, 0, none⟩ (.int .i64 ((rowF p 0 0).x))).setCell ⟨W.heap.size + 1, 1, none⟩ (.int .i64 ((rowF p 0 0).y))).setCell ⟨W.heap.size + 1, 2, none⟩ (.int .i64 ((rowF p 0 0).z))).setCell ⟨W.heap.size + 1, 3, none⟩ (.int .i64 ((rowF p 0 1).x))).setCell ⟨W.heap.size + 1, 4, none⟩ (.int .i64 ((rowF p 0 1).y))).setCell ⟨W.heap.size + 1, 5, none⟩ (.int .i64 ((rowF p 0 1).z))).setCell ⟨W.heap.size + 1, 6, none⟩ (.int .i64 ((rowF p 0 2).x))).setCell ⟨W.heap.size + 1, 7, none⟩ (.int .i64 ((rowF p 0 2).y))).setCell ⟨W.heap.size + 1, 8, none⟩ (.int .i64 ((rowF p 0 2).z))).setCell ⟨W.heap.size + 1, 9, none⟩ (.int .i64 ((rowF p 0 3).x))).setCell ⟨W.heap.size + 1, 10, none⟩ (.int .i64 ((rowF p 0 3).y))).setCell ⟨W.heap.size + 1, 11, none⟩ (.int .i64 ((rowF p 0 3).z))) := (bel_set (bel_set (bel_set (bel_set (bel_set (bel_set (bel_set (bel_set (bel_set (bel_set (bel_set (bel_set hBr (p := ⟨W.heap.size + 1, 0, none⟩) (by simp) (.int .i64 ((rowF p 0 0).x))) (p := ⟨W.heap.size + 1, 1, none⟩) (by simp) (.int .i64 ((rowF p 0 0).y))) (p := ⟨W.heap.size + 1, 2, none⟩) (by simp) (.int .i64 ((rowF p 0 0).z))) (p := ⟨W.heap.size + 1, 3, none⟩) (by simp) (.int .i64 ((rowF p 0 1).x))) (p := ⟨W.heap.size + 1, 4, none⟩) (by simp) (.int .i64 ((rowF p 0 1).y))) (p := ⟨W.heap.size + 1, 5, none⟩) (by simp) (.int .i64 ((rowF p 0 1).z))) (p := ⟨W.heap.size + 1, 6, none⟩) (by simp) (.int .i64 ((rowF p 0 2).x))) (p := ⟨W.heap.size + 1, 7, none⟩) (by simp) (.int .i64 ((rowF p 0 2).y))) (p := ⟨W.heap.size + 1, 8, none⟩) (by simp) (.int .i64 ((rowF p 0 2).z))) (p := ⟨W.heap.size + 1, 9, none⟩) (by simp) (.int .i64 ((rowF p 0 3).x))) (p := ⟨W.heap.size + 1, 10, none⟩) (by simp) (.int .i64 ((rowF p 0 3).y))) (p := ⟨W.heap.size + 1, 11, none⟩) (by simp) (.int .i64 ((rowF p 0 3).z)))
      clear hPr hRr hBr hOr
      replace hR2 := Lib.hid hR2
      replace hB2 := Lib.hid hB2
      go_wp2
      replace hR2 := hR2.out
      replace hB2 := hB2.out
      generalize ((((((((((((wr.setCell ⟨W.heap.size + 1, 0, none⟩ (.int .i64 ((rowF p 0 0).x))).setCell ⟨W.heap.size + 1, 1, none⟩ (.int .i64 ((rowF p 0 0).y))).setCell ⟨W.heap.size + 1, 2, none⟩ (.int .i64 ((rowF p 0 0).z))).setCell ⟨W.heap.size + 1, 3, none⟩ (.int .i64 ((rowF p 0 1).x))).setCell ⟨W.heap.size + 1, 4, none⟩ (.int .i64 ((rowF p 0 1).y))).setCell ⟨W.heap.size + 1, 5, none⟩ (.int .i64 ((rowF p 0 1).z))).setCell ⟨W.heap.size + 1, 6, none⟩ (.int .i64 ((rowF p 0 2).x))).setCell ⟨W.heap.size + 1, 7, none⟩ (.int .i64 ((rowF p 0 2).y))).setCell ⟨W.heap.size + 1, 8, none⟩ (.int .i64 ((rowF p 0 2).z))).setCell ⟨W.heap.size + 1, 9, none⟩ (.int .i64 ((rowF p 0 3).x))).setCell ⟨W.heap.size + 1, 10, none⟩ (.int .i64 ((rowF p 0 3).y))).setCell ⟨W.heap.size + 1, 11, none⟩ (.int .i64 ((rowF p 0 3).z))) = WE at *
      have w0 := hR2.cell
      refine bodyPost_ret (v := .agg #[.int .i64 ((rowF p 0 0).x), .int .i64 ((rowF p 0 0).y), .int .i64 ((rowF p 0 0).z), .int .i64 ((rowF p 0 1).x), .int .i64 ((rowF p 0 1).y), .int .i64 ((rowF p 0 1).z), .int .i64 ((rowF p 0 2).x), .int .i64 ((rowF p 0 2).y), .int .i64 ((rowF p 0 2).z), .int .i64 ((rowF p 0 3).x), .int .i64 ((rowF p 0 3).y), .int .i64 ((rowF p 0 3).z)]) (by simp [results, Try.results22, go_sem, w0]) rfl ⟨rfl, hB2⟩
set_option maxHeartbeats 8000000 in
theorem rRow1 (p : Nat → P3)  : Gives Try.prog 22 #[.agg (ptsC 16 p), .int .i64 (1)] (.agg (ptsC 4 (rowF p 1))) := by
  have wr0 : wrap64 0 = 0 := wrap_id (by omega) (by omega)
  have wr3 : wrap64 3 = 3 := wrap_id (by omega) (by omega)
  have wr4 : wrap64 4 = 4 := wrap_id (by omega) (by omega)
  have wr7 : wrap64 7 = 7 := wrap_id (by omega) (by omega)
  have wr8 : wrap64 8 = 8 := wrap_id (by omega) (by omega)
  have wr11 : wrap64 11 = 11 := wrap_id (by omega) (by omega)
  have wr12 : wrap64 12 = 12 := wrap_id (by omega) (by omega)
  have wr13 : wrap64 13 = 13 := wrap_id (by omega) (by omega)
  have wr14 : wrap64 14 = 14 := wrap_id (by omega) (by omega)
  have wr15 : wrap64 15 = 15 := wrap_id (by omega) (by omega)
  have wr1 : wrap64 1 = 1 := wrap_id (by omega) (by omega)
  have wr2 : wrap64 2 = 2 := wrap_id (by omega) (by omega)
  rw [ptsC4]
  refine Gives.mk fun W => ?_
  have hP : Blk (((W.alloc (.cells (ptsC 16 p) 24)).alloc (.cells #[.int .i64 0, .int .i64 0, .int .i64 0, .int .i64 0, .int .i64 0, .int .i64 0, .int .i64 0, .int .i64 0, .int .i64 0, .int .i64 0, .int .i64 0, .int .i64 0] 26)).alloc (.cells #[.int .i64 0, .int .i64 0, .int .i64 0, .int .i64 0, .int .i64 0, .int .i64 0, .int .i64 0, .int .i64 0, .int .i64 0, .int .i64 0, .int .i64 0, .int .i64 0] 26)) W.heap.size 24 (ptsC 16 p) := ((Blk.new _ _ _ _ rfl).alloc _).alloc _
  have hR : Blk (((W.alloc (.cells (ptsC 16 p) 24)).alloc (.cells #[.int .i64 0, .int .i64 0, .int .i64 0, .int .i64 0, .int .i64 0, .int .i64 0, .int .i64 0, .int .i64 0, .int .i64 0, .int .i64 0, .int .i64 0, .int .i64 0] 26)).alloc (.cells #[.int .i64 0, .int .i64 0, .int .i64 0, .int .i64 0, .int .i64 0, .int .i64 0, .int .i64 0, .int .i64 0, .int .i64 0, .int .i64 0, .int .i64 0, .int .i64 0] 26)) (W.heap.size + 1) 26 #[.int .i64 0, .int .i64 0, .int .i64 0, .int .i64 0, .int .i64 0, .int .i64 0, .int .i64 0, .int .i64 0, .int .i64 0, .int .i64 0, .int .i64 0, .int .i64 0] := (Blk.new _ _ _ _ (by simp)).alloc _
  have hO : Blk (((W.alloc (.cells (ptsC 16 p) 24)).alloc (.cells #[.int .i64 0, .int .i64 0, .int .i64 0, .int .i64 0, .int .i64 0, .int .i64 0, .int .i64 0, .int .i64 0, .int .i64 0, .int .i64 0, .int .i64 0, .int .i64 0] 26)).alloc (.cells #[.int .i64 0, .int .i64 0, .int .i64 0, .int .i64 0, .int .i64 0, .int .i64 0, .int .i64 0, .int .i64 0, .int .i64 0, .int .i64 0, .int .i64 0, .int .i64 0] 26)) (W.heap.size + 2) 26 (ptsC 4 (rowU p 1 0)) := Blk.new _ _ _ _ (by simp)
  have hB : Below W.heap.size W (((W.alloc (.cells (ptsC 16 p) 24)).alloc (.cells #[.int .i64 0, .int .i64 0, .int .i64 0, .int .i64 0, .int .i64 0, .int .i64 0, .int .i64 0, .int .i64 0, .int .i64 0, .int .i64 0, .int .i64 0, .int .i64 0] 26)).alloc (.cells #[.int .i64 0, .int .i64 0, .int .i64 0, .int .i64 0, .int .i64 0, .int .i64 0, .int .i64 0, .int .i64 0, .int .i64 0, .int .i64 0, .int .i64 0, .int .i64 0] 26)) := bel_alloc (bel_alloc (bel_alloc (Below.refl _ _) _) _) _
  go_enter Try.func22, Try.ntmps22
  go_upto_region 2 with (fail)
  generalize (((W.alloc (.cells (ptsC 16 p) 24)).alloc (.cells #[.int .i64 0, .int .i64 0, .int .i64 0, .int .i64 0, .int .i64 0, .int .i64 0, .int .i64 0, .int .i64 0, .int .i64 0, .int .i64 0, .int .i64 0, .int .i64 0] 26)).alloc (.cells #[.int .i64 0, .int .i64 0, .int .i64 0, .int .i64 0, .int .i64 0, .int .i64 0, .int .i64 0, .int .i64 0, .int .i64 0, .int .i64 0, .int .i64 0, .int .i64 0] 26)) = W1 at *
  go_wp2
  go_loopw [6] (fun iv wr => ∃ k : Nat, rowI iv k ∧ Below W.heap.size W wr ∧ Blk wr W.heap.size 24 (ptsC 16 p) ∧ Blk wr (W.heap.size + 1) 26 #[.int .i64 0, .int .i64 0, .int .i64 0, .int .i64 0, .int .i64 0, .int .i64 0, .int .i64 0, .int .i64 0, .int .i64 0, .int .i64 0, .int .i64 0, .int .i64 0] ∧ Blk wr (W.heap.size + 2) 26 (ptsC 4 (rowU p 1 k))) (fun iv _ => 4 - (intOf iv).toNat)
  case atStart => exact ⟨0, .inl ⟨rfl, rfl⟩, hB, hP, hR, hO⟩
  case round =>
    obtain ⟨k, hi, hBr, hPr, hRr, hOr⟩ := hrel
    clear hB hP hR hO
    have pl := hPr.lt
    have ol := hOr.lt
    rcases hi with ⟨rfl, rfl⟩ | ⟨rfl, rfl⟩ | ⟨rfl, rfl⟩ | ⟨rfl, rfl⟩ | ⟨rfl, rfl⟩
    · obtain ⟨c1, c2, c3⟩ := ptsB hPr (k := 3) (by omega)
      have hOs := ((hOr.set 0 (.int .i64 (p 3).x)).set 1 (.int .i64 (p 3).y)).set 2 (.int .i64 (p 3).z)
      have hPs := ((hPr.far (b := W.heap.size + 2) 0 (.int .i64 (p 3).x) (by omega)).far (b := W.heap.size + 2) 1 (.int .i64 (p 3).y) (by omega)).far (b := W.heap.size + 2) 2 (.int .i64 (p 3).z) (by omega)
      have hRs := ((hRr.far (b := W.heap.size + 2) 0 (.int .i64 (p 3).x) (by omega)).far (b := W.heap.size + 2) 1 (.int .i64 (p 3).y) (by omega)).far (b := W.heap.size + 2) 2 (.int .i64 (p 3).z) (by omega)
      have hBs := (bel_set (bel_set (bel_set hBr (p := ⟨W.heap.size + 2, 0, none⟩) (by simp) (.int .i64 ((p 3).x))) (p := ⟨W.heap.size + 2, 1, none⟩) (by simp) (.int .i64 ((p 3).y))) (p := ⟨W.heap.size + 2, 2, none⟩) (by simp) (.int .i64 ((p 3).z)))
      have x1 : wr.cell? ⟨W.heap.size, 9, none⟩ = some (.int .i64 (p 3).x) := c1
      have x2 : wr.cell? ⟨W.heap.size, 10, none⟩ = some (.int .i64 (p 3).y) := c2
      have x3 : wr.cell? ⟨W.heap.size, 11, none⟩ = some (.int .i64 (p 3).z) := c3
      have hn : ptsC 4 (rowU p 1 1) = _ := (rowU_next p 1 (k := 0) (by omega)).symm
      replace hn := Lib.hid hn
      rw [ptsC4] at hOr
      have o0 := hOr.cell 0
      have o1 := hOr.cell 1
      have o2 := hOr.cell 2
      have g0 := hOr.frozen 0
      have g1 := hOr.frozen 1
      have g2 := hOr.frozen 2
      clear c1 c2 c3 hBr hPr hRr hOr
      replace hOs := Lib.hid hOs
      replace hPs := Lib.hid hPs
      replace hRs := Lib.hid hRs
      replace hBs := Lib.hid hBs
      go_wp2
      go_roundw
      case rel =>
        refine ⟨1, .inr (.inl ⟨rfl, rfl⟩), hBs.out, hPs.out, hRs.out, ?_⟩
        rw [hn.out]
        exact hOs.out
      case measure => simp [intOf]
    · obtain ⟨c1, c2, c3⟩ := ptsB hPr (k := 7) (by omega)
      have hOs := ((hOr.set 3 (.int .i64 (p 7).x)).set 4 (.int .i64 (p 7).y)).set 5 (.int .i64 (p 7).z)
      have hPs := ((hPr.far (b := W.heap.size + 2) 3 (.int .i64 (p 7).x) (by omega)).far (b := W.heap.size + 2) 4 (.int .i64 (p 7).y) (by omega)).far (b := W.heap.size + 2) 5 (.int .i64 (p 7).z) (by omega)
      have hRs := ((hRr.far (b := W.heap.size + 2) 3 (.int .i64 (p 7).x) (by omega)).far (b := W.heap.size + 2) 4 (.int .i64 (p 7).y) (by omega)).far (b := W.heap.size + 2) 5 (.int .i64 (p 7).z) (by omega)
      have hBs := (bel_set (bel_set (bel_set hBr (p := ⟨W.heap.size + 2, 3, none⟩) (by simp) (.int .i64 ((p 7).x))) (p := ⟨W.heap.size + 2, 4, none⟩) (by simp) (.int .i64 ((p 7).y))) (p := ⟨W.heap.size + 2, 5, none⟩) (by simp) (.int .i64 ((p 7).z)))
      have x1 : wr.cell? ⟨W.heap.size, 21, none⟩ = some (.int .i64 (p 7).x) := c1
      have x2 : wr.cell? ⟨W.heap.size, 22, none⟩ = some (.int .i64 (p 7).y) := c2
      have x3 : wr.cell? ⟨W.heap.size, 23, none⟩ = some (.int .i64 (p 7).z) := c3
      have hn : ptsC 4 (rowU p 1 2) = _ := (rowU_next p 1 (k := 1) (by omega)).symm
      replace hn := Lib.hid hn
      rw [ptsC4] at hOr
      have o0 := hOr.cell 3
      have o1 := hOr.cell 4
      have o2 := hOr.cell 5
      have g0 := hOr.frozen 3
      have g1 := hOr.frozen 4
      have g2 := hOr.frozen 5
      clear c1 c2 c3 hBr hPr hRr hOr
      replace hOs := Lib.hid hOs
      replace hPs := Lib.hid hPs
      replace hRs := Lib.hid hRs
      replace hBs := Lib.hid hBs
      go_wp2
      go_roundw
      case rel =>
        refine ⟨2, .inr (.inr (.inl ⟨rfl, rfl⟩)), hBs.out, hPs.out, hRs.out, ?_⟩
        rw [hn.out]
        exact hOs.out
      case measure => simp [intOf]
    · obtain ⟨c1, c2, c3⟩ := ptsB hPr (k := 11) (by omega)
      have hOs := ((hOr.set 6 (.int .i64 (p 11).x)).set 7 (.int .i64 (p 11).y)).set 8 (.int .i64 (p 11).z)
      have hPs := ((hPr.far (b := W.heap.size + 2) 6 (.int .i64 (p 11).x) (by omega)).far (b := W.heap.size + 2) 7 (.int .i64 (p 11).y) (by omega)).far (b := W.heap.size + 2) 8 (.int .i64 (p 11).z) (by omega)
      have hRs := ((hRr.far (b := W.heap.size + 2) 6 (.int .i64 (p 11).x) (by omega)).far (b := W.heap.size + 2) 7 (.int .i64 (p 11).y) (by omega)).far (b := W.heap.size + 2) 8 (.int .i64 (p 11).z) (by omega)
      have hBs := (bel_set (bel_set (bel_set hBr (p := ⟨W.heap.size + 2, 6, none⟩) (by simp) (.int .i64 ((p 11).x))) (p := ⟨W.heap.size + 2, 7, none⟩) (by simp) (.int .i64 ((p 11).y))) (p := ⟨W.heap.size + 2, 8, none⟩) (by simp) (.int .i64 ((p 11).z)))
      have x1 : wr.cell? ⟨W.heap.size, 33, none⟩ = some (.int .i64 (p 11).x) := c1
      have x2 : wr.cell? ⟨W.heap.size, 34, none⟩ = some (.int .i64 (p 11).y) := c2
      have x3 : wr.cell? ⟨W.heap.size, 35, none⟩ = some (.int .i64 (p 11).z) := c3
      have hn : ptsC 4 (rowU p 1 3) = _ := (rowU_next p 1 (k := 2) (by omega)).symm
      replace hn := Lib.hid hn
      rw [ptsC4] at hOr
      have o0 := hOr.cell 6
      have o1 := hOr.cell 7
      have o2 := hOr.cell 8
      have g0 := hOr.frozen 6
      have g1 := hOr.frozen 7
      have g2 := hOr.frozen 8
      clear c1 c2 c3 hBr hPr hRr hOr
      replace hOs := Lib.hid hOs
      replace hPs := Lib.hid hPs
      replace hRs := Lib.hid hRs
      replace hBs := Lib.hid hBs
      go_wp2
      go_roundw
      case rel =>
        refine ⟨3, .inr (.inr (.inr (.inl ⟨rfl, rfl⟩))), hBs.out, hPs.out, hRs.out, ?_⟩
        rw [hn.out]
        exact hOs.out
      case measure => simp [intOf]
    · obtain ⟨c1, c2, c3⟩ := ptsB hPr (k := 15) (by omega)
      have hOs := ((hOr.set 9 (.int .i64 (p 15).x)).set 10 (.int .i64 (p 15).y)).set 11 (.int .i64 (p 15).z)
      have hPs := ((hPr.far (b := W.heap.size + 2) 9 (.int .i64 (p 15).x) (by omega)).far (b := W.heap.size + 2) 10 (.int .i64 (p 15).y) (by omega)).far (b := W.heap.size + 2) 11 (.int .i64 (p 15).z) (by omega)
      have hRs := ((hRr.far (b := W.heap.size + 2) 9 (.int .i64 (p 15).x) (by omega)).far (b := W.heap.size + 2) 10 (.int .i64 (p 15).y) (by omega)).far (b := W.heap.size + 2) 11 (.int .i64 (p 15).z) (by omega)
      have hBs := (bel_set (bel_set (bel_set hBr (p := ⟨W.heap.size + 2, 9, none⟩) (by simp) (.int .i64 ((p 15).x))) (p := ⟨W.heap.size + 2, 10, none⟩) (by simp) (.int .i64 ((p 15).y))) (p := ⟨W.heap.size + 2, 11, none⟩) (by simp) (.int .i64 ((p 15).z)))
      have x1 : wr.cell? ⟨W.heap.size, 45, none⟩ = some (.int .i64 (p 15).x) := c1
      have x2 : wr.cell? ⟨W.heap.size, 46, none⟩ = some (.int .i64 (p 15).y) := c2
      have x3 : wr.cell? ⟨W.heap.size, 47, none⟩ = some (.int .i64 (p 15).z) := c3
      have hn : ptsC 4 (rowU p 1 4) = _ := (rowU_next p 1 (k := 3) (by omega)).symm
      replace hn := Lib.hid hn
      rw [ptsC4] at hOr
      have o0 := hOr.cell 9
      have o1 := hOr.cell 10
      have o2 := hOr.cell 11
      have g0 := hOr.frozen 9
      have g1 := hOr.frozen 10
      have g2 := hOr.frozen 11
      clear c1 c2 c3 hBr hPr hRr hOr
      replace hOs := Lib.hid hOs
      replace hPs := Lib.hid hPs
      replace hRs := Lib.hid hRs
      replace hBs := Lib.hid hBs
      go_wp2
      go_roundw
      case rel =>
        refine ⟨4, .inr (.inr (.inr (.inr ⟨rfl, rfl⟩))), hBs.out, hPs.out, hRs.out, ?_⟩
        rw [hn.out]
        exact hOs.out
      case measure => simp [intOf]
    · rw [rowU_end, ptsC4] at hOr
      replace hPr := Lib.hid hPr
      replace hRr := Lib.hid hRr
      replace hBr := Lib.hid hBr
      replace hOr := Lib.hid hOr
      go_upto_region 14 with (fail)
      replace hRr := hRr.out
      replace hBr := hBr.out
      replace hOr := hOr.out
      have r0 := hRr.cell 0
      have f0 := hRr.frozen 0
      have o0 := hOr.cell 0
      have r1 := hRr.cell 1
      have f1 := hRr.frozen 1
      have o1 := hOr.cell 1
      have r2 := hRr.cell 2
      have f2 := hRr.frozen 2
      have o2 := hOr.cell 2
      have r3 := hRr.cell 3
      have f3 := hRr.frozen 3
      have o3 := hOr.cell 3
      have r4 := hRr.cell 4
      have f4 := hRr.frozen 4
      have o4 := hOr.cell 4
      have r5 := hRr.cell 5
      have f5 := hRr.frozen 5
      have o5 := hOr.cell 5
      have r6 := hRr.cell 6
      have f6 := hRr.frozen 6
      have o6 := hOr.cell 6
      have r7 := hRr.cell 7
      have f7 := hRr.frozen 7
      have o7 := hOr.cell 7
      have r8 := hRr.cell 8
      have f8 := hRr.frozen 8
      have o8 := hOr.cell 8
      have r9 := hRr.cell 9
      have f9 := hRr.frozen 9
      have o9 := hOr.cell 9
      have r10 := hRr.cell 10
      have f10 := hRr.frozen 10
      have o10 := hOr.cell 10
      have r11 := hRr.cell 11
      have f11 := hRr.frozen 11
      have o11 := hOr.cell 11
      have rl := hRr.lt
      have hR2 := ((((((((((((hRr.set 0 (.int .i64 ((rowF p 1 0).x))).set 1 (.int .i64 ((rowF p 1 0).y))).set 2 (.int .i64 ((rowF p 1 0).z))).set 3 (.int .i64 ((rowF p 1 1).x))).set 4 (.int .i64 ((rowF p 1 1).y))).set 5 (.int .i64 ((rowF p 1 1).z))).set 6 (.int .i64 ((rowF p 1 2).x))).set 7 (.int .i64 ((rowF p 1 2).y))).set 8 (.int .i64 ((rowF p 1 2).z))).set 9 (.int .i64 ((rowF p 1 3).x))).set 10 (.int .i64 ((rowF p 1 3).y))).set 11 (.int .i64 ((rowF p 1 3).z)))
      have hB2 : Below W.heap.size W ((((((((((((wr.setCell ⟨W.heap.size + 1, 0, none⟩ (.int .i64 ((rowF p 1 0).x))).setCell ⟨W.heap.size + 1, 1, none⟩ (.int .i64 ((rowF p 1 0).y))).setCell ⟨W.heap.size + 1, 2, none⟩ (.int .i64 ((rowF p 1 0).z))).setCell ⟨W.heap.size + 1, 3, none⟩ (.int .i64 ((rowF p 1 1).x))).setCell ⟨W.heap.size + 1, 4, none⟩ (.int .i64 ((rowF p 1 1).y))).setCell ⟨W.heap.size + 1, 5, none⟩ (.int .i64 ((rowF p 1 1).z))).setCell ⟨W.heap.size + 1, 6, none⟩ (.int .i64 ((rowF p 1 2).x))).setCell ⟨W.heap.size + 1, 7, none⟩ (.int .i64 ((rowF p 1 2).y))).setCell ⟨W.heap.size + 1, 8, none⟩ (.int .i64 ((rowF p 1 2).z))).setCell ⟨W.heap.size + 1, 9, none⟩ (.int .i64 ((rowF p 1 3).x))).setCell ⟨W.heap.size + 1, 10, none⟩ (.int .i64 ((rowF p 1 3).y))).setCell ⟨W.heap.size + 1, 11, none⟩ (.int .i64 ((rowF p 1 3).z))) := (bel_set (bel_set (bel_set (bel_set (bel_set (bel_set (bel_set (bel_set (bel_set (bel_set (bel_set (bel_set hBr (p := ⟨W.heap.size + 1, 0, none⟩) (by simp) (.int .i64 ((rowF p 1 0).x))) (p := ⟨W.heap.size + 1, 1, none⟩) (by simp) (.int .i64 ((rowF p 1 0).y))) (p := ⟨W.heap.size + 1, 2, none⟩) (by simp) (.int .i64 ((rowF p 1 0).z))) (p := ⟨W.heap.size + 1, 3, none⟩) (by simp) (.int .i64 ((rowF p 1 1).x))) (p := ⟨W.heap.size + 1, 4, none⟩) (by simp) (.int .i64 ((rowF p 1 1).y))) (p := ⟨W.heap.size + 1, 5, none⟩) (by simp) (.int .i64 ((rowF p 1 1).z))) (p := ⟨W.heap.size + 1, 6, none⟩) (by simp) (.int .i64 ((rowF p 1 2).x))) (p := ⟨W.heap.size + 1, 7, none⟩) (by simp) (.int .i64 ((rowF p 1 2).y))) (p := ⟨W.heap.size + 1, 8, none⟩) (by simp) (.int .i64 ((rowF p 1 2).z))) (p := ⟨W.heap.size + 1, 9, none⟩) (by simp) (.int .i64 ((rowF p 1 3).x))) (p := ⟨W.heap.size + 1, 10, none⟩) (by simp) (.int .i64 ((rowF p 1 3).y))) (p := ⟨W.heap.size + 1, 11, none⟩) (by simp) (.int .i64 ((rowF p 1 3).z)))
      clear hPr hRr hBr hOr
      replace hR2 := Lib.hid hR2
      replace hB2 := Lib.hid hB2
      go_wp2
      replace hR2 := hR2.out
      replace hB2 := hB2.out
      generalize ((((((((((((wr.setCell ⟨W.heap.size + 1, 0, none⟩ (.int .i64 ((rowF p 1 0).x))).setCell ⟨W.heap.size + 1, 1, none⟩ (.int .i64 ((rowF p 1 0).y))).setCell ⟨W.heap.size + 1, 2, none⟩ (.int .i64 ((rowF p 1 0).z))).setCell ⟨W.heap.size + 1, 3, none⟩ (.int .i64 ((rowF p 1 1).x))).setCell ⟨W.heap.size + 1, 4, none⟩ (.int .i64 ((rowF p 1 1).y))).setCell ⟨W.heap.size + 1, 5, none⟩ (.int .i64 ((rowF p 1 1).z))).setCell ⟨W.heap.size + 1, 6, none⟩ (.int .i64 ((rowF p 1 2).x))).setCell ⟨W.heap.size + 1, 7, none⟩ (.int .i64 ((rowF p 1 2).y))).setCell ⟨W.heap.size + 1, 8, none⟩ (.int .i64 ((rowF p 1 2).z))).setCell ⟨W.heap.size + 1, 9, none⟩ (.int .i64 ((rowF p 1 3).x))).setCell ⟨W.heap.size + 1, 10, none⟩ (.int .i64 ((rowF p 1 3).y))).setCell ⟨W.heap.size + 1, 11, none⟩ (.int .i64 ((rowF p 1 3).z))) = WE at *
      have w0 := hR2.cell
      refine bodyPost_ret (v := .agg #[.int .i64 ((rowF p 1 0).x), .int .i64 ((rowF p 1 0).y), .int .i64 ((rowF p 1 0).z), .int .i64 ((rowF p 1 1).x), .int .i64 ((rowF p 1 1).y), .int .i64 ((rowF p 1 1).z), .int .i64 ((rowF p 1 2).x), .int .i64 ((rowF p 1 2).y), .int .i64 ((rowF p 1 2).z), .int .i64 ((rowF p 1 3).x), .int .i64 ((rowF p 1 3).y), .int .i64 ((rowF p 1 3).z)]) (by simp [results, Try.results22, go_sem, w0]) rfl ⟨rfl, hB2⟩
set_option maxHeartbeats 8000000 in
theorem rRow2 (p : Nat → P3)  : Gives Try.prog 22 #[.agg (ptsC 16 p), .int .i64 (2)] (.agg (ptsC 4 (rowF p 2))) := by
  have wr0 : wrap64 0 = 0 := wrap_id (by omega) (by omega)
  have wr3 : wrap64 3 = 3 := wrap_id (by omega) (by omega)
  have wr4 : wrap64 4 = 4 := wrap_id (by omega) (by omega)
  have wr7 : wrap64 7 = 7 := wrap_id (by omega) (by omega)
  have wr8 : wrap64 8 = 8 := wrap_id (by omega) (by omega)
  have wr11 : wrap64 11 = 11 := wrap_id (by omega) (by omega)
  have wr12 : wrap64 12 = 12 := wrap_id (by omega) (by omega)
  have wr13 : wrap64 13 = 13 := wrap_id (by omega) (by omega)
  have wr14 : wrap64 14 = 14 := wrap_id (by omega) (by omega)
  have wr15 : wrap64 15 = 15 := wrap_id (by omega) (by omega)
  have wr1 : wrap64 1 = 1 := wrap_id (by omega) (by omega)
  have wr2 : wrap64 2 = 2 := wrap_id (by omega) (by omega)
  rw [ptsC4]
  refine Gives.mk fun W => ?_
  have hP : Blk (((W.alloc (.cells (ptsC 16 p) 24)).alloc (.cells #[.int .i64 0, .int .i64 0, .int .i64 0, .int .i64 0, .int .i64 0, .int .i64 0, .int .i64 0, .int .i64 0, .int .i64 0, .int .i64 0, .int .i64 0, .int .i64 0] 26)).alloc (.cells #[.int .i64 0, .int .i64 0, .int .i64 0, .int .i64 0, .int .i64 0, .int .i64 0, .int .i64 0, .int .i64 0, .int .i64 0, .int .i64 0, .int .i64 0, .int .i64 0] 26)) W.heap.size 24 (ptsC 16 p) := ((Blk.new _ _ _ _ rfl).alloc _).alloc _
  have hR : Blk (((W.alloc (.cells (ptsC 16 p) 24)).alloc (.cells #[.int .i64 0, .int .i64 0, .int .i64 0, .int .i64 0, .int .i64 0, .int .i64 0, .int .i64 0, .int .i64 0, .int .i64 0, .int .i64 0, .int .i64 0, .int .i64 0] 26)).alloc (.cells #[.int .i64 0, .int .i64 0, .int .i64 0, .int .i64 0, .int .i64 0, .int .i64 0, .int .i64 0, .int .i64 0, .int .i64 0, .int .i64 0, .int .i64 0, .int .i64 0] 26)) (W.heap.size + 1) 26 #[.int .i64 0, .int .i64 0, .int .i64 0, .int .i64 0, .int .i64 0, .int .i64 0, .int .i64 0, .int .i64 0, .int .i64 0, .int .i64 0, .int .i64 0, .int .i64 0] := (Blk.new _ _ _ _ (by simp)).alloc _
  have hO : Blk (((W.alloc (.cells (ptsC 16 p) 24)).alloc (.cells #[.int .i64 0, .int .i64 0, .int .i64 0, .int .i64 0, .int .i64 0, .int .i64 0, .int .i64 0, .int .i64 0, .int .i64 0, .int .i64 0, .int .i64 0, .int .i64 0] 26)).alloc (.cells #[.int .i64 0, .int .i64 0, .int .i64 0, .int .i64 0, .int .i64 0, .int .i64 0, .int .i64 0, .int .i64 0, .int .i64 0, .int .i64 0, .int .i64 0, .int .i64 0] 26)) (W.heap.size + 2) 26 (ptsC 4 (rowU p 2 0)) := Blk.new _ _ _ _ (by simp)
  have hB : Below W.heap.size W (((W.alloc (.cells (ptsC 16 p) 24)).alloc (.cells #[.int .i64 0, .int .i64 0, .int .i64 0, .int .i64 0, .int .i64 0, .int .i64 0, .int .i64 0, .int .i64 0, .int .i64 0, .int .i64 0, .int .i64 0, .int .i64 0] 26)).alloc (.cells #[.int .i64 0, .int .i64 0, .int .i64 0, .int .i64 0, .int .i64 0, .int .i64 0, .int .i64 0, .int .i64 0, .int .i64 0, .int .i64 0, .int .i64 0, .int .i64 0] 26)) := bel_alloc (bel_alloc (bel_alloc (Below.refl _ _) _) _) _
  go_enter Try.func22, Try.ntmps22
  go_upto_region 2 with (fail)
  generalize (((W.alloc (.cells (ptsC 16 p) 24)).alloc (.cells #[.int .i64 0, .int .i64 0, .int .i64 0, .int .i64 0, .int .i64 0, .int .i64 0, .int .i64 0, .int .i64 0, .int .i64 0, .int .i64 0, .int .i64 0, .int .i64 0] 26)).alloc (.cells #[.int .i64 0, .int .i64 0, .int .i64 0, .int .i64 0, .int .i64 0, .int .i64 0, .int .i64 0, .int .i64 0, .int .i64 0, .int .i64 0, .int .i64 0, .int .i64 0] 26)) = W1 at *
  go_wp2
  go_loopw [6] (fun iv wr => ∃ k : Nat, rowI iv k ∧ Below W.heap.size W wr ∧ Blk wr W.heap.size 24 (ptsC 16 p) ∧ Blk wr (W.heap.size + 1) 26 #[.int .i64 0, .int .i64 0, .int .i64 0, .int .i64 0, .int .i64 0, .int .i64 0, .int .i64 0, .int .i64 0, .int .i64 0, .int .i64 0, .int .i64 0, .int .i64 0] ∧ Blk wr (W.heap.size + 2) 26 (ptsC 4 (rowU p 2 k))) (fun iv _ => 4 - (intOf iv).toNat)
  case atStart => exact ⟨0, .inl ⟨rfl, rfl⟩, hB, hP, hR, hO⟩
  case round =>
    obtain ⟨k, hi, hBr, hPr, hRr, hOr⟩ := hrel
    clear hB hP hR hO
    have pl := hPr.lt
    have ol := hOr.lt
    rcases hi with ⟨rfl, rfl⟩ | ⟨rfl, rfl⟩ | ⟨rfl, rfl⟩ | ⟨rfl, rfl⟩ | ⟨rfl, rfl⟩
    · obtain ⟨c1, c2, c3⟩ := ptsB hPr (k := 15) (by omega)
      have hOs := ((hOr.set 0 (.int .i64 (p 15).x)).set 1 (.int .i64 (p 15).y)).set 2 (.int .i64 (p 15).z)
      have hPs := ((hPr.far (b := W.heap.size + 2) 0 (.int .i64 (p 15).x) (by omega)).far (b := W.heap.size + 2) 1 (.int .i64 (p 15).y) (by omega)).far (b := W.heap.size + 2) 2 (.int .i64 (p 15).z) (by omega)
      have hRs := ((hRr.far (b := W.heap.size + 2) 0 (.int .i64 (p 15).x) (by omega)).far (b := W.heap.size + 2) 1 (.int .i64 (p 15).y) (by omega)).far (b := W.heap.size + 2) 2 (.int .i64 (p 15).z) (by omega)
      have hBs := (bel_set (bel_set (bel_set hBr (p := ⟨W.heap.size + 2, 0, none⟩) (by simp) (.int .i64 ((p 15).x))) (p := ⟨W.heap.size + 2, 1, none⟩) (by simp) (.int .i64 ((p 15).y))) (p := ⟨W.heap.size + 2, 2, none⟩) (by simp) (.int .i64 ((p 15).z)))
      have x1 : wr.cell? ⟨W.heap.size, 45, none⟩ = some (.int .i64 (p 15).x) := c1
      have x2 : wr.cell? ⟨W.heap.size, 46, none⟩ = some (.int .i64 (p 15).y) := c2
      have x3 : wr.cell? ⟨W.heap.size, 47, none⟩ = some (.int .i64 (p 15).z) := c3
      have hn : ptsC 4 (rowU p 2 1) = _ := (rowU_next p 2 (k := 0) (by omega)).symm
      replace hn := Lib.hid hn
      rw [ptsC4] at hOr
      have o0 := hOr.cell 0
      have o1 := hOr.cell 1
      have o2 := hOr.cell 2
      have g0 := hOr.frozen 0
      have g1 := hOr.frozen 1
      have g2 := hOr.frozen 2
      clear c1 c2 c3 hBr hPr hRr hOr
      replace hOs := Lib.hid hOs
      replace hPs := Lib.hid hPs
      replace hRs := Lib.hid hRs
      replace hBs := Lib.hid hBs
      go_wp2
      go_roundw
      case rel =>
        refine ⟨1, .inr (.inl ⟨rfl, rfl⟩), hBs.out, hPs.out, hRs.out, ?_⟩
        rw [hn.out]
        exact hOs.out
      case measure => simp [intOf]
    · obtain ⟨c1, c2, c3⟩ := ptsB hPr (k := 14) (by omega)
      have hOs := ((hOr.set 3 (.int .i64 (p 14).x)).set 4 (.int .i64 (p 14).y)).set 5 (.int .i64 (p 14).z)
      have hPs := ((hPr.far (b := W.heap.size + 2) 3 (.int .i64 (p 14).x) (by omega)).far (b := W.heap.size + 2) 4 (.int .i64 (p 14).y) (by omega)).far (b := W.heap.size + 2) 5 (.int .i64 (p 14).z) (by omega)
      have hRs := ((hRr.far (b := W.heap.size + 2) 3 (.int .i64 (p 14).x) (by omega)).far (b := W.heap.size + 2) 4 (.int .i64 (p 14).y) (by omega)).far (b := W.heap.size + 2) 5 (.int .i64 (p 14).z) (by omega)
      have hBs := (bel_set (bel_set (bel_set hBr (p := ⟨W.heap.size + 2, 3, none⟩) (by simp) (.int .i64 ((p 14).x))) (p := ⟨W.heap.size + 2, 4, none⟩) (by simp) (.int .i64 ((p 14).y))) (p := ⟨W.heap.size + 2, 5, none⟩) (by simp) (.int .i64 ((p 14).z)))
      have x1 : wr.cell? ⟨W.heap.size, 42, none⟩ = some (.int .i64 (p 14).x) := c1
      have x2 : wr.cell? ⟨W.heap.size, 43, none⟩ = some (.int .i64 (p 14).y) := c2
      have x3 : wr.cell? ⟨W.heap.size, 44, none⟩ = some (.int .i64 (p 14).z) := c3
      have hn : ptsC 4 (rowU p 2 2) = _ := (rowU_next p 2 (k := 1) (by omega)).symm
      replace hn := Lib.hid hn
      rw [ptsC4] at hOr
      have o0 := hOr.cell 3
      have o1 := hOr.cell 4
      have o2 := hOr.cell 5
      have g0 := hOr.frozen 3
      have g1 := hOr.frozen 4
      have g2 := hOr.frozen 5
      clear c1 c2 c3 hBr hPr hRr hOr
      replace hOs := Lib.hid hOs
      replace hPs := Lib.hid hPs
      replace hRs := Lib.hid hRs
      replace hBs := Lib.hid hBs
      go_wp2
      go_roundw
      case rel =>
        refine ⟨2, .inr (.inr (.inl ⟨rfl, rfl⟩)), hBs.out, hPs.out, hRs.out, ?_⟩
        rw [hn.out]
        exact hOs.out
      case measure => simp [intOf]
    · obtain ⟨c1, c2, c3⟩ := ptsB hPr (k := 13) (by omega)
      have hOs := ((hOr.set 6 (.int .i64 (p 13).x)).set 7 (.int .i64 (p 13).y)).set 8 (.int .i64 (p 13).z)
      have hPs := ((hPr.far (b := W.heap.size + 2) 6 (.int .i64 (p 13).x) (by omega)).far (b := W.heap.size + 2) 7 (.int .i64 (p 13).y) (by omega)).far (b := W.heap.size + 2) 8 (.int .i64 (p 13).z) (by omega)
      have hRs := ((hRr.far (b := W.heap.size + 2) 6 (.int .i64 (p 13).x) (by omega)).far (b := W.heap.size + 2) 7 (.int .i64 (p 13).y) (by omega)).far (b := W.heap.size + 2) 8 (.int .i64 (p 13).z) (by omega)
      have hBs := (bel_set (bel_set (bel_set hBr (p := ⟨W.heap.size + 2, 6, none⟩) (by simp) (.int .i64 ((p 13).x))) (p := ⟨W.heap.size + 2, 7, none⟩) (by simp) (.int .i64 ((p 13).y))) (p := ⟨W.heap.size + 2, 8, none⟩) (by simp) (.int .i64 ((p 13).z)))
      have x1 : wr.cell? ⟨W.heap.size, 39, none⟩ = some (.int .i64 (p 13).x) := c1
      have x2 : wr.cell? ⟨W.heap.size, 40, none⟩ = some (.int .i64 (p 13).y) := c2
      have x3 : wr.cell? ⟨W.heap.size, 41, none⟩ = some (.int .i64 (p 13).z) := c3
      have hn : ptsC 4 (rowU p 2 3) = _ := (rowU_next p 2 (k := 2) (by omega)).symm
      replace hn := Lib.hid hn
      rw [ptsC4] at hOr
      have o0 := hOr.cell 6
      have o1 := hOr.cell 7
      have o2 := hOr.cell 8
      have g0 := hOr.frozen 6
      have g1 := hOr.frozen 7
      have g2 := hOr.frozen 8
      clear c1 c2 c3 hBr hPr hRr hOr
      replace hOs := Lib.hid hOs
      replace hPs := Lib.hid hPs
      replace hRs := Lib.hid hRs
      replace hBs := Lib.hid hBs
      go_wp2
      go_roundw
      case rel =>
        refine ⟨3, .inr (.inr (.inr (.inl ⟨rfl, rfl⟩))), hBs.out, hPs.out, hRs.out, ?_⟩
        rw [hn.out]
        exact hOs.out
      case measure => simp [intOf]
    · obtain ⟨c1, c2, c3⟩ := ptsB hPr (k := 12) (by omega)
      have hOs := ((hOr.set 9 (.int .i64 (p 12).x)).set 10 (.int .i64 (p 12).y)).set 11 (.int .i64 (p 12).z)
      have hPs := ((hPr.far (b := W.heap.size + 2) 9 (.int .i64 (p 12).x) (by omega)).far (b := W.heap.size + 2) 10 (.int .i64 (p 12).y) (by omega)).far (b := W.heap.size + 2) 11 (.int .i64 (p 12).z) (by omega)
      have hRs := ((hRr.far (b := W.heap.size + 2) 9 (.int .i64 (p 12).x) (by omega)).far (b := W.heap.size + 2) 10 (.int .i64 (p 12).y) (by omega)).far (b := W.heap.size + 2) 11 (.int .i64 (p 12).z) (by omega)
      have hBs := (bel_set (bel_set (bel_set hBr (p := ⟨W.heap.size + 2, 9, none⟩) (by simp) (.int .i64 ((p 12).x))) (p := ⟨W.heap.size + 2, 10, none⟩) (by simp) (.int .i64 ((p 12).y))) (p := ⟨W.heap.size + 2, 11, none⟩) (by simp) (.int .i64 ((p 12).z)))
      have x1 : wr.cell? ⟨W.heap.size, 36, none⟩ = some (.int .i64 (p 12).x) := c1
      have x2 : wr.cell? ⟨W.heap.size, 37, none⟩ = some (.int .i64 (p 12).y) := c2
      have x3 : wr.cell? ⟨W.heap.size, 38, none⟩ = some (.int .i64 (p 12).z) := c3
      have hn : ptsC 4 (rowU p 2 4) = _ := (rowU_next p 2 (k := 3) (by omega)).symm
      replace hn := Lib.hid hn
      rw [ptsC4] at hOr
      have o0 := hOr.cell 9
      have o1 := hOr.cell 10
      have o2 := hOr.cell 11
      have g0 := hOr.frozen 9
      have g1 := hOr.frozen 10
      have g2 := hOr.frozen 11
      clear c1 c2 c3 hBr hPr hRr hOr
      replace hOs := Lib.hid hOs
      replace hPs := Lib.hid hPs
      replace hRs := Lib.hid hRs
      replace hBs := Lib.hid hBs
      go_wp2
      go_roundw
      case rel =>
        refine ⟨4, .inr (.inr (.inr (.inr ⟨rfl, rfl⟩))), hBs.out, hPs.out, hRs.out, ?_⟩
        rw [hn.out]
        exact hOs.out
      case measure => simp [intOf]
    · rw [rowU_end, ptsC4] at hOr
      replace hPr := Lib.hid hPr
      replace hRr := Lib.hid hRr
      replace hBr := Lib.hid hBr
      replace hOr := Lib.hid hOr
      go_upto_region 14 with (fail)
      replace hRr := hRr.out
      replace hBr := hBr.out
      replace hOr := hOr.out
      have r0 := hRr.cell 0
      have f0 := hRr.frozen 0
      have o0 := hOr.cell 0
      have r1 := hRr.cell 1
      have f1 := hRr.frozen 1
      have o1 := hOr.cell 1
      have r2 := hRr.cell 2
      have f2 := hRr.frozen 2
      have o2 := hOr.cell 2
      have r3 := hRr.cell 3
      have f3 := hRr.frozen 3
      have o3 := hOr.cell 3
      have r4 := hRr.cell 4
      have f4 := hRr.frozen 4
      have o4 := hOr.cell 4
      have r5 := hRr.cell 5
      have f5 := hRr.frozen 5
      have o5 := hOr.cell 5
      have r6 := hRr.cell 6
      have f6 := hRr.frozen 6
      have o6 := hOr.cell 6
      have r7 := hRr.cell 7
      have f7 := hRr.frozen 7
      have o7 := hOr.cell 7
      have r8 := hRr.cell 8
      have f8 := hRr.frozen 8
      have o8 := hOr.cell 8
      have r9 := hRr.cell 9
      have f9 := hRr.frozen 9
      have o9 := hOr.cell 9
      have r10 := hRr.cell 10
      have f10 := hRr.frozen 10
      have o10 := hOr.cell 10
      have r11 := hRr.cell 11
      have f11 := hRr.frozen 11
      have o11 := hOr.cell 11
      have rl := hRr.lt
      have hR2 := ((((((((((((hRr.set 0 (.int .i64 ((rowF p 2 0).x))).set 1 (.int .i64 ((rowF p 2 0).y))).set 2 (.int .i64 ((rowF p 2 0).z))).set 3 (.int .i64 ((rowF p 2 1).x))).set 4 (.int .i64 ((rowF p 2 1).y))).set 5 (.int .i64 ((rowF p 2 1).z))).set 6 (.int .i64 ((rowF p 2 2).x))).set 7 (.int .i64 ((rowF p 2 2).y))).set 8 (.int .i64 ((rowF p 2 2).z))).set 9 (.int .i64 ((rowF p 2 3).x))).set 10 (.int .i64 ((rowF p 2 3).y))).set 11 (.int .i64 ((rowF p 2 3).z)))
      have hB2 : Below W.heap.size W ((((((((((((wr.setCell ⟨W.heap.size + 1, 0, none⟩ (.int .i64 ((rowF p 2 0).x))).setCell ⟨W.heap.size + 1, 1, none⟩ (.int .i64 ((rowF p 2 0).y))).setCell ⟨W.heap.size + 1, 2, none⟩ (.int .i64 ((rowF p 2 0).z))).setCell ⟨W.heap.size + 1, 3, none⟩ (.int .i64 ((rowF p 2 1).x))).setCell ⟨W.heap.size + 1, 4, none⟩ (.int .i64 ((rowF p 2 1).y))).setCell ⟨W.heap.size + 1, 5, none⟩ (.int .i64 ((rowF p 2 1).z))).setCell ⟨W.heap.size + 1, 6, none⟩ (.int .i64 ((rowF p 2 2).x))).setCell ⟨W.heap.size + 1, 7, none⟩ (.int .i64 ((rowF p 2 2).y))).setCell ⟨W.heap.size + 1, 8, none⟩ (.int .i64 ((rowF p 2 2).z))).setCell ⟨W.heap.size + 1, 9, none⟩ (.int .i64 ((rowF p 2 3).x))).setCell ⟨W.heap.size + 1, 10, none⟩ (.int .i64 ((rowF p 2 3).y))).setCell ⟨W.heap.size + 1, 11, none⟩ (.int .i64 ((rowF p 2 3).z))) := (bel_set (bel_set (bel_set (bel_set (bel_set (bel_set (bel_set (bel_set (bel_set (bel_set (bel_set (bel_set hBr (p := ⟨W.heap.size + 1, 0, none⟩) (by simp) (.int .i64 ((rowF p 2 0).x))) (p := ⟨W.heap.size + 1, 1, none⟩) (by simp) (.int .i64 ((rowF p 2 0).y))) (p := ⟨W.heap.size + 1, 2, none⟩) (by simp) (.int .i64 ((rowF p 2 0).z))) (p := ⟨W.heap.size + 1, 3, none⟩) (by simp) (.int .i64 ((rowF p 2 1).x))) (p := ⟨W.heap.size + 1, 4, none⟩) (by simp) (.int .i64 ((rowF p 2 1).y))) (p := ⟨W.heap.size + 1, 5, none⟩) (by simp) (.int .i64 ((rowF p 2 1).z))) (p := ⟨W.heap.size + 1, 6, none⟩) (by simp) (.int .i64 ((rowF p 2 2).x))) (p := ⟨W.heap.size + 1, 7, none⟩) (by simp) (.int .i64 ((rowF p 2 2).y))) (p := ⟨W.heap.size + 1, 8, none⟩) (by simp) (.int .i64 ((rowF p 2 2).z))) (p := ⟨W.heap.size + 1, 9, none⟩) (by simp) (.int .i64 ((rowF p 2 3).x))) (p := ⟨W.heap.size + 1, 10, none⟩) (by simp) (.int .i64 ((rowF p 2 3).y))) (p := ⟨W.heap.size + 1, 11, none⟩) (by simp) (.int .i64 ((rowF p 2 3).z)))
      clear hPr hRr hBr hOr
      replace hR2 := Lib.hid hR2
      replace hB2 := Lib.hid hB2
      go_wp2
      replace hR2 := hR2.out
      replace hB2 := hB2.out
      generalize ((((((((((((wr.setCell ⟨W.heap.size + 1, 0, none⟩ (.int .i64 ((rowF p 2 0).x))).setCell ⟨W.heap.size + 1, 1, none⟩ (.int .i64 ((rowF p 2 0).y))).setCell ⟨W.heap.size + 1, 2, none⟩ (.int .i64 ((rowF p 2 0).z))).setCell ⟨W.heap.size + 1, 3, none⟩ (.int .i64 ((rowF p 2 1).x))).setCell ⟨W.heap.size + 1, 4, none⟩ (.int .i64 ((rowF p 2 1).y))).setCell ⟨W.heap.size + 1, 5, none⟩ (.int .i64 ((rowF p 2 1).z))).setCell ⟨W.heap.size + 1, 6, none⟩ (.int .i64 ((rowF p 2 2).x))).setCell ⟨W.heap.size + 1, 7, none⟩ (.int .i64 ((rowF p 2 2).y))).setCell ⟨W.heap.size + 1, 8, none⟩ (.int .i64 ((rowF p 2 2).z))).setCell ⟨W.heap.size + 1, 9, none⟩ (.int .i64 ((rowF p 2 3).x))).setCell ⟨W.heap.size + 1, 10, none⟩ (.int .i64 ((rowF p 2 3).y))).setCell ⟨W.heap.size + 1, 11, none⟩ (.int .i64 ((rowF p 2 3).z))) = WE at *
      have w0 := hR2.cell
      refine bodyPost_ret (v := .agg #[.int .i64 ((rowF p 2 0).x), .int .i64 ((rowF p 2 0).y), .int .i64 ((rowF p 2 0).z), .int .i64 ((rowF p 2 1).x), .int .i64 ((rowF p 2 1).y), .int .i64 ((rowF p 2 1).z), .int .i64 ((rowF p 2 2).x), .int .i64 ((rowF p 2 2).y), .int .i64 ((rowF p 2 2).z), .int .i64 ((rowF p 2 3).x), .int .i64 ((rowF p 2 3).y), .int .i64 ((rowF p 2 3).z)]) (by simp [results, Try.results22, go_sem, w0]) rfl ⟨rfl, hB2⟩
set_option maxHeartbeats 8000000 in
theorem rRow3 (p : Nat → P3)  : Gives Try.prog 22 #[.agg (ptsC 16 p), .int .i64 (3)] (.agg (ptsC 4 (rowF p 3))) := by
  have wr0 : wrap64 0 = 0 := wrap_id (by omega) (by omega)
  have wr3 : wrap64 3 = 3 := wrap_id (by omega) (by omega)
  have wr4 : wrap64 4 = 4 := wrap_id (by omega) (by omega)
  have wr7 : wrap64 7 = 7 := wrap_id (by omega) (by omega)
  have wr8 : wrap64 8 = 8 := wrap_id (by omega) (by omega)
  have wr11 : wrap64 11 = 11 := wrap_id (by omega) (by omega)
  have wr12 : wrap64 12 = 12 := wrap_id (by omega) (by omega)
  have wr13 : wrap64 13 = 13 := wrap_id (by omega) (by omega)
  have wr14 : wrap64 14 = 14 := wrap_id (by omega) (by omega)
  have wr15 : wrap64 15 = 15 := wrap_id (by omega) (by omega)
  have wr1 : wrap64 1 = 1 := wrap_id (by omega) (by omega)
  have wr2 : wrap64 2 = 2 := wrap_id (by omega) (by omega)
  rw [ptsC4]
  refine Gives.mk fun W => ?_
  have hP : Blk (((W.alloc (.cells (ptsC 16 p) 24)).alloc (.cells #[.int .i64 0, .int .i64 0, .int .i64 0, .int .i64 0, .int .i64 0, .int .i64 0, .int .i64 0, .int .i64 0, .int .i64 0, .int .i64 0, .int .i64 0, .int .i64 0] 26)).alloc (.cells #[.int .i64 0, .int .i64 0, .int .i64 0, .int .i64 0, .int .i64 0, .int .i64 0, .int .i64 0, .int .i64 0, .int .i64 0, .int .i64 0, .int .i64 0, .int .i64 0] 26)) W.heap.size 24 (ptsC 16 p) := ((Blk.new _ _ _ _ rfl).alloc _).alloc _
  have hR : Blk (((W.alloc (.cells (ptsC 16 p) 24)).alloc (.cells #[.int .i64 0, .int .i64 0, .int .i64 0, .int .i64 0, .int .i64 0, .int .i64 0, .int .i64 0, .int .i64 0, .int .i64 0, .int .i64 0, .int .i64 0, .int .i64 0] 26)).alloc (.cells #[.int .i64 0, .int .i64 0, .int .i64 0, .int .i64 0, .int .i64 0, .int .i64 0, .int .i64 0, .int .i64 0, .int .i64 0, .int .i64 0, .int .i64 0, .int .i64 0] 26)) (W.heap.size + 1) 26 #[.int .i64 0, .int .i64 0, .int .i64 0, .int .i64 0, .int .i64 0, .int .i64 0, .int .i64 0, .int .i64 0, .int .i64 0, .int .i64 0, .int .i64 0, .int .i64 0] := (Blk.new _ _ _ _ (by simp)).alloc _
  have hO : Blk (((W.alloc (.cells (ptsC 16 p) 24)).alloc (.cells #[.int .i64 0, .int .i64 0, .int .i64 0, .int .i64 0, .int .i64 0, .int .i64 0, .int .i64 0, .int .i64 0, .int .i64 0, .int .i64 0, .int .i64 0, .int .i64 0] 26)).alloc (.cells #[.int .i64 0, .int .i64 0, .int .i64 0, .int .i64 0, .int .i64 0, .int .i64 0, .int .i64 0, .int .i64 0, .int .i64 0, .int .i64 0, .int .i64 0, .int .i64 0] 26)) (W.heap.size + 2) 26 (ptsC 4 (rowU p 3 0)) := Blk.new _ _ _ _ (by simp)
  have hB : Below W.heap.size W (((W.alloc (.cells (ptsC 16 p) 24)).alloc (.cells #[.int .i64 0, .int .i64 0, .int .i64 0, .int .i64 0, .int .i64 0, .int .i64 0, .int .i64 0, .int .i64 0, .int .i64 0, .int .i64 0, .int .i64 0, .int .i64 0] 26)).alloc (.cells #[.int .i64 0, .int .i64 0, .int .i64 0, .int .i64 0, .int .i64 0, .int .i64 0, .int .i64 0, .int .i64 0, .int .i64 0, .int .i64 0, .int .i64 0, .int .i64 0] 26)) := bel_alloc (bel_alloc (bel_alloc (Below.refl _ _) _) _) _
  go_enter Try.func22, Try.ntmps22
  go_upto_region 2 with (fail)
  generalize (((W.alloc (.cells (ptsC 16 p) 24)).alloc (.cells #[.int .i64 0, .int .i64 0, .int .i64 0, .int .i64 0, .int .i64 0, .int .i64 0, .int .i64 0, .int .i64 0, .int .i64 0, .int .i64 0, .int .i64 0, .int .i64 0] 26)).alloc (.cells #[.int .i64 0, .int .i64 0, .int .i64 0, .int .i64 0, .int .i64 0, .int .i64 0, .int .i64 0, .int .i64 0, .int .i64 0, .int .i64 0, .int .i64 0, .int .i64 0] 26)) = W1 at *
  go_wp2
  go_loopw [6] (fun iv wr => ∃ k : Nat, rowI iv k ∧ Below W.heap.size W wr ∧ Blk wr W.heap.size 24 (ptsC 16 p) ∧ Blk wr (W.heap.size + 1) 26 #[.int .i64 0, .int .i64 0, .int .i64 0, .int .i64 0, .int .i64 0, .int .i64 0, .int .i64 0, .int .i64 0, .int .i64 0, .int .i64 0, .int .i64 0, .int .i64 0] ∧ Blk wr (W.heap.size + 2) 26 (ptsC 4 (rowU p 3 k))) (fun iv _ => 4 - (intOf iv).toNat)
  case atStart => exact ⟨0, .inl ⟨rfl, rfl⟩, hB, hP, hR, hO⟩
  case round =>
    obtain ⟨k, hi, hBr, hPr, hRr, hOr⟩ := hrel
    clear hB hP hR hO
    have pl := hPr.lt
    have ol := hOr.lt
    rcases hi with ⟨rfl, rfl⟩ | ⟨rfl, rfl⟩ | ⟨rfl, rfl⟩ | ⟨rfl, rfl⟩ | ⟨rfl, rfl⟩
    · obtain ⟨c1, c2, c3⟩ := ptsB hPr (k := 12) (by omega)
      have hOs := ((hOr.set 0 (.int .i64 (p 12).x)).set 1 (.int .i64 (p 12).y)).set 2 (.int .i64 (p 12).z)
      have hPs := ((hPr.far (b := W.heap.size + 2) 0 (.int .i64 (p 12).x) (by omega)).far (b := W.heap.size + 2) 1 (.int .i64 (p 12).y) (by omega)).far (b := W.heap.size + 2) 2 (.int .i64 (p 12).z) (by omega)
      have hRs := ((hRr.far (b := W.heap.size + 2) 0 (.int .i64 (p 12).x) (by omega)).far (b := W.heap.size + 2) 1 (.int .i64 (p 12).y) (by omega)).far (b := W.heap.size + 2) 2 (.int .i64 (p 12).z) (by omega)
      have hBs := (bel_set (bel_set (bel_set hBr (p := ⟨W.heap.size + 2, 0, none⟩) (by simp) (.int .i64 ((p 12).x))) (p := ⟨W.heap.size + 2, 1, none⟩) (by simp) (.int .i64 ((p 12).y))) (p := ⟨W.heap.size + 2, 2, none⟩) (by simp) (.int .i64 ((p 12).z)))
      have x1 : wr.cell? ⟨W.heap.size, 36, none⟩ = some (.int .i64 (p 12).x) := c1
      have x2 : wr.cell? ⟨W.heap.size, 37, none⟩ = some (.int .i64 (p 12).y) := c2
      have x3 : wr.cell? ⟨W.heap.size, 38, none⟩ = some (.int .i64 (p 12).z) := c3
      have hn : ptsC 4 (rowU p 3 1) = _ := (rowU_next p 3 (k := 0) (by omega)).symm
      replace hn := Lib.hid hn
      rw [ptsC4] at hOr
      have o0 := hOr.cell 0
      have o1 := hOr.cell 1
      have o2 := hOr.cell 2
      have g0 := hOr.frozen 0
      have g1 := hOr.frozen 1
      have g2 := hOr.frozen 2
      clear c1 c2 c3 hBr hPr hRr hOr
      replace hOs := Lib.hid hOs
      replace hPs := Lib.hid hPs
      replace hRs := Lib.hid hRs
      replace hBs := Lib.hid hBs
      go_wp2
      go_roundw
      case rel =>
        refine ⟨1, .inr (.inl ⟨rfl, rfl⟩), hBs.out, hPs.out, hRs.out, ?_⟩
        rw [hn.out]
        exact hOs.out
      case measure => simp [intOf]
    · obtain ⟨c1, c2, c3⟩ := ptsB hPr (k := 8) (by omega)
      have hOs := ((hOr.set 3 (.int .i64 (p 8).x)).set 4 (.int .i64 (p 8).y)).set 5 (.int .i64 (p 8).z)
      have hPs := ((hPr.far (b := W.heap.size + 2) 3 (.int .i64 (p 8).x) (by omega)).far (b := W.heap.size + 2) 4 (.int .i64 (p 8).y) (by omega)).far (b := W.heap.size + 2) 5 (.int .i64 (p 8).z) (by omega)
      have hRs := ((hRr.far (b := W.heap.size + 2) 3 (.int .i64 (p 8).x) (by omega)).far (b := W.heap.size + 2) 4 (.int .i64 (p 8).y) (by omega)).far (b := W.heap.size + 2) 5 (.int .i64 (p 8).z) (by omega)
      have hBs := (bel_set (bel_set (bel_set hBr (p := ⟨W.heap.size + 2, 3, none⟩) (by simp) (.int .i64 ((p 8).x))) (p := ⟨W.heap.size + 2, 4, none⟩) (by simp) (.int .i64 ((p 8).y))) (p := ⟨W.heap.size + 2, 5, none⟩) (by simp) (.int .i64 ((p 8).z)))
      have x1 : wr.cell? ⟨W.heap.size, 24, none⟩ = some (.int .i64 (p 8).x) := c1
      have x2 : wr.cell? ⟨W.heap.size, 25, none⟩ = some (.int .i64 (p 8).y) := c2
      have x3 : wr.cell? ⟨W.heap.size, 26, none⟩ = some (.int .i64 (p 8).z) := c3
      have hn : ptsC 4 (rowU p 3 2) = _ := (rowU_next p 3 (k := 1) (by omega)).symm
      replace hn := Lib.hid hn
      rw [ptsC4] at hOr
      have o0 := hOr.cell 3
      have o1 := hOr.cell 4
      have o2 := hOr.cell 5
      have g0 := hOr.frozen 3
      have g1 := hOr.frozen 4
      have g2 := hOr.frozen 5
      clear c1 c2 c3 hBr hPr hRr hOr
      replace hOs := Lib.hid hOs
      replace hPs := Lib.hid hPs
      replace hRs := Lib.hid hRs
      replace hBs := Lib.hid hBs
      go_wp2
      go_roundw
      case rel =>
        refine ⟨2, .inr (.inr (.inl ⟨rfl, rfl⟩)), hBs.out, hPs.out, hRs.out, ?_⟩
        rw [hn.out]
        exact hOs.out
      case measure => simp [intOf]
    · obtain ⟨c1, c2, c3⟩ := ptsB hPr (k := 4) (by omega)
      have hOs := ((hOr.set 6 (.int .i64 (p 4).x)).set 7 (.int .i64 (p 4).y)).set 8 (.int .i64 (p 4).z)
      have hPs := ((hPr.far (b := W.heap.size + 2) 6 (.int .i64 (p 4).x) (by omega)).far (b := W.heap.size + 2) 7 (.int .i64 (p 4).y) (by omega)).far (b := W.heap.size + 2) 8 (.int .i64 (p 4).z) (by omega)
      have hRs := ((hRr.far (b := W.heap.size + 2) 6 (.int .i64 (p 4).x) (by omega)).far (b := W.heap.size + 2) 7 (.int .i64 (p 4).y) (by omega)).far (b := W.heap.size + 2) 8 (.int .i64 (p 4).z) (by omega)
      have hBs := (bel_set (bel_set (bel_set hBr (p := ⟨W.heap.size + 2, 6, none⟩) (by simp) (.int .i64 ((p 4).x))) (p := ⟨W.heap.size + 2, 7, none⟩) (by simp) (.int .i64 ((p 4).y))) (p := ⟨W.heap.size + 2, 8, none⟩) (by simp) (.int .i64 ((p 4).z)))
      have x1 : wr.cell? ⟨W.heap.size, 12, none⟩ = some (.int .i64 (p 4).x) := c1
      have x2 : wr.cell? ⟨W.heap.size, 13, none⟩ = some (.int .i64 (p 4).y) := c2
      have x3 : wr.cell? ⟨W.heap.size, 14, none⟩ = some (.int .i64 (p 4).z) := c3
      have hn : ptsC 4 (rowU p 3 3) = _ := (rowU_next p 3 (k := 2) (by omega)).symm
      replace hn := Lib.hid hn
      rw [ptsC4] at hOr
      have o0 := hOr.cell 6
      have o1 := hOr.cell 7
      have o2 := hOr.cell 8
      have g0 := hOr.frozen 6
      have g1 := hOr.frozen 7
      have g2 := hOr.frozen 8
      clear c1 c2 c3 hBr hPr hRr hOr
      replace hOs := Lib.hid hOs
      replace hPs := Lib.hid hPs
      replace hRs := Lib.hid hRs
      replace hBs := Lib.hid hBs
      go_wp2
      go_roundw
      case rel =>
        refine ⟨3, .inr (.inr (.inr (.inl ⟨rfl, rfl⟩))), hBs.out, hPs.out, hRs.out, ?_⟩
        rw [hn.out]
        exact hOs.out
      case measure => simp [intOf]
    · obtain ⟨c1, c2, c3⟩ := ptsB hPr (k := 0) (by omega)
      have hOs := ((hOr.set 9 (.int .i64 (p 0).x)).set 10 (.int .i64 (p 0).y)).set 11 (.int .i64 (p 0).z)
      have hPs := ((hPr.far (b := W.heap.size + 2) 9 (.int .i64 (p 0).x) (by omega)).far (b := W.heap.size + 2) 10 (.int .i64 (p 0).y) (by omega)).far (b := W.heap.size + 2) 11 (.int .i64 (p 0).z) (by omega)
      have hRs := ((hRr.far (b := W.heap.size + 2) 9 (.int .i64 (p 0).x) (by omega)).far (b := W.heap.size + 2) 10 (.int .i64 (p 0).y) (by omega)).far (b := W.heap.size + 2) 11 (.int .i64 (p 0).z) (by omega)
      have hBs := (bel_set (bel_set (bel_set hBr (p := ⟨W.heap.size + 2, 9, none⟩) (by simp) (.int .i64 ((p 0).x))) (p := ⟨W.heap.size + 2, 10, none⟩) (by simp) (.int .i64 ((p 0).y))) (p := ⟨W.heap.size + 2, 11, none⟩) (by simp) (.int .i64 ((p 0).z)))
      have x1 : wr.cell? ⟨W.heap.size, 0, none⟩ = some (.int .i64 (p 0).x) := c1
      have x2 : wr.cell? ⟨W.heap.size, 1, none⟩ = some (.int .i64 (p 0).y) := c2
      have x3 : wr.cell? ⟨W.heap.size, 2, none⟩ = some (.int .i64 (p 0).z) := c3
      have hn : ptsC 4 (rowU p 3 4) = _ := (rowU_next p 3 (k := 3) (by omega)).symm
      replace hn := Lib.hid hn
      rw [ptsC4] at hOr
      have o0 := hOr.cell 9
      have o1 := hOr.cell 10
      have o2 := hOr.cell 11
      have g0 := hOr.frozen 9
      have g1 := hOr.frozen 10
      have g2 := hOr.frozen 11
      clear c1 c2 c3 hBr hPr hRr hOr
      replace hOs := Lib.hid hOs
      replace hPs := Lib.hid hPs
      replace hRs := Lib.hid hRs
      replace hBs := Lib.hid hBs
      go_wp2
      go_roundw
      case rel =>
        refine ⟨4, .inr (.inr (.inr (.inr ⟨rfl, rfl⟩))), hBs.out, hPs.out, hRs.out, ?_⟩
        rw [hn.out]
        exact hOs.out
      case measure => simp [intOf]
    · rw [rowU_end, ptsC4] at hOr
      replace hPr := Lib.hid hPr
      replace hRr := Lib.hid hRr
      replace hBr := Lib.hid hBr
      replace hOr := Lib.hid hOr
      go_upto_region 14 with (fail)
      replace hRr := hRr.out
      replace hBr := hBr.out
      replace hOr := hOr.out
      have r0 := hRr.cell 0
      have f0 := hRr.frozen 0
      have o0 := hOr.cell 0
      have r1 := hRr.cell 1
      have f1 := hRr.frozen 1
      have o1 := hOr.cell 1
      have r2 := hRr.cell 2
      have f2 := hRr.frozen 2
      have o2 := hOr.cell 2
      have r3 := hRr.cell 3
      have f3 := hRr.frozen 3
      have o3 := hOr.cell 3
      have r4 := hRr.cell 4
      have f4 := hRr.frozen 4
      have o4 := hOr.cell 4
      have r5 := hRr.cell 5
      have f5 := hRr.frozen 5
      have o5 := hOr.cell 5
      have r6 := hRr.cell 6
      have f6 := hRr.frozen 6
      have o6 := hOr.cell 6
      have r7 := hRr.cell 7
      have f7 := hRr.frozen 7
      have o7 := hOr.cell 7
      have r8 := hRr.cell 8
      have f8 := hRr.frozen 8
      have o8 := hOr.cell 8
      have r9 := hRr.cell 9
      have f9 := hRr.frozen 9
      have o9 := hOr.cell 9
      have r10 := hRr.cell 10
      have f10 := hRr.frozen 10
      have o10 := hOr.cell 10
      have r11 := hRr.cell 11
      have f11 := hRr.frozen 11
      have o11 := hOr.cell 11
      have rl := hRr.lt
      have hR2 := ((((((((((((hRr.set 0 (.int .i64 ((rowF p 3 0).x))).set 1 (.int .i64 ((rowF p 3 0).y))).set 2 (.int .i64 ((rowF p 3 0).z))).set 3 (.int .i64 ((rowF p 3 1).x))).set 4 (.int .i64 ((rowF p 3 1).y))).set 5 (.int .i64 ((rowF p 3 1).z))).set 6 (.int .i64 ((rowF p 3 2).x))).set 7 (.int .i64 ((rowF p 3 2).y))).set 8 (.int .i64 ((rowF p 3 2).z))).set 9 (.int .i64 ((rowF p 3 3).x))).set 10 (.int .i64 ((rowF p 3 3).y))).set 11 (.int .i64 ((rowF p 3 3).z)))
      have hB2 : Below W.heap.size W ((((((((((((wr.setCell ⟨W.heap.size + 1, 0, none⟩ (.int .i64 ((rowF p 3 0).x))).setCell ⟨W.heap.size + 1, 1, none⟩ (.int .i64 ((rowF p 3 0).y))).setCell ⟨W.heap.size + 1, 2, none⟩ (.int .i64 ((rowF p 3 0).z))).setCell ⟨W.heap.size + 1, 3, none⟩ (.int .i64 ((rowF p 3 1).x))).setCell ⟨W.heap.size + 1, 4, none⟩ (.int .i64 ((rowF p 3 1).y))).setCell ⟨W.heap.size + 1, 5, none⟩ (.int .i64 ((rowF p 3 1).z))).setCell ⟨W.heap.size + 1, 6, none⟩ (.int .i64 ((rowF p 3 2).x))).setCell ⟨W.heap.size + 1, 7, none⟩ (.int .i64 ((rowF p 3 2).y))).setCell ⟨W.heap.size + 1, 8, none⟩ (.int .i64 ((rowF p 3 2).z))).setCell ⟨W.heap.size + 1, 9, none⟩ (.int .i64 ((rowF p 3 3).x))).setCell ⟨W.heap.size + 1, 10, none⟩ (.int .i64 ((rowF p 3 3).y))).setCell ⟨W.heap.size + 1, 11, none⟩ (.int .i64 ((rowF p 3 3).z))) := (bel_set (bel_set (bel_set (bel_set (bel_set (bel_set (bel_set (bel_set (bel_set (bel_set (bel_set (bel_set hBr (p := ⟨W.heap.size + 1, 0, none⟩) (by simp) (.int .i64 ((rowF p 3 0).x))) (p := ⟨W.heap.size + 1, 1, none⟩) (by simp) (.int .i64 ((rowF p 3 0).y))) (p := ⟨W.heap.size + 1, 2, none⟩) (by simp) (.int .i64 ((rowF p 3 0).z))) (p := ⟨W.heap.size + 1, 3, none⟩) (by simp) (.int .i64 ((rowF p 3 1).x))) (p := ⟨W.heap.size + 1, 4, none⟩) (by simp) (.int .i64 ((rowF p 3 1).y))) (p := ⟨W.heap.size + 1, 5, none⟩) (by simp) (.int .i64 ((rowF p 3 1).z))) (p := ⟨W.heap.size + 1, 6, none⟩) (by simp) (.int .i64 ((rowF p 3 2).x))) (p := ⟨W.heap.size + 1, 7, none⟩) (by simp) (.int .i64 ((rowF p 3 2).y))) (p := ⟨W.heap.size + 1, 8, none⟩) (by simp) (.int .i64 ((rowF p 3 2).z))) (p := ⟨W.heap.size + 1, 9, none⟩) (by simp) (.int .i64 ((rowF p 3 3).x))) (p := ⟨W.heap.size + 1, 10, none⟩) (by simp) (.int .i64 ((rowF p 3 3).y))) (p := ⟨W.heap.size + 1, 11, none⟩) (by simp) (.int .i64 ((rowF p 3 3).z)))
      clear hPr hRr hBr hOr
      replace hR2 := Lib.hid hR2
      replace hB2 := Lib.hid hB2
      go_wp2
      replace hR2 := hR2.out
      replace hB2 := hB2.out
      generalize ((((((((((((wr.setCell ⟨W.heap.size + 1, 0, none⟩ (.int .i64 ((rowF p 3 0).x))).setCell ⟨W.heap.size + 1, 1, none⟩ (.int .i64 ((rowF p 3 0).y))).setCell ⟨W.heap.size + 1, 2, none⟩ (.int .i64 ((rowF p 3 0).z))).setCell ⟨W.heap.size + 1, 3, none⟩ (.int .i64 ((rowF p 3 1).x))).setCell ⟨W.heap.size + 1, 4, none⟩ (.int .i64 ((rowF p 3 1).y))).setCell ⟨W.heap.size + 1, 5, none⟩ (.int .i64 ((rowF p 3 1).z))).setCell ⟨W.heap.size + 1, 6, none⟩ (.int .i64 ((rowF p 3 2).x))).setCell ⟨W.heap.size + 1, 7, none⟩ (.int .i64 ((rowF p 3 2).y))).setCell ⟨W.heap.size + 1, 8, none⟩ (.int .i64 ((rowF p 3 2).z))).setCell ⟨W.heap.size + 1, 9, none⟩ (.int .i64 ((rowF p 3 3).x))).setCell ⟨W.heap.size + 1, 10, none⟩ (.int .i64 ((rowF p 3 3).y))).setCell ⟨W.heap.size + 1, 11, none⟩ (.int .i64 ((rowF p 3 3).z))) = WE at *
      have w0 := hR2.cell
      refine bodyPost_ret (v := .agg #[.int .i64 ((rowF p 3 0).x), .int .i64 ((rowF p 3 0).y), .int .i64 ((rowF p 3 0).z), .int .i64 ((rowF p 3 1).x), .int .i64 ((rowF p 3 1).y), .int .i64 ((rowF p 3 1).z), .int .i64 ((rowF p 3 2).x), .int .i64 ((rowF p 3 2).y), .int .i64 ((rowF p 3 2).z), .int .i64 ((rowF p 3 3).x), .int .i64 ((rowF p 3 3).y), .int .i64 ((rowF p 3 3).z)]) (by simp [results, Try.results22, go_sem, w0]) rfl ⟨rfl, hB2⟩
set_option maxHeartbeats 8000000 in
theorem rRowN (p : Nat → P3) (s : Int) (h0 : s ≠ 0) (h1 : s ≠ 1) (h2 : s ≠ 2) (h3 : s ≠ 3) : Gives Try.prog 22 #[.agg (ptsC 16 p), .int .i64 s] (.agg (ptsC 4 (rowF p s))) := by
  have wr0 : wrap64 0 = 0 := wrap_id (by omega) (by omega)
  have wr3 : wrap64 3 = 3 := wrap_id (by omega) (by omega)
  have wr4 : wrap64 4 = 4 := wrap_id (by omega) (by omega)
  have wr7 : wrap64 7 = 7 := wrap_id (by omega) (by omega)
  have wr8 : wrap64 8 = 8 := wrap_id (by omega) (by omega)
  have wr11 : wrap64 11 = 11 := wrap_id (by omega) (by omega)
  have wr12 : wrap64 12 = 12 := wrap_id (by omega) (by omega)
  have wr13 : wrap64 13 = 13 := wrap_id (by omega) (by omega)
  have wr14 : wrap64 14 = 14 := wrap_id (by omega) (by omega)
  have wr15 : wrap64 15 = 15 := wrap_id (by omega) (by omega)
  have wr1 : wrap64 1 = 1 := wrap_id (by omega) (by omega)
  have wr2 : wrap64 2 = 2 := wrap_id (by omega) (by omega)
  rw [ptsC4]
  refine Gives.mk fun W => ?_
  have hP : Blk (((W.alloc (.cells (ptsC 16 p) 24)).alloc (.cells #[.int .i64 0, .int .i64 0, .int .i64 0, .int .i64 0, .int .i64 0, .int .i64 0, .int .i64 0, .int .i64 0, .int .i64 0, .int .i64 0, .int .i64 0, .int .i64 0] 26)).alloc (.cells #[.int .i64 0, .int .i64 0, .int .i64 0, .int .i64 0, .int .i64 0, .int .i64 0, .int .i64 0, .int .i64 0, .int .i64 0, .int .i64 0, .int .i64 0, .int .i64 0] 26)) W.heap.size 24 (ptsC 16 p) := ((Blk.new _ _ _ _ rfl).alloc _).alloc _
  have hR : Blk (((W.alloc (.cells (ptsC 16 p) 24)).alloc (.cells #[.int .i64 0, .int .i64 0, .int .i64 0, .int .i64 0, .int .i64 0, .int .i64 0, .int .i64 0, .int .i64 0, .int .i64 0, .int .i64 0, .int .i64 0, .int .i64 0] 26)).alloc (.cells #[.int .i64 0, .int .i64 0, .int .i64 0, .int .i64 0, .int .i64 0, .int .i64 0, .int .i64 0, .int .i64 0, .int .i64 0, .int .i64 0, .int .i64 0, .int .i64 0] 26)) (W.heap.size + 1) 26 #[.int .i64 0, .int .i64 0, .int .i64 0, .int .i64 0, .int .i64 0, .int .i64 0, .int .i64 0, .int .i64 0, .int .i64 0, .int .i64 0, .int .i64 0, .int .i64 0] := (Blk.new _ _ _ _ (by simp)).alloc _
  have hO : Blk (((W.alloc (.cells (ptsC 16 p) 24)).alloc (.cells #[.int .i64 0, .int .i64 0, .int .i64 0, .int .i64 0, .int .i64 0, .int .i64 0, .int .i64 0, .int .i64 0, .int .i64 0, .int .i64 0, .int .i64 0, .int .i64 0] 26)).alloc (.cells #[.int .i64 0, .int .i64 0, .int .i64 0, .int .i64 0, .int .i64 0, .int .i64 0, .int .i64 0, .int .i64 0, .int .i64 0, .int .i64 0, .int .i64 0, .int .i64 0] 26)) (W.heap.size + 2) 26 (ptsC 4 (rowU p s 0)) := Blk.new _ _ _ _ (by simp)
  have hB : Below W.heap.size W (((W.alloc (.cells (ptsC 16 p) 24)).alloc (.cells #[.int .i64 0, .int .i64 0, .int .i64 0, .int .i64 0, .int .i64 0, .int .i64 0, .int .i64 0, .int .i64 0, .int .i64 0, .int .i64 0, .int .i64 0, .int .i64 0] 26)).alloc (.cells #[.int .i64 0, .int .i64 0, .int .i64 0, .int .i64 0, .int .i64 0, .int .i64 0, .int .i64 0, .int .i64 0, .int .i64 0, .int .i64 0, .int .i64 0, .int .i64 0] 26)) := bel_alloc (bel_alloc (bel_alloc (Below.refl _ _) _) _) _
  go_enter Try.func22, Try.ntmps22
  go_upto_region 2 with (fail)
  generalize (((W.alloc (.cells (ptsC 16 p) 24)).alloc (.cells #[.int .i64 0, .int .i64 0, .int .i64 0, .int .i64 0, .int .i64 0, .int .i64 0, .int .i64 0, .int .i64 0, .int .i64 0, .int .i64 0, .int .i64 0, .int .i64 0] 26)).alloc (.cells #[.int .i64 0, .int .i64 0, .int .i64 0, .int .i64 0, .int .i64 0, .int .i64 0, .int .i64 0, .int .i64 0, .int .i64 0, .int .i64 0, .int .i64 0, .int .i64 0] 26)) = W1 at *
  go_wp2
  go_loopw [6] (fun iv wr => ∃ k : Nat, rowI iv k ∧ Below W.heap.size W wr ∧ Blk wr W.heap.size 24 (ptsC 16 p) ∧ Blk wr (W.heap.size + 1) 26 #[.int .i64 0, .int .i64 0, .int .i64 0, .int .i64 0, .int .i64 0, .int .i64 0, .int .i64 0, .int .i64 0, .int .i64 0, .int .i64 0, .int .i64 0, .int .i64 0] ∧ Blk wr (W.heap.size + 2) 26 (ptsC 4 (rowU p s k))) (fun iv _ => 4 - (intOf iv).toNat)
  case atStart => exact ⟨0, .inl ⟨rfl, rfl⟩, hB, hP, hR, hO⟩
  case round =>
    obtain ⟨k, hi, hBr, hPr, hRr, hOr⟩ := hrel
    clear hB hP hR hO
    have pl := hPr.lt
    have ol := hOr.lt
    rcases hi with ⟨rfl, rfl⟩ | ⟨rfl, rfl⟩ | ⟨rfl, rfl⟩ | ⟨rfl, rfl⟩ | ⟨rfl, rfl⟩
    · rw [rowU_none p h0 h1 h2 h3] at hOr
      go_wp2
      go_roundw
      case rel => exact ⟨1, .inr (.inl ⟨rfl, rfl⟩), hBr, hPr, hRr, hOr⟩
      case measure => simp [intOf]
    · rw [rowU_none p h0 h1 h2 h3] at hOr
      go_wp2
      go_roundw
      case rel => exact ⟨2, .inr (.inr (.inl ⟨rfl, rfl⟩)), hBr, hPr, hRr, hOr⟩
      case measure => simp [intOf]
    · rw [rowU_none p h0 h1 h2 h3] at hOr
      go_wp2
      go_roundw
      case rel => exact ⟨3, .inr (.inr (.inr (.inl ⟨rfl, rfl⟩))), hBr, hPr, hRr, hOr⟩
      case measure => simp [intOf]
    · rw [rowU_none p h0 h1 h2 h3] at hOr
      go_wp2
      go_roundw
      case rel => exact ⟨4, .inr (.inr (.inr (.inr ⟨rfl, rfl⟩))), hBr, hPr, hRr, hOr⟩
      case measure => simp [intOf]
    · rw [rowU_end, ptsC4] at hOr
      replace hPr := Lib.hid hPr
      replace hRr := Lib.hid hRr
      replace hBr := Lib.hid hBr
      replace hOr := Lib.hid hOr
      go_upto_region 14 with (fail)
      replace hRr := hRr.out
      replace hBr := hBr.out
      replace hOr := hOr.out
      have r0 := hRr.cell 0
      have f0 := hRr.frozen 0
      have o0 := hOr.cell 0
      have r1 := hRr.cell 1
      have f1 := hRr.frozen 1
      have o1 := hOr.cell 1
      have r2 := hRr.cell 2
      have f2 := hRr.frozen 2
      have o2 := hOr.cell 2
      have r3 := hRr.cell 3
      have f3 := hRr.frozen 3
      have o3 := hOr.cell 3
      have r4 := hRr.cell 4
      have f4 := hRr.frozen 4
      have o4 := hOr.cell 4
      have r5 := hRr.cell 5
      have f5 := hRr.frozen 5
      have o5 := hOr.cell 5
      have r6 := hRr.cell 6
      have f6 := hRr.frozen 6
      have o6 := hOr.cell 6
      have r7 := hRr.cell 7
      have f7 := hRr.frozen 7
      have o7 := hOr.cell 7
      have r8 := hRr.cell 8
      have f8 := hRr.frozen 8
      have o8 := hOr.cell 8
      have r9 := hRr.cell 9
      have f9 := hRr.frozen 9
      have o9 := hOr.cell 9
      have r10 := hRr.cell 10
      have f10 := hRr.frozen 10
      have o10 := hOr.cell 10
      have r11 := hRr.cell 11
      have f11 := hRr.frozen 11
      have o11 := hOr.cell 11
      have rl := hRr.lt
      have hR2 := ((((((((((((hRr.set 0 (.int .i64 ((rowF p s 0).x))).set 1 (.int .i64 ((rowF p s 0).y))).set 2 (.int .i64 ((rowF p s 0).z))).set 3 (.int .i64 ((rowF p s 1).x))).set 4 (.int .i64 ((rowF p s 1).y))).set 5 (.int .i64 ((rowF p s 1).z))).set 6 (.int .i64 ((rowF p s 2).x))).set 7 (.int .i64 ((rowF p s 2).y))).set 8 (.int .i64 ((rowF p s 2).z))).set 9 (.int .i64 ((rowF p s 3).x))).set 10 (.int .i64 ((rowF p s 3).y))).set 11 (.int .i64 ((rowF p s 3).z)))
      have hB2 : Below W.heap.size W ((((((((((((wr.setCell ⟨W.heap.size + 1, 0, none⟩ (.int .i64 ((rowF p s 0).x))).setCell ⟨W.heap.size + 1, 1, none⟩ (.int .i64 ((rowF p s 0).y))).setCell ⟨W.heap.size + 1, 2, none⟩ (.int .i64 ((rowF p s 0).z))).setCell ⟨W.heap.size + 1, 3, none⟩ (.int .i64 ((rowF p s 1).x))).setCell ⟨W.heap.size + 1, 4, none⟩ (.int .i64 ((rowF p s 1).y))).setCell ⟨W.heap.size + 1, 5, none⟩ (.int .i64 ((rowF p s 1).z))).setCell ⟨W.heap.size + 1, 6, none⟩ (.int .i64 ((rowF p s 2).x))).setCell ⟨W.heap.size + 1, 7, none⟩ (.int .i64 ((rowF p s 2).y))).setCell ⟨W.heap.size + 1, 8, none⟩ (.int .i64 ((rowF p s 2).z))).setCell ⟨W.heap.size + 1, 9, none⟩ (.int .i64 ((rowF p s 3).x))).setCell ⟨W.heap.size + 1, 10, none⟩ (.int .i64 ((rowF p s 3).y))).setCell ⟨W.heap.size + 1, 11, none⟩ (.int .i64 ((rowF p s 3).z))) := (bel_set (bel_set (bel_set (bel_set (bel_set (bel_set (bel_set (bel_set (bel_set (bel_set (bel_set (bel_set hBr (p := ⟨W.heap.size + 1, 0, none⟩) (by simp) (.int .i64 ((rowF p s 0).x))) (p := ⟨W.heap.size + 1, 1, none⟩) (by simp) (.int .i64 ((rowF p s 0).y))) (p := ⟨W.heap.size + 1, 2, none⟩) (by simp) (.int .i64 ((rowF p s 0).z))) (p := ⟨W.heap.size + 1, 3, none⟩) (by simp) (.int .i64 ((rowF p s 1).x))) (p := ⟨W.heap.size + 1, 4, none⟩) (by simp) (.int .i64 ((rowF p s 1).y))) (p := ⟨W.heap.size + 1, 5, none⟩) (by simp) (.int .i64 ((rowF p s 1).z))) (p := ⟨W.heap.size + 1, 6, none⟩) (by simp) (.int .i64 ((rowF p s 2).x))) (p := ⟨W.heap.size + 1, 7, none⟩) (by simp) (.int .i64 ((rowF p s 2).y))) (p := ⟨W.heap.size + 1, 8, none⟩) (by simp) (.int .i64 ((rowF p s 2).z))) (p := ⟨W.heap.size + 1, 9, none⟩) (by simp) (.int .i64 ((rowF p s 3).x))) (p := ⟨W.heap.size + 1, 10, none⟩) (by simp) (.int .i64 ((rowF p s 3).y))) (p := ⟨W.heap.size + 1, 11, none⟩) (by simp) (.int .i64 ((rowF p s 3).z)))
      clear hPr hRr hBr hOr
      replace hR2 := Lib.hid hR2
      replace hB2 := Lib.hid hB2
      go_wp2
      replace hR2 := hR2.out
      replace hB2 := hB2.out
      generalize ((((((((((((wr.setCell ⟨W.heap.size + 1, 0, none⟩ (.int .i64 ((rowF p s 0).x))).setCell ⟨W.heap.size + 1, 1, none⟩ (.int .i64 ((rowF p s 0).y))).setCell ⟨W.heap.size + 1, 2, none⟩ (.int .i64 ((rowF p s 0).z))).setCell ⟨W.heap.size + 1, 3, none⟩ (.int .i64 ((rowF p s 1).x))).setCell ⟨W.heap.size + 1, 4, none⟩ (.int .i64 ((rowF p s 1).y))).setCell ⟨W.heap.size + 1, 5, none⟩ (.int .i64 ((rowF p s 1).z))).setCell ⟨W.heap.size + 1, 6, none⟩ (.int .i64 ((rowF p s 2).x))).setCell ⟨W.heap.size + 1, 7, none⟩ (.int .i64 ((rowF p s 2).y))).setCell ⟨W.heap.size + 1, 8, none⟩ (.int .i64 ((rowF p s 2).z))).setCell ⟨W.heap.size + 1, 9, none⟩ (.int .i64 ((rowF p s 3).x))).setCell ⟨W.heap.size + 1, 10, none⟩ (.int .i64 ((rowF p s 3).y))).setCell ⟨W.heap.size + 1, 11, none⟩ (.int .i64 ((rowF p s 3).z))) = WE at *
      have w0 := hR2.cell
      refine bodyPost_ret (v := .agg #[.int .i64 ((rowF p s 0).x), .int .i64 ((rowF p s 0).y), .int .i64 ((rowF p s 0).z), .int .i64 ((rowF p s 1).x), .int .i64 ((rowF p s 1).y), .int .i64 ((rowF p s 1).z), .int .i64 ((rowF p s 2).x), .int .i64 ((rowF p s 2).y), .int .i64 ((rowF p s 2).z), .int .i64 ((rowF p s 3).x), .int .i64 ((rowF p s 3).y), .int .i64 ((rowF p s 3).z)]) (by simp [results, Try.results22, go_sem, w0]) rfl ⟨rfl, hB2⟩
theorem rRow_any (p : Nat → P3) (s : Int) : Gives Try.prog 22 #[.agg (ptsC 16 p), .int .i64 s] (.agg (ptsC 4 (rowF p s))) := by
  by_cases h0 : s = 0
  · subst h0; exact rRow0 p
  by_cases h1 : s = 1
  · subst h1; exact rRow1 p
  by_cases h2 : s = 2
  · subst h2; exact rRow2 p
  by_cases h3 : s = 3
  · subst h3; exact rRow3 p
  exact rRowN p s h0 h1 h2 h3
end Go.Proofs.Ytgmifpicilfcdaa
namespace Go.Proofs.Ytgmifpicilfcdaa
open Go.ChangeShapes Go.WideShapes Go.ChangeAt Go.RowKit
set_option linter.unusedVariables false
set_option linter.unusedSimpArgs false
/-- The single cells of a type: where each lies, and its type. -/
def leavesAt (P : Program) : Nat → Nat → TypeId → List (Nat × TypeId)
  | 0, _, _ => []
  | f + 1, off, t => match P.underlying t with
    | some (.struct fs) => fs.toList.flatMap fun fd => leavesAt P f (off + fd.offset) fd.type
    | some (.array n e) => (List.range n).flatMap fun i => leavesAt P f (off + i * P.cellsOf e) e
    | _ => [(off, t)]
section
variable {H : Type} {enc : TypeId × Value → H} {P : Program} {w : World} {base : Nat} {spare : Nat → Bool} {held : Bool}
theorem trod_single {fuel : Nat} {t : TypeId} {cs : List Value} {x : DataW H × List MemPlace} (h : DataW.trod enc P w base spare held fuel t cs = some x) (hs : ∀ fs, P.underlying t ≠ some (.struct fs)) (ha : ∀ n e, P.underlying t ≠ some (.array n e)) : ∃ c, cs = [c] := by
  cases fuel with
  | zero => simp [DataW.trod] at h
  | succ n =>
    unfold DataW.trod at h
    split at h <;> first | exact ⟨_, rfl⟩ | (rename_i hu; first | exact absurd hu (hs _) | exact absurd hu (ha _ _)) | cases h
theorem leaf_trod : ∀ (f : Nat) (t : TypeId) (off0 o : Nat) (lt : TypeId), (o, lt) ∈ leavesAt P f off0 t → ∀ (n : Nat) (cs : List Value) (x : DataW H × List MemPlace), DataW.trod enc P w base spare held n t cs = some x →
    off0 ≤ o ∧ ∃ c m y, cs[o - off0]? = some c ∧ DataW.trod enc P w base spare held m lt [c] = some y
  | 0, _, _, _, _, h, _, _, _, _ => by simp [leavesAt] at h
  | f + 1, t, off0, o, lt, h, n, cs, x, hx => by
    unfold leavesAt at h
    split at h
    · rename_i fs hu
      obtain ⟨fd, hfd, hm⟩ := List.mem_flatMap.1 h
      obtain ⟨ys, n', _, _, hlen, hyl, hf⟩ := DataW.trod_struct hu hx
      obtain ⟨j, hj⟩ := List.getElem?_of_mem hfd
      have hj' : fs[j]? = some fd := by simpa using hj
      have h1 := hf j fd hj'
      have hjl : j < ys.length := by rw [hyl]; exact (Array.getElem?_eq_some_iff.1 hj').1
      rw [List.getElem?_eq_getElem hjl] at h1
      obtain ⟨hle, c, m, y, hc, hy⟩ := leaf_trod f fd.type (off0 + fd.offset) o lt hm _ _ _ h1
      refine ⟨by omega, c, m, y, ?_, hy⟩
      rw [List.getElem?_take] at hc
      split at hc
      · rw [List.getElem?_drop] at hc
        rw [← hc]; congr 1; omega
      · cases hc
    · rename_i k e hu
      obtain ⟨i, hi, hm⟩ := List.mem_flatMap.1 h
      rw [List.mem_range] at hi
      obtain ⟨ys, n', _, _, hlen, hyl, hf⟩ := DataW.trod_array hu hx
      have h1 := hf i hi
      have hjl : i < ys.length := by rw [hyl]; exact hi
      rw [List.getElem?_eq_getElem hjl] at h1
      obtain ⟨hle, c, m, y, hc, hy⟩ := leaf_trod f e (off0 + i * P.cellsOf e) o lt hm _ _ _ h1
      refine ⟨by omega, c, m, y, ?_, hy⟩
      rw [List.getElem?_take] at hc
      split at hc
      · rw [List.getElem?_drop] at hc
        rw [← hc]; congr 1; omega
      · cases hc
    · rename_i hs ha
      simp only [List.mem_singleton, Prod.mk.injEq] at h
      obtain ⟨rfl, rfl⟩ := h
      obtain ⟨c, rfl⟩ := trod_single hx (fun fs hu => hs fs hu) (fun k e hu => ha k e hu)
      exact ⟨Nat.le_refl _, c, n, x, by simp, hx⟩
/-- All cells whole numbers of 64 bits. -/
theorem ints_trod {t ti : TypeId} {f k n : Nat} {cs : List Value} {x : DataW H × List MemPlace} (hl : leavesAt P f 0 t = (List.range k).map fun i => (i, ti)) (hti : P.underlying ti = some (.int .i64)) (hk : cs.length = k)
    (h : DataW.trod enc P w base spare held n t cs = some x) : ∃ g : Nat → Int, cs = (List.range k).map (fun i => .int .i64 (g i)) ∧ ∀ i, i < k → -9223372036854775808 ≤ g i ∧ g i ≤ 9223372036854775807 := by
  have each : ∀ i, i < k → ∃ a : Int, cs[i]? = some (.int .i64 a) ∧ (-9223372036854775808 ≤ a ∧ a ≤ 9223372036854775807) := fun i hi => by
    obtain ⟨_, c, m, y, hc, hy⟩ := leaf_trod f t 0 i ti (by rw [hl]; exact List.mem_map.2 ⟨i, List.mem_range.2 hi, rfl⟩) n cs x h
    obtain ⟨a, e0, _, wa⟩ := DataW.trod_int hti hy
    simp at e0
    subst e0
    exact ⟨a, by simpa using hc, bounds_i64 wa⟩
  refine ⟨fun i => if h : i < k then Classical.choose (each i h) else 0, ?_, fun i hi => by simp only [hi, dif_pos]; exact (Classical.choose_spec (each i hi)).2⟩
  apply List.ext_getElem?
  intro i
  by_cases hi : i < k
  · rw [(Classical.choose_spec (each i hi)).1]
    simp [hi]
  · rw [List.getElem?_eq_none (by omega), List.getElem?_eq_none (by simp; omega)]
theorem open_ints_agg {r : Reach} {b0 : Nat} {t ti : TypeId} {fs : Array Field} {f k : Nat} {v : Value} {d : DataW H} {p : List MemPlace} (hs : P.underlying t = some (.struct fs)) (hC : P.cellsOf t = k) (hl : leavesAt P f 0 t = (List.range k).map fun i => (i, ti)) (hti : P.underlying ti = some (.int .i64))
    (hv : Value.okWide P w r b0 t v) (h : DataW.Trod enc P w base spare held t v d p) : ∃ g : Nat → Int, v = .agg ((List.range k).map fun i => .int .i64 (g i)).toArray ∧ ∀ i, i < k → -9223372036854775808 ≤ g i ∧ g i ≤ 9223372036854775807 := by
  obtain ⟨cs, rfl, hsz⟩ := okWide_struct hs hv
  obtain ⟨n, hn⟩ := h
  obtain ⟨g, hg, hb⟩ := ints_trod hl hti (by simpa [Value.cells] using hsz.trans hC) hn
  refine ⟨g, ?_, hb⟩
  simp only [Value.cells] at hg
  rw [← hg]
end
end Go.Proofs.Ytgmifpicilfcdaa
namespace Go.Proofs.Ytgmifpicilfcdaa
open Go.ChangeShapes Go.WideShapes Go.ChangeAt Go.RowKit
set_option linter.unusedVariables false
set_option linter.unusedSimpArgs false
section
variable {H : Type} {enc : TypeId × Value → H} {w : World} {base b0 : Nat} {spare : Nat → Bool} {held : Bool} {v : Value} {d : DataW H} {p : List MemPlace} {r : Reach}
theorem cellsV : Try.prog.cellsOf 23 = 3 := by kernel_rfl
theorem cellsBox : Try.prog.cellsOf 43 = 6 := by kernel_rfl
theorem leavesV : leavesAt Try.prog 10 0 23 = (List.range 3).map fun i => (i, 3) := by kernel_rfl
theorem leavesBox : leavesAt Try.prog 10 0 43 = (List.range 6).map fun i => (i, 3) := by kernel_rfl
def In64 (a : Int) : Prop := -9223372036854775808 ≤ a ∧ a ≤ 9223372036854775807
theorem open_int64 (hv : Value.okWide Try.prog w r b0 3 v) (h : DataW.Trod enc Try.prog w base spare held 3 v d p) : ∃ a : Int, v = .int .i64 a ∧ In64 a := by
  obtain ⟨a, rfl, _, _, wa⟩ := open_int Try.underlying3 hv h
  exact ⟨a, rfl, bounds_i64 wa⟩
theorem open_V (hv : Value.okWide Try.prog w r b0 23 v) (h : DataW.Trod enc Try.prog w base spare held 23 v d p) :
    ∃ x y z : Int, v = .agg #[.int .i64 x, .int .i64 y, .int .i64 z] ∧ In64 x ∧ In64 y ∧ In64 z := by
  obtain ⟨g, rfl, hb⟩ := open_ints_agg Try.underlying23 cellsV leavesV Try.underlying3 hv h
  exact ⟨g 0, g 1, g 2, rfl, hb 0 (by omega), hb 1 (by omega), hb 2 (by omega)⟩
theorem open_Box (hv : Value.okWide Try.prog w r b0 43 v) (h : DataW.Trod enc Try.prog w base spare held 43 v d p) :
    ∃ lx ly lz hx hy hz : Int, v = .agg #[.int .i64 lx, .int .i64 ly, .int .i64 lz, .int .i64 hx, .int .i64 hy, .int .i64 hz] ∧ (In64 lx ∧ In64 ly ∧ In64 lz) ∧ In64 hx ∧ In64 hy ∧ In64 hz := by
  obtain ⟨g, rfl, hb⟩ := open_ints_agg Try.underlying43 cellsBox leavesBox Try.underlying3 hv h
  exact ⟨g 0, g 1, g 2, g 3, g 4, g 5, rfl, ⟨hb 0 (by omega), hb 1 (by omega), hb 2 (by omega)⟩, hb 3 (by omega), hb 4 (by omega), hb 5 (by omega)⟩
theorem lt_of_cell {W : World} {b o : Nat} {s : Option Nat} {u : Value} (h : W.cell? ⟨b, o, s⟩ = some u) : b < W.heap.size ∧ s = none := by
  unfold World.cell? at h
  rcases Nat.lt_or_ge b W.heap.size with hb | hb
  · refine ⟨hb, ?_⟩
    cases s with
    | none => rfl
    | some k =>
      simp only [Option.isSome_some, if_true] at h
      split at h <;> cases h
  · simp only [Array.getElem?_eq_none hb] at h; cases h
end
end Go.Proofs.Ytgmifpicilfcdaa
namespace Go.Proofs.Ytgmifpicilfcdaa
open Go.ChangeShapes Go.WideShapes Go.ChangeAt Go.RowKit
set_option linter.unusedVariables false
set_option linter.unusedSimpArgs false
variable {H : Type} {enc : TypeId × Value → H} {w : World} {base b0 : Nat} {spare : Nat → Bool} {held : Bool} {v : Value} {d : DataW H} {p : List MemPlace} {r : Reach}
def In3 (a : P3) : Prop := In64 a.x ∧ In64 a.y ∧ In64 a.z
theorem open_V3 (hv : Value.okWide Try.prog w r b0 23 v) (h : DataW.Trod enc Try.prog w base spare held 23 v d p) :
    ∃ a : P3, v = .agg #[.int .i64 a.x, .int .i64 a.y, .int .i64 a.z] ∧ In3 a := by
  obtain ⟨x, y, z, rfl, hx, hy, hz⟩ := open_V hv h
  exact ⟨⟨x, y, z⟩, rfl, hx, hy, hz⟩
end Go.Proofs.Ytgmifpicilfcdaa
namespace Go.Proofs.Ytgmifpicilfcdaa
open Go.ChangeShapes Go.WideShapes Go.ChangeAt Go.RowKit
set_option linter.unusedVariables false
set_option linter.unusedSimpArgs false
section
variable {H : Type} {enc : TypeId × Value → H} {w : World} {base b0 : Nat} {spare : Nat → Bool} {held : Bool} {v : Value} {d : DataW H} {p : List MemPlace} {r : Reach}
theorem okWide_array {P : Program} {t e : TypeId} {n : Nat} (ht : P.underlying t = some (.array n e)) (h : Value.okWide P w r b0 t v) : ∃ cs, v = .agg cs ∧ cs.size = P.cellsOf t := by
  unfold Value.okWide at h
  rw [ht] at h
  obtain ⟨cs, h1, h2, _⟩ := h
  exact ⟨cs, h1, h2⟩
theorem open_ints_arr {P : Program} {t ti e : TypeId} {m f k : Nat} (hs : P.underlying t = some (.array m e)) (hC : P.cellsOf t = k) (hl : leavesAt P f 0 t = (List.range k).map fun i => (i, ti)) (hti : P.underlying ti = some (.int .i64))
    (hv : Value.okWide P w r b0 t v) (h : DataW.Trod enc P w base spare held t v d p) : ∃ g : Nat → Int, v = .agg ((List.range k).map fun i => .int .i64 (g i)).toArray ∧ ∀ i, i < k → -9223372036854775808 ≤ g i ∧ g i ≤ 9223372036854775807 := by
  obtain ⟨cs, rfl, hsz⟩ := okWide_array hs hv
  obtain ⟨n, hn⟩ := h
  obtain ⟨g, hg, hb⟩ := ints_trod hl hti (by simpa [Value.cells] using hsz.trans hC) hn
  refine ⟨g, ?_, hb⟩
  simp only [Value.cells] at hg
  rw [← hg]
theorem ptsC_of (n : Nat) (g : Nat → Int) : ((List.range (n * 3)).map fun i => Value.int .i64 (g i)).toArray = ptsC n fun k => ⟨g (k * 3), g (k * 3 + 1), g (k * 3 + 2)⟩ := by
  unfold ptsC rowCs
  congr 1
  apply List.map_congr_left
  intro j _
  unfold qC
  rcases (by omega : j % 3 = 0 ∨ j % 3 = 1 ∨ j % 3 = 2) with e | e | e
  · rw [if_pos e]; simp only []; rw [show j / 3 * 3 = j by omega]
  · rw [if_neg (by omega), if_pos e]; simp only []; rw [show j / 3 * 3 + 1 = j by omega]
  · rw [if_neg (by omega), if_neg (by omega)]; simp only []; rw [show j / 3 * 3 + 2 = j by omega]
theorem cellsA4 : Try.prog.cellsOf 26 = 12 := by kernel_rfl
theorem leavesA4 : leavesAt Try.prog 10 0 26 = (List.range 12).map fun i => (i, 3) := by kernel_rfl
theorem open_A4 (hv : Value.okWide Try.prog w r b0 26 v) (h : DataW.Trod enc Try.prog w base spare held 26 v d p) :
    ∃ q : Nat → P3, v = .agg (ptsC 4 q) ∧ ∀ k, k < 4 → In3 (q k) := by
  obtain ⟨g, rfl, hb⟩ := open_ints_arr Try.underlying26 cellsA4 leavesA4 Try.underlying3 hv h
  exact ⟨fun k => ⟨g (k * 3), g (k * 3 + 1), g (k * 3 + 2)⟩, by rw [← ptsC_of 4 g], fun k hk => ⟨hb _ (by omega), hb _ (by omega), hb _ (by omega)⟩⟩
theorem cellsA16 : Try.prog.cellsOf 24 = 48 := by kernel_rfl
theorem leavesA16 : leavesAt Try.prog 10 0 24 = (List.range 48).map fun i => (i, 3) := by kernel_rfl
theorem open_A16 (hv : Value.okWide Try.prog w r b0 24 v) (h : DataW.Trod enc Try.prog w base spare held 24 v d p) :
    ∃ q : Nat → P3, v = .agg (ptsC 16 q) ∧ ∀ k, k < 16 → In3 (q k) := by
  obtain ⟨g, rfl, hb⟩ := open_ints_arr Try.underlying24 cellsA16 leavesA16 Try.underlying3 hv h
  exact ⟨fun k => ⟨g (k * 3), g (k * 3 + 1), g (k * 3 + 2)⟩, by rw [← ptsC_of 16 g], fun k hk => ⟨hb _ (by omega), hb _ (by omega), hb _ (by omega)⟩⟩
end
end Go.Proofs.Ytgmifpicilfcdaa
