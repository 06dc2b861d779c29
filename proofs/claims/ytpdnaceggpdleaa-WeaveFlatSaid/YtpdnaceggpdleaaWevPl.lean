/- The law on places: a spot's place. -/
import Derived.Test.YtpdnaceggpdleaaWevFl
namespace Go.Proofs.Ytpdnaceggpdleaa
open Go.RowKit
set_option linter.unusedVariables false
set_option linter.unusedSimpArgs false
set_option linter.unnecessarySimpa false
set_option maxRecDepth 100000
theorem alloc_2i (a : Act) (o : Oper) (ho : o.op = .alloc 34) (w : World) : (execOp a.eval o).run Try.prog w = .ok (.value (.pointer (some ⟨w.heap.size, 0, none⟩))) (w.alloc (.cells #[.int .i64 0, .int .i64 0] 34)) := by
  unfold execOp
  rw [ho]
  kernel_rfl
theorem most_eq {q : Nat → Int} (hq : okQ q) : max (max (max (q 0) (q 1)) (q 2)) (q 3) = (mxR (rQ q) 4 : Int) := by
  have := mxI_nat 4 (okQ_eq hq)
  have h0 := hq 0 (by omega)
  rw [← this]
  show _ = max (max (max (max 0 (q 0)) (q 1)) (q 2)) (q 3)
  omega
set_option maxHeartbeats 2000000 in
theorem place_inn (q : Nat → Int) (hq : okQ q) (a b : Nat) (ha : a ≤ 16) (hb : b ≤ 16) : Gives Try.prog 12 #[.agg (q4C q), sV (innS a b), .int .i64 720720] (.agg #[.int .i64 ((a : Int) * 720720 / (mxR (rQ q) 4 : Int)), .int .i64 ((b : Int) * 720720 / (mxR (rQ q) 4 : Int))]) := by
  have hmx := run_max4W #[3, 3, 3, 3] 3 (q 0) (q 1) (q 2) (q 3)
  rw [most_eq hq] at hmx
  obtain ⟨m1, m2⟩ := most_bd (okQ_r hq)
  generalize mxR (rQ q) 4 = R at *
  have g1 : (0 : Int) < (R : Int) := by omega
  have g2 : (R : Int) ≤ 16 := by omega
  have d1 : 0 ≤ (a : Int) * 720720 / (R : Int) ∧ (a : Int) * 720720 / (R : Int) ≤ 20000000 := by
    refine ⟨Int.ediv_nonneg (by omega) (by omega), ?_⟩
    exact Int.le_trans (Int.ediv_le_self _ (by omega)) (by omega)
  have d2 : 0 ≤ (b : Int) * 720720 / (R : Int) ∧ (b : Int) * 720720 / (R : Int) ≤ 20000000 := by
    refine ⟨Int.ediv_nonneg (by omega) (by omega), ?_⟩
    exact Int.le_trans (Int.ediv_le_self _ (by omega)) (by omega)
  obtain ⟨d1a, d1b⟩ := d1
  obtain ⟨d2a, d2b⟩ := d2
  show Gives _ _ #[_, .agg #[.int .i64 3, .int .i64 (a : Int), .int .i64 (b : Int)], _] _
  refine Gives.mk fun w => ?_
  go_enter Try.func12, Try.ntmps12
  go_upto_region 3 with (fail)
  refine wp_region_tail 13 ?_ (by kernel_rfl) (by kernel_rfl) (by kernel_rfl) (fun x => ?_) (fun x => ?_)
  rotate_left
  · simp only [List.take_succ_cons, List.take_zero]
    repeat (go_big_quiet_step (((fail))))
    refine wpQuiet_nil ?_
    exact rfl
  simp only [List.drop_succ_cons, List.drop_zero]
  try simp only [Act.put, List.setIfInBounds_toArray, List.set_cons_succ, List.set_cons_zero]
  go_wp2
  refine bodyPost_ret (v := .agg #[.int .i64 ((a : Int) * 720720 / (R : Int)), .int .i64 ((b : Int) * 720720 / (R : Int))]) (by simp [results, Try.results12, go_sem]) rfl ⟨rfl, (by repeat (first | exact Below.refl _ _ | refine bel_then ?_ _ | refine bel_grow ?_ _ | refine bel_alloc ?_ _ | refine bel_drew ?_ | refine bel_set ?_ (by simp) _ | refine bel_setRow ?_ (by first | omega | (simp; done) | (refine Nat.le_trans ?_ (top_le _ _); simp; done) | (refine Nat.le_succ_of_le (Nat.le_trans ?_ (top_le _ _)); simp; done) | (refine Nat.le_trans ?_ (top_le _ _); simp only [World.size_alloc]; refine Nat.le_succ_of_le (Nat.le_trans ?_ (top_le _ _)); simp; done)) _))⟩
set_option maxHeartbeats 2000000 in
theorem place_cor0 (q : Nat → Int) (hq : okQ q) : Gives Try.prog 12 #[.agg (q4C q), sV (corS 0), .int .i64 720720] (.agg #[.int .i64 (0), .int .i64 (0)]) := by
  have hmx := run_max4W #[3, 3, 3, 3] 3 (q 0) (q 1) (q 2) (q 3)
  rw [most_eq hq] at hmx
  obtain ⟨m1, m2⟩ := most_bd (okQ_r hq)
  generalize mxR (rQ q) 4 = R at *
  have g1 : (0 : Int) < (R : Int) := by omega
  have g2 : (R : Int) ≤ 16 := by omega
  show Gives _ _ #[_, .agg #[.int .i64 1, .int .i64 0, .int .i64 0], _] _
  refine Gives.mk fun w => ?_
  go_enter Try.func12, Try.ntmps12
  go_wp2
  refine bodyPost_ret (v := .agg #[.int .i64 (0), .int .i64 (0)]) (by simp [results, Try.results12, go_sem]) rfl ⟨rfl, (by repeat (first | exact Below.refl _ _ | refine bel_then ?_ _ | refine bel_grow ?_ _ | refine bel_alloc ?_ _ | refine bel_drew ?_ | refine bel_set ?_ (by simp) _ | refine bel_setRow ?_ (by first | omega | (simp; done) | (refine Nat.le_trans ?_ (top_le _ _); simp; done) | (refine Nat.le_succ_of_le (Nat.le_trans ?_ (top_le _ _)); simp; done) | (refine Nat.le_trans ?_ (top_le _ _); simp only [World.size_alloc]; refine Nat.le_succ_of_le (Nat.le_trans ?_ (top_le _ _)); simp; done)) _))⟩
set_option maxHeartbeats 2000000 in
theorem place_cor1 (q : Nat → Int) (hq : okQ q) : Gives Try.prog 12 #[.agg (q4C q), sV (corS 1), .int .i64 720720] (.agg #[.int .i64 (720720), .int .i64 (0)]) := by
  have hmx := run_max4W #[3, 3, 3, 3] 3 (q 0) (q 1) (q 2) (q 3)
  rw [most_eq hq] at hmx
  obtain ⟨m1, m2⟩ := most_bd (okQ_r hq)
  generalize mxR (rQ q) 4 = R at *
  have g1 : (0 : Int) < (R : Int) := by omega
  have g2 : (R : Int) ≤ 16 := by omega
  show Gives _ _ #[_, .agg #[.int .i64 1, .int .i64 1, .int .i64 0], _] _
  refine Gives.mk fun w => ?_
  go_enter Try.func12, Try.ntmps12
  go_wp2
  refine bodyPost_ret (v := .agg #[.int .i64 (720720), .int .i64 (0)]) (by simp [results, Try.results12, go_sem]) rfl ⟨rfl, (by repeat (first | exact Below.refl _ _ | refine bel_then ?_ _ | refine bel_grow ?_ _ | refine bel_alloc ?_ _ | refine bel_drew ?_ | refine bel_set ?_ (by simp) _ | refine bel_setRow ?_ (by first | omega | (simp; done) | (refine Nat.le_trans ?_ (top_le _ _); simp; done) | (refine Nat.le_succ_of_le (Nat.le_trans ?_ (top_le _ _)); simp; done) | (refine Nat.le_trans ?_ (top_le _ _); simp only [World.size_alloc]; refine Nat.le_succ_of_le (Nat.le_trans ?_ (top_le _ _)); simp; done)) _))⟩
set_option maxHeartbeats 2000000 in
theorem place_cor2 (q : Nat → Int) (hq : okQ q) : Gives Try.prog 12 #[.agg (q4C q), sV (corS 2), .int .i64 720720] (.agg #[.int .i64 (720720), .int .i64 (720720)]) := by
  have hmx := run_max4W #[3, 3, 3, 3] 3 (q 0) (q 1) (q 2) (q 3)
  rw [most_eq hq] at hmx
  obtain ⟨m1, m2⟩ := most_bd (okQ_r hq)
  generalize mxR (rQ q) 4 = R at *
  have g1 : (0 : Int) < (R : Int) := by omega
  have g2 : (R : Int) ≤ 16 := by omega
  show Gives _ _ #[_, .agg #[.int .i64 1, .int .i64 2, .int .i64 0], _] _
  refine Gives.mk fun w => ?_
  go_enter Try.func12, Try.ntmps12
  go_wp2
  refine bodyPost_ret (v := .agg #[.int .i64 (720720), .int .i64 (720720)]) (by simp [results, Try.results12, go_sem]) rfl ⟨rfl, (by repeat (first | exact Below.refl _ _ | refine bel_then ?_ _ | refine bel_grow ?_ _ | refine bel_alloc ?_ _ | refine bel_drew ?_ | refine bel_set ?_ (by simp) _ | refine bel_setRow ?_ (by first | omega | (simp; done) | (refine Nat.le_trans ?_ (top_le _ _); simp; done) | (refine Nat.le_succ_of_le (Nat.le_trans ?_ (top_le _ _)); simp; done) | (refine Nat.le_trans ?_ (top_le _ _); simp only [World.size_alloc]; refine Nat.le_succ_of_le (Nat.le_trans ?_ (top_le _ _)); simp; done)) _))⟩
set_option maxHeartbeats 2000000 in
theorem place_cor3 (q : Nat → Int) (hq : okQ q) : Gives Try.prog 12 #[.agg (q4C q), sV (corS 3), .int .i64 720720] (.agg #[.int .i64 (0), .int .i64 (720720)]) := by
  have hmx := run_max4W #[3, 3, 3, 3] 3 (q 0) (q 1) (q 2) (q 3)
  rw [most_eq hq] at hmx
  obtain ⟨m1, m2⟩ := most_bd (okQ_r hq)
  generalize mxR (rQ q) 4 = R at *
  have g1 : (0 : Int) < (R : Int) := by omega
  have g2 : (R : Int) ≤ 16 := by omega
  show Gives _ _ #[_, .agg #[.int .i64 1, .int .i64 3, .int .i64 0], _] _
  refine Gives.mk fun w => ?_
  go_enter Try.func12, Try.ntmps12
  go_wp2
  refine bodyPost_ret (v := .agg #[.int .i64 (0), .int .i64 (720720)]) (by simp [results, Try.results12, go_sem]) rfl ⟨rfl, (by repeat (first | exact Below.refl _ _ | refine bel_then ?_ _ | refine bel_grow ?_ _ | refine bel_alloc ?_ _ | refine bel_drew ?_ | refine bel_set ?_ (by simp) _ | refine bel_setRow ?_ (by first | omega | (simp; done) | (refine Nat.le_trans ?_ (top_le _ _); simp; done) | (refine Nat.le_succ_of_le (Nat.le_trans ?_ (top_le _ _)); simp; done) | (refine Nat.le_trans ?_ (top_le _ _); simp only [World.size_alloc]; refine Nat.le_succ_of_le (Nat.le_trans ?_ (top_le _ _)); simp; done)) _))⟩
set_option maxHeartbeats 2000000 in
theorem place_edg0 (q : Nat → Int) (hq : okQ q) (i : Nat) (hi : i ≤ 16) : Gives Try.prog 12 #[.agg (q4C q), sV (edgS 0 i), .int .i64 720720] (.agg #[.int .i64 ((i : Int) * 720720 / q 0), .int .i64 (0)]) := by
  have hmx := run_max4W #[3, 3, 3, 3] 3 (q 0) (q 1) (q 2) (q 3)
  rw [most_eq hq] at hmx
  obtain ⟨m1, m2⟩ := most_bd (okQ_r hq)
  generalize mxR (rQ q) 4 = R at *
  have g1 : (0 : Int) < (R : Int) := by omega
  have g2 : (R : Int) ≤ 16 := by omega
  obtain ⟨n1, n2⟩ := hq 0 (by omega)
  have d1 : 0 ≤ (i : Int) * 720720 / q 0 ∧ (i : Int) * 720720 / q 0 ≤ 20000000 := by
    refine ⟨Int.ediv_nonneg (by omega) (by omega), ?_⟩
    exact Int.le_trans (Int.ediv_le_self _ (by omega)) (by omega)
  obtain ⟨d1a, d1b⟩ := d1
  show Gives _ _ #[_, .agg #[.int .i64 2, .int .i64 0, .int .i64 (i : Int)], _] _
  refine Gives.mk fun w => ?_
  go_enter Try.func12, Try.ntmps12
  go_upto_region 6 with (fail)
  refine wp_region_grow (by kernel_rfl) (by kernel_rfl) ?_
  repeat (go_big_quiet_step (((fail))))
  refine wpQuiet_nil ?_
  rintro _ ⟨xg, rfl⟩
  go_wp2
  refine bodyPost_ret (v := .agg #[.int .i64 ((i : Int) * 720720 / q 0), .int .i64 (0)]) (by simp [results, Try.results12, go_sem]) rfl ⟨rfl, (by repeat (first | exact Below.refl _ _ | refine bel_then ?_ _ | refine bel_grow ?_ _ | refine bel_alloc ?_ _ | refine bel_drew ?_ | refine bel_set ?_ (by simp) _ | refine bel_setRow ?_ (by first | omega | (simp; done) | (refine Nat.le_trans ?_ (top_le _ _); simp; done) | (refine Nat.le_succ_of_le (Nat.le_trans ?_ (top_le _ _)); simp; done) | (refine Nat.le_trans ?_ (top_le _ _); simp only [World.size_alloc]; refine Nat.le_succ_of_le (Nat.le_trans ?_ (top_le _ _)); simp; done)) _))⟩
set_option maxHeartbeats 2000000 in
theorem place_edg1 (q : Nat → Int) (hq : okQ q) (i : Nat) (hi : i ≤ 16) : Gives Try.prog 12 #[.agg (q4C q), sV (edgS 1 i), .int .i64 720720] (.agg #[.int .i64 (720720), .int .i64 ((i : Int) * 720720 / q 1)]) := by
  have hmx := run_max4W #[3, 3, 3, 3] 3 (q 0) (q 1) (q 2) (q 3)
  rw [most_eq hq] at hmx
  obtain ⟨m1, m2⟩ := most_bd (okQ_r hq)
  generalize mxR (rQ q) 4 = R at *
  have g1 : (0 : Int) < (R : Int) := by omega
  have g2 : (R : Int) ≤ 16 := by omega
  obtain ⟨n1, n2⟩ := hq 1 (by omega)
  have d1 : 0 ≤ (i : Int) * 720720 / q 1 ∧ (i : Int) * 720720 / q 1 ≤ 20000000 := by
    refine ⟨Int.ediv_nonneg (by omega) (by omega), ?_⟩
    exact Int.le_trans (Int.ediv_le_self _ (by omega)) (by omega)
  obtain ⟨d1a, d1b⟩ := d1
  show Gives _ _ #[_, .agg #[.int .i64 2, .int .i64 1, .int .i64 (i : Int)], _] _
  refine Gives.mk fun w => ?_
  go_enter Try.func12, Try.ntmps12
  go_upto_region 6 with (fail)
  refine wp_region_grow (by kernel_rfl) (by kernel_rfl) ?_
  repeat (go_big_quiet_step (((fail))))
  refine wpQuiet_nil ?_
  rintro _ ⟨xg, rfl⟩
  go_wp2
  refine bodyPost_ret (v := .agg #[.int .i64 (720720), .int .i64 ((i : Int) * 720720 / q 1)]) (by simp [results, Try.results12, go_sem]) rfl ⟨rfl, (by repeat (first | exact Below.refl _ _ | refine bel_then ?_ _ | refine bel_grow ?_ _ | refine bel_alloc ?_ _ | refine bel_drew ?_ | refine bel_set ?_ (by simp) _ | refine bel_setRow ?_ (by first | omega | (simp; done) | (refine Nat.le_trans ?_ (top_le _ _); simp; done) | (refine Nat.le_succ_of_le (Nat.le_trans ?_ (top_le _ _)); simp; done) | (refine Nat.le_trans ?_ (top_le _ _); simp only [World.size_alloc]; refine Nat.le_succ_of_le (Nat.le_trans ?_ (top_le _ _)); simp; done)) _))⟩
set_option maxHeartbeats 2000000 in
theorem place_edg2 (q : Nat → Int) (hq : okQ q) (i : Nat) (hi : i ≤ 16) : Gives Try.prog 12 #[.agg (q4C q), sV (edgS 2 i), .int .i64 720720] (.agg #[.int .i64 (720720 - (i : Int) * 720720 / q 2), .int .i64 (720720)]) := by
  have hmx := run_max4W #[3, 3, 3, 3] 3 (q 0) (q 1) (q 2) (q 3)
  rw [most_eq hq] at hmx
  obtain ⟨m1, m2⟩ := most_bd (okQ_r hq)
  generalize mxR (rQ q) 4 = R at *
  have g1 : (0 : Int) < (R : Int) := by omega
  have g2 : (R : Int) ≤ 16 := by omega
  obtain ⟨n1, n2⟩ := hq 2 (by omega)
  have d1 : 0 ≤ (i : Int) * 720720 / q 2 ∧ (i : Int) * 720720 / q 2 ≤ 20000000 := by
    refine ⟨Int.ediv_nonneg (by omega) (by omega), ?_⟩
    exact Int.le_trans (Int.ediv_le_self _ (by omega)) (by omega)
  obtain ⟨d1a, d1b⟩ := d1
  show Gives _ _ #[_, .agg #[.int .i64 2, .int .i64 2, .int .i64 (i : Int)], _] _
  refine Gives.mk fun w => ?_
  go_enter Try.func12, Try.ntmps12
  go_upto_region 6 with (fail)
  refine wp_region_grow (by kernel_rfl) (by kernel_rfl) ?_
  repeat (go_big_quiet_step (((fail))))
  refine wpQuiet_nil ?_
  rintro _ ⟨xg, rfl⟩
  go_wp2
  refine bodyPost_ret (v := .agg #[.int .i64 (720720 - (i : Int) * 720720 / q 2), .int .i64 (720720)]) (by simp [results, Try.results12, go_sem]) rfl ⟨rfl, (by repeat (first | exact Below.refl _ _ | refine bel_then ?_ _ | refine bel_grow ?_ _ | refine bel_alloc ?_ _ | refine bel_drew ?_ | refine bel_set ?_ (by simp) _ | refine bel_setRow ?_ (by first | omega | (simp; done) | (refine Nat.le_trans ?_ (top_le _ _); simp; done) | (refine Nat.le_succ_of_le (Nat.le_trans ?_ (top_le _ _)); simp; done) | (refine Nat.le_trans ?_ (top_le _ _); simp only [World.size_alloc]; refine Nat.le_succ_of_le (Nat.le_trans ?_ (top_le _ _)); simp; done)) _))⟩
set_option maxHeartbeats 2000000 in
theorem place_edg3 (q : Nat → Int) (hq : okQ q) (i : Nat) (hi : i ≤ 16) : Gives Try.prog 12 #[.agg (q4C q), sV (edgS 3 i), .int .i64 720720] (.agg #[.int .i64 (0), .int .i64 (720720 - (i : Int) * 720720 / q 3)]) := by
  have hmx := run_max4W #[3, 3, 3, 3] 3 (q 0) (q 1) (q 2) (q 3)
  rw [most_eq hq] at hmx
  obtain ⟨m1, m2⟩ := most_bd (okQ_r hq)
  generalize mxR (rQ q) 4 = R at *
  have g1 : (0 : Int) < (R : Int) := by omega
  have g2 : (R : Int) ≤ 16 := by omega
  obtain ⟨n1, n2⟩ := hq 3 (by omega)
  have d1 : 0 ≤ (i : Int) * 720720 / q 3 ∧ (i : Int) * 720720 / q 3 ≤ 20000000 := by
    refine ⟨Int.ediv_nonneg (by omega) (by omega), ?_⟩
    exact Int.le_trans (Int.ediv_le_self _ (by omega)) (by omega)
  obtain ⟨d1a, d1b⟩ := d1
  show Gives _ _ #[_, .agg #[.int .i64 2, .int .i64 3, .int .i64 (i : Int)], _] _
  refine Gives.mk fun w => ?_
  go_enter Try.func12, Try.ntmps12
  go_upto_region 6 with (fail)
  refine wp_region_grow (by kernel_rfl) (by kernel_rfl) ?_
  repeat (go_big_quiet_step (((fail))))
  refine wpQuiet_nil ?_
  rintro _ ⟨xg, rfl⟩
  go_wp2
  refine bodyPost_ret (v := .agg #[.int .i64 (0), .int .i64 (720720 - (i : Int) * 720720 / q 3)]) (by simp [results, Try.results12, go_sem]) rfl ⟨rfl, (by repeat (first | exact Below.refl _ _ | refine bel_then ?_ _ | refine bel_grow ?_ _ | refine bel_alloc ?_ _ | refine bel_drew ?_ | refine bel_set ?_ (by simp) _ | refine bel_setRow ?_ (by first | omega | (simp; done) | (refine Nat.le_trans ?_ (top_le _ _); simp; done) | (refine Nat.le_succ_of_le (Nat.le_trans ?_ (top_le _ _)); simp; done) | (refine Nat.le_trans ?_ (top_le _ _); simp only [World.size_alloc]; refine Nat.le_succ_of_le (Nat.le_trans ?_ (top_le _ _)); simp; done)) _))⟩
theorem place_any (q : Nat → Int) (hq : okQ q) (s : Spt) (hs : s ∈ spotsW (rQ q)) : Gives Try.prog 12 #[.agg (q4C q), sV s, .int .i64 720720] (.agg #[.int .i64 (plc (rQ q) (mxR (rQ q) 4) s).1, .int .i64 (plc (rQ q) (mxR (rQ q) 4) s).2]) := by
  have hr := okQ_r hq
  have he := okQ_eq hq
  obtain ⟨m1, m2⟩ := most_bd hr
  rcases mem_spots.1 hs with ⟨k, h1, rfl⟩ | ⟨k, i, h1, h2, h3, rfl⟩ | ⟨a, b, h1, h2, h3, h4, rfl⟩
  · rw [plc_cor _ _ h1]
    rcases four1 h1 with rfl | rfl | rfl | rfl
    · exact place_cor0 q hq
    · exact place_cor1 q hq
    · exact place_cor2 q hq
    · exact place_cor3 q hq
  · have hk := hr k h1
    rw [plc_edg _ h1 hk.1 hk.2, ← div_prt hk.1 hk.2, ← he k h1]
    rcases four1 h1 with rfl | rfl | rfl | rfl
    · exact place_edg0 q hq i (by omega)
    · exact place_edg1 q hq i (by omega)
    · exact place_edg2 q hq i (by omega)
    · exact place_edg3 q hq i (by omega)
  · rw [plc_inn m1 m2, ← div_prt m1 m2, ← div_prt m1 m2]
    exact place_inn q hq a b (by omega) (by omega)
end Go.Proofs.Ytpdnaceggpdleaa
