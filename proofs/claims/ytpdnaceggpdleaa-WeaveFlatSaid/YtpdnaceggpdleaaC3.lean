/- Package weave: one more triangle, two of a square. Package weave: two triangles of a square; a strip. Package weave: room for all of a web. Package weave: all spots laid. Package weave: all triangles. Package weave: Weave. -/
import Derived.OwnWalk
import Derived.Test.YtpdnaceggpdleaaC2
namespace Go.Proofs.Ytpdnaceggpdleaa
open Go.RowKit
set_option linter.unusedVariables false
set_option linter.unusedSimpArgs false
set_option linter.unnecessarySimpa false
set_option maxRecDepth 100000
@[reducible] def spCells (s : Spt) : Array Value := #[.int .i64 s.1, .int .i64 s.2.1, .int .i64 s.2.2]
set_option maxHeartbeats 4000000 in
theorem tri_any (W : World) (base g B : Nat) (r : Nat → Nat) (R : Nat) (P : List Spt) (T : List NTri) (sv tv : Value) (X : Nat → Prop) (h : WebB W base g B r R P P T sv tv X) (sa sb sc : Spt) (hsa : sa ∈ P) (hsb : sb ∈ P) (hsc : sc ∈ P) (hl : T.length < 100000) :
    Calls Try.prog 26 #[.pointer (some ⟨g, 0, none⟩), sV sa, sV sb, sV sc] W fun e W' => e = .returned (.tuple #[]) ∧ KX X W W' ∧ ∃ tv', WebB W' base g B r R P P (T ++ [(nof P sa, nof P sb, nof P sc)]) sv tv' X := by
  obtain ⟨w2, hw2⟩ : ∃ w2, w2 = ((W.alloc (.cells (spCells sa) 29)).alloc (.cells (spCells sb) 29)).alloc (.cells (spCells sc) 29) := ⟨_, rfl⟩
  have hW2 : WebB w2 base g B r R P P T sv tv (fun b => ((X b ∨ b = W.heap.size) ∨ b = W.heap.size + 1) ∨ b = W.heap.size + 1 + 1) := by
    have h1 := ((h.more (.cells (spCells sa) 29)).more (.cells (spCells sb) 29)).more (.cells (spCells sc) 29)
    simp only [World.size_alloc] at h1
    rw [hw2]; exact h1
  have kW2 : KX X W w2 := by
    rw [hw2]; exact (h.below (bel_alloc (bel_alloc (bel_alloc (Below.refl _ _) _) _) _)).2
  have hDa : Blk w2 W.heap.size 29 (spCells sa) := by rw [hw2]; exact ((Blk.new _ _ _ _ rfl).alloc _).alloc _
  have hDb : Blk w2 (W.heap.size + 1) 29 (spCells sb) := by rw [hw2]; exact (Blk.new _ _ _ _ (by simp)).alloc _
  have hDc : Blk w2 (W.heap.size + 1 + 1) 29 (spCells sc) := by rw [hw2]; exact Blk.new _ _ _ _ (by simp)
  obtain ⟨At, ct, rfl⟩ := ownW_form h.tr
  clear h
  go_enter Try.func26, Try.ntmps26
  go_upto_region 1 with (fail)
  simp only [← hw2]
  clear hw2
  generalize W.heap.size + 1 + 1 = b7 at *
  generalize W.heap.size + 1 = b6 at *
  generalize W.heap.size = b5 at *
  obtain ⟨v1, u2, hr, hsz, hgk, hXk, hM2, hF, kF⟩ := (show WebB w2.drew base g B r R P P T sv (.slice At T.length ct) (fun b => ((X b ∨ b = b5) ∨ b = b6) ∨ b = b7) from ⟨hW2.blk, hW2.gl, hW2.Bl, hW2.gB, hW2.le, hW2.sp, hW2.tr, hW2.ap, hW2.mp, hW2.x⟩).addT (nof P sa, nof P sb, nof P sc) (by omega) 25
  obtain ⟨A1, n1, c1, rfl⟩ : ∃ A n c, v1 = .slice A n c := by obtain ⟨A, c, e⟩ := ownW_form hF.tr; exact ⟨A, _, c, e⟩
  have hK : ∀ u, (u = w2.drew ∨ u = (w2.drew.alloc (.cells #[.int .i64 (nof P sa : Int), .int .i64 (nof P sb : Int), .int .i64 (nof P sc : Int)] 30)) ∨ u = u2) → (∀ j v, w2.cell? ⟨g, j, none⟩ = some v → u.cell? ⟨g, j, none⟩ = some v) ∧ (∀ j v, w2.cell? ⟨b5, j, none⟩ = some v → u.cell? ⟨b5, j, none⟩ = some v) ∧ (∀ j v, w2.cell? ⟨b6, j, none⟩ = some v → u.cell? ⟨b6, j, none⟩ = some v) ∧ (∀ j v, w2.cell? ⟨b7, j, none⟩ = some v → u.cell? ⟨b7, j, none⟩ = some v) ∧ SpM u B P := by
    have lg := hW2.blk.lt
    have la := hDa.lt
    have lb := hDb.lt
    have lc := hDc.lt
    rintro u (rfl | rfl | rfl)
    · exact ⟨fun j v h => h, fun j v h => h, fun j v h => h, fun j v h => h, hW2.mp⟩
    · have hba : Below (w2.drew).heap.size (w2.drew) (w2.drew.alloc (.cells #[.int .i64 (nof P sa : Int), .int .i64 (nof P sb : Int), .int .i64 (nof P sc : Int)] 30)) := bel_alloc (Below.refl _ _) _
      have hmd : SpM w2.drew B P := hW2.mp
      exact ⟨fun j v h => (hba.cell (p := ⟨g, j, none⟩) lg).trans h, fun j v h => (hba.cell (p := ⟨b5, j, none⟩) la).trans h, fun j v h => (hba.cell (p := ⟨b6, j, none⟩) lb).trans h, fun j v h => (hba.cell (p := ⟨b7, j, none⟩) lc).trans h, hmd.kept (row := none) ⟨hba.os, hba.tape, hba.output, hba.size, fun k hk _ => hba.block k hk⟩ (by simp)⟩
    · exact ⟨fun j v h => (World.cell?_of_block hgk).trans h, fun j v h => (World.cell?_of_block (hXk b5 (.inl (.inl (.inr rfl))))).trans h, fun j v h => (World.cell?_of_block (hXk b6 (.inl (.inr rfl)))).trans h, fun j v h => (World.cell?_of_block (hXk b7 (.inr rfl))).trans h, hM2⟩
  have n11 : w2.cell? ⟨g, 11, none⟩ = some (.slice At T.length ct) := hW2.blk.cell 11
  have n10 : w2.cell? ⟨g, 10, none⟩ = some (.map (some B)) := hW2.blk.cell 10
  have sa0 : w2.cell? ⟨b5, 0, none⟩ = some (.int .i64 sa.1) := hDa.cell 0
  have sa1 : w2.cell? ⟨b5, 1, none⟩ = some (.int .i64 sa.2.1) := hDa.cell 1
  have sa2 : w2.cell? ⟨b5, 2, none⟩ = some (.int .i64 sa.2.2) := hDa.cell 2
  have sb0 : w2.cell? ⟨b6, 0, none⟩ = some (.int .i64 sb.1) := hDb.cell 0
  have sb1 : w2.cell? ⟨b6, 1, none⟩ = some (.int .i64 sb.2.1) := hDb.cell 1
  have sb2 : w2.cell? ⟨b6, 2, none⟩ = some (.int .i64 sb.2.2) := hDb.cell 2
  have sc0 : w2.cell? ⟨b7, 0, none⟩ = some (.int .i64 sc.1) := hDc.cell 0
  have sc1 : w2.cell? ⟨b7, 1, none⟩ = some (.int .i64 sc.2.1) := hDc.cell 1
  have sc2 : w2.cell? ⟨b7, 2, none⟩ = some (.int .i64 sc.2.2) := hDc.cell 2
  refine wp_region_monoK 28 (RKW [.pointer (some ⟨g, 0, none⟩), .pointer (some ⟨g, 0, none⟩), .pointer (some ⟨g, 0, none⟩), .pointer (some ⟨g, 11, none⟩), .slice At T.length ct, .pointer (some ⟨g, 0, none⟩), .pointer (some ⟨g, 0, none⟩), .pointer (some ⟨g, 10, none⟩), .map (some B), .agg #[.int .i64 sa.1, .int .i64 sa.2.1, .int .i64 sa.2.2], .int .i64 (nof P sa : Int), .pointer (some ⟨g, 0, none⟩), .pointer (some ⟨g, 0, none⟩), .pointer (some ⟨g, 10, none⟩), .map (some B), .agg #[.int .i64 sb.1, .int .i64 sb.2.1, .int .i64 sb.2.2], .int .i64 (nof P sb : Int), .pointer (some ⟨g, 0, none⟩), .pointer (some ⟨g, 0, none⟩), .pointer (some ⟨g, 10, none⟩), .map (some B), .agg #[.int .i64 sc.1, .int .i64 sc.2.1, .int .i64 sc.2.2], .int .i64 (nof P sc : Int), .agg #[.int .i64 (nof P sa : Int), .int .i64 (nof P sb : Int), .int .i64 (nof P sc : Int)], .slice (some ⟨w2.drew.heap.size, 0, none⟩) 1 1, .slice A1 n1 c1, .pointer (some ⟨g, 0, none⟩), .pointer (some ⟨g, 11, none⟩)]) (PhJ 24 25 w2.drew (w2.drew.alloc (.cells #[.int .i64 (nof P sa : Int), .int .i64 (nof P sb : Int), .int .i64 (nof P sc : Int)] 30)) u2) (by kernel_rfl) _ rfl (by kernel_rfl) (by kernel_rfl) (by kernel_rfl) (by kernel_rfl) (by kernel_rfl) ⟨by decide, by decide, fun h => by simp [Array.getD] at h, rfl⟩ ?_ ?_
  · simp only [List.take_succ_cons, List.take_zero]
    refine ⟨?_, ?_, ?_, ?_, ?_, ?_, ?_, ?_, ?_, ?_, ?_, ?_, ?_, ?_, ?_, ?_, ?_, ?_, ?_, ?_, ?_, ?_, ?_, ?_, ?_, ?_, ?_, ?_, ?_⟩
    · refine mono_read rfl (by decide) (by decide) (fun a u hu hk hp => ?_)
      have es0 := (hk 0 (keep_of (by kernel_rfl))).trans (show _ = some (.pointer (some ⟨g, 0, none⟩)) from rfl)
      exact ⟨_, by simp [execOp, go_sem, es0], rfl⟩
    · refine mono_read rfl (by decide) (by decide) (fun a u hu hk hp => ?_)
      have es0 := (hk 0 (keep_of (by kernel_rfl))).trans (show _ = some (.pointer (some ⟨g, 0, none⟩)) from rfl)
      exact ⟨_, by simp [execOp, go_sem, es0], rfl⟩
    · refine mono_read rfl (by decide) (by decide) (fun a u hu hk hp => ?_)
      obtain ⟨x1, ex1, rx1⟩ := hp ⟨1, .data⟩ (by simp) rfl _ _ rfl rfl
      obtain rfl : x1 = _ := rx1
      exact ⟨_, by simp [execOp, go_sem, ex1], rfl⟩
    · refine mono_read rfl (by decide) (by decide) (fun a u hu hk hp => ?_)
      obtain ⟨x2, ex2, rx2⟩ := hp ⟨2, .data⟩ (by simp) rfl _ _ rfl rfl
      obtain rfl : x2 = _ := rx2
      exact ⟨_, by simp [execOp, go_sem, ex2], rfl⟩
    · refine mono_read rfl (by decide) (by decide) (fun a u hu hk hp => ?_)
      obtain ⟨x3, ex3, rx3⟩ := hp ⟨3, .data⟩ (by simp) rfl _ _ rfl rfl
      obtain rfl : x3 = _ := rx3
      have fc0 := (hK u hu).1 11 _ n11
      exact ⟨_, by simp [execOp, go_sem, ex3, fc0], rfl⟩
    · refine mono_read rfl (by decide) (by decide) (fun a u hu hk hp => ?_)
      have es0 := (hk 0 (keep_of (by kernel_rfl))).trans (show _ = some (.pointer (some ⟨g, 0, none⟩)) from rfl)
      exact ⟨_, by simp [execOp, go_sem, es0], rfl⟩
    · refine mono_read rfl (by decide) (by decide) (fun a u hu hk hp => ?_)
      obtain ⟨x5, ex5, rx5⟩ := hp ⟨5, .data⟩ (by simp) rfl _ _ rfl rfl
      obtain rfl : x5 = _ := rx5
      exact ⟨_, by simp [execOp, go_sem, ex5], rfl⟩
    · refine mono_read rfl (by decide) (by decide) (fun a u hu hk hp => ?_)
      obtain ⟨x6, ex6, rx6⟩ := hp ⟨6, .data⟩ (by simp) rfl _ _ rfl rfl
      obtain rfl : x6 = _ := rx6
      exact ⟨_, by simp [execOp, go_sem, ex6], rfl⟩
    · refine mono_read rfl (by decide) (by decide) (fun a u hu hk hp => ?_)
      obtain ⟨x7, ex7, rx7⟩ := hp ⟨7, .data⟩ (by simp) rfl _ _ rfl rfl
      obtain rfl : x7 = _ := rx7
      have fc0 := (hK u hu).1 10 _ n10
      exact ⟨_, by simp [execOp, go_sem, ex7, fc0], rfl⟩
    · refine mono_read rfl (by decide) (by decide) (fun a u hu hk hp => ?_)
      have es5 := (hk 5 (keep_of (by kernel_rfl))).trans (show _ = some (.pointer (some ⟨b5, 0, none⟩)) from rfl)
      have fc0 := (hK u hu).2.1 0 _ sa0
      have fc1 := (hK u hu).2.1 1 _ sa1
      have fc2 := (hK u hu).2.1 2 _ sa2
      exact ⟨_, ldmW_run _ _ _ 29 _ rfl (b5) (0) (eval_tmp es5) _ _ (rng3W fc0 fc1 fc2) Try.underlying29 rfl infoS3, rfl⟩
    · refine mono_read rfl (by decide) (by decide) (fun a u hu hk hp => ?_)
      obtain ⟨x8, ex8, rx8⟩ := hp ⟨8, .data⟩ (by simp) rfl _ _ rfl rfl
      obtain rfl : x8 = _ := rx8
      obtain ⟨x9, ex9, rx9⟩ := hp ⟨9, .data⟩ (by simp) rfl _ _ rfl rfl
      obtain rfl : x9 = _ := rx9
      exact ⟨_, SpM.look (hK u hu).2.2.2.2 hsa _ _ _ _ rfl (eval_tmp ex8) (eval_tmp ex9), rfl⟩
    · refine mono_read rfl (by decide) (by decide) (fun a u hu hk hp => ?_)
      have es0 := (hk 0 (keep_of (by kernel_rfl))).trans (show _ = some (.pointer (some ⟨g, 0, none⟩)) from rfl)
      exact ⟨_, by simp [execOp, go_sem, es0], rfl⟩
    · refine mono_read rfl (by decide) (by decide) (fun a u hu hk hp => ?_)
      obtain ⟨x11, ex11, rx11⟩ := hp ⟨11, .data⟩ (by simp) rfl _ _ rfl rfl
      obtain rfl : x11 = _ := rx11
      exact ⟨_, by simp [execOp, go_sem, ex11], rfl⟩
    · refine mono_read rfl (by decide) (by decide) (fun a u hu hk hp => ?_)
      obtain ⟨x12, ex12, rx12⟩ := hp ⟨12, .data⟩ (by simp) rfl _ _ rfl rfl
      obtain rfl : x12 = _ := rx12
      exact ⟨_, by simp [execOp, go_sem, ex12], rfl⟩
    · refine mono_read rfl (by decide) (by decide) (fun a u hu hk hp => ?_)
      obtain ⟨x13, ex13, rx13⟩ := hp ⟨13, .data⟩ (by simp) rfl _ _ rfl rfl
      obtain rfl : x13 = _ := rx13
      have fc0 := (hK u hu).1 10 _ n10
      exact ⟨_, by simp [execOp, go_sem, ex13, fc0], rfl⟩
    · refine mono_read rfl (by decide) (by decide) (fun a u hu hk hp => ?_)
      have es6 := (hk 6 (keep_of (by kernel_rfl))).trans (show _ = some (.pointer (some ⟨b6, 0, none⟩)) from rfl)
      have fc0 := (hK u hu).2.2.1 0 _ sb0
      have fc1 := (hK u hu).2.2.1 1 _ sb1
      have fc2 := (hK u hu).2.2.1 2 _ sb2
      exact ⟨_, ldmW_run _ _ _ 29 _ rfl (b6) (0) (eval_tmp es6) _ _ (rng3W fc0 fc1 fc2) Try.underlying29 rfl infoS3, rfl⟩
    · refine mono_read rfl (by decide) (by decide) (fun a u hu hk hp => ?_)
      obtain ⟨x14, ex14, rx14⟩ := hp ⟨14, .data⟩ (by simp) rfl _ _ rfl rfl
      obtain rfl : x14 = _ := rx14
      obtain ⟨x15, ex15, rx15⟩ := hp ⟨15, .data⟩ (by simp) rfl _ _ rfl rfl
      obtain rfl : x15 = _ := rx15
      exact ⟨_, SpM.look (hK u hu).2.2.2.2 hsb _ _ _ _ rfl (eval_tmp ex14) (eval_tmp ex15), rfl⟩
    · refine mono_read rfl (by decide) (by decide) (fun a u hu hk hp => ?_)
      have es0 := (hk 0 (keep_of (by kernel_rfl))).trans (show _ = some (.pointer (some ⟨g, 0, none⟩)) from rfl)
      exact ⟨_, by simp [execOp, go_sem, es0], rfl⟩
    · refine mono_read rfl (by decide) (by decide) (fun a u hu hk hp => ?_)
      obtain ⟨x17, ex17, rx17⟩ := hp ⟨17, .data⟩ (by simp) rfl _ _ rfl rfl
      obtain rfl : x17 = _ := rx17
      exact ⟨_, by simp [execOp, go_sem, ex17], rfl⟩
    · refine mono_read rfl (by decide) (by decide) (fun a u hu hk hp => ?_)
      obtain ⟨x18, ex18, rx18⟩ := hp ⟨18, .data⟩ (by simp) rfl _ _ rfl rfl
      obtain rfl : x18 = _ := rx18
      exact ⟨_, by simp [execOp, go_sem, ex18], rfl⟩
    · refine mono_read rfl (by decide) (by decide) (fun a u hu hk hp => ?_)
      obtain ⟨x19, ex19, rx19⟩ := hp ⟨19, .data⟩ (by simp) rfl _ _ rfl rfl
      obtain rfl : x19 = _ := rx19
      have fc0 := (hK u hu).1 10 _ n10
      exact ⟨_, by simp [execOp, go_sem, ex19, fc0], rfl⟩
    · refine mono_read rfl (by decide) (by decide) (fun a u hu hk hp => ?_)
      have es7 := (hk 7 (keep_of (by kernel_rfl))).trans (show _ = some (.pointer (some ⟨b7, 0, none⟩)) from rfl)
      have fc0 := (hK u hu).2.2.2.1 0 _ sc0
      have fc1 := (hK u hu).2.2.2.1 1 _ sc1
      have fc2 := (hK u hu).2.2.2.1 2 _ sc2
      exact ⟨_, ldmW_run _ _ _ 29 _ rfl (b7) (0) (eval_tmp es7) _ _ (rng3W fc0 fc1 fc2) Try.underlying29 rfl infoS3, rfl⟩
    · refine mono_read rfl (by decide) (by decide) (fun a u hu hk hp => ?_)
      obtain ⟨x20, ex20, rx20⟩ := hp ⟨20, .data⟩ (by simp) rfl _ _ rfl rfl
      obtain rfl : x20 = _ := rx20
      obtain ⟨x21, ex21, rx21⟩ := hp ⟨21, .data⟩ (by simp) rfl _ _ rfl rfl
      obtain rfl : x21 = _ := rx21
      exact ⟨_, SpM.look (hK u hu).2.2.2.2 hsc _ _ _ _ rfl (eval_tmp ex20) (eval_tmp ex21), rfl⟩
    · refine mono_read rfl (by decide) (by decide) (fun a u hu hk hp => ?_)
      obtain ⟨x10, ex10, rx10⟩ := hp ⟨10, .data⟩ (by simp) rfl _ _ rfl rfl
      obtain rfl : x10 = _ := rx10
      obtain ⟨x16, ex16, rx16⟩ := hp ⟨16, .data⟩ (by simp) rfl _ _ rfl rfl
      obtain rfl : x16 = _ := rx16
      obtain ⟨x22, ex22, rx22⟩ := hp ⟨22, .data⟩ (by simp) rfl _ _ rfl rfl
      obtain rfl : x22 = _ := rx22
      exact ⟨_, by simp [execOp, go_sem, ex10, ex16, ex22], rfl⟩
    · refine mono_first rfl (by decide) (fun a hk hp => ?_)
      obtain ⟨x23, ex23, rx23⟩ := hp ⟨23, .data⟩ (by simp) rfl _ _ rfl rfl
      obtain rfl : x23 = _ := rx23
      exact ⟨_, by simp [execOp, go_sem, ex23], rfl⟩
    · refine mono_second rfl (by decide) ⟨⟨24, .data⟩, by simp, rfl, rfl⟩ (fun a hk hp => ?_)
      obtain ⟨x4, ex4, rx4⟩ := hp ⟨4, .data⟩ (by simp) rfl _ _ rfl rfl
      obtain rfl : x4 = _ := rx4
      obtain ⟨x24, ex24, rx24⟩ := hp ⟨24, .data⟩ (by simp) rfl _ _ rfl rfl
      obtain rfl : x24 = _ := rx24
      exact ⟨_, run_appW _ _ _ rfl (eval_tmp ex4) (eval_tmp ex24) hr, rfl⟩
    · refine mono_read rfl (by decide) (by decide) (fun a u hu hk hp => ?_)
      obtain ⟨x0, ex0, rx0⟩ := hp ⟨0, .data⟩ (by simp) rfl _ _ rfl rfl
      obtain rfl : x0 = _ := rx0
      exact ⟨_, by simp [execOp, go_sem, ex0], rfl⟩
    · refine mono_read rfl (by decide) (by decide) (fun a u hu hk hp => ?_)
      obtain ⟨x26, ex26, rx26⟩ := hp ⟨26, .data⟩ (by simp) rfl _ _ rfl rfl
      obtain rfl : x26 = _ := rx26
      exact ⟨_, by simp [execOp, go_sem, ex26], rfl⟩
    · trivial
  · intro a wz listed hJ hall hsz hdf hk hgot
    have hwz : u2 = wz := (phJ_end hJ (by decide) hall).symm
    clear hJ
    subst hwz
    obtain ⟨vv25, ev25, rv25⟩ := hgot 25 _ 33 rfl rfl
    obtain rfl : vv25 = _ := rv25
    obtain ⟨vv27, ev27, rv27⟩ := hgot 27 _ 35 rfl rfl
    obtain rfl : vv27 = _ := rv27
    obtain ⟨f, hf, rfl⟩ := frame_eq hsz hdf hk [8, 9, 10, 11, 12, 13, 14, 15, 16, 17, 18, 19, 20, 21, 22, 23, 24, 25, 26, 27, 28, 29, 30, 31, 32, 33, 34, 35] (by rfl)
    have f33 := hf 33 _ ev25
    have f35 := hf 35 _ ev27
    clear hsz hdf hk hgot hf hall ev25 ev27
    simp only [List.drop_succ_cons, List.drop_zero, setAll, List.setIfInBounds_toArray, List.set_cons_succ, List.set_cons_zero, f33, f35]
    clear f33 f35
    generalize f 8 = uu8; generalize f 9 = uu9; generalize f 10 = uu10; generalize f 11 = uu11; generalize f 12 = uu12; generalize f 13 = uu13; generalize f 14 = uu14; generalize f 15 = uu15; generalize f 16 = uu16; generalize f 17 = uu17; generalize f 18 = uu18; generalize f 19 = uu19; generalize f 20 = uu20; generalize f 21 = uu21; generalize f 22 = uu22; generalize f 23 = uu23; generalize f 24 = uu24; generalize f 25 = uu25; generalize f 26 = uu26; generalize f 27 = uu27; generalize f 28 = uu28; generalize f 29 = uu29; generalize f 30 = uu30; generalize f 31 = uu31; generalize f 32 = uu32; generalize f 34 = uu34
    have s0 : u2.cell? ⟨g, 11, none⟩ = some (.slice At T.length ct) := (hK u2 (.inr (.inr rfl))).1 11 _ n11
    have sf : u2.frozen? ⟨g, 11, none⟩ = false := (World.frozen?_of_block hgk).trans (hW2.blk.frozen 11)
    have sl : g < u2.heap.size := Nat.lt_of_lt_of_le hW2.blk.lt hsz
    clear hW2 hDa hDb hDc hsz hgk hXk hr hK n11 n10 sa0 sa1 sa2 sb0 sb1 sb2 sc0 sc1 sc2 hM2
    replace hF := Lib.hid hF
    replace kF := Lib.hid kF
    replace kW2 := Lib.hid kW2
    go_wp2
    refine bodyPost_end (v := .tuple #[]) (by simp [results, Try.results26, go_sem]) rfl ⟨rfl, (show KX X W w2.drew from ⟨kW2.out.os, kW2.out.tape, kW2.out.output, kW2.out.size, kW2.out.block⟩).trans (kF.out.less fun b hb => .inl (.inl (.inl hb))), _, hF.out.less fun b hb => .inl (.inl (.inl hb))⟩
end Go.Proofs.Ytpdnaceggpdleaa
namespace Go.Proofs.Ytpdnaceggpdleaa
open Go.RowKit
set_option linter.unusedVariables false
set_option linter.unusedSimpArgs false
set_option linter.unnecessarySimpa false
set_option maxRecDepth 100000
/-- The web, its row of triangles wherever it lies. -/
def WebT (W : World) (base g B : Nat) (r : Nat → Nat) (R : Nat) (P : List Spt) (T : List NTri) (sv : Value) (X : Nat → Prop) : Prop := ∃ tv, WebB W base g B r R P P T sv tv X
theorem WebT.less {W : World} {base g B : Nat} {r : Nat → Nat} {R : Nat} {P : List Spt} {T : List NTri} {sv : Value} {X Y : Nat → Prop} (h : WebT W base g B r R P T sv X) (hY : ∀ b, Y b → X b) : WebT W base g B r R P T sv Y := h.imp fun _ h => h.less hY
theorem WebT.more {W : World} {base g B : Nat} {r : Nat → Nat} {R : Nat} {P : List Spt} {T : List NTri} {sv : Value} {X : Nat → Prop} (h : WebT W base g B r R P T sv X) (o : Obj) : WebT (W.alloc o) base g B r R P T sv (fun b => X b ∨ b = W.heap.size) := h.imp fun _ h => h.more o
theorem WebT.below {W W' : World} {base g B : Nat} {r : Nat → Nat} {R : Nat} {P : List Spt} {T : List NTri} {sv : Value} {X : Nat → Prop} (h : WebT W base g B r R P T sv X) (hb : Below W.heap.size W W') : WebT W' base g B r R P T sv X ∧ KX X W W' := by
  obtain ⟨tv, h⟩ := h; exact ⟨⟨tv, (h.below hb).1⟩, (h.below hb).2⟩
theorem WebT.most {W : World} {base g B : Nat} {r : Nat → Nat} {R : Nat} {P : List Spt} {T : List NTri} {sv : Value} {X : Nat → Prop} (h : WebT W base g B r R P T sv X) : W.cell? ⟨g, 8, none⟩ = some (.int .i64 (R : Int)) ∧ g < W.heap.size := by
  obtain ⟨tv, h⟩ := h; exact ⟨h.blk.cell 8, h.blk.lt⟩
def num3 (P : List Spt) (t : Tri) : NTri := (nof P t.1, nof P t.2.1, nof P t.2.2)
def numT (P : List Spt) (l : List Tri) : List NTri := l.map (num3 P)
def in3 (P : List Spt) (t : Tri) : Prop := t.1 ∈ P ∧ t.2.1 ∈ P ∧ t.2.2 ∈ P
theorem tri_T {W : World} {base g B : Nat} {r : Nat → Nat} {R : Nat} {P : List Spt} {T : List NTri} {sv : Value} {X : Nat → Prop} (h : WebT W base g B r R P T sv X) (t : Tri) (ht : in3 P t) (hl : T.length < 100000) :
    Calls Try.prog 26 #[.pointer (some ⟨g, 0, none⟩), sV t.1, sV t.2.1, sV t.2.2] W fun e W' => e = .returned (.tuple #[]) ∧ KX X W W' ∧ WebT W' base g B r R P (T ++ numT P [t]) sv X := by
  obtain ⟨tv, h⟩ := h
  exact tri_any W base g B r R P T sv tv X h t.1 t.2.1 t.2.2 ht.1 ht.2.1 ht.2.2 hl
set_option maxHeartbeats 2000000 in
theorem square_any (W : World) (base g B : Nat) (r : Nat → Nat) (R : Nat) (P : List Spt) (T : List NTri) (sv : Value) (X : Nat → Prop) (h : WebT W base g B r R P T sv X) (sa sb sc sd : Spt) (hsa : sa ∈ P) (hsb : sb ∈ P) (hsc : sc ∈ P) (hsd : sd ∈ P) (hl : T.length < 90000) :
    Calls Try.prog 24 #[.pointer (some ⟨g, 0, none⟩), sV sa, sV sb, sV sc, sV sd] W fun e W' => e = .returned (.tuple #[]) ∧ KX X W W' ∧ WebT W' base g B r R P (T ++ numT P (sqS sa sb sc sd)) sv X := by
  obtain ⟨w2, hw2⟩ : ∃ w2, w2 = (((W.alloc (.cells (spCells sa) 29)).alloc (.cells (spCells sb) 29)).alloc (.cells (spCells sc) 29)).alloc (.cells (spCells sd) 29) := ⟨_, rfl⟩
  have hW2 : WebT w2 base g B r R P T sv (fun b => (((X b ∨ b = W.heap.size) ∨ b = W.heap.size + 1) ∨ b = W.heap.size + 1 + 1) ∨ b = W.heap.size + 1 + 1 + 1) := by
    have h1 := (((h.more (.cells (spCells sa) 29)).more (.cells (spCells sb) 29)).more (.cells (spCells sc) 29)).more (.cells (spCells sd) 29)
    simp only [World.size_alloc] at h1
    rw [hw2]; exact h1
  have kW2 : KX X W w2 := by
    rw [hw2]; exact (h.below (bel_alloc (bel_alloc (bel_alloc (bel_alloc (Below.refl _ _) _) _) _) _)).2
  have hDa : Blk w2 W.heap.size 29 (spCells sa) := by rw [hw2]; exact (((Blk.new _ _ _ _ rfl).alloc _).alloc _).alloc _
  have hDb : Blk w2 (W.heap.size + 1) 29 (spCells sb) := by rw [hw2]; exact ((Blk.new _ _ _ _ (by simp)).alloc _).alloc _
  have hDc : Blk w2 (W.heap.size + 1 + 1) 29 (spCells sc) := by rw [hw2]; exact (Blk.new _ _ _ _ (by simp)).alloc _
  have hDd : Blk w2 (W.heap.size + 1 + 1 + 1) 29 (spCells sd) := by rw [hw2]; exact Blk.new _ _ _ _ (by simp)
  clear h
  go_enter Try.func24, Try.ntmps24
  go_upto_region 1 with (fail)
  simp only [← hw2]
  clear hw2
  generalize W.heap.size + 1 + 1 + 1 = b8 at *
  generalize W.heap.size + 1 + 1 = b7 at *
  generalize W.heap.size + 1 = b6 at *
  generalize W.heap.size = b5 at *
  have sa0 : w2.cell? ⟨b5, 0, none⟩ = some (.int .i64 sa.1) := hDa.cell 0
  have sa1 : w2.cell? ⟨b5, 1, none⟩ = some (.int .i64 sa.2.1) := hDa.cell 1
  have sa2 : w2.cell? ⟨b5, 2, none⟩ = some (.int .i64 sa.2.2) := hDa.cell 2
  have sb0 : w2.cell? ⟨b6, 0, none⟩ = some (.int .i64 sb.1) := hDb.cell 0
  have sb1 : w2.cell? ⟨b6, 1, none⟩ = some (.int .i64 sb.2.1) := hDb.cell 1
  have sb2 : w2.cell? ⟨b6, 2, none⟩ = some (.int .i64 sb.2.2) := hDb.cell 2
  have sc0 : w2.cell? ⟨b7, 0, none⟩ = some (.int .i64 sc.1) := hDc.cell 0
  have sc1 : w2.cell? ⟨b7, 1, none⟩ = some (.int .i64 sc.2.1) := hDc.cell 1
  have sc2 : w2.cell? ⟨b7, 2, none⟩ = some (.int .i64 sc.2.2) := hDc.cell 2
  have cT := tri_T hW2 (sa, sb, sc) ⟨hsa, hsb, hsc⟩ (by omega)
  replace cT := Lib.hid cT
  have hl1 : (T ++ numT P [(sa, sb, sc)]).length < 100000 := by simp [numT]; omega
  go_upto_region 2 with (first | (go_at_call 26; (with_reducible refine cT.out.mono ?_); rintro e w3 ⟨rfl, k3, hW3⟩) | fail)
  have hDa3 : Blk w3 b5 29 (spCells sa) := (k3.block b5 (.inl (.inl (.inl (.inr rfl))))).trans hDa
  have hDc3 : Blk w3 b7 29 (spCells sc) := (k3.block b7 (.inl (.inr rfl))).trans hDc
  have hDd3 : Blk w3 b8 29 (spCells sd) := (k3.block b8 (.inr rfl)).trans hDd
  have kW3 : KX X W w3 := kW2.trans (k3.less fun b hb => .inl (.inl (.inl (.inl hb))))
  clear sa0 sa1 sa2 sb0 sb1 sb2 sc0 sc1 sc2 hDa hDb hDc hDd k3 hW2 kW2 cT
  have sa0 : w3.cell? ⟨b5, 0, none⟩ = some (.int .i64 sa.1) := hDa3.cell 0
  have sa1 : w3.cell? ⟨b5, 1, none⟩ = some (.int .i64 sa.2.1) := hDa3.cell 1
  have sa2 : w3.cell? ⟨b5, 2, none⟩ = some (.int .i64 sa.2.2) := hDa3.cell 2
  have sc0 : w3.cell? ⟨b7, 0, none⟩ = some (.int .i64 sc.1) := hDc3.cell 0
  have sc1 : w3.cell? ⟨b7, 1, none⟩ = some (.int .i64 sc.2.1) := hDc3.cell 1
  have sc2 : w3.cell? ⟨b7, 2, none⟩ = some (.int .i64 sc.2.2) := hDc3.cell 2
  have sd0 : w3.cell? ⟨b8, 0, none⟩ = some (.int .i64 sd.1) := hDd3.cell 0
  have sd1 : w3.cell? ⟨b8, 1, none⟩ = some (.int .i64 sd.2.1) := hDd3.cell 1
  have sd2 : w3.cell? ⟨b8, 2, none⟩ = some (.int .i64 sd.2.2) := hDd3.cell 2
  have la := hDa3.lt
  have lc := hDc3.lt
  have ld := hDd3.lt
  have cT := tri_T hW3 (sa, sc, sd) ⟨hsa, hsc, hsd⟩ hl1
  replace cT := Lib.hid cT
  go_wp2_with (first | (go_at_call 26; (with_reducible refine cT.out.mono ?_); rintro e w4 ⟨rfl, k4, hW4⟩) | fail)
  refine bodyPost_end (v := .tuple #[]) (by simp [results, Try.results24, go_sem]) rfl ⟨rfl, kW3.trans (k4.less fun b hb => .inl (.inl (.inl (.inl hb)))), ?_⟩
  have := hW4.less (Y := X) fun b hb => .inl (.inl (.inl (.inl hb)))
  rw [List.append_assoc] at this
  exact this
set_option maxHeartbeats 4000000 in
theorem strip_any (W : World) (base g B : Nat) (r : Nat → Nat) (R : Nat) (P : List Spt) (T : List NTri) (sv : Value) (X : Nat → Prop) (h : WebT W base g B r R P T sv X) (k rk : Nat) (hk : k < 4) (hr1 : 1 ≤ rk) (hr2 : rk ≤ 16) (hR : 2 ≤ R) (hR2 : R ≤ 16) (hP : ∀ t ∈ stripS k rk R, in3 P t) (hl : T.length < 50000) :
    Calls Try.prog 25 #[.pointer (some ⟨g, 0, none⟩), .agg #[.int .i64 (k : Int), .int .i64 (rk : Int)]] W fun e W' => e = .returned (.tuple #[]) ∧ KX X W W' ∧ WebT W' base g B r R P (T ++ numT P (stripS k rk R)) sv X := by
  obtain ⟨w2, hw2⟩ : ∃ w2, w2 = W.alloc (.cells #[.int .i64 (k : Int), .int .i64 (rk : Int)] 39) := ⟨_, rfl⟩
  have hW2 : WebT w2 base g B r R P T sv (fun b => X b ∨ b = W.heap.size) := by
    rw [hw2]; exact h.more _
  have kW2 : KX X W w2 := by
    rw [hw2]; exact (h.below (bel_alloc (Below.refl _ _) _)).2
  have hD : Blk w2 W.heap.size 39 #[.int .i64 (k : Int), .int .i64 (rk : Int)] := by rw [hw2]; exact Blk.new _ _ _ _ rfl
  replace hP := Lib.hid hP
  clear h
  go_enter Try.func25, Try.ntmps25
  go_upto_region 1 with (fail)
  simp only [← hw2]
  clear hw2
  generalize W.heap.size = b3 at *
  have m8 := hW2.most.1
  have lg := hW2.most.2
  go_wp2
  go_loopw [5, 6] (fun iv tv wr => ∃ (i t : Nat) (done : List Tri), iv = .int .i64 (i : Int) ∧ tv = .int .i64 (t : Int) ∧ i ≤ rk ∧ 1 ≤ t ∧ t ≤ R - 1 ∧ Hid (done ++ stpS k rk R (leftS rk R i t) i t = stripS k rk R) ∧ WebT wr base g B r R P (T ++ numT P done) sv (fun b => X b ∨ b = b3) ∧ KX (fun b => X b ∨ b = b3) w2 wr) (fun iv tv _ => (rk - (intOf iv).toNat) + (R - (intOf tv).toNat))
  case atStart => exact ⟨0, 1, [], rfl, rfl, by omega, by omega, by omega, Lib.hid rfl, by simpa [numT] using hW2, KX.refl _ _⟩
  case round =>
    obtain ⟨i, t, done, rfl, rfl, hi, ht1, ht, hdone, hWr, kWr⟩ := hrel
    have hDr : Blk wr b3 39 #[.int .i64 (k : Int), .int .i64 (rk : Int)] := (kWr.block b3 (.inr rfl)).trans hD
    clear m8 lg
    have m8 := hWr.most.1
    have lg := hWr.most.2
    have d0 : wr.cell? ⟨b3, 0, none⟩ = some (.int .i64 (k : Int)) := hDr.cell 0
    have d1 : wr.cell? ⟨b3, 1, none⟩ = some (.int .i64 (rk : Int)) := hDr.cell 1
    have lb := hDr.lt
    have q1 : 0 ≤ (2 * (i : Int) + 1) * (R : Int) ∧ (2 * (i : Int) + 1) * (R : Int) ≤ 1000 := by
      have e : (2 * (i : Int) + 1) * (R : Int) = (((2 * i + 1) * R : Nat) : Int) := by simp
      have e2 : (2 * i + 1) * R ≤ 33 * 16 := Nat.mul_le_mul (by omega) hR2
      omega
    have q2 : 0 ≤ (2 * (t : Int) + 1) * (rk : Int) ∧ (2 * (t : Int) + 1) * (rk : Int) ≤ 1000 := by
      have e : (2 * (t : Int) + 1) * (rk : Int) = (((2 * t + 1) * rk : Nat) : Int) := by simp
      have e2 : (2 * t + 1) * rk ≤ 33 * 16 := Nat.mul_le_mul (by omega) hr2
      omega
    obtain ⟨q1a, q1b⟩ := q1
    obtain ⟨q2a, q2b⟩ := q2
    rcases (show (i < rk ∧ t = R - 1) ∨ (i < rk ∧ t < R - 1 ∧ (2 * i + 1) * R ≤ (2 * t + 1) * rk) ∨ (i < rk ∧ t < R - 1 ∧ ¬ (2 * i + 1) * R ≤ (2 * t + 1) * rk) ∨ (i = rk ∧ t < R - 1) ∨ (i = rk ∧ t = R - 1) by omega) with ⟨hi2, ht2⟩ | ⟨hi2, ht2, hcmp⟩ | ⟨hi2, ht2, hcmp⟩ | ⟨hi2, ht2⟩ | ⟨hi2, ht2⟩
    · have f1 : (i : Int) < (rk : Int) := by omega
      have f2 : ((t : Int) == (R : Int) - 1) = true := by simp; omega
      have hgo : goA rk R i t := ⟨by omega, .inl (by omega)⟩
      have hst := stp_A (k := k) hgo
      have h3 : in3 P (outS k rk i, outS k rk (i + 1), besS k t R) := hP.out _ (by rw [← hdone.out, hst]; simp)
      have hlT : (T ++ numT P done).length < 100000 := by
        have := congrArg List.length hdone.out
        rw [List.length_append, strip_len] at this
        simp [numT]; omega
      have kO := souter_G k rk i hk hr1 (by omega) hr2
      have kB := sbeside_G k t R hk (by omega) (by omega) hR2 (rk : Int)
      have kO2 := souter_G k rk (i + 1) hk hr1 (by omega) hr2
      rw [show ((i + 1 : Nat) : Int) = (i : Int) + 1 by omega] at kO2
      replace hst := Lib.hid hst
      replace ht2 := Lib.hid ht2
      replace hi2 := Lib.hid hi2
      clear hgo
      go_upto_region 4 with (fail)
      refine wp_region_grow (by kernel_rfl) (by kernel_rfl) ?_
      repeat (go_big_quiet_step (((fail))))
      refine wpQuiet_nil ?_
      rintro _ ⟨xg, rfl⟩
      obtain ⟨hW4, k4⟩ : WebT (grow wr xg) base g B r R P (T ++ numT P done) sv (fun b => X b ∨ b = b3) ∧ KX (fun b => X b ∨ b = b3) wr (grow wr xg) := hWr.below (xg.kept _)
      generalize grow wr xg = w4 at *
      have kk4 := kWr.trans k4
      have hD4 : Blk w4 b3 39 #[.int .i64 (k : Int), .int .i64 (rk : Int)] := (k4.block b3 (.inr rfl)).trans hDr
      clear m8 lg d0 d1 lb hWr kWr hDr k4
      have m8 := hW4.most.1
      have lg := hW4.most.2
      have d0 : w4.cell? ⟨b3, 0, none⟩ = some (.int .i64 (k : Int)) := hD4.cell 0
      have d1 : w4.cell? ⟨b3, 1, none⟩ = some (.int .i64 (rk : Int)) := hD4.cell 1
      have lb := hD4.lt
      go_upto_region 5 with (fail)
      refine wp_region_tail 15 ?_ (by kernel_rfl) (by kernel_rfl) (by kernel_rfl) (fun x => ?_) (fun x => ?_)
      rotate_left
      · simp only [List.take_succ_cons, List.take_zero]
        repeat (go_big_quiet_step (((first | with_reducible exact kO.quiet _ | with_reducible exact kO.quiet2 _ _ | with_reducible exact kO2.quiet _ | with_reducible exact kO2.quiet2 _ _ | with_reducible exact kB.quiet _ | with_reducible exact kB.quiet2 _ _))))
        refine wpQuiet_nil ?_
        exact rfl
      simp only [List.drop_succ_cons, List.drop_zero]
      try simp only [Act.put, List.setIfInBounds_toArray, List.set_cons_succ, List.set_cons_zero]
      obtain ⟨hW5, k5⟩ : WebT (grow w4 x) base g B r R P (T ++ numT P done) sv (fun b => X b ∨ b = b3) ∧ KX (fun b => X b ∨ b = b3) w4 (grow w4 x) := hW4.below (x.kept w4)
      have cT := tri_T hW5 (outS k rk i, outS k rk (i + 1), besS k t R) h3 hlT
      replace cT := Lib.hid cT
      go_wp2_with (first | (go_at_call 26; (with_reducible refine cT.out.mono ?_); rintro e w6 ⟨rfl, k6, hW6⟩) | fail)
      go_roundw
      case rel =>
        refine ⟨i + 1, t, done ++ [(outS k rk i, outS k rk (i + 1), besS k t R)], by go_num, by go_num, by omega, by omega, by omega, Lib.hid ?_, ?_, kk4.trans (k5.trans k6)⟩
        · rw [← hdone.out, hst.out, List.append_assoc]; rfl
        · rw [show numT P (done ++ [(outS k rk i, outS k rk (i + 1), besS k t R)]) = numT P done ++ numT P [(outS k rk i, outS k rk (i + 1), besS k t R)] by simp [numT], ← List.append_assoc]
          exact hW6
      case measure => simp [intOf]; omega
    · have f1 : (i : Int) < (rk : Int) := by omega
      have f2 : ((t : Int) == (R : Int) - 1) = false := by simp; omega
      have f2b : (t : Int) < (R : Int) - 1 := by omega
      have f3 : (2 * (i : Int) + 1) * (R : Int) ≤ (2 * (t : Int) + 1) * (rk : Int) := by exact_mod_cast hcmp
      have hgo : goA rk R i t := ⟨by omega, .inr hcmp⟩
      have hst := stp_A (k := k) hgo
      have h3 : in3 P (outS k rk i, outS k rk (i + 1), besS k t R) := hP.out _ (by rw [← hdone.out, hst]; simp)
      have hlT : (T ++ numT P done).length < 100000 := by
        have := congrArg List.length hdone.out
        rw [List.length_append, strip_len] at this
        simp [numT]; omega
      have kO := souter_G k rk i hk hr1 (by omega) hr2
      have kB := sbeside_G k t R hk (by omega) (by omega) hR2 (rk : Int)
      have kO2 := souter_G k rk (i + 1) hk hr1 (by omega) hr2
      rw [show ((i + 1 : Nat) : Int) = (i : Int) + 1 by omega] at kO2
      replace hst := Lib.hid hst
      replace ht2 := Lib.hid ht2
      replace hi2 := Lib.hid hi2
      clear hgo
      go_upto_region 4 with (fail)
      refine wp_region_grow (by kernel_rfl) (by kernel_rfl) ?_
      repeat (go_big_quiet_step (((fail))))
      refine wpQuiet_nil ?_
      rintro _ ⟨xg, rfl⟩
      obtain ⟨hW4, k4⟩ : WebT (grow wr xg) base g B r R P (T ++ numT P done) sv (fun b => X b ∨ b = b3) ∧ KX (fun b => X b ∨ b = b3) wr (grow wr xg) := hWr.below (xg.kept _)
      generalize grow wr xg = w4 at *
      have kk4 := kWr.trans k4
      have hD4 : Blk w4 b3 39 #[.int .i64 (k : Int), .int .i64 (rk : Int)] := (k4.block b3 (.inr rfl)).trans hDr
      clear m8 lg d0 d1 lb hWr kWr hDr k4
      have m8 := hW4.most.1
      have lg := hW4.most.2
      have d0 : w4.cell? ⟨b3, 0, none⟩ = some (.int .i64 (k : Int)) := hD4.cell 0
      have d1 : w4.cell? ⟨b3, 1, none⟩ = some (.int .i64 (rk : Int)) := hD4.cell 1
      have lb := hD4.lt
      go_upto_region 5 with (fail)
      refine wp_region_tail 15 ?_ (by kernel_rfl) (by kernel_rfl) (by kernel_rfl) (fun x => ?_) (fun x => ?_)
      rotate_left
      · simp only [List.take_succ_cons, List.take_zero]
        repeat (go_big_quiet_step (((first | with_reducible exact kO.quiet _ | with_reducible exact kO.quiet2 _ _ | with_reducible exact kO2.quiet _ | with_reducible exact kO2.quiet2 _ _ | with_reducible exact kB.quiet _ | with_reducible exact kB.quiet2 _ _))))
        refine wpQuiet_nil ?_
        exact rfl
      simp only [List.drop_succ_cons, List.drop_zero]
      try simp only [Act.put, List.setIfInBounds_toArray, List.set_cons_succ, List.set_cons_zero]
      obtain ⟨hW5, k5⟩ : WebT (grow w4 x) base g B r R P (T ++ numT P done) sv (fun b => X b ∨ b = b3) ∧ KX (fun b => X b ∨ b = b3) w4 (grow w4 x) := hW4.below (x.kept w4)
      have cT := tri_T hW5 (outS k rk i, outS k rk (i + 1), besS k t R) h3 hlT
      replace cT := Lib.hid cT
      go_wp2_with (first | (go_at_call 26; (with_reducible refine cT.out.mono ?_); rintro e w6 ⟨rfl, k6, hW6⟩) | fail)
      go_roundw
      case rel =>
        refine ⟨i + 1, t, done ++ [(outS k rk i, outS k rk (i + 1), besS k t R)], by go_num, by go_num, by omega, by omega, by omega, Lib.hid ?_, ?_, kk4.trans (k5.trans k6)⟩
        · rw [← hdone.out, hst.out, List.append_assoc]; rfl
        · rw [show numT P (done ++ [(outS k rk i, outS k rk (i + 1), besS k t R)]) = numT P done ++ numT P [(outS k rk i, outS k rk (i + 1), besS k t R)] by simp [numT], ← List.append_assoc]
          exact hW6
      case measure => simp [intOf]; omega
    · have f1 : (i : Int) < (rk : Int) := by omega
      have f2 : ((t : Int) == (R : Int) - 1) = false := by simp; omega
      have f2b : (t : Int) < (R : Int) - 1 := by omega
      have f3 : ¬ ((2 * (i : Int) + 1) * (R : Int) ≤ (2 * (t : Int) + 1) * (rk : Int)) := by exact_mod_cast hcmp
      have hgo : ¬ goA rk R i t := fun h => h.2.elim (fun h => by omega) hcmp
      have hst := stp_B (k := k) hgo (by omega)
      have h3 : in3 P (outS k rk i, besS k (t + 1) R, besS k t R) := hP.out _ (by rw [← hdone.out, hst]; simp)
      have hlT : (T ++ numT P done).length < 100000 := by
        have := congrArg List.length hdone.out
        rw [List.length_append, strip_len] at this
        simp [numT]; omega
      have kO := souter_G k rk i hk hr1 (by omega) hr2
      have kB := sbeside_G k t R hk (by omega) (by omega) hR2 (rk : Int)
      have kB2 := sbeside_G k (t + 1) R hk (by omega) (by omega) hR2 (rk : Int)
      rw [show ((t + 1 : Nat) : Int) = (t : Int) + 1 by omega] at kB2
      replace hst := Lib.hid hst
      replace ht2 := Lib.hid ht2
      replace hi2 := Lib.hid hi2
      clear hgo
      go_upto_region 4 with (fail)
      refine wp_region_grow (by kernel_rfl) (by kernel_rfl) ?_
      repeat (go_big_quiet_step (((fail))))
      refine wpQuiet_nil ?_
      rintro _ ⟨xg, rfl⟩
      obtain ⟨hW4, k4⟩ : WebT (grow wr xg) base g B r R P (T ++ numT P done) sv (fun b => X b ∨ b = b3) ∧ KX (fun b => X b ∨ b = b3) wr (grow wr xg) := hWr.below (xg.kept _)
      generalize grow wr xg = w4 at *
      have kk4 := kWr.trans k4
      have hD4 : Blk w4 b3 39 #[.int .i64 (k : Int), .int .i64 (rk : Int)] := (k4.block b3 (.inr rfl)).trans hDr
      clear m8 lg d0 d1 lb hWr kWr hDr k4
      have m8 := hW4.most.1
      have lg := hW4.most.2
      have d0 : w4.cell? ⟨b3, 0, none⟩ = some (.int .i64 (k : Int)) := hD4.cell 0
      have d1 : w4.cell? ⟨b3, 1, none⟩ = some (.int .i64 (rk : Int)) := hD4.cell 1
      have lb := hD4.lt
      go_upto_region 7 with (fail)
      refine wp_region_tail 19 ?_ (by kernel_rfl) (by kernel_rfl) (by kernel_rfl) (fun x => ?_) (fun x => ?_)
      rotate_left
      · simp only [List.take_succ_cons, List.take_zero]
        repeat (go_big_quiet_step (((first | with_reducible exact kO.quiet _ | with_reducible exact kO.quiet2 _ _ | with_reducible exact kB2.quiet _ | with_reducible exact kB2.quiet2 _ _ | with_reducible exact kB.quiet _ | with_reducible exact kB.quiet2 _ _))))
        refine wpQuiet_nil ?_
        exact rfl
      simp only [List.drop_succ_cons, List.drop_zero]
      try simp only [Act.put, List.setIfInBounds_toArray, List.set_cons_succ, List.set_cons_zero]
      obtain ⟨hW5, k5⟩ : WebT (grow w4 x) base g B r R P (T ++ numT P done) sv (fun b => X b ∨ b = b3) ∧ KX (fun b => X b ∨ b = b3) w4 (grow w4 x) := hW4.below (x.kept w4)
      have cT := tri_T hW5 (outS k rk i, besS k (t + 1) R, besS k t R) h3 hlT
      replace cT := Lib.hid cT
      go_wp2_with (first | (go_at_call 26; (with_reducible refine cT.out.mono ?_); rintro e w6 ⟨rfl, k6, hW6⟩) | fail)
      go_roundw
      case rel =>
        refine ⟨i, t + 1, done ++ [(outS k rk i, besS k (t + 1) R, besS k t R)], by go_num, by go_num, by omega, by omega, by omega, Lib.hid ?_, ?_, kk4.trans (k5.trans k6)⟩
        · rw [← hdone.out, hst.out, List.append_assoc]; rfl
        · rw [show numT P (done ++ [(outS k rk i, besS k (t + 1) R, besS k t R)]) = numT P done ++ numT P [(outS k rk i, besS k (t + 1) R, besS k t R)] by simp [numT], ← List.append_assoc]
          exact hW6
      case measure => simp [intOf]; omega
    · have f1 : ¬ ((i : Int) < (rk : Int)) := by omega
      have f2b : (t : Int) < (R : Int) - 1 := by omega
      have hgo : ¬ goA rk R i t := fun h => by have := h.1; omega
      have hst := stp_B (k := k) hgo (by omega)
      have h3 : in3 P (outS k rk i, besS k (t + 1) R, besS k t R) := hP.out _ (by rw [← hdone.out, hst]; simp)
      have hlT : (T ++ numT P done).length < 100000 := by
        have := congrArg List.length hdone.out
        rw [List.length_append, strip_len] at this
        simp [numT]; omega
      have kO := souter_G k rk i hk hr1 (by omega) hr2
      have kB := sbeside_G k t R hk (by omega) (by omega) hR2 (rk : Int)
      have kB2 := sbeside_G k (t + 1) R hk (by omega) (by omega) hR2 (rk : Int)
      rw [show ((t + 1 : Nat) : Int) = (t : Int) + 1 by omega] at kB2
      replace hst := Lib.hid hst
      replace ht2 := Lib.hid ht2
      replace hi2 := Lib.hid hi2
      clear hgo
      go_upto_region 4 with (fail)
      refine wp_region_grow (by kernel_rfl) (by kernel_rfl) ?_
      repeat (go_big_quiet_step (((fail))))
      refine wpQuiet_nil ?_
      rintro _ ⟨xg, rfl⟩
      obtain ⟨hW4, k4⟩ : WebT (grow wr xg) base g B r R P (T ++ numT P done) sv (fun b => X b ∨ b = b3) ∧ KX (fun b => X b ∨ b = b3) wr (grow wr xg) := hWr.below (xg.kept _)
      generalize grow wr xg = w4 at *
      have kk4 := kWr.trans k4
      have hD4 : Blk w4 b3 39 #[.int .i64 (k : Int), .int .i64 (rk : Int)] := (k4.block b3 (.inr rfl)).trans hDr
      clear m8 lg d0 d1 lb hWr kWr hDr k4
      have m8 := hW4.most.1
      have lg := hW4.most.2
      have d0 : w4.cell? ⟨b3, 0, none⟩ = some (.int .i64 (k : Int)) := hD4.cell 0
      have d1 : w4.cell? ⟨b3, 1, none⟩ = some (.int .i64 (rk : Int)) := hD4.cell 1
      have lb := hD4.lt
      go_upto_region 7 with (fail)
      refine wp_region_tail 19 ?_ (by kernel_rfl) (by kernel_rfl) (by kernel_rfl) (fun x => ?_) (fun x => ?_)
      rotate_left
      · simp only [List.take_succ_cons, List.take_zero]
        repeat (go_big_quiet_step (((first | with_reducible exact kO.quiet _ | with_reducible exact kO.quiet2 _ _ | with_reducible exact kB2.quiet _ | with_reducible exact kB2.quiet2 _ _ | with_reducible exact kB.quiet _ | with_reducible exact kB.quiet2 _ _))))
        refine wpQuiet_nil ?_
        exact rfl
      simp only [List.drop_succ_cons, List.drop_zero]
      try simp only [Act.put, List.setIfInBounds_toArray, List.set_cons_succ, List.set_cons_zero]
      obtain ⟨hW5, k5⟩ : WebT (grow w4 x) base g B r R P (T ++ numT P done) sv (fun b => X b ∨ b = b3) ∧ KX (fun b => X b ∨ b = b3) w4 (grow w4 x) := hW4.below (x.kept w4)
      have cT := tri_T hW5 (outS k rk i, besS k (t + 1) R, besS k t R) h3 hlT
      replace cT := Lib.hid cT
      go_wp2_with (first | (go_at_call 26; (with_reducible refine cT.out.mono ?_); rintro e w6 ⟨rfl, k6, hW6⟩) | fail)
      go_roundw
      case rel =>
        refine ⟨i, t + 1, done ++ [(outS k rk i, besS k (t + 1) R, besS k t R)], by go_num, by go_num, by omega, by omega, by omega, Lib.hid ?_, ?_, kk4.trans (k5.trans k6)⟩
        · rw [← hdone.out, hst.out, List.append_assoc]; rfl
        · rw [show numT P (done ++ [(outS k rk i, besS k (t + 1) R, besS k t R)]) = numT P done ++ numT P [(outS k rk i, besS k (t + 1) R, besS k t R)] by simp [numT], ← List.append_assoc]
          exact hW6
      case measure => simp [intOf]; omega
    · have hnil : stpS k rk R (leftS rk R i t) i t = [] := by
        have : leftS rk R i t = 0 := by unfold leftS; omega
        rw [this]; rfl
      have hfin := hdone.out
      rw [hnil, List.append_nil] at hfin
      replace hfin := Lib.hid hfin
      have f1 : ¬ ((i : Int) < (rk : Int)) := by omega
      have f2b : ¬ ((t : Int) < (R : Int) - 1) := by omega
      clear hnil
      replace ht2 := Lib.hid ht2
      replace hi2 := Lib.hid hi2
      go_wp2
      refine bodyPost_end (v := .tuple #[]) (by simp [results, Try.results25, go_sem]) rfl ⟨rfl, kW2.trans (kWr.less fun b hb => .inl hb), ?_⟩
      rw [← hfin.out]
      exact hWr.less fun b hb => .inl hb
end Go.Proofs.Ytpdnaceggpdleaa
namespace Go.Proofs.Ytpdnaceggpdleaa
open Go.RowKit
set_option linter.unusedVariables false
set_option linter.unusedSimpArgs false
set_option linter.unnecessarySimpa false
set_option maxRecDepth 100000
def sumR (r : Nat → Nat) : Nat → Nat
  | 0 => 0
  | k + 1 => sumR r k + r k
theorem run_makeMap_hint {t k e : TypeId} (hu : Try.prog.underlying t = some (.map k e)) (n : Int) (w : World) : (Instr.makeMap t (some (.int .i64 n))).run Try.prog w = .ok (.map (some w.heap.size)) (w.alloc (.map #[] 0)) := by
  simp [Instr.makeMap, run_underlying hu, asInt, asIntOf, Result.andThen]
theorem sumR_le {r : Nat → Nat} : ∀ n, n ≤ 4 → (∀ k, k < 4 → r k ≤ 16) → sumR r n ≤ n * 16
  | 0, _, _ => Nat.le_refl _
  | n + 1, hn, h => by
    have := sumR_le n (by omega) h
    have := h n (by omega)
    show sumR r n + r n ≤ _
    omega
/-- A web's cells: the sides' parts at their places. -/
theorem web_part {W : World} {g : Nat} {t : TypeId} {r : Nat → Nat} {x y z u : Value} (h : Blk W g t #[.int .i64 0, .int .i64 (r 0 : Int), .int .i64 1, .int .i64 (r 1 : Int), .int .i64 2, .int .i64 (r 2 : Int), .int .i64 3, .int .i64 (r 3 : Int), x, y, z, u]) (k : Nat) (hk : k < 4) :
    W.cell? ⟨g, k * 2 + 1, none⟩ = some (.int .i64 (r k : Int)) ∧ W.cell? ⟨g, k * 2, none⟩ = some (.int .i64 (k : Int)) := by
  rcases four1 hk with rfl | rfl | rfl | rfl
  · exact ⟨h.cell 1, h.cell 0⟩
  · exact ⟨h.cell 3, h.cell 2⟩
  · exact ⟨h.cell 5, h.cell 4⟩
  · exact ⟨h.cell 7, h.cell 6⟩
@[reducible] def webE (r : Nat → Nat) (R : Nat) : Array Value := #[.int .i64 0, .int .i64 (r 0 : Int), .int .i64 1, .int .i64 (r 1 : Int), .int .i64 2, .int .i64 (r 2 : Int), .int .i64 3, .int .i64 (r 3 : Int), .int .i64 (R : Int), .slice none 0 0, .map none, .slice none 0 0]
set_option maxHeartbeats 2000000 in
theorem room_any (W : World) (g : Nat) (r : Nat → Nat) (R : Nat) (X : Nat → Prop) (hG : Blk W g 43 (webE r R)) (hr : ∀ k, k < 4 → 1 ≤ r k ∧ r k ≤ 16) (hR : 1 ≤ R) (hR2 : R ≤ 16) (hX : ∀ b, X b → b < W.heap.size ∧ b ≠ g) :
    Calls Try.prog 13 #[.pointer (some ⟨g, 0, none⟩)] W fun e W' => e = .returned (.tuple #[]) ∧ KX X W W' ∧ ∃ base B sv tv, W.heap.size ≤ base ∧ WebB W' base g B r R [] [] [] sv tv X := by
  have q1 : 0 ≤ ((R : Int) - 1) * ((R : Int) - 1) ∧ ((R : Int) - 1) * ((R : Int) - 1) ≤ 225 := by
    have e : ((R : Int) - 1) * ((R : Int) - 1) = (((R - 1) * (R - 1) : Nat) : Int) := by
      rw [Int.natCast_mul, show ((R - 1 : Nat) : Int) = (R : Int) - 1 by omega]
    have e2 : (R - 1) * (R - 1) ≤ 15 * 15 := Nat.mul_le_mul (by omega) (by omega)
    omega
  obtain ⟨q1a, q1b⟩ := q1
  obtain ⟨iw, hw⟩ : ∃ n : Nat, ((R : Int) - 1) * ((R : Int) - 1) = (n : Int) := ⟨(((R : Int) - 1) * ((R : Int) - 1)).toNat, by omega⟩
  have hi2 : iw ≤ 225 := by omega
  obtain ⟨i0, hi0, hz0, hz1, hz2⟩ := info_ofW infoSp
  obtain ⟨j0, hj0, hy0, hy1, hy2⟩ := info_ofW infoTr
  have c8 : W.cell? ⟨g, 8, none⟩ = some (.int .i64 (R : Int)) := hG.cell 8
  have lg := hG.lt
  replace hr := Lib.hid hr
  go_enter Try.func13, Try.ntmps13
  go_upto_region 0 with (fail)
  refine wp_region_grow (by kernel_rfl) (by kernel_rfl) ?_
  repeat (go_big_quiet_step (((fail))))
  refine wpQuiet_nil ?_
  rintro _ ⟨xg, rfl⟩
  have hG0 := hG.grow xg
  have k0 : KX X W (grow W xg) := KX.of (fun b hb => (hX b hb).1) (xg.kept W)
  have hs0 : W.heap.size ≤ (grow W xg).heap.size := (xg.kept W).size
  generalize grow W xg = w0 at *
  clear c8 lg
  replace hw := Lib.hid hw
  have hmm := run_makeMap_hint Try.underlying41
  have hlo : ∀ k, k < 4 → 1 ≤ sumR r (k + 1) := fun k hk => by
    have := (hr.out k hk).1
    show 1 ≤ sumR r k + r k
    omega
  have hso : sumR r 4 ≤ 64 := sumR_le 4 (by omega) (fun k hk => (hr.out k hk).2)
  have hs4 : 4 ≤ sumR r 4 := by
    have h0 := (hr.out 0 (by omega)).1
    have h1 := (hr.out 1 (by omega)).1
    have h2 := (hr.out 2 (by omega)).1
    have h3 := (hr.out 3 (by omega)).1
    show 4 ≤ 0 + r 0 + r 1 + r 2 + r 3
    omega
  go_upto_region 1 with (fail)
  go_wp2
  go_loopw [16, 2] (fun kv av wr => ∃ k : Nat, kv = .int .i64 (k : Int) ∧ av = .int .i64 (sumR r k : Int) ∧ k ≤ 4 ∧ Blk wr g 43 (webE r R) ∧ KX X W wr) (fun kv _ _ => 4 - (intOf kv).toNat)
  case atStart => exact ⟨0, rfl, rfl, by omega, hG0, k0⟩
  case round =>
    obtain ⟨k, rfl, rfl, hk, hGr, kr⟩ := hrel
    have hsk : sumR r k ≤ 64 := Nat.le_trans (sumR_le k hk (fun k hk => (hr.out k hk).2)) (by omega)
    by_cases hk4 : k < 4
    · have hc := (web_part hGr k hk4).1
      have lg := hGr.lt
      have hrk := hr.out k hk4
      have e2 : sumR r (k + 1) = sumR r k + r k := rfl
      generalize r k = rk at *
      have q0 : (0 : Int) ≤ (k : Int) := by omega
      have q9 : (k : Int) < 4 := by omega
      replace e2 := Lib.hid e2
      go_wp2
      go_roundw
      case rel => exact ⟨k + 1, by go_num, by rw [e2.out]; go_num, by omega, hGr, kr⟩
      case measure => simp [intOf]; omega
    · obtain rfl : k = 4 := by omega
      have hszr := kr.size
      have lgr := hGr.lt
      rw [show ((4 : Nat) : Int) = 4 from rfl]
      generalize sumR r 4 = su at *
      clear hG0 k0 hs0
      go_upto_region 6 with (fail)
      have c10 : wr.cell? ⟨g, 10, none⟩ = some (.map none) := hGr.cell 10
      have fz := hGr.frozen
      go_upto_region 7 with (fail)
      obtain ⟨B, hB⟩ : ∃ B, B = wr.heap.size := ⟨_, rfl⟩
      have hsz5 : (wr.setCell ⟨g, 10, none⟩ (.map (some wr.heap.size))).heap.size = wr.heap.size := by simp [World.setCell]
      have hm6 : SpM ((wr.setCell ⟨g, 10, none⟩ (.map (some wr.heap.size))).alloc (.map #[] 0)) wr.heap.size [] := by
        have := SpM.made (wr.setCell ⟨g, 10, none⟩ (.map (some wr.heap.size)))
        rw [hsz5] at this
        exact this
      have hG6 : Blk ((wr.setCell ⟨g, 10, none⟩ (.map (some wr.heap.size))).alloc (.map #[] 0)) g 43 #[.int .i64 0, .int .i64 (r 0 : Int), .int .i64 1, .int .i64 (r 1 : Int), .int .i64 2, .int .i64 (r 2 : Int), .int .i64 3, .int .i64 (r 3 : Int), .int .i64 (R : Int), .slice none 0 0, .map (some wr.heap.size), .slice none 0 0] := (hGr.set 10 _).alloc _
      have k5 : KX X W (wr.setCell ⟨g, 10, none⟩ (.map (some wr.heap.size))) := kr.trans (KX.grown (fun b hb => ⟨by have := (hX b hb).1; omega, by intro e; cases e; exact (hX _ hb).2 rfl⟩) (setW_grown _ _ _ _))
      have k6 : KX X W ((wr.setCell ⟨g, 10, none⟩ (.map (some wr.heap.size))).alloc (.map #[] 0)) := k5.trans (KX.of (fun b hb => by have := (hX b hb).1; rw [hsz5]; omega) (bel_alloc (Below.refl _ _) _))
      have s6 : wr.heap.size < ((wr.setCell ⟨g, 10, none⟩ (.map (some wr.heap.size))).alloc (.map #[] 0)).heap.size := by rw [World.size_alloc, hsz5]; omega
      clear hsz5 k5
      generalize (wr.setCell ⟨g, 10, none⟩ (.map (some wr.heap.size))).alloc (.map #[] 0) = w6 at *
      rw [← hB] at hm6 hG6 s6 ⊢
      have hBg : B ≠ g := by omega
      have hBl : W.heap.size ≤ B := by omega
      clear hB hGr kr c10 fz lgr
      obtain ⟨base, hbase⟩ : ∃ b, b = w6.heap.size := ⟨_, rfl⟩
      have lg6 := hG6.lt
      have c9 : w6.cell? ⟨g, 9, none⟩ = some (.slice none 0 0) := hG6.cell 9
      have c9f : w6.frozen? ⟨g, 9, none⟩ = false := hG6.frozen 9
      go_upto_region 8 with (first | ((refine wpList_make_own _ rfl _ _ _ rfl w6.heap.size 29 i0 _ 3 Try.underlying24 hi0 hz0 hz1 .i64 .i64 ((su : Int) + (iw : Int)) (su + iw) rfl rfl (by omega) (by rw [hz2]; omega) (by unfold maxLen; omega) (Nat.le_refl _) ?_); intro w7 own7 hg7; have b7 : Below w6.heap.size w6 w7 := ⟨hg7.os, hg7.tape, hg7.output, hg7.size, fun k hk => hg7.block k hk (by simp)⟩; have c9a := (hG6.below b7).cell 9; have c9b := (hG6.below b7).frozen 9; have c9l := (hG6.below b7).lt; simp only [List.getElem?_toArray, List.getElem?_cons_succ, List.getElem?_cons_zero] at c9a) | fail)
      have hG7 := hG6.below b7
      have hm7 := hm6.kept hg7 (by simp)
      have k7 := k6.trans (KX.of (fun b hb => by have := (hX b hb).1; omega) b7)
      have hG8 : Blk (w7.setCell ⟨g, 9, none⟩ (.slice (some ⟨w6.heap.size, 0, none⟩) 0 (su + iw))) g 43 #[.int .i64 0, .int .i64 (r 0 : Int), .int .i64 1, .int .i64 (r 1 : Int), .int .i64 2, .int .i64 (r 2 : Int), .int .i64 3, .int .i64 (r 3 : Int), .int .i64 (R : Int), .slice (some ⟨w6.heap.size, 0, none⟩) 0 (su + iw), .map (some B), .slice none 0 0] := hG7.set 9 _
      have hm8 := hm7.kept (setW_grown w7 g 9 (.slice (some ⟨w6.heap.size, 0, none⟩) 0 (su + iw))) (by intro e; cases e; exact hBg rfl)
      have own8 := ownW_set own7 lg6 9 (.slice (some ⟨w6.heap.size, 0, none⟩) 0 (su + iw))
      have k8 := k7.trans (KX.grown (fun b hb => ⟨by have := (hX b hb).1; have := b7.size; omega, by intro e; cases e; exact (hX _ hb).2 rfl⟩) (setW_grown w7 g 9 (.slice (some ⟨w6.heap.size, 0, none⟩) 0 (su + iw))))
      have s8 := (setW_grown w7 g 9 (.slice (some ⟨w6.heap.size, 0, none⟩) 0 (su + iw))).size
      have s7 := b7.size
      clear c9a c9b c9l
      generalize w7.setCell ⟨g, 9, none⟩ (.slice (some ⟨w6.heap.size, 0, none⟩) 0 (su + iw)) = w8 at *
      clear hG7 hm7 hG6 hm6 own7 hg7 b7 k6 k7 c9 c9f
      have lg8 := hG8.lt
      have c11 : w8.cell? ⟨g, 11, none⟩ = some (.slice none 0 0) := hG8.cell 11
      have c11f : w8.frozen? ⟨g, 11, none⟩ = false := hG8.frozen 11
      go_wp2_with (first | ((refine wpList_make_own _ rfl _ _ _ rfl w6.heap.size 30 j0 _ 3 Try.underlying25 hj0 hy0 hy1 .i64 .i64 ((su : Int) + 2 * (iw : Int) - 2) (su + 2 * iw - 2) rfl rfl (by omega) (by rw [hy2]; omega) (by unfold maxLen; omega) (by omega) ?_); intro w9 own9 hg9; have b9 : Below w8.heap.size w8 w9 := ⟨hg9.os, hg9.tape, hg9.output, hg9.size, fun k hk => hg9.block k hk (by simp)⟩; have c9a := (hG8.below b9).cell 11; have c9b := (hG8.below b9).frozen 11; have c9l := (hG8.below b9).lt; simp only [List.getElem?_toArray, List.getElem?_cons_succ, List.getElem?_cons_zero] at c9a) | fail)
      have hG9 := hG8.below b9
      have hG10 : Blk (w9.setCell ⟨g, 11, none⟩ (.slice (some ⟨w8.heap.size, 0, none⟩) 0 (su + 2 * iw - 2))) g 43 (webC r R B (.slice (some ⟨w6.heap.size, 0, none⟩) 0 (su + iw)) (.slice (some ⟨w8.heap.size, 0, none⟩) 0 (su + 2 * iw - 2))) := hG9.set 11 _
      have hm10 := (hm8.kept hg9 (by simp)).kept (setW_grown w9 g 11 (.slice (some ⟨w8.heap.size, 0, none⟩) 0 (su + 2 * iw - 2))) (by intro e; cases e; exact hBg rfl)
      have sp10 := ownW_set (ownW_lay own8 b9) lg6 11 (.slice (some ⟨w8.heap.size, 0, none⟩) 0 (su + 2 * iw - 2))
      have tr10 := ownW_set own9 lg6 11 (.slice (some ⟨w8.heap.size, 0, none⟩) 0 (su + 2 * iw - 2))
      have s9 := b9.size
      have k9 := k8.trans (KX.of (fun b hb => by have := (hX b hb).1; omega) b9)
      have k10 := k9.trans (KX.grown (fun b hb => ⟨by have := (hX b hb).1; omega, by intro e; cases e; exact (hX _ hb).2 rfl⟩) (setW_grown w9 g 11 (.slice (some ⟨w8.heap.size, 0, none⟩) 0 (su + 2 * iw - 2))))
      have s10 := (setW_grown w9 g 11 (.slice (some ⟨w8.heap.size, 0, none⟩) 0 (su + 2 * iw - 2))).size
      have own7l : w6.heap.size < w8.heap.size := (ownW_block own8 _ rfl).2
      clear c9a c9b c9l c11 c11f hG8 hG9 hm8 own8 own9 hg9 b9 k8 k9
      refine bodyPost_end (v := .tuple #[]) (by simp [results, Try.results13, go_sem]) rfl ⟨rfl, k10, w6.heap.size, B, _, _, by omega, hG10, lg6, s6, hBg, by omega, sp10, tr10, ?_, hm10, fun b hb => ⟨?_, (hX b hb).2, ?_, ?_, ?_⟩⟩
      · intro k e1 e2
        simp only [Value.ownBlock, Option.some.injEq] at e1 e2
        omega
      · have := (hX b hb).1; omega
      · have := (hX b hb).1; omega
      · intro e
        simp only [Value.ownBlock, Option.some.injEq] at e
        have := (hX b hb).1; omega
      · intro e
        simp only [Value.ownBlock, Option.some.injEq] at e
        have := (hX b hb).1; omega
end Go.Proofs.Ytpdnaceggpdleaa
namespace Go.Proofs.Ytpdnaceggpdleaa
open Go.RowKit
set_option linter.unusedVariables false
set_option linter.unusedSimpArgs false
set_option linter.unnecessarySimpa false
set_option maxRecDepth 100000
/-- The web, its row of spots wherever it lies. -/
def WebS (W : World) (base g B : Nat) (r : Nat → Nat) (R : Nat) (P : List Spt) (T : List NTri) (tv : Value) (X : Nat → Prop) : Prop := ∃ sv, WebB W base g B r R P P T sv tv X
theorem WebS.grow {W : World} {base g B : Nat} {r : Nat → Nat} {R : Nat} {P : List Spt} {T : List NTri} {tv : Value} {X : Nat → Prop} (h : WebS W base g B r R P T tv X) (x : More) : WebS (grow W x) base g B r R P T tv X ∧ KX X W (Go.Proofs.Ytpdnaceggpdleaa.grow W x) := by
  obtain ⟨sv, h⟩ := h; exact ⟨⟨sv, (h.below (x.kept W)).1⟩, (h.below (x.kept W)).2⟩
theorem WebS.most {W : World} {base g B : Nat} {r : Nat → Nat} {R : Nat} {P : List Spt} {T : List NTri} {tv : Value} {X : Nat → Prop} (h : WebS W base g B r R P T tv X) : W.cell? ⟨g, 8, none⟩ = some (.int .i64 (R : Int)) ∧ g < W.heap.size ∧ ∀ k, k < 4 → W.cell? ⟨g, k * 2 + 1, none⟩ = some (.int .i64 (r k : Int)) ∧ W.cell? ⟨g, k * 2, none⟩ = some (.int .i64 (k : Int)) := by
  obtain ⟨sv, h⟩ := h; exact ⟨h.blk.cell 8, h.blk.lt, fun k hk => web_part h.blk k hk⟩
theorem spot_S {W : World} {base g B : Nat} {r : Nat → Nat} {R : Nat} {P : List Spt} {T : List NTri} {tv : Value} {X : Nat → Prop} (h : WebS W base g B r R P T tv X) (s : Spt) (hs : rngS s) (hn : s ∉ P) (hl : P.length < 100000) :
    Calls Try.prog 20 #[.pointer (some ⟨g, 0, none⟩), sV s] W fun e W' => e = .returned (.tuple #[]) ∧ KX X W W' ∧ WebS W' base g B r R (P ++ [s]) T tv X := by
  obtain ⟨sv, h⟩ := h
  exact spot_any W base g B r R P T sv tv X h s hs hn hl
theorem rng_cor {k : Nat} (hk : k < 4) : rngS (corS k) := by unfold rngS corS i64W; simp only; omega
theorem rng_edg {k i : Nat} (hk : k < 4) (hi : i ≤ 16) : rngS (edgS k i) := by unfold rngS edgS i64W; simp only; omega
theorem rng_inn {a b : Nat} (ha : a ≤ 16) (hb : b ≤ 16) : rngS (innS a b) := by unfold rngS innS i64W; simp only; omega
theorem mem_cors {n : Nat} {s : Spt} (h : s ∈ corsS n) : ∃ k, k < n ∧ s = corS k := by
  unfold corsS at h
  obtain ⟨i, h1, h2⟩ := mem_upTo.1 h
  exact ⟨i, h1, List.mem_singleton.1 h2⟩
theorem mem_edge {k n : Nat} {s : Spt} (h : s ∈ edgeS k n) : ∃ i, 1 ≤ i ∧ i ≤ n ∧ s = edgS k i := by
  unfold edgeS at h
  obtain ⟨i, h1, h2⟩ := mem_upTo.1 h
  exact ⟨i + 1, by omega, by omega, List.mem_singleton.1 h2⟩
theorem mem_edges {r : Nat → Nat} {n : Nat} {s : Spt} (h : s ∈ edgesS r n) : ∃ k i, k < n ∧ s = edgS k i := by
  unfold edgesS at h
  obtain ⟨k, h1, h2⟩ := mem_upTo.1 h
  obtain ⟨i, _, _, h3⟩ := mem_edge h2
  exact ⟨k, i, h1, h3⟩
theorem mem_row {b n : Nat} {s : Spt} (h : s ∈ rowS b n) : ∃ a, 1 ≤ a ∧ a ≤ n ∧ s = innS a (b + 1) := by
  unfold rowS at h
  obtain ⟨i, h1, h2⟩ := mem_upTo.1 h
  exact ⟨i + 1, by omega, by omega, List.mem_singleton.1 h2⟩
theorem mem_rows {R n : Nat} {s : Spt} (h : s ∈ rowsS R n) : ∃ a b, b ≤ n ∧ s = innS a b := by
  unfold rowsS at h
  obtain ⟨b, h1, h2⟩ := mem_upTo.1 h
  obtain ⟨a, _, _, h3⟩ := mem_row h2
  exact ⟨a, b + 1, by omega, h3⟩
theorem cor_new (k : Nat) : corS k ∉ corsS k := fun h => by
  obtain ⟨i, h1, h2⟩ := mem_cors h
  have := corS_inj h2
  omega
theorem edg_new {r : Nat → Nat} {k i : Nat} : edgS k (i + 1) ∉ corsS 4 ++ edgesS r k ++ edgeS k i := fun h => by
  rw [List.mem_append, List.mem_append] at h
  rcases h with (h | h) | h
  · obtain ⟨j, _, h2⟩ := mem_cors h
    unfold edgS corS at h2; simp at h2
  · obtain ⟨j, u, h1, h2⟩ := mem_edges h
    have := edgS_inj h2; omega
  · obtain ⟨j, _, h1, h2⟩ := mem_edge h
    have := edgS_inj h2; omega
theorem inn_new {r : Nat → Nat} {R a b : Nat} : innS (a + 1) (b + 1) ∉ corsS 4 ++ edgesS r 4 ++ rowsS R b ++ rowS b a := fun h => by
  rw [List.mem_append, List.mem_append, List.mem_append] at h
  rcases h with ((h | h) | h) | h
  · obtain ⟨j, _, h2⟩ := mem_cors h
    unfold innS corS at h2; simp at h2
  · obtain ⟨j, u, h1, h2⟩ := mem_edges h
    unfold innS edgS at h2; simp at h2
  · obtain ⟨j, u, h1, h2⟩ := mem_rows h
    have := innS_inj h2; omega
  · obtain ⟨j, _, h1, h2⟩ := mem_row h
    have := innS_inj h2; omega
theorem edges_len_le {r : Nat → Nat} (h : ∀ k, k < 4 → 1 ≤ r k ∧ r k ≤ 16) : ∀ n, n ≤ 4 → (edgesS r n).length ≤ n * 16
  | 0, _ => by simp [edgesS, upTo]
  | n + 1, hn => by
    have := edges_len_le h n (by omega)
    have h2 := (h n (by omega)).2
    show (edgesS r n ++ edgeS n (r n - 1)).length ≤ _
    rw [List.length_append, edge_len]
    omega
theorem rows_len_le {R n : Nat} (hR : R ≤ 16) (hn : n ≤ 16) : (rowsS R n).length ≤ 256 := by
  rw [rows_len]
  exact Nat.le_trans (Nat.mul_le_mul hn (show R - 1 ≤ 16 by omega)) (by omega)
set_option maxHeartbeats 4000000 in
theorem lay_any (W : World) (base g B : Nat) (r : Nat → Nat) (R : Nat) (tv : Value) (X : Nat → Prop) (h : WebS W base g B r R [] [] tv X) (hr : ∀ k, k < 4 → 1 ≤ r k ∧ r k ≤ 16) (hR : 1 ≤ R) (hR2 : R ≤ 16) :
    Calls Try.prog 14 #[.pointer (some ⟨g, 0, none⟩)] W fun e W' => e = .returned (.tuple #[]) ∧ KX X W W' ∧ WebS W' base g B r R (spotsR r R) [] tv X := by
  have kC := corner_G
  have kI := inner_G
  replace hr := Lib.hid hr
  go_enter Try.func14, Try.ntmps14
  go_upto_region 1 with (fail)
  go_wp2
  go_loopw [7] (fun kv wr => ∃ k : Nat, kv = .int .i64 (k : Int) ∧ k ≤ 4 ∧ WebS wr base g B r R (corsS k) [] tv X ∧ KX X W wr) (fun kv _ => 4 - (intOf kv).toNat)
  case atStart => exact ⟨0, rfl, by omega, h, KX.refl _ _⟩
  case round =>
    obtain ⟨k, rfl, hk, hS, kr⟩ := hrel
    by_cases hk4 : k < 4
    · have cS := fun x : More => spot_S (hS.grow x).1 (corS k) (rng_cor hk4) (cor_new k) (by rw [cors_len]; omega)
      have k2 := kC (k : Int)
      have q9 : (k : Int) < 4 := by omega
      have q0 : (0 : Int) ≤ (k : Int) := by omega
      replace cS := Lib.hid cS
      go_wp2_with (first | (go_at_call 21; (with_reducible refine (k2.at_ _).mono ?_); rintro e w' ⟨rfl, xg, rfl⟩) | (go_at_call 20; (refine (cS.out _).mono ?_); rintro e w3 ⟨rfl, k3, hS3⟩) | fail)
      go_roundw
      case rel => exact ⟨k + 1, by go_num, by omega, hS3, (kr.trans (hS.grow xg).2).trans k3⟩
      case measure => simp [intOf]; omega
    · obtain rfl : k = 4 := by omega
      rw [show ((4 : Nat) : Int) = 4 from rfl]
      have hlenE := edges_len_le hr.out
      replace hlenE := Lib.hid hlenE
      go_upto_region 5 with (fail)
      go_wp2
      go_loopw [15] (fun kv wr => ∃ k : Nat, kv = .int .i64 (k : Int) ∧ k ≤ 4 ∧ WebS wr base g B r R (corsS 4 ++ edgesS r k) [] tv X ∧ KX X W wr) (fun kv _ => 4 - (intOf kv).toNat)
      case atStart => exact ⟨0, rfl, by omega, by simpa [edgesS, upTo] using hS, kr⟩
      case round =>
        obtain ⟨k, rfl, hk, hS, kr⟩ := hrel
        by_cases hk4 : k < 4
        · have q9 : (k : Int) < 4 := by omega
          have q0 : (0 : Int) ≤ (k : Int) := by omega
          have hrk := hr.out k hk4
          go_upto_region 8 with (fail)
          go_wp2
          go_loopw [4] (fun iv wr => ∃ i : Nat, iv = .int .i64 ((i : Int) + 1) ∧ i + 1 ≤ r k ∧ WebS wr base g B r R (corsS 4 ++ edgesS r k ++ edgeS k i) [] tv X ∧ KX X W wr) (fun iv _ => 20 - (intOf iv).toNat)
          case atStart => exact ⟨0, rfl, by omega, by simpa [edgeS, upTo] using hS, kr⟩
          case round =>
            obtain ⟨i, rfl, hi, hSi, kri⟩ := hrel
            have hc := hSi.most.2.2 k hk4
            have lg := hSi.most.2.1
            obtain ⟨c1, c0⟩ := hc
            by_cases hlt : i + 1 < r k
            · have hlen : (corsS 4 ++ edgesS r k ++ edgeS k i).length < 100000 := by
                rw [List.length_append, List.length_append, cors_len, edge_len]
                have := hlenE.out k hk
                omega
              have cS := fun x : More => spot_S (hSi.grow x).1 (edgS k (i + 1)) (rng_edg hk4 (by omega)) edg_new hlen
              have kO := souter_G k (r k) (i + 1) hk4 hrk.1 (by omega) hrk.2
              rw [out_mid (by omega) hlt, show ((i + 1 : Nat) : Int) = (i : Int) + 1 by omega] at kO
              replace cS := Lib.hid cS
              have e2 := Lib.hid (show r k = r k from rfl)
              generalize hrke : (r k : Int) = rk at *
              have q3 : (i : Int) + 1 < rk := by omega
              replace hrke := Lib.hid hrke
              go_wp2_with (first | (go_at_call 22; (with_reducible refine (kO.at_ _).mono ?_); rintro e w' ⟨rfl, xg, rfl⟩) | (go_at_call 20; (refine (cS.out _).mono ?_); rintro e w3 ⟨rfl, k3, hS3⟩) | fail)
              go_roundw
              case rel =>
                refine ⟨i + 1, by go_num, by omega, ?_, (kri.trans (hSi.grow xg).2).trans k3⟩
                rw [List.append_assoc] at hS3
                exact hS3
              case measure => simp [intOf]; omega
            · have e9 : i = r k - 1 := by omega
              rw [e9] at hSi
              have e8 : (i : Int) + 1 = (r k : Int) := by omega
              rw [e8]
              clear e9 hi hlt e8
              go_wp2
              go_roundw
              case rel =>
                refine ⟨k + 1, by go_num, by omega, ?_, kri⟩
                rw [List.append_assoc] at hSi
                exact hSi
              case measure => simp [intOf]; omega
        · obtain rfl : k = 4 := by omega
          rw [show ((4 : Nat) : Int) = 4 from rfl]
          have hlen4 := hlenE.out 4 (by omega)
          go_upto_region 13 with (fail)
          go_wp2
          go_loopw [5] (fun bv wr => ∃ b : Nat, bv = .int .i64 ((b : Int) + 1) ∧ b + 1 ≤ R ∧ WebS wr base g B r R (corsS 4 ++ edgesS r 4 ++ rowsS R b) [] tv X ∧ KX X W wr) (fun bv _ => 20 - (intOf bv).toNat)
          case atStart => exact ⟨0, rfl, by omega, by simpa [rowsS, upTo] using hS, kr⟩
          case round =>
            obtain ⟨b, rfl, hb, hS, kr⟩ := hrel
            have hc := hS.most.1
            have lg := hS.most.2.1
            by_cases hblt : b + 1 < R
            · have q3 : (b : Int) + 1 < (R : Int) := by omega
              go_upto_region 16 with (fail)
              go_wp2
              go_loopw [6] (fun av wr => ∃ a : Nat, av = .int .i64 ((a : Int) + 1) ∧ a + 1 ≤ R ∧ WebS wr base g B r R (corsS 4 ++ edgesS r 4 ++ rowsS R b ++ rowS b a) [] tv X ∧ KX X W wr) (fun av _ => 20 - (intOf av).toNat)
              case atStart => exact ⟨0, rfl, by omega, by simpa [rowS, upTo] using hS, kr⟩
              case round =>
                obtain ⟨a, rfl, ha, hSa, kra⟩ := hrel
                clear hc lg
                have hc := hSa.most.1
                have lg := hSa.most.2.1
                by_cases halt : a + 1 < R
                · have hlen : (corsS 4 ++ edgesS r 4 ++ rowsS R b ++ rowS b a).length < 100000 := by
                    rw [List.length_append, List.length_append, List.length_append, cors_len, row_len]
                    have := rows_len_le (R := R) (n := b) hR2 (by omega)
                    omega
                  have cS := fun x : More => spot_S (hSa.grow x).1 (innS (a + 1) (b + 1)) (rng_inn (by omega) (by omega)) inn_new hlen
                  have k2 := kI ((a : Int) + 1) ((b : Int) + 1)
                  have q4 : (a : Int) + 1 < (R : Int) := by omega
                  replace cS := Lib.hid cS
                  go_wp2_with (first | (go_at_call 23; (with_reducible refine (k2.at_ _).mono ?_); rintro e w' ⟨rfl, xg, rfl⟩) | (go_at_call 20; (refine (cS.out _).mono ?_); rintro e w3 ⟨rfl, k3, hS3⟩) | fail)
                  go_roundw
                  case rel =>
                    refine ⟨a + 1, by go_num, by omega, ?_, (kra.trans (hSa.grow xg).2).trans k3⟩
                    rw [List.append_assoc] at hS3
                    exact hS3
                  case measure => simp [intOf]; omega
                · have e9 : a = R - 1 := by omega
                  rw [e9] at hSa
                  have e8 : (a : Int) + 1 = (R : Int) := by omega
                  rw [e8]
                  clear e9 ha halt e8
                  go_wp2
                  go_roundw
                  case rel =>
                    refine ⟨b + 1, by go_num, by omega, ?_, kra⟩
                    rw [List.append_assoc] at hSa
                    exact hSa
                  case measure => simp [intOf]; omega
            · have e9 : b = R - 1 := by omega
              rw [e9] at hS
              have e8 : (b : Int) + 1 = (R : Int) := by omega
              rw [e8]
              clear e9 hb hblt e8
              go_wp2
              refine bodyPost_end (v := .tuple #[]) (by simp [results, Try.results14, go_sem]) rfl ⟨rfl, kr, hS⟩
end Go.Proofs.Ytpdnaceggpdleaa
namespace Go.Proofs.Ytpdnaceggpdleaa
open Go.RowKit
set_option linter.unusedVariables false
set_option linter.unusedSimpArgs false
set_option linter.unnecessarySimpa false
set_option maxRecDepth 100000
theorem inn_in {r : Nat → Nat} {R a b : Nat} (h1 : 1 ≤ a) (h2 : a < R) (h3 : 1 ≤ b) (h4 : b < R) : innS a b ∈ spotsR r R := mem_spots.2 (.inr (.inr ⟨a, b, h1, h2, h3, h4, rfl⟩))
theorem cor_in {r : Nat → Nat} {R k : Nat} (h : k < 4) : corS k ∈ spotsR r R := mem_spots.2 (.inl ⟨k, h, rfl⟩)
theorem out_in {r : Nat → Nat} {R k i : Nat} (hk : k < 4) (hr : 1 ≤ r k) (hi : i ≤ r k) : outS k (r k) i ∈ spotsR r R := by
  by_cases h0 : i = 0
  · subst h0; exact cor_in hk
  · by_cases h1 : i = r k
    · rw [h1, out_end hr]; exact cor_in (by omega)
    · rw [out_mid (by omega) (by omega)]
      exact mem_spots.2 (.inr (.inl ⟨k, i, hk, by omega, by omega, rfl⟩))
theorem bes_in {r : Nat → Nat} {R k t : Nat} (hk : k < 4) (h1 : 1 ≤ t) (h2 : t < R) : besS k t R ∈ spotsR r R := by
  rcases four1 hk with rfl | rfl | rfl | rfl
  · exact inn_in h1 h2 (by omega) (by omega)
  · exact inn_in (by omega) (by omega) h1 h2
  · exact inn_in (by omega) (by omega) (by omega) (by omega)
  · exact inn_in (by omega) (by omega) (by omega) (by omega)
theorem stp_in3 {r : Nat → Nat} {R k : Nat} (hk : k < 4) (hr : 1 ≤ r k) (hR : 2 ≤ R) : ∀ n i t, i ≤ r k → 1 ≤ t → t ≤ R - 1 → leftS (r k) R i t = n → ∀ x ∈ stpS k (r k) R n i t, in3 (spotsR r R) x
  | 0, i, t, _, _, _, _, x, hx => by simp [stpS] at hx
  | n + 1, i, t, hi, ht1, ht, hn, x, hx => by
    unfold stpS at hx
    by_cases hg : goA (r k) R i t
    · rw [if_pos hg] at hx
      obtain ⟨h1, h2⟩ := left_A hg hn
      rcases List.mem_cons.1 hx with rfl | hx
      · exact ⟨out_in hk hr hi, out_in hk hr h2, bes_in hk ht1 (by omega)⟩
      · exact stp_in3 hk hr hR n (i + 1) t h2 ht1 ht h1 x hx
    · rw [if_neg hg] at hx
      have hlt := not_goA hg hi ht hn
      obtain ⟨h1, h2⟩ := left_B hlt hn
      rcases List.mem_cons.1 hx with rfl | hx
      · exact ⟨out_in hk hr hi, bes_in hk (by omega) (by omega), bes_in hk ht1 (by omega)⟩
      · exact stp_in3 hk hr hR n i (t + 1) hi (by omega) h2 h1 x hx
theorem strip_in3 {r : Nat → Nat} {R k : Nat} (hk : k < 4) (hr : 1 ≤ r k) (hR : 2 ≤ R) : ∀ x ∈ stripS k (r k) R, in3 (spotsR r R) x :=
  stp_in3 hk hr hR _ 0 1 (by omega) (by omega) (by omega) rfl
theorem sqRows_len_le {R n : Nat} (hR : R ≤ 16) (hn : n ≤ 16) : (sqRows R n).length ≤ 512 := by
  rw [sqRows_len]
  exact Nat.le_trans (Nat.mul_le_mul hn (show (R - 2) * 2 ≤ 32 by omega)) (by omega)
theorem strips_len_le {r : Nat → Nat} {R : Nat} (hR : R ≤ 16) (h : ∀ k, k < 4 → r k ≤ 16) : ∀ n, n ≤ 4 → (stripsS r R n).length ≤ n * 32
  | 0, _ => by simp [stripsS, upTo]
  | n + 1, hn => by
    have := strips_len_le hR h n (by omega)
    have h2 := h n (by omega)
    show (stripsS r R n ++ stripS n (r n) R).length ≤ _
    rw [List.length_append, strip_len]
    omega
theorem numT_app (P : List Spt) (l m : List Tri) : numT P (l ++ m) = numT P l ++ numT P m := by simp [numT]
theorem numT_len (P : List Spt) (l : List Tri) : (numT P l).length = l.length := by simp [numT]
theorem WebT.grow {W : World} {base g B : Nat} {r : Nat → Nat} {R : Nat} {P : List Spt} {T : List NTri} {sv : Value} {X : Nat → Prop} (h : WebT W base g B r R P T sv X) (x : More) : WebT (Go.Proofs.Ytpdnaceggpdleaa.grow W x) base g B r R P T sv X ∧ KX X W (Go.Proofs.Ytpdnaceggpdleaa.grow W x) := h.below (x.kept W)
theorem WebT.part {W : World} {base g B : Nat} {r : Nat → Nat} {R : Nat} {P : List Spt} {T : List NTri} {sv : Value} {X : Nat → Prop} (h : WebT W base g B r R P T sv X) : ∀ k, k < 4 → W.cell? ⟨g, k * 2 + 1, none⟩ = some (.int .i64 (r k : Int)) ∧ W.cell? ⟨g, k * 2, none⟩ = some (.int .i64 (k : Int)) := by
  obtain ⟨tv, h⟩ := h; exact fun k hk => web_part h.blk k hk
set_option maxHeartbeats 4000000 in
theorem fill_any (W : World) (base g B : Nat) (r : Nat → Nat) (R : Nat) (sv : Value) (X : Nat → Prop) (h : WebT W base g B r R (spotsR r R) [] sv X) (hr : ∀ k, k < 4 → 1 ≤ r k ∧ r k ≤ 16) (hR : 1 ≤ R) (hR2 : R ≤ 16) :
    Calls Try.prog 15 #[.pointer (some ⟨g, 0, none⟩)] W fun e W' => e = .returned (.tuple #[]) ∧ KX X W W' ∧ WebT W' base g B r R (spotsR r R) (numT (spotsR r R) (trisR r R)) sv X := by
  have m8 := h.most.1
  have lg := h.most.2
  replace hr := Lib.hid hr
  by_cases hR1 : R = 1
  · subst hR1
    have k0 := corner_G 0
    have k1 := corner_G 1
    have k2 := corner_G 2
    have k3 := corner_G 3
    have cS := fun x : More => square_any (Go.Proofs.Ytpdnaceggpdleaa.grow W x) base g B r 1 (spotsR r 1) [] sv X (h.grow x).1 (corS 0) (corS 1) (corS 2) (corS 3) (cor_in (by omega)) (cor_in (by omega)) (cor_in (by omega)) (cor_in (by omega)) (by simp)
    replace cS := Lib.hid cS
    go_enter Try.func15, Try.ntmps15
    go_wp2_with (first | (go_at_call 21; first | ((with_reducible refine (k0.at_ _).mono ?_); rintro e w' ⟨rfl, xg, rfl⟩) | ((with_reducible refine (k1.at_ _).mono ?_); rintro e w' ⟨rfl, xg, rfl⟩) | ((with_reducible refine (k2.at_ _).mono ?_); rintro e w' ⟨rfl, xg, rfl⟩) | ((with_reducible refine (k3.at_ _).mono ?_); rintro e w' ⟨rfl, xg, rfl⟩)) | (go_at_call 24; (refine (cS.out _).mono ?_); rintro e w3 ⟨rfl, k3, hS3⟩) | fail)
    refine bodyPost_ret (v := .tuple #[]) (by simp [results, Try.results15, go_sem]) rfl ⟨rfl, (h.grow _).2.trans k3, ?_⟩
    unfold trisR
    rw [if_pos rfl]
    exact hS3
  · have q1 : ((R : Int) == 1) = false := by simp; omega
    have kI := inner_G
    have hR3 : 2 ≤ R := by omega
    go_enter Try.func15, Try.ntmps15
    go_upto_region 2 with (fail)
    go_wp2
    go_loopw [2] (fun bv wr => ∃ b : Nat, bv = .int .i64 ((b : Int) + 1) ∧ b + 2 ≤ R ∧ WebT wr base g B r R (spotsR r R) (numT (spotsR r R) (sqRows R b)) sv X ∧ KX X W wr) (fun bv _ => 20 - (intOf bv).toNat)
    case atStart => exact ⟨0, rfl, by omega, by simpa [numT, sqRows, upTo] using h, KX.refl _ _⟩
    case round =>
      obtain ⟨b, rfl, hb, hS, kr⟩ := hrel
      clear m8 lg
      have hc := hS.most.1
      have lg := hS.most.2
      by_cases hblt : b + 1 < R - 1
      · have q3 : (b : Int) + 1 < (R : Int) - 1 := by omega
        go_upto_region 5 with (fail)
        go_wp2
        go_loopw [3] (fun av wr => ∃ a : Nat, av = .int .i64 ((a : Int) + 1) ∧ a + 2 ≤ R ∧ WebT wr base g B r R (spotsR r R) (numT (spotsR r R) (sqRows R b ++ sqRow b a)) sv X ∧ KX X W wr) (fun av _ => 20 - (intOf av).toNat)
        case atStart => exact ⟨0, rfl, by omega, by simpa [sqRow, upTo] using hS, kr⟩
        case round =>
          obtain ⟨a, rfl, ha, hSa, kra⟩ := hrel
          clear hc lg
          have hc := hSa.most.1
          have lg := hSa.most.2
          by_cases halt : a + 1 < R - 1
          · have hlen : (numT (spotsR r R) (sqRows R b ++ sqRow b a)).length < 90000 := by
              rw [numT_len, List.length_append, sqRow_len]
              have := sqRows_len_le (R := R) (n := b) hR2 (by omega)
              omega
            have k1 := kI ((a : Int) + 1) ((b : Int) + 1)
            have k2 := kI ((a : Int) + 1 + 1) ((b : Int) + 1)
            have k3 := kI ((a : Int) + 1 + 1) ((b : Int) + 1 + 1)
            have k4 := kI ((a : Int) + 1) ((b : Int) + 1 + 1)
            have k2b := kI ((a : Int) + 2) ((b : Int) + 1)
            have k3b := kI ((a : Int) + 2) ((b : Int) + 2)
            have k4b := kI ((a : Int) + 1) ((b : Int) + 2)
            have q4 : (a : Int) + 1 < (R : Int) - 1 := by omega
            have cS := fun x : More => square_any (Go.Proofs.Ytpdnaceggpdleaa.grow wr x) base g B r R (spotsR r R) _ sv X (hSa.grow x).1 (innS (a + 1) (b + 1)) (innS (a + 1 + 1) (b + 1)) (innS (a + 1 + 1) (b + 1 + 1)) (innS (a + 1) (b + 1 + 1)) (inn_in (by omega) (by omega) (by omega) (by omega)) (inn_in (by omega) (by omega) (by omega) (by omega)) (inn_in (by omega) (by omega) (by omega) (by omega)) (inn_in (by omega) (by omega) (by omega) (by omega)) hlen
            replace cS := Lib.hid cS
            go_wp2_with (first | (go_at_call 23; first | ((with_reducible refine (k1.at_ _).mono ?_); rintro e w' ⟨rfl, xg, rfl⟩) | ((with_reducible refine (k2.at_ _).mono ?_); rintro e w' ⟨rfl, xg, rfl⟩) | ((with_reducible refine (k3.at_ _).mono ?_); rintro e w' ⟨rfl, xg, rfl⟩) | ((with_reducible refine (k4.at_ _).mono ?_); rintro e w' ⟨rfl, xg, rfl⟩) | ((with_reducible refine (k2b.at_ _).mono ?_); rintro e w' ⟨rfl, xg, rfl⟩) | ((with_reducible refine (k3b.at_ _).mono ?_); rintro e w' ⟨rfl, xg, rfl⟩) | ((with_reducible refine (k4b.at_ _).mono ?_); rintro e w' ⟨rfl, xg, rfl⟩)) | (go_at_call 24; (refine (cS.out _).mono ?_); rintro e w3 ⟨rfl, kS, hS3⟩) | fail)
            go_roundw
            case rel =>
              refine ⟨a + 1, by go_num, by omega, ?_, (kra.trans (hSa.grow _).2).trans kS⟩
              rw [← numT_app, List.append_assoc] at hS3
              exact hS3
            case measure => simp [intOf]; omega
          · have e9 : a = R - 2 := by omega
            rw [e9] at hSa
            have e8 : (a : Int) + 1 = (R : Int) - 1 := by omega
            rw [e8]
            clear e9 ha halt e8
            go_wp2
            go_roundw
            case rel => exact ⟨b + 1, by go_num, by omega, hSa, kra⟩
            case measure => simp [intOf]; omega
      · have e9 : b = R - 2 := by omega
        rw [e9] at hS
        have e8 : (b : Int) + 1 = (R : Int) - 1 := by omega
        rw [e8]
        clear e9 hb hblt e8
        go_upto_region 9 with (fail)
        go_wp2
        go_loopw [52] (fun kv wr => ∃ k : Nat, kv = .int .i64 (k : Int) ∧ k ≤ 4 ∧ WebT wr base g B r R (spotsR r R) (numT (spotsR r R) (sqRows R (R - 2) ++ stripsS r R k)) sv X ∧ KX X W wr) (fun kv _ => 4 - (intOf kv).toNat)
        case atStart => exact ⟨0, rfl, by omega, by simpa [stripsS, upTo] using hS, kr⟩
        case round =>
          obtain ⟨k, rfl, hk, hSk, krk⟩ := hrel
          by_cases hk4 : k < 4
          · clear hc lg
            have lg := hSk.most.2
            obtain ⟨c1, c0⟩ := hSk.part k hk4
            have hrk := hr.out k hk4
            have q9 : (k : Int) < 4 := by omega
            have q0 : (0 : Int) ≤ (k : Int) := by omega
            have hlen : (numT (spotsR r R) (sqRows R (R - 2) ++ stripsS r R k)).length < 50000 := by
              rw [numT_len, List.length_append]
              have := sqRows_len_le (R := R) (n := R - 2) hR2 (by omega)
              have := strips_len_le (r := r) hR2 (fun k hk => (hr.out k hk).2) k hk
              omega
            have cS := strip_any wr base g B r R (spotsR r R) _ sv X hSk k (r k) hk4 hrk.1 hrk.2 hR3 hR2 (strip_in3 hk4 hrk.1 hR3) hlen
            replace cS := Lib.hid cS
            go_wp2_with (first | (go_at_call 25; (refine cS.out.mono ?_); rintro e w3 ⟨rfl, kS, hS3⟩) | fail)
            go_roundw
            case rel =>
              refine ⟨k + 1, by go_num, by omega, ?_, krk.trans kS⟩
              rw [← numT_app, List.append_assoc] at hS3
              exact hS3
            case measure => simp [intOf]; omega
          · obtain rfl : k = 4 := by omega
            rw [show ((4 : Nat) : Int) = 4 from rfl]
            go_wp2
            refine bodyPost_end (v := .tuple #[]) (by simp [results, Try.results15, go_sem]) rfl ⟨rfl, krk, ?_⟩
            unfold trisR
            rw [if_neg hR1]
            exact hSk
end Go.Proofs.Ytpdnaceggpdleaa
namespace Go.Proofs.Ytpdnaceggpdleaa
open Go.RowKit
set_option linter.unusedVariables false
set_option linter.unusedSimpArgs false
set_option linter.unnecessarySimpa false
set_option maxRecDepth 100000
/-- A row of triples of numbers that lies somewhere. -/
def L3 (W : World) (A : Option Addr) (l : List Spt) : Prop := 0 < l.length → ∃ b off, A = some ⟨b, off, none⟩ ∧ b < W.heap.size ∧ ∀ i (h : i < l.length), W.cell? ⟨b, off + i * 3, none⟩ = some (.int .i64 l[i].1) ∧ W.cell? ⟨b, off + i * 3 + 1, none⟩ = some (.int .i64 l[i].2.1) ∧ W.cell? ⟨b, off + i * 3 + 2, none⟩ = some (.int .i64 l[i].2.2)
theorem L3.below {W W' : World} {A : Option Addr} {l : List Spt} (h : L3 W A l) (hb : Below W.heap.size W W') : L3 W' A l := fun hn => by
  obtain ⟨b, off, e, hl, hc⟩ := h hn
  exact ⟨b, off, e, Nat.lt_of_lt_of_le hl hb.size, fun i hi => ⟨(hb.cell (p := ⟨b, _, none⟩) hl).trans (hc i hi).1, (hb.cell (p := ⟨b, _, none⟩) hl).trans (hc i hi).2.1, (hb.cell (p := ⟨b, _, none⟩) hl).trans (hc i hi).2.2⟩⟩
def trZ (t : NTri) : Spt := ((t.1 : Int), (t.2.1 : Int), (t.2.2 : Int))
theorem trC_eq (T : List NTri) : trC T = spC (T.map trZ) := by simp [trC, spC, trZ, List.flatMap_map]
theorem spC_at : ∀ (l : List Spt) (i : Nat) (h : i < l.length), (spC l)[i * 3]? = some (.int .i64 l[i].1) ∧ (spC l)[i * 3 + 1]? = some (.int .i64 l[i].2.1) ∧ (spC l)[i * 3 + 2]? = some (.int .i64 l[i].2.2)
  | [], i, h => by simp at h
  | q :: l, 0, _ => ⟨rfl, rfl, rfl⟩
  | q :: l, i + 1, h => by
    have hi : i < l.length := by simpa using h
    obtain ⟨h1, h2, h3⟩ := spC_at l i hi
    have e : ∀ j, (spC (q :: l))[(i + 1) * 3 + j]? = (spC l)[i * 3 + j]? := fun j => by
      show (([.int .i64 q.1, .int .i64 q.2.1, .int .i64 q.2.2] : List Value) ++ spC l)[(i + 1) * 3 + j]? = _
      rw [List.getElem?_append_right (by show 3 ≤ _; omega)]
      congr 1
      show (i + 1) * 3 + j - 3 = _
      omega
    exact ⟨(e 0).trans h1, (e 1).trans h2, (e 2).trans h3⟩
theorem spC_len : ∀ l : List Spt, (spC l).length = l.length * 3
  | [] => rfl
  | q :: l => by
    have := spC_len l
    show (([.int .i64 q.1, .int .i64 q.2.1, .int .i64 q.2.2] : List Value) ++ spC l).length = _
    rw [List.length_append, this, List.length_cons]
    show 3 + l.length * 3 = (l.length + 1) * 3
    omega
theorem L3_own {W : World} {base : Nat} {T : TypeId} {A : Option Addr} {c : Nat} {l : List Spt} (h : W.ownsRow base T 3 (.slice A l.length c) l.length (spC l)) : L3 W A l := fun hn => by
  obtain ⟨_, h1 | ⟨g, cap, cur, h1, h2, h3, _⟩⟩ := id h
  · omega
  · simp only [Value.slice.injEq] at h1
    obtain ⟨rfl, _, rfl⟩ := h1
    refine ⟨g, 0, rfl, (Array.getElem?_eq_some_iff.1 h3).1, fun i hi => ?_⟩
    obtain ⟨e1, e2, e3⟩ := spC_at l i hi
    have hl := spC_len l
    rw [Nat.zero_add]
    exact ⟨(h.cellAt (i * 3) (by omega)).trans e1, (h.cellAt (i * 3 + 1) (by omega)).trans e2, (h.cellAt (i * 3 + 2) (by omega)).trans e3⟩
theorem own_len {W : World} {base : Nat} {e : TypeId} {size n : Nat} {v : Value} {xs : List Value} (h : W.ownsRow base e size v n xs) : ∃ A c, v = .slice A n c ∧ n ≤ c := by
  rcases h.2 with ⟨h1, h2⟩ | ⟨g, cap, cur, h1, _, _, h4, _⟩
  · subst h2; exact ⟨none, 0, h1, Nat.le_refl _⟩
  · exact ⟨_, _, h1, h4⟩
def mxI (q : Nat → Int) : Nat → Int
  | 0 => 0
  | k + 1 => max (mxI q k) (q k)
theorem mxI_nat {q : Nat → Int} {r : Nat → Nat} : ∀ n, (∀ k, k < n → q k = (r k : Int)) → mxI q n = (mxR r n : Int)
  | 0, _ => rfl
  | n + 1, h => by
    show max (mxI q n) (q n) = ((max (mxR r n) (r n) : Nat) : Int)
    rw [mxI_nat n (fun k hk => h k (by omega)), h n (by omega)]
    omega
theorem mxR_le {r : Nat → Nat} : ∀ n, (∀ k, k < n → r k ≤ 16) → mxR r n ≤ 16
  | 0, _ => by simp [mxR]
  | n + 1, h => by
    show max (mxR r n) (r n) ≤ 16
    have := mxR_le n (fun k hk => h k (by omega))
    have := h n (by omega)
    omega
theorem mxI_bd {q : Nat → Int} : ∀ n, (∀ k, k < n → 1 ≤ q k ∧ q k ≤ 16) → 0 ≤ mxI q n ∧ mxI q n ≤ 16
  | 0, _ => by simp [mxI]
  | n + 1, h => by
    show 0 ≤ max (mxI q n) (q n) ∧ max (mxI q n) (q n) ≤ 16
    have := mxI_bd n (fun k hk => h k (by omega))
    have := h n (by omega)
    omega
def plI (j k : Nat) : Int := if j < k then (j : Int) else 0
def prI (q : Nat → Int) (j k : Nat) : Int := if j < k then q j else 0
@[reducible] def webQ (q : Nat → Int) (k : Nat) : Array Value := #[.int .i64 (plI 0 k), .int .i64 (prI q 0 k), .int .i64 (plI 1 k), .int .i64 (prI q 1 k), .int .i64 (plI 2 k), .int .i64 (prI q 2 k), .int .i64 (plI 3 k), .int .i64 (prI q 3 k), .int .i64 (mxI q k), .slice none 0 0, .map none, .slice none 0 0]
@[reducible] def q4C (q : Nat → Int) : Array Value := #[.int .i64 (q 0), .int .i64 (q 1), .int .i64 (q 2), .int .i64 (q 3)]
def okQ (q : Nat → Int) : Prop := ∀ k, k < 4 → 1 ≤ q k ∧ q k ≤ 16
/-- What Weave answers: spots and triangles, somewhere behind what was there. -/
def WvA (W' : World) (q : Nat → Int) (e : Ending) (S : (Nat → Nat) → List Spt) (T : (Nat → Nat) → List NTri) : Prop :=
  (okQ q ∧ ∃ (r : Nat → Nat) (A1 A2 : Option Addr) (c1 c2 : Nat), (∀ k, k < 4 → q k = (r k : Int)) ∧ (∀ k, k < 4 → 1 ≤ r k ∧ r k ≤ 16) ∧ e = .returned (.tuple #[.slice A1 (S r).length c1, .slice A2 (T r).length c2, .bool true]) ∧ (S r).length ≤ c1 ∧ (T r).length ≤ c2 ∧ L3 W' A1 (S r) ∧ L3 W' A2 ((T r).map trZ)) ∨
  (¬ okQ q ∧ e = .returned (.tuple #[.slice none 0 0, .slice none 0 0, .bool false]))
def spotsW (r : Nat → Nat) : List Spt := spotsR r (mxR r 4)
def trisW (r : Nat → Nat) : List NTri := numT (spotsW r) (trisR r (mxR r 4))
set_option maxHeartbeats 4000000 in
theorem weave_any (W : World) (q : Nat → Int) (hq : ∀ k, k < 4 → i64W (q k)) :
    Calls Try.prog 9 #[.agg (q4C q)] W fun e W' => Below W.heap.size W W' ∧ WvA W' q e spotsW trisW := by
  obtain ⟨w0, hw0⟩ : ∃ w0, w0 = (W.alloc (.cells (q4C q) 22)).alloc (.cells (webQ q 0) 43) := ⟨_, rfl⟩
  have hb0 : Below W.heap.size W w0 := by rw [hw0]; exact bel_alloc (bel_alloc (Below.refl _ _) _) _
  have hQ0 : Blk w0 W.heap.size 22 (q4C q) := by rw [hw0]; exact (Blk.new _ _ _ _ rfl).alloc _
  have hG0 : Blk w0 (W.heap.size + 1) 43 (webQ q 0) := by rw [hw0]; exact Blk.new _ _ _ _ (by simp)
  have hq0 := hq 0 (by omega)
  have hq1 := hq 1 (by omega)
  have hq2 := hq 2 (by omega)
  have hq3 := hq 3 (by omega)
  unfold i64W at hq0 hq1 hq2 hq3
  go_enter Try.func9, Try.ntmps9
  go_upto_region 2 with (fail)
  replace hw0 : w0 = (W.alloc (.cells (q4C q) 22)).alloc (.cells #[.int .i64 0, .int .i64 0, .int .i64 0, .int .i64 0, .int .i64 0, .int .i64 0, .int .i64 0, .int .i64 0, .int .i64 0, .slice none 0 0, .map none, .slice none 0 0] 43) := hw0
  simp only [← hw0]
  clear hw0
  obtain ⟨g, hg⟩ : ∃ g, g = W.heap.size + 1 := ⟨_, rfl⟩
  rw [← hg] at hG0 ⊢
  obtain ⟨bq, hbq⟩ : ∃ b, b = W.heap.size := ⟨_, rfl⟩
  rw [← hbq] at hQ0 ⊢
  have hgq : bq ≠ g := by omega
  have hgW : W.heap.size ≤ g := by omega
  have hbW : W.heap.size ≤ bq := by omega
  replace hg := Lib.hid hg
  replace hbq := Lib.hid hbq
  go_wp2
  go_loopw [7] (fun kv wr => ∃ k : Nat, kv = .int .i64 (k : Int) ∧ k ≤ 4 ∧ (∀ j, j < k → 1 ≤ q j ∧ q j ≤ 16) ∧ Blk wr bq 22 (q4C q) ∧ Blk wr g 43 (webQ q k) ∧ Below W.heap.size W wr) (fun kv _ => 4 - (intOf kv).toNat)
  case atStart => exact ⟨0, rfl, by omega, fun j hj => by omega, hQ0, hG0, hb0⟩
  case round =>
    obtain ⟨k, rfl, hk, hok, hQ, hG, hb⟩ := hrel
    by_cases hk4 : k < 4
    · have hm := mxI_bd k hok
      have hok2 := Lib.hid hok
      clear hok
      have lq := hQ.lt
      have lg := hG.lt
      rcases four1 hk4 with rfl | rfl | rfl | rfl
      · have hG' : Blk wr g 43 #[.int .i64 0, .int .i64 0, .int .i64 0, .int .i64 0, .int .i64 0, .int .i64 0, .int .i64 0, .int .i64 0, .int .i64 (mxI q 0), .slice none 0 0, .map none, .slice none 0 0] := hG
        have e2 : (if mxI q 0 < q 0 then q 0 else mxI q 0) = mxI q 1 := by
          show _ = max (mxI q 0) (q 0)
          split <;> omega
        replace e2 := Lib.hid e2
        rw [show ((0 : Nat) : Int) = 0 from rfl]
        generalize mxI q 0 = m at *
        clear hG
        have cq : wr.cell? ⟨bq, 0, none⟩ = some (.int .i64 (q 0)) := hQ.cell 0
        have ca : wr.cell? ⟨g, 0, none⟩ = some (.int .i64 0) := hG'.cell 0
        have cb : wr.cell? ⟨g, 1, none⟩ = some (.int .i64 0) := hG'.cell 1
        have cm : wr.cell? ⟨g, 8, none⟩ = some (.int .i64 m) := hG'.cell 8
        have fa := hG'.frozen 0
        have fb := hG'.frozen 1
        have fm := hG'.frozen 8
        have hbad : (q 0 < 1 ∨ q 0 > 16) → ¬ okQ q := fun h hq9 => by have := hq9 0 (by omega); omega
        replace hbad := Lib.hid hbad
        by_cases hlo : q 0 < 1
        · go_wp2
          refine bodyPost_ret (v := .tuple #[.slice none 0 0, .slice none 0 0, .bool false]) (by simp [results, Try.results9, go_sem]) rfl ⟨hb, .inr ⟨hbad.out (.inl hlo), rfl⟩⟩
        · by_cases hhi : q 0 > 16
          · go_wp2
            refine bodyPost_ret (v := .tuple #[.slice none 0 0, .slice none 0 0, .bool false]) (by simp [results, Try.results9, go_sem]) rfl ⟨hb, .inr ⟨hbad.out (.inr hhi), rfl⟩⟩
          · go_upto_region 8 with (fail)
            have hG8 : Blk ((wr.setCell ⟨g, 0, none⟩ (.int .i64 0)).setCell ⟨g, 1, none⟩ (.int .i64 (q 0))) g 43 #[.int .i64 0, .int .i64 (q 0), .int .i64 0, .int .i64 0, .int .i64 0, .int .i64 0, .int .i64 0, .int .i64 0, .int .i64 m, .slice none 0 0, .map none, .slice none 0 0] := (hG'.set 0 _).set 1 _
            have hQ8 : Blk ((wr.setCell ⟨g, 0, none⟩ (.int .i64 0)).setCell ⟨g, 1, none⟩ (.int .i64 (q 0))) bq 22 (q4C q) := (hQ.far _ _ (Ne.symm hgq)).far _ _ (Ne.symm hgq)
            have hb8 : Below W.heap.size W ((wr.setCell ⟨g, 0, none⟩ (.int .i64 0)).setCell ⟨g, 1, none⟩ (.int .i64 (q 0))) := bel_set (bel_set hb (by exact hgW) _) (by exact hgW) _
            generalize (wr.setCell ⟨g, 0, none⟩ (.int .i64 0)).setCell ⟨g, 1, none⟩ (.int .i64 (q 0)) = w8 at *
            clear hG' hQ hb ca cb cm cq fa fb fm lq lg
            have cm : w8.cell? ⟨g, 8, none⟩ = some (.int .i64 m) := hG8.cell 8
            have cq : w8.cell? ⟨bq, 0, none⟩ = some (.int .i64 (q 0)) := hQ8.cell 0
            have lg := hG8.lt
            have lq := hQ8.lt
            refine wp_region_tail 7 ?_ (by kernel_rfl) (by kernel_rfl) (by kernel_rfl) (fun x => ?_) (fun x => ?_)
            rotate_left
            · simp only [List.take_succ_cons, List.take_zero]
              repeat (go_big_quiet_step (((fail))))
              refine wpQuiet_nil ?_
              exact rfl
            simp only [List.drop_succ_cons, List.drop_zero]
            try simp only [Act.put, List.setIfInBounds_toArray, List.set_cons_succ, List.set_cons_zero]
            have hGx := hG8.grow x
            have hQx := hQ8.grow x
            have hbx := bel_grow hb8 x
            generalize Go.Proofs.Ytpdnaceggpdleaa.grow w8 x = w9 at *
            clear hG8 hQ8 hb8 cm cq lg lq
            have cm2 : w9.cell? ⟨g, 8, none⟩ = some (.int .i64 m) := hGx.cell 8
            have fm2 := hGx.frozen 8
            have lg := hGx.lt
            have hG9 : Blk (w9.setCell ⟨g, 8, none⟩ (.int .i64 (if m < q 0 then q 0 else m))) g 43 #[.int .i64 0, .int .i64 (q 0), .int .i64 0, .int .i64 0, .int .i64 0, .int .i64 0, .int .i64 0, .int .i64 0, .int .i64 (if m < q 0 then q 0 else m), .slice none 0 0, .map none, .slice none 0 0] := hGx.set 8 _
            have hQ9 : Blk (w9.setCell ⟨g, 8, none⟩ (.int .i64 (if m < q 0 then q 0 else m))) bq 22 (q4C q) := hQx.far _ _ (Ne.symm hgq)
            have hb9 : Below W.heap.size W (w9.setCell ⟨g, 8, none⟩ (.int .i64 (if m < q 0 then q 0 else m))) := bel_set hbx (by exact hgW) _
            go_wp2
            rw [e2.out] at hG9 hQ9 hb9 ⊢
            go_roundw
            case rel =>
              refine ⟨1, by go_num, by omega, fun j hj => ?_, hQ9, hG9, hb9⟩
              by_cases e : j = 0
              · subst e; omega
              · exact hok2.out j (by omega)
            case measure => simp [intOf]
      · have hG' : Blk wr g 43 #[.int .i64 0, .int .i64 (q 0), .int .i64 0, .int .i64 0, .int .i64 0, .int .i64 0, .int .i64 0, .int .i64 0, .int .i64 (mxI q 1), .slice none 0 0, .map none, .slice none 0 0] := hG
        have e2 : (if mxI q 1 < q 1 then q 1 else mxI q 1) = mxI q 2 := by
          show _ = max (mxI q 1) (q 1)
          split <;> omega
        replace e2 := Lib.hid e2
        rw [show ((1 : Nat) : Int) = 1 from rfl]
        generalize mxI q 1 = m at *
        clear hG
        have cq : wr.cell? ⟨bq, 1, none⟩ = some (.int .i64 (q 1)) := hQ.cell 1
        have ca : wr.cell? ⟨g, 2, none⟩ = some (.int .i64 0) := hG'.cell 2
        have cb : wr.cell? ⟨g, 3, none⟩ = some (.int .i64 0) := hG'.cell 3
        have cm : wr.cell? ⟨g, 8, none⟩ = some (.int .i64 m) := hG'.cell 8
        have fa := hG'.frozen 2
        have fb := hG'.frozen 3
        have fm := hG'.frozen 8
        have hbad : (q 1 < 1 ∨ q 1 > 16) → ¬ okQ q := fun h hq9 => by have := hq9 1 (by omega); omega
        replace hbad := Lib.hid hbad
        by_cases hlo : q 1 < 1
        · go_wp2
          refine bodyPost_ret (v := .tuple #[.slice none 0 0, .slice none 0 0, .bool false]) (by simp [results, Try.results9, go_sem]) rfl ⟨hb, .inr ⟨hbad.out (.inl hlo), rfl⟩⟩
        · by_cases hhi : q 1 > 16
          · go_wp2
            refine bodyPost_ret (v := .tuple #[.slice none 0 0, .slice none 0 0, .bool false]) (by simp [results, Try.results9, go_sem]) rfl ⟨hb, .inr ⟨hbad.out (.inr hhi), rfl⟩⟩
          · go_upto_region 8 with (fail)
            have hG8 : Blk ((wr.setCell ⟨g, 2, none⟩ (.int .i64 1)).setCell ⟨g, 3, none⟩ (.int .i64 (q 1))) g 43 #[.int .i64 0, .int .i64 (q 0), .int .i64 1, .int .i64 (q 1), .int .i64 0, .int .i64 0, .int .i64 0, .int .i64 0, .int .i64 m, .slice none 0 0, .map none, .slice none 0 0] := (hG'.set 2 _).set 3 _
            have hQ8 : Blk ((wr.setCell ⟨g, 2, none⟩ (.int .i64 1)).setCell ⟨g, 3, none⟩ (.int .i64 (q 1))) bq 22 (q4C q) := (hQ.far _ _ (Ne.symm hgq)).far _ _ (Ne.symm hgq)
            have hb8 : Below W.heap.size W ((wr.setCell ⟨g, 2, none⟩ (.int .i64 1)).setCell ⟨g, 3, none⟩ (.int .i64 (q 1))) := bel_set (bel_set hb (by exact hgW) _) (by exact hgW) _
            generalize (wr.setCell ⟨g, 2, none⟩ (.int .i64 1)).setCell ⟨g, 3, none⟩ (.int .i64 (q 1)) = w8 at *
            clear hG' hQ hb ca cb cm cq fa fb fm lq lg
            have cm : w8.cell? ⟨g, 8, none⟩ = some (.int .i64 m) := hG8.cell 8
            have cq : w8.cell? ⟨bq, 1, none⟩ = some (.int .i64 (q 1)) := hQ8.cell 1
            have lg := hG8.lt
            have lq := hQ8.lt
            refine wp_region_tail 7 ?_ (by kernel_rfl) (by kernel_rfl) (by kernel_rfl) (fun x => ?_) (fun x => ?_)
            rotate_left
            · simp only [List.take_succ_cons, List.take_zero]
              repeat (go_big_quiet_step (((fail))))
              refine wpQuiet_nil ?_
              exact rfl
            simp only [List.drop_succ_cons, List.drop_zero]
            try simp only [Act.put, List.setIfInBounds_toArray, List.set_cons_succ, List.set_cons_zero]
            have hGx := hG8.grow x
            have hQx := hQ8.grow x
            have hbx := bel_grow hb8 x
            generalize Go.Proofs.Ytpdnaceggpdleaa.grow w8 x = w9 at *
            clear hG8 hQ8 hb8 cm cq lg lq
            have cm2 : w9.cell? ⟨g, 8, none⟩ = some (.int .i64 m) := hGx.cell 8
            have fm2 := hGx.frozen 8
            have lg := hGx.lt
            have hG9 : Blk (w9.setCell ⟨g, 8, none⟩ (.int .i64 (if m < q 1 then q 1 else m))) g 43 #[.int .i64 0, .int .i64 (q 0), .int .i64 1, .int .i64 (q 1), .int .i64 0, .int .i64 0, .int .i64 0, .int .i64 0, .int .i64 (if m < q 1 then q 1 else m), .slice none 0 0, .map none, .slice none 0 0] := hGx.set 8 _
            have hQ9 : Blk (w9.setCell ⟨g, 8, none⟩ (.int .i64 (if m < q 1 then q 1 else m))) bq 22 (q4C q) := hQx.far _ _ (Ne.symm hgq)
            have hb9 : Below W.heap.size W (w9.setCell ⟨g, 8, none⟩ (.int .i64 (if m < q 1 then q 1 else m))) := bel_set hbx (by exact hgW) _
            go_wp2
            rw [e2.out] at hG9 hQ9 hb9 ⊢
            go_roundw
            case rel =>
              refine ⟨2, by go_num, by omega, fun j hj => ?_, hQ9, hG9, hb9⟩
              by_cases e : j = 1
              · subst e; omega
              · exact hok2.out j (by omega)
            case measure => simp [intOf]
      · have hG' : Blk wr g 43 #[.int .i64 0, .int .i64 (q 0), .int .i64 1, .int .i64 (q 1), .int .i64 0, .int .i64 0, .int .i64 0, .int .i64 0, .int .i64 (mxI q 2), .slice none 0 0, .map none, .slice none 0 0] := hG
        have e2 : (if mxI q 2 < q 2 then q 2 else mxI q 2) = mxI q 3 := by
          show _ = max (mxI q 2) (q 2)
          split <;> omega
        replace e2 := Lib.hid e2
        rw [show ((2 : Nat) : Int) = 2 from rfl]
        generalize mxI q 2 = m at *
        clear hG
        have cq : wr.cell? ⟨bq, 2, none⟩ = some (.int .i64 (q 2)) := hQ.cell 2
        have ca : wr.cell? ⟨g, 4, none⟩ = some (.int .i64 0) := hG'.cell 4
        have cb : wr.cell? ⟨g, 5, none⟩ = some (.int .i64 0) := hG'.cell 5
        have cm : wr.cell? ⟨g, 8, none⟩ = some (.int .i64 m) := hG'.cell 8
        have fa := hG'.frozen 4
        have fb := hG'.frozen 5
        have fm := hG'.frozen 8
        have hbad : (q 2 < 1 ∨ q 2 > 16) → ¬ okQ q := fun h hq9 => by have := hq9 2 (by omega); omega
        replace hbad := Lib.hid hbad
        by_cases hlo : q 2 < 1
        · go_wp2
          refine bodyPost_ret (v := .tuple #[.slice none 0 0, .slice none 0 0, .bool false]) (by simp [results, Try.results9, go_sem]) rfl ⟨hb, .inr ⟨hbad.out (.inl hlo), rfl⟩⟩
        · by_cases hhi : q 2 > 16
          · go_wp2
            refine bodyPost_ret (v := .tuple #[.slice none 0 0, .slice none 0 0, .bool false]) (by simp [results, Try.results9, go_sem]) rfl ⟨hb, .inr ⟨hbad.out (.inr hhi), rfl⟩⟩
          · go_upto_region 8 with (fail)
            have hG8 : Blk ((wr.setCell ⟨g, 4, none⟩ (.int .i64 2)).setCell ⟨g, 5, none⟩ (.int .i64 (q 2))) g 43 #[.int .i64 0, .int .i64 (q 0), .int .i64 1, .int .i64 (q 1), .int .i64 2, .int .i64 (q 2), .int .i64 0, .int .i64 0, .int .i64 m, .slice none 0 0, .map none, .slice none 0 0] := (hG'.set 4 _).set 5 _
            have hQ8 : Blk ((wr.setCell ⟨g, 4, none⟩ (.int .i64 2)).setCell ⟨g, 5, none⟩ (.int .i64 (q 2))) bq 22 (q4C q) := (hQ.far _ _ (Ne.symm hgq)).far _ _ (Ne.symm hgq)
            have hb8 : Below W.heap.size W ((wr.setCell ⟨g, 4, none⟩ (.int .i64 2)).setCell ⟨g, 5, none⟩ (.int .i64 (q 2))) := bel_set (bel_set hb (by exact hgW) _) (by exact hgW) _
            generalize (wr.setCell ⟨g, 4, none⟩ (.int .i64 2)).setCell ⟨g, 5, none⟩ (.int .i64 (q 2)) = w8 at *
            clear hG' hQ hb ca cb cm cq fa fb fm lq lg
            have cm : w8.cell? ⟨g, 8, none⟩ = some (.int .i64 m) := hG8.cell 8
            have cq : w8.cell? ⟨bq, 2, none⟩ = some (.int .i64 (q 2)) := hQ8.cell 2
            have lg := hG8.lt
            have lq := hQ8.lt
            refine wp_region_tail 7 ?_ (by kernel_rfl) (by kernel_rfl) (by kernel_rfl) (fun x => ?_) (fun x => ?_)
            rotate_left
            · simp only [List.take_succ_cons, List.take_zero]
              repeat (go_big_quiet_step (((fail))))
              refine wpQuiet_nil ?_
              exact rfl
            simp only [List.drop_succ_cons, List.drop_zero]
            try simp only [Act.put, List.setIfInBounds_toArray, List.set_cons_succ, List.set_cons_zero]
            have hGx := hG8.grow x
            have hQx := hQ8.grow x
            have hbx := bel_grow hb8 x
            generalize Go.Proofs.Ytpdnaceggpdleaa.grow w8 x = w9 at *
            clear hG8 hQ8 hb8 cm cq lg lq
            have cm2 : w9.cell? ⟨g, 8, none⟩ = some (.int .i64 m) := hGx.cell 8
            have fm2 := hGx.frozen 8
            have lg := hGx.lt
            have hG9 : Blk (w9.setCell ⟨g, 8, none⟩ (.int .i64 (if m < q 2 then q 2 else m))) g 43 #[.int .i64 0, .int .i64 (q 0), .int .i64 1, .int .i64 (q 1), .int .i64 2, .int .i64 (q 2), .int .i64 0, .int .i64 0, .int .i64 (if m < q 2 then q 2 else m), .slice none 0 0, .map none, .slice none 0 0] := hGx.set 8 _
            have hQ9 : Blk (w9.setCell ⟨g, 8, none⟩ (.int .i64 (if m < q 2 then q 2 else m))) bq 22 (q4C q) := hQx.far _ _ (Ne.symm hgq)
            have hb9 : Below W.heap.size W (w9.setCell ⟨g, 8, none⟩ (.int .i64 (if m < q 2 then q 2 else m))) := bel_set hbx (by exact hgW) _
            go_wp2
            rw [e2.out] at hG9 hQ9 hb9 ⊢
            go_roundw
            case rel =>
              refine ⟨3, by go_num, by omega, fun j hj => ?_, hQ9, hG9, hb9⟩
              by_cases e : j = 2
              · subst e; omega
              · exact hok2.out j (by omega)
            case measure => simp [intOf]
      · have hG' : Blk wr g 43 #[.int .i64 0, .int .i64 (q 0), .int .i64 1, .int .i64 (q 1), .int .i64 2, .int .i64 (q 2), .int .i64 0, .int .i64 0, .int .i64 (mxI q 3), .slice none 0 0, .map none, .slice none 0 0] := hG
        have e2 : (if mxI q 3 < q 3 then q 3 else mxI q 3) = mxI q 4 := by
          show _ = max (mxI q 3) (q 3)
          split <;> omega
        replace e2 := Lib.hid e2
        rw [show ((3 : Nat) : Int) = 3 from rfl]
        generalize mxI q 3 = m at *
        clear hG
        have cq : wr.cell? ⟨bq, 3, none⟩ = some (.int .i64 (q 3)) := hQ.cell 3
        have ca : wr.cell? ⟨g, 6, none⟩ = some (.int .i64 0) := hG'.cell 6
        have cb : wr.cell? ⟨g, 7, none⟩ = some (.int .i64 0) := hG'.cell 7
        have cm : wr.cell? ⟨g, 8, none⟩ = some (.int .i64 m) := hG'.cell 8
        have fa := hG'.frozen 6
        have fb := hG'.frozen 7
        have fm := hG'.frozen 8
        have hbad : (q 3 < 1 ∨ q 3 > 16) → ¬ okQ q := fun h hq9 => by have := hq9 3 (by omega); omega
        replace hbad := Lib.hid hbad
        by_cases hlo : q 3 < 1
        · go_wp2
          refine bodyPost_ret (v := .tuple #[.slice none 0 0, .slice none 0 0, .bool false]) (by simp [results, Try.results9, go_sem]) rfl ⟨hb, .inr ⟨hbad.out (.inl hlo), rfl⟩⟩
        · by_cases hhi : q 3 > 16
          · go_wp2
            refine bodyPost_ret (v := .tuple #[.slice none 0 0, .slice none 0 0, .bool false]) (by simp [results, Try.results9, go_sem]) rfl ⟨hb, .inr ⟨hbad.out (.inr hhi), rfl⟩⟩
          · go_upto_region 8 with (fail)
            have hG8 : Blk ((wr.setCell ⟨g, 6, none⟩ (.int .i64 3)).setCell ⟨g, 7, none⟩ (.int .i64 (q 3))) g 43 #[.int .i64 0, .int .i64 (q 0), .int .i64 1, .int .i64 (q 1), .int .i64 2, .int .i64 (q 2), .int .i64 3, .int .i64 (q 3), .int .i64 m, .slice none 0 0, .map none, .slice none 0 0] := (hG'.set 6 _).set 7 _
            have hQ8 : Blk ((wr.setCell ⟨g, 6, none⟩ (.int .i64 3)).setCell ⟨g, 7, none⟩ (.int .i64 (q 3))) bq 22 (q4C q) := (hQ.far _ _ (Ne.symm hgq)).far _ _ (Ne.symm hgq)
            have hb8 : Below W.heap.size W ((wr.setCell ⟨g, 6, none⟩ (.int .i64 3)).setCell ⟨g, 7, none⟩ (.int .i64 (q 3))) := bel_set (bel_set hb (by exact hgW) _) (by exact hgW) _
            generalize (wr.setCell ⟨g, 6, none⟩ (.int .i64 3)).setCell ⟨g, 7, none⟩ (.int .i64 (q 3)) = w8 at *
            clear hG' hQ hb ca cb cm cq fa fb fm lq lg
            have cm : w8.cell? ⟨g, 8, none⟩ = some (.int .i64 m) := hG8.cell 8
            have cq : w8.cell? ⟨bq, 3, none⟩ = some (.int .i64 (q 3)) := hQ8.cell 3
            have lg := hG8.lt
            have lq := hQ8.lt
            refine wp_region_tail 7 ?_ (by kernel_rfl) (by kernel_rfl) (by kernel_rfl) (fun x => ?_) (fun x => ?_)
            rotate_left
            · simp only [List.take_succ_cons, List.take_zero]
              repeat (go_big_quiet_step (((fail))))
              refine wpQuiet_nil ?_
              exact rfl
            simp only [List.drop_succ_cons, List.drop_zero]
            try simp only [Act.put, List.setIfInBounds_toArray, List.set_cons_succ, List.set_cons_zero]
            have hGx := hG8.grow x
            have hQx := hQ8.grow x
            have hbx := bel_grow hb8 x
            generalize Go.Proofs.Ytpdnaceggpdleaa.grow w8 x = w9 at *
            clear hG8 hQ8 hb8 cm cq lg lq
            have cm2 : w9.cell? ⟨g, 8, none⟩ = some (.int .i64 m) := hGx.cell 8
            have fm2 := hGx.frozen 8
            have lg := hGx.lt
            have hG9 : Blk (w9.setCell ⟨g, 8, none⟩ (.int .i64 (if m < q 3 then q 3 else m))) g 43 #[.int .i64 0, .int .i64 (q 0), .int .i64 1, .int .i64 (q 1), .int .i64 2, .int .i64 (q 2), .int .i64 3, .int .i64 (q 3), .int .i64 (if m < q 3 then q 3 else m), .slice none 0 0, .map none, .slice none 0 0] := hGx.set 8 _
            have hQ9 : Blk (w9.setCell ⟨g, 8, none⟩ (.int .i64 (if m < q 3 then q 3 else m))) bq 22 (q4C q) := hQx.far _ _ (Ne.symm hgq)
            have hb9 : Below W.heap.size W (w9.setCell ⟨g, 8, none⟩ (.int .i64 (if m < q 3 then q 3 else m))) := bel_set hbx (by exact hgW) _
            go_wp2
            rw [e2.out] at hG9 hQ9 hb9 ⊢
            go_roundw
            case rel =>
              refine ⟨4, by go_num, by omega, fun j hj => ?_, hQ9, hG9, hb9⟩
              by_cases e : j = 3
              · subst e; omega
              · exact hok2.out j (by omega)
            case measure => simp [intOf]
    · obtain rfl : k = 4 := by omega
      have hoq : okQ q := hok
      obtain ⟨r, hr⟩ : ∃ r : Nat → Nat, r = fun k => (q k).toNat := ⟨_, rfl⟩
      have hqr : ∀ k, k < 4 → q k = (r k : Int) := fun k hk => by
        have := hok k hk
        rw [hr]
        simp only
        omega
      have hrb : ∀ k, k < 4 → 1 ≤ r k ∧ r k ≤ 16 := fun k hk => by
        have h1 := hok k hk
        have h2 := hqr k hk
        omega
      have hmx := mxI_nat 4 hqr
      have hR2 : mxR r 4 ≤ 16 := mxR_le 4 (fun k hk => (hrb k hk).2)
      have hR1 : 1 ≤ mxR r 4 := by
        have h0 := (hrb 3 (by omega)).1
        show 1 ≤ max (mxR r 3) (r 3)
        omega
      have hG' : Blk wr g 43 (webE r (mxR r 4)) := by
        have e : webQ q 4 = webE r (mxR r 4) := by
          show (#[.int .i64 0, .int .i64 (q 0), .int .i64 1, .int .i64 (q 1), .int .i64 2, .int .i64 (q 2), .int .i64 3, .int .i64 (q 3), .int .i64 (mxI q 4), .slice none 0 0, .map none, .slice none 0 0] : Array Value) = _
          rw [hmx, hqr 0 (by omega), hqr 1 (by omega), hqr 2 (by omega), hqr 3 (by omega)]
        rw [← e]; exact hG
      have hX : ∀ b, b < W.heap.size → b < wr.heap.size ∧ b ≠ g := fun b h => ⟨Nat.lt_of_lt_of_le h hb.size, by omega⟩
      clear hok hr hmx hG hQ
      replace hoq := Lib.hid hoq
      replace hqr := Lib.hid hqr
      replace hrb := Lib.hid hrb
      have cR := room_any wr g r (mxR r 4) (fun b => b < W.heap.size) hG' hrb.out hR1 hR2 hX
      replace cR := Lib.hid cR
      rw [show ((4 : Nat) : Int) = 4 from rfl]
      go_upto_region 11 with (first | (go_at_call 13; (refine cR.out.mono ?_); rintro e w1 ⟨rfl, k1, base, B, sv, tv, hbs, hw1⟩) | fail)
      have cL := lay_any w1 base g B r (mxR r 4) tv (fun b => b < W.heap.size) ⟨sv, hw1⟩ hrb.out hR1 hR2
      replace cL := Lib.hid cL
      go_upto_region 12 with (first | (go_at_call 14; (refine cL.out.mono ?_); rintro e w2 ⟨rfl, k2, sv2, hw2⟩) | fail)
      have cF := fill_any w2 base g B r (mxR r 4) sv2 (fun b => b < W.heap.size) ⟨tv, hw2⟩ hrb.out hR1 hR2
      replace cF := Lib.hid cF
      go_upto_region 13 with (first | (go_at_call 15; (refine cF.out.mono ?_); rintro e w3 ⟨rfl, k3, tv3, hw3⟩) | fail)
      have hb3 : Below W.heap.size W w3 := hb.trans (((k1.trans k2).trans k3).below fun b hb => hb)
      clear cR cL cF hw1 hw2 k1 k2 k3 hG'
      obtain ⟨A1, c1, rfl, hc1⟩ := own_len hw3.sp
      obtain ⟨A2, c2, rfl, hc2⟩ := own_len hw3.tr
      have c9 : w3.cell? ⟨g, 9, none⟩ = some (.slice A1 (spotsR r (mxR r 4)).length c1) := hw3.blk.cell 9
      have c11 : w3.cell? ⟨g, 11, none⟩ = some (.slice A2 (numT (spotsR r (mxR r 4)) (trisR r (mxR r 4))).length c2) := hw3.blk.cell 11
      have lg := hw3.blk.lt
      have hL1 : L3 w3 A1 (spotsR r (mxR r 4)) := L3_own hw3.sp
      have hL2 : L3 w3 A2 ((numT (spotsR r (mxR r 4)) (trisR r (mxR r 4))).map trZ) := by
        have h1 := hw3.tr
        rw [trC_eq] at h1
        have h2 : w3.ownsRow base 30 3 (.slice A2 ((numT (spotsR r (mxR r 4)) (trisR r (mxR r 4))).map trZ).length c2) ((numT (spotsR r (mxR r 4)) (trisR r (mxR r 4))).map trZ).length (spC ((numT (spotsR r (mxR r 4)) (trisR r (mxR r 4))).map trZ)) := by
          simp only [List.length_map]; exact h1
        exact L3_own h2
      clear hw3
      refine wp_region_grow (by kernel_rfl) (by kernel_rfl) ?_
      repeat (go_big_quiet_step (((fail))))
      refine wpQuiet_nil ?_
      rintro _ ⟨xg, rfl⟩
      go_wp2
      refine bodyPost_ret (v := .tuple #[.slice A1 (spotsR r (mxR r 4)).length c1, .slice A2 (numT (spotsR r (mxR r 4)) (trisR r (mxR r 4))).length c2, .bool true]) (by simp [results, Try.results9, go_sem]) rfl ⟨bel_grow hb3 xg, .inl ⟨hoq.out, r, A1, A2, c1, c2, hqr.out, hrb.out, rfl, hc1, hc2, hL1.below (xg.kept _), hL2.below (xg.kept _)⟩⟩
end Go.Proofs.Ytpdnaceggpdleaa
