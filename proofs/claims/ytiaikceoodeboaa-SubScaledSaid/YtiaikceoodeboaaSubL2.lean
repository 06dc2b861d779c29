/- Package sub: Level, with where the faces lie. -/
import Derived.Test.YtiaikceoodeboaaSubI2
namespace Go.Proofs.Ytiaikceoodeboaa
open Go.RowKit
set_option linter.unusedVariables false
set_option linter.unusedSimpArgs false
set_option linter.unnecessarySimpa false
set_option maxRecDepth 100000
def PFb (base : Nat) (fs : List (List Int)) : World → Value → Prop := fun w v => ∃ A c, v = .slice A fs.length c ∧ FLb base w A fs
theorem PFb.stays (base : Nat) (fs : List (List Int)) : Stays (PFb base fs) := fun w w' v hB ⟨A, c, e, h⟩ => ⟨A, c, e, h.below hB⟩
def PCb (base n : Nat) (ps : List P3) (fs : List (List Int)) (ks : List P3) : World → Value → Prop := fun w v => ∃ R1 e1 R2 e2 R3 e3, v = .agg #[.slice R1 n e1, .slice R2 fs.length e2, .slice R3 ks.length e3] ∧ VL w R1 ps ∧ FLb base w R2 fs ∧ VL w R3 ks
theorem PCb.stays (base n : Nat) (ps : List P3) (fs : List (List Int)) (ks : List P3) : Stays (PCb base n ps fs ks) := fun w w' v hB ⟨R1, e1, R2, e2, R3, e3, e, h1, h2, h3⟩ => ⟨R1, e1, R2, e2, R3, e3, e, h1.below hB, h2.below hB, h3.below hB⟩
set_option maxHeartbeats 8000000 in
theorem level2_any (W : World) (c : Cg) (A1 A2 A3 : Option Addr) (k1 k2 k3 : Nat) (hc : CgV W c A1 A2 A3) :
    Calls Try.prog 12 #[.agg #[.slice A1 c.vs.length k1, .slice A2 c.fs.length k2, .slice A3 c.ks.length k3]] W fun e W' => ∃ (r : Cg) (R1 R2 R3 : Option Addr) (c1 c2 c3 : Nat) (er : Int), e = .returned (.tuple #[.agg #[.slice R1 r.vs.length c1, .slice R2 r.fs.length c2, .slice R3 r.ks.length c3], .int .i64 er]) ∧ Below W.heap.size W W' ∧ VL W' R1 r.vs ∧ FLb W.heap.size W' R2 r.fs ∧ VL W' R3 r.ks ∧ LevR c r er := by
  obtain ⟨W0, hW0⟩ : ∃ W0, W0 = (W.alloc (.cells #[.slice A1 c.vs.length k1, .slice A2 c.fs.length k2, .slice A3 c.ks.length k3] 26)).alloc (.cells #[.slice none 0 0, .slice none 0 0, .slice none 0 0] 26) := ⟨_, rfl⟩
  have hB0 : Below W.heap.size W W0 := by rw [hW0]; exact bel_alloc (bel_alloc (Below.refl _ _) _) _
  have hC0 : Blk W0 W.heap.size 26 #[.slice A1 c.vs.length k1, .slice A2 c.fs.length k2, .slice A3 c.ks.length k3] := by rw [hW0]; exact (Blk.new _ _ _ _ rfl).alloc _
  have hR0 : Blk W0 (W.heap.size + 1) 26 #[.slice none 0 0, .slice none 0 0, .slice none 0 0] := by rw [hW0]; exact Blk.new _ _ _ _ (by simp)
  have hcW := hc
  obtain ⟨hi1, hi2, hi3, hV, hF, hK, few⟩ := hc
  obtain ⟨vs, fs, ks⟩ := c
  simp only at hi1 hi2 hi3 hV hF hK few hC0 hW0 ⊢
  have hxl : ∀ x ∈ fs, x.length ≤ tot fs := fun x hx => len_tot hx
  have cB := built_any W0 (vs.length : Int) k2 fs A2 (hF.below hB0) (by unfold i64B; omega) hi2 (by omega)
  go_enter Try.func12, Try.ntmps12
  go_upto_region 1 with (fail)
  simp only [← hW0]
  clear hW0
  have x0 : W0.cell? ⟨W.heap.size, 0, none⟩ = some (.slice A1 vs.length k1) := hC0.cell 0
  have x1 : W0.cell? ⟨W.heap.size, 1, none⟩ = some (.slice A2 fs.length k2) := hC0.cell 1
  have xl := hC0.lt
  go_upto_region 2 with (first | (go_at_call 13; (with_reducible refine cB.mono ?_); rintro e W1 ⟨B1, B2, B3, t, d1, d2, d3, ee, rfl, hP⟩) | fail)
  have hT2 : Blk (W1.alloc (.cells #[.slice B1 t.es.length d1, .slice B2 t.fans.length d2, .slice B3 t.rs.length d3] 36)) W1.heap.size 36 #[.slice B1 t.es.length d1, .slice B2 t.fans.length d2, .slice B3 t.rs.length d3] := Blk.new _ _ _ _ rfl
  have hb2 := bel_alloc hP.bel (.cells #[.slice B1 t.es.length d1, .slice B2 t.fans.length d2, .slice B3 t.rs.length d3] 36)
  have hV2 := TopoV.below hP.isV (bel_alloc (Below.refl _ _) (.cells #[.slice B1 t.es.length d1, .slice B2 t.fans.length d2, .slice B3 t.rs.length d3] 36))
  have hgood := Lib.hid hP.good
  have hsz1 := hP.bel.size
  clear hP cB
  generalize W1.alloc (.cells #[.slice B1 t.es.length d1, .slice B2 t.fans.length d2, .slice B3 t.rs.length d3] 36) = W2 at *
  obtain ⟨T, hT⟩ : ∃ T, W1.heap.size = T := ⟨_, rfl⟩
  simp only [hT] at *
  clear hT x0 x1 xl
  have hC2 := hC0.below hb2
  have hR2 := hR0.below hb2
  have hB2 := bel_trans hB0 hb2
  have hR0l := hR0.lt
  clear hC0 hR0 hB0 hb2
  rcases hgood.out with ⟨rfl, hsf, hTS⟩ | ⟨rfl, hns, rfl, rfl, rfl, rfl, rfl, rfl, rfl⟩
  rotate_left
  · replace hns := Lib.hid hns
    clear hgood
    have f0 := hR2.frozen 0
    have f1 := hR2.frozen 1
    have f2 := hR2.frozen 2
    have r0 : W2.cell? ⟨W.heap.size + 1, 0, none⟩ = some (.slice none 0 0) := hR2.cell 0
    have r1 : W2.cell? ⟨W.heap.size + 1, 1, none⟩ = some (.slice none 0 0) := hR2.cell 1
    have r2 : W2.cell? ⟨W.heap.size + 1, 2, none⟩ = some (.slice none 0 0) := hR2.cell 2
    have rl := hR2.lt
    have hE := ((hR2.set 0 (.slice none 0 0)).set 1 (.slice none 0 0)).set 2 (.slice none 0 0)
    have hbE := bel_set (bel_set (bel_set hB2 (p := ⟨W.heap.size + 1, 0, none⟩) (by simp) (.slice none 0 0)) (p := ⟨W.heap.size + 1, 1, none⟩) (by simp) (.slice none 0 0)) (p := ⟨W.heap.size + 1, 2, none⟩) (by simp) (.slice none 0 0)
    go_wp2
    generalize ((W2.setCell ⟨W.heap.size + 1, 0, none⟩ (.slice none 0 0)).setCell ⟨W.heap.size + 1, 1, none⟩ (.slice none 0 0)).setCell ⟨W.heap.size + 1, 2, none⟩ (.slice none 0 0) = WE at *
    have y0 : WE.cell? ⟨W.heap.size + 1, 0, none⟩ = some (.slice none 0 0) := hE.cell 0
    have y1 : WE.cell? ⟨W.heap.size + 1, 1, none⟩ = some (.slice none 0 0) := hE.cell 1
    have y2 : WE.cell? ⟨W.heap.size + 1, 2, none⟩ = some (.slice none 0 0) := hE.cell 2
    refine bodyPost_ret (v := .tuple #[.agg #[.slice none 0 0, .slice none 0 0, .slice none 0 0], .int .i64 14]) (by simp [results, Try.results12, go_sem, y0, y1, y2]) rfl ?_
    exact ⟨Cg0, none, none, none, 0, 0, 0, 14, rfl, hbE, VL.nil _ _, ⟨fun h => by simp [Cg0] at h, fun _ _ _ h => by cases h⟩, VL.nil _ _, LevR.noSurf hns.out⟩
  clear hgood hsf
  obtain ⟨es, fans, rs⟩ := t
  simp only at *
  have hel : es.length ≤ tot fs := by have h1 := edges_le hTS.walk hTS.edges; rw [waysL_len] at h1; exact h1
  have hnf : fans.length = vs.length := by have := hTS.nf; simp only at this; omega
  have hTS0 := Lib.hid hTS
  clear hTS
  have cS := sharp_any W2 A1 A2 A3 B1 B2 B3 vs.length fs.length fans.length rs.length k1 k2 k3 d1 d2 d3 es ks hV2.es hTS0.out.edges.sorted (hK.below hB2) (by omega) (by omega)
  replace hnf := Lib.hid hnf
  have x0 : W2.cell? ⟨W.heap.size, 0, none⟩ = some (.slice A1 vs.length k1) := hC2.cell 0
  have x1 : W2.cell? ⟨W.heap.size, 1, none⟩ = some (.slice A2 fs.length k2) := hC2.cell 1
  have x2 : W2.cell? ⟨W.heap.size, 2, none⟩ = some (.slice A3 ks.length k3) := hC2.cell 2
  have xl := hC2.lt
  have t0 : W2.cell? ⟨T, 0, none⟩ = some (.slice B1 es.length d1) := hT2.cell 0
  have t1 : W2.cell? ⟨T, 1, none⟩ = some (.slice B2 fans.length d2) := hT2.cell 1
  have t2 : W2.cell? ⟨T, 2, none⟩ = some (.slice B3 rs.length d3) := hT2.cell 2
  have tl := hT2.lt
  go_upto_region 5 with (first | (go_at_call 14; (with_reducible refine cS.mono ?_); rintro e W3 ⟨hb3, hcase⟩; obtain ⟨sv, ev, rfl⟩ : ∃ sv ev, e = .returned (.tuple #[sv, .int .i64 ev]) := (by rcases hcase with ⟨_, h⟩ | ⟨sh, g, _, _, _, h⟩; exact ⟨_, _, h⟩; exact ⟨_, _, h⟩)) | fail)
  have hC3 := hC2.below hb3
  have hR3 := hR2.below hb3
  have hT3 := hT2.below hb3
  have hB3 := bel_trans hB2 hb3
  have hV3 := TopoV.below hV2 hb3
  have hsz3 := hb3.size
  clear hC2 hR2 hT2 hB2 hV2 cS x0 x1 x2 xl t0 t1 t2 tl hb3
  rcases hcase with ⟨hno, he⟩ | ⟨sh, g, hsh, hgg, hGs, he⟩
  all_goals (simp only [Ending.returned.injEq, Value.tuple.injEq, Array.mk.injEq, List.cons.injEq, Value.int.injEq, and_true, true_and] at he)
  all_goals (obtain ⟨rfl, rfl⟩ := he)
  · replace hno := Lib.hid hno
    have f0 := hR3.frozen 0
    have f1 := hR3.frozen 1
    have f2 := hR3.frozen 2
    have r0 : W3.cell? ⟨W.heap.size + 1, 0, none⟩ = some (.slice none 0 0) := hR3.cell 0
    have r1 : W3.cell? ⟨W.heap.size + 1, 1, none⟩ = some (.slice none 0 0) := hR3.cell 1
    have r2 : W3.cell? ⟨W.heap.size + 1, 2, none⟩ = some (.slice none 0 0) := hR3.cell 2
    have rl := hR3.lt
    have hE := ((hR3.set 0 (.slice none 0 0)).set 1 (.slice none 0 0)).set 2 (.slice none 0 0)
    have hbE := bel_set (bel_set (bel_set hB3 (p := ⟨W.heap.size + 1, 0, none⟩) (by simp) (.slice none 0 0)) (p := ⟨W.heap.size + 1, 1, none⟩) (by simp) (.slice none 0 0)) (p := ⟨W.heap.size + 1, 2, none⟩) (by simp) (.slice none 0 0)
    go_wp2
    generalize ((W3.setCell ⟨W.heap.size + 1, 0, none⟩ (.slice none 0 0)).setCell ⟨W.heap.size + 1, 1, none⟩ (.slice none 0 0)).setCell ⟨W.heap.size + 1, 2, none⟩ (.slice none 0 0) = WE at *
    have y0 : WE.cell? ⟨W.heap.size + 1, 0, none⟩ = some (.slice none 0 0) := hE.cell 0
    have y1 : WE.cell? ⟨W.heap.size + 1, 1, none⟩ = some (.slice none 0 0) := hE.cell 1
    have y2 : WE.cell? ⟨W.heap.size + 1, 2, none⟩ = some (.slice none 0 0) := hE.cell 2
    refine bodyPost_ret (v := .tuple #[.agg #[.slice none 0 0, .slice none 0 0, .slice none 0 0], .int .i64 14]) (by simp [results, Try.results12, go_sem, y0, y1, y2]) rfl ?_
    exact ⟨Cg0, none, none, none, 0, 0, 0, 14, rfl, hbE, VL.nil _ _, ⟨fun h => by simp [Cg0] at h, fun _ _ _ h => by cases h⟩, VL.nil _ _, LevR.noEdge _ hTS0.out hno.out⟩
  replace hsh := Lib.hid hsh
  have cF := far_any W3 A1 k1 vs (hV.below hB3) (by omega)
  have x0 : W3.cell? ⟨W.heap.size, 0, none⟩ = some (.slice A1 vs.length k1) := hC3.cell 0
  have xl := hC3.lt
  cases hfar : vs.any farB with
  | true =>
    rw [hfar] at cF
    replace hfar := Lib.hid hfar
    go_upto_region 8 with (first | (go_at_call 30; (with_reducible refine cF.mono ?_); rintro e W4 ⟨hb4, rfl⟩) | fail)
    have hR4 := hR3.below hb4
    have hB4 := bel_trans hB3 hb4
    clear hC3 hR3 hT3 hB3 hV3 cF x0 xl hb4 hGs
    have hbad : ¬ ∀ p ∈ vs, InP 65536 p := fun h => by
      obtain ⟨p, hp, h1⟩ := List.any_eq_true.1 hfar.out
      rw [(far_iff p).2 (h p hp)] at h1; cases h1
    replace hbad := Lib.hid hbad
    have f0 := hR4.frozen 0
    have f1 := hR4.frozen 1
    have f2 := hR4.frozen 2
    have r0 : W4.cell? ⟨W.heap.size + 1, 0, none⟩ = some (.slice none 0 0) := hR4.cell 0
    have r1 : W4.cell? ⟨W.heap.size + 1, 1, none⟩ = some (.slice none 0 0) := hR4.cell 1
    have r2 : W4.cell? ⟨W.heap.size + 1, 2, none⟩ = some (.slice none 0 0) := hR4.cell 2
    have rl := hR4.lt
    have hE := ((hR4.set 0 (.slice none 0 0)).set 1 (.slice none 0 0)).set 2 (.slice none 0 0)
    have hbE := bel_set (bel_set (bel_set hB4 (p := ⟨W.heap.size + 1, 0, none⟩) (by simp) (.slice none 0 0)) (p := ⟨W.heap.size + 1, 1, none⟩) (by simp) (.slice none 0 0)) (p := ⟨W.heap.size + 1, 2, none⟩) (by simp) (.slice none 0 0)
    go_wp2
    generalize ((W4.setCell ⟨W.heap.size + 1, 0, none⟩ (.slice none 0 0)).setCell ⟨W.heap.size + 1, 1, none⟩ (.slice none 0 0)).setCell ⟨W.heap.size + 1, 2, none⟩ (.slice none 0 0) = WE at *
    have y0 : WE.cell? ⟨W.heap.size + 1, 0, none⟩ = some (.slice none 0 0) := hE.cell 0
    have y1 : WE.cell? ⟨W.heap.size + 1, 1, none⟩ = some (.slice none 0 0) := hE.cell 1
    have y2 : WE.cell? ⟨W.heap.size + 1, 2, none⟩ = some (.slice none 0 0) := hE.cell 2
    refine bodyPost_ret (v := .tuple #[.agg #[.slice none 0 0, .slice none 0 0, .slice none 0 0], .int .i64 21]) (by simp [results, Try.results12, go_sem, y0, y1, y2]) rfl ?_
    exact ⟨Cg0, none, none, none, 0, 0, 0, 21, rfl, hbE, VL.nil _ _, ⟨fun h => by simp [Cg0] at h, fun _ _ _ h => by cases h⟩, VL.nil _ _, LevR.large _ hTS0.out sh hsh.out hbad.out⟩
  | false =>
    rw [hfar] at cF
    replace hfar := Lib.hid hfar
    go_upto_region 9 with (first | (go_at_call 30; (with_reducible refine cF.mono ?_); rintro e W4 ⟨hb4, rfl⟩) | fail)
    have hall : ∀ p ∈ vs, InP 65536 p := fun p hp => (far_iff p).1 (by
      cases h : farB p with
      | false => rfl
      | true => have := List.any_eq_false.1 hfar.out p hp; rw [h] at this; simp at this)
    replace hall := Lib.hid hall
    have hC4 := hC3.below hb4
    have hR4 := hR3.below hb4
    have hT4 := hT3.below hb4
    have hB4 := bel_trans hB3 hb4
    have hV4 := TopoV.below hV3 hb4
    have hGs4 := hGs.below hb4
    have hsz4 := hb4.size
    clear hC3 hR3 hT3 hB3 hV3 cF x0 xl hb4 hGs
    have xl := hC4.lt
    have tl := hT4.lt
    have rl4 := hR4.lt
    have cM := fun (w : World) (hB : Below W4.heap.size W4 w) => (middles_any w A1 A2 A3 k1 k2 ks.length k3 vs fs (hV.below (bel_trans hB4 hB)) (hF.below (bel_trans hB4 hB)) (fun x hx y hy => hTS0.out.walk.corner_rng hx hy) (by omega) (fun x hx => by have := hxl x hx; omega)).mono (fun e W' ⟨g, h1, h2, h3, h4⟩ => (⟨g, h1, h2, VL_of h3, h4⟩ : ∃ g, e = Ending.returned (Value.slice (some ⟨g, 0, none⟩) fs.length fs.length) ∧ w.heap.size ≤ g ∧ VL W' (some ⟨g, 0, none⟩) (midsL vs fs) ∧ Below w.heap.size w W'))
    refine wp_region_monoT 7 (RL [PE (.agg #[.slice A1 vs.length k1, .slice A2 fs.length k2, .slice A3 ks.length k3]), PE (.agg #[.slice B1 es.length d1, .slice B2 fans.length d2, .slice B3 rs.length d3]), PE (.slice (some ⟨g, 0, none⟩) es.length es.length), PE (.agg #[.slice A1 vs.length k1, .slice A2 fs.length k2, .slice A3 ks.length k3]), PV W4.heap.size fs.length (midsL vs fs), PK (fun gm => #[.slice A1 vs.length k1, .slice A2 fs.length k2, .slice A3 ks.length k3, .slice B1 es.length d1, .slice B2 fans.length d2, .slice B3 rs.length d3, .slice (some ⟨g, 0, none⟩) es.length es.length, .slice (some ⟨gm, 0, none⟩) fs.length fs.length]) (midsL vs fs), PB W4.heap.size 79 #[.slice none 0 0, .slice none 0 0, .slice none 0 0, .slice none 0 0, .slice none 0 0, .slice none 0 0, .slice none 0 0, .slice none 0 0]]) (by kernel_rfl) _ rfl (by kernel_rfl) (by kernel_rfl) (by kernel_rfl) (by kernel_rfl) (by kernel_rfl) (RL.stays ?_) ?_ ?_
    · intro p hp
      simp only [List.mem_cons, List.not_mem_nil, or_false] at hp
      rcases hp with rfl | rfl | rfl | rfl | rfl | rfl | rfl <;> first | exact PE.stays _ | exact PV.stays _ _ _ | exact PK.stays _ _ | exact PB.stays _ _ _
    · simp only [List.take_succ_cons, List.take_zero]
      refine ⟨?_, ?_, ?_, ?_, ?_, ?_, ?_, ?_⟩
      · refine mono_val rfl (fun a w hB hk hp => ?_)
        have es1 := (hk 1 (keep_of (by kernel_rfl))).trans (show _ = some (.pointer (some ⟨W.heap.size, 0, none⟩)) from rfl)
        exact ⟨.agg #[.slice A1 vs.length k1, .slice A2 fs.length k2, .slice A3 ks.length k3], w, ldmS_run _ _ _ 26 _ rfl (W.heap.size) 0 (eval_tmp es1) [.slice A1 vs.length k1, .slice A2 fs.length k2, .slice A3 ks.length k3] _ (rng_all ((hC4).below hB)) Try.underlying26 rfl (by kernel_rfl), Below.refl _ _, fun _ _ => rfl⟩
      · refine mono_val rfl (fun a w hB hk hp => ?_)
        have es4 := (hk 4 (keep_of (by kernel_rfl))).trans (show _ = some (.pointer (some ⟨T, 0, none⟩)) from rfl)
        exact ⟨.agg #[.slice B1 es.length d1, .slice B2 fans.length d2, .slice B3 rs.length d3], w, ldmS_run _ _ _ 36 _ rfl (T) 0 (eval_tmp es4) [.slice B1 es.length d1, .slice B2 fans.length d2, .slice B3 rs.length d3] _ (rng_all ((hT4).below hB)) Try.underlying36 rfl (by kernel_rfl), Below.refl _ _, fun _ _ => rfl⟩
      · refine mono_val rfl (fun a w hB hk hp => ?_)
        have es6 := (hk 6 (keep_of (by kernel_rfl))).trans (show _ = some (.slice (some ⟨g, 0, none⟩) es.length es.length) from rfl)
        exact ⟨.slice (some ⟨g, 0, none⟩) es.length es.length, w, by simp [execOp, go_sem, es6], Below.refl _ _, fun _ _ => rfl⟩
      · refine mono_val rfl (fun a w hB hk hp => ?_)
        have es1 := (hk 1 (keep_of (by kernel_rfl))).trans (show _ = some (.pointer (some ⟨W.heap.size, 0, none⟩)) from rfl)
        exact ⟨.agg #[.slice A1 vs.length k1, .slice A2 fs.length k2, .slice A3 ks.length k3], w, ldmS_run _ _ _ 26 _ rfl (W.heap.size) 0 (eval_tmp es1) [.slice A1 vs.length k1, .slice A2 fs.length k2, .slice A3 ks.length k3] _ (rng_all ((hC4).below hB)) Try.underlying26 rfl (by kernel_rfl), Below.refl _ _, fun _ _ => rfl⟩
      · refine mono_call rfl (fun a w hB hk hp => ?_)
        obtain ⟨x3, ex3, rx3⟩ := hp ⟨3, .data⟩ (by simp) rfl _ _ rfl rfl
        obtain rfl : x3 = _ := rx3
        exact ⟨32, #[.agg #[.slice A1 vs.length k1, .slice A2 fs.length k2, .slice A3 ks.length k3]], by simp [execOp, go_sem, ex3], (cM w hB).mono fun e w' ⟨g, h1, h2, h3, h4⟩ => ⟨_, h1, h4, fun _ _ => ⟨g, rfl, Nat.le_trans hB.size h2, h3⟩⟩⟩
      · refine mono_val rfl (fun a w hB hk hp => ?_)
        obtain ⟨x0, ex0, rx0⟩ := hp ⟨0, .data⟩ (by simp) rfl _ _ rfl rfl
        obtain rfl : x0 = _ := rx0
        obtain ⟨x1, ex1, rx1⟩ := hp ⟨1, .data⟩ (by simp) rfl _ _ rfl rfl
        obtain rfl : x1 = _ := rx1
        obtain ⟨x2, ex2, rx2⟩ := hp ⟨2, .data⟩ (by simp) rfl _ _ rfl rfl
        obtain rfl : x2 = _ := rx2
        obtain ⟨x4, ex4, rx4⟩ := hp ⟨4, .data⟩ (by simp) rfl _ _ rfl rfl
        obtain ⟨gm, rfl, hgm, hvm⟩ : PV W4.heap.size fs.length (midsL vs fs) w x4 := rx4
        exact ⟨.agg #[.slice A1 vs.length k1, .slice A2 fs.length k2, .slice A3 ks.length k3, .slice B1 es.length d1, .slice B2 fans.length d2, .slice B3 rs.length d3, .slice (some ⟨g, 0, none⟩) es.length es.length, .slice (some ⟨gm, 0, none⟩) fs.length fs.length], w, by simp [execOp, go_sem, ex0, ex1, ex2, ex4], Below.refl _ _, fun _ _ => ⟨gm, rfl, hvm⟩⟩
      · refine mono_val rfl (fun a w hB hk hp => ?_)
        exact ⟨.pointer (some ⟨w.heap.size, 0, none⟩), w.alloc (.cells #[.slice none 0 0, .slice none 0 0, .slice none 0 0, .slice none 0 0, .slice none 0 0, .slice none 0 0, .slice none 0 0, .slice none 0 0] 79), alloc_Co _ _ rfl w, bel_alloc (Below.refl _ _) _, fun _ _ => ⟨w.heap.size, rfl, hB.size, Blk.new _ _ _ _ rfl⟩⟩
      · trivial
    · intro a w5 hB hsz hdf hk hgot
      obtain ⟨v5, ev5, rv5⟩ := hgot 5 _ 40 rfl rfl
      obtain ⟨gm, rfl, hvm⟩ : PK (fun gm => #[.slice A1 vs.length k1, .slice A2 fs.length k2, .slice A3 ks.length k3, .slice B1 es.length d1, .slice B2 fans.length d2, .slice B3 rs.length d3, .slice (some ⟨g, 0, none⟩) es.length es.length, .slice (some ⟨gm, 0, none⟩) fs.length fs.length]) (midsL vs fs) w5 v5 := rv5
      obtain ⟨v6, ev6, rv6⟩ := hgot 6 _ 7 rfl rfl
      obtain ⟨P, rfl, hgp, hbp⟩ : PB W4.heap.size 79 #[.slice none 0 0, .slice none 0 0, .slice none 0 0, .slice none 0 0, .slice none 0 0, .slice none 0 0, .slice none 0 0, .slice none 0 0] w5 v6 := rv6
      obtain ⟨f, hf, rfl⟩ := frame_eq hsz hdf hk [35, 36, 37, 38, 39, 40, 7] (by rfl)
      have f40 := hf 40 _ ev5
      have f7 := hf 7 _ ev6
      clear hsz hdf hk hgot hf ev5 ev6
      simp only [List.drop_succ_cons, List.drop_zero, setAll, List.setIfInBounds_toArray, List.set_cons_succ, List.set_cons_zero, f40, f7]
      clear f40 f7
      generalize f 35 = uu35; generalize f 36 = uu36; generalize f 37 = uu37; generalize f 38 = uu38; generalize f 39 = uu39
      have hPl := hbp.lt
      have p0 : w5.cell? ⟨P, 0, none⟩ = some (.slice none 0 0) := hbp.cell 0
      have q0 := hbp.frozen 0
      have p1 : w5.cell? ⟨P, 1, none⟩ = some (.slice none 0 0) := hbp.cell 1
      have q1 := hbp.frozen 1
      have p2 : w5.cell? ⟨P, 2, none⟩ = some (.slice none 0 0) := hbp.cell 2
      have q2 := hbp.frozen 2
      have p3 : w5.cell? ⟨P, 3, none⟩ = some (.slice none 0 0) := hbp.cell 3
      have q3 := hbp.frozen 3
      have p4 : w5.cell? ⟨P, 4, none⟩ = some (.slice none 0 0) := hbp.cell 4
      have q4 := hbp.frozen 4
      have p5 : w5.cell? ⟨P, 5, none⟩ = some (.slice none 0 0) := hbp.cell 5
      have q5 := hbp.frozen 5
      have p6 : w5.cell? ⟨P, 6, none⟩ = some (.slice none 0 0) := hbp.cell 6
      have q6 := hbp.frozen 6
      have p7 : w5.cell? ⟨P, 7, none⟩ = some (.slice none 0 0) := hbp.cell 7
      have q7 := hbp.frozen 7
      have hP6 := ((((((((hbp.set 0 (.slice A1 vs.length k1)).set 1 (.slice A2 fs.length k2)).set 2 (.slice A3 ks.length k3)).set 3 (.slice B1 es.length d1)).set 4 (.slice B2 fans.length d2)).set 5 (.slice B3 rs.length d3)).set 6 (.slice (some ⟨g, 0, none⟩) es.length es.length)).set 7 (.slice (some ⟨gm, 0, none⟩) fs.length fs.length))
      have hg6 := ((((((((set_grown w5 P 0 (.slice A1 vs.length k1)).trans (set_grown (w5.setCell ⟨P, 0, none⟩ (.slice A1 vs.length k1)) P 1 (.slice A2 fs.length k2))).trans (set_grown ((w5.setCell ⟨P, 0, none⟩ (.slice A1 vs.length k1)).setCell ⟨P, 1, none⟩ (.slice A2 fs.length k2)) P 2 (.slice A3 ks.length k3))).trans (set_grown (((w5.setCell ⟨P, 0, none⟩ (.slice A1 vs.length k1)).setCell ⟨P, 1, none⟩ (.slice A2 fs.length k2)).setCell ⟨P, 2, none⟩ (.slice A3 ks.length k3)) P 3 (.slice B1 es.length d1))).trans (set_grown ((((w5.setCell ⟨P, 0, none⟩ (.slice A1 vs.length k1)).setCell ⟨P, 1, none⟩ (.slice A2 fs.length k2)).setCell ⟨P, 2, none⟩ (.slice A3 ks.length k3)).setCell ⟨P, 3, none⟩ (.slice B1 es.length d1)) P 4 (.slice B2 fans.length d2))).trans (set_grown (((((w5.setCell ⟨P, 0, none⟩ (.slice A1 vs.length k1)).setCell ⟨P, 1, none⟩ (.slice A2 fs.length k2)).setCell ⟨P, 2, none⟩ (.slice A3 ks.length k3)).setCell ⟨P, 3, none⟩ (.slice B1 es.length d1)).setCell ⟨P, 4, none⟩ (.slice B2 fans.length d2)) P 5 (.slice B3 rs.length d3))).trans (set_grown ((((((w5.setCell ⟨P, 0, none⟩ (.slice A1 vs.length k1)).setCell ⟨P, 1, none⟩ (.slice A2 fs.length k2)).setCell ⟨P, 2, none⟩ (.slice A3 ks.length k3)).setCell ⟨P, 3, none⟩ (.slice B1 es.length d1)).setCell ⟨P, 4, none⟩ (.slice B2 fans.length d2)).setCell ⟨P, 5, none⟩ (.slice B3 rs.length d3)) P 6 (.slice (some ⟨g, 0, none⟩) es.length es.length))).trans (set_grown (((((((w5.setCell ⟨P, 0, none⟩ (.slice A1 vs.length k1)).setCell ⟨P, 1, none⟩ (.slice A2 fs.length k2)).setCell ⟨P, 2, none⟩ (.slice A3 ks.length k3)).setCell ⟨P, 3, none⟩ (.slice B1 es.length d1)).setCell ⟨P, 4, none⟩ (.slice B2 fans.length d2)).setCell ⟨P, 5, none⟩ (.slice B3 rs.length d3)).setCell ⟨P, 6, none⟩ (.slice (some ⟨g, 0, none⟩) es.length es.length)) P 7 (.slice (some ⟨gm, 0, none⟩) fs.length fs.length)))
      have hP6 : Blk ((((((((w5.setCell ⟨P, 0, none⟩ (.slice A1 vs.length k1)).setCell ⟨P, 1, none⟩ (.slice A2 fs.length k2)).setCell ⟨P, 2, none⟩ (.slice A3 ks.length k3)).setCell ⟨P, 3, none⟩ (.slice B1 es.length d1)).setCell ⟨P, 4, none⟩ (.slice B2 fans.length d2)).setCell ⟨P, 5, none⟩ (.slice B3 rs.length d3)).setCell ⟨P, 6, none⟩ (.slice (some ⟨g, 0, none⟩) es.length es.length)).setCell ⟨P, 7, none⟩ (.slice (some ⟨gm, 0, none⟩) fs.length fs.length)) P 79 #[.slice A1 vs.length k1, .slice A2 fs.length k2, .slice A3 ks.length k3, .slice B1 es.length d1, .slice B2 fans.length d2, .slice B3 rs.length d3, .slice (some ⟨g, 0, none⟩) es.length es.length, .slice (some ⟨gm, 0, none⟩) fs.length fs.length] := hP6
      clear hC4 hT4 cM xl tl
      go_upto_region 10 with (fail)
      generalize ((((((((w5.setCell ⟨P, 0, none⟩ (.slice A1 vs.length k1)).setCell ⟨P, 1, none⟩ (.slice A2 fs.length k2)).setCell ⟨P, 2, none⟩ (.slice A3 ks.length k3)).setCell ⟨P, 3, none⟩ (.slice B1 es.length d1)).setCell ⟨P, 4, none⟩ (.slice B2 fans.length d2)).setCell ⟨P, 5, none⟩ (.slice B3 rs.length d3)).setCell ⟨P, 6, none⟩ (.slice (some ⟨g, 0, none⟩) es.length es.length)).setCell ⟨P, 7, none⟩ (.slice (some ⟨gm, 0, none⟩) fs.length fs.length)) = W6 at *
      have hB46 := bel_turn hB hg6 hgp
      have hB6 := bel_trans hB4 hB46
      have hR6 := hR4.below hB46
      have hV6 := TopoV.below hV4 hB46
      have hGs6 := hGs4.below hB46
      have hM6 : VL W6 (some ⟨gm, 0, none⟩) (midsL vs fs) := hvm.kept_slices hg6 hbp (fun i v h => by
        have hi : i < 8 := by have := (Array.getElem?_eq_some_iff.1 h).1; simpa using this
        rcases (by omega : i = 0 ∨ i = 1 ∨ i = 2 ∨ i = 3 ∨ i = 4 ∨ i = 5 ∨ i = 6 ∨ i = 7) with rfl | rfl | rfl | rfl | rfl | rfl | rfl | rfl <;> (simp at h; exact ⟨_, _, _, h.symm⟩))
      clear hR4 hB4 hV4 hGs4 hB hbp hvm hg6 hB46 p0 p1 p2 p3 p4 p5 p6 p7 q0 q1 q2 q3 q4 q5 q6 q7 hPl
      have hTS := hTS0.out
      have hsl := sharpP_len hsh.out
      have hnf2 := hnf.out
      have hab : ∀ e ∈ es, (0 ≤ e.a ∧ e.a < vs.length) ∧ (0 ≤ e.b ∧ e.b < vs.length) ∧ e.a ≠ e.b := fun e he => by
        obtain ⟨h1, h2, h3, _⟩ := edge_rng hTS he; exact ⟨h1, h2, h3⟩
      have hfan : ∀ x ∈ fans, (∀ y ∈ x, 0 ≤ y ∧ y < fs.length) ∧ x.length ≤ tot fs := fun x hx => fan_rng hTS hx
      have hsoft := soft_rng hTS hsh.out
      have hsort := hTS.edges.sorted
      have hS6 : IL W6 (some ⟨g, 0, none⟩) sh := IL_of hGs6
      have hml := midsL_len vs fs
      have cMo : ∀ w : World, Below W6.heap.size W6 w → Calls Try.prog 34 #[.agg #[.slice A1 vs.length k1, .slice A2 fs.length k2, .slice A3 ks.length k3, .slice B1 es.length d1, .slice B2 fans.length d2, .slice B3 rs.length d3, .slice (some ⟨g, 0, none⟩) es.length es.length, .slice (some ⟨gm, 0, none⟩) fs.length fs.length]] w fun e W' => ∃ A c, e = Ending.returned (Value.slice A vs.length c) ∧ VL W' A (movedL vs (midsL vs fs) fans (es.zip sh)) ∧ Below w.heap.size w W' := fun w hB => by
        have h := moved_any w A1 A2 A3 B1 B2 B3 (some ⟨g, 0, none⟩) (some ⟨gm, 0, none⟩) fs.length ks.length rs.length k1 k2 k3 d1 d2 d3 es.length fs.length vs (midsL vs fs) es sh fans (hV.below (bel_trans hB6 hB)) (hV6.es.below hB) (hS6.below hB) (hM6.below hB) (hV6.fans.below hB) hsl hnf2 hab (fun x hx => by rw [hml]; exact (hfan x hx).1) (fun x hx => by have := (hfan x hx).2; omega) (by omega) (by omega)
        rw [hsl, hml] at h
        exact h.mono fun e W' ⟨g2, h1, h2, h3, h4⟩ => ⟨_, _, h1, VL_of h3, h4⟩
      have cHa : ∀ w : World, Below W6.heap.size W6 w → Calls Try.prog 35 #[.agg #[.slice A1 vs.length k1, .slice A2 fs.length k2, .slice A3 ks.length k3, .slice B1 es.length d1, .slice B2 fans.length d2, .slice B3 rs.length d3, .slice (some ⟨g, 0, none⟩) es.length es.length, .slice (some ⟨gm, 0, none⟩) fs.length fs.length]] w fun e W' => ∃ A c, e = Ending.returned (Value.slice A es.length c) ∧ VL W' A (halvesL vs (midsL vs fs) es sh) ∧ Below w.heap.size w W' := fun w hB => by
        have h := halves_any w A1 A2 A3 B1 B2 B3 (some ⟨g, 0, none⟩) (some ⟨gm, 0, none⟩) fs.length ks.length fans.length rs.length k1 k2 k3 d1 d2 d3 es.length fs.length vs (midsL vs fs) es sh (hV.below (bel_trans hB6 hB)) (hV6.es.below hB) (hS6.below hB) (hM6.below hB) hsl (fun e he => ⟨(hab e he).1, (hab e he).2.1⟩) (fun i h1 h2 h0 => by rw [hml]; exact hsoft i h1 h2 h0) (by omega)
        rw [hsl, hml] at h
        exact h.mono fun e W' ⟨g2, h1, h2, h3, h4⟩ => ⟨_, _, h1, VL_of h3, h4⟩
      have cQu : ∀ w : World, Below W6.heap.size W6 w → Calls Try.prog 36 #[.agg #[.slice A1 vs.length k1, .slice A2 fs.length k2, .slice A3 ks.length k3, .slice B1 es.length d1, .slice B2 fans.length d2, .slice B3 rs.length d3, .slice (some ⟨g, 0, none⟩) es.length es.length, .slice (some ⟨gm, 0, none⟩) fs.length fs.length]] w fun e W' => ∃ A c, e = Ending.returned (Value.slice A (fine (vs.length : Int) es fs).length c) ∧ FLb W.heap.size W' A (fine (vs.length : Int) es fs) ∧ Below w.heap.size w W' := fun w hB =>
        Calls.mono (P := Try.prog) (quarters2_any w A1 A2 A3 B1 B2 B3 (some ⟨g, 0, none⟩) (some ⟨gm, 0, none⟩) vs.length ks.length fans.length rs.length es.length fs.length k1 k2 k3 d1 d2 d3 es.length fs.length es fs (hF.below (bel_trans hB6 hB)) (hV6.es.below hB) hsort (by omega) (by omega) (by omega) hTS.walk.long (fun x hx => by have := hxl x hx; omega) (by rw [cornL_len, waysL_len]; omega) (corn_eix hTS)) fun e W' ⟨A, c, h1, h2, h3⟩ => ⟨A, c, h1, ⟨h2.1, fun b o s e2 => by have a1 := h2.2 b o s e2; have a2 := hB.size; have a3 := hB6.size; omega⟩, h3⟩
      have cRe : ∀ w : World, Below W6.heap.size W6 w → Calls Try.prog 37 #[.agg #[.slice A1 vs.length k1, .slice A2 fs.length k2, .slice A3 ks.length k3, .slice B1 es.length d1, .slice B2 fans.length d2, .slice B3 rs.length d3, .slice (some ⟨g, 0, none⟩) es.length es.length, .slice (some ⟨gm, 0, none⟩) fs.length fs.length]] w fun e W' => ∃ A c, e = Ending.returned (Value.slice A (restP (vs.length : Int) 0 (es.zip sh)).length c) ∧ VL W' A (restP (vs.length : Int) 0 (es.zip sh)) ∧ Below w.heap.size w W' := fun w hB => by
        have h := rest_any w A1 A2 A3 B1 B2 B3 (some ⟨g, 0, none⟩) (some ⟨gm, 0, none⟩) vs.length fs.length ks.length fans.length rs.length fs.length k1 k2 k3 d1 d2 d3 es.length fs.length es sh (hV6.es.below hB) (hS6.below hB) hsl (by omega) (by omega) (sharpP_i64 hi3 hsh.out)
        rw [hsl] at h
        exact h
      have hcl : (movedL vs (midsL vs fs) fans (es.zip sh)).length = vs.length ∧ (halvesL vs (midsL vs fs) es sh).length = es.length ∧ (midsL vs fs).length = fs.length := ⟨movedL_len _ _ _ _, halvesL_len _ _ _ _, hml⟩
      have hcb : ((vs.length = 0 ∧ es.length = 0 ∧ fs.length = 0) ∨ (0 < vs.length ∧ 0 < es.length ∧ 0 < fs.length)) ∧ vs.length + es.length + fs.length < 1099511627776 := by
        refine ⟨?_, by omega⟩
        obtain ⟨h1, h2⟩ := empty_all hTS
        simp only at h1 h2
        rcases Nat.eq_zero_or_pos vs.length with h0 | h0
        · obtain ⟨h3, h4⟩ := h1 (by omega)
          exact .inl ⟨h0, by rw [h4]; rfl, by rw [h3]; rfl⟩
        · obtain ⟨h3, h4⟩ := h2 (by omega)
          exact .inr ⟨h0, h4, h3⟩
      have hlev : levC ⟨vs, fs, ks⟩ ⟨es, fans, rs⟩ sh = ⟨movedL vs (midsL vs fs) fans (es.zip sh) ++ halvesL vs (midsL vs fs) es sh ++ midsL vs fs, fine (vs.length : Int) es fs, restP (vs.length : Int) 0 (es.zip sh)⟩ := rfl
      have hfpos : ∀ x ∈ fine (vs.length : Int) es fs, 0 < x.length := fun x hx => by
        obtain ⟨w, _, rfl⟩ := List.mem_map.1 hx; simp [quadOf]
      have pl := hP6.lt
      have p7 : W6.cell? ⟨P, 7, none⟩ = some (.slice (some ⟨gm, 0, none⟩) fs.length fs.length) := hP6.cell 7
      have hLR : LevR ⟨vs, fs, ks⟩ (levC ⟨vs, fs, ks⟩ ⟨es, fans, rs⟩ sh) 0 := LevR.fine _ hTS sh hsh.out hall.out
      rw [hlev] at hLR
      clear hTS hsl hnf2 hab hfan hsoft hsort hS6 hml hlev
      refine wp_region_monoT 13 (RL [PE (.agg #[.slice A1 vs.length k1, .slice A2 fs.length k2, .slice A3 ks.length k3, .slice B1 es.length d1, .slice B2 fans.length d2, .slice B3 rs.length d3, .slice (some ⟨g, 0, none⟩) es.length es.length, .slice (some ⟨gm, 0, none⟩) fs.length fs.length]), PA vs.length (movedL vs (midsL vs fs) fans (es.zip sh)), PE (.agg #[.slice A1 vs.length k1, .slice A2 fs.length k2, .slice A3 ks.length k3, .slice B1 es.length d1, .slice B2 fans.length d2, .slice B3 rs.length d3, .slice (some ⟨g, 0, none⟩) es.length es.length, .slice (some ⟨gm, 0, none⟩) fs.length fs.length]), PA es.length (halvesL vs (midsL vs fs) es sh), PE (.pointer (some ⟨P, 7, none⟩)), PE (.slice (some ⟨gm, 0, none⟩) fs.length fs.length), P3S vs.length es.length fs.length gm (movedL vs (midsL vs fs) fans (es.zip sh)) (halvesL vs (midsL vs fs) es sh), PA (vs.length + es.length + fs.length) ((movedL vs (midsL vs fs) fans (es.zip sh)) ++ (halvesL vs (midsL vs fs) es sh) ++ (midsL vs fs)), PE (.agg #[.slice A1 vs.length k1, .slice A2 fs.length k2, .slice A3 ks.length k3, .slice B1 es.length d1, .slice B2 fans.length d2, .slice B3 rs.length d3, .slice (some ⟨g, 0, none⟩) es.length es.length, .slice (some ⟨gm, 0, none⟩) fs.length fs.length]), PFb W.heap.size (fine (vs.length : Int) es fs), PE (.agg #[.slice A1 vs.length k1, .slice A2 fs.length k2, .slice A3 ks.length k3, .slice B1 es.length d1, .slice B2 fans.length d2, .slice B3 rs.length d3, .slice (some ⟨g, 0, none⟩) es.length es.length, .slice (some ⟨gm, 0, none⟩) fs.length fs.length]), PA (restP (vs.length : Int) 0 (es.zip sh)).length (restP (vs.length : Int) 0 (es.zip sh)), PCb W.heap.size (vs.length + es.length + fs.length) ((movedL vs (midsL vs fs) fans (es.zip sh)) ++ (halvesL vs (midsL vs fs) es sh) ++ (midsL vs fs)) (fine (vs.length : Int) es fs) (restP (vs.length : Int) 0 (es.zip sh))]) (by kernel_rfl) _ rfl (by kernel_rfl) (by kernel_rfl) (by kernel_rfl) (by kernel_rfl) (by kernel_rfl) (RL.stays ?_) ?_ ?_
      · intro p hp
        simp only [List.mem_cons, List.not_mem_nil, or_false] at hp
        rcases hp with rfl | rfl | rfl | rfl | rfl | rfl | rfl | rfl | rfl | rfl | rfl | rfl | rfl <;> first | exact PE.stays _ | exact PV.stays _ _ _ | exact PA.stays _ _ | exact PFb.stays _ _ | exact P3S.stays _ _ _ _ _ _ | exact PCb.stays _ _ _ _ _
      · simp only [List.take_succ_cons, List.take_zero]
        refine ⟨?_, ?_, ?_, ?_, ?_, ?_, ?_, ?_, ?_, ?_, ?_, ?_, ?_, ?_⟩
        · refine mono_val rfl (fun a w hB hk hp => ?_)
          have es7 := (hk 7 (keep_of (by kernel_rfl))).trans (show _ = some (.pointer (some ⟨P, 0, none⟩)) from rfl)
          exact ⟨.agg #[.slice A1 vs.length k1, .slice A2 fs.length k2, .slice A3 ks.length k3, .slice B1 es.length d1, .slice B2 fans.length d2, .slice B3 rs.length d3, .slice (some ⟨g, 0, none⟩) es.length es.length, .slice (some ⟨gm, 0, none⟩) fs.length fs.length], w, ldmS_run _ _ _ 79 _ rfl (P) 0 (eval_tmp es7) [.slice A1 vs.length k1, .slice A2 fs.length k2, .slice A3 ks.length k3, .slice B1 es.length d1, .slice B2 fans.length d2, .slice B3 rs.length d3, .slice (some ⟨g, 0, none⟩) es.length es.length, .slice (some ⟨gm, 0, none⟩) fs.length fs.length] _ (rng_all ((hP6).below hB)) Try.underlying79 rfl (by kernel_rfl), Below.refl _ _, fun _ _ => rfl⟩
        · refine mono_call rfl (fun a w hB hk hp => ?_)
          obtain ⟨x0, ex0, rx0⟩ := hp ⟨0, .data⟩ (by simp) rfl _ _ rfl rfl
          obtain rfl : x0 = _ := rx0
          exact ⟨34, #[.agg #[.slice A1 vs.length k1, .slice A2 fs.length k2, .slice A3 ks.length k3, .slice B1 es.length d1, .slice B2 fans.length d2, .slice B3 rs.length d3, .slice (some ⟨g, 0, none⟩) es.length es.length, .slice (some ⟨gm, 0, none⟩) fs.length fs.length]], by simp [execOp, go_sem, ex0], (cMo w hB).mono fun e w' ⟨A, c, h1, h2, h3⟩ => ⟨_, h1, h3, fun _ _ => ⟨A, c, rfl, h2⟩⟩⟩
        · refine mono_val rfl (fun a w hB hk hp => ?_)
          have es7 := (hk 7 (keep_of (by kernel_rfl))).trans (show _ = some (.pointer (some ⟨P, 0, none⟩)) from rfl)
          exact ⟨.agg #[.slice A1 vs.length k1, .slice A2 fs.length k2, .slice A3 ks.length k3, .slice B1 es.length d1, .slice B2 fans.length d2, .slice B3 rs.length d3, .slice (some ⟨g, 0, none⟩) es.length es.length, .slice (some ⟨gm, 0, none⟩) fs.length fs.length], w, ldmS_run _ _ _ 79 _ rfl (P) 0 (eval_tmp es7) [.slice A1 vs.length k1, .slice A2 fs.length k2, .slice A3 ks.length k3, .slice B1 es.length d1, .slice B2 fans.length d2, .slice B3 rs.length d3, .slice (some ⟨g, 0, none⟩) es.length es.length, .slice (some ⟨gm, 0, none⟩) fs.length fs.length] _ (rng_all ((hP6).below hB)) Try.underlying79 rfl (by kernel_rfl), Below.refl _ _, fun _ _ => rfl⟩
        · refine mono_call rfl (fun a w hB hk hp => ?_)
          obtain ⟨x2, ex2, rx2⟩ := hp ⟨2, .data⟩ (by simp) rfl _ _ rfl rfl
          obtain rfl : x2 = _ := rx2
          exact ⟨35, #[.agg #[.slice A1 vs.length k1, .slice A2 fs.length k2, .slice A3 ks.length k3, .slice B1 es.length d1, .slice B2 fans.length d2, .slice B3 rs.length d3, .slice (some ⟨g, 0, none⟩) es.length es.length, .slice (some ⟨gm, 0, none⟩) fs.length fs.length]], by simp [execOp, go_sem, ex2], (cHa w hB).mono fun e w' ⟨A, c, h1, h2, h3⟩ => ⟨_, h1, h3, fun _ _ => ⟨A, c, rfl, h2⟩⟩⟩
        · refine mono_val rfl (fun a w hB hk hp => ?_)
          have es7 := (hk 7 (keep_of (by kernel_rfl))).trans (show _ = some (.pointer (some ⟨P, 0, none⟩)) from rfl)
          exact ⟨.pointer (some ⟨P, 7, none⟩), w, by simp [execOp, go_sem, es7], Below.refl _ _, fun _ _ => rfl⟩
        · refine mono_val rfl (fun a w hB hk hp => ?_)
          obtain ⟨x4, ex4, rx4⟩ := hp ⟨4, .data⟩ (by simp) rfl _ _ rfl rfl
          obtain rfl : x4 = _ := rx4
          have fc0 := (hB.cell (p := ⟨P, 7, none⟩) pl).trans p7
          exact ⟨.slice (some ⟨gm, 0, none⟩) fs.length fs.length, w, by simp [execOp, go_sem, ex4, fc0], Below.refl _ _, fun _ _ => rfl⟩
        · refine mono_val rfl (fun a w hB hk hp => ?_)
          obtain ⟨x1, ex1, rx1⟩ := hp ⟨1, .data⟩ (by simp) rfl _ _ rfl rfl
          obtain ⟨gA, cA_, rfl, hvA⟩ : PA vs.length (movedL vs (midsL vs fs) fans (es.zip sh)) w x1 := rx1
          obtain ⟨x3, ex3, rx3⟩ := hp ⟨3, .data⟩ (by simp) rfl _ _ rfl rfl
          obtain ⟨gB, cB_, rfl, hvB⟩ : PA es.length (halvesL vs (midsL vs fs) es sh) w x3 := rx3
          obtain ⟨x5, ex5, rx5⟩ := hp ⟨5, .data⟩ (by simp) rfl _ _ rfl rfl
          obtain rfl : x5 = _ := rx5
          exact ⟨.slice (some ⟨w.heap.size, 0, none⟩) 3 3, w.alloc (.cells #[.slice gA vs.length cA_, .slice gB es.length cB_, .slice (some ⟨gm, 0, none⟩) fs.length fs.length] 22), by simp [execOp, go_sem, ex1, ex3, ex5], bel_alloc (Below.refl _ _) _, fun _ _ => p3s_new w gA gB hvA hvB⟩
        · refine mono_call rfl (fun a w hB hk hp => ?_)
          obtain ⟨x6, ex6, rx6⟩ := hp ⟨6, .data⟩ (by simp) rfl _ _ rfl rfl
          obtain ⟨bb, gA, cA_, gB, cB_, rfl, hbb, hc0, hc1, hc2, hvA, hvB⟩ : P3S vs.length es.length fs.length gm (movedL vs (midsL vs fs) fans (es.zip sh)) (halvesL vs (midsL vs fs) es sh) w x6 := rx6
          exact ⟨33, #[.slice (some ⟨bb, 0, none⟩) 3 3], by simp [execOp, go_sem, ex6], (conc3 w bb hbb hc0 hc1 hc2 hvA hvB (hM6.below hB) hcl hcb).mono fun e w' ⟨A, c, h1, h2, h3⟩ => ⟨_, h1, h3, fun _ _ => ⟨A, c, rfl, h2⟩⟩⟩
        · refine mono_val rfl (fun a w hB hk hp => ?_)
          have es7 := (hk 7 (keep_of (by kernel_rfl))).trans (show _ = some (.pointer (some ⟨P, 0, none⟩)) from rfl)
          exact ⟨.agg #[.slice A1 vs.length k1, .slice A2 fs.length k2, .slice A3 ks.length k3, .slice B1 es.length d1, .slice B2 fans.length d2, .slice B3 rs.length d3, .slice (some ⟨g, 0, none⟩) es.length es.length, .slice (some ⟨gm, 0, none⟩) fs.length fs.length], w, ldmS_run _ _ _ 79 _ rfl (P) 0 (eval_tmp es7) [.slice A1 vs.length k1, .slice A2 fs.length k2, .slice A3 ks.length k3, .slice B1 es.length d1, .slice B2 fans.length d2, .slice B3 rs.length d3, .slice (some ⟨g, 0, none⟩) es.length es.length, .slice (some ⟨gm, 0, none⟩) fs.length fs.length] _ (rng_all ((hP6).below hB)) Try.underlying79 rfl (by kernel_rfl), Below.refl _ _, fun _ _ => rfl⟩
        · refine mono_call rfl (fun a w hB hk hp => ?_)
          obtain ⟨x8, ex8, rx8⟩ := hp ⟨8, .data⟩ (by simp) rfl _ _ rfl rfl
          obtain rfl : x8 = _ := rx8
          exact ⟨36, #[.agg #[.slice A1 vs.length k1, .slice A2 fs.length k2, .slice A3 ks.length k3, .slice B1 es.length d1, .slice B2 fans.length d2, .slice B3 rs.length d3, .slice (some ⟨g, 0, none⟩) es.length es.length, .slice (some ⟨gm, 0, none⟩) fs.length fs.length]], by simp [execOp, go_sem, ex8], (cQu w hB).mono fun e w' ⟨A, c, h1, h2, h3⟩ => ⟨_, h1, h3, fun _ _ => ⟨A, c, rfl, h2⟩⟩⟩
        · refine mono_val rfl (fun a w hB hk hp => ?_)
          have es7 := (hk 7 (keep_of (by kernel_rfl))).trans (show _ = some (.pointer (some ⟨P, 0, none⟩)) from rfl)
          exact ⟨.agg #[.slice A1 vs.length k1, .slice A2 fs.length k2, .slice A3 ks.length k3, .slice B1 es.length d1, .slice B2 fans.length d2, .slice B3 rs.length d3, .slice (some ⟨g, 0, none⟩) es.length es.length, .slice (some ⟨gm, 0, none⟩) fs.length fs.length], w, ldmS_run _ _ _ 79 _ rfl (P) 0 (eval_tmp es7) [.slice A1 vs.length k1, .slice A2 fs.length k2, .slice A3 ks.length k3, .slice B1 es.length d1, .slice B2 fans.length d2, .slice B3 rs.length d3, .slice (some ⟨g, 0, none⟩) es.length es.length, .slice (some ⟨gm, 0, none⟩) fs.length fs.length] _ (rng_all ((hP6).below hB)) Try.underlying79 rfl (by kernel_rfl), Below.refl _ _, fun _ _ => rfl⟩
        · refine mono_call rfl (fun a w hB hk hp => ?_)
          obtain ⟨x10, ex10, rx10⟩ := hp ⟨10, .data⟩ (by simp) rfl _ _ rfl rfl
          obtain rfl : x10 = _ := rx10
          exact ⟨37, #[.agg #[.slice A1 vs.length k1, .slice A2 fs.length k2, .slice A3 ks.length k3, .slice B1 es.length d1, .slice B2 fans.length d2, .slice B3 rs.length d3, .slice (some ⟨g, 0, none⟩) es.length es.length, .slice (some ⟨gm, 0, none⟩) fs.length fs.length]], by simp [execOp, go_sem, ex10], (cRe w hB).mono fun e w' ⟨A, c, h1, h2, h3⟩ => ⟨_, h1, h3, fun _ _ => ⟨A, c, rfl, h2⟩⟩⟩
        · refine mono_val rfl (fun a w hB hk hp => ?_)
          obtain ⟨x7, ex7, rx7⟩ := hp ⟨7, .data⟩ (by simp) rfl _ _ rfl rfl
          obtain ⟨R1, e1, rfl, hr1⟩ : PA (vs.length + es.length + fs.length) ((movedL vs (midsL vs fs) fans (es.zip sh)) ++ (halvesL vs (midsL vs fs) es sh) ++ (midsL vs fs)) w x7 := rx7
          obtain ⟨x9, ex9, rx9⟩ := hp ⟨9, .data⟩ (by simp) rfl _ _ rfl rfl
          obtain ⟨R2, e2, rfl, hr2⟩ : PFb W.heap.size (fine (vs.length : Int) es fs) w x9 := rx9
          obtain ⟨x11, ex11, rx11⟩ := hp ⟨11, .data⟩ (by simp) rfl _ _ rfl rfl
          obtain ⟨R3, e3, rfl, hr3⟩ : PA (restP (vs.length : Int) 0 (es.zip sh)).length (restP (vs.length : Int) 0 (es.zip sh)) w x11 := rx11
          exact ⟨.agg #[.slice R1 (vs.length + es.length + fs.length) e1, .slice R2 _ e2, .slice R3 _ e3], w, by simp [execOp, go_sem, ex7, ex9, ex11], Below.refl _ _, fun _ _ => ⟨R1, e1, R2, e2, R3, e3, rfl, hr1, hr2, hr3⟩⟩
        · trivial
      · intro a w7 hB hsz hdf hk hgot
        obtain ⟨v12, ev12, rv12⟩ := hgot 12 _ 53 rfl rfl
        obtain ⟨R1, e1, R2, e2, R3, e3, rfl, hr1, hr2, hr3⟩ : PCb W.heap.size (vs.length + es.length + fs.length) ((movedL vs (midsL vs fs) fans (es.zip sh)) ++ (halvesL vs (midsL vs fs) es sh) ++ (midsL vs fs)) (fine (vs.length : Int) es fs) (restP (vs.length : Int) 0 (es.zip sh)) w7 v12 := rv12
        obtain ⟨f, hf, rfl⟩ := frame_eq hsz hdf hk [41, 42, 43, 44, 45, 46, 47, 48, 49, 50, 51, 52, 53] (by rfl)
        have f53 := hf 53 _ ev12
        clear hsz hdf hk hgot hf ev12
        simp only [List.drop_succ_cons, List.drop_zero, setAll, List.setIfInBounds_toArray, List.set_cons_succ, List.set_cons_zero, f53]
        clear f53
        generalize f 41 = uu41; generalize f 42 = uu42; generalize f 43 = uu43; generalize f 44 = uu44; generalize f 45 = uu45; generalize f 46 = uu46; generalize f 47 = uu47; generalize f 48 = uu48; generalize f 49 = uu49; generalize f 50 = uu50; generalize f 51 = uu51; generalize f 52 = uu52
        have hR7 := hR6.below hB
        have hB7 := bel_trans hB6 hB
        have hml2 : (movedL vs (midsL vs fs) fans (es.zip sh) ++ halvesL vs (midsL vs fs) es sh ++ midsL vs fs).length = vs.length + es.length + fs.length := by rw [List.length_append, List.length_append, hcl.1, hcl.2.1, hcl.2.2]
        clear cMo cHa cQu cRe hR6 hB6 hV6 hGs6 hM6 hB pl p7 hcb
        generalize movedL vs (midsL vs fs) fans (es.zip sh) ++ halvesL vs (midsL vs fs) es sh ++ midsL vs fs = RV at *
        generalize fine (vs.length : Int) es fs = RF at *
        generalize restP (vs.length : Int) 0 (es.zip sh) = RK at *
        have f0 := hR7.frozen 0
        have f1 := hR7.frozen 1
        have f2 := hR7.frozen 2
        have r0 : w7.cell? ⟨W.heap.size + 1, 0, none⟩ = some (.slice none 0 0) := hR7.cell 0
        have r1 : w7.cell? ⟨W.heap.size + 1, 1, none⟩ = some (.slice none 0 0) := hR7.cell 1
        have r2 : w7.cell? ⟨W.heap.size + 1, 2, none⟩ = some (.slice none 0 0) := hR7.cell 2
        have rl := hR7.lt
        obtain ⟨nn, hnn⟩ : ∃ nn, vs.length + es.length + fs.length = nn := ⟨_, rfl⟩
        rw [hnn] at hml2
        simp only [hnn]
        have hE := ((hR7.set 0 (.slice R1 nn e1)).set 1 (.slice R2 RF.length e2)).set 2 (.slice R3 RK.length e3)
        have hbE := bel_set (bel_set (bel_set hB7 (p := ⟨W.heap.size + 1, 0, none⟩) (by simp) (.slice R1 nn e1)) (p := ⟨W.heap.size + 1, 1, none⟩) (by simp) (.slice R2 RF.length e2)) (p := ⟨W.heap.size + 1, 2, none⟩) (by simp) (.slice R3 RK.length e3)
        have hgE := ((set_grown w7 (W.heap.size + 1) 0 (.slice R1 nn e1)).trans (set_grown _ (W.heap.size + 1) 1 (.slice R2 RF.length e2))).trans (set_grown _ (W.heap.size + 1) 2 (.slice R3 RK.length e3))
        have hall0 : ∀ (i : Nat) (v : Value), (#[.slice none 0 0, .slice none 0 0, .slice none 0 0] : Array Value)[i]? = some v → v = .slice none 0 0 := fun i v h => by
          have hi : i < 3 := by have := (Array.getElem?_eq_some_iff.1 h).1; simpa using this
          rcases (by omega : i = 0 ∨ i = 1 ∨ i = 2) with rfl | rfl | rfl <;> (simp at h; exact h.symm)
        have hv1 := hr1.kept_slices hgE hR7 (fun i v h => ⟨_, _, _, hall0 i v h⟩)
        have hv2 := hr2.1.kept_slices hgE hR7 hall0 hfpos
        have hf2 := hr2.2
        have hv3 := hr3.kept_slices hgE hR7 (fun i v h => ⟨_, _, _, hall0 i v h⟩)
        clear hgE hall0 hr1 hr2 hr3 hR7 hB7 hnn
        replace hml2 := Lib.hid hml2
        go_wp2
        generalize ((w7.setCell ⟨W.heap.size + 1, 0, none⟩ (.slice R1 nn e1)).setCell ⟨W.heap.size + 1, 1, none⟩ (.slice R2 RF.length e2)).setCell ⟨W.heap.size + 1, 2, none⟩ (.slice R3 RK.length e3) = WE at *
        have y0 : WE.cell? ⟨W.heap.size + 1, 0, none⟩ = some (.slice R1 nn e1) := hE.cell 0
        have y1 : WE.cell? ⟨W.heap.size + 1, 1, none⟩ = some (.slice R2 RF.length e2) := hE.cell 1
        have y2 : WE.cell? ⟨W.heap.size + 1, 2, none⟩ = some (.slice R3 RK.length e3) := hE.cell 2
        refine bodyPost_ret (v := .tuple #[.agg #[.slice R1 nn e1, .slice R2 RF.length e2, .slice R3 RK.length e3], .int .i64 0]) (by simp [results, Try.results12, go_sem, y0, y1, y2]) rfl ?_
        exact ⟨⟨RV, RF, RK⟩, R1, R2, R3, e1, e2, e3, 0, by rw [hml2.out], hbE, hv1, ⟨hv2, hf2⟩, hv3, hLR⟩
end Go.Proofs.Ytiaikceoodeboaa
