/- Package sub: Level. alive of layer 9; is a cage more than is looked at? The finer faces make a surface; what was round is. No program is imported. A row's length within its room, all that a copy asks: of a cage's vertices and creases. A row's length is within its room: of a cage's vertices. Each coordinate of a finer cage, exactly. -/
import Derived.Test.YtgmifpicilfcdabC0
import Derived.Test.YtgmifpicilfcdabC2
import Derived.Test.YtgmifpicilfcdabC3
import Derived.Test.YtgmifpicilfcdabC6
import Derived.Test.YtgmifpicilfcdabC7
import Derived.Test.YtgmifpicilfcdabC12
namespace Go.Proofs.Ytgmifpicilfcdab
open Go.RowKit
set_option linter.unusedVariables false
set_option linter.unusedSimpArgs false
set_option linter.unnecessarySimpa false
set_option maxRecDepth 100000
theorem rng_all {W : World} {b : Nat} {t : TypeId} {cs : List Value} (h : Blk W b t cs.toArray) : W.rangeAt b 0 cs := fun j v hv => by
  rw [Nat.zero_add, h.cell]; simpa using hv
/-- A row of n points, wherever; of faces; a cage. -/
def PA (n : Nat) (ps : List P3) : World → Value → Prop := fun w v => ∃ A c, v = .slice A n c ∧ VL w A ps
theorem PA.stays (n : Nat) (ps : List P3) : Stays (PA n ps) := fun w w' v hB ⟨A, c, e, h⟩ => ⟨A, c, e, h.below hB⟩
def PF (fs : List (List Int)) : World → Value → Prop := fun w v => ∃ A c, v = .slice A fs.length c ∧ FL w A fs
theorem PF.stays (fs : List (List Int)) : Stays (PF fs) := fun w w' v hB ⟨A, c, e, h⟩ => ⟨A, c, e, h.below hB⟩
def PC (n : Nat) (ps : List P3) (fs : List (List Int)) (ks : List P3) : World → Value → Prop := fun w v => ∃ R1 e1 R2 e2 R3 e3, v = .agg #[.slice R1 n e1, .slice R2 fs.length e2, .slice R3 ks.length e3] ∧ VL w R1 ps ∧ FL w R2 fs ∧ VL w R3 ks
theorem PC.stays (n : Nat) (ps : List P3) (fs : List (List Int)) (ks : List P3) : Stays (PC n ps fs ks) := fun w w' v hB ⟨R1, e1, R2, e2, R3, e3, e, h1, h2, h3⟩ => ⟨R1, e1, R2, e2, R3, e3, e, h1.below hB, h2.below hB, h3.below hB⟩
def PK (CK : Nat → Array Value) (ms : List P3) : World → Value → Prop := fun w v => ∃ gm, v = .agg (CK gm) ∧ VL w (some ⟨gm, 0, none⟩) ms
theorem PK.stays (CK : Nat → Array Value) (ms : List P3) : Stays (PK CK ms) := fun w w' v hB ⟨g, e, h⟩ => ⟨g, e, h.below hB⟩
def PB (base : Nat) (t : TypeId) (cs : Array Value) : World → Value → Prop := fun w v => ∃ P, v = .pointer (some ⟨P, 0, none⟩) ∧ base ≤ P ∧ Blk w P t cs
theorem PB.stays (base : Nat) (t : TypeId) (cs : Array Value) : Stays (PB base t cs) := fun w w' v hB ⟨P, e, h1, h2⟩ => ⟨P, e, h1, h2.below hB⟩
def P3S (n1 n2 n3 gm : Nat) (p1 p2 : List P3) : World → Value → Prop := fun w v => ∃ b gA cA gB cB, v = .slice (some ⟨b, 0, none⟩) 3 3 ∧ b < w.heap.size ∧ w.cell? ⟨b, 0, none⟩ = some (.slice gA n1 cA) ∧ w.cell? ⟨b, 1, none⟩ = some (.slice gB n2 cB) ∧ w.cell? ⟨b, 2, none⟩ = some (.slice (some ⟨gm, 0, none⟩) n3 n3) ∧ VL w gA p1 ∧ VL w gB p2
theorem P3S.stays (n1 n2 n3 gm : Nat) (p1 p2 : List P3) : Stays (P3S n1 n2 n3 gm p1 p2) := fun w w' v hB ⟨b, gA, cA, gB, cB, e, hb, h0, h1, h2, h3, h4⟩ => ⟨b, gA, cA, gB, cB, e, Nat.lt_of_lt_of_le hb hB.size, (hB.cell (p := ⟨b, 0, none⟩) hb).trans h0, (hB.cell (p := ⟨b, 1, none⟩) hb).trans h1, (hB.cell (p := ⟨b, 2, none⟩) hb).trans h2, h3.below hB, h4.below hB⟩
theorem p3s_new {n1 n2 n3 gm cA cB : Nat} {p1 p2 : List P3} (w : World) (gA gB : Option Addr) (h1 : VL w gA p1) (h2 : VL w gB p2) : P3S n1 n2 n3 gm p1 p2 (w.alloc (.cells #[.slice gA n1 cA, .slice gB n2 cB, .slice (some ⟨gm, 0, none⟩) n3 n3] 22)) (.slice (some ⟨w.heap.size, 0, none⟩) 3 3) := by
  have hb := Blk.new w 22 #[.slice gA n1 cA, .slice gB n2 cB, .slice (some ⟨gm, 0, none⟩) n3 n3] _ rfl
  have hB : Below w.heap.size w (w.alloc (.cells #[.slice gA n1 cA, .slice gB n2 cB, .slice (some ⟨gm, 0, none⟩) n3 n3] 22)) := bel_alloc (Below.refl _ _) _
  exact ⟨w.heap.size, gA, cA, gB, cB, rfl, hb.lt, hb.cell 0, hb.cell 1, hb.cell 2, h1.below hB, h2.below hB⟩
theorem conc3 {n1 n2 n3 gm c1 c2 : Nat} {p1 p2 p3 : List P3} {gA gB : Option Addr} (w : World) (b : Nat) (hb : b < w.heap.size) (h0 : w.cell? ⟨b, 0, none⟩ = some (.slice gA n1 c1)) (h1 : w.cell? ⟨b, 1, none⟩ = some (.slice gB n2 c2)) (h2 : w.cell? ⟨b, 2, none⟩ = some (.slice (some ⟨gm, 0, none⟩) n3 n3)) (v1 : VL w gA p1) (v2 : VL w gB p2) (v3 : VL w (some ⟨gm, 0, none⟩) p3) (hl : p1.length = n1 ∧ p2.length = n2 ∧ p3.length = n3) (hc : ((n1 = 0 ∧ n2 = 0 ∧ n3 = 0) ∨ (0 < n1 ∧ 0 < n2 ∧ 0 < n3)) ∧ n1 + n2 + n3 < 1099511627776) :
    Calls Try.prog 37 #[.slice (some ⟨b, 0, none⟩) 3 3] w fun e W' => ∃ A c, e = .returned (.slice A (n1 + n2 + n3) c) ∧ VL W' A (p1 ++ p2 ++ p3) ∧ Below w.heap.size w W' := by
  obtain ⟨rfl, rfl, rfl⟩ := hl
  obtain ⟨hc, hs⟩ := hc
  have hps : psAll [⟨gA, c1, p1⟩, ⟨gB, c2, p2⟩, ⟨some ⟨gm, 0, none⟩, p3.length, p3⟩] = p1 ++ p2 ++ p3 := by simp [psAll]
  rcases hc with ⟨z1, z2, z3⟩ | ⟨z1, z2, z3⟩
  · refine (concat_nil w b 3 3 [⟨gA, c1, p1⟩, ⟨gB, c2, p2⟩, ⟨some ⟨gm, 0, none⟩, p3.length, p3⟩] hb rfl (fun i hi => ?_) (by omega)).mono ?_
    · rcases (by simp at hi; omega : i = 0 ∨ i = 1 ∨ i = 2) with rfl | rfl | rfl
      · rw [z1] at h0; exact h0
      · rw [z2] at h1; exact h1
      · rw [z3] at h2; simp only [List.getElem_cons_succ, List.getElem_cons_zero]; rw [z3]; exact h2
    · rintro e W' ⟨rfl, rfl⟩
      have e1 := List.eq_nil_of_length_eq_zero z1
      have e2 := List.eq_nil_of_length_eq_zero z2
      have e3 := List.eq_nil_of_length_eq_zero z3
      subst e1 e2 e3
      exact ⟨none, 0, rfl, VL.nil _ _, Below.refl _ _⟩
  · refine (concat_any w b 3 3 [⟨gA, c1, p1⟩, ⟨gB, c2, p2⟩, ⟨some ⟨gm, 0, none⟩, p3.length, p3⟩] hb rfl (fun i hi => ?_) (by rw [hps]; simp; omega) (by rw [hps]; simp; omega) (by omega)).mono ?_
    · rcases (by simp at hi; omega : i = 0 ∨ i = 1 ∨ i = 2) with rfl | rfl | rfl
      · exact ⟨h0, v1, z1⟩
      · exact ⟨h1, v2, z2⟩
      · exact ⟨h2, v3, z3⟩
    · rintro e W' ⟨A, c, rfl, hv, hB⟩
      rw [hps] at hv ⊢
      exact ⟨A, c, by simp [Nat.add_assoc], hv, hB⟩
/-- A row of numbers doesn't lie where slices do. -/
theorem VL.kept_slices {W W' : World} {A : Option Addr} {ps : List P3} {b : Nat} {t : TypeId} {cs : Array Value} (h : VL W A ps) (hg : W.grownBy W' (some b)) (hb : Blk W b t cs) (hs : ∀ (i : Nat) (v : Value), cs[i]? = some v → ∃ a n c, v = .slice a n c) : VL W' A ps := by
  by_cases hp : 0 < ps.length
  · refine h.kept hg fun b2 o2 e hbb => ?_
    obtain ⟨b3, o3, e3, _, hc⟩ := h hp
    rw [e] at e3; cases e3
    subst hbb
    have h0 := (hc 0 hp).1
    rw [hb.cell] at h0
    obtain ⟨a, n, c, hv⟩ := hs _ _ h0
    cases hv
  · exact fun h9 => absurd h9 hp
theorem FL.kept_slices {W W' : World} {A : Option Addr} {fs : List (List Int)} {b : Nat} {t : TypeId} {cs : Array Value} (h : FL W A fs) (hg : W.grownBy W' (some b)) (hb : Blk W b t cs) (hs : ∀ (i : Nat) (v : Value), cs[i]? = some v → v = .slice none 0 0) (hf : ∀ x ∈ fs, 0 < x.length) : FL W' A fs := fun hp => by
  obtain ⟨b2, o2, e, hl, hc⟩ := h hp
  have hne : b2 ≠ b := fun hbb => by
    subst hbb
    obtain ⟨B, m, h1, _⟩ := hc 0 hp
    rw [hb.cell] at h1
    have h2 := hs _ _ h1
    have h3 := hf _ (List.getElem_mem hp)
    injection h2 with _ h4
    omega
  refine ⟨b2, o2, e, Nat.lt_of_lt_of_le hl hg.size, fun i hi => ?_⟩
  obtain ⟨B, m, h1, h2⟩ := hc i hi
  refine ⟨B, m, hg.cell h1 (by simp only; intro e; cases e; exact hne rfl), fun hx => ?_⟩
  obtain ⟨b3, o3, e3, hl3, hc3⟩ := h2 hx
  have hne3 : b3 ≠ b := fun hbb => by
    subst hbb
    have h5 := hc3 0 hx
    rw [hb.cell] at h5
    have h6 := hs _ _ h5
    cases h6
  exact ⟨b3, o3, e3, Nat.lt_of_lt_of_le hl3 hg.size, fun j hj => hg.cell (hc3 j hj) (by simp only; intro e; cases e; exact hne3 rfl)⟩
theorem alloc_Co (a : Act) (o : Oper) (ho : o.op = .alloc 96) (w : World) : (execOp a.eval o).run Try.prog w = .ok (.value (.pointer (some ⟨w.heap.size, 0, none⟩))) (w.alloc (.cells #[.slice none 0 0, .slice none 0 0, .slice none 0 0, .slice none 0 0, .slice none 0 0, .slice none 0 0, .slice none 0 0, .slice none 0 0] 96)) := by
  unfold execOp
  rw [ho]
  kernel_rfl
/-- A cage that lies somewhere, not too great. -/
structure CgV (W : World) (c : Cg) (A1 A2 A3 : Option Addr) : Prop where
  i1 : ∀ p ∈ c.vs, I3 p
  i2 : ∀ q ∈ c.fs, ∀ x ∈ q, i64B x
  i3 : ∀ p ∈ c.ks, I3 p
  v1 : VL W A1 c.vs
  v2 : FL W A2 c.fs
  v3 : VL W A3 c.ks
  few : c.vs.length + c.fs.length + tot c.fs + c.ks.length ≤ 1000000
theorem CgV.below {W W' : World} {c : Cg} {A1 A2 A3 : Option Addr} (h : CgV W c A1 A2 A3) (hb : Below W.heap.size W W') : CgV W' c A1 A2 A3 := ⟨h.i1, h.i2, h.i3, h.v1.below hb, h.v2.below hb, h.v3.below hb, h.few⟩
set_option maxHeartbeats 8000000 in
theorem level_any (W : World) (c : Cg) (A1 A2 A3 : Option Addr) (k1 k2 k3 : Nat) (hc : CgV W c A1 A2 A3) :
    Calls Try.prog 20 #[.agg #[.slice A1 c.vs.length k1, .slice A2 c.fs.length k2, .slice A3 c.ks.length k3]] W fun e W' => ∃ (r : Cg) (R1 R2 R3 : Option Addr) (c1 c2 c3 : Nat) (er : Int), e = .returned (.tuple #[.agg #[.slice R1 r.vs.length c1, .slice R2 r.fs.length c2, .slice R3 r.ks.length c3], .int .i64 er]) ∧ Below W.heap.size W W' ∧ VL W' R1 r.vs ∧ FL W' R2 r.fs ∧ VL W' R3 r.ks ∧ LevR c r er := by
  obtain ⟨W0, hW0⟩ : ∃ W0, W0 = (W.alloc (.cells #[.slice A1 c.vs.length k1, .slice A2 c.fs.length k2, .slice A3 c.ks.length k3] 26)).alloc (.cells #[.slice none 0 0, .slice none 0 0, .slice none 0 0] 26) := ⟨_, rfl⟩
  have hB0 : Below W.heap.size W W0 := by rw [hW0]; exact bel_alloc (bel_alloc (Below.refl _ _) _) _
  have hC0 : Blk W0 W.heap.size 26 #[.slice A1 c.vs.length k1, .slice A2 c.fs.length k2, .slice A3 c.ks.length k3] := by rw [hW0]; exact (Blk.new _ _ _ _ rfl).alloc _
  have hR0 : Blk W0 (W.heap.size + 1) 26 #[.slice none 0 0, .slice none 0 0, .slice none 0 0] := by rw [hW0]; exact Blk.new _ _ _ _ (by simp)
  have hcW := hc
  obtain ⟨hi1, hi2, hi3, hV, hF, hK, few⟩ := hc
  obtain ⟨vs, fs, ks⟩ := c
  simp only at hi1 hi2 hi3 hV hF hK few hC0 hW0 ⊢
  have hxl : ∀ x ∈ fs, x.length ≤ tot fs := fun x hx => len_tot hx
  have cB := built_any W0 (vs.length : Int) k2 fs A2 (hF.below hB0) (by unfold i64B; omega) hi2 (by omega)
  go_enter Try.func20, Try.ntmps20
  go_upto_region 1 with (fail)
  simp only [← hW0]
  clear hW0
  have x0 : W0.cell? ⟨W.heap.size, 0, none⟩ = some (.slice A1 vs.length k1) := hC0.cell 0
  have x1 : W0.cell? ⟨W.heap.size, 1, none⟩ = some (.slice A2 fs.length k2) := hC0.cell 1
  have xl := hC0.lt
  go_upto_region 2 with (first | (go_at_call 10; (with_reducible refine cB.mono ?_); rintro e W1 ⟨B1, B2, B3, t, d1, d2, d3, ee, rfl, hP⟩) | fail)
  have hT2 : Blk (W1.alloc (.cells #[.slice B1 t.es.length d1, .slice B2 t.fans.length d2, .slice B3 t.rs.length d3] 37)) W1.heap.size 37 #[.slice B1 t.es.length d1, .slice B2 t.fans.length d2, .slice B3 t.rs.length d3] := Blk.new _ _ _ _ rfl
  have hb2 := bel_alloc hP.bel (.cells #[.slice B1 t.es.length d1, .slice B2 t.fans.length d2, .slice B3 t.rs.length d3] 37)
  have hV2 := TopoV.below hP.isV (bel_alloc (Below.refl _ _) (.cells #[.slice B1 t.es.length d1, .slice B2 t.fans.length d2, .slice B3 t.rs.length d3] 37))
  have hgood := Lib.hid hP.good
  have hsz1 := hP.bel.size
  clear hP cB
  generalize W1.alloc (.cells #[.slice B1 t.es.length d1, .slice B2 t.fans.length d2, .slice B3 t.rs.length d3] 37) = W2 at *
  obtain ⟨T, hT⟩ : ∃ T, W1.heap.size = T := ⟨_, rfl⟩
  simp only [hT] at *
  clear hT x0 x1 xl
  have hC2 := hC0.below hb2
  have hR2 := hR0.below hb2
  have hB2 := bel_trans hB0 hb2
  have hR0l := hR0.lt
  clear hC0 hR0 hB0 hb2
  rcases hgood.out with ⟨rfl, hsf, hTS⟩ | ⟨rfl, hns, rfl, rfl, rfl, rfl, rfl, rfl, rfl⟩
  rotate_left
  · replace hns := Lib.hid hns
    clear hgood
    have f0 := hR2.frozen 0
    have f1 := hR2.frozen 1
    have f2 := hR2.frozen 2
    have r0 : W2.cell? ⟨W.heap.size + 1, 0, none⟩ = some (.slice none 0 0) := hR2.cell 0
    have r1 : W2.cell? ⟨W.heap.size + 1, 1, none⟩ = some (.slice none 0 0) := hR2.cell 1
    have r2 : W2.cell? ⟨W.heap.size + 1, 2, none⟩ = some (.slice none 0 0) := hR2.cell 2
    have rl := hR2.lt
    have hE := ((hR2.set 0 (.slice none 0 0)).set 1 (.slice none 0 0)).set 2 (.slice none 0 0)
    have hbE := bel_set (bel_set (bel_set hB2 (p := ⟨W.heap.size + 1, 0, none⟩) (by simp) (.slice none 0 0)) (p := ⟨W.heap.size + 1, 1, none⟩) (by simp) (.slice none 0 0)) (p := ⟨W.heap.size + 1, 2, none⟩) (by simp) (.slice none 0 0)
    go_wp2
    generalize ((W2.setCell ⟨W.heap.size + 1, 0, none⟩ (.slice none 0 0)).setCell ⟨W.heap.size + 1, 1, none⟩ (.slice none 0 0)).setCell ⟨W.heap.size + 1, 2, none⟩ (.slice none 0 0) = WE at *
    have y0 : WE.cell? ⟨W.heap.size + 1, 0, none⟩ = some (.slice none 0 0) := hE.cell 0
    have y1 : WE.cell? ⟨W.heap.size + 1, 1, none⟩ = some (.slice none 0 0) := hE.cell 1
    have y2 : WE.cell? ⟨W.heap.size + 1, 2, none⟩ = some (.slice none 0 0) := hE.cell 2
    refine bodyPost_ret (v := .tuple #[.agg #[.slice none 0 0, .slice none 0 0, .slice none 0 0], .int .i64 14]) (by simp [results, Try.results20, go_sem, y0, y1, y2]) rfl ?_
    exact ⟨Cg0, none, none, none, 0, 0, 0, 14, rfl, hbE, VL.nil _ _, fun h => by simp [Cg0] at h, VL.nil _ _, LevR.noSurf hns.out⟩
  clear hgood hsf
  obtain ⟨es, fans, rs⟩ := t
  simp only at *
  have hel : es.length ≤ tot fs := by have h1 := edges_le hTS.walk hTS.edges; rw [waysL_len] at h1; exact h1
  have hnf : fans.length = vs.length := by have := hTS.nf; simp only at this; omega
  have hTS0 := Lib.hid hTS
  clear hTS
  have cS := sharp_any W2 A1 A2 A3 B1 B2 B3 vs.length fs.length fans.length rs.length k1 k2 k3 d1 d2 d3 es ks hV2.es hTS0.out.edges.sorted (hK.below hB2) (by omega) (by omega)
  replace hnf := Lib.hid hnf
  have x0 : W2.cell? ⟨W.heap.size, 0, none⟩ = some (.slice A1 vs.length k1) := hC2.cell 0
  have x1 : W2.cell? ⟨W.heap.size, 1, none⟩ = some (.slice A2 fs.length k2) := hC2.cell 1
  have x2 : W2.cell? ⟨W.heap.size, 2, none⟩ = some (.slice A3 ks.length k3) := hC2.cell 2
  have xl := hC2.lt
  have t0 : W2.cell? ⟨T, 0, none⟩ = some (.slice B1 es.length d1) := hT2.cell 0
  have t1 : W2.cell? ⟨T, 1, none⟩ = some (.slice B2 fans.length d2) := hT2.cell 1
  have t2 : W2.cell? ⟨T, 2, none⟩ = some (.slice B3 rs.length d3) := hT2.cell 2
  have tl := hT2.lt
  go_upto_region 5 with (first | (go_at_call 33; (with_reducible refine cS.mono ?_); rintro e W3 ⟨hb3, hcase⟩; obtain ⟨sv, ev, rfl⟩ : ∃ sv ev, e = .returned (.tuple #[sv, .int .i64 ev]) := (by rcases hcase with ⟨_, h⟩ | ⟨sh, g, _, _, _, h⟩; exact ⟨_, _, h⟩; exact ⟨_, _, h⟩)) | fail)
  have hC3 := hC2.below hb3
  have hR3 := hR2.below hb3
  have hT3 := hT2.below hb3
  have hB3 := bel_trans hB2 hb3
  have hV3 := TopoV.below hV2 hb3
  have hsz3 := hb3.size
  clear hC2 hR2 hT2 hB2 hV2 cS x0 x1 x2 xl t0 t1 t2 tl hb3
  rcases hcase with ⟨hno, he⟩ | ⟨sh, g, hsh, hgg, hGs, he⟩
  all_goals (simp only [Ending.returned.injEq, Value.tuple.injEq, Array.mk.injEq, List.cons.injEq, Value.int.injEq, and_true, true_and] at he)
  all_goals (obtain ⟨rfl, rfl⟩ := he)
  · replace hno := Lib.hid hno
    have f0 := hR3.frozen 0
    have f1 := hR3.frozen 1
    have f2 := hR3.frozen 2
    have r0 : W3.cell? ⟨W.heap.size + 1, 0, none⟩ = some (.slice none 0 0) := hR3.cell 0
    have r1 : W3.cell? ⟨W.heap.size + 1, 1, none⟩ = some (.slice none 0 0) := hR3.cell 1
    have r2 : W3.cell? ⟨W.heap.size + 1, 2, none⟩ = some (.slice none 0 0) := hR3.cell 2
    have rl := hR3.lt
    have hE := ((hR3.set 0 (.slice none 0 0)).set 1 (.slice none 0 0)).set 2 (.slice none 0 0)
    have hbE := bel_set (bel_set (bel_set hB3 (p := ⟨W.heap.size + 1, 0, none⟩) (by simp) (.slice none 0 0)) (p := ⟨W.heap.size + 1, 1, none⟩) (by simp) (.slice none 0 0)) (p := ⟨W.heap.size + 1, 2, none⟩) (by simp) (.slice none 0 0)
    go_wp2
    generalize ((W3.setCell ⟨W.heap.size + 1, 0, none⟩ (.slice none 0 0)).setCell ⟨W.heap.size + 1, 1, none⟩ (.slice none 0 0)).setCell ⟨W.heap.size + 1, 2, none⟩ (.slice none 0 0) = WE at *
    have y0 : WE.cell? ⟨W.heap.size + 1, 0, none⟩ = some (.slice none 0 0) := hE.cell 0
    have y1 : WE.cell? ⟨W.heap.size + 1, 1, none⟩ = some (.slice none 0 0) := hE.cell 1
    have y2 : WE.cell? ⟨W.heap.size + 1, 2, none⟩ = some (.slice none 0 0) := hE.cell 2
    refine bodyPost_ret (v := .tuple #[.agg #[.slice none 0 0, .slice none 0 0, .slice none 0 0], .int .i64 14]) (by simp [results, Try.results20, go_sem, y0, y1, y2]) rfl ?_
    exact ⟨Cg0, none, none, none, 0, 0, 0, 14, rfl, hbE, VL.nil _ _, fun h => by simp [Cg0] at h, VL.nil _ _, LevR.noEdge _ hTS0.out hno.out⟩
  replace hsh := Lib.hid hsh
  have cF := far_any W3 A1 k1 vs (hV.below hB3) (by omega)
  have x0 : W3.cell? ⟨W.heap.size, 0, none⟩ = some (.slice A1 vs.length k1) := hC3.cell 0
  have xl := hC3.lt
  cases hfar : vs.any farB with
  | true =>
    rw [hfar] at cF
    replace hfar := Lib.hid hfar
    go_upto_region 8 with (first | (go_at_call 34; (with_reducible refine cF.mono ?_); rintro e W4 ⟨hb4, rfl⟩) | fail)
    have hR4 := hR3.below hb4
    have hB4 := bel_trans hB3 hb4
    clear hC3 hR3 hT3 hB3 hV3 cF x0 xl hb4 hGs
    have hbad : ¬ ∀ p ∈ vs, InP 65536 p := fun h => by
      obtain ⟨p, hp, h1⟩ := List.any_eq_true.1 hfar.out
      rw [(far_iff p).2 (h p hp)] at h1; cases h1
    replace hbad := Lib.hid hbad
    have f0 := hR4.frozen 0
    have f1 := hR4.frozen 1
    have f2 := hR4.frozen 2
    have r0 : W4.cell? ⟨W.heap.size + 1, 0, none⟩ = some (.slice none 0 0) := hR4.cell 0
    have r1 : W4.cell? ⟨W.heap.size + 1, 1, none⟩ = some (.slice none 0 0) := hR4.cell 1
    have r2 : W4.cell? ⟨W.heap.size + 1, 2, none⟩ = some (.slice none 0 0) := hR4.cell 2
    have rl := hR4.lt
    have hE := ((hR4.set 0 (.slice none 0 0)).set 1 (.slice none 0 0)).set 2 (.slice none 0 0)
    have hbE := bel_set (bel_set (bel_set hB4 (p := ⟨W.heap.size + 1, 0, none⟩) (by simp) (.slice none 0 0)) (p := ⟨W.heap.size + 1, 1, none⟩) (by simp) (.slice none 0 0)) (p := ⟨W.heap.size + 1, 2, none⟩) (by simp) (.slice none 0 0)
    go_wp2
    generalize ((W4.setCell ⟨W.heap.size + 1, 0, none⟩ (.slice none 0 0)).setCell ⟨W.heap.size + 1, 1, none⟩ (.slice none 0 0)).setCell ⟨W.heap.size + 1, 2, none⟩ (.slice none 0 0) = WE at *
    have y0 : WE.cell? ⟨W.heap.size + 1, 0, none⟩ = some (.slice none 0 0) := hE.cell 0
    have y1 : WE.cell? ⟨W.heap.size + 1, 1, none⟩ = some (.slice none 0 0) := hE.cell 1
    have y2 : WE.cell? ⟨W.heap.size + 1, 2, none⟩ = some (.slice none 0 0) := hE.cell 2
    refine bodyPost_ret (v := .tuple #[.agg #[.slice none 0 0, .slice none 0 0, .slice none 0 0], .int .i64 21]) (by simp [results, Try.results20, go_sem, y0, y1, y2]) rfl ?_
    exact ⟨Cg0, none, none, none, 0, 0, 0, 21, rfl, hbE, VL.nil _ _, fun h => by simp [Cg0] at h, VL.nil _ _, LevR.large _ hTS0.out sh hsh.out hbad.out⟩
  | false =>
    rw [hfar] at cF
    replace hfar := Lib.hid hfar
    go_upto_region 9 with (first | (go_at_call 34; (with_reducible refine cF.mono ?_); rintro e W4 ⟨hb4, rfl⟩) | fail)
    have hall : ∀ p ∈ vs, InP 65536 p := fun p hp => (far_iff p).1 (by
      cases h : farB p with
      | false => rfl
      | true => have := List.any_eq_false.1 hfar.out p hp; rw [h] at this; simp at this)
    replace hall := Lib.hid hall
    have hC4 := hC3.below hb4
    have hR4 := hR3.below hb4
    have hT4 := hT3.below hb4
    have hB4 := bel_trans hB3 hb4
    have hV4 := TopoV.below hV3 hb4
    have hGs4 := hGs.below hb4
    have hsz4 := hb4.size
    clear hC3 hR3 hT3 hB3 hV3 cF x0 xl hb4 hGs
    have xl := hC4.lt
    have tl := hT4.lt
    have rl4 := hR4.lt
    have cM := fun (w : World) (hB : Below W4.heap.size W4 w) => (middles_any w A1 A2 A3 k1 k2 ks.length k3 vs fs (hV.below (bel_trans hB4 hB)) (hF.below (bel_trans hB4 hB)) (fun x hx y hy => hTS0.out.walk.corner_rng hx hy) (by omega) (fun x hx => by have := hxl x hx; omega)).mono (fun e W' ⟨g, h1, h2, h3, h4⟩ => (⟨g, h1, h2, VL_of h3, h4⟩ : ∃ g, e = Ending.returned (Value.slice (some ⟨g, 0, none⟩) fs.length fs.length) ∧ w.heap.size ≤ g ∧ VL W' (some ⟨g, 0, none⟩) (midsL vs fs) ∧ Below w.heap.size w W'))
    refine wp_region_monoT 7 (RL [PE (.agg #[.slice A1 vs.length k1, .slice A2 fs.length k2, .slice A3 ks.length k3]), PE (.agg #[.slice B1 es.length d1, .slice B2 fans.length d2, .slice B3 rs.length d3]), PE (.slice (some ⟨g, 0, none⟩) es.length es.length), PE (.agg #[.slice A1 vs.length k1, .slice A2 fs.length k2, .slice A3 ks.length k3]), PV W4.heap.size fs.length (midsL vs fs), PK (fun gm => #[.slice A1 vs.length k1, .slice A2 fs.length k2, .slice A3 ks.length k3, .slice B1 es.length d1, .slice B2 fans.length d2, .slice B3 rs.length d3, .slice (some ⟨g, 0, none⟩) es.length es.length, .slice (some ⟨gm, 0, none⟩) fs.length fs.length]) (midsL vs fs), PB W4.heap.size 96 #[.slice none 0 0, .slice none 0 0, .slice none 0 0, .slice none 0 0, .slice none 0 0, .slice none 0 0, .slice none 0 0, .slice none 0 0]]) (by kernel_rfl) _ rfl (by kernel_rfl) (by kernel_rfl) (by kernel_rfl) (by kernel_rfl) (by kernel_rfl) (RL.stays ?_) ?_ ?_
    · intro p hp
      simp only [List.mem_cons, List.not_mem_nil, or_false] at hp
      rcases hp with rfl | rfl | rfl | rfl | rfl | rfl | rfl <;> first | exact PE.stays _ | exact PV.stays _ _ _ | exact PK.stays _ _ | exact PB.stays _ _ _
    · simp only [List.take_succ_cons, List.take_zero]
      refine ⟨?_, ?_, ?_, ?_, ?_, ?_, ?_, ?_⟩
      · refine mono_val rfl (fun a w hB hk hp => ?_)
        have es1 := (hk 1 (keep_of (by kernel_rfl))).trans (show _ = some (.pointer (some ⟨W.heap.size, 0, none⟩)) from rfl)
        exact ⟨.agg #[.slice A1 vs.length k1, .slice A2 fs.length k2, .slice A3 ks.length k3], w, ldmS_run _ _ _ 26 _ rfl (W.heap.size) 0 (eval_tmp es1) [.slice A1 vs.length k1, .slice A2 fs.length k2, .slice A3 ks.length k3] _ (rng_all ((hC4).below hB)) Try.underlying26 rfl (by kernel_rfl), Below.refl _ _, fun _ _ => rfl⟩
      · refine mono_val rfl (fun a w hB hk hp => ?_)
        have es4 := (hk 4 (keep_of (by kernel_rfl))).trans (show _ = some (.pointer (some ⟨T, 0, none⟩)) from rfl)
        exact ⟨.agg #[.slice B1 es.length d1, .slice B2 fans.length d2, .slice B3 rs.length d3], w, ldmS_run _ _ _ 37 _ rfl (T) 0 (eval_tmp es4) [.slice B1 es.length d1, .slice B2 fans.length d2, .slice B3 rs.length d3] _ (rng_all ((hT4).below hB)) Try.underlying37 rfl (by kernel_rfl), Below.refl _ _, fun _ _ => rfl⟩
      · refine mono_val rfl (fun a w hB hk hp => ?_)
        have es6 := (hk 6 (keep_of (by kernel_rfl))).trans (show _ = some (.slice (some ⟨g, 0, none⟩) es.length es.length) from rfl)
        exact ⟨.slice (some ⟨g, 0, none⟩) es.length es.length, w, by simp [execOp, go_sem, es6], Below.refl _ _, fun _ _ => rfl⟩
      · refine mono_val rfl (fun a w hB hk hp => ?_)
        have es1 := (hk 1 (keep_of (by kernel_rfl))).trans (show _ = some (.pointer (some ⟨W.heap.size, 0, none⟩)) from rfl)
        exact ⟨.agg #[.slice A1 vs.length k1, .slice A2 fs.length k2, .slice A3 ks.length k3], w, ldmS_run _ _ _ 26 _ rfl (W.heap.size) 0 (eval_tmp es1) [.slice A1 vs.length k1, .slice A2 fs.length k2, .slice A3 ks.length k3] _ (rng_all ((hC4).below hB)) Try.underlying26 rfl (by kernel_rfl), Below.refl _ _, fun _ _ => rfl⟩
      · refine mono_call rfl (fun a w hB hk hp => ?_)
        obtain ⟨x3, ex3, rx3⟩ := hp ⟨3, .data⟩ (by simp) rfl _ _ rfl rfl
        obtain rfl : x3 = _ := rx3
        exact ⟨36, #[.agg #[.slice A1 vs.length k1, .slice A2 fs.length k2, .slice A3 ks.length k3]], by simp [execOp, go_sem, ex3], (cM w hB).mono fun e w' ⟨g, h1, h2, h3, h4⟩ => ⟨_, h1, h4, fun _ _ => ⟨g, rfl, Nat.le_trans hB.size h2, h3⟩⟩⟩
      · refine mono_val rfl (fun a w hB hk hp => ?_)
        obtain ⟨x0, ex0, rx0⟩ := hp ⟨0, .data⟩ (by simp) rfl _ _ rfl rfl
        obtain rfl : x0 = _ := rx0
        obtain ⟨x1, ex1, rx1⟩ := hp ⟨1, .data⟩ (by simp) rfl _ _ rfl rfl
        obtain rfl : x1 = _ := rx1
        obtain ⟨x2, ex2, rx2⟩ := hp ⟨2, .data⟩ (by simp) rfl _ _ rfl rfl
        obtain rfl : x2 = _ := rx2
        obtain ⟨x4, ex4, rx4⟩ := hp ⟨4, .data⟩ (by simp) rfl _ _ rfl rfl
        obtain ⟨gm, rfl, hgm, hvm⟩ : PV W4.heap.size fs.length (midsL vs fs) w x4 := rx4
        exact ⟨.agg #[.slice A1 vs.length k1, .slice A2 fs.length k2, .slice A3 ks.length k3, .slice B1 es.length d1, .slice B2 fans.length d2, .slice B3 rs.length d3, .slice (some ⟨g, 0, none⟩) es.length es.length, .slice (some ⟨gm, 0, none⟩) fs.length fs.length], w, by simp [execOp, go_sem, ex0, ex1, ex2, ex4], Below.refl _ _, fun _ _ => ⟨gm, rfl, hvm⟩⟩
      · refine mono_val rfl (fun a w hB hk hp => ?_)
        exact ⟨.pointer (some ⟨w.heap.size, 0, none⟩), w.alloc (.cells #[.slice none 0 0, .slice none 0 0, .slice none 0 0, .slice none 0 0, .slice none 0 0, .slice none 0 0, .slice none 0 0, .slice none 0 0] 96), alloc_Co _ _ rfl w, bel_alloc (Below.refl _ _) _, fun _ _ => ⟨w.heap.size, rfl, hB.size, Blk.new _ _ _ _ rfl⟩⟩
      · trivial
    · intro a w5 hB hsz hdf hk hgot
      obtain ⟨v5, ev5, rv5⟩ := hgot 5 _ 40 rfl rfl
      obtain ⟨gm, rfl, hvm⟩ : PK (fun gm => #[.slice A1 vs.length k1, .slice A2 fs.length k2, .slice A3 ks.length k3, .slice B1 es.length d1, .slice B2 fans.length d2, .slice B3 rs.length d3, .slice (some ⟨g, 0, none⟩) es.length es.length, .slice (some ⟨gm, 0, none⟩) fs.length fs.length]) (midsL vs fs) w5 v5 := rv5
      obtain ⟨v6, ev6, rv6⟩ := hgot 6 _ 7 rfl rfl
      obtain ⟨P, rfl, hgp, hbp⟩ : PB W4.heap.size 96 #[.slice none 0 0, .slice none 0 0, .slice none 0 0, .slice none 0 0, .slice none 0 0, .slice none 0 0, .slice none 0 0, .slice none 0 0] w5 v6 := rv6
      obtain ⟨f, hf, rfl⟩ := frame_eq hsz hdf hk [35, 36, 37, 38, 39, 40, 7] (by rfl)
      have f40 := hf 40 _ ev5
      have f7 := hf 7 _ ev6
      clear hsz hdf hk hgot hf ev5 ev6
      simp only [List.drop_succ_cons, List.drop_zero, setAll, List.setIfInBounds_toArray, List.set_cons_succ, List.set_cons_zero, f40, f7]
      clear f40 f7
      generalize f 35 = uu35; generalize f 36 = uu36; generalize f 37 = uu37; generalize f 38 = uu38; generalize f 39 = uu39
      have hPl := hbp.lt
      have p0 : w5.cell? ⟨P, 0, none⟩ = some (.slice none 0 0) := hbp.cell 0
      have q0 := hbp.frozen 0
      have p1 : w5.cell? ⟨P, 1, none⟩ = some (.slice none 0 0) := hbp.cell 1
      have q1 := hbp.frozen 1
      have p2 : w5.cell? ⟨P, 2, none⟩ = some (.slice none 0 0) := hbp.cell 2
      have q2 := hbp.frozen 2
      have p3 : w5.cell? ⟨P, 3, none⟩ = some (.slice none 0 0) := hbp.cell 3
      have q3 := hbp.frozen 3
      have p4 : w5.cell? ⟨P, 4, none⟩ = some (.slice none 0 0) := hbp.cell 4
      have q4 := hbp.frozen 4
      have p5 : w5.cell? ⟨P, 5, none⟩ = some (.slice none 0 0) := hbp.cell 5
      have q5 := hbp.frozen 5
      have p6 : w5.cell? ⟨P, 6, none⟩ = some (.slice none 0 0) := hbp.cell 6
      have q6 := hbp.frozen 6
      have p7 : w5.cell? ⟨P, 7, none⟩ = some (.slice none 0 0) := hbp.cell 7
      have q7 := hbp.frozen 7
      have hP6 := ((((((((hbp.set 0 (.slice A1 vs.length k1)).set 1 (.slice A2 fs.length k2)).set 2 (.slice A3 ks.length k3)).set 3 (.slice B1 es.length d1)).set 4 (.slice B2 fans.length d2)).set 5 (.slice B3 rs.length d3)).set 6 (.slice (some ⟨g, 0, none⟩) es.length es.length)).set 7 (.slice (some ⟨gm, 0, none⟩) fs.length fs.length))
      have hg6 := ((((((((set_grown w5 P 0 (.slice A1 vs.length k1)).trans (set_grown (w5.setCell ⟨P, 0, none⟩ (.slice A1 vs.length k1)) P 1 (.slice A2 fs.length k2))).trans (set_grown ((w5.setCell ⟨P, 0, none⟩ (.slice A1 vs.length k1)).setCell ⟨P, 1, none⟩ (.slice A2 fs.length k2)) P 2 (.slice A3 ks.length k3))).trans (set_grown (((w5.setCell ⟨P, 0, none⟩ (.slice A1 vs.length k1)).setCell ⟨P, 1, none⟩ (.slice A2 fs.length k2)).setCell ⟨P, 2, none⟩ (.slice A3 ks.length k3)) P 3 (.slice B1 es.length d1))).trans (set_grown ((((w5.setCell ⟨P, 0, none⟩ (.slice A1 vs.length k1)).setCell ⟨P, 1, none⟩ (.slice A2 fs.length k2)).setCell ⟨P, 2, none⟩ (.slice A3 ks.length k3)).setCell ⟨P, 3, none⟩ (.slice B1 es.length d1)) P 4 (.slice B2 fans.length d2))).trans (set_grown (((((w5.setCell ⟨P, 0, none⟩ (.slice A1 vs.length k1)).setCell ⟨P, 1, none⟩ (.slice A2 fs.length k2)).setCell ⟨P, 2, none⟩ (.slice A3 ks.length k3)).setCell ⟨P, 3, none⟩ (.slice B1 es.length d1)).setCell ⟨P, 4, none⟩ (.slice B2 fans.length d2)) P 5 (.slice B3 rs.length d3))).trans (set_grown ((((((w5.setCell ⟨P, 0, none⟩ (.slice A1 vs.length k1)).setCell ⟨P, 1, none⟩ (.slice A2 fs.length k2)).setCell ⟨P, 2, none⟩ (.slice A3 ks.length k3)).setCell ⟨P, 3, none⟩ (.slice B1 es.length d1)).setCell ⟨P, 4, none⟩ (.slice B2 fans.length d2)).setCell ⟨P, 5, none⟩ (.slice B3 rs.length d3)) P 6 (.slice (some ⟨g, 0, none⟩) es.length es.length))).trans (set_grown (((((((w5.setCell ⟨P, 0, none⟩ (.slice A1 vs.length k1)).setCell ⟨P, 1, none⟩ (.slice A2 fs.length k2)).setCell ⟨P, 2, none⟩ (.slice A3 ks.length k3)).setCell ⟨P, 3, none⟩ (.slice B1 es.length d1)).setCell ⟨P, 4, none⟩ (.slice B2 fans.length d2)).setCell ⟨P, 5, none⟩ (.slice B3 rs.length d3)).setCell ⟨P, 6, none⟩ (.slice (some ⟨g, 0, none⟩) es.length es.length)) P 7 (.slice (some ⟨gm, 0, none⟩) fs.length fs.length)))
      have hP6 : Blk ((((((((w5.setCell ⟨P, 0, none⟩ (.slice A1 vs.length k1)).setCell ⟨P, 1, none⟩ (.slice A2 fs.length k2)).setCell ⟨P, 2, none⟩ (.slice A3 ks.length k3)).setCell ⟨P, 3, none⟩ (.slice B1 es.length d1)).setCell ⟨P, 4, none⟩ (.slice B2 fans.length d2)).setCell ⟨P, 5, none⟩ (.slice B3 rs.length d3)).setCell ⟨P, 6, none⟩ (.slice (some ⟨g, 0, none⟩) es.length es.length)).setCell ⟨P, 7, none⟩ (.slice (some ⟨gm, 0, none⟩) fs.length fs.length)) P 96 #[.slice A1 vs.length k1, .slice A2 fs.length k2, .slice A3 ks.length k3, .slice B1 es.length d1, .slice B2 fans.length d2, .slice B3 rs.length d3, .slice (some ⟨g, 0, none⟩) es.length es.length, .slice (some ⟨gm, 0, none⟩) fs.length fs.length] := hP6
      clear hC4 hT4 cM xl tl
      go_upto_region 10 with (fail)
      generalize ((((((((w5.setCell ⟨P, 0, none⟩ (.slice A1 vs.length k1)).setCell ⟨P, 1, none⟩ (.slice A2 fs.length k2)).setCell ⟨P, 2, none⟩ (.slice A3 ks.length k3)).setCell ⟨P, 3, none⟩ (.slice B1 es.length d1)).setCell ⟨P, 4, none⟩ (.slice B2 fans.length d2)).setCell ⟨P, 5, none⟩ (.slice B3 rs.length d3)).setCell ⟨P, 6, none⟩ (.slice (some ⟨g, 0, none⟩) es.length es.length)).setCell ⟨P, 7, none⟩ (.slice (some ⟨gm, 0, none⟩) fs.length fs.length)) = W6 at *
      have hB46 := bel_turn hB hg6 hgp
      have hB6 := bel_trans hB4 hB46
      have hR6 := hR4.below hB46
      have hV6 := TopoV.below hV4 hB46
      have hGs6 := hGs4.below hB46
      have hM6 : VL W6 (some ⟨gm, 0, none⟩) (midsL vs fs) := hvm.kept_slices hg6 hbp (fun i v h => by
        have hi : i < 8 := by have := (Array.getElem?_eq_some_iff.1 h).1; simpa using this
        rcases (by omega : i = 0 ∨ i = 1 ∨ i = 2 ∨ i = 3 ∨ i = 4 ∨ i = 5 ∨ i = 6 ∨ i = 7) with rfl | rfl | rfl | rfl | rfl | rfl | rfl | rfl <;> (simp at h; exact ⟨_, _, _, h.symm⟩))
      clear hR4 hB4 hV4 hGs4 hB hbp hvm hg6 hB46 p0 p1 p2 p3 p4 p5 p6 p7 q0 q1 q2 q3 q4 q5 q6 q7 hPl
      have hTS := hTS0.out
      have hsl := sharpP_len hsh.out
      have hnf2 := hnf.out
      have hab : ∀ e ∈ es, (0 ≤ e.a ∧ e.a < vs.length) ∧ (0 ≤ e.b ∧ e.b < vs.length) ∧ e.a ≠ e.b := fun e he => by
        obtain ⟨h1, h2, h3, _⟩ := edge_rng hTS he; exact ⟨h1, h2, h3⟩
      have hfan : ∀ x ∈ fans, (∀ y ∈ x, 0 ≤ y ∧ y < fs.length) ∧ x.length ≤ tot fs := fun x hx => fan_rng hTS hx
      have hsoft := soft_rng hTS hsh.out
      have hsort := hTS.edges.sorted
      have hS6 : IL W6 (some ⟨g, 0, none⟩) sh := IL_of hGs6
      have hml := midsL_len vs fs
      have cMo : ∀ w : World, Below W6.heap.size W6 w → Calls Try.prog 38 #[.agg #[.slice A1 vs.length k1, .slice A2 fs.length k2, .slice A3 ks.length k3, .slice B1 es.length d1, .slice B2 fans.length d2, .slice B3 rs.length d3, .slice (some ⟨g, 0, none⟩) es.length es.length, .slice (some ⟨gm, 0, none⟩) fs.length fs.length]] w fun e W' => ∃ A c, e = Ending.returned (Value.slice A vs.length c) ∧ VL W' A (movedL vs (midsL vs fs) fans (es.zip sh)) ∧ Below w.heap.size w W' := fun w hB => by
        have h := moved_any w A1 A2 A3 B1 B2 B3 (some ⟨g, 0, none⟩) (some ⟨gm, 0, none⟩) fs.length ks.length rs.length k1 k2 k3 d1 d2 d3 es.length fs.length vs (midsL vs fs) es sh fans (hV.below (bel_trans hB6 hB)) (hV6.es.below hB) (hS6.below hB) (hM6.below hB) (hV6.fans.below hB) hsl hnf2 hab (fun x hx => by rw [hml]; exact (hfan x hx).1) (fun x hx => by have := (hfan x hx).2; omega) (by omega) (by omega)
        rw [hsl, hml] at h
        exact h.mono fun e W' ⟨g2, h1, h2, h3, h4⟩ => ⟨_, _, h1, VL_of h3, h4⟩
      have cHa : ∀ w : World, Below W6.heap.size W6 w → Calls Try.prog 39 #[.agg #[.slice A1 vs.length k1, .slice A2 fs.length k2, .slice A3 ks.length k3, .slice B1 es.length d1, .slice B2 fans.length d2, .slice B3 rs.length d3, .slice (some ⟨g, 0, none⟩) es.length es.length, .slice (some ⟨gm, 0, none⟩) fs.length fs.length]] w fun e W' => ∃ A c, e = Ending.returned (Value.slice A es.length c) ∧ VL W' A (halvesL vs (midsL vs fs) es sh) ∧ Below w.heap.size w W' := fun w hB => by
        have h := halves_any w A1 A2 A3 B1 B2 B3 (some ⟨g, 0, none⟩) (some ⟨gm, 0, none⟩) fs.length ks.length fans.length rs.length k1 k2 k3 d1 d2 d3 es.length fs.length vs (midsL vs fs) es sh (hV.below (bel_trans hB6 hB)) (hV6.es.below hB) (hS6.below hB) (hM6.below hB) hsl (fun e he => ⟨(hab e he).1, (hab e he).2.1⟩) (fun i h1 h2 h0 => by rw [hml]; exact hsoft i h1 h2 h0) (by omega)
        rw [hsl, hml] at h
        exact h.mono fun e W' ⟨g2, h1, h2, h3, h4⟩ => ⟨_, _, h1, VL_of h3, h4⟩
      have cQu : ∀ w : World, Below W6.heap.size W6 w → Calls Try.prog 40 #[.agg #[.slice A1 vs.length k1, .slice A2 fs.length k2, .slice A3 ks.length k3, .slice B1 es.length d1, .slice B2 fans.length d2, .slice B3 rs.length d3, .slice (some ⟨g, 0, none⟩) es.length es.length, .slice (some ⟨gm, 0, none⟩) fs.length fs.length]] w fun e W' => ∃ A c, e = Ending.returned (Value.slice A (fine (vs.length : Int) es fs).length c) ∧ FL W' A (fine (vs.length : Int) es fs) ∧ Below w.heap.size w W' := fun w hB =>
        quarters_any w A1 A2 A3 B1 B2 B3 (some ⟨g, 0, none⟩) (some ⟨gm, 0, none⟩) vs.length ks.length fans.length rs.length es.length fs.length k1 k2 k3 d1 d2 d3 es.length fs.length es fs (hF.below (bel_trans hB6 hB)) (hV6.es.below hB) hsort (by omega) (by omega) (by omega) hTS.walk.long (fun x hx => by have := hxl x hx; omega) (by rw [cornL_len, waysL_len]; omega) (corn_eix hTS)
      have cRe : ∀ w : World, Below W6.heap.size W6 w → Calls Try.prog 41 #[.agg #[.slice A1 vs.length k1, .slice A2 fs.length k2, .slice A3 ks.length k3, .slice B1 es.length d1, .slice B2 fans.length d2, .slice B3 rs.length d3, .slice (some ⟨g, 0, none⟩) es.length es.length, .slice (some ⟨gm, 0, none⟩) fs.length fs.length]] w fun e W' => ∃ A c, e = Ending.returned (Value.slice A (restP (vs.length : Int) 0 (es.zip sh)).length c) ∧ VL W' A (restP (vs.length : Int) 0 (es.zip sh)) ∧ Below w.heap.size w W' := fun w hB => by
        have h := rest_any w A1 A2 A3 B1 B2 B3 (some ⟨g, 0, none⟩) (some ⟨gm, 0, none⟩) vs.length fs.length ks.length fans.length rs.length fs.length k1 k2 k3 d1 d2 d3 es.length fs.length es sh (hV6.es.below hB) (hS6.below hB) hsl (by omega) (by omega) (sharpP_i64 hi3 hsh.out)
        rw [hsl] at h
        exact h
      have hcl : (movedL vs (midsL vs fs) fans (es.zip sh)).length = vs.length ∧ (halvesL vs (midsL vs fs) es sh).length = es.length ∧ (midsL vs fs).length = fs.length := ⟨movedL_len _ _ _ _, halvesL_len _ _ _ _, hml⟩
      have hcb : ((vs.length = 0 ∧ es.length = 0 ∧ fs.length = 0) ∨ (0 < vs.length ∧ 0 < es.length ∧ 0 < fs.length)) ∧ vs.length + es.length + fs.length < 1099511627776 := by
        refine ⟨?_, by omega⟩
        obtain ⟨h1, h2⟩ := empty_all hTS
        simp only at h1 h2
        rcases Nat.eq_zero_or_pos vs.length with h0 | h0
        · obtain ⟨h3, h4⟩ := h1 (by omega)
          exact .inl ⟨h0, by rw [h4]; rfl, by rw [h3]; rfl⟩
        · obtain ⟨h3, h4⟩ := h2 (by omega)
          exact .inr ⟨h0, h4, h3⟩
      have hlev : levC ⟨vs, fs, ks⟩ ⟨es, fans, rs⟩ sh = ⟨movedL vs (midsL vs fs) fans (es.zip sh) ++ halvesL vs (midsL vs fs) es sh ++ midsL vs fs, fine (vs.length : Int) es fs, restP (vs.length : Int) 0 (es.zip sh)⟩ := rfl
      have hfpos : ∀ x ∈ fine (vs.length : Int) es fs, 0 < x.length := fun x hx => by
        obtain ⟨w, _, rfl⟩ := List.mem_map.1 hx; simp [quadOf]
      have pl := hP6.lt
      have p7 : W6.cell? ⟨P, 7, none⟩ = some (.slice (some ⟨gm, 0, none⟩) fs.length fs.length) := hP6.cell 7
      have hLR : LevR ⟨vs, fs, ks⟩ (levC ⟨vs, fs, ks⟩ ⟨es, fans, rs⟩ sh) 0 := LevR.fine _ hTS sh hsh.out hall.out
      rw [hlev] at hLR
      clear hTS hsl hnf2 hab hfan hsoft hsort hS6 hml hlev
      refine wp_region_monoT 13 (RL [PE (.agg #[.slice A1 vs.length k1, .slice A2 fs.length k2, .slice A3 ks.length k3, .slice B1 es.length d1, .slice B2 fans.length d2, .slice B3 rs.length d3, .slice (some ⟨g, 0, none⟩) es.length es.length, .slice (some ⟨gm, 0, none⟩) fs.length fs.length]), PA vs.length (movedL vs (midsL vs fs) fans (es.zip sh)), PE (.agg #[.slice A1 vs.length k1, .slice A2 fs.length k2, .slice A3 ks.length k3, .slice B1 es.length d1, .slice B2 fans.length d2, .slice B3 rs.length d3, .slice (some ⟨g, 0, none⟩) es.length es.length, .slice (some ⟨gm, 0, none⟩) fs.length fs.length]), PA es.length (halvesL vs (midsL vs fs) es sh), PE (.pointer (some ⟨P, 7, none⟩)), PE (.slice (some ⟨gm, 0, none⟩) fs.length fs.length), P3S vs.length es.length fs.length gm (movedL vs (midsL vs fs) fans (es.zip sh)) (halvesL vs (midsL vs fs) es sh), PA (vs.length + es.length + fs.length) ((movedL vs (midsL vs fs) fans (es.zip sh)) ++ (halvesL vs (midsL vs fs) es sh) ++ (midsL vs fs)), PE (.agg #[.slice A1 vs.length k1, .slice A2 fs.length k2, .slice A3 ks.length k3, .slice B1 es.length d1, .slice B2 fans.length d2, .slice B3 rs.length d3, .slice (some ⟨g, 0, none⟩) es.length es.length, .slice (some ⟨gm, 0, none⟩) fs.length fs.length]), PF (fine (vs.length : Int) es fs), PE (.agg #[.slice A1 vs.length k1, .slice A2 fs.length k2, .slice A3 ks.length k3, .slice B1 es.length d1, .slice B2 fans.length d2, .slice B3 rs.length d3, .slice (some ⟨g, 0, none⟩) es.length es.length, .slice (some ⟨gm, 0, none⟩) fs.length fs.length]), PA (restP (vs.length : Int) 0 (es.zip sh)).length (restP (vs.length : Int) 0 (es.zip sh)), PC (vs.length + es.length + fs.length) ((movedL vs (midsL vs fs) fans (es.zip sh)) ++ (halvesL vs (midsL vs fs) es sh) ++ (midsL vs fs)) (fine (vs.length : Int) es fs) (restP (vs.length : Int) 0 (es.zip sh))]) (by kernel_rfl) _ rfl (by kernel_rfl) (by kernel_rfl) (by kernel_rfl) (by kernel_rfl) (by kernel_rfl) (RL.stays ?_) ?_ ?_
      · intro p hp
        simp only [List.mem_cons, List.not_mem_nil, or_false] at hp
        rcases hp with rfl | rfl | rfl | rfl | rfl | rfl | rfl | rfl | rfl | rfl | rfl | rfl | rfl <;> first | exact PE.stays _ | exact PV.stays _ _ _ | exact PA.stays _ _ | exact PF.stays _ | exact P3S.stays _ _ _ _ _ _ | exact PC.stays _ _ _ _
      · simp only [List.take_succ_cons, List.take_zero]
        refine ⟨?_, ?_, ?_, ?_, ?_, ?_, ?_, ?_, ?_, ?_, ?_, ?_, ?_, ?_⟩
        · refine mono_val rfl (fun a w hB hk hp => ?_)
          have es7 := (hk 7 (keep_of (by kernel_rfl))).trans (show _ = some (.pointer (some ⟨P, 0, none⟩)) from rfl)
          exact ⟨.agg #[.slice A1 vs.length k1, .slice A2 fs.length k2, .slice A3 ks.length k3, .slice B1 es.length d1, .slice B2 fans.length d2, .slice B3 rs.length d3, .slice (some ⟨g, 0, none⟩) es.length es.length, .slice (some ⟨gm, 0, none⟩) fs.length fs.length], w, ldmS_run _ _ _ 96 _ rfl (P) 0 (eval_tmp es7) [.slice A1 vs.length k1, .slice A2 fs.length k2, .slice A3 ks.length k3, .slice B1 es.length d1, .slice B2 fans.length d2, .slice B3 rs.length d3, .slice (some ⟨g, 0, none⟩) es.length es.length, .slice (some ⟨gm, 0, none⟩) fs.length fs.length] _ (rng_all ((hP6).below hB)) Try.underlying96 rfl (by kernel_rfl), Below.refl _ _, fun _ _ => rfl⟩
        · refine mono_call rfl (fun a w hB hk hp => ?_)
          obtain ⟨x0, ex0, rx0⟩ := hp ⟨0, .data⟩ (by simp) rfl _ _ rfl rfl
          obtain rfl : x0 = _ := rx0
          exact ⟨38, #[.agg #[.slice A1 vs.length k1, .slice A2 fs.length k2, .slice A3 ks.length k3, .slice B1 es.length d1, .slice B2 fans.length d2, .slice B3 rs.length d3, .slice (some ⟨g, 0, none⟩) es.length es.length, .slice (some ⟨gm, 0, none⟩) fs.length fs.length]], by simp [execOp, go_sem, ex0], (cMo w hB).mono fun e w' ⟨A, c, h1, h2, h3⟩ => ⟨_, h1, h3, fun _ _ => ⟨A, c, rfl, h2⟩⟩⟩
        · refine mono_val rfl (fun a w hB hk hp => ?_)
          have es7 := (hk 7 (keep_of (by kernel_rfl))).trans (show _ = some (.pointer (some ⟨P, 0, none⟩)) from rfl)
          exact ⟨.agg #[.slice A1 vs.length k1, .slice A2 fs.length k2, .slice A3 ks.length k3, .slice B1 es.length d1, .slice B2 fans.length d2, .slice B3 rs.length d3, .slice (some ⟨g, 0, none⟩) es.length es.length, .slice (some ⟨gm, 0, none⟩) fs.length fs.length], w, ldmS_run _ _ _ 96 _ rfl (P) 0 (eval_tmp es7) [.slice A1 vs.length k1, .slice A2 fs.length k2, .slice A3 ks.length k3, .slice B1 es.length d1, .slice B2 fans.length d2, .slice B3 rs.length d3, .slice (some ⟨g, 0, none⟩) es.length es.length, .slice (some ⟨gm, 0, none⟩) fs.length fs.length] _ (rng_all ((hP6).below hB)) Try.underlying96 rfl (by kernel_rfl), Below.refl _ _, fun _ _ => rfl⟩
        · refine mono_call rfl (fun a w hB hk hp => ?_)
          obtain ⟨x2, ex2, rx2⟩ := hp ⟨2, .data⟩ (by simp) rfl _ _ rfl rfl
          obtain rfl : x2 = _ := rx2
          exact ⟨39, #[.agg #[.slice A1 vs.length k1, .slice A2 fs.length k2, .slice A3 ks.length k3, .slice B1 es.length d1, .slice B2 fans.length d2, .slice B3 rs.length d3, .slice (some ⟨g, 0, none⟩) es.length es.length, .slice (some ⟨gm, 0, none⟩) fs.length fs.length]], by simp [execOp, go_sem, ex2], (cHa w hB).mono fun e w' ⟨A, c, h1, h2, h3⟩ => ⟨_, h1, h3, fun _ _ => ⟨A, c, rfl, h2⟩⟩⟩
        · refine mono_val rfl (fun a w hB hk hp => ?_)
          have es7 := (hk 7 (keep_of (by kernel_rfl))).trans (show _ = some (.pointer (some ⟨P, 0, none⟩)) from rfl)
          exact ⟨.pointer (some ⟨P, 7, none⟩), w, by simp [execOp, go_sem, es7], Below.refl _ _, fun _ _ => rfl⟩
        · refine mono_val rfl (fun a w hB hk hp => ?_)
          obtain ⟨x4, ex4, rx4⟩ := hp ⟨4, .data⟩ (by simp) rfl _ _ rfl rfl
          obtain rfl : x4 = _ := rx4
          have fc0 := (hB.cell (p := ⟨P, 7, none⟩) pl).trans p7
          exact ⟨.slice (some ⟨gm, 0, none⟩) fs.length fs.length, w, by simp [execOp, go_sem, ex4, fc0], Below.refl _ _, fun _ _ => rfl⟩
        · refine mono_val rfl (fun a w hB hk hp => ?_)
          obtain ⟨x1, ex1, rx1⟩ := hp ⟨1, .data⟩ (by simp) rfl _ _ rfl rfl
          obtain ⟨gA, cA_, rfl, hvA⟩ : PA vs.length (movedL vs (midsL vs fs) fans (es.zip sh)) w x1 := rx1
          obtain ⟨x3, ex3, rx3⟩ := hp ⟨3, .data⟩ (by simp) rfl _ _ rfl rfl
          obtain ⟨gB, cB_, rfl, hvB⟩ : PA es.length (halvesL vs (midsL vs fs) es sh) w x3 := rx3
          obtain ⟨x5, ex5, rx5⟩ := hp ⟨5, .data⟩ (by simp) rfl _ _ rfl rfl
          obtain rfl : x5 = _ := rx5
          exact ⟨.slice (some ⟨w.heap.size, 0, none⟩) 3 3, w.alloc (.cells #[.slice gA vs.length cA_, .slice gB es.length cB_, .slice (some ⟨gm, 0, none⟩) fs.length fs.length] 22), by simp [execOp, go_sem, ex1, ex3, ex5], bel_alloc (Below.refl _ _) _, fun _ _ => p3s_new w gA gB hvA hvB⟩
        · refine mono_call rfl (fun a w hB hk hp => ?_)
          obtain ⟨x6, ex6, rx6⟩ := hp ⟨6, .data⟩ (by simp) rfl _ _ rfl rfl
          obtain ⟨bb, gA, cA_, gB, cB_, rfl, hbb, hc0, hc1, hc2, hvA, hvB⟩ : P3S vs.length es.length fs.length gm (movedL vs (midsL vs fs) fans (es.zip sh)) (halvesL vs (midsL vs fs) es sh) w x6 := rx6
          exact ⟨37, #[.slice (some ⟨bb, 0, none⟩) 3 3], by simp [execOp, go_sem, ex6], (conc3 w bb hbb hc0 hc1 hc2 hvA hvB (hM6.below hB) hcl hcb).mono fun e w' ⟨A, c, h1, h2, h3⟩ => ⟨_, h1, h3, fun _ _ => ⟨A, c, rfl, h2⟩⟩⟩
        · refine mono_val rfl (fun a w hB hk hp => ?_)
          have es7 := (hk 7 (keep_of (by kernel_rfl))).trans (show _ = some (.pointer (some ⟨P, 0, none⟩)) from rfl)
          exact ⟨.agg #[.slice A1 vs.length k1, .slice A2 fs.length k2, .slice A3 ks.length k3, .slice B1 es.length d1, .slice B2 fans.length d2, .slice B3 rs.length d3, .slice (some ⟨g, 0, none⟩) es.length es.length, .slice (some ⟨gm, 0, none⟩) fs.length fs.length], w, ldmS_run _ _ _ 96 _ rfl (P) 0 (eval_tmp es7) [.slice A1 vs.length k1, .slice A2 fs.length k2, .slice A3 ks.length k3, .slice B1 es.length d1, .slice B2 fans.length d2, .slice B3 rs.length d3, .slice (some ⟨g, 0, none⟩) es.length es.length, .slice (some ⟨gm, 0, none⟩) fs.length fs.length] _ (rng_all ((hP6).below hB)) Try.underlying96 rfl (by kernel_rfl), Below.refl _ _, fun _ _ => rfl⟩
        · refine mono_call rfl (fun a w hB hk hp => ?_)
          obtain ⟨x8, ex8, rx8⟩ := hp ⟨8, .data⟩ (by simp) rfl _ _ rfl rfl
          obtain rfl : x8 = _ := rx8
          exact ⟨40, #[.agg #[.slice A1 vs.length k1, .slice A2 fs.length k2, .slice A3 ks.length k3, .slice B1 es.length d1, .slice B2 fans.length d2, .slice B3 rs.length d3, .slice (some ⟨g, 0, none⟩) es.length es.length, .slice (some ⟨gm, 0, none⟩) fs.length fs.length]], by simp [execOp, go_sem, ex8], (cQu w hB).mono fun e w' ⟨A, c, h1, h2, h3⟩ => ⟨_, h1, h3, fun _ _ => ⟨A, c, rfl, h2⟩⟩⟩
        · refine mono_val rfl (fun a w hB hk hp => ?_)
          have es7 := (hk 7 (keep_of (by kernel_rfl))).trans (show _ = some (.pointer (some ⟨P, 0, none⟩)) from rfl)
          exact ⟨.agg #[.slice A1 vs.length k1, .slice A2 fs.length k2, .slice A3 ks.length k3, .slice B1 es.length d1, .slice B2 fans.length d2, .slice B3 rs.length d3, .slice (some ⟨g, 0, none⟩) es.length es.length, .slice (some ⟨gm, 0, none⟩) fs.length fs.length], w, ldmS_run _ _ _ 96 _ rfl (P) 0 (eval_tmp es7) [.slice A1 vs.length k1, .slice A2 fs.length k2, .slice A3 ks.length k3, .slice B1 es.length d1, .slice B2 fans.length d2, .slice B3 rs.length d3, .slice (some ⟨g, 0, none⟩) es.length es.length, .slice (some ⟨gm, 0, none⟩) fs.length fs.length] _ (rng_all ((hP6).below hB)) Try.underlying96 rfl (by kernel_rfl), Below.refl _ _, fun _ _ => rfl⟩
        · refine mono_call rfl (fun a w hB hk hp => ?_)
          obtain ⟨x10, ex10, rx10⟩ := hp ⟨10, .data⟩ (by simp) rfl _ _ rfl rfl
          obtain rfl : x10 = _ := rx10
          exact ⟨41, #[.agg #[.slice A1 vs.length k1, .slice A2 fs.length k2, .slice A3 ks.length k3, .slice B1 es.length d1, .slice B2 fans.length d2, .slice B3 rs.length d3, .slice (some ⟨g, 0, none⟩) es.length es.length, .slice (some ⟨gm, 0, none⟩) fs.length fs.length]], by simp [execOp, go_sem, ex10], (cRe w hB).mono fun e w' ⟨A, c, h1, h2, h3⟩ => ⟨_, h1, h3, fun _ _ => ⟨A, c, rfl, h2⟩⟩⟩
        · refine mono_val rfl (fun a w hB hk hp => ?_)
          obtain ⟨x7, ex7, rx7⟩ := hp ⟨7, .data⟩ (by simp) rfl _ _ rfl rfl
          obtain ⟨R1, e1, rfl, hr1⟩ : PA (vs.length + es.length + fs.length) ((movedL vs (midsL vs fs) fans (es.zip sh)) ++ (halvesL vs (midsL vs fs) es sh) ++ (midsL vs fs)) w x7 := rx7
          obtain ⟨x9, ex9, rx9⟩ := hp ⟨9, .data⟩ (by simp) rfl _ _ rfl rfl
          obtain ⟨R2, e2, rfl, hr2⟩ : PF (fine (vs.length : Int) es fs) w x9 := rx9
          obtain ⟨x11, ex11, rx11⟩ := hp ⟨11, .data⟩ (by simp) rfl _ _ rfl rfl
          obtain ⟨R3, e3, rfl, hr3⟩ : PA (restP (vs.length : Int) 0 (es.zip sh)).length (restP (vs.length : Int) 0 (es.zip sh)) w x11 := rx11
          exact ⟨.agg #[.slice R1 (vs.length + es.length + fs.length) e1, .slice R2 _ e2, .slice R3 _ e3], w, by simp [execOp, go_sem, ex7, ex9, ex11], Below.refl _ _, fun _ _ => ⟨R1, e1, R2, e2, R3, e3, rfl, hr1, hr2, hr3⟩⟩
        · trivial
      · intro a w7 hB hsz hdf hk hgot
        obtain ⟨v12, ev12, rv12⟩ := hgot 12 _ 53 rfl rfl
        obtain ⟨R1, e1, R2, e2, R3, e3, rfl, hr1, hr2, hr3⟩ : PC (vs.length + es.length + fs.length) ((movedL vs (midsL vs fs) fans (es.zip sh)) ++ (halvesL vs (midsL vs fs) es sh) ++ (midsL vs fs)) (fine (vs.length : Int) es fs) (restP (vs.length : Int) 0 (es.zip sh)) w7 v12 := rv12
        obtain ⟨f, hf, rfl⟩ := frame_eq hsz hdf hk [41, 42, 43, 44, 45, 46, 47, 48, 49, 50, 51, 52, 53] (by rfl)
        have f53 := hf 53 _ ev12
        clear hsz hdf hk hgot hf ev12
        simp only [List.drop_succ_cons, List.drop_zero, setAll, List.setIfInBounds_toArray, List.set_cons_succ, List.set_cons_zero, f53]
        clear f53
        generalize f 41 = uu41; generalize f 42 = uu42; generalize f 43 = uu43; generalize f 44 = uu44; generalize f 45 = uu45; generalize f 46 = uu46; generalize f 47 = uu47; generalize f 48 = uu48; generalize f 49 = uu49; generalize f 50 = uu50; generalize f 51 = uu51; generalize f 52 = uu52
        have hR7 := hR6.below hB
        have hB7 := bel_trans hB6 hB
        have hml2 : (movedL vs (midsL vs fs) fans (es.zip sh) ++ halvesL vs (midsL vs fs) es sh ++ midsL vs fs).length = vs.length + es.length + fs.length := by rw [List.length_append, List.length_append, hcl.1, hcl.2.1, hcl.2.2]
        clear cMo cHa cQu cRe hR6 hB6 hV6 hGs6 hM6 hB pl p7 hcb
        generalize movedL vs (midsL vs fs) fans (es.zip sh) ++ halvesL vs (midsL vs fs) es sh ++ midsL vs fs = RV at *
        generalize fine (vs.length : Int) es fs = RF at *
        generalize restP (vs.length : Int) 0 (es.zip sh) = RK at *
        have f0 := hR7.frozen 0
        have f1 := hR7.frozen 1
        have f2 := hR7.frozen 2
        have r0 : w7.cell? ⟨W.heap.size + 1, 0, none⟩ = some (.slice none 0 0) := hR7.cell 0
        have r1 : w7.cell? ⟨W.heap.size + 1, 1, none⟩ = some (.slice none 0 0) := hR7.cell 1
        have r2 : w7.cell? ⟨W.heap.size + 1, 2, none⟩ = some (.slice none 0 0) := hR7.cell 2
        have rl := hR7.lt
        obtain ⟨nn, hnn⟩ : ∃ nn, vs.length + es.length + fs.length = nn := ⟨_, rfl⟩
        rw [hnn] at hml2
        simp only [hnn]
        have hE := ((hR7.set 0 (.slice R1 nn e1)).set 1 (.slice R2 RF.length e2)).set 2 (.slice R3 RK.length e3)
        have hbE := bel_set (bel_set (bel_set hB7 (p := ⟨W.heap.size + 1, 0, none⟩) (by simp) (.slice R1 nn e1)) (p := ⟨W.heap.size + 1, 1, none⟩) (by simp) (.slice R2 RF.length e2)) (p := ⟨W.heap.size + 1, 2, none⟩) (by simp) (.slice R3 RK.length e3)
        have hgE := ((set_grown w7 (W.heap.size + 1) 0 (.slice R1 nn e1)).trans (set_grown _ (W.heap.size + 1) 1 (.slice R2 RF.length e2))).trans (set_grown _ (W.heap.size + 1) 2 (.slice R3 RK.length e3))
        have hall0 : ∀ (i : Nat) (v : Value), (#[.slice none 0 0, .slice none 0 0, .slice none 0 0] : Array Value)[i]? = some v → v = .slice none 0 0 := fun i v h => by
          have hi : i < 3 := by have := (Array.getElem?_eq_some_iff.1 h).1; simpa using this
          rcases (by omega : i = 0 ∨ i = 1 ∨ i = 2) with rfl | rfl | rfl <;> (simp at h; exact h.symm)
        have hv1 := hr1.kept_slices hgE hR7 (fun i v h => ⟨_, _, _, hall0 i v h⟩)
        have hv2 := hr2.kept_slices hgE hR7 hall0 hfpos
        have hv3 := hr3.kept_slices hgE hR7 (fun i v h => ⟨_, _, _, hall0 i v h⟩)
        clear hgE hall0 hr1 hr2 hr3 hR7 hB7 hnn
        replace hml2 := Lib.hid hml2
        go_wp2
        generalize ((w7.setCell ⟨W.heap.size + 1, 0, none⟩ (.slice R1 nn e1)).setCell ⟨W.heap.size + 1, 1, none⟩ (.slice R2 RF.length e2)).setCell ⟨W.heap.size + 1, 2, none⟩ (.slice R3 RK.length e3) = WE at *
        have y0 : WE.cell? ⟨W.heap.size + 1, 0, none⟩ = some (.slice R1 nn e1) := hE.cell 0
        have y1 : WE.cell? ⟨W.heap.size + 1, 1, none⟩ = some (.slice R2 RF.length e2) := hE.cell 1
        have y2 : WE.cell? ⟨W.heap.size + 1, 2, none⟩ = some (.slice R3 RK.length e3) := hE.cell 2
        refine bodyPost_ret (v := .tuple #[.agg #[.slice R1 nn e1, .slice R2 RF.length e2, .slice R3 RK.length e3], .int .i64 0]) (by simp [results, Try.results20, go_sem, y0, y1, y2]) rfl ?_
        exact ⟨⟨RV, RF, RK⟩, R1, R2, R3, e1, e2, e3, 0, by rw [hml2.out], hbE, hv1, hv2, hv3, hLR⟩
end Go.Proofs.Ytgmifpicilfcdab
namespace Go.Proofs.Ytgmifpicilfcdab
open Go.RowKit
set_option linter.unusedVariables false
set_option linter.unusedSimpArgs false
set_option linter.unnecessarySimpa false
set_option maxRecDepth 100000
def sq : List (List Int) := [[0, 1, 2, 3]]
def sqV : List P3 := [⟨0, 0, 0⟩, ⟨8, 0, 0⟩, ⟨8, 8, 0⟩, ⟨0, 8, 0⟩]
def sqC : Cg := ⟨sqV, sq, []⟩
theorem sq_ways : waysL 0 sq = [⟨3, 0, 0, 2⟩, ⟨0, 1, 0, 3⟩, ⟨1, 2, 0, 0⟩, ⟨2, 3, 0, 1⟩] := rfl
def sqE : List Ed := [⟨0, 1, 0, -1⟩, ⟨0, 3, -1, 0⟩, ⟨1, 2, 0, -1⟩, ⟨2, 3, 0, -1⟩]
theorem sq_edges : EdgesR (waysL 0 sq) sqE := by
  rw [sq_ways]
  have e1 : edOf [⟨3, 0, 0, 2⟩, ⟨0, 1, 0, 3⟩, ⟨1, 2, 0, 0⟩, ⟨2, 3, 0, 1⟩] 0 3 = ⟨0, 3, -1, 0⟩ := by simp [edOf, faceOf, look]
  have e2 : edOf [⟨3, 0, 0, 2⟩, ⟨0, 1, 0, 3⟩, ⟨1, 2, 0, 0⟩, ⟨2, 3, 0, 1⟩] 0 1 = ⟨0, 1, 0, -1⟩ := by simp [edOf, faceOf, look]
  have e3 : edOf [⟨3, 0, 0, 2⟩, ⟨0, 1, 0, 3⟩, ⟨1, 2, 0, 0⟩, ⟨2, 3, 0, 1⟩] 1 2 = ⟨1, 2, 0, -1⟩ := by simp [edOf, faceOf, look]
  have e4 : edOf [⟨3, 0, 0, 2⟩, ⟨0, 1, 0, 3⟩, ⟨1, 2, 0, 0⟩, ⟨2, 3, 0, 1⟩] 2 3 = ⟨2, 3, 0, -1⟩ := by simp [edOf, faceOf, look]
  constructor
  · simp [sqE, ltE]
  · intro e
    unfold sqE
    simp only [List.mem_cons, List.not_mem_nil, or_false, exists_eq_or_imp, exists_eq_left]
    simp only [show min (3 : Int) 0 = 0 from rfl, show max (3 : Int) 0 = 3 from rfl, show min (0 : Int) 1 = 0 from rfl, show max (0 : Int) 1 = 1 from rfl, show min (1 : Int) 2 = 1 from rfl, show max (1 : Int) 2 = 2 from rfl, show min (2 : Int) 3 = 2 from rfl, show max (2 : Int) 3 = 3 from rfl, e1, e2, e3, e4]
    constructor
    · rintro (h | h | h | h) <;> simp [h]
    · rintro (h | h | h | h) <;> simp [h]
theorem sq_walk : WalkOk 4 sq where
  long := by simp [Long, sq]
  inr := by rw [sq_ways]; simp [InR]
  apart := by rw [sq_ways]; simp [Apart, apart]
  pos := by omega
  all v h0 h1 := by
    rw [sq_ways]
    have : v = 0 ∨ v = 1 ∨ v = 2 ∨ v = 3 := by omega
    rcases this with rfl | rfl | rfl | rfl <;> simp
theorem sq_fan (v b : Int) (w : Way) (hm : froms (waysL 0 sq) v = [w]) (ha : w.b = b) (hc : w.c ≠ b) : FanR (waysL 0 sq) v b [w] false where
  mem u hu := by rw [← hm] at hu; exact mem_froms.1 hu
  first _ := ha
  link i h := by simp at h
  mid i h := by simp at h
  back h := by cases h
  stop _ := ⟨fun u hu h1 h2 => by
    have : u ∈ froms (waysL 0 sq) v := mem_froms.2 ⟨hu, h1⟩
    rw [hm, List.mem_singleton] at this
    subst this
    simp [ends] at h2
    exact hc (h2.symm.trans ha), .inr (by simp [ends]; exact hc)⟩
theorem sq_surf : Surf 4 sq := ⟨sq_walk, fun v h0 h1 => by
  have : v = 0 ∨ v = 1 ∨ v = 2 ∨ v = 3 := by omega
  rcases this with rfl | rfl | rfl | rfl
  · refine ⟨[⟨0, 1, 0, 3⟩], false, sq_fan _ _ _ (by rw [sq_ways]; rfl) ?_ ?_, by rw [sq_ways]; rfl⟩ <;> simp [sq_ways, hubOf, froms, hubStep]
  · refine ⟨[⟨1, 2, 0, 0⟩], false, sq_fan _ _ _ (by rw [sq_ways]; rfl) ?_ ?_, by rw [sq_ways]; rfl⟩ <;> simp [sq_ways, hubOf, froms, hubStep]
  · refine ⟨[⟨2, 3, 0, 1⟩], false, sq_fan _ _ _ (by rw [sq_ways]; rfl) ?_ ?_, by rw [sq_ways]; rfl⟩ <;> simp [sq_ways, hubOf, froms, hubStep]
  · refine ⟨[⟨3, 0, 0, 2⟩], false, sq_fan _ _ _ (by rw [sq_ways]; rfl) ?_ ?_, by rw [sq_ways]; rfl⟩ <;> simp [sq_ways, hubOf, froms, hubStep]⟩
theorem sq_in : ∀ p ∈ sqV, InP 65536 p := by
  intro p hp
  simp only [sqV, List.mem_cons, List.not_mem_nil, or_false] at hp
  rcases hp with rfl | rfl | rfl | rfl <;> simp [InP]
theorem sq_lev {r : Cg} {er : Int} (h : LevR sqC r er) : er = 0 ∧ r.vs.length = 9 ∧ r.fs.length = 4 ∧ r.vs[0]? = some ⟨1, 1, 0⟩ ∧ r.vs[8]? = some ⟨4, 4, 0⟩ := by
  cases h with
  | noSurf h => exact absurd sq_surf h
  | noEdge t hT h => exact absurd h (by simp [sharpP, sharpK, sqC])
  | large t hT sh h hf => exact absurd sq_in hf
  | fine t hT sh h hf =>
    have he : t.es = sqE := hT.edges.one sq_edges
    have hs : sh = [255, 255, 255, 255] := by
      rw [he] at h
      exact (Option.some.inj h).symm
    have hl : (levC sqC t sh).vs.length = 9 := by
      simp only [levC, List.length_append, movedL_len, halvesL_len, midsL_len, he]; rfl
    refine ⟨rfl, hl, ?_, ?_, ?_⟩
    · show (fine _ _ _).length = 4
      rw [fine_len]; rfl
    · show ((movedL sqV (midsL sqV sq) t.fans (t.es.zip sh) ++ halvesL sqV (midsL sqV sq) t.es sh) ++ midsL sqV sq)[0]? = _
      rw [he, hs, List.append_assoc, List.getElem?_append_left (by rw [movedL_len]; decide)]
      show some (placeA sqV (midsL sqV sq) t.fans (sqE.zip [255, 255, 255, 255]) 0) = _
      unfold placeA
      generalize t.fans.getD 0 [] = fn
      have h1 : (starF sqV (midsL sqV sq) fn (sqE.zip [255, 255, 255, 255]) ((0 : Nat) : Int)).n = 2 := rfl
      have h2 : (starF sqV (midsL sqV sq) fn (sqE.zip [255, 255, 255, 255]) ((0 : Nat) : Int)).ends = ⟨8, 8, 0⟩ := by kernel_rfl
      unfold placeP
      rw [h1, h2]
      show some (ofP (foldP Z3 [scW (vat sqV 0) 6, ⟨8, 8, 0⟩]) 8) = some ⟨1, 1, 0⟩
      kernel_rfl
    · show ((movedL sqV (midsL sqV sq) t.fans (t.es.zip sh) ++ halvesL sqV (midsL sqV sq) t.es sh) ++ midsL sqV sq)[8]? = _
      rw [List.getElem?_append_right (by rw [List.length_append, movedL_len, halvesL_len, he]; decide), List.length_append, movedL_len, halvesL_len, he]
      kernel_rfl
theorem VL4b (W : World) (p q r s : P3) : VL (W.alloc (.cells #[.int .i64 p.x, .int .i64 p.y, .int .i64 p.z, .int .i64 q.x, .int .i64 q.y, .int .i64 q.z, .int .i64 r.x, .int .i64 r.y, .int .i64 r.z, .int .i64 s.x, .int .i64 s.y, .int .i64 s.z] 43)) (some ⟨W.heap.size, 0, none⟩) [p, q, r, s] := VL4 W p q r s
set_option maxHeartbeats 1000000 in
theorem great9_any (W : World) (A1 A2 A3 : Option Addr) (n1 n3 k1 k2 k3 : Nat) (fs : List (List Int)) (hA : FL W A2 fs) (h1 : n1 < 1099511627776000) (h2 : fs.length < 1099511627776000) (h3 : n3 < 1099511627776000) (hx : ∀ x ∈ fs, x.length < 1099511627776000) :
    Calls Try.prog 19 #[.agg #[.slice A1 n1 k1, .slice A2 fs.length k2, .slice A3 n3 k3]] W fun e W' => ∃ b, e = .returned (.bool b) ∧ Below W.heap.size W W' ∧ (b = false → n1 ≤ 60 ∧ n1 + n3 + fs.length + tot fs ≤ 300) := by
  have hb0 : Below W.heap.size W (W.alloc (.cells #[.slice A1 n1 k1, .slice A2 fs.length k2, .slice A3 n3 k3] 26)) := bel_alloc (Below.refl _ _) _
  have hC0 : Blk (W.alloc (.cells #[.slice A1 n1 k1, .slice A2 fs.length k2, .slice A3 n3 k3] 26)) W.heap.size 26 #[.slice A1 n1 k1, .slice A2 fs.length k2, .slice A3 n3 k3] := Blk.new _ _ _ _ rfl
  go_enter Try.func19, Try.ntmps19
  go_upto_region 1 with (fail)
  generalize W.alloc (.cells #[.slice A1 n1 k1, .slice A2 fs.length k2, .slice A3 n3 k3] 26) = W1 at *
  have x0 : W1.cell? ⟨W.heap.size, 0, none⟩ = some (.slice A1 n1 k1) := hC0.cell 0
  have x1 : W1.cell? ⟨W.heap.size, 1, none⟩ = some (.slice A2 fs.length k2) := hC0.cell 1
  have x2 : W1.cell? ⟨W.heap.size, 2, none⟩ = some (.slice A3 n3 k3) := hC0.cell 2
  have xl := hC0.lt
  have cW := weigh_any W1 A1 A2 A3 n1 n3 k1 k2 k3 300 fs (hA.below hb0) (by omega) h1 h2 h3 hx
  rw [show ((300 : Nat) : Int) = 300 from rfl] at cW
  by_cases d1 : (60 : Int) < (n1 : Int)
  · go_wp2
    go_ret
    exact ⟨true, rfl, hb0, fun h => by cases h⟩
  · go_wp2_with (first | (go_at_call 32; (with_reducible refine cW.mono ?_); rintro e W2 ⟨n, rfl, hb2, hn⟩) | fail)
    go_ret
    refine ⟨decide ((300 : Int) < (n : Int)), by simp, bel_trans hb0 hb2, fun h => ?_⟩
    simp at h
    omega
end Go.Proofs.Ytgmifpicilfcdab
namespace Go.Proofs.Ytgmifpicilfcdab
set_option linter.unusedVariables false
set_option linter.unusedSimpArgs false
set_option linter.unusedSectionVars false
theorem full_len {al L : List Way} {v : Int} (hA : Apart al) (h1 : ∀ w ∈ L, w ∈ al ∧ w.a = v) (h2 : ∀ w ∈ al, w.a = v → w ∈ L) (hn : L.Nodup) : L.length = (froms al v).length := by
  have a1 := nodup_le L (froms al v) hn (fun w hw => mem_froms.2 (h1 w hw))
  have a2 := nodup_le (froms al v) L ((apart_nodup hA).filter _) (fun w hw => by
    obtain ⟨g1, g2⟩ := mem_froms.1 hw
    exact h2 w g1 g2)
  omega
section
variable {n : Int} {fs : List (List Int)} {es : List Ed} (ok : WalkOk n fs) (hE : EdgesR (waysL 0 fs) es)
include ok hE
/-- The number of a corner's finer face. -/
theorem idx_ex : ∃ idx : Way → Int, ∀ w ∈ waysL 0 fs, ∃ (j : Nat) (h : j < (cornL 0 fs).length), (cornL 0 fs)[j] = w ∧ idx w = (j : Int) := by
  refine ⟨fun w => (((cornL 0 fs).findIdx fun u => u.a == w.a && u.b == w.b : Nat) : Int), fun w hw => ?_⟩
  obtain ⟨j, hj, e⟩ := corn_at ok hE hw
  have hl : ((cornL 0 fs).findIdx fun u => u.a == w.a && u.b == w.b) < (cornL 0 fs).length := List.findIdx_lt_length_of_exists ⟨w, by rw [← e]; exact List.getElem_mem hj, by simp⟩
  have := List.findIdx_getElem (w := hl)
  simp only [Bool.and_eq_true, beq_iff_eq] at this
  exact ⟨_, hl, ok.apart.key (corn_in ok hE hl) hw this.1 this.2, rfl⟩
theorem t_mem {idx : Way → Int} (hi : ∀ w ∈ waysL 0 fs, ∃ (j : Nat) (h : j < (cornL 0 fs).length), (cornL 0 fs)[j] = w ∧ idx w = (j : Int)) {w : Way} (hw : w ∈ waysL 0 fs) : t1 n es (idx w) w ∈ waysL 0 (fine n es fs) ∧ t2 n es (idx w) w ∈ waysL 0 (fine n es fs) ∧ t3 n es (idx w) w ∈ waysL 0 (fine n es fs) ∧ t4 n es (idx w) w ∈ waysL 0 (fine n es fs) := by
  obtain ⟨j, hj, e1, e2⟩ := hi w hw
  rw [e2]
  refine ⟨fine_mem.2 ⟨j, hj, ?_⟩, fine_mem.2 ⟨j, hj, ?_⟩, fine_mem.2 ⟨j, hj, ?_⟩, fine_mem.2 ⟨j, hj, ?_⟩⟩ <;> rw [e1] <;> simp
theorem t_all {idx : Way → Int} (hi : ∀ w ∈ waysL 0 fs, ∃ (j : Nat) (h : j < (cornL 0 fs).length), (cornL 0 fs)[j] = w ∧ idx w = (j : Int)) {u : Way} (hu : u ∈ waysL 0 (fine n es fs)) : ∃ w ∈ waysL 0 fs, u = t1 n es (idx w) w ∨ u = t2 n es (idx w) w ∨ u = t3 n es (idx w) w ∨ u = t4 n es (idx w) w := by
  obtain ⟨j, hj, h⟩ := fine_mem.1 hu
  have hw := corn_in ok hE hj
  obtain ⟨k, hk, e1, e2⟩ := hi _ hw
  have := corn_inj ok hE hk hj e1
  subst this
  exact ⟨_, hw, by rw [e2]; exact h⟩
theorem ends_map {L : List Way} (g : Way → Way) (h : 0 < L.length) (s : Int) : ends (L.map g) s = (g (L[L.length - 1]'(by omega))).c := by
  rw [ends_at s (by simpa using h), List.getElem_map]
  congr 2
  simp
/-- About a vertex that was there. -/
theorem fan_old {v s : Int} {M : List Way} {r : Bool} (hv0 : 0 ≤ v) (hv : v < n) (hF : FanR (waysL 0 fs) v s M r) (hl : M.length = (froms (waysL 0 fs) v).length) :
    ∃ L, FanR (waysL 0 (fine n es fs)) v (hubOf (waysL 0 (fine n es fs)) v (waysL 0 (fine n es fs))).1 L r ∧ L.length = (froms (waysL 0 (fine n es fs)) v).length ∧ L.length = M.length := by
  obtain ⟨idx, hi⟩ := idx_ex ok hE
  have hpos := fan_pos ok hv0 hv hl
  have hall := fan_all ok hF hl
  have hm := fun i (h : i < M.length) => hF.mem _ (List.getElem_mem h)
  have hnd := hF.toFanC.nodup ok
  have fok := fine_walk ok hE
  have hLnd : (M.map fun w => t2 n es (idx w) w).Nodup := by
    rw [List.nodup_iff_pairwise_ne, List.pairwise_map, List.pairwise_iff_getElem]
    intro i j h1 h2 hij e
    have e2 := congrArg Way.b e
    have := ahead_from ok hE (hm i h1).1 (hm j h2).1 e2 ((hm i h1).2.trans (hm j h2).2.symm)
    have := (List.getElem_inj hnd).1 this
    omega
  have hcov : ∀ u ∈ waysL 0 (fine n es fs), u.a = v → u ∈ M.map fun w => t2 n es (idx w) w := fun u hu ha => by
    obtain ⟨w, hw, h⟩ := t_all ok hE hi hu
    have r2 := ahead_rng ok hE hw
    have r3 := behind_rng ok hE hw
    have r4 := mid_rng ok hE hw
    rcases h with rfl | rfl | rfl | rfl <;> simp only [t1, t2, t3, t4] at ha
    · omega
    · exact List.mem_map.2 ⟨w, hall w hw ha, rfl⟩
    · omega
    · omega
  have hmem : ∀ u ∈ M.map (fun w => t2 n es (idx w) w), u ∈ waysL 0 (fine n es fs) ∧ u.a = v := fun u hu => by
    obtain ⟨w, hw, rfl⟩ := List.mem_map.1 hu
    have := hF.mem w hw
    exact ⟨(t_mem ok hE hi this.1).2.1, this.2⟩
  have hlen := full_len fok.apart hmem hcov hLnd
  have hprev : ∀ i (h : i < M.length), hBehind n es M[i] = n + (eix es v M[i].c : Int) := fun i h => by
    unfold hBehind; rw [(hm i h).2, eix_symm]
  have hahead : ∀ i (h : i < M.length), hAhead n es M[i] = n + (eix es v M[i].b : Int) := fun i h => by
    unfold hAhead; rw [(hm i h).2]
  -- a way ahead that comes to the same edge as the one behind
  have hone : ∀ i j (h : i < M.length) (h2 : j < M.length), hBehind n es M[i] = hAhead n es M[j] → M[i].c = M[j].b := fun i j h h2 e => by
    obtain ⟨p, hp, p1, p2, p3, p4⟩ := behind_is ok hE (hm i h).1
    rw [p4] at e
    unfold hAhead at e
    rcases same_edge ok hE hp (hm j h2).1 (by omega) with e2 | ⟨e2, e3, _⟩
    · exfalso
      have : p.a = p.b := by rw [p2, (hm i h).2, ← (hm j h2).2, ← e2]
      exact ok.ne hp this
    · rw [← p1]; exact e2
  have hs := hF.first hpos
  have hFC : FanC (waysL 0 (fine n es fs)) v (hAhead n es (M[0]'hpos)) (M.map fun w => t2 n es (idx w) w) := {
    mem := hmem
    first := fun h => by rw [List.getElem_map]; rfl
    link := fun i h => by
      have h2 : i + 1 < M.length := by simpa using h
      rw [List.getElem_map, List.getElem_map]
      show hAhead n es M[i + 1] = hBehind n es M[i]
      rw [hahead _ h2, hprev _ (by omega), hF.link i h2]
    mid := fun i h => by
      have h2 : i + 1 < M.length := by simpa using h
      rw [List.getElem_map]
      show hBehind n es M[i] ≠ _
      intro e
      have := hone i 0 (by omega) hpos e
      rw [hs] at this
      exact hF.mid i h2 this }
  have hends : ends (M.map fun w => t2 n es (idx w) w) (hAhead n es (M[0]'hpos)) = hBehind n es (M[M.length - 1]'(by omega)) := ends_map ok hE _ hpos _
  have hends2 := ends_at s hpos
  obtain ⟨L, g1, g2⟩ := cover fok (by simpa using hpos) hFC hlen r (fun hr => by
      have := (hF.back hr).2
      rw [hends, hprev _ (by omega), hahead _ hpos, ← hends2, this, hs]) (fun hr => by
      obtain ⟨b1, b2⟩ := hF.stop hr
      have b3 : ends M s ≠ s := b2.resolve_left (fun e => by rw [e] at hpos; simp at hpos)
      refine ⟨fun e => ?_, fun u hu ha e => ?_⟩
      · rw [hends] at e
        have := hone _ _ (by omega) hpos e
        rw [hs, ← hends2] at this
        exact b3 this
      · obtain ⟨w, hw, rfl⟩ := List.mem_map.1 (hcov u hu ha)
        obtain ⟨j, hj, rfl⟩ := List.getElem_of_mem hw
        rw [hends] at e
        have := hone _ _ (by omega) hj e.symm
        rw [← hends2] at this
        exact b1 _ (hm j hj).1 (hm j hj).2 this.symm)
  exact ⟨L, g1, g2, by rw [g2, ← hlen]; simp⟩
/-- About a face's new vertex. -/
theorem fan_face (f : Nat) (hf : f < fs.length) :
    ∃ L r, FanR (waysL 0 (fine n es fs)) (n + es.length + f) (hubOf (waysL 0 (fine n es fs)) (n + es.length + f) (waysL 0 (fine n es fs))).1 L r ∧ L.length = (froms (waysL 0 (fine n es fs)) (n + es.length + f)).length := by
  obtain ⟨idx, hi⟩ := idx_ex ok hE
  have fok := fine_walk ok hE
  have hl := ok.long _ (List.getElem_mem hf)
  have hn0 := ok.pos
  obtain ⟨x, hx⟩ : ∃ x, fs[f] = x := ⟨_, rfl⟩
  rw [hx] at hl
  have hcw : ∀ i, i < x.length → cw (f : Int) x i ∈ waysL 0 fs := fun i h => by
    refine (mem_waysL fs 0 _).2 ⟨f, hf, ?_⟩
    rw [hx, Nat.zero_add]
    exact cw_mem (by omega) h
  have hcor : ∀ i j, i < x.length → j < x.length → x.getD i 0 = x.getD j 0 → i = j := fun i j h1 h2 e => ok.corner f hf (by rw [hx]; exact h1) (by rw [hx]; exact h2) (by rw [hx]; exact e)
  have hinf : ∀ w ∈ waysL 0 fs, w.f = f → ∃ i, i < x.length ∧ w = cw (f : Int) x i := fun w hw e => by
    obtain ⟨j, hj, hm⟩ := (mem_waysL fs 0 w).1 hw
    have := waysF_fc hm
    have hjf : j = f := by omega
    subst hjf
    rw [hx] at hm
    rw [← cornF_mem (by omega)] at hm
    obtain ⟨i, h1, h2⟩ := List.mem_map.1 hm
    exact ⟨i, by simpa using h1, by rw [← h2]; simp⟩
  have hLnd : ((List.range x.length).map fun i => t4 n es (idx (cw f x i)) (cw f x i)).Nodup := by
    rw [List.nodup_iff_pairwise_ne, List.pairwise_map, List.pairwise_iff_getElem]
    intro i j h1 h2 hij e
    have i1 : i < x.length := by simpa using h1
    have j1 : j < x.length := by simpa using h2
    simp only [List.getElem_range] at e
    have e2 := congrArg Way.b e
    have := behind_one ok hE (hcw i i1) (hcw j j1) e2 rfl
    have := hcor i j i1 j1 (congrArg Way.a this)
    omega
  have hmem : ∀ u ∈ (List.range x.length).map (fun i => t4 n es (idx (cw f x i)) (cw f x i)), u ∈ waysL 0 (fine n es fs) ∧ u.a = n + es.length + f := fun u hu => by
    obtain ⟨i, h1, rfl⟩ := List.mem_map.1 hu
    exact ⟨(t_mem ok hE hi (hcw i (by simpa using h1))).2.2.2, rfl⟩
  have hcov : ∀ u ∈ waysL 0 (fine n es fs), u.a = n + es.length + f → u ∈ (List.range x.length).map (fun i => t4 n es (idx (cw f x i)) (cw f x i)) := fun u hu ha => by
    obtain ⟨w, hw, h⟩ := t_all ok hE hi hu
    have r1 := way_rng ok hE hw
    have r2 := ahead_rng ok hE hw
    have r3 := behind_rng ok hE hw
    rcases h with rfl | rfl | rfl | rfl <;> simp only [t1, t2, t3, t4] at ha
    · omega
    · omega
    · omega
    · obtain ⟨i, h1, h2⟩ := hinf w hw (by unfold hMid at ha; omega)
      exact List.mem_map.2 ⟨i, by simpa using h1, by rw [h2]⟩
  have hlen := full_len fok.apart hmem hcov hLnd
  have hstep : ∀ i, i < x.length → hAhead n es (cw f x i) = hBehind n es (cw f x ((i + 1) % x.length)) := fun i h => by
    obtain ⟨e1, e2, e3⟩ := mod_forth h (show 2 ≤ x.length by omega)
    unfold hAhead hBehind cw
    simp only
    rw [e1]
  have hFC : FanC (waysL 0 (fine n es fs)) (n + es.length + f) (hBehind n es (cw f x 0)) ((List.range x.length).map fun i => t4 n es (idx (cw f x i)) (cw f x i)) := {
    mem := hmem
    first := fun h => by rw [List.getElem_map, List.getElem_range]; rfl
    link := fun i h => by
      have h2 : i + 1 < x.length := by simpa using h
      rw [List.getElem_map, List.getElem_map, List.getElem_range, List.getElem_range]
      show hBehind n es (cw f x (i + 1)) = hAhead n es (cw f x i)
      rw [hstep i (by omega), Nat.mod_eq_of_lt h2]
    mid := fun i h => by
      have h2 : i + 1 < x.length := by simpa using h
      rw [List.getElem_map, List.getElem_range]
      show hAhead n es (cw f x i) ≠ _
      rw [hstep i (by omega), Nat.mod_eq_of_lt h2]
      intro e
      have := behind_one ok hE (hcw _ h2) (hcw 0 (by omega)) e rfl
      have := hcor (i + 1) 0 h2 (by omega) (congrArg Way.a this)
      omega }
  obtain ⟨L, g1, g2⟩ := cover fok (by simp; omega) hFC hlen true (fun _ => by
    rw [ends_at _ (by simp; omega), List.getElem_map, List.getElem_range]
    show hAhead n es (cw f x _) = _
    rw [hstep _ (by simp; omega)]
    congr 2
    simp only [List.length_map, List.length_range]
    rw [Nat.sub_add_cancel (by omega), Nat.mod_self]) (fun h => by cases h)
  exact ⟨L, true, g1, g2⟩
/-- About an edge's new vertex. -/
theorem fan_edge (k : Nat) (hk : k < es.length) :
    ∃ L r, FanR (waysL 0 (fine n es fs)) (n + k) (hubOf (waysL 0 (fine n es fs)) (n + k) (waysL 0 (fine n es fs))).1 L r ∧ L.length = (froms (waysL 0 (fine n es fs)) (n + k)).length := by
  obtain ⟨idx, hi⟩ := idx_ex ok hE
  have fok := fine_walk ok hE
  have hn0 := ok.pos
  obtain ⟨w, hw, hwk⟩ : ∃ w ∈ waysL 0 fs, eix es w.a w.b = k := by
    obtain ⟨w, hw, e2⟩ := (hE.mem _).1 (List.getElem_mem hk)
    refine ⟨w, hw, ?_⟩
    obtain ⟨k1, k2, k3⟩ := eix_spec ok hE hw
    apply Classical.byContradiction
    intro hne
    have hs := List.pairwise_iff_getElem.1 hE.sorted
    have g1 : es[k].a = min w.a w.b := by rw [e2]; rfl
    have g2 : es[k].b = max w.a w.b := by rw [e2]; rfl
    rcases Nat.lt_or_ge (eix es w.a w.b) k with h | h
    · have := hs _ _ k1 hk h
      unfold ltE at this; omega
    · have := hs _ _ hk k1 (by omega)
      unfold ltE at this; omega
  have hne := ok.ne hw
  have hra := way_rng ok hE hw
  have hm1 := mid_rng ok hE hw
  obtain ⟨d, hw2⟩ := ok.next hw
  -- ways from there
  have hfrom : ∀ u ∈ waysL 0 (fine n es fs), u.a = n + k → ∃ y ∈ waysL 0 fs, (eix es y.a y.b = k ∧ u = t3 n es (idx y) y) ∨ (∃ p ∈ waysL 0 fs, p.a = y.c ∧ p.b = y.a ∧ p.f = y.f ∧ eix es p.a p.b = k ∧ u = t1 n es (idx y) y) := fun u hu ha => by
    obtain ⟨y, hy, h⟩ := t_all ok hE hi hu
    have r1 := way_rng ok hE hy
    have r4 := mid_rng ok hE hy
    rcases h with rfl | rfl | rfl | rfl <;> simp only [t1, t2, t3, t4] at ha
    · obtain ⟨p, hp, p1, p2, p3, p4⟩ := behind_is ok hE hy
      exact ⟨y, hy, .inr ⟨p, hp, p1, p2, p3, by rw [p4] at ha; unfold hAhead at ha; omega, rfl⟩⟩
    · omega
    · exact ⟨y, hy, .inl ⟨by unfold hAhead at ha; omega, rfl⟩⟩
    · omega
  have hA : ∀ y ∈ waysL 0 fs, eix es y.a y.b = k → ∀ z ∈ waysL 0 fs, z.a = y.b → z.f = y.f → t1 n es (idx z) z ∈ waysL 0 (fine n es fs) ∧ (t1 n es (idx z) z).a = n + k ∧ t3 n es (idx y) y ∈ waysL 0 (fine n es fs) ∧ (t3 n es (idx y) y).a = n + k ∧ (t1 n es (idx z) z).b = y.b ∧ (t1 n es (idx z) z).c = hMid n es y ∧ (t3 n es (idx y) y).b = hMid n es y ∧ (t3 n es (idx y) y).c = y.a := fun y hy hyk z hz z1 z2 => by
    obtain ⟨p, hp, p1, p2, p3, p4⟩ := behind_is ok hE hz
    have : p = y := by
      obtain ⟨d3, hd3⟩ := ok.next hp
      obtain ⟨d4, hd4⟩ := ok.next hy
      have e1 := ok.fromf hd3 hd4 (by show p.b = y.b; rw [p2, z1]) (by show p.f = y.f; rw [p3, z2])
      have e2 := congrArg Way.c e1
      exact ok.fromf hp hy e2 (by rw [p3, z2])
    subst this
    refine ⟨(t_mem ok hE hi hz).1, ?_, (t_mem ok hE hi hp).2.2.1, ?_, z1, ?_, rfl, rfl⟩
    · show hBehind n es z = _
      rw [p4]; unfold hAhead; omega
    · show hAhead n es p = _
      unfold hAhead; omega
    · show hMid n es z = _
      unfold hMid; rw [p3]
  obtain ⟨a1, a2, a3, a4, a5, a6, a7, a8⟩ := hA w hw hwk _ hw2 rfl rfl
  have hbr := way_rng ok hE hw2
  simp only at hbr
  by_cases hz : ∃ z ∈ waysL 0 fs, z.a = w.b ∧ z.b = w.a
  · obtain ⟨z, hz, z1, z2⟩ := hz
    have hzk : eix es z.a z.b = k := by rw [z1, z2, eix_symm]; exact hwk
    obtain ⟨d2, hz2⟩ := ok.next hz
    have hm2 := mid_rng ok hE hz
    have hff : w.f ≠ z.f := fun e => by
      have := ahead_one ok hE hw hz (by unfold hAhead; omega) e
      rw [this] at z1; exact ok.ne hz z1
    have hmm : hMid n es w ≠ hMid n es z := fun e => hff (by unfold hMid at e; omega)
    obtain ⟨b1, b2, b3, b4, b5, b6, b7, b8⟩ := hA z hz hzk _ hz2 rfl rfl
    generalize hu1 : t1 n es (idx ⟨w.b, d, w.f, w.a⟩) ⟨w.b, d, w.f, w.a⟩ = u1 at *
    generalize hu2 : t3 n es (idx w) w = u2 at *
    generalize hu3 : t1 n es (idx ⟨z.b, d2, z.f, z.a⟩) ⟨z.b, d2, z.f, z.a⟩ = u3 at *
    generalize hu4 : t3 n es (idx z) z = u4 at *
    have hFC : FanC (waysL 0 (fine n es fs)) (n + k) w.b [u1, u2, u3, u4] := {
      mem := fun u hu => by
        simp only [List.mem_cons, List.not_mem_nil, or_false] at hu
        rcases hu with rfl | rfl | rfl | rfl
        · exact ⟨a1, a2⟩
        · exact ⟨a3, a4⟩
        · exact ⟨b1, b2⟩
        · exact ⟨b3, b4⟩
      first := fun _ => a5
      link := fun i h => by
        rcases (by simp at h; omega : i = 0 ∨ i = 1 ∨ i = 2) with rfl | rfl | rfl
        · show u2.b = u1.c; rw [a7, a6]
        · show u3.b = u2.c; rw [b5, a8, z2]
        · show u4.b = u3.c; rw [b7, b6]
      mid := fun i h => by
        rcases (by simp at h; omega : i = 0 ∨ i = 1 ∨ i = 2) with rfl | rfl | rfl
        · show u1.c ≠ _; rw [a6]; omega
        · show u2.c ≠ _; rw [a8]; exact hne
        · show u3.c ≠ _; rw [b6]; omega }
    have hnd : [u1, u2, u3, u4].Nodup := hFC.nodup fok
    have hcov : ∀ u ∈ waysL 0 (fine n es fs), u.a = n + k → u ∈ [u1, u2, u3, u4] := fun u hu ha => by
      obtain ⟨y, hy, ⟨h1, rfl⟩ | ⟨p, hp, p1, p2, p3, h1, rfl⟩⟩ := hfrom u hu ha
      · rcases same_edge ok hE hy hw (by omega) with rfl | ⟨e1, e2, _⟩
        · rw [← hu2]; simp
        · have := ok.apart.key hy hz (by rw [e1, z1]) (by rw [e2, z2])
          subst this; rw [← hu4]; simp
      · rcases same_edge ok hE hp hw (by omega) with rfl | ⟨e1, e2, _⟩
        · have := ok.fromf hy hw2 p2.symm p3.symm
          rw [← hu1, ← this]; simp
        · have := ok.apart.key hp hz (by rw [e1, z1]) (by rw [e2, z2])
          subst this
          have := ok.fromf hy hz2 p2.symm p3.symm
          rw [← hu3, ← this]; simp
    have hlen := full_len fok.apart hFC.mem hcov hnd
    obtain ⟨L, g1, g2⟩ := cover fok (by simp) hFC hlen true (fun _ => by
      show u4.c = _
      rw [b8, z1]) (fun h => by cases h)
    exact ⟨L, true, g1, g2⟩
  · generalize hu1 : t1 n es (idx ⟨w.b, d, w.f, w.a⟩) ⟨w.b, d, w.f, w.a⟩ = u1 at *
    generalize hu2 : t3 n es (idx w) w = u2 at *
    have hFC : FanC (waysL 0 (fine n es fs)) (n + k) w.b [u1, u2] := {
      mem := fun u hu => by
        simp only [List.mem_cons, List.not_mem_nil, or_false] at hu
        rcases hu with rfl | rfl
        · exact ⟨a1, a2⟩
        · exact ⟨a3, a4⟩
      first := fun _ => a5
      link := fun i h => by
        obtain rfl : i = 0 := by simp at h; omega
        show u2.b = u1.c; rw [a7, a6]
      mid := fun i h => by
        obtain rfl : i = 0 := by simp at h; omega
        show u1.c ≠ _; rw [a6]; omega }
    have hnd : [u1, u2].Nodup := hFC.nodup fok
    have hcov : ∀ u ∈ waysL 0 (fine n es fs), u.a = n + k → u ∈ [u1, u2] := fun u hu ha => by
      obtain ⟨y, hy, ⟨h1, rfl⟩ | ⟨p, hp, p1, p2, p3, h1, rfl⟩⟩ := hfrom u hu ha
      · rcases same_edge ok hE hy hw (by omega) with rfl | ⟨e1, e2, _⟩
        · rw [← hu2]; simp
        · exact absurd ⟨y, hy, e1, e2⟩ hz
      · rcases same_edge ok hE hp hw (by omega) with rfl | ⟨e1, e2, _⟩
        · have := ok.fromf hy hw2 p2.symm p3.symm
          rw [← hu1, ← this]; simp
        · exact absurd ⟨p, hp, e1, e2⟩ hz
    have hlen := full_len fok.apart hFC.mem hcov hnd
    obtain ⟨L, g1, g2⟩ := cover fok (by simp) hFC hlen false (fun h => by cases h) (fun _ => ⟨by
      show u2.c ≠ _
      rw [a8]; exact hne, fun u hu ha => by
      have := hcov u hu ha
      simp only [List.mem_cons, List.not_mem_nil, or_false] at this
      show u.b ≠ u2.c
      rw [a8]
      rcases this with rfl | rfl
      · rw [a5]; exact hne.symm
      · rw [a7]; omega⟩)
    exact ⟨L, false, g1, g2⟩
end
/-- The finer faces make a surface. -/
theorem fine_surf {n : Int} {fs : List (List Int)} {t : TopoT} (h : TopoS n fs t) : Surf (n + t.es.length + fs.length) (fine n t.es fs) := by
  refine ⟨fine_walk h.walk h.edges, fun v h0 h1 => ?_⟩
  by_cases c1 : v < n
  · obtain ⟨L, r, g1, g2⟩ := h.surf.2 v h0 c1
    obtain ⟨M, k1, k2, _⟩ := fan_old h.walk h.edges h0 c1 g1 g2
    exact ⟨M, r, k1, k2⟩
  · by_cases c2 : v < n + t.es.length
    · have := fan_edge h.walk h.edges (v - n).toNat (by omega)
      rw [show n + ((v - n).toNat : Int) = v by omega] at this
      exact this
    · have := fan_face h.walk h.edges (v - n - t.es.length).toNat (by omega)
      rw [show n + (t.es.length : Int) + ((v - n - t.es.length).toNat : Int) = v by omega] at this
      exact this
/-- What was round is; as many faces are about a vertex that was there. -/
theorem fine_same {n : Int} {fs : List (List Int)} {t u : TopoT} (h : TopoS n fs t) (k : TopoS (n + t.es.length + fs.length) (fine n t.es fs) u) (v : Nat) (hv : (v : Int) < n) :
    ∃ (h1 : v < t.fans.length) (h2 : v < u.fans.length) (h3 : v < t.rs.length) (h4 : v < u.rs.length), t.rs[v] = u.rs[v] ∧ t.fans[v].length = u.fans[v].length := by
  have a1 := h.nf
  have a2 := h.nr
  have a3 := k.nf
  have a4 := k.nr
  refine ⟨by omega, by omega, by omega, by omega, ?_⟩
  obtain ⟨L, b1, b2, b3⟩ := h.fan v (by omega) (by omega)
  obtain ⟨M, c1, c2, c3⟩ := k.fan v (by omega) (by omega)
  obtain ⟨L2, d1, d2, d3⟩ := fan_old h.walk h.edges (by omega) hv b1 b2
  obtain ⟨e1, e2⟩ := d1.unique k.walk.apart c1
  refine ⟨e2, ?_⟩
  rw [b3, c3, ← e1, List.length_map, List.length_map, d3]
end Go.Proofs.Ytgmifpicilfcdab
namespace Go.Proofs.Ytgmifpicilfcdab
open Go.RowKit
set_option linter.unusedVariables false
set_option linter.unusedSimpArgs false
section
variable {H : Type} {enc : TypeId × Value → H} {w : World} {base : Nat} {spare : Nat → Bool} {held : Bool}
theorem tw_sl {t e : TypeId} {A : Option Addr} {n k : Nat} (hu : Try.prog.underlying t = some (.slice e)) (h : TW enc Try.prog w base spare held t [.slice A n k]) : SL A n k := by
  obtain ⟨fu, x, hx, hw⟩ := h
  rcases DataW.trod_slice hu hx with ⟨e0, _⟩ | ⟨a, len, cap, elems, rest, m, _, e0, hxe, hb, hl, hm, hlen, hel, _, _⟩
  · simp at e0
    obtain ⟨rfl, rfl, rfl⟩ := e0
    exact ⟨Nat.le_refl _, by unfold maxLen; omega, fun _ => rfl⟩
  · simp at e0
    obtain ⟨rfl, rfl, rfl⟩ := e0
    exact ⟨hl, hm, fun h => by cases h⟩
theorem cage_sl {A1 A2 A3 : Option Addr} {n1 n2 n3 k1 k2 k3 : Nat} (h : TW enc Try.prog w base spare held 26 [.slice A1 n1 k1, .slice A2 n2 k2, .slice A3 n3 k3]) : SL A1 n1 k1 ∧ SL A3 n3 k3 := by
  obtain ⟨_, d0, hc0, ht0⟩ := tw_leaf 10 26 0 0 22 (by rw [lvCg]; simp) _ h
  obtain ⟨_, d2, hc2, ht2⟩ := tw_leaf 10 26 0 2 24 (by rw [lvCg]; simp) _ h
  obtain rfl : d0 = .slice A1 n1 k1 := by simpa [eq_comm] using hc0
  obtain rfl : d2 = .slice A3 n3 k3 := by simpa [eq_comm] using hc2
  exact ⟨tw_sl Try.underlying22 ht0, tw_sl Try.underlying24 ht2⟩
set_option maxRecDepth 100000 in
theorem open_P {r : Reach} {b0 : Nat} {v : Value} {d : DataW H} {p : List MemPlace} (hv : Value.okWide Try.prog w r b0 43 v) (h : DataW.Trod enc Try.prog w base spare held 43 v d p) : ∃ a : P3, v = .agg #[.int .i64 a.x, .int .i64 a.y, .int .i64 a.z] ∧ I3 a := by
  obtain ⟨g, rfl, hb⟩ := open_ints_agg Try.underlying43 szV lvV Try.underlying3 hv h
  have h0 := hb 0 (by omega)
  have h1 := hb 1 (by omega)
  have h2 := hb 2 (by omega)
  exact ⟨⟨g 0, g 1, g 2⟩, rfl, h0, h1, h2⟩
end
end Go.Proofs.Ytgmifpicilfcdab
namespace Go.Proofs.Ytgmifpicilfcdab
open Go.RowKit
set_option linter.unusedVariables false
set_option linter.unusedSimpArgs false
section
variable {H : Type} {enc : TypeId × Value → H} {w : World} {base : Nat} {spare : Nat → Bool} {held : Bool}
theorem tw_cap {t e : TypeId} {A : Option Addr} {n k : Nat} (hu : Try.prog.underlying t = some (.slice e)) (h : TW enc Try.prog w base spare held t [.slice A n k]) : n ≤ k := by
  obtain ⟨fu, x, hx, hw⟩ := h
  rcases DataW.trod_slice hu hx with ⟨e0, _⟩ | ⟨a, len, cap, elems, rest, m, _, e0, hxe, hb, hl, hm, hlen, hel, _, _⟩
  · simp at e0; omega
  · simp at e0; omega
theorem cage_cap {A1 A2 A3 : Option Addr} {n1 n2 n3 k1 k2 k3 : Nat} (h : TW enc Try.prog w base spare held 26 [.slice A1 n1 k1, .slice A2 n2 k2, .slice A3 n3 k3]) : n1 ≤ k1 := by
  obtain ⟨_, d0, hc0, ht0⟩ := tw_leaf 10 26 0 0 22 (by rw [lvCg]; simp) _ h
  obtain rfl : d0 = .slice A1 n1 k1 := by simpa [eq_comm] using hc0
  exact tw_cap Try.underlying22 ht0
end
end Go.Proofs.Ytgmifpicilfcdab
namespace Go.Proofs.Ytgmifpicilfcdab
open Go.RowKit
set_option linter.unusedVariables false
set_option linter.unusedSimpArgs false
/-- One of the three coordinates. -/
structure Co (g : P3 → Int) : Prop where
  ad : ∀ a b, g (adW a b) = wrap64 (g a + g b)
  of : ∀ s n, g (ofP s n) = rnd (g s) n
  sc : ∀ a k, g (scW a k) = wrap64 (g a * k)
  z : g Z3 = 0
  tri : ∀ f : (P3 → Int) → Int, g (tri3 f) = f g
  inP : ∀ m p, InP m p → -m ≤ g p ∧ g p ≤ m
theorem co_x : Co P3.x := ⟨fun _ _ => rfl, fun _ _ => rfl, fun _ _ => rfl, rfl, fun _ => rfl, fun _ _ h => h.1⟩
theorem co_y : Co P3.y := ⟨fun _ _ => rfl, fun _ _ => rfl, fun _ _ => rfl, rfl, fun _ => rfl, fun _ _ h => h.2.1⟩
theorem co_z : Co P3.z := ⟨fun _ _ => rfl, fun _ _ => rfl, fun _ _ => rfl, rfl, fun _ => rfl, fun _ _ h => h.2.2⟩
theorem sum_bd (B : Int) : ∀ l : List Int, (∀ y ∈ l, -B ≤ y ∧ y ≤ B) → -(l.length * B) ≤ l.sum ∧ l.sum ≤ l.length * B
  | [], _ => by simp
  | a :: r, h => by
    have h1 := sum_bd B r (fun y hy => h y (List.mem_cons_of_mem _ hy))
    have h2 := h a (by simp)
    simp only [List.sum_cons, List.length_cons]
    have e : ((r.length + 1 : Nat) : Int) * B = (r.length : Int) * B + B := by rw [Int.natCast_add, Int.add_mul]; simp
    rw [e]; omega
theorem fold_exact (B : Int) (hB : 0 ≤ B) : ∀ (l : List Int) (s : Int), (∀ y ∈ l, -B ≤ y ∧ y ≤ B) → (-4611686018427387904 ≤ s - l.length * B ∧ s + l.length * B ≤ 4611686018427387904) → l.foldl (fun s y => wrap64 (s + y)) s = s + l.sum
  | [], s, _, _ => by simp
  | a :: r, s, h, hs => by
    have h2 := h a (by simp)
    have e : ((r.length + 1 : Nat) : Int) * B = (r.length : Int) * B + B := by rw [Int.natCast_add, Int.add_mul]; simp
    simp only [List.length_cons] at hs
    rw [e] at hs
    have hr : 0 ≤ (r.length : Int) * B := Int.mul_nonneg (by omega) hB
    have hw : wrap64 (s + a) = s + a := by unfold wrap64; omega
    rw [List.foldl_cons, hw, fold_exact B hB r (s + a) (fun y hy => h y (List.mem_cons_of_mem _ hy)) (by omega), List.sum_cons]
    omega
/-- A coordinate of a sum of points. -/
theorem co_fold {g : P3 → Int} (hg : Co g) (B : Int) (hB : 0 ≤ B) (s : P3) (l : List P3) (h : ∀ p ∈ l, -B ≤ g p ∧ g p ≤ B) (hs : -4611686018427387904 ≤ g s - l.length * B ∧ g s + l.length * B ≤ 4611686018427387904) : g (foldP s l) = g s + (l.map g).sum := by
  rw [foldP_tri g hg.ad, fold_exact B hB (l.map g) (g s) (fun y hy => by obtain ⟨p, hp, rfl⟩ := List.mem_map.1 hy; exact h p hp) (by simpa using hs)]
/-- The other ends of the edges at a vertex; of the sharp ones. -/
def othE (v : Int) (L : List (Ed × Int)) : List Int := L.filterMap fun q => other v q.1
def othS (v : Int) (L : List (Ed × Int)) : List Int := L.filterMap fun q => if q.2 = 0 then none else other v q.1
theorem starF_eq (vs : List P3) (v : Int) : ∀ (L : List (Ed × Int)) (s : St), L.foldl (starE vs v) s = ⟨foldP s.all ((othE v L).map (vat vs)), foldP s.ends ((othS v L).map (vat vs)), s.n + (othS v L).length⟩
  | [], s => rfl
  | q :: r, s => by
    rw [List.foldl_cons, starF_eq vs v r]
    unfold starE othE othS other
    by_cases h1 : q.1.a = v
    · by_cases h2 : q.2 = 0
      · simp [h1, h2, starMeet, foldP]
      · simp [h1, h2, starMeet, foldP]; omega
    · by_cases h3 : q.1.b = v
      · by_cases h2 : q.2 = 0
        · simp [h1, h2, h3, starMeet, foldP]
        · simp [h1, h2, h3, starMeet, foldP]; omega
      · simp [h1, h3]
/-- A coordinate's value by a vertex's number. -/
theorem co_vat {g : P3 → Int} (hg : Co g) {m : Int} (hm : 0 ≤ m) {vs : List P3} (h : ∀ p ∈ vs, InP m p) (v : Int) : -m ≤ g (vat vs v) ∧ g (vat vs v) ≤ m := by
  unfold vat
  rw [List.getD_eq_getElem?_getD]
  cases hq : vs[v.toNat]? with
  | none => simp only [Option.getD_none, hg.z]; omega
  | some p => exact hg.inP m p (h p (List.mem_of_getElem? hq))
/-- Rounded, a mean stays between. -/
theorem rnd_box {x n lo hi : Int} (hn : 0 < n) (hn2 : n ≤ 2305843009213693952) (h1 : lo * n ≤ x) (h2 : x ≤ hi * n) (hx : -2305843009213693952 ≤ x ∧ x ≤ 2305843009213693952) : lo ≤ rnd x n ∧ rnd x n ≤ hi := by
  rw [rnd_in (by omega)]
  constructor
  · apply (Int.le_ediv_iff_mul_le (by omega)).2
    have : lo * (2 * n) = 2 * (lo * n) := by rw [Int.mul_left_comm]
    omega
  · apply Int.le_of_lt_add_one
    apply (Int.ediv_lt_iff_lt_mul (by omega)).2
    have : (hi + 1) * (2 * n) = 2 * (hi * n) + 2 * n := by rw [Int.add_mul, Int.mul_left_comm]; omega
    omega
theorem rnd_shift {x n k : Int} (hn : 0 < n) (hn2 : n ≤ 2305843009213693952) (hx : -2305843009213693952 ≤ x ∧ x ≤ 2305843009213693952) (hy : -2305843009213693952 ≤ x + k * n ∧ x + k * n ≤ 2305843009213693952) : rnd (x + k * n) n = rnd x n + k := by
  rw [rnd_in (by omega), rnd_in (by omega)]
  rw [show 2 * (x + k * n) + n = 2 * x + n + k * (2 * n) by rw [Int.mul_left_comm]; omega]
  exact Int.add_mul_ediv_right _ _ (by omega)
theorem co_mid {g : P3 → Int} (hg : Co g) {vs : List P3} (h : ∀ p ∈ vs, InP 65536 p) (x : List Int) (hx : x.length ≤ 1000000) : g (midP vs x) = rnd ((x.map fun v => g (vat vs v)).sum) x.length := by
  rw [← mid_eq, hg.of, co_fold hg 65536 (by omega) _ _ (fun p hp => by obtain ⟨v, _, rfl⟩ := List.mem_map.1 hp; exact co_vat hg (by omega) h v) (by rw [hg.z, List.length_map]; omega), hg.z, List.map_map, Int.zero_add]
  rfl
theorem mid_in {vs : List P3} (h : ∀ p ∈ vs, InP 65536 p) (x : List Int) (hx : x.length ≤ 1000000) (hx0 : 0 < x.length) : InP 65536 (midP vs x) := by
  have key : ∀ g : P3 → Int, Co g → -65536 ≤ g (midP vs x) ∧ g (midP vs x) ≤ 65536 := fun g hg => by
    rw [co_mid hg h x hx]
    have hb := sum_bd 65536 (x.map fun v => g (vat vs v)) (fun y hy => by obtain ⟨v, _, rfl⟩ := List.mem_map.1 hy; exact co_vat hg (by omega) h v)
    rw [List.length_map] at hb
    exact rnd_box (by omega) (by omega) (by omega) (by omega) (by omega)
  exact ⟨key _ co_x, key _ co_y, key _ co_z⟩
theorem mids_in {vs : List P3} (h : ∀ p ∈ vs, InP 65536 p) (fs : List (List Int)) (hx : ∀ x ∈ fs, x.length ≤ 1000000 ∧ 0 < x.length) : ∀ p ∈ midsL vs fs, InP 65536 p := fun p hp => by
  obtain ⟨f, hf, rfl⟩ := List.mem_map.1 hp
  have hf2 : f < fs.length := by simpa using hf
  have e : fs.getD f [] = fs[f] := by rw [List.getD_eq_getElem?_getD, List.getElem?_eq_getElem hf2]; rfl
  rw [e]
  have := hx _ (List.getElem_mem hf2)
  exact mid_in h _ this.1 this.2
/-- The place of a vertex, one coordinate: what it is reckoned from. -/
def placeG (q M : Int → Int) (v : Int) (fan : List Int) (L : List (Ed × Int)) : Int :=
  if 2 < (othS v L).length then q v else if (othS v L).length = 2 then rnd (6 * q v + ((othS v L).map q).sum) 8 else q v + rnd ((fan.map M).sum + ((othE v L).map q).sum - 2 * (fan.length : Int) * q v) ((fan.length : Int) * (fan.length : Int))
theorem co_place {g : P3 → Int} (hg : Co g) {vs ms : List P3} (h : ∀ p ∈ vs, InP 65536 p) (hm : ∀ p ∈ ms, InP 65536 p) (fan : List Int) (L : List (Ed × Int)) (v : Int) (hf : fan.length ≤ 1000000) (hf0 : 0 < fan.length) (hL : L.length ≤ 1000000) :
    g (placeP (starF vs ms fan L v) (vat vs v) fan.length) = placeG (fun u => g (vat vs u)) (fun f => g (vat ms f)) v fan L := by
  have hs := starF_eq vs v L (star0 ms fan)
  have e : starF vs ms fan L v = L.foldl (starE vs v) (star0 ms fan) := rfl
  have l1 : (othE v L).length ≤ L.length := List.length_filterMap_le _ _
  have l2 : (othS v L).length ≤ L.length := List.length_filterMap_le _ _
  have hv := co_vat hg (m := 65536) (by omega) h v
  have hq : ∀ l : List Int, ∀ p ∈ l.map (vat vs), -65536 ≤ g p ∧ g p ≤ 65536 := fun l p hp => by obtain ⟨u, _, rfl⟩ := List.mem_map.1 hp; exact co_vat hg (by omega) h u
  have hM : ∀ p ∈ fan.map (vat ms), -65536 ≤ g p ∧ g p ≤ 65536 := fun p hp => by obtain ⟨u, _, rfl⟩ := List.mem_map.1 hp; exact co_vat hg (by omega) hm u
  have hends : g (starF vs ms fan L v).ends = ((othS v L).map fun u => g (vat vs u)).sum := by
    rw [e, hs]
    show g (foldP Z3 _) = _
    rw [co_fold hg 65536 (by omega) _ _ (hq _) (by rw [hg.z, List.length_map]; omega), hg.z, List.map_map, Int.zero_add]; rfl
  have hallm : g (foldP Z3 (fan.map (vat ms))) = (fan.map fun f => g (vat ms f)).sum := by
    rw [co_fold hg 65536 (by omega) _ _ hM (by rw [hg.z, List.length_map]; omega), hg.z, List.map_map, Int.zero_add]; rfl
  have bM := sum_bd 65536 (fan.map fun f => g (vat ms f)) (fun y hy => by obtain ⟨u, _, rfl⟩ := List.mem_map.1 hy; exact co_vat hg (by omega) hm u)
  have bE := sum_bd 65536 ((othE v L).map fun u => g (vat vs u)) (fun y hy => by obtain ⟨u, _, rfl⟩ := List.mem_map.1 hy; exact co_vat hg (by omega) h u)
  have bS := sum_bd 65536 ((othS v L).map fun u => g (vat vs u)) (fun y hy => by obtain ⟨u, _, rfl⟩ := List.mem_map.1 hy; exact co_vat hg (by omega) h u)
  rw [List.length_map] at bM bE bS
  have hall : g (starF vs ms fan L v).all = (fan.map fun f => g (vat ms f)).sum + ((othE v L).map fun u => g (vat vs u)).sum := by
    rw [e, hs]
    show g (foldP (foldP Z3 (fan.map (vat ms))) _) = _
    rw [co_fold hg 65536 (by omega) _ _ (hq _) (by rw [hallm, List.length_map]; omega), hallm, List.map_map]; rfl
  have hn : (starF vs ms fan L v).n = (othS v L).length := by rw [e, hs]; show 0 + _ = _; omega
  have bq := hv
  have hnn : 0 ≤ (fan.length : Int) := by omega
  unfold placeP placeG
  rw [hn]
  split
  · rfl
  · split
    · rename_i h2
      have e6 : g (scW (vat vs v) 6) = 6 * g (vat vs v) := by rw [hg.sc]; unfold wrap64; omega
      rw [hg.of, co_fold hg 65536000000 (by omega) _ _ ?_ ?_]
      · simp only [hg.z, List.map_cons, List.map_nil, List.sum_cons, List.sum_nil, e6, hends]
        congr 1; omega
      · intro p hp
        simp only [List.mem_cons, List.not_mem_nil, or_false] at hp
        rcases hp with rfl | rfl
        · rw [e6]; omega
        · rw [hends]; omega
      · rw [hg.z]; simp only [List.length_cons, List.length_nil]; omega
    · have k1 : (fan.length : Int) * g (vat vs v) ≤ (fan.length : Int) * 65536 := Int.mul_le_mul_of_nonneg_left bq.2 hnn
      have k2 : (fan.length : Int) * (-65536) ≤ (fan.length : Int) * g (vat vs v) := Int.mul_le_mul_of_nonneg_left bq.1 hnn
      have en : g (vat vs v) * (-2 * (fan.length : Int)) = -2 * ((fan.length : Int) * g (vat vs v)) := by rw [Int.mul_comm, Int.mul_assoc]
      have en2 : 2 * (fan.length : Int) * g (vat vs v) = 2 * ((fan.length : Int) * g (vat vs v)) := Int.mul_assoc ..
      have e2 : g (scW (vat vs v) (-2 * (fan.length : Int))) = -2 * ((fan.length : Int) * g (vat vs v)) := by rw [hg.sc, en]; unfold wrap64; omega
      rw [hg.ad, hg.of, co_fold hg 262144000000 (by omega) _ _ ?_ ?_]
      · simp only [hg.z, List.map_cons, List.map_nil, List.sum_cons, List.sum_nil, e2, hall, en2]
        have ex : (0 : Int) + ((fan.map fun f => g (vat ms f)).sum + ((othE v L).map fun u => g (vat vs u)).sum + (-2 * ((fan.length : Int) * g (vat vs v)) + 0)) = (fan.map fun f => g (vat ms f)).sum + ((othE v L).map fun u => g (vat vs u)).sum - 2 * ((fan.length : Int) * g (vat vs v)) := by omega
        rw [ex]
        generalize hX : (fan.map fun f => g (vat ms f)).sum + ((othE v L).map fun u => g (vat vs u)).sum - 2 * ((fan.length : Int) * g (vat vs v)) = X at *
        have hX1 : -524288000000 ≤ X ∧ X ≤ 524288000000 := by omega
        have hN1 : 1 ≤ (fan.length : Int) * (fan.length : Int) := by
          have := Int.mul_le_mul_of_nonneg_left (show 1 ≤ (fan.length : Int) by omega) hnn
          omega
        have hN2 : (fan.length : Int) * (fan.length : Int) ≤ 1000000000000 := by
          have := Int.mul_le_mul_of_nonneg_left (show (fan.length : Int) ≤ 1000000 by omega) hnn
          omega
        generalize (fan.length : Int) * (fan.length : Int) = N at *
        have hr := rnd_box (x := X) (n := N) (lo := -524288000000) (hi := 524288000000) (by omega) (by omega) (by omega) (by omega) (by omega)
        unfold wrap64; omega
      · intro p hp
        simp only [List.mem_cons, List.not_mem_nil, or_false] at hp
        rcases hp with rfl | rfl
        · rw [hall]; omega
        · rw [e2]; omega
      · rw [hg.z]; simp only [List.length_cons, List.length_nil]; omega
end Go.Proofs.Ytgmifpicilfcdab
