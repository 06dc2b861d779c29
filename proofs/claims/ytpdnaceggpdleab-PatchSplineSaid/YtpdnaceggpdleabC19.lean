/- Package sub: slices.Concat, with its answer's room. Package sub: Level, with its vertices' room. The laws of patch: a cage's finer one. The laws of patch: a box called; cells of a patch in a row. -/
import Derived.Test.YtpdnaceggpdleabC4
import Derived.Test.YtpdnaceggpdleabC11
import Derived.Test.YtpdnaceggpdleabC13
import Derived.Test.YtpdnaceggpdleabC18
namespace Go.Proofs.Ytpdnaceggpdleab
open Go.RowKit
set_option linter.unusedVariables false
set_option linter.unusedSimpArgs false
set_option linter.unnecessarySimpa false
set_option maxRecDepth 100000
theorem own_cap {W : World} {base n sz : Nat} {T : TypeId} {A : Option Addr} {c : Nat} {xs : List Value} (h : W.ownsRow base T sz (.slice A n c) n xs) : n ≤ c := by
  rcases h.2 with ⟨e, rfl⟩ | ⟨g, cap, cur, e, _, _, h1, _⟩
  · omega
  · cases e; exact h1
set_option maxHeartbeats 4000000 in
theorem concatc_any (W : World) (b n c : Nat) (L : List R3) (hb : b < W.heap.size) (hn : L.length = n) (hL : ∀ i (h : i < L.length), W.cell? ⟨b, i, none⟩ = some (.slice L[i].A L[i].ps.length L[i].c) ∧ VL W L[i].A L[i].ps ∧ 0 < L[i].ps.length) (hpos : 0 < (psAll L).length) (hl : (psAll L).length < 1099511627776) (hnl : n < 1048576) :
    Calls Try.prog 39 #[.slice (some ⟨b, 0, none⟩) n c] W fun e W' => ∃ A c, e = .returned (.slice A (psAll L).length c) ∧ (psAll L).length ≤ c ∧ VL W' A (psAll L) ∧ Below W.heap.size W W' := by
  obtain ⟨i0, hi0, hz0, hz1, hz2⟩ := info_parts infoV
  replace hn := Lib.hid hn
  replace hL := Lib.hid hL
  go_enter Try.func39, Try.ntmps39
  go_wp2
  go_loopw [3, 11] (fun sv iv wr => wr = W ∧ ∃ (k m : Nat), iv = .int .i64 (k : Int) ∧ k ≤ n ∧ sv = .int .i64 (m : Int) ∧ m = (psAll (L.take k)).length ∧ m < 1099511627776) (fun _ iv _ => n - (intOf iv).toNat)
  case atStart => exact ⟨rfl, 0, 0, rfl, by omega, rfl, rfl, by omega⟩
  case round =>
    obtain ⟨rfl, k, m, rfl, hk, rfl, hm, hml⟩ := hrel
    by_cases hlt : k < n
    · have hkl : k < L.length := by rw [hn.out]; exact hlt
      have hLk := hL.out k hkl
      have htk := psAll_take L k hkl
      have hle := psAll_le L (k + 1)
      generalize L[k]'hkl = r at hLk htk
      obtain ⟨h1, h2, h3⟩ := hLk
      have hm2 : m + r.ps.length = (psAll (L.take (k + 1))).length := by rw [htk, List.length_append, hm]
      have hml2 : m + r.ps.length < 1099511627776 := by omega
      replace hm2 := Lib.hid hm2
      replace hm := Lib.hid hm
      replace htk := Lib.hid htk
      replace hle := Lib.hid hle
      have q0 : (0 : Int) ≤ (k : Int) := by omega
      have q1 : (k : Int) < (n : Int) := by omega
      have q2 : ¬ (m : Int) + (r.ps.length : Int) < 0 := by omega
      go_wp2
      go_roundw
      case rel => exact ⟨trivial, k + 1, m + r.ps.length, by go_num, by omega, by simp, hm2.out, hml2⟩
      case measure => simp [intOf]; omega
    · obtain rfl : k = n := by omega
      have hm2 : m = (psAll L).length := by rw [hm, List.take_of_length_le (by rw [hn.out]; omega)]
      have cG := grow_any wr m (by omega) hml
      replace hm2 := Lib.hid hm2
      replace hm := Lib.hid hm
      go_upto_region 10 with (first | (go_at_call 59; (with_reducible refine cG.mono ?_); rintro e W2 ⟨A2, c2, rfl, hown2, hb2⟩) | fail)
      go_wp2
      go_loopw [6, 27] (fun lv iv wq => ∃ (j : Nat) (A : Option Addr) (c : Nat) (R : List P3), iv = .int .i64 (j : Int) ∧ j ≤ k ∧ lv = .slice A R.length c ∧ R = psAll (L.take j) ∧ wq.ownsRow wr.heap.size 30 3 (.slice A R.length c) R.length (kC R) ∧ Below wr.heap.size wr wq) (fun _ iv _ => k - (intOf iv).toNat)
      case atStart => exact ⟨0, A2, c2, [], rfl, by omega, rfl, rfl, hown2, hb2⟩
      case round =>
        obtain ⟨j, A, c, R, rfl, hj, rfl, hR, hown, hbq⟩ := hrel
        rename World => wq
        clear hown2 hb2
        by_cases hjl : j < k
        · have hkl : j < L.length := by rw [hn.out]; exact hjl
          have hLk := hL.out j hkl
          have htk := psAll_take L j hkl
          have hle := psAll_le L (j + 1)
          generalize L[j]'hkl = r at hLk htk
          obtain ⟨h1, h2, h3⟩ := hLk
          have hRl : R.length + r.ps.length < 1099511627776 := by
            rw [htk, ← hR, List.length_append] at hle; omega
          rw [← hR] at htk
          replace hR := Lib.hid hR
          replace htk := Lib.hid htk
          replace hle := Lib.hid hle
          obtain ⟨bs, os, ers, hbs, hcs⟩ := (h2.below hbq) h3
          have hcell := (hbq.cell (p := ⟨b, j, none⟩) hb).trans h1
          rw [ers] at hcell
          have hbq9 : b < wq.heap.size := Nat.lt_of_lt_of_le hb hbq.size
          have q0 : (0 : Int) ≤ (j : Int) := by omega
          have q1 : (j : Int) < (k : Int) := by omega
          have hob := own_block hown
          have hcells := VL_cells hcs
          have h1c := kC_one r.ps
          have hklen := kC_len r.ps
          replace hcs := Lib.hid hcs
          replace hklen := Lib.hid hklen
          have hbsz := hbq.size
          go_wp2_with (first | (at_builtin; (refine wpList_append_own _ rfl _ _ 22 rfl wr.heap.size 30 i0 _ 3 24 Try.underlying22 hi0 hz0 hz1 hz2 rfl (by decide) _ _ _ rfl hown ⟨bs, os, none⟩ r.ps.length r.c (kC r.ps) rfl hklen.out hcells h1c (by unfold maxLen; omega) (by omega) hbsz ?_); intro v6 W6 hown6 hg6 hnil; obtain ⟨A6b, c6b, rfl⟩ := own_form hown6) | fail)
          have hB6 := bel_own hbq hg6 (fun k hk => (hob k hk).1)
          have hown7 : W6.ownsRow wr.heap.size 30 3 (.slice A6b (R ++ r.ps).length c6b) (R ++ r.ps).length (kC (R ++ r.ps)) := by
            rw [kC_append, List.length_append]; exact hown6
          go_roundw
          case rel => exact ⟨j + 1, A6b, c6b, R ++ r.ps, by go_num, by omega, by rw [List.length_append], htk.out.symm, hown7, hB6⟩
          case measure => simp [intOf]; omega
        · obtain rfl : j = k := by omega
          have hfin : R = psAll L := by rw [hR, List.take_of_length_le (by rw [hn.out]; omega)]
          subst hfin
          clear hR
          go_wp2
          go_ret
          exact ⟨A, c, rfl, own_cap hown, VL_own hown, hbq⟩
end Go.Proofs.Ytpdnaceggpdleab
namespace Go.Proofs.Ytpdnaceggpdleab
open Go.RowKit
set_option linter.unusedVariables false
set_option linter.unusedSimpArgs false
set_option linter.unnecessarySimpa false
set_option maxRecDepth 100000
def PAc (n : Nat) (ps : List P3) : World → Value → Prop := fun w v => ∃ A c, v = .slice A n c ∧ n ≤ c ∧ VL w A ps
theorem PAc.stays (n : Nat) (ps : List P3) : Stays (PAc n ps) := fun w w' v hB ⟨A, c, e, hc, h⟩ => ⟨A, c, e, hc, h.below hB⟩
def PCc (n : Nat) (ps : List P3) (fs : List (List Int)) (ks : List P3) : World → Value → Prop := fun w v => ∃ R1 e1 R2 e2 R3 e3, v = .agg #[.slice R1 n e1, .slice R2 fs.length e2, .slice R3 ks.length e3] ∧ n ≤ e1 ∧ VL w R1 ps ∧ FL w R2 fs ∧ VL w R3 ks
theorem PCc.stays (n : Nat) (ps : List P3) (fs : List (List Int)) (ks : List P3) : Stays (PCc n ps fs ks) := fun w w' v hB ⟨R1, e1, R2, e2, R3, e3, e, hc, h1, h2, h3⟩ => ⟨R1, e1, R2, e2, R3, e3, e, hc, h1.below hB, h2.below hB, h3.below hB⟩
theorem conc3c {n1 n2 n3 gm c1 c2 : Nat} {p1 p2 p3 : List P3} {gA gB : Option Addr} (w : World) (b : Nat) (hb : b < w.heap.size) (h0 : w.cell? ⟨b, 0, none⟩ = some (.slice gA n1 c1)) (h1 : w.cell? ⟨b, 1, none⟩ = some (.slice gB n2 c2)) (h2 : w.cell? ⟨b, 2, none⟩ = some (.slice (some ⟨gm, 0, none⟩) n3 n3)) (v1 : VL w gA p1) (v2 : VL w gB p2) (v3 : VL w (some ⟨gm, 0, none⟩) p3) (hl : p1.length = n1 ∧ p2.length = n2 ∧ p3.length = n3) (hc : ((n1 = 0 ∧ n2 = 0 ∧ n3 = 0) ∨ (0 < n1 ∧ 0 < n2 ∧ 0 < n3)) ∧ n1 + n2 + n3 < 1099511627776) :
    Calls Try.prog 39 #[.slice (some ⟨b, 0, none⟩) 3 3] w fun e W' => ∃ A c, e = .returned (.slice A (n1 + n2 + n3) c) ∧ n1 + n2 + n3 ≤ c ∧ VL W' A (p1 ++ p2 ++ p3) ∧ Below w.heap.size w W' := by
  obtain ⟨rfl, rfl, rfl⟩ := hl
  obtain ⟨hc, hs⟩ := hc
  have hps : psAll [⟨gA, c1, p1⟩, ⟨gB, c2, p2⟩, ⟨some ⟨gm, 0, none⟩, p3.length, p3⟩] = p1 ++ p2 ++ p3 := by simp [psAll]
  rcases hc with ⟨z1, z2, z3⟩ | ⟨z1, z2, z3⟩
  · refine (concat_nil w b 3 3 [⟨gA, c1, p1⟩, ⟨gB, c2, p2⟩, ⟨some ⟨gm, 0, none⟩, p3.length, p3⟩] hb rfl (fun i hi => ?_) (by omega)).mono ?_
    · rcases (by simp at hi; omega : i = 0 ∨ i = 1 ∨ i = 2) with rfl | rfl | rfl
      · rw [z1] at h0; exact h0
      · rw [z2] at h1; exact h1
      · rw [z3] at h2; simp only [List.getElem_cons_succ, List.getElem_cons_zero]; rw [z3]; exact h2
    · rintro e W' ⟨rfl, rfl⟩
      have e1 := List.eq_nil_of_length_eq_zero z1
      have e2 := List.eq_nil_of_length_eq_zero z2
      have e3 := List.eq_nil_of_length_eq_zero z3
      subst e1 e2 e3
      exact ⟨none, 0, rfl, by simp, VL.nil _ _, Below.refl _ _⟩
  · refine (concatc_any w b 3 3 [⟨gA, c1, p1⟩, ⟨gB, c2, p2⟩, ⟨some ⟨gm, 0, none⟩, p3.length, p3⟩] hb rfl (fun i hi => ?_) (by rw [hps]; simp; omega) (by rw [hps]; simp; omega) (by omega)).mono ?_
    · rcases (by simp at hi; omega : i = 0 ∨ i = 1 ∨ i = 2) with rfl | rfl | rfl
      · exact ⟨h0, v1, z1⟩
      · exact ⟨h1, v2, z2⟩
      · exact ⟨h2, v3, z3⟩
    · rintro e W' ⟨A, c, rfl, hcc, hv, hB⟩
      rw [hps] at hv hcc ⊢
      exact ⟨A, c, by simp [Nat.add_assoc], by simp at hcc; omega, hv, hB⟩
set_option maxHeartbeats 8000000 in
theorem level3_any (W : World) (c : Cg) (A1 A2 A3 : Option Addr) (k1 k2 k3 : Nat) (hc : CgV W c A1 A2 A3) :
    Calls Try.prog 19 #[.agg #[.slice A1 c.vs.length k1, .slice A2 c.fs.length k2, .slice A3 c.ks.length k3]] W fun e W' => ∃ (r : Cg) (R1 R2 R3 : Option Addr) (c1 c2 c3 : Nat) (er : Int), e = .returned (.tuple #[.agg #[.slice R1 r.vs.length c1, .slice R2 r.fs.length c2, .slice R3 r.ks.length c3], .int .i64 er]) ∧ Below W.heap.size W W' ∧ VL W' R1 r.vs ∧ FL W' R2 r.fs ∧ VL W' R3 r.ks ∧ LevR c r er ∧ r.vs.length ≤ c1 := by
  obtain ⟨W0, hW0⟩ : ∃ W0, W0 = (W.alloc (.cells #[.slice A1 c.vs.length k1, .slice A2 c.fs.length k2, .slice A3 c.ks.length k3] 27)).alloc (.cells #[.slice none 0 0, .slice none 0 0, .slice none 0 0] 27) := ⟨_, rfl⟩
  have hB0 : Below W.heap.size W W0 := by rw [hW0]; exact bel_alloc (bel_alloc (Below.refl _ _) _) _
  have hC0 : Blk W0 W.heap.size 27 #[.slice A1 c.vs.length k1, .slice A2 c.fs.length k2, .slice A3 c.ks.length k3] := by rw [hW0]; exact (Blk.new _ _ _ _ rfl).alloc _
  have hR0 : Blk W0 (W.heap.size + 1) 27 #[.slice none 0 0, .slice none 0 0, .slice none 0 0] := by rw [hW0]; exact Blk.new _ _ _ _ (by simp)
  have hcW := hc
  obtain ⟨hi1, hi2, hi3, hV, hF, hK, few⟩ := hc
  obtain ⟨vs, fs, ks⟩ := c
  simp only at hi1 hi2 hi3 hV hF hK few hC0 hW0 ⊢
  have hxl : ∀ x ∈ fs, x.length ≤ tot fs := fun x hx => len_tot hx
  have cB := built_any W0 (vs.length : Int) k2 fs A2 (hF.below hB0) (by unfold i64B; omega) hi2 (by omega)
  go_enter Try.func19, Try.ntmps19
  go_upto_region 1 with (fail)
  simp only [← hW0]
  clear hW0
  have x0 : W0.cell? ⟨W.heap.size, 0, none⟩ = some (.slice A1 vs.length k1) := hC0.cell 0
  have x1 : W0.cell? ⟨W.heap.size, 1, none⟩ = some (.slice A2 fs.length k2) := hC0.cell 1
  have xl := hC0.lt
  go_upto_region 2 with (first | (go_at_call 22; (with_reducible refine cB.mono ?_); rintro e W1 ⟨B1, B2, B3, t, d1, d2, d3, ee, rfl, hP⟩) | fail)
  have hT2 : Blk (W1.alloc (.cells #[.slice B1 t.es.length d1, .slice B2 t.fans.length d2, .slice B3 t.rs.length d3] 56)) W1.heap.size 56 #[.slice B1 t.es.length d1, .slice B2 t.fans.length d2, .slice B3 t.rs.length d3] := Blk.new _ _ _ _ rfl
  have hb2 := bel_alloc hP.bel (.cells #[.slice B1 t.es.length d1, .slice B2 t.fans.length d2, .slice B3 t.rs.length d3] 56)
  have hV2 := TopoV.below hP.isV (bel_alloc (Below.refl _ _) (.cells #[.slice B1 t.es.length d1, .slice B2 t.fans.length d2, .slice B3 t.rs.length d3] 56))
  have hgood := Lib.hid hP.good
  have hsz1 := hP.bel.size
  clear hP cB
  generalize W1.alloc (.cells #[.slice B1 t.es.length d1, .slice B2 t.fans.length d2, .slice B3 t.rs.length d3] 56) = W2 at *
  obtain ⟨T, hT⟩ : ∃ T, W1.heap.size = T := ⟨_, rfl⟩
  simp only [hT] at *
  clear hT x0 x1 xl
  have hC2 := hC0.below hb2
  have hR2 := hR0.below hb2
  have hB2 := bel_trans hB0 hb2
  have hR0l := hR0.lt
  clear hC0 hR0 hB0 hb2
  rcases hgood.out with ⟨rfl, hsf, hTS⟩ | ⟨rfl, hns, rfl, rfl, rfl, rfl, rfl, rfl, rfl⟩
  rotate_left
  · replace hns := Lib.hid hns
    clear hgood
    have f0 := hR2.frozen 0
    have f1 := hR2.frozen 1
    have f2 := hR2.frozen 2
    have r0 : W2.cell? ⟨W.heap.size + 1, 0, none⟩ = some (.slice none 0 0) := hR2.cell 0
    have r1 : W2.cell? ⟨W.heap.size + 1, 1, none⟩ = some (.slice none 0 0) := hR2.cell 1
    have r2 : W2.cell? ⟨W.heap.size + 1, 2, none⟩ = some (.slice none 0 0) := hR2.cell 2
    have rl := hR2.lt
    have hE := ((hR2.set 0 (.slice none 0 0)).set 1 (.slice none 0 0)).set 2 (.slice none 0 0)
    have hbE := bel_set (bel_set (bel_set hB2 (p := ⟨W.heap.size + 1, 0, none⟩) (by simp) (.slice none 0 0)) (p := ⟨W.heap.size + 1, 1, none⟩) (by simp) (.slice none 0 0)) (p := ⟨W.heap.size + 1, 2, none⟩) (by simp) (.slice none 0 0)
    go_wp2
    generalize ((W2.setCell ⟨W.heap.size + 1, 0, none⟩ (.slice none 0 0)).setCell ⟨W.heap.size + 1, 1, none⟩ (.slice none 0 0)).setCell ⟨W.heap.size + 1, 2, none⟩ (.slice none 0 0) = WE at *
    have y0 : WE.cell? ⟨W.heap.size + 1, 0, none⟩ = some (.slice none 0 0) := hE.cell 0
    have y1 : WE.cell? ⟨W.heap.size + 1, 1, none⟩ = some (.slice none 0 0) := hE.cell 1
    have y2 : WE.cell? ⟨W.heap.size + 1, 2, none⟩ = some (.slice none 0 0) := hE.cell 2
    refine bodyPost_ret (v := .tuple #[.agg #[.slice none 0 0, .slice none 0 0, .slice none 0 0], .int .i64 14]) (by simp [results, Try.results19, go_sem, y0, y1, y2]) rfl ?_
    exact ⟨Cg0, none, none, none, 0, 0, 0, 14, rfl, hbE, VL.nil _ _, fun h => by simp [Cg0] at h, VL.nil _ _, LevR.noSurf hns.out, Nat.le_refl _⟩
  clear hgood hsf
  obtain ⟨es, fans, rs⟩ := t
  simp only at *
  have hel : es.length ≤ tot fs := by have h1 := edges_le hTS.walk hTS.edges; rw [waysL_len] at h1; exact h1
  have hnf : fans.length = vs.length := by have := hTS.nf; simp only at this; omega
  have hTS0 := Lib.hid hTS
  clear hTS
  have cS := sharp_any W2 A1 A2 A3 B1 B2 B3 vs.length fs.length fans.length rs.length k1 k2 k3 d1 d2 d3 es ks hV2.es hTS0.out.edges.sorted (hK.below hB2) (by omega) (by omega)
  replace hnf := Lib.hid hnf
  have x0 : W2.cell? ⟨W.heap.size, 0, none⟩ = some (.slice A1 vs.length k1) := hC2.cell 0
  have x1 : W2.cell? ⟨W.heap.size, 1, none⟩ = some (.slice A2 fs.length k2) := hC2.cell 1
  have x2 : W2.cell? ⟨W.heap.size, 2, none⟩ = some (.slice A3 ks.length k3) := hC2.cell 2
  have xl := hC2.lt
  have t0 : W2.cell? ⟨T, 0, none⟩ = some (.slice B1 es.length d1) := hT2.cell 0
  have t1 : W2.cell? ⟨T, 1, none⟩ = some (.slice B2 fans.length d2) := hT2.cell 1
  have t2 : W2.cell? ⟨T, 2, none⟩ = some (.slice B3 rs.length d3) := hT2.cell 2
  have tl := hT2.lt
  go_upto_region 5 with (first | (go_at_call 23; (with_reducible refine cS.mono ?_); rintro e W3 ⟨hb3, hcase⟩; obtain ⟨sv, ev, rfl⟩ : ∃ sv ev, e = .returned (.tuple #[sv, .int .i64 ev]) := (by rcases hcase with ⟨_, h⟩ | ⟨sh, g, _, _, _, h⟩; exact ⟨_, _, h⟩; exact ⟨_, _, h⟩)) | fail)
  have hC3 := hC2.below hb3
  have hR3 := hR2.below hb3
  have hT3 := hT2.below hb3
  have hB3 := bel_trans hB2 hb3
  have hV3 := TopoV.below hV2 hb3
  have hsz3 := hb3.size
  clear hC2 hR2 hT2 hB2 hV2 cS x0 x1 x2 xl t0 t1 t2 tl hb3
  rcases hcase with ⟨hno, he⟩ | ⟨sh, g, hsh, hgg, hGs, he⟩
  all_goals (simp only [Ending.returned.injEq, Value.tuple.injEq, Array.mk.injEq, List.cons.injEq, Value.int.injEq, and_true, true_and] at he)
  all_goals (obtain ⟨rfl, rfl⟩ := he)
  · replace hno := Lib.hid hno
    have f0 := hR3.frozen 0
    have f1 := hR3.frozen 1
    have f2 := hR3.frozen 2
    have r0 : W3.cell? ⟨W.heap.size + 1, 0, none⟩ = some (.slice none 0 0) := hR3.cell 0
    have r1 : W3.cell? ⟨W.heap.size + 1, 1, none⟩ = some (.slice none 0 0) := hR3.cell 1
    have r2 : W3.cell? ⟨W.heap.size + 1, 2, none⟩ = some (.slice none 0 0) := hR3.cell 2
    have rl := hR3.lt
    have hE := ((hR3.set 0 (.slice none 0 0)).set 1 (.slice none 0 0)).set 2 (.slice none 0 0)
    have hbE := bel_set (bel_set (bel_set hB3 (p := ⟨W.heap.size + 1, 0, none⟩) (by simp) (.slice none 0 0)) (p := ⟨W.heap.size + 1, 1, none⟩) (by simp) (.slice none 0 0)) (p := ⟨W.heap.size + 1, 2, none⟩) (by simp) (.slice none 0 0)
    go_wp2
    generalize ((W3.setCell ⟨W.heap.size + 1, 0, none⟩ (.slice none 0 0)).setCell ⟨W.heap.size + 1, 1, none⟩ (.slice none 0 0)).setCell ⟨W.heap.size + 1, 2, none⟩ (.slice none 0 0) = WE at *
    have y0 : WE.cell? ⟨W.heap.size + 1, 0, none⟩ = some (.slice none 0 0) := hE.cell 0
    have y1 : WE.cell? ⟨W.heap.size + 1, 1, none⟩ = some (.slice none 0 0) := hE.cell 1
    have y2 : WE.cell? ⟨W.heap.size + 1, 2, none⟩ = some (.slice none 0 0) := hE.cell 2
    refine bodyPost_ret (v := .tuple #[.agg #[.slice none 0 0, .slice none 0 0, .slice none 0 0], .int .i64 14]) (by simp [results, Try.results19, go_sem, y0, y1, y2]) rfl ?_
    exact ⟨Cg0, none, none, none, 0, 0, 0, 14, rfl, hbE, VL.nil _ _, fun h => by simp [Cg0] at h, VL.nil _ _, LevR.noEdge _ hTS0.out hno.out, Nat.le_refl _⟩
  replace hsh := Lib.hid hsh
  have cF := far_any W3 A1 k1 vs (hV.below hB3) (by omega)
  have x0 : W3.cell? ⟨W.heap.size, 0, none⟩ = some (.slice A1 vs.length k1) := hC3.cell 0
  have xl := hC3.lt
  cases hfar : vs.any farB with
  | true =>
    rw [hfar] at cF
    replace hfar := Lib.hid hfar
    go_upto_region 8 with (first | (go_at_call 24; (with_reducible refine cF.mono ?_); rintro e W4 ⟨hb4, rfl⟩) | fail)
    have hR4 := hR3.below hb4
    have hB4 := bel_trans hB3 hb4
    clear hC3 hR3 hT3 hB3 hV3 cF x0 xl hb4 hGs
    have hbad : ¬ ∀ p ∈ vs, InP 65536 p := fun h => by
      obtain ⟨p, hp, h1⟩ := List.any_eq_true.1 hfar.out
      rw [(far_iff p).2 (h p hp)] at h1; cases h1
    replace hbad := Lib.hid hbad
    have f0 := hR4.frozen 0
    have f1 := hR4.frozen 1
    have f2 := hR4.frozen 2
    have r0 : W4.cell? ⟨W.heap.size + 1, 0, none⟩ = some (.slice none 0 0) := hR4.cell 0
    have r1 : W4.cell? ⟨W.heap.size + 1, 1, none⟩ = some (.slice none 0 0) := hR4.cell 1
    have r2 : W4.cell? ⟨W.heap.size + 1, 2, none⟩ = some (.slice none 0 0) := hR4.cell 2
    have rl := hR4.lt
    have hE := ((hR4.set 0 (.slice none 0 0)).set 1 (.slice none 0 0)).set 2 (.slice none 0 0)
    have hbE := bel_set (bel_set (bel_set hB4 (p := ⟨W.heap.size + 1, 0, none⟩) (by simp) (.slice none 0 0)) (p := ⟨W.heap.size + 1, 1, none⟩) (by simp) (.slice none 0 0)) (p := ⟨W.heap.size + 1, 2, none⟩) (by simp) (.slice none 0 0)
    go_wp2
    generalize ((W4.setCell ⟨W.heap.size + 1, 0, none⟩ (.slice none 0 0)).setCell ⟨W.heap.size + 1, 1, none⟩ (.slice none 0 0)).setCell ⟨W.heap.size + 1, 2, none⟩ (.slice none 0 0) = WE at *
    have y0 : WE.cell? ⟨W.heap.size + 1, 0, none⟩ = some (.slice none 0 0) := hE.cell 0
    have y1 : WE.cell? ⟨W.heap.size + 1, 1, none⟩ = some (.slice none 0 0) := hE.cell 1
    have y2 : WE.cell? ⟨W.heap.size + 1, 2, none⟩ = some (.slice none 0 0) := hE.cell 2
    refine bodyPost_ret (v := .tuple #[.agg #[.slice none 0 0, .slice none 0 0, .slice none 0 0], .int .i64 21]) (by simp [results, Try.results19, go_sem, y0, y1, y2]) rfl ?_
    exact ⟨Cg0, none, none, none, 0, 0, 0, 21, rfl, hbE, VL.nil _ _, fun h => by simp [Cg0] at h, VL.nil _ _, LevR.large _ hTS0.out sh hsh.out hbad.out, Nat.le_refl _⟩
  | false =>
    rw [hfar] at cF
    replace hfar := Lib.hid hfar
    go_upto_region 9 with (first | (go_at_call 24; (with_reducible refine cF.mono ?_); rintro e W4 ⟨hb4, rfl⟩) | fail)
    have hall : ∀ p ∈ vs, InP 65536 p := fun p hp => (far_iff p).1 (by
      cases h : farB p with
      | false => rfl
      | true => have := List.any_eq_false.1 hfar.out p hp; rw [h] at this; simp at this)
    replace hall := Lib.hid hall
    have hC4 := hC3.below hb4
    have hR4 := hR3.below hb4
    have hT4 := hT3.below hb4
    have hB4 := bel_trans hB3 hb4
    have hV4 := TopoV.below hV3 hb4
    have hGs4 := hGs.below hb4
    have hsz4 := hb4.size
    clear hC3 hR3 hT3 hB3 hV3 cF x0 xl hb4 hGs
    have xl := hC4.lt
    have tl := hT4.lt
    have rl4 := hR4.lt
    have cM := fun (w : World) (hB : Below W4.heap.size W4 w) => (middles_any w A1 A2 A3 k1 k2 ks.length k3 vs fs (hV.below (bel_trans hB4 hB)) (hF.below (bel_trans hB4 hB)) (fun x hx y hy => hTS0.out.walk.corner_rng hx hy) (by omega) (fun x hx => by have := hxl x hx; omega)).mono (fun e W' ⟨g, h1, h2, h3, h4⟩ => (⟨g, h1, h2, VL_of h3, h4⟩ : ∃ g, e = Ending.returned (Value.slice (some ⟨g, 0, none⟩) fs.length fs.length) ∧ w.heap.size ≤ g ∧ VL W' (some ⟨g, 0, none⟩) (midsL vs fs) ∧ Below w.heap.size w W'))
    refine wp_region_monoT 7 (RL [PE (.agg #[.slice A1 vs.length k1, .slice A2 fs.length k2, .slice A3 ks.length k3]), PE (.agg #[.slice B1 es.length d1, .slice B2 fans.length d2, .slice B3 rs.length d3]), PE (.slice (some ⟨g, 0, none⟩) es.length es.length), PE (.agg #[.slice A1 vs.length k1, .slice A2 fs.length k2, .slice A3 ks.length k3]), PV W4.heap.size fs.length (midsL vs fs), PK (fun gm => #[.slice A1 vs.length k1, .slice A2 fs.length k2, .slice A3 ks.length k3, .slice B1 es.length d1, .slice B2 fans.length d2, .slice B3 rs.length d3, .slice (some ⟨g, 0, none⟩) es.length es.length, .slice (some ⟨gm, 0, none⟩) fs.length fs.length]) (midsL vs fs), PB W4.heap.size 91 #[.slice none 0 0, .slice none 0 0, .slice none 0 0, .slice none 0 0, .slice none 0 0, .slice none 0 0, .slice none 0 0, .slice none 0 0]]) (by kernel_rfl) _ rfl (by kernel_rfl) (by kernel_rfl) (by kernel_rfl) (by kernel_rfl) (by kernel_rfl) (RL.stays ?_) ?_ ?_
    · intro p hp
      simp only [List.mem_cons, List.not_mem_nil, or_false] at hp
      rcases hp with rfl | rfl | rfl | rfl | rfl | rfl | rfl <;> first | exact PE.stays _ | exact PV.stays _ _ _ | exact PK.stays _ _ | exact PB.stays _ _ _
    · simp only [List.take_succ_cons, List.take_zero]
      refine ⟨?_, ?_, ?_, ?_, ?_, ?_, ?_, ?_⟩
      · refine mono_val rfl (fun a w hB hk hp => ?_)
        have es1 := (hk 1 (keep_of (by kernel_rfl))).trans (show _ = some (.pointer (some ⟨W.heap.size, 0, none⟩)) from rfl)
        exact ⟨.agg #[.slice A1 vs.length k1, .slice A2 fs.length k2, .slice A3 ks.length k3], w, ldmS_run _ _ _ 27 _ rfl (W.heap.size) 0 (eval_tmp es1) [.slice A1 vs.length k1, .slice A2 fs.length k2, .slice A3 ks.length k3] _ (rng_all ((hC4).below hB)) Try.underlying27 rfl (by kernel_rfl), Below.refl _ _, fun _ _ => rfl⟩
      · refine mono_val rfl (fun a w hB hk hp => ?_)
        have es4 := (hk 4 (keep_of (by kernel_rfl))).trans (show _ = some (.pointer (some ⟨T, 0, none⟩)) from rfl)
        exact ⟨.agg #[.slice B1 es.length d1, .slice B2 fans.length d2, .slice B3 rs.length d3], w, ldmS_run _ _ _ 56 _ rfl (T) 0 (eval_tmp es4) [.slice B1 es.length d1, .slice B2 fans.length d2, .slice B3 rs.length d3] _ (rng_all ((hT4).below hB)) Try.underlying56 rfl (by kernel_rfl), Below.refl _ _, fun _ _ => rfl⟩
      · refine mono_val rfl (fun a w hB hk hp => ?_)
        have es6 := (hk 6 (keep_of (by kernel_rfl))).trans (show _ = some (.slice (some ⟨g, 0, none⟩) es.length es.length) from rfl)
        exact ⟨.slice (some ⟨g, 0, none⟩) es.length es.length, w, by simp [execOp, go_sem, es6], Below.refl _ _, fun _ _ => rfl⟩
      · refine mono_val rfl (fun a w hB hk hp => ?_)
        have es1 := (hk 1 (keep_of (by kernel_rfl))).trans (show _ = some (.pointer (some ⟨W.heap.size, 0, none⟩)) from rfl)
        exact ⟨.agg #[.slice A1 vs.length k1, .slice A2 fs.length k2, .slice A3 ks.length k3], w, ldmS_run _ _ _ 27 _ rfl (W.heap.size) 0 (eval_tmp es1) [.slice A1 vs.length k1, .slice A2 fs.length k2, .slice A3 ks.length k3] _ (rng_all ((hC4).below hB)) Try.underlying27 rfl (by kernel_rfl), Below.refl _ _, fun _ _ => rfl⟩
      · refine mono_call rfl (fun a w hB hk hp => ?_)
        obtain ⟨x3, ex3, rx3⟩ := hp ⟨3, .data⟩ (by simp) rfl _ _ rfl rfl
        obtain rfl : x3 = _ := rx3
        exact ⟨38, #[.agg #[.slice A1 vs.length k1, .slice A2 fs.length k2, .slice A3 ks.length k3]], by simp [execOp, go_sem, ex3], (cM w hB).mono fun e w' ⟨g, h1, h2, h3, h4⟩ => ⟨_, h1, h4, fun _ _ => ⟨g, rfl, Nat.le_trans hB.size h2, h3⟩⟩⟩
      · refine mono_val rfl (fun a w hB hk hp => ?_)
        obtain ⟨x0, ex0, rx0⟩ := hp ⟨0, .data⟩ (by simp) rfl _ _ rfl rfl
        obtain rfl : x0 = _ := rx0
        obtain ⟨x1, ex1, rx1⟩ := hp ⟨1, .data⟩ (by simp) rfl _ _ rfl rfl
        obtain rfl : x1 = _ := rx1
        obtain ⟨x2, ex2, rx2⟩ := hp ⟨2, .data⟩ (by simp) rfl _ _ rfl rfl
        obtain rfl : x2 = _ := rx2
        obtain ⟨x4, ex4, rx4⟩ := hp ⟨4, .data⟩ (by simp) rfl _ _ rfl rfl
        obtain ⟨gm, rfl, hgm, hvm⟩ : PV W4.heap.size fs.length (midsL vs fs) w x4 := rx4
        exact ⟨.agg #[.slice A1 vs.length k1, .slice A2 fs.length k2, .slice A3 ks.length k3, .slice B1 es.length d1, .slice B2 fans.length d2, .slice B3 rs.length d3, .slice (some ⟨g, 0, none⟩) es.length es.length, .slice (some ⟨gm, 0, none⟩) fs.length fs.length], w, by simp [execOp, go_sem, ex0, ex1, ex2, ex4], Below.refl _ _, fun _ _ => ⟨gm, rfl, hvm⟩⟩
      · refine mono_val rfl (fun a w hB hk hp => ?_)
        exact ⟨.pointer (some ⟨w.heap.size, 0, none⟩), w.alloc (.cells #[.slice none 0 0, .slice none 0 0, .slice none 0 0, .slice none 0 0, .slice none 0 0, .slice none 0 0, .slice none 0 0, .slice none 0 0] 91), alloc_Co _ _ rfl w, bel_alloc (Below.refl _ _) _, fun _ _ => ⟨w.heap.size, rfl, hB.size, Blk.new _ _ _ _ rfl⟩⟩
      · trivial
    · intro a w5 hB hsz hdf hk hgot
      obtain ⟨v5, ev5, rv5⟩ := hgot 5 _ 40 rfl rfl
      obtain ⟨gm, rfl, hvm⟩ : PK (fun gm => #[.slice A1 vs.length k1, .slice A2 fs.length k2, .slice A3 ks.length k3, .slice B1 es.length d1, .slice B2 fans.length d2, .slice B3 rs.length d3, .slice (some ⟨g, 0, none⟩) es.length es.length, .slice (some ⟨gm, 0, none⟩) fs.length fs.length]) (midsL vs fs) w5 v5 := rv5
      obtain ⟨v6, ev6, rv6⟩ := hgot 6 _ 7 rfl rfl
      obtain ⟨P, rfl, hgp, hbp⟩ : PB W4.heap.size 91 #[.slice none 0 0, .slice none 0 0, .slice none 0 0, .slice none 0 0, .slice none 0 0, .slice none 0 0, .slice none 0 0, .slice none 0 0] w5 v6 := rv6
      obtain ⟨f, hf, rfl⟩ := frame_eq hsz hdf hk [35, 36, 37, 38, 39, 40, 7] (by rfl)
      have f40 := hf 40 _ ev5
      have f7 := hf 7 _ ev6
      clear hsz hdf hk hgot hf ev5 ev6
      simp only [List.drop_succ_cons, List.drop_zero, setAll, List.setIfInBounds_toArray, List.set_cons_succ, List.set_cons_zero, f40, f7]
      clear f40 f7
      generalize f 35 = uu35; generalize f 36 = uu36; generalize f 37 = uu37; generalize f 38 = uu38; generalize f 39 = uu39
      have hPl := hbp.lt
      have p0 : w5.cell? ⟨P, 0, none⟩ = some (.slice none 0 0) := hbp.cell 0
      have q0 := hbp.frozen 0
      have p1 : w5.cell? ⟨P, 1, none⟩ = some (.slice none 0 0) := hbp.cell 1
      have q1 := hbp.frozen 1
      have p2 : w5.cell? ⟨P, 2, none⟩ = some (.slice none 0 0) := hbp.cell 2
      have q2 := hbp.frozen 2
      have p3 : w5.cell? ⟨P, 3, none⟩ = some (.slice none 0 0) := hbp.cell 3
      have q3 := hbp.frozen 3
      have p4 : w5.cell? ⟨P, 4, none⟩ = some (.slice none 0 0) := hbp.cell 4
      have q4 := hbp.frozen 4
      have p5 : w5.cell? ⟨P, 5, none⟩ = some (.slice none 0 0) := hbp.cell 5
      have q5 := hbp.frozen 5
      have p6 : w5.cell? ⟨P, 6, none⟩ = some (.slice none 0 0) := hbp.cell 6
      have q6 := hbp.frozen 6
      have p7 : w5.cell? ⟨P, 7, none⟩ = some (.slice none 0 0) := hbp.cell 7
      have q7 := hbp.frozen 7
      have hP6 := ((((((((hbp.set 0 (.slice A1 vs.length k1)).set 1 (.slice A2 fs.length k2)).set 2 (.slice A3 ks.length k3)).set 3 (.slice B1 es.length d1)).set 4 (.slice B2 fans.length d2)).set 5 (.slice B3 rs.length d3)).set 6 (.slice (some ⟨g, 0, none⟩) es.length es.length)).set 7 (.slice (some ⟨gm, 0, none⟩) fs.length fs.length))
      have hg6 := ((((((((set_grown w5 P 0 (.slice A1 vs.length k1)).trans (set_grown (w5.setCell ⟨P, 0, none⟩ (.slice A1 vs.length k1)) P 1 (.slice A2 fs.length k2))).trans (set_grown ((w5.setCell ⟨P, 0, none⟩ (.slice A1 vs.length k1)).setCell ⟨P, 1, none⟩ (.slice A2 fs.length k2)) P 2 (.slice A3 ks.length k3))).trans (set_grown (((w5.setCell ⟨P, 0, none⟩ (.slice A1 vs.length k1)).setCell ⟨P, 1, none⟩ (.slice A2 fs.length k2)).setCell ⟨P, 2, none⟩ (.slice A3 ks.length k3)) P 3 (.slice B1 es.length d1))).trans (set_grown ((((w5.setCell ⟨P, 0, none⟩ (.slice A1 vs.length k1)).setCell ⟨P, 1, none⟩ (.slice A2 fs.length k2)).setCell ⟨P, 2, none⟩ (.slice A3 ks.length k3)).setCell ⟨P, 3, none⟩ (.slice B1 es.length d1)) P 4 (.slice B2 fans.length d2))).trans (set_grown (((((w5.setCell ⟨P, 0, none⟩ (.slice A1 vs.length k1)).setCell ⟨P, 1, none⟩ (.slice A2 fs.length k2)).setCell ⟨P, 2, none⟩ (.slice A3 ks.length k3)).setCell ⟨P, 3, none⟩ (.slice B1 es.length d1)).setCell ⟨P, 4, none⟩ (.slice B2 fans.length d2)) P 5 (.slice B3 rs.length d3))).trans (set_grown ((((((w5.setCell ⟨P, 0, none⟩ (.slice A1 vs.length k1)).setCell ⟨P, 1, none⟩ (.slice A2 fs.length k2)).setCell ⟨P, 2, none⟩ (.slice A3 ks.length k3)).setCell ⟨P, 3, none⟩ (.slice B1 es.length d1)).setCell ⟨P, 4, none⟩ (.slice B2 fans.length d2)).setCell ⟨P, 5, none⟩ (.slice B3 rs.length d3)) P 6 (.slice (some ⟨g, 0, none⟩) es.length es.length))).trans (set_grown (((((((w5.setCell ⟨P, 0, none⟩ (.slice A1 vs.length k1)).setCell ⟨P, 1, none⟩ (.slice A2 fs.length k2)).setCell ⟨P, 2, none⟩ (.slice A3 ks.length k3)).setCell ⟨P, 3, none⟩ (.slice B1 es.length d1)).setCell ⟨P, 4, none⟩ (.slice B2 fans.length d2)).setCell ⟨P, 5, none⟩ (.slice B3 rs.length d3)).setCell ⟨P, 6, none⟩ (.slice (some ⟨g, 0, none⟩) es.length es.length)) P 7 (.slice (some ⟨gm, 0, none⟩) fs.length fs.length)))
      have hP6 : Blk ((((((((w5.setCell ⟨P, 0, none⟩ (.slice A1 vs.length k1)).setCell ⟨P, 1, none⟩ (.slice A2 fs.length k2)).setCell ⟨P, 2, none⟩ (.slice A3 ks.length k3)).setCell ⟨P, 3, none⟩ (.slice B1 es.length d1)).setCell ⟨P, 4, none⟩ (.slice B2 fans.length d2)).setCell ⟨P, 5, none⟩ (.slice B3 rs.length d3)).setCell ⟨P, 6, none⟩ (.slice (some ⟨g, 0, none⟩) es.length es.length)).setCell ⟨P, 7, none⟩ (.slice (some ⟨gm, 0, none⟩) fs.length fs.length)) P 91 #[.slice A1 vs.length k1, .slice A2 fs.length k2, .slice A3 ks.length k3, .slice B1 es.length d1, .slice B2 fans.length d2, .slice B3 rs.length d3, .slice (some ⟨g, 0, none⟩) es.length es.length, .slice (some ⟨gm, 0, none⟩) fs.length fs.length] := hP6
      clear hC4 hT4 cM xl tl
      go_upto_region 10 with (fail)
      generalize ((((((((w5.setCell ⟨P, 0, none⟩ (.slice A1 vs.length k1)).setCell ⟨P, 1, none⟩ (.slice A2 fs.length k2)).setCell ⟨P, 2, none⟩ (.slice A3 ks.length k3)).setCell ⟨P, 3, none⟩ (.slice B1 es.length d1)).setCell ⟨P, 4, none⟩ (.slice B2 fans.length d2)).setCell ⟨P, 5, none⟩ (.slice B3 rs.length d3)).setCell ⟨P, 6, none⟩ (.slice (some ⟨g, 0, none⟩) es.length es.length)).setCell ⟨P, 7, none⟩ (.slice (some ⟨gm, 0, none⟩) fs.length fs.length)) = W6 at *
      have hB46 := bel_turn hB hg6 hgp
      have hB6 := bel_trans hB4 hB46
      have hR6 := hR4.below hB46
      have hV6 := TopoV.below hV4 hB46
      have hGs6 := hGs4.below hB46
      have hM6 : VL W6 (some ⟨gm, 0, none⟩) (midsL vs fs) := hvm.kept_slices hg6 hbp (fun i v h => by
        have hi : i < 8 := by have := (Array.getElem?_eq_some_iff.1 h).1; simpa using this
        rcases (by omega : i = 0 ∨ i = 1 ∨ i = 2 ∨ i = 3 ∨ i = 4 ∨ i = 5 ∨ i = 6 ∨ i = 7) with rfl | rfl | rfl | rfl | rfl | rfl | rfl | rfl <;> (simp at h; exact ⟨_, _, _, h.symm⟩))
      clear hR4 hB4 hV4 hGs4 hB hbp hvm hg6 hB46 p0 p1 p2 p3 p4 p5 p6 p7 q0 q1 q2 q3 q4 q5 q6 q7 hPl
      have hTS := hTS0.out
      have hsl := sharpP_len hsh.out
      have hnf2 := hnf.out
      have hab : ∀ e ∈ es, (0 ≤ e.a ∧ e.a < vs.length) ∧ (0 ≤ e.b ∧ e.b < vs.length) ∧ e.a ≠ e.b := fun e he => by
        obtain ⟨h1, h2, h3, _⟩ := edge_rng hTS he; exact ⟨h1, h2, h3⟩
      have hfan : ∀ x ∈ fans, (∀ y ∈ x, 0 ≤ y ∧ y < fs.length) ∧ x.length ≤ tot fs := fun x hx => fan_rng hTS hx
      have hsoft := soft_rng hTS hsh.out
      have hsort := hTS.edges.sorted
      have hS6 : IL W6 (some ⟨g, 0, none⟩) sh := IL_of hGs6
      have hml := midsL_len vs fs
      have cMo : ∀ w : World, Below W6.heap.size W6 w → Calls Try.prog 40 #[.agg #[.slice A1 vs.length k1, .slice A2 fs.length k2, .slice A3 ks.length k3, .slice B1 es.length d1, .slice B2 fans.length d2, .slice B3 rs.length d3, .slice (some ⟨g, 0, none⟩) es.length es.length, .slice (some ⟨gm, 0, none⟩) fs.length fs.length]] w fun e W' => ∃ A c, e = Ending.returned (Value.slice A vs.length c) ∧ VL W' A (movedL vs (midsL vs fs) fans (es.zip sh)) ∧ Below w.heap.size w W' := fun w hB => by
        have h := moved_any w A1 A2 A3 B1 B2 B3 (some ⟨g, 0, none⟩) (some ⟨gm, 0, none⟩) fs.length ks.length rs.length k1 k2 k3 d1 d2 d3 es.length fs.length vs (midsL vs fs) es sh fans (hV.below (bel_trans hB6 hB)) (hV6.es.below hB) (hS6.below hB) (hM6.below hB) (hV6.fans.below hB) hsl hnf2 hab (fun x hx => by rw [hml]; exact (hfan x hx).1) (fun x hx => by have := (hfan x hx).2; omega) (by omega) (by omega)
        rw [hsl, hml] at h
        exact h.mono fun e W' ⟨g2, h1, h2, h3, h4⟩ => ⟨_, _, h1, VL_of h3, h4⟩
      have cHa : ∀ w : World, Below W6.heap.size W6 w → Calls Try.prog 41 #[.agg #[.slice A1 vs.length k1, .slice A2 fs.length k2, .slice A3 ks.length k3, .slice B1 es.length d1, .slice B2 fans.length d2, .slice B3 rs.length d3, .slice (some ⟨g, 0, none⟩) es.length es.length, .slice (some ⟨gm, 0, none⟩) fs.length fs.length]] w fun e W' => ∃ A c, e = Ending.returned (Value.slice A es.length c) ∧ VL W' A (halvesL vs (midsL vs fs) es sh) ∧ Below w.heap.size w W' := fun w hB => by
        have h := halves_any w A1 A2 A3 B1 B2 B3 (some ⟨g, 0, none⟩) (some ⟨gm, 0, none⟩) fs.length ks.length fans.length rs.length k1 k2 k3 d1 d2 d3 es.length fs.length vs (midsL vs fs) es sh (hV.below (bel_trans hB6 hB)) (hV6.es.below hB) (hS6.below hB) (hM6.below hB) hsl (fun e he => ⟨(hab e he).1, (hab e he).2.1⟩) (fun i h1 h2 h0 => by rw [hml]; exact hsoft i h1 h2 h0) (by omega)
        rw [hsl, hml] at h
        exact h.mono fun e W' ⟨g2, h1, h2, h3, h4⟩ => ⟨_, _, h1, VL_of h3, h4⟩
      have cQu : ∀ w : World, Below W6.heap.size W6 w → Calls Try.prog 42 #[.agg #[.slice A1 vs.length k1, .slice A2 fs.length k2, .slice A3 ks.length k3, .slice B1 es.length d1, .slice B2 fans.length d2, .slice B3 rs.length d3, .slice (some ⟨g, 0, none⟩) es.length es.length, .slice (some ⟨gm, 0, none⟩) fs.length fs.length]] w fun e W' => ∃ A c, e = Ending.returned (Value.slice A (fine (vs.length : Int) es fs).length c) ∧ FL W' A (fine (vs.length : Int) es fs) ∧ Below w.heap.size w W' := fun w hB =>
        quarters_any w A1 A2 A3 B1 B2 B3 (some ⟨g, 0, none⟩) (some ⟨gm, 0, none⟩) vs.length ks.length fans.length rs.length es.length fs.length k1 k2 k3 d1 d2 d3 es.length fs.length es fs (hF.below (bel_trans hB6 hB)) (hV6.es.below hB) hsort (by omega) (by omega) (by omega) hTS.walk.long (fun x hx => by have := hxl x hx; omega) (by rw [cornL_len, waysL_len]; omega) (corn_eix hTS)
      have cRe : ∀ w : World, Below W6.heap.size W6 w → Calls Try.prog 43 #[.agg #[.slice A1 vs.length k1, .slice A2 fs.length k2, .slice A3 ks.length k3, .slice B1 es.length d1, .slice B2 fans.length d2, .slice B3 rs.length d3, .slice (some ⟨g, 0, none⟩) es.length es.length, .slice (some ⟨gm, 0, none⟩) fs.length fs.length]] w fun e W' => ∃ A c, e = Ending.returned (Value.slice A (restP (vs.length : Int) 0 (es.zip sh)).length c) ∧ VL W' A (restP (vs.length : Int) 0 (es.zip sh)) ∧ Below w.heap.size w W' := fun w hB => by
        have h := rest_any w A1 A2 A3 B1 B2 B3 (some ⟨g, 0, none⟩) (some ⟨gm, 0, none⟩) vs.length fs.length ks.length fans.length rs.length fs.length k1 k2 k3 d1 d2 d3 es.length fs.length es sh (hV6.es.below hB) (hS6.below hB) hsl (by omega) (by omega) (sharpP_i64 hi3 hsh.out)
        rw [hsl] at h
        exact h
      have hcl : (movedL vs (midsL vs fs) fans (es.zip sh)).length = vs.length ∧ (halvesL vs (midsL vs fs) es sh).length = es.length ∧ (midsL vs fs).length = fs.length := ⟨movedL_len _ _ _ _, halvesL_len _ _ _ _, hml⟩
      have hcb : ((vs.length = 0 ∧ es.length = 0 ∧ fs.length = 0) ∨ (0 < vs.length ∧ 0 < es.length ∧ 0 < fs.length)) ∧ vs.length + es.length + fs.length < 1099511627776 := by
        refine ⟨?_, by omega⟩
        obtain ⟨h1, h2⟩ := empty_all hTS
        simp only at h1 h2
        rcases Nat.eq_zero_or_pos vs.length with h0 | h0
        · obtain ⟨h3, h4⟩ := h1 (by omega)
          exact .inl ⟨h0, by rw [h4]; rfl, by rw [h3]; rfl⟩
        · obtain ⟨h3, h4⟩ := h2 (by omega)
          exact .inr ⟨h0, h4, h3⟩
      have hlev : levC ⟨vs, fs, ks⟩ ⟨es, fans, rs⟩ sh = ⟨movedL vs (midsL vs fs) fans (es.zip sh) ++ halvesL vs (midsL vs fs) es sh ++ midsL vs fs, fine (vs.length : Int) es fs, restP (vs.length : Int) 0 (es.zip sh)⟩ := rfl
      have hfpos : ∀ x ∈ fine (vs.length : Int) es fs, 0 < x.length := fun x hx => by
        obtain ⟨w, _, rfl⟩ := List.mem_map.1 hx; simp [quadOf]
      have pl := hP6.lt
      have p7 : W6.cell? ⟨P, 7, none⟩ = some (.slice (some ⟨gm, 0, none⟩) fs.length fs.length) := hP6.cell 7
      have hLR : LevR ⟨vs, fs, ks⟩ (levC ⟨vs, fs, ks⟩ ⟨es, fans, rs⟩ sh) 0 := LevR.fine _ hTS sh hsh.out hall.out
      rw [hlev] at hLR
      clear hTS hsl hnf2 hab hfan hsoft hsort hS6 hml hlev
      refine wp_region_monoT 13 (RL [PE (.agg #[.slice A1 vs.length k1, .slice A2 fs.length k2, .slice A3 ks.length k3, .slice B1 es.length d1, .slice B2 fans.length d2, .slice B3 rs.length d3, .slice (some ⟨g, 0, none⟩) es.length es.length, .slice (some ⟨gm, 0, none⟩) fs.length fs.length]), PA vs.length (movedL vs (midsL vs fs) fans (es.zip sh)), PE (.agg #[.slice A1 vs.length k1, .slice A2 fs.length k2, .slice A3 ks.length k3, .slice B1 es.length d1, .slice B2 fans.length d2, .slice B3 rs.length d3, .slice (some ⟨g, 0, none⟩) es.length es.length, .slice (some ⟨gm, 0, none⟩) fs.length fs.length]), PA es.length (halvesL vs (midsL vs fs) es sh), PE (.pointer (some ⟨P, 7, none⟩)), PE (.slice (some ⟨gm, 0, none⟩) fs.length fs.length), P3S vs.length es.length fs.length gm (movedL vs (midsL vs fs) fans (es.zip sh)) (halvesL vs (midsL vs fs) es sh), PAc (vs.length + es.length + fs.length) ((movedL vs (midsL vs fs) fans (es.zip sh)) ++ (halvesL vs (midsL vs fs) es sh) ++ (midsL vs fs)), PE (.agg #[.slice A1 vs.length k1, .slice A2 fs.length k2, .slice A3 ks.length k3, .slice B1 es.length d1, .slice B2 fans.length d2, .slice B3 rs.length d3, .slice (some ⟨g, 0, none⟩) es.length es.length, .slice (some ⟨gm, 0, none⟩) fs.length fs.length]), PF (fine (vs.length : Int) es fs), PE (.agg #[.slice A1 vs.length k1, .slice A2 fs.length k2, .slice A3 ks.length k3, .slice B1 es.length d1, .slice B2 fans.length d2, .slice B3 rs.length d3, .slice (some ⟨g, 0, none⟩) es.length es.length, .slice (some ⟨gm, 0, none⟩) fs.length fs.length]), PA (restP (vs.length : Int) 0 (es.zip sh)).length (restP (vs.length : Int) 0 (es.zip sh)), PCc (vs.length + es.length + fs.length) ((movedL vs (midsL vs fs) fans (es.zip sh)) ++ (halvesL vs (midsL vs fs) es sh) ++ (midsL vs fs)) (fine (vs.length : Int) es fs) (restP (vs.length : Int) 0 (es.zip sh))]) (by kernel_rfl) _ rfl (by kernel_rfl) (by kernel_rfl) (by kernel_rfl) (by kernel_rfl) (by kernel_rfl) (RL.stays ?_) ?_ ?_
      · intro p hp
        simp only [List.mem_cons, List.not_mem_nil, or_false] at hp
        rcases hp with rfl | rfl | rfl | rfl | rfl | rfl | rfl | rfl | rfl | rfl | rfl | rfl | rfl <;> first | exact PE.stays _ | exact PV.stays _ _ _ | exact PA.stays _ _ | exact PAc.stays _ _ | exact PCc.stays _ _ _ _ | exact PF.stays _ | exact P3S.stays _ _ _ _ _ _ | exact PC.stays _ _ _ _
      · simp only [List.take_succ_cons, List.take_zero]
        refine ⟨?_, ?_, ?_, ?_, ?_, ?_, ?_, ?_, ?_, ?_, ?_, ?_, ?_, ?_⟩
        · refine mono_val rfl (fun a w hB hk hp => ?_)
          have es7 := (hk 7 (keep_of (by kernel_rfl))).trans (show _ = some (.pointer (some ⟨P, 0, none⟩)) from rfl)
          exact ⟨.agg #[.slice A1 vs.length k1, .slice A2 fs.length k2, .slice A3 ks.length k3, .slice B1 es.length d1, .slice B2 fans.length d2, .slice B3 rs.length d3, .slice (some ⟨g, 0, none⟩) es.length es.length, .slice (some ⟨gm, 0, none⟩) fs.length fs.length], w, ldmS_run _ _ _ 91 _ rfl (P) 0 (eval_tmp es7) [.slice A1 vs.length k1, .slice A2 fs.length k2, .slice A3 ks.length k3, .slice B1 es.length d1, .slice B2 fans.length d2, .slice B3 rs.length d3, .slice (some ⟨g, 0, none⟩) es.length es.length, .slice (some ⟨gm, 0, none⟩) fs.length fs.length] _ (rng_all ((hP6).below hB)) Try.underlying91 rfl (by kernel_rfl), Below.refl _ _, fun _ _ => rfl⟩
        · refine mono_call rfl (fun a w hB hk hp => ?_)
          obtain ⟨x0, ex0, rx0⟩ := hp ⟨0, .data⟩ (by simp) rfl _ _ rfl rfl
          obtain rfl : x0 = _ := rx0
          exact ⟨40, #[.agg #[.slice A1 vs.length k1, .slice A2 fs.length k2, .slice A3 ks.length k3, .slice B1 es.length d1, .slice B2 fans.length d2, .slice B3 rs.length d3, .slice (some ⟨g, 0, none⟩) es.length es.length, .slice (some ⟨gm, 0, none⟩) fs.length fs.length]], by simp [execOp, go_sem, ex0], (cMo w hB).mono fun e w' ⟨A, c, h1, h2, h3⟩ => ⟨_, h1, h3, fun _ _ => ⟨A, c, rfl, h2⟩⟩⟩
        · refine mono_val rfl (fun a w hB hk hp => ?_)
          have es7 := (hk 7 (keep_of (by kernel_rfl))).trans (show _ = some (.pointer (some ⟨P, 0, none⟩)) from rfl)
          exact ⟨.agg #[.slice A1 vs.length k1, .slice A2 fs.length k2, .slice A3 ks.length k3, .slice B1 es.length d1, .slice B2 fans.length d2, .slice B3 rs.length d3, .slice (some ⟨g, 0, none⟩) es.length es.length, .slice (some ⟨gm, 0, none⟩) fs.length fs.length], w, ldmS_run _ _ _ 91 _ rfl (P) 0 (eval_tmp es7) [.slice A1 vs.length k1, .slice A2 fs.length k2, .slice A3 ks.length k3, .slice B1 es.length d1, .slice B2 fans.length d2, .slice B3 rs.length d3, .slice (some ⟨g, 0, none⟩) es.length es.length, .slice (some ⟨gm, 0, none⟩) fs.length fs.length] _ (rng_all ((hP6).below hB)) Try.underlying91 rfl (by kernel_rfl), Below.refl _ _, fun _ _ => rfl⟩
        · refine mono_call rfl (fun a w hB hk hp => ?_)
          obtain ⟨x2, ex2, rx2⟩ := hp ⟨2, .data⟩ (by simp) rfl _ _ rfl rfl
          obtain rfl : x2 = _ := rx2
          exact ⟨41, #[.agg #[.slice A1 vs.length k1, .slice A2 fs.length k2, .slice A3 ks.length k3, .slice B1 es.length d1, .slice B2 fans.length d2, .slice B3 rs.length d3, .slice (some ⟨g, 0, none⟩) es.length es.length, .slice (some ⟨gm, 0, none⟩) fs.length fs.length]], by simp [execOp, go_sem, ex2], (cHa w hB).mono fun e w' ⟨A, c, h1, h2, h3⟩ => ⟨_, h1, h3, fun _ _ => ⟨A, c, rfl, h2⟩⟩⟩
        · refine mono_val rfl (fun a w hB hk hp => ?_)
          have es7 := (hk 7 (keep_of (by kernel_rfl))).trans (show _ = some (.pointer (some ⟨P, 0, none⟩)) from rfl)
          exact ⟨.pointer (some ⟨P, 7, none⟩), w, by simp [execOp, go_sem, es7], Below.refl _ _, fun _ _ => rfl⟩
        · refine mono_val rfl (fun a w hB hk hp => ?_)
          obtain ⟨x4, ex4, rx4⟩ := hp ⟨4, .data⟩ (by simp) rfl _ _ rfl rfl
          obtain rfl : x4 = _ := rx4
          have fc0 := (hB.cell (p := ⟨P, 7, none⟩) pl).trans p7
          exact ⟨.slice (some ⟨gm, 0, none⟩) fs.length fs.length, w, by simp [execOp, go_sem, ex4, fc0], Below.refl _ _, fun _ _ => rfl⟩
        · refine mono_val rfl (fun a w hB hk hp => ?_)
          obtain ⟨x1, ex1, rx1⟩ := hp ⟨1, .data⟩ (by simp) rfl _ _ rfl rfl
          obtain ⟨gA, cA_, rfl, hvA⟩ : PA vs.length (movedL vs (midsL vs fs) fans (es.zip sh)) w x1 := rx1
          obtain ⟨x3, ex3, rx3⟩ := hp ⟨3, .data⟩ (by simp) rfl _ _ rfl rfl
          obtain ⟨gB, cB_, rfl, hvB⟩ : PA es.length (halvesL vs (midsL vs fs) es sh) w x3 := rx3
          obtain ⟨x5, ex5, rx5⟩ := hp ⟨5, .data⟩ (by simp) rfl _ _ rfl rfl
          obtain rfl : x5 = _ := rx5
          exact ⟨.slice (some ⟨w.heap.size, 0, none⟩) 3 3, w.alloc (.cells #[.slice gA vs.length cA_, .slice gB es.length cB_, .slice (some ⟨gm, 0, none⟩) fs.length fs.length] 22), by simp [execOp, go_sem, ex1, ex3, ex5], bel_alloc (Below.refl _ _) _, fun _ _ => p3s_new w gA gB hvA hvB⟩
        · refine mono_call rfl (fun a w hB hk hp => ?_)
          obtain ⟨x6, ex6, rx6⟩ := hp ⟨6, .data⟩ (by simp) rfl _ _ rfl rfl
          obtain ⟨bb, gA, cA_, gB, cB_, rfl, hbb, hc0, hc1, hc2, hvA, hvB⟩ : P3S vs.length es.length fs.length gm (movedL vs (midsL vs fs) fans (es.zip sh)) (halvesL vs (midsL vs fs) es sh) w x6 := rx6
          exact ⟨39, #[.slice (some ⟨bb, 0, none⟩) 3 3], by simp [execOp, go_sem, ex6], (conc3c w bb hbb hc0 hc1 hc2 hvA hvB (hM6.below hB) hcl hcb).mono fun e w' ⟨A, c, h1, hcc, h2, h3⟩ => ⟨_, h1, h3, fun _ _ => ⟨A, c, rfl, hcc, h2⟩⟩⟩
        · refine mono_val rfl (fun a w hB hk hp => ?_)
          have es7 := (hk 7 (keep_of (by kernel_rfl))).trans (show _ = some (.pointer (some ⟨P, 0, none⟩)) from rfl)
          exact ⟨.agg #[.slice A1 vs.length k1, .slice A2 fs.length k2, .slice A3 ks.length k3, .slice B1 es.length d1, .slice B2 fans.length d2, .slice B3 rs.length d3, .slice (some ⟨g, 0, none⟩) es.length es.length, .slice (some ⟨gm, 0, none⟩) fs.length fs.length], w, ldmS_run _ _ _ 91 _ rfl (P) 0 (eval_tmp es7) [.slice A1 vs.length k1, .slice A2 fs.length k2, .slice A3 ks.length k3, .slice B1 es.length d1, .slice B2 fans.length d2, .slice B3 rs.length d3, .slice (some ⟨g, 0, none⟩) es.length es.length, .slice (some ⟨gm, 0, none⟩) fs.length fs.length] _ (rng_all ((hP6).below hB)) Try.underlying91 rfl (by kernel_rfl), Below.refl _ _, fun _ _ => rfl⟩
        · refine mono_call rfl (fun a w hB hk hp => ?_)
          obtain ⟨x8, ex8, rx8⟩ := hp ⟨8, .data⟩ (by simp) rfl _ _ rfl rfl
          obtain rfl : x8 = _ := rx8
          exact ⟨42, #[.agg #[.slice A1 vs.length k1, .slice A2 fs.length k2, .slice A3 ks.length k3, .slice B1 es.length d1, .slice B2 fans.length d2, .slice B3 rs.length d3, .slice (some ⟨g, 0, none⟩) es.length es.length, .slice (some ⟨gm, 0, none⟩) fs.length fs.length]], by simp [execOp, go_sem, ex8], (cQu w hB).mono fun e w' ⟨A, c, h1, h2, h3⟩ => ⟨_, h1, h3, fun _ _ => ⟨A, c, rfl, h2⟩⟩⟩
        · refine mono_val rfl (fun a w hB hk hp => ?_)
          have es7 := (hk 7 (keep_of (by kernel_rfl))).trans (show _ = some (.pointer (some ⟨P, 0, none⟩)) from rfl)
          exact ⟨.agg #[.slice A1 vs.length k1, .slice A2 fs.length k2, .slice A3 ks.length k3, .slice B1 es.length d1, .slice B2 fans.length d2, .slice B3 rs.length d3, .slice (some ⟨g, 0, none⟩) es.length es.length, .slice (some ⟨gm, 0, none⟩) fs.length fs.length], w, ldmS_run _ _ _ 91 _ rfl (P) 0 (eval_tmp es7) [.slice A1 vs.length k1, .slice A2 fs.length k2, .slice A3 ks.length k3, .slice B1 es.length d1, .slice B2 fans.length d2, .slice B3 rs.length d3, .slice (some ⟨g, 0, none⟩) es.length es.length, .slice (some ⟨gm, 0, none⟩) fs.length fs.length] _ (rng_all ((hP6).below hB)) Try.underlying91 rfl (by kernel_rfl), Below.refl _ _, fun _ _ => rfl⟩
        · refine mono_call rfl (fun a w hB hk hp => ?_)
          obtain ⟨x10, ex10, rx10⟩ := hp ⟨10, .data⟩ (by simp) rfl _ _ rfl rfl
          obtain rfl : x10 = _ := rx10
          exact ⟨43, #[.agg #[.slice A1 vs.length k1, .slice A2 fs.length k2, .slice A3 ks.length k3, .slice B1 es.length d1, .slice B2 fans.length d2, .slice B3 rs.length d3, .slice (some ⟨g, 0, none⟩) es.length es.length, .slice (some ⟨gm, 0, none⟩) fs.length fs.length]], by simp [execOp, go_sem, ex10], (cRe w hB).mono fun e w' ⟨A, c, h1, h2, h3⟩ => ⟨_, h1, h3, fun _ _ => ⟨A, c, rfl, h2⟩⟩⟩
        · refine mono_val rfl (fun a w hB hk hp => ?_)
          obtain ⟨x7, ex7, rx7⟩ := hp ⟨7, .data⟩ (by simp) rfl _ _ rfl rfl
          obtain ⟨R1, e1, rfl, hcap, hr1⟩ : PAc (vs.length + es.length + fs.length) ((movedL vs (midsL vs fs) fans (es.zip sh)) ++ (halvesL vs (midsL vs fs) es sh) ++ (midsL vs fs)) w x7 := rx7
          obtain ⟨x9, ex9, rx9⟩ := hp ⟨9, .data⟩ (by simp) rfl _ _ rfl rfl
          obtain ⟨R2, e2, rfl, hr2⟩ : PF (fine (vs.length : Int) es fs) w x9 := rx9
          obtain ⟨x11, ex11, rx11⟩ := hp ⟨11, .data⟩ (by simp) rfl _ _ rfl rfl
          obtain ⟨R3, e3, rfl, hr3⟩ : PA (restP (vs.length : Int) 0 (es.zip sh)).length (restP (vs.length : Int) 0 (es.zip sh)) w x11 := rx11
          exact ⟨.agg #[.slice R1 (vs.length + es.length + fs.length) e1, .slice R2 _ e2, .slice R3 _ e3], w, by simp [execOp, go_sem, ex7, ex9, ex11], Below.refl _ _, fun _ _ => ⟨R1, e1, R2, e2, R3, e3, rfl, hcap, hr1, hr2, hr3⟩⟩
        · trivial
      · intro a w7 hB hsz hdf hk hgot
        obtain ⟨v12, ev12, rv12⟩ := hgot 12 _ 53 rfl rfl
        obtain ⟨R1, e1, R2, e2, R3, e3, rfl, hcap, hr1, hr2, hr3⟩ : PCc (vs.length + es.length + fs.length) ((movedL vs (midsL vs fs) fans (es.zip sh)) ++ (halvesL vs (midsL vs fs) es sh) ++ (midsL vs fs)) (fine (vs.length : Int) es fs) (restP (vs.length : Int) 0 (es.zip sh)) w7 v12 := rv12
        obtain ⟨f, hf, rfl⟩ := frame_eq hsz hdf hk [41, 42, 43, 44, 45, 46, 47, 48, 49, 50, 51, 52, 53] (by rfl)
        have f53 := hf 53 _ ev12
        clear hsz hdf hk hgot hf ev12
        simp only [List.drop_succ_cons, List.drop_zero, setAll, List.setIfInBounds_toArray, List.set_cons_succ, List.set_cons_zero, f53]
        clear f53
        generalize f 41 = uu41; generalize f 42 = uu42; generalize f 43 = uu43; generalize f 44 = uu44; generalize f 45 = uu45; generalize f 46 = uu46; generalize f 47 = uu47; generalize f 48 = uu48; generalize f 49 = uu49; generalize f 50 = uu50; generalize f 51 = uu51; generalize f 52 = uu52
        have hR7 := hR6.below hB
        have hB7 := bel_trans hB6 hB
        have hml2 : (movedL vs (midsL vs fs) fans (es.zip sh) ++ halvesL vs (midsL vs fs) es sh ++ midsL vs fs).length = vs.length + es.length + fs.length := by rw [List.length_append, List.length_append, hcl.1, hcl.2.1, hcl.2.2]
        clear cMo cHa cQu cRe hR6 hB6 hV6 hGs6 hM6 hB pl p7 hcb
        generalize movedL vs (midsL vs fs) fans (es.zip sh) ++ halvesL vs (midsL vs fs) es sh ++ midsL vs fs = RV at *
        generalize fine (vs.length : Int) es fs = RF at *
        generalize restP (vs.length : Int) 0 (es.zip sh) = RK at *
        have f0 := hR7.frozen 0
        have f1 := hR7.frozen 1
        have f2 := hR7.frozen 2
        have r0 : w7.cell? ⟨W.heap.size + 1, 0, none⟩ = some (.slice none 0 0) := hR7.cell 0
        have r1 : w7.cell? ⟨W.heap.size + 1, 1, none⟩ = some (.slice none 0 0) := hR7.cell 1
        have r2 : w7.cell? ⟨W.heap.size + 1, 2, none⟩ = some (.slice none 0 0) := hR7.cell 2
        have rl := hR7.lt
        obtain ⟨nn, hnn⟩ : ∃ nn, vs.length + es.length + fs.length = nn := ⟨_, rfl⟩
        rw [hnn] at hml2 hcap
        simp only [hnn]
        have hE := ((hR7.set 0 (.slice R1 nn e1)).set 1 (.slice R2 RF.length e2)).set 2 (.slice R3 RK.length e3)
        have hbE := bel_set (bel_set (bel_set hB7 (p := ⟨W.heap.size + 1, 0, none⟩) (by simp) (.slice R1 nn e1)) (p := ⟨W.heap.size + 1, 1, none⟩) (by simp) (.slice R2 RF.length e2)) (p := ⟨W.heap.size + 1, 2, none⟩) (by simp) (.slice R3 RK.length e3)
        have hgE := ((set_grown w7 (W.heap.size + 1) 0 (.slice R1 nn e1)).trans (set_grown _ (W.heap.size + 1) 1 (.slice R2 RF.length e2))).trans (set_grown _ (W.heap.size + 1) 2 (.slice R3 RK.length e3))
        have hall0 : ∀ (i : Nat) (v : Value), (#[.slice none 0 0, .slice none 0 0, .slice none 0 0] : Array Value)[i]? = some v → v = .slice none 0 0 := fun i v h => by
          have hi : i < 3 := by have := (Array.getElem?_eq_some_iff.1 h).1; simpa using this
          rcases (by omega : i = 0 ∨ i = 1 ∨ i = 2) with rfl | rfl | rfl <;> (simp at h; exact h.symm)
        have hv1 := hr1.kept_slices hgE hR7 (fun i v h => ⟨_, _, _, hall0 i v h⟩)
        have hv2 := hr2.kept_slices hgE hR7 hall0 hfpos
        have hv3 := hr3.kept_slices hgE hR7 (fun i v h => ⟨_, _, _, hall0 i v h⟩)
        clear hgE hall0 hr1 hr2 hr3 hR7 hB7 hnn
        replace hml2 := Lib.hid hml2
        go_wp2
        generalize ((w7.setCell ⟨W.heap.size + 1, 0, none⟩ (.slice R1 nn e1)).setCell ⟨W.heap.size + 1, 1, none⟩ (.slice R2 RF.length e2)).setCell ⟨W.heap.size + 1, 2, none⟩ (.slice R3 RK.length e3) = WE at *
        have y0 : WE.cell? ⟨W.heap.size + 1, 0, none⟩ = some (.slice R1 nn e1) := hE.cell 0
        have y1 : WE.cell? ⟨W.heap.size + 1, 1, none⟩ = some (.slice R2 RF.length e2) := hE.cell 1
        have y2 : WE.cell? ⟨W.heap.size + 1, 2, none⟩ = some (.slice R3 RK.length e3) := hE.cell 2
        refine bodyPost_ret (v := .tuple #[.agg #[.slice R1 nn e1, .slice R2 RF.length e2, .slice R3 RK.length e3], .int .i64 0]) (by simp [results, Try.results19, go_sem, y0, y1, y2]) rfl ?_
        exact ⟨⟨RV, RF, RK⟩, R1, R2, R3, e1, e2, e3, 0, by rw [hml2.out], hbE, hv1, hv2, hv3, hLR, by show RV.length ≤ e1; rw [hml2.out]; exact hcap⟩
end Go.Proofs.Ytpdnaceggpdleab
namespace Go.Proofs.Ytpdnaceggpdleab
open Go.RowKit
set_option linter.unusedVariables false
set_option linter.unusedSimpArgs false
set_option linter.unnecessarySimpa false
set_option maxRecDepth 100000
set_option maxHeartbeats 4000000 in
theorem quads_any (W : World) (vs : List P3) (fs : List (List Int)) (ks : List P3) (A1 A2 A3 : Option Addr) (k1 k2 k3 : Nat) (l1 : vs.length < 1099511627776000) (l2 : fs.length < 1099511627776000) (l3 : ks.length < 1099511627776000) (hx : ∀ x ∈ fs, x.length < 1099511627776000) (v2 : FL W A2 fs) (hCg : vs.length + ks.length + fs.length + tot fs ≤ 300 → CgV W ⟨vs, fs, ks⟩ A1 A2 A3) :
    Calls Try.prog 11 #[.agg #[.slice A1 vs.length k1, .slice A2 fs.length k2, .slice A3 ks.length k3]] W fun e W' => ∃ (r : Cg) (R1 R2 R3 : Option Addr) (c1 c2 c3 : Nat) (ok : Bool), e = .returned (.tuple #[.agg #[.slice R1 r.vs.length c1, .slice R2 r.fs.length c2, .slice R3 r.ks.length c3], .bool ok]) ∧ Below W.heap.size W W' ∧ VL W' R1 r.vs ∧ FL W' R2 r.fs ∧ VL W' R3 r.ks ∧ (ok = true → FineOk r ∧ r.vs.length ≤ c1) := by
  have hB1 : Below W.heap.size W ((W.alloc (.cells #[.slice A1 vs.length k1, .slice A2 fs.length k2, .slice A3 ks.length k3] 27)).alloc (.cells #[.slice none 0 0, .slice none 0 0, .slice none 0 0] 27)) := bel_alloc (bel_alloc (Below.refl _ _) _) _
  have hC1 : Blk ((W.alloc (.cells #[.slice A1 vs.length k1, .slice A2 fs.length k2, .slice A3 ks.length k3] 27)).alloc (.cells #[.slice none 0 0, .slice none 0 0, .slice none 0 0] 27)) W.heap.size 27 #[.slice A1 vs.length k1, .slice A2 fs.length k2, .slice A3 ks.length k3] := (Blk.new _ _ _ _ rfl).alloc _
  have hR1 : Blk ((W.alloc (.cells #[.slice A1 vs.length k1, .slice A2 fs.length k2, .slice A3 ks.length k3] 27)).alloc (.cells #[.slice none 0 0, .slice none 0 0, .slice none 0 0] 27)) (W.heap.size + 1) 27 #[.slice none 0 0, .slice none 0 0, .slice none 0 0] := Blk.new _ _ _ _ (by simp)
  go_enter Try.func11, Try.ntmps11
  go_upto_region 1 with (fail)
  generalize (W.alloc (.cells #[.slice A1 vs.length k1, .slice A2 fs.length k2, .slice A3 ks.length k3] 27)).alloc (.cells #[.slice none 0 0, .slice none 0 0, .slice none 0 0] 27) = W1 at *
  have cG1 := great9_any W1 A1 A2 A3 vs.length ks.length k1 k2 k3 fs (v2.below hB1) l1 l2 l3 hx
  have x0 : W1.cell? ⟨W.heap.size, 0, none⟩ = some (.slice A1 vs.length k1) := hC1.cell 0
  have x1 : W1.cell? ⟨W.heap.size, 1, none⟩ = some (.slice A2 fs.length k2) := hC1.cell 1
  have x2 : W1.cell? ⟨W.heap.size, 2, none⟩ = some (.slice A3 ks.length k3) := hC1.cell 2
  have xl := hC1.lt
  go_upto_region 3 with (first | (go_at_call 18; (with_reducible refine cG1.mono ?_); rintro e W2 ⟨bb, rfl, hb2, hgr⟩; have hB2 := bel_trans hB1 hb2; have hC2 := hC1.below hb2; have hR2 := hR1.below hb2; replace hgr := Lib.hid hgr; clear x0 x1 x2 xl cG1 hC1 hB1 hR1 hb2; have f0 := hR2.frozen 0; have f1 := hR2.frozen 1; have f2 := hR2.frozen 2; have r0 : W2.cell? ⟨W.heap.size + 1, 0, none⟩ = some (.slice none 0 0) := hR2.cell 0; have r1 : W2.cell? ⟨W.heap.size + 1, 1, none⟩ = some (.slice none 0 0) := hR2.cell 1; have r2 : W2.cell? ⟨W.heap.size + 1, 2, none⟩ = some (.slice none 0 0) := hR2.cell 2; have rl := hR2.lt; cases bb) | fail)
  rotate_left
  · have hE := ((hR2.set 0 (.slice none 0 0)).set 1 (.slice none 0 0)).set 2 (.slice none 0 0)
    have hbE := bel_set (bel_set (bel_set hB2 (p := ⟨W.heap.size + 1, 0, none⟩) (by simp) (.slice none 0 0)) (p := ⟨W.heap.size + 1, 1, none⟩) (by simp) (.slice none 0 0)) (p := ⟨W.heap.size + 1, 2, none⟩) (by simp) (.slice none 0 0)
    generalize ((W2.setCell ⟨W.heap.size + 1, 0, none⟩ (.slice none 0 0)).setCell ⟨W.heap.size + 1, 1, none⟩ (.slice none 0 0)).setCell ⟨W.heap.size + 1, 2, none⟩ (.slice none 0 0) = WE at *
    have y0 : WE.cell? ⟨W.heap.size + 1, 0, none⟩ = some (.slice none 0 0) := hE.cell 0
    have y1 : WE.cell? ⟨W.heap.size + 1, 1, none⟩ = some (.slice none 0 0) := hE.cell 1
    have y2 : WE.cell? ⟨W.heap.size + 1, 2, none⟩ = some (.slice none 0 0) := hE.cell 2
    refine bodyPost_ret (v := .tuple #[.agg #[.slice none 0 0, .slice none 0 0, .slice none 0 0], .bool false]) (by simp [results, Try.results11, go_sem, y0, y1, y2]) rfl ?_
    exact ⟨Cg0, none, none, none, 0, 0, 0, false, rfl, hbE, VL.nil _ _, fun h => by simp [Cg0] at h, VL.nil _ _, fun h => by cases h⟩
  · clear f0 f1 f2 r0 r1 r2 rl
    obtain ⟨hg1, hg2⟩ := hgr.out trivial
    have hc := hCg hg2
    have cL := level3_any W2 ⟨vs, fs, ks⟩ A1 A2 A3 k1 k2 k3 (hc.below hB2)
    simp only at cL
    have hi3 := hc.i3
    clear hgr hc hCg v2
    have x0 : W2.cell? ⟨W.heap.size, 0, none⟩ = some (.slice A1 vs.length k1) := hC2.cell 0
    have x1 : W2.cell? ⟨W.heap.size, 1, none⟩ = some (.slice A2 fs.length k2) := hC2.cell 1
    have x2 : W2.cell? ⟨W.heap.size, 2, none⟩ = some (.slice A3 ks.length k3) := hC2.cell 2
    have xl := hC2.lt
    go_upto_region 4 with (first | (go_at_call 19; (with_reducible refine cL.mono ?_); rintro e W3 ⟨r, R1, R2, R3, c1, c2, c3, er, rfl, hb3, h1, h2, h3, hL, hcap⟩) | fail)
    have hT : Blk (W3.alloc (.cells #[.slice R1 r.vs.length c1, .slice R2 r.fs.length c2, .slice R3 r.ks.length c3] 27)) W3.heap.size 27 #[.slice R1 r.vs.length c1, .slice R2 r.fs.length c2, .slice R3 r.ks.length c3] := Blk.new _ _ _ _ rfl
    have hb4 : Below W2.heap.size W2 (W3.alloc (.cells #[.slice R1 r.vs.length c1, .slice R2 r.fs.length c2, .slice R3 r.ks.length c3] 27)) := bel_alloc hb3 _
    have h34 : Below W3.heap.size W3 (W3.alloc (.cells #[.slice R1 r.vs.length c1, .slice R2 r.fs.length c2, .slice R3 r.ks.length c3] 27)) := bel_alloc (Below.refl _ _) _
    have h1b := h1.below h34
    have h2b := h2.below h34
    have h3b := h3.below h34
    clear x0 x1 x2 xl cL h1 h2 h3 hb3 h34
    generalize W3.alloc (.cells #[.slice R1 r.vs.length c1, .slice R2 r.fs.length c2, .slice R3 r.ks.length c3] 27) = W4 at *
    generalize W3.heap.size = T at *
    have hB4 := bel_trans hB2 hb4
    have hR4 := hR2.below hb4
    clear hB2 hC2 hb4 hR2
    have hpos : ∀ x ∈ r.fs, 0 < x.length := by
      cases hL with
      | noSurf h => simp [Cg0]
      | noEdge t hTS h => simp [Cg0]
      | large t hTS sh h hf => simp [Cg0]
      | fine t hTS sh h hf => exact fun x hx => by have := quads_four _ _ _ x hx; omega
    have hok : (er = 0 → FineOk r) := by
      intro he
      cases hL with
      | noSurf h => cases he
      | noEdge t hTS h => cases he
      | large t hTS sh h hf => cases he
      | fine t hTS sh h hf => exact fine_ok hTS h hi3 hf hg2
    replace hok := Lib.hid hok
    replace hcap := Lib.hid hcap
    replace hpos := Lib.hid hpos
    clear hL hi3
    have t0 : W4.cell? ⟨T, 0, none⟩ = some (.slice R1 r.vs.length c1) := hT.cell 0
    have t1 : W4.cell? ⟨T, 1, none⟩ = some (.slice R2 r.fs.length c2) := hT.cell 1
    have t2 : W4.cell? ⟨T, 2, none⟩ = some (.slice R3 r.ks.length c3) := hT.cell 2
    have tl := hT.lt
    have f0 := hR4.frozen 0
    have f1 := hR4.frozen 1
    have f2 := hR4.frozen 2
    have r0 : W4.cell? ⟨W.heap.size + 1, 0, none⟩ = some (.slice none 0 0) := hR4.cell 0
    have r1 : W4.cell? ⟨W.heap.size + 1, 1, none⟩ = some (.slice none 0 0) := hR4.cell 1
    have r2 : W4.cell? ⟨W.heap.size + 1, 2, none⟩ = some (.slice none 0 0) := hR4.cell 2
    have rl := hR4.lt
    generalize hr : r.vs.length = n1 at *
    generalize hr2 : r.fs.length = n2 at *
    generalize hr3 : r.ks.length = n3 at *
    have hE := ((hR4.set 0 (.slice R1 n1 c1)).set 1 (.slice R2 n2 c2)).set 2 (.slice R3 n3 c3)
    have hbE := bel_set (bel_set (bel_set hB4 (p := ⟨W.heap.size + 1, 0, none⟩) (by simp) (.slice R1 n1 c1)) (p := ⟨W.heap.size + 1, 1, none⟩) (by simp) (.slice R2 n2 c2)) (p := ⟨W.heap.size + 1, 2, none⟩) (by simp) (.slice R3 n3 c3)
    have hgE := ((set_grown W4 (W.heap.size + 1) 0 (.slice R1 n1 c1)).trans (set_grown _ (W.heap.size + 1) 1 (.slice R2 n2 c2))).trans (set_grown _ (W.heap.size + 1) 2 (.slice R3 n3 c3))
    have hall0 : ∀ (i : Nat) (v : Value), (#[.slice none 0 0, .slice none 0 0, .slice none 0 0] : Array Value)[i]? = some v → v = .slice none 0 0 := fun i v h => by
      have hi : i < 3 := by have := (Array.getElem?_eq_some_iff.1 h).1; simpa using this
      rcases (by omega : i = 0 ∨ i = 1 ∨ i = 2) with rfl | rfl | rfl <;> (simp at h; exact h.symm)
    have hv1 := h1b.kept_slices hgE hR4 (fun i v h => ⟨_, _, _, hall0 i v h⟩)
    have hv2 := h2b.kept_slices hgE hR4 hall0 hpos.out
    have hv3 := h3b.kept_slices hgE hR4 (fun i v h => ⟨_, _, _, hall0 i v h⟩)
    replace hr := Lib.hid hr
    replace hr2 := Lib.hid hr2
    replace hr3 := Lib.hid hr3
    clear hgE hall0 h1b h2b h3b hR4 hB4 hT
    go_wp2
    generalize ((W4.setCell ⟨W.heap.size + 1, 0, none⟩ (.slice R1 n1 c1)).setCell ⟨W.heap.size + 1, 1, none⟩ (.slice R2 n2 c2)).setCell ⟨W.heap.size + 1, 2, none⟩ (.slice R3 n3 c3) = WE at *
    have y0 : WE.cell? ⟨W.heap.size + 1, 0, none⟩ = some (.slice R1 n1 c1) := hE.cell 0
    have y1 : WE.cell? ⟨W.heap.size + 1, 1, none⟩ = some (.slice R2 n2 c2) := hE.cell 1
    have y2 : WE.cell? ⟨W.heap.size + 1, 2, none⟩ = some (.slice R3 n3 c3) := hE.cell 2
    refine bodyPost_ret (v := .tuple #[.agg #[.slice R1 n1 c1, .slice R2 n2 c2, .slice R3 n3 c3], .bool (er == 0)]) (by simp [results, Try.results11, go_sem, y0, y1, y2]) rfl ?_
    exact ⟨r, R1, R2, R3, c1, c2, c3, er == 0, by rw [hr.out, hr2.out, hr3.out], hbE, hv1, hv2, hv3, fun h => ⟨hok.out (by simpa using h), by rw [hr.out]; exact hcap.out⟩⟩
end Go.Proofs.Ytpdnaceggpdleab
namespace Go.Proofs.Ytpdnaceggpdleab
open Go.RowKit
set_option linter.unusedVariables false
set_option linter.unusedSimpArgs false
theorem fans_pos {n : Int} {fs : List (List Int)} {t : TopoT} (hT : TopoS n fs t) {v : Nat} (hv : (v : Int) < n) : 0 < (t.fans.getD v []).length := by
  have h1 := hT.nf
  have h2 := hT.nr
  have hvf : v < t.fans.length := by omega
  rw [List.getD_eq_getElem?_getD, List.getElem?_eq_getElem hvf, Option.getD_some]
  obtain ⟨L, hF, hl, e⟩ := hT.fan v hvf (by omega)
  rw [e, List.length_map]
  exact fan_pos hT.walk (by omega) hv hl
theorem patP_at {W : World} {g n : Nat} {q : Nat → PtD} {t : TypeId} (h : Blk W g t (patC n q)) {v k : Nat} (hv : v < n) (hk : k < 16) : W.cell? ⟨g, v * 65 + k * 3, none⟩ = some (.int .i64 ((q v).pt k).x) ∧ W.cell? ⟨g, v * 65 + k * 3 + 1, none⟩ = some (.int .i64 ((q v).pt k).y) ∧ W.cell? ⟨g, v * 65 + k * 3 + 2, none⟩ = some (.int .i64 ((q v).pt k).z) := by
  have h0 := cell_patch h hv (j := k * 3) (by omega)
  have h1 := cell_patch h hv (j := k * 3 + 1) (by omega)
  have h2 := cell_patch h hv (j := k * 3 + 2) (by omega)
  unfold PtD.c pC at h0 h1 h2
  rw [if_pos (by omega), if_pos (by omega), show k * 3 / 3 = k by omega] at h0
  rw [if_pos (by omega), if_neg (by omega), if_pos (by omega), show (k * 3 + 1) / 3 = k by omega] at h1
  rw [if_pos (by omega), if_neg (by omega), if_neg (by omega), show (k * 3 + 2) / 3 = k by omega] at h2
  exact ⟨h0, h1, h2⟩
end Go.Proofs.Ytpdnaceggpdleab
