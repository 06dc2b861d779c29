/- Find of the program and of the document. Package sub: each edge's sharpness; is a vertex out of its bounds? Regions held by a fact: an operation that is forced, by its value or its call. A region in any order whose operations may make blocks, and call what makes blocks: if what is known of each slot stays true in every later world, then behind the region it is known of all of them, whatever the order was. No program is imported. Rows of numbers that are the same; the vertices whose fans are round. Two surfaces beside one another, with vertices of their own. No program is imported. -/
import Derived.Deep.RegionHeld3
import Derived.Deep.MidRow
import Derived.Test.YtpdnaceggpdleabC0
import Derived.Test.YtpdnaceggpdleabC3
import Derived.Test.YtpdnaceggpdleabC8
namespace Go.Proofs.Ytpdnaceggpdleab
open Go.RowKit
set_option linter.unusedVariables false
set_option linter.unusedSimpArgs false
set_option linter.unnecessarySimpa false
set_option maxRecDepth 100000
open Go.Sort


/-- What Find answers: the place of the edge between two vertices, if there is one. -/
def FindP (es : List Ed) (a b : Int) (k : Nat) (ok : Bool) : Prop := (ok = true ∧ ∃ h : k < es.length, es[k].a = min a b ∧ es[k].b = max a b) ∨ (ok = false ∧ k = 0 ∧ ∀ e ∈ es, ¬(e.a = min a b ∧ e.b = max a b))
theorem FindP.one {es : List Ed} (hs : es.Pairwise ltE) {a b : Int} {k l : Nat} {p q : Bool} (h : FindP es a b k p) (g : FindP es a b l q) : k = l ∧ p = q := by
  rcases h with ⟨rfl, hk, h1, h2⟩ | ⟨rfl, rfl, h3⟩ <;> rcases g with ⟨rfl, hl, g1, g2⟩ | ⟨rfl, rfl, g3⟩
  · refine ⟨?_, rfl⟩
    apply Classical.byContradiction
    intro hne
    rcases Nat.lt_or_ge k l with hkl | hkl
    · have := List.pairwise_iff_getElem.1 hs k l hk hl hkl
      unfold ltE at this; omega
    · have := List.pairwise_iff_getElem.1 hs l k hl hk (by omega)
      unfold ltE at this; omega
  · exact absurd ⟨h1, h2⟩ (g3 _ (List.getElem_mem hk))
  · exact absurd ⟨g1, g2⟩ (h3 _ (List.getElem_mem hl))
  · exact ⟨rfl, rfl⟩
set_option maxHeartbeats 1000000 in
theorem find_any (W : World) (A1 A2 A3 : Option Addr) (n2 n3 c1 c2 c3 : Nat) (es : List Ed) (a b : Int) (hE : EL W A1 es) (hn : es.length < 1099511627776) (hs : es.Pairwise ltE) :
    Calls Try.prog 50 #[.agg #[.slice A1 es.length c1, .slice A2 n2 c2, .slice A3 n3 c3], .int .i64 a, .int .i64 b] W fun e W' => ∃ (k : Nat) (ok : Bool), e = .returned (.tuple #[.int .i64 (k : Int), .bool ok]) ∧ FindP es a b k ok ∧ Below W.heap.size W W' := by
  have hb0 : Below W.heap.size W (W.alloc (.cells #[.slice A1 es.length c1, .slice A2 n2 c2, .slice A3 n3 c3] 56)) := bel_alloc (Below.refl _ _) _
  have hbx : Blk (W.alloc (.cells #[.slice A1 es.length c1, .slice A2 n2 c2, .slice A3 n3 c3] 56)) W.heap.size 56 #[.slice A1 es.length c1, .slice A2 n2 c2, .slice A3 n3 c3] := Blk.new _ _ _ _ rfl
  go_enter Try.func50, Try.ntmps50
  go_upto_region 1 with (fail)
  generalize W.alloc (.cells #[.slice A1 es.length c1, .slice A2 n2 c2, .slice A3 n3 c3] 56) = W1 at *
  have x0 : W1.cell? ⟨W.heap.size, 0, none⟩ = some (.slice A1 es.length c1) := hbx.cell 0
  have xl := hbx.lt
  have cB := bsearch_any W1 A1 c1 es (min a b) (max a b) (hE.below hb0) hn hs
  replace cB := Lib.hid cB
  go_wp2_with (first | (go_at_call 68; (with_reducible refine cB.out.mono ?_); rintro e W2 ⟨i, hi, hlo, hhi, rfl, hb2⟩; replace hlo := Lib.hid hlo; replace hhi := Lib.hid hhi; obtain ⟨bb, hbb⟩ : ∃ bb, decide (i < es.length ∧ atE es i (min a b) (max a b) = 0) = bb := ⟨_, rfl⟩; rw [hbb]; replace hbb := Lib.hid hbb; cases bb) | fail)
  rotate_left
  · go_ret2
    obtain ⟨h1, h2⟩ := of_decide_eq_true hbb.out
    have h3 : cf2 es[i].a es[i].b (min a b) (max a b) = 0 := by simpa [atE, h1] using h2
    exact ⟨i, true, rfl, .inl ⟨rfl, h1, (cf2_zero _ _ _ _).1 h3⟩, bel_trans hb0 hb2⟩
  · go_ret2
    have hd := of_decide_eq_false hbb.out
    refine ⟨0, false, rfl, .inr ⟨rfl, rfl, fun e he hh => ?_⟩, bel_trans hb0 hb2⟩
    obtain ⟨k, hk, rfl⟩ := List.getElem_of_mem he
    have hz := (cf2_zero es[k].a es[k].b (min a b) (max a b)).2 hh
    rcases Nat.lt_or_ge k i with h1 | h1
    · have := hlo.out k hk h1; omega
    · by_cases e : k = i
      · subst e
        exact hd ⟨hk, by simpa [atE, hk] using hz⟩
      · have h2 := hhi.out i (by omega) (Nat.le_refl _)
        have h3 := List.pairwise_iff_getElem.1 hs i k (by omega) hk (by omega)
        have h4 : cf2 (es[i]'(by omega)).a (es[i]'(by omega)).b (min a b) (max a b) < 0 := by
          rw [cf2_neg]
          unfold ltE at h3
          omega
        omega
end Go.Proofs.Ytpdnaceggpdleab
namespace Go.Proofs.Ytpdnaceggpdleab
open Go.RowKit
set_option linter.unusedVariables false
set_option linter.unusedSimpArgs false
set_option linter.unnecessarySimpa false
set_option maxRecDepth 100000
/-- The cells of numbers. -/
def iC (l : List Int) : Array Value := (l.map (Value.int .i64)).toArray
theorem iC_at {l : List Int} {i : Nat} (h : i < l.length) : (iC l)[i]? = some (.int .i64 l[i]) := by simp [iC, h]
theorem iC_set (l : List Int) (i : Nat) (x : Int) : (iC l).setIfInBounds i (.int .i64 x) = iC (l.set i x) := by
  unfold iC
  rw [List.setIfInBounds_toArray, List.map_set]
theorem iC_made (n : Nat) : madeCells #[.int .i64 0] (n * 1) = iC (List.replicate n 0) := by
  apply Array.ext
  · simp [size_madeCells, iC]
  · intro i h1 h2
    simp [madeCells, iC, Nat.mod_one]
theorem IL_of {W : World} {g : Nat} {t : TypeId} {l : List Int} (h : Blk W g t (iC l)) : IL W (some ⟨g, 0, none⟩) l := fun hn => ⟨g, 0, rfl, h.lt, fun i hi => by rw [h.cell, Nat.zero_add, iC_at hi]⟩
theorem infoInt : (Try.prog.info? 3).map (fun i => (i.zero, i.size, i.bytes)) = some (some (.int .i64 0), 1, 8) := by kernel_rfl
theorem find_eix {es : List Ed} (hs : es.Pairwise ltE) {a b : Int} {k : Nat} {ok : Bool} (h : FindP es a b k ok) : (ok = true ∧ k = eix es a b ∧ eix es a b < es.length) ∨ (ok = false ∧ k = 0 ∧ ¬ eix es a b < es.length) := by
  by_cases hl : eix es a b < es.length
  · have := List.findIdx_getElem (w := hl)
    simp only [Bool.and_eq_true, beq_iff_eq] at this
    have h2 : FindP es a b (eix es a b) true := .inl ⟨rfl, hl, this.1, this.2⟩
    obtain ⟨e1, e2⟩ := h.one hs h2
    exact .inl ⟨e2, e1, hl⟩
  · rcases h with ⟨_, hk, h1, h2⟩ | ⟨h1, h2, _⟩
    · exact absurd (List.findIdx_lt_length_of_exists ⟨es[k], List.getElem_mem hk, by simp [h1, h2]⟩) hl
    · exact .inr ⟨h1, h2, hl⟩
set_option maxHeartbeats 4000000 in
theorem sharp_any (W : World) (A1 A2 A3 B1 B2 B3 : Option Addr) (n1 n2 m2 m3 k1 k2 k3 d1 d2 d3 : Nat) (es : List Ed) (ks : List P3) (hE : EL W B1 es) (hs : es.Pairwise ltE) (hK : VL W A3 ks) (hl : es.length < 1099511627776) (hkl : ks.length < 1099511627776) :
    Calls Try.prog 23 #[.agg #[.slice A1 n1 k1, .slice A2 n2 k2, .slice A3 ks.length k3], .agg #[.slice B1 es.length d1, .slice B2 m2 d2, .slice B3 m3 d3]] W fun e W' => Below W.heap.size W W' ∧ ((sharpP es ks = none ∧ e = .returned (.tuple #[.slice none 0 0, .int .i64 14])) ∨ ∃ sh g, sharpP es ks = some sh ∧ W.heap.size ≤ g ∧ Blk W' g 3 (iC sh) ∧ e = .returned (.tuple #[.slice (some ⟨g, 0, none⟩) es.length es.length, .int .i64 0])) := by
  obtain ⟨i0, hi0, hz0, hz1, hz2⟩ := info_parts infoInt
  have hb0 : Below W.heap.size W ((W.alloc (.cells #[.slice A1 n1 k1, .slice A2 n2 k2, .slice A3 ks.length k3] 27)).alloc (.cells #[.slice B1 es.length d1, .slice B2 m2 d2, .slice B3 m3 d3] 56)) := bel_alloc (bel_alloc (Below.refl _ _) _) _
  have hC0 : Blk ((W.alloc (.cells #[.slice A1 n1 k1, .slice A2 n2 k2, .slice A3 ks.length k3] 27)).alloc (.cells #[.slice B1 es.length d1, .slice B2 m2 d2, .slice B3 m3 d3] 56)) W.heap.size 27 #[.slice A1 n1 k1, .slice A2 n2 k2, .slice A3 ks.length k3] := (Blk.new _ _ _ _ rfl).alloc _
  have hT0 : Blk ((W.alloc (.cells #[.slice A1 n1 k1, .slice A2 n2 k2, .slice A3 ks.length k3] 27)).alloc (.cells #[.slice B1 es.length d1, .slice B2 m2 d2, .slice B3 m3 d3] 56)) (W.heap.size + 1) 56 #[.slice B1 es.length d1, .slice B2 m2 d2, .slice B3 m3 d3] := Blk.new _ _ _ _ (by simp)
  have hsz0 : ((W.alloc (.cells #[.slice A1 n1 k1, .slice A2 n2 k2, .slice A3 ks.length k3] 27)).alloc (.cells #[.slice B1 es.length d1, .slice B2 m2 d2, .slice B3 m3 d3] 56)).heap.size = W.heap.size + 2 := by simp
  go_enter Try.func23, Try.ntmps23
  go_upto_region 1 with (fail)
  generalize (W.alloc (.cells #[.slice A1 n1 k1, .slice A2 n2 k2, .slice A3 ks.length k3] 27)).alloc (.cells #[.slice B1 es.length d1, .slice B2 m2 d2, .slice B3 m3 d3] 56) = W0 at *
  have x1 : W0.cell? ⟨W.heap.size + 1, 0, none⟩ = some (.slice B1 es.length d1) := hT0.cell 0
  have xl := hT0.lt
  go_upto_region 2 with (first | ((refine wpList_make_full _ rfl _ _ 31 rfl W0.heap.size 3 i0 _ 1 Try.underlying31 hi0 hz0 hz1 .i64 .i64 (es.length : Int) (es.length : Int) es.length rfl rfl rfl rfl (by rw [hz2]; omega) (by unfold maxLen; omega) (Nat.le_refl _) ?_); intro W1 own1 hg1) | fail)
  have hG1 : Blk W1 W0.heap.size 3 (iC (List.replicate es.length 0)) := by
    have := made_blk own1
    rw [show (Value.int .i64 0).cells = #[Value.int .i64 0] from rfl, iC_made] at this
    exact this
  have hb1 : Below W0.heap.size W0 W1 := bel_own (Below.refl _ _) hg1 (by intro k h; cases h)
  have hC1 := hC0.below hb1
  have hT1 := hT0.below hb1
  have hB1 := bel_trans hb0 hb1
  rw [hsz0] at hG1
  clear own1 hg1 hb1 hC0 hT0 hb0 x1 xl
  go_wp2
  clear hsz0
  go_loopw [18] (fun iv wr => ∃ (k : Nat) (l : List Int), iv = .int .i64 (k : Int) ∧ k ≤ es.length ∧ l.length = es.length ∧ (∀ i (h1 : i < l.length) (h2 : i < es.length), l[i] = if i < k then base0 es[i] else 0) ∧ Below W.heap.size W wr ∧ Blk wr W.heap.size 27 #[.slice A1 n1 k1, .slice A2 n2 k2, .slice A3 ks.length k3] ∧ Blk wr (W.heap.size + 1) 56 #[.slice B1 es.length d1, .slice B2 m2 d2, .slice B3 m3 d3] ∧ Blk wr (W.heap.size + 2) 3 (iC l)) (fun iv _ => es.length - (intOf iv).toNat)
  case atStart => exact ⟨0, List.replicate es.length 0, rfl, by omega, by simp, fun i h1 h2 => by simp, hB1, hC1, hT1, hG1⟩
  case round =>
    obtain ⟨k, l, rfl, hk, hll, hlv, hBr, hCr, hTr, hGr⟩ := hrel
    clear hB1 hC1 hG1 hT1
    by_cases hlt : k < es.length
    · have q0 : (0 : Int) ≤ (k : Int) := by omega
      have q1 : (k : Int) < (es.length : Int) := by omega
      have x0 : wr.cell? ⟨W.heap.size + 1, 0, none⟩ = some (.slice B1 es.length d1) := hTr.cell 0
      have x1 : wr.cell? ⟨W.heap.size + 1, 1, none⟩ = some (.slice B2 m2 d2) := hTr.cell 1
      have x2 : wr.cell? ⟨W.heap.size + 1, 2, none⟩ = some (.slice B3 m3 d3) := hTr.cell 2
      have xl := hTr.lt
      have cE := edged_any wr B1 B2 B3 m2 m3 d1 d2 d3 es (k : Int) (hE.below hBr)
      have hed : edgedB es (k : Int) = ((es[k].f == -1) != (es[k].g == -1)) := by simp [edgedB, hlt]
      have hbs : base0 es[k] = if ((es[k].f == -1) != (es[k].g == -1)) = true then 255 else 0 := rfl
      rw [hed] at cE
      replace hlv := Lib.hid hlv
      clear hed
      have hkl2 : k < l.length := by omega
      generalize ((es[k].f == -1) != (es[k].g == -1)) = bb at *
      replace hbs := Lib.hid hbs
      replace hll := Lib.hid hll
      cases bb with
      | false =>
        go_wp2_with (first | (go_at_call 49; (with_reducible refine cE.mono ?_); rintro e W3 ⟨rfl, hb3⟩) | fail)
        go_roundw
        case rel =>
          refine ⟨k + 1, l, by go_num, by omega, hll.out, fun i h1 h2 => ?_, bel_trans hBr hb3, hCr.below hb3, hTr.below hb3, hGr.below hb3⟩
          rw [hlv.out i h1 h2]
          by_cases e : i = k
          · subst e; rw [if_neg (by omega), if_pos (by omega), hbs.out]; rfl
          · by_cases e2 : i < k
            · rw [if_pos e2, if_pos (by omega)]
            · rw [if_neg e2, if_neg (by omega)]
        case measure => simp [intOf]; omega
      | true =>
        go_upto_region 6 with (first | (go_at_call 49; (with_reducible refine cE.mono ?_); rintro e W3 ⟨rfl, hb3⟩) | fail)
        have hG3 := hGr.below hb3
        have g0 := (hG3.cell k).trans (iC_at hkl2)
        have e0 := hG3.frozen k
        have gl := hG3.lt
        have hB3 := bel_trans hBr hb3
        have hC3 := hCr.below hb3
        have hT3 := hTr.below hb3
        clear hGr hBr hCr hTr hb3 cE
        go_wp2
        go_roundw
        case rel =>
          refine ⟨k + 1, l.set k 255, by go_num, by omega, by simp [hll.out], fun i h1 h2 => ?_, bel_set hB3 (p := ⟨W.heap.size + 2, _, none⟩) (by simp) _, hC3.far (b := W.heap.size + 2) _ _ (by omega), hT3.far (b := W.heap.size + 2) _ _ (by omega), ?_⟩
          · rw [List.getElem_set]
            by_cases e : k = i
            · subst e; rw [if_pos rfl, if_pos (by omega), hbs.out]; rfl
            · rw [if_neg e, hlv.out i (by simpa using h1) h2]
              by_cases e2 : i < k
              · rw [if_pos e2, if_pos (by omega)]
              · rw [if_neg e2, if_neg (by omega)]
          · rw [← iC_set]; exact hG3.set k _
        case measure => simp [intOf]; omega
    · obtain rfl : k = es.length := by omega
      have hl0 : l = es.map base0 := by
        apply List.ext_getElem
        · simp [hll]
        · intro i h1 h2
          rw [hlv i h1 (by omega), if_pos (by omega)]; simp
      subst hl0
      clear hlv hll
      have x0 : wr.cell? ⟨W.heap.size, 2, none⟩ = some (.slice A3 ks.length k3) := hCr.cell 2
      have xl := hCr.lt
      go_wp2
      go_loopw [31] (fun iv wq => ∃ (j : Nat) (l : List Int), iv = .int .i64 (j : Int) ∧ j ≤ ks.length ∧ l.length = es.length ∧ sharpP es ks = sharpK es l (ks.drop j) ∧ Below W.heap.size W wq ∧ Blk wq (W.heap.size + 1) 56 #[.slice B1 es.length d1, .slice B2 m2 d2, .slice B3 m3 d3] ∧ Blk wq (W.heap.size + 2) 3 (iC l)) (fun iv _ => ks.length - (intOf iv).toNat)
      case atStart => exact ⟨0, es.map base0, rfl, by omega, by simp, rfl, hBr, hTr, hGr⟩
      case round =>
        obtain ⟨j, l, rfl, hj, hll, hsk, hBq, hTq, hGq⟩ := hrel
        clear hBr hTr hGr hCr x0 xl
        rename World => wq
        by_cases hjl : j < ks.length
        · obtain ⟨bk, ok, rfl, hbk, c1, c2, c3⟩ := (hK.below hBq).at_ j hjl
          rw [List.drop_eq_getElem_cons hjl, sharpK] at hsk
          generalize ks[j] = p at *
          have q0 : (0 : Int) ≤ (j : Int) := by omega
          have q1 : (j : Int) < (ks.length : Int) := by omega
          have hb4 : Below wq.heap.size wq (wq.alloc (.cells #[.int .i64 p.x, .int .i64 p.y, .int .i64 p.z] 109)) := bel_alloc (Below.refl _ _) _
          have hP4 : Blk (wq.alloc (.cells #[.int .i64 p.x, .int .i64 p.y, .int .i64 p.z] 109)) wq.heap.size 109 #[.int .i64 p.x, .int .i64 p.y, .int .i64 p.z] := Blk.new _ _ _ _ rfl
          have hB4 := bel_trans hBq hb4
          have hT4 := hTq.below hb4
          have hG4 := hGq.below hb4
          have hTl := hTq.lt
          have hGl := hGq.lt
          clear hBq hTq hGq
          replace hsk := Lib.hid hsk
          go_upto_region 11 with (fail)
          generalize wq.alloc (.cells #[.int .i64 p.x, .int .i64 p.y, .int .i64 p.z] 109) = W4 at *
          obtain ⟨S, hS⟩ : ∃ S, wq.heap.size = S := ⟨_, rfl⟩
          simp only [hS] at *
          have x0 : W4.cell? ⟨W.heap.size + 1, 0, none⟩ = some (.slice B1 es.length d1) := hT4.cell 0
          have x1 : W4.cell? ⟨W.heap.size + 1, 1, none⟩ = some (.slice B2 m2 d2) := hT4.cell 1
          have x2 : W4.cell? ⟨W.heap.size + 1, 2, none⟩ = some (.slice B3 m3 d3) := hT4.cell 2
          have xl := hT4.lt
          have y0 : W4.cell? ⟨S, 0, none⟩ = some (.int .i64 p.x) := hP4.cell 0
          have y1 : W4.cell? ⟨S, 1, none⟩ = some (.int .i64 p.y) := hP4.cell 1
          have yl := hP4.lt
          have cF := find_any W4 B1 B2 B3 m2 m3 d1 d2 d3 es p.x p.y (hE.below hB4) hl hs
          go_upto_region 12 with (first | (go_at_call 50; (with_reducible refine cF.mono ?_); rintro e W5 ⟨k, ok, rfl, hfp, hb5⟩) | fail)
          have hP5 := hP4.below hb5
          have hB5 := bel_trans hB4 hb5
          have hT5 := hT4.below hb5
          have hG5 := hG4.below hb5
          clear hP4 hB4 hT4 hG4 hb4 hb5 x0 x1 x2 xl y0 y1 yl cF c1 c2 c3
          rcases find_eix hs hfp with ⟨rfl, rfl, hel⟩ | ⟨rfl, rfl, hel⟩
          · have hsk2 := Lib.hid (hsk.out.trans (if_pos hel))
            have hkl2 : eix es p.x p.y < l.length := by omega
            have hgd : l.getD (eix es p.x p.y) 0 = l[eix es p.x p.y] := by rw [List.getD_eq_getElem?_getD, List.getElem?_eq_getElem hkl2]; rfl
            rw [hgd] at hsk2
            generalize eix es p.x p.y = k at *
            have g0 := (hG5.cell k).trans (iC_at hkl2)
            have e0 := hG5.frozen k
            have gl := hG5.lt
            have z0 : W5.cell? ⟨S, 2, none⟩ = some (.int .i64 p.z) := hP5.cell 2
            have zl := hP5.lt
            have q2 : (0 : Int) ≤ (k : Int) := by omega
            have q3 : (k : Int) < (es.length : Int) := by omega
            generalize l[k] = lk at *
            replace hll := Lib.hid hll
            clear hsk hfp hgd
            go_upto_region 14 with (fail)
            refine wp_region_tail 9 ?_ (by kernel_rfl) (by kernel_rfl) (by kernel_rfl) (fun x => ?_) (fun x => ?_)
            rotate_left
            · simp only [List.take_succ_cons, List.take_zero]
              repeat (go_big_quiet_step (((fail))))
              refine wpQuiet_nil ?_
              exact rfl
            simp only [List.drop_succ_cons, List.drop_zero]
            try simp only [Act.put, List.setIfInBounds_toArray, List.set_cons_succ, List.set_cons_zero]
            have hB6 := bel_grow hB5 x
            have hT6 := hT5.grow x
            have hG6 := hG5.grow x
            have r0 : (grow W5 x).cell? ⟨W.heap.size + 2, k, none⟩ = some (.int .i64 lk) := by rw [hG6.cell, ← hG5.cell]; exact g0
            generalize grow W5 x = W6 at *
            have f0 := hG6.frozen k
            have fl := hG6.lt
            go_wp2
            go_roundw
            case rel =>
              refine ⟨j + 1, l.set k (max lk p.z), by go_num, by omega, by simp [hll.out], hsk2.out, bel_set hB6 (p := ⟨W.heap.size + 2, _, none⟩) (by simp) _, hT6.far (b := W.heap.size + 2) _ _ (by omega), ?_⟩
              rw [← iC_set]; exact hG6.set k _
            case measure => simp [intOf]; omega
          · have hsk2 := hsk.out.trans (if_neg hel)
            go_wp2
            go_ret2
            exact ⟨hB5, .inl ⟨hsk2, rfl⟩⟩
        · obtain rfl : j = ks.length := by omega
          simp only [List.drop_length, sharpK] at hsk
          go_wp2
          go_ret2
          exact ⟨hBq, .inr ⟨l, W.heap.size + 2, hsk, by omega, hGq, rfl⟩⟩
def farB (p : P3) : Bool := !wiB p.x p.y p.z 65536
theorem far_iff (p : P3) : farB p = false ↔ InP 65536 p := by
  unfold farB
  rw [Bool.not_eq_false', wiB_iff]
  unfold InP
  constructor
  · rintro ⟨_, h⟩; exact h
  · intro h; exact ⟨by omega, h⟩
theorem far_G (p : P3) : Gives Try.prog 37 #[.agg #[.int .i64 p.x, .int .i64 p.y, .int .i64 p.z]] (.bool (farB p)) := by
  have k1 := vWithin_any p.x p.y p.z 65536 (by omega)
  unfold farB
  refine Gives.mk fun w => ?_
  go_enter Try.func37, Try.ntmps37
  go_wp2_with (first | (go_at_call 6; (with_reducible refine (k1.at_ _).mono ?_); rintro e w' ⟨rfl, xg, rfl⟩) | fail)
  go_ret
  exact ⟨by simp, (by repeat (first | exact Below.refl _ _ | refine bel_then ?_ _ | refine bel_grow ?_ _ | refine bel_alloc ?_ _ | refine bel_drew ?_ | refine bel_set ?_ (by simp) _ | refine bel_setRow ?_ (by first | omega | (simp; done) | (refine Nat.le_trans ?_ (top_le _ _); simp; done) | (refine Nat.le_succ_of_le (Nat.le_trans ?_ (top_le _ _)); simp; done) | (refine Nat.le_trans ?_ (top_le _ _); simp only [World.size_alloc]; refine Nat.le_succ_of_le (Nat.le_trans ?_ (top_le _ _)); simp; done)) _))⟩
set_option maxHeartbeats 1000000 in
theorem index_far (W : World) (A : Option Addr) (c : Nat) (vs : List P3) (hV : VL W A vs) (hl : vs.length < 1099511627776) :
    Calls Try.prog 51 #[.slice A vs.length c, .func (.func 37) #[] #[]] W fun e W' => Below W.heap.size W W' ∧ ∃ i : Int, e = .returned (.int .i64 i) ∧ (i < 0 ↔ vs.any farB = false) ∧ -1 ≤ i := by
  go_enter Try.func51, Try.ntmps51
  go_wp2
  go_loopw [8] (fun iv wr => ∃ k : Nat, iv = .int .i64 (k : Int) ∧ k ≤ vs.length ∧ (vs.take k).any farB = false ∧ Below W.heap.size W wr) (fun iv _ => vs.length - (intOf iv).toNat)
  case atStart => exact ⟨0, rfl, by omega, by simp, Below.refl _ _⟩
  case round =>
    obtain ⟨k, rfl, hk, hno, hBr⟩ := hrel
    by_cases hlt : k < vs.length
    · obtain ⟨bv, ov, rfl, hlv, c1, c2, c3⟩ := (hV.below hBr).at_ k hlt
      have htk : vs.take (k + 1) = vs.take k ++ [vs[k]] := List.take_succ_eq_append_getElem hlt
      have hmem := List.getElem_mem hlt
      generalize vs[k] = p at *
      have q0 : (0 : Int) ≤ (k : Int) := by omega
      have q1 : (k : Int) < (vs.length : Int) := by omega
      have kF := far_G p
      replace htk := Lib.hid htk
      replace hno := Lib.hid hno
      cases hb : farB p with
      | true =>
        rw [hb] at kF
        go_wp2_with (first | (go_at_call 37; (with_reducible refine (kF.at_ _).mono ?_); rintro e w' ⟨rfl, xg, rfl⟩) | fail)
        go_ret
        exact ⟨bel_grow hBr _, (k : Int), rfl, ⟨fun h => by omega, fun h => by rw [List.any_eq_false] at h; have := h p hmem; rw [hb] at this; simp at this⟩, by omega⟩
      | false =>
        rw [hb] at kF
        go_wp2_with (first | (go_at_call 37; (with_reducible refine (kF.at_ _).mono ?_); rintro e w' ⟨rfl, xg, rfl⟩) | fail)
        go_roundw
        case rel => exact ⟨k + 1, by go_num, by omega, by rw [htk.out, List.any_append, hno.out]; simp [hb], bel_grow hBr _⟩
        case measure => simp [intOf]; omega
    · obtain rfl : k = vs.length := by omega
      rw [List.take_length] at hno
      replace hno := Lib.hid hno
      go_wp2
      go_ret
      exact ⟨hBr, -1, rfl, ⟨fun _ => hno.out, fun _ => by omega⟩, by omega⟩
theorem far_any (W : World) (A : Option Addr) (c : Nat) (vs : List P3) (hV : VL W A vs) (hl : vs.length < 1099511627776) :
    Calls Try.prog 24 #[.slice A vs.length c, .func (.func 37) #[] #[]] W fun e W' => Below W.heap.size W W' ∧ e = .returned (.bool (vs.any farB)) := by
  have cI := index_far W A c vs hV hl
  replace cI := Lib.hid cI
  go_enter Try.func24, Try.ntmps24
  go_wp2_with (first | (go_at_call 51; (with_reducible refine cI.out.mono ?_); rintro e W2 ⟨hb2, i, rfl, hi, hi1⟩; replace hi := Lib.hid hi) | fail)
  go_ret
  refine ⟨hb2, ?_⟩
  have := hi.out
  cases hv : vs.any farB with
  | true =>
    rw [hv] at this
    have h2 : ¬ i < 0 := fun h => by have := this.1 h; cases this
    simp; omega
  | false =>
    rw [hv] at this
    have h2 := this.2 rfl
    simp; omega
end Go.Proofs.Ytpdnaceggpdleab
namespace Go.Proofs.Ytpdnaceggpdleab
open Go.RowKit
set_option linter.unusedVariables false
set_option linter.unusedSimpArgs false
theorem wp_value {P : Program} {o : Oper} {a : Act} {w w' : World} {v : Value} {K : Act → World → Prop} {Q : Exit → Act → World → Prop} (h : (execOp a.eval o).run P w = .ok (.value v) w') (hk : K (a.put o.dst v) w') : o.wp P a w K Q := by
  unfold Oper.wp
  rw [h]
  exact hk
theorem wp_enter {P : Program} {o : Oper} {a : Act} {w w' : World} {f : FuncId} {args : Array Value} {R : Value → World → Prop} {K : Act → World → Prop} {Q : Exit → Act → World → Prop} (h : (execOp a.eval o).run P w = .ok (.enter f args) w') (hc : Calls P f args w' fun e w'' => ∃ v, e = .returned v ∧ R v w'') (hk : ∀ v w'', R v w'' → K (a.put o.dst v) w'') : o.wp P a w K Q := by
  unfold Oper.wp
  rw [h]
  exact hc.mono fun e w'' ⟨v, he, hr⟩ => by
    subst he
    exact hk v w'' hr
theorem bel_dr {a w : World} (h : Below a.heap.size a w) (d : Nat) : Below a.heap.size a { w with drawn := d } := ⟨h.os, h.tape, h.output, h.size, h.block⟩
end Go.Proofs.Ytpdnaceggpdleab
namespace Go.Proofs.Ytpdnaceggpdleab
open Go.RowKit
set_option linter.unusedVariables false
set_option linter.unusedSimpArgs false
section
variable {P : Program} {md : Region.Mode} {ops : Array Oper} {Q : Exit → Act → World → Prop} {R : Nat → World → Value → Prop} {a0 : Act} {w0 : World}
/-- What the operations that are done have left. -/
structure MonoI (ops : Array Oper) (R : Nat → World → Value → Prop) (a0 : Act) (w0 : World) (listed : Array Bool) (a : Act) (w : World) : Prop where
  bel : Below w0.heap.size w0 w
  size : a.tmps.size = a0.tmps.size
  defers : a.defers = a0.defers
  keep : ∀ t, (∀ (j : Nat) (o : Oper), ops[j]? = some o → o.dst ≠ some t) → a.tmps[t]? = a0.tmps[t]?
  got : ∀ (j : Nat) (o : Oper) (d : Tmp), ops[j]? = some o → o.dst = some d → listed.getD j false = true → ∃ v, a.tmps[d]? = some v ∧ R j w v
/-- An operation, once those that it waits for are done. -/
def MonoS (P : Program) (md : Region.Mode) (ops : Array Oper) (R : Nat → World → Value → Prop) (a0 : Act) (w0 : World) (Q : Exit → Act → World → Prop) (i : Nat) (o : Oper) : Prop :=
  o.guard = none ∧ ∀ (a : Act) (w : World), Below w0.heap.size w0 w → a.tmps.size = a0.tmps.size → a.defers = a0.defers → (∀ t, (∀ (j : Nat) (o : Oper), ops[j]? = some o → o.dst ≠ some t) → a.tmps[t]? = a0.tmps[t]?) →
    (∀ e ∈ o.after, Region.binds md e = true → ∀ (oj : Oper) (d : Tmp), ops[e.on]? = some oj → oj.dst = some d → ∃ v, a.tmps[d]? = some v ∧ R e.on w v) →
    o.wp P a w (fun a' w' => ∃ v, a' = a.put o.dst v ∧ Below w.heap.size w w' ∧ (∀ d, o.dst = some d → R i w' v)) Q
theorem put_tmps (a : Act) (d : Option Tmp) (v : Value) : (a.put d v).defers = a.defers ∧ (a.put d v).tmps.size = a.tmps.size ∧ (∀ t, d ≠ some t → (a.put d v).tmps[t]? = a.tmps[t]?) ∧ (∀ t, d = some t → t < a.tmps.size → (a.put d v).tmps[t]? = some v) := by
  cases d with
  | none => exact ⟨rfl, rfl, fun t _ => rfl, fun t h => by cases h⟩
  | some t0 =>
    refine ⟨rfl, by simp [Act.put], fun t h => ?_, fun t h ht => ?_⟩
    · have : t0 ≠ t := fun e => h (by rw [e])
      simp [Act.put, Array.getElem?_setIfInBounds_ne this]
    · cases h
      simp [Act.put, ht]
theorem MonoI.step {listed : Array Bool} {a : Act} {w w' : World} {i : Nat} {o : Oper} {v : Value} (h : MonoI ops R a0 w0 listed a w) (hi : ops[i]? = some o)
    (hmono : ∀ (j : Nat) (w w' : World) (v : Value), Below w.heap.size w w' → R j w v → R j w' v) (hd : ∀ (i j : Nat) (oi oj : Oper) (d : Tmp), ops[i]? = some oi → ops[j]? = some oj → oi.dst = some d → oj.dst = some d → i = j) (hsz : ∀ (j : Nat) (oj : Oper) (d : Tmp), ops[j]? = some oj → oj.dst = some d → d < a0.tmps.size)
    (hB : Below w.heap.size w w') (hR : ∀ d, o.dst = some d → R i w' v) : MonoI ops R a0 w0 (listed.setIfInBounds i true) (a.put o.dst v) w' := by
  obtain ⟨p1, p2, p3, p4⟩ := put_tmps a o.dst v
  refine ⟨h.bel.trans (hB.mono h.bel.size), p2.trans h.size, p1.trans h.defers, fun t ht => (p3 t (ht i o hi)).trans (h.keep t ht), fun j oj d hj hjd hl => ?_⟩
  by_cases hij : i = j
  · subst hij
    obtain rfl := Option.some.inj (hi.symm.trans hj)
    exact ⟨v, p4 d hjd (by rw [h.size]; exact hsz i o d hi hjd), hR d hjd⟩
  · rw [getD_set_ne false hij] at hl
    obtain ⟨u, hu, hr⟩ := h.got j oj d hj hjd hl
    refine ⟨u, (p3 d (fun e => hij (hd i j o oj d hi hj e hjd))).trans hu, hmono j w w' u hB hr⟩
/-- How many operations are not done yet. -/
def left (listed : Array Bool) : Nat := (listed.toList.filter fun b => !b).length
theorem left_set {listed : Array Bool} {i : Nat} (h : listed.getD i true = false) : left (listed.setIfInBounds i true) + 1 = left listed := by
  unfold left
  have hi : i < listed.size := by
    rcases Nat.lt_or_ge i listed.size with q | q
    · exact q
    · simp [Array.getD, Nat.not_lt.2 q] at h
  have hv : listed[i] = false := by simpa [Array.getD, hi] using h
  have hl : i < listed.toList.length := by simpa using hi
  have e1 : listed.toList = listed.toList.take i ++ false :: listed.toList.drop (i + 1) := by
    have := List.take_append_drop i listed.toList
    rw [List.drop_eq_getElem_cons hl] at this
    have hv2 : listed.toList[i] = false := by simpa using hv
    rw [hv2] at this
    exact this.symm
  have e2 : (listed.setIfInBounds i true).toList = listed.toList.take i ++ true :: listed.toList.drop (i + 1) := by
    rw [Array.toList_setIfInBounds, List.set_eq_take_append_cons_drop, if_pos hl]
  rw [e2]
  conv => rhs; rw [e1]
  simp [List.filter_append, List.filter_cons]
  omega
/-- Each operation of a list, with its number. -/
def allI (X : Nat → Oper → Prop) : Nat → List Oper → Prop
  | _, [] => True
  | k, o :: l => X k o ∧ allI X (k + 1) l
theorem allI_get {X : Nat → Oper → Prop} : ∀ (l : List Oper) (k : Nat), allI X k l → ∀ (i : Nat) (o : Oper), l[i]? = some o → X (k + i) o
  | [], _, _, i, o, h => by simp at h
  | x :: l, k, ⟨h1, h2⟩, i, o, h => by
    cases i with
    | zero => simp at h; subst h; exact h1
    | succ i =>
      have := allI_get l (k + 1) h2 i o (by simpa using h)
      rw [show k + (i + 1) = k + 1 + i by omega]; exact this
theorem allI_arr {X : Nat → Oper → Prop} {l : List Oper} (h : allI X 0 l) : ∀ (i : Nat) (o : Oper), l.toArray[i]? = some o → X i o := fun i o hi => by
  have := allI_get l 0 h i o (by simpa using hi)
  rwa [Nat.zero_add] at this
/-- Do the edges go back, are the slots apart and within the frame, is nothing guarded? (closed facts) -/
def edgesB (l : List Oper) : Bool := l.zipIdx.all fun x => x.1.after.all fun e => decide (e.on < x.2)
def dstB (l : List Oper) (n : Nat) : Bool := (l.filterMap (·.dst)).all (fun d => decide (d < n)) && decide (l.filterMap (·.dst)).Nodup
theorem edges_of {l : List Oper} (h : edgesB l = true) : ∀ (i : Nat) (o : Oper), l.toArray[i]? = some o → ∀ e ∈ o.after, Region.binds .any e = true → e.on < i := fun i o hi e he _ => by
  unfold edgesB at h
  rw [List.all_eq_true] at h
  have hm : (o, i) ∈ l.zipIdx := by
    rw [List.mem_zipIdx_iff_getElem?]
    simpa using hi
  have := h _ hm
  rw [Array.all_eq_true_iff_forall_mem] at this
  simpa using this e he
theorem dst_lt {l : List Oper} {n : Nat} (h : dstB l n = true) : ∀ (j : Nat) (oj : Oper) (d : Tmp), l.toArray[j]? = some oj → oj.dst = some d → d < n := fun j oj d hj hd => by
  unfold dstB at h
  simp only [Bool.and_eq_true, List.all_eq_true] at h
  have hm : d ∈ l.filterMap (·.dst) := List.mem_filterMap.2 ⟨oj, List.mem_of_getElem? (by simpa using hj), hd⟩
  simpa using h.1 d hm
theorem dst_one {l : List Oper} {n : Nat} (h : dstB l n = true) : ∀ (i j : Nat) (oi oj : Oper) (d : Tmp), l.toArray[i]? = some oi → l.toArray[j]? = some oj → oi.dst = some d → oj.dst = some d → i = j := by
  unfold dstB at h
  simp only [Bool.and_eq_true, decide_eq_true_eq] at h
  have hn := h.2
  clear h
  intro i j oi oj d hi hj hdi hdj
  replace hi : l[i]? = some oi := by simpa using hi
  replace hj : l[j]? = some oj := by simpa using hj
  induction l generalizing i j with
  | nil => simp at hi
  | cons x l ih =>
    have hmem : ∀ (k : Nat) (o : Oper), l[k]? = some o → o.dst = some d → d ∈ l.filterMap (·.dst) := fun k o hk hd => List.mem_filterMap.2 ⟨o, List.mem_of_getElem? hk, hd⟩
    have hn2 : (l.filterMap (·.dst)).Nodup := by
      cases hx : x.dst with
      | none => rw [List.filterMap_cons_none hx] at hn; exact hn
      | some y => rw [List.filterMap_cons_some hx] at hn; exact (List.nodup_cons.1 hn).2
    have hno : x.dst = some d → d ∉ l.filterMap (·.dst) := fun hx => by
      rw [List.filterMap_cons_some hx] at hn; exact (List.nodup_cons.1 hn).1
    cases i with
    | zero =>
      cases j with
      | zero => rfl
      | succ j =>
        simp at hi; subst hi
        exact absurd (hmem j oj (by simpa using hj) hdj) (hno hdi)
    | succ i =>
      cases j with
      | zero =>
        simp at hj; subst hj
        exact absurd (hmem i oi (by simpa using hi) hdi) (hno hdj)
      | succ j => rw [ih hn2 i j (by simpa using hi) (by simpa using hj)]
theorem eval_tmp {a : Act} {d : Tmp} {v : Value} (h : a.tmps[d]? = some v) : a.eval (.tmp d) = v := by
  simp [Act.eval, h]
/-- An operation that makes a value, and perhaps blocks. -/
theorem mono_val {i : Nat} {o : Oper} (hg : o.guard = none) (h : ∀ (a : Act) (w : World), Below w0.heap.size w0 w → (∀ t, (∀ (j : Nat) (o : Oper), ops[j]? = some o → o.dst ≠ some t) → a.tmps[t]? = a0.tmps[t]?) →
    (∀ e ∈ o.after, Region.binds md e = true → ∀ (oj : Oper) (d : Tmp), ops[e.on]? = some oj → oj.dst = some d → ∃ v, a.tmps[d]? = some v ∧ R e.on w v) → ∃ v w', (execOp a.eval o).run P w = .ok (.value v) w' ∧ Below w.heap.size w w' ∧ (∀ d, o.dst = some d → R i w' v)) : MonoS P md ops R a0 w0 Q i o :=
  ⟨hg, fun a w hB _ _ hk hp => by
    obtain ⟨v, w', hr, hb, hR⟩ := h a w hB hk hp
    exact wp_value hr ⟨v, rfl, hb, hR⟩⟩
/-- A call. -/
theorem mono_call {i : Nat} {o : Oper} (hg : o.guard = none) (h : ∀ (a : Act) (w : World), Below w0.heap.size w0 w → (∀ t, (∀ (j : Nat) (o : Oper), ops[j]? = some o → o.dst ≠ some t) → a.tmps[t]? = a0.tmps[t]?) →
    (∀ e ∈ o.after, Region.binds md e = true → ∀ (oj : Oper) (d : Tmp), ops[e.on]? = some oj → oj.dst = some d → ∃ v, a.tmps[d]? = some v ∧ R e.on w v) → ∃ f args, (execOp a.eval o).run P w = .ok (.enter f args) w ∧ Calls P f args w fun e w' => ∃ v, e = .returned v ∧ Below w.heap.size w w' ∧ (∀ d, o.dst = some d → R i w' v)) : MonoS P md ops R a0 w0 Q i o :=
  ⟨hg, fun a w hB _ _ hk hp => by
    obtain ⟨f, args, hr, hc⟩ := h a w hB hk hp
    exact wp_enter (R := fun v w' => Below w.heap.size w w' ∧ (∀ d, o.dst = some d → R i w' v)) hr (hc.mono fun e w' ⟨v, he, hb, hR⟩ => ⟨v, he, hb, hR⟩) fun v w' hR => ⟨v, rfl, hR⟩⟩
theorem keep_of {l : List Oper} {t : Tmp} (h : (l.all fun o => o.dst != some t) = true) : ∀ (j : Nat) (o : Oper), l.toArray[j]? = some o → o.dst ≠ some t := fun j o hj => by
  rw [List.all_eq_true] at h
  have := h o (List.mem_of_getElem? (by simpa using hj))
  simpa using this
/-- A slot that holds just this. -/
def PE (x : Value) : World → Value → Prop := fun _ v => v = x
/-- A slot that holds a row of its own of n cells. -/
def PS (cs : Array Value) (n : Nat) : World → Value → Prop := fun w v => ∃ b, v = .slice (some ⟨b, 0, none⟩) n n ∧ b < w.heap.size ∧ ∀ i, w.cell? ⟨b, i, none⟩ = cs[i]?
def Stays (p : World → Value → Prop) : Prop := ∀ (w w' : World) (v : Value), Below w.heap.size w w' → p w v → p w' v
theorem PE.stays (x : Value) : Stays (PE x) := fun _ _ _ _ h => h
theorem PS.stays (cs : Array Value) (n : Nat) : Stays (PS cs n) := fun w w' v hB ⟨b, e, hb, hc⟩ => ⟨b, e, Nat.lt_of_lt_of_le hb hB.size, fun i => (hB.cell (p := ⟨b, i, none⟩) hb).trans (hc i)⟩
/-- The facts of a region's slots, as a list. -/
def RL (ps : List (World → Value → Prop)) : Nat → World → Value → Prop := fun j => ps.getD j fun _ _ => True
theorem RL.stays {ps : List (World → Value → Prop)} (h : ∀ p ∈ ps, Stays p) : ∀ (j : Nat) (w w' : World) (v : Value), Below w.heap.size w w' → RL ps j w v → RL ps j w' v := fun j w w' v hB hr => by
  unfold RL at *
  by_cases hj : j < ps.length
  · have e : ps.getD j (fun _ _ => True) = ps[j] := by simp [List.getD, hj]
    rw [e] at hr ⊢
    exact h _ (List.getElem_mem hj) w w' v hB hr
  · have e : ps.getD j (fun _ _ => True) = fun _ _ => True := by simp [List.getD, Nat.le_of_not_lt hj]
    rw [e]; trivial
/-- The slots ds of a frame's cells set, each to what f says. -/
def setAll (f : Tmp → Value) : List Tmp → Array Value → Array Value
  | [], b => b
  | d :: ds, b => setAll f ds (b.setIfInBounds d (f d))
theorem setAll_size (f : Tmp → Value) : ∀ (ds : List Tmp) (b : Array Value), (setAll f ds b).size = b.size
  | [], b => rfl
  | d :: ds, b => by unfold setAll; rw [setAll_size f ds]; simp
theorem setAll_get (f : Tmp → Value) : ∀ (ds : List Tmp) (b : Array Value) (t : Nat), t < b.size → (setAll f ds b)[t]? = if t ∈ ds then some (f t) else b[t]?
  | [], b, t, _ => by simp [setAll]
  | d :: ds, b, t, ht => by
    unfold setAll
    rw [setAll_get f ds _ t (by simpa using ht)]
    by_cases h1 : t ∈ ds
    · simp [h1]
    · by_cases h2 : t = d
      · subst h2
        simp [h1, ht]
      · have : d ≠ t := fun e => h2 e.symm
        simp [h1, h2, Array.getElem?_setIfInBounds_ne this]
/-- The frame behind the region, written out: the region's own slots by f, all others as they were. -/
theorem frame_eq {l : List Oper} {a : Act} (hsz : a.tmps.size = a0.tmps.size) (hdf : a.defers = a0.defers) (hk : ∀ t, (∀ (j : Nat) (o : Oper), l.toArray[j]? = some o → o.dst ≠ some t) → a.tmps[t]? = a0.tmps[t]?) (ds : List Tmp) (hds : l.filterMap (·.dst) = ds) :
    ∃ f : Tmp → Value, (∀ d v, a.tmps[d]? = some v → f d = v) ∧ a = ⟨setAll f ds a0.tmps, a0.defers⟩ := by
  refine ⟨fun d => (a.tmps[d]?).getD undef, fun d v h => by simp [h], ?_⟩
  have e : a.tmps = setAll (fun d => (a.tmps[d]?).getD undef) ds a0.tmps := by
    apply Array.ext_getElem?
    intro t
    by_cases ht : t < a0.tmps.size
    · rw [setAll_get _ _ _ _ ht]
      split
      · have : t < a.tmps.size := by omega
        simp [this]
      · rename_i hno
        refine hk t (fun j o hj hd => hno ?_)
        rw [← hds]
        exact List.mem_filterMap.2 ⟨o, List.mem_of_getElem? (by simpa using hj), hd⟩
    · rw [Array.getElem?_eq_none (by omega), Array.getElem?_eq_none (by rw [setAll_size]; omega)]
  cases a
  simp only at e hdf
  rw [← hdf]
  congr 1
end
end Go.Proofs.Ytpdnaceggpdleab
namespace Go.Proofs.Ytpdnaceggpdleab
open Go.RowKit
set_option linter.unusedVariables false
set_option linter.unusedSimpArgs false
set_option linter.unnecessarySimpa false
set_option maxRecDepth 100000


theorem own_empty (W : World) (base : Nat) (e : TypeId) (hb : base ≤ W.heap.size) : (W.alloc (.cells #[] e)).ownsRow base e 1 (.slice (some ⟨W.heap.size, 0, none⟩) 0 0) 0 [] :=
  ⟨rfl, .inr ⟨W.heap.size, 0, #[], rfl, hb, Blk.new _ _ _ _ rfl, Nat.le_refl _, by unfold maxLen; omega, rfl, rfl⟩⟩
theorem fm_congr {α β : Type} {f g : α → Option β} : ∀ (l : List α), (∀ x ∈ l, f x = g x) → l.filterMap f = l.filterMap g
  | [], _ => rfl
  | x :: l, h => by rw [List.filterMap_cons, List.filterMap_cons, h x (by simp), fm_congr l fun y hy => h y (List.mem_cons_of_mem _ hy)]
def rl (rs : List Bool) : List Int := (List.range rs.length).filterMap fun i => if rs.getD i false then some (i : Int) else none
/-- A slot that holds a row of these numbers. -/
def PI (ns : List Int) : World → Value → Prop := fun w v => ∃ A c, v = .slice A ns.length c ∧ IL w A ns
theorem PI.stays (ns : List Int) : Stays (PI ns) := fun _ _ _ hB ⟨A, c, e, h⟩ => ⟨A, c, e, h.below hB⟩
end Go.Proofs.Ytpdnaceggpdleab
namespace Go.Proofs.Ytpdnaceggpdleab
set_option linter.unusedVariables false
set_option linter.unusedSimpArgs false
def shF (n : Int) (gs : List (List Int)) : List (List Int) := gs.map fun x => x.map (· + n)
def both (n : Int) (fs gs : List (List Int)) : List (List Int) := fs ++ shF n gs
/-- What is known of the two: their ways lie apart. -/
structure Two (n m : Int) (fs gs : List (List Int)) : Prop where
  o1 : WalkOk n fs
  o2 : WalkOk m gs
theorem WalkOk.rng {n : Int} {fs : List (List Int)} (h : WalkOk n fs) {w : Way} (hw : w ∈ waysL 0 fs) : (0 ≤ w.a ∧ w.a < n) ∧ (0 ≤ w.b ∧ w.b < n) ∧ (0 ≤ w.c ∧ w.c < n) := by
  obtain ⟨d, hd⟩ := h.prev hw
  obtain ⟨d2, hd2⟩ := h.prev hd
  exact ⟨h.inr _ hd, h.inr _ hw, h.inr _ hd2⟩
theorem WalkOk.frng {n : Int} {fs : List (List Int)} (h : WalkOk n fs) {w : Way} (hw : w ∈ waysL 0 fs) : 0 ≤ w.f ∧ w.f < fs.length := by
  obtain ⟨j, hj, hm⟩ := (mem_waysL fs 0 w).1 hw
  have := waysF_fc hm
  omega
section
variable {n m : Int} {fs gs : List (List Int)} (h : Two n m fs gs)
include h
end
end Go.Proofs.Ytpdnaceggpdleab
