/- Find of the program and of the document. Package sub: each edge's sharpness; is a vertex out of its bounds? Regions held by a fact: an operation that is forced, by its value or its call. A region in any order whose operations may make blocks, and call what makes blocks: if what is known of each slot stays true in every later world, then behind the region it is known of all of them, whatever the order was. No program is imported. Rows of numbers that are the same; the vertices whose fans are round. Two surfaces beside one another, with vertices of their own. No program is imported. -/
import Derived.Deep.RegionHeld3
import Derived.Deep.MidRow
import Derived.Test.YtgmifpicilfcdabC0
import Derived.Test.YtgmifpicilfcdabC3
import Derived.Test.YtgmifpicilfcdabC8
namespace Go.Proofs.Ytgmifpicilfcdab
open Go.RowKit
set_option linter.unusedVariables false
set_option linter.unusedSimpArgs false
set_option linter.unnecessarySimpa false
set_option maxRecDepth 100000
open Go.Sort


/-- What Find answers: the place of the edge between two vertices, if there is one. -/
def FindP (es : List Ed) (a b : Int) (k : Nat) (ok : Bool) : Prop := (ok = true ∧ ∃ h : k < es.length, es[k].a = min a b ∧ es[k].b = max a b) ∨ (ok = false ∧ k = 0 ∧ ∀ e ∈ es, ¬(e.a = min a b ∧ e.b = max a b))
theorem FindP.one {es : List Ed} (hs : es.Pairwise ltE) {a b : Int} {k l : Nat} {p q : Bool} (h : FindP es a b k p) (g : FindP es a b l q) : k = l ∧ p = q := by
  rcases h with ⟨rfl, hk, h1, h2⟩ | ⟨rfl, rfl, h3⟩ <;> rcases g with ⟨rfl, hl, g1, g2⟩ | ⟨rfl, rfl, g3⟩
  · refine ⟨?_, rfl⟩
    apply Classical.byContradiction
    intro hne
    rcases Nat.lt_or_ge k l with hkl | hkl
    · have := List.pairwise_iff_getElem.1 hs k l hk hl hkl
      unfold ltE at this; omega
    · have := List.pairwise_iff_getElem.1 hs l k hl hk (by omega)
      unfold ltE at this; omega
  · exact absurd ⟨h1, h2⟩ (g3 _ (List.getElem_mem hk))
  · exact absurd ⟨g1, g2⟩ (h3 _ (List.getElem_mem hl))
  · exact ⟨rfl, rfl⟩
set_option maxHeartbeats 1000000 in
theorem find_any (W : World) (A1 A2 A3 : Option Addr) (n2 n3 c1 c2 c3 : Nat) (es : List Ed) (a b : Int) (hE : EL W A1 es) (hn : es.length < 1099511627776) (hs : es.Pairwise ltE) :
    Calls Try.prog 59 #[.agg #[.slice A1 es.length c1, .slice A2 n2 c2, .slice A3 n3 c3], .int .i64 a, .int .i64 b] W fun e W' => ∃ (k : Nat) (ok : Bool), e = .returned (.tuple #[.int .i64 (k : Int), .bool ok]) ∧ FindP es a b k ok ∧ Below W.heap.size W W' := by
  have hb0 : Below W.heap.size W (W.alloc (.cells #[.slice A1 es.length c1, .slice A2 n2 c2, .slice A3 n3 c3] 37)) := bel_alloc (Below.refl _ _) _
  have hbx : Blk (W.alloc (.cells #[.slice A1 es.length c1, .slice A2 n2 c2, .slice A3 n3 c3] 37)) W.heap.size 37 #[.slice A1 es.length c1, .slice A2 n2 c2, .slice A3 n3 c3] := Blk.new _ _ _ _ rfl
  go_enter Try.func59, Try.ntmps59
  go_upto_region 1 with (fail)
  generalize W.alloc (.cells #[.slice A1 es.length c1, .slice A2 n2 c2, .slice A3 n3 c3] 37) = W1 at *
  have x0 : W1.cell? ⟨W.heap.size, 0, none⟩ = some (.slice A1 es.length c1) := hbx.cell 0
  have xl := hbx.lt
  have cB := bsearch_any W1 A1 c1 es (min a b) (max a b) (hE.below hb0) hn hs
  replace cB := Lib.hid cB
  go_wp2_with (first | (go_at_call 77; (with_reducible refine cB.out.mono ?_); rintro e W2 ⟨i, hi, hlo, hhi, rfl, hb2⟩; replace hlo := Lib.hid hlo; replace hhi := Lib.hid hhi; obtain ⟨bb, hbb⟩ : ∃ bb, decide (i < es.length ∧ atE es i (min a b) (max a b) = 0) = bb := ⟨_, rfl⟩; rw [hbb]; replace hbb := Lib.hid hbb; cases bb) | fail)
  rotate_left
  · go_ret2
    obtain ⟨h1, h2⟩ := of_decide_eq_true hbb.out
    have h3 : cf2 es[i].a es[i].b (min a b) (max a b) = 0 := by simpa [atE, h1] using h2
    exact ⟨i, true, rfl, .inl ⟨rfl, h1, (cf2_zero _ _ _ _).1 h3⟩, bel_trans hb0 hb2⟩
  · go_ret2
    have hd := of_decide_eq_false hbb.out
    refine ⟨0, false, rfl, .inr ⟨rfl, rfl, fun e he hh => ?_⟩, bel_trans hb0 hb2⟩
    obtain ⟨k, hk, rfl⟩ := List.getElem_of_mem he
    have hz := (cf2_zero es[k].a es[k].b (min a b) (max a b)).2 hh
    rcases Nat.lt_or_ge k i with h1 | h1
    · have := hlo.out k hk h1; omega
    · by_cases e : k = i
      · subst e
        exact hd ⟨hk, by simpa [atE, hk] using hz⟩
      · have h2 := hhi.out i (by omega) (Nat.le_refl _)
        have h3 := List.pairwise_iff_getElem.1 hs i k (by omega) hk (by omega)
        have h4 : cf2 (es[i]'(by omega)).a (es[i]'(by omega)).b (min a b) (max a b) < 0 := by
          rw [cf2_neg]
          unfold ltE at h3
          omega
        omega
end Go.Proofs.Ytgmifpicilfcdab
namespace Go.Proofs.Ytgmifpicilfcdab
open Go.RowKit
set_option linter.unusedVariables false
set_option linter.unusedSimpArgs false
set_option linter.unnecessarySimpa false
set_option maxRecDepth 100000
/-- The cells of numbers. -/
def iC (l : List Int) : Array Value := (l.map (Value.int .i64)).toArray
theorem iC_at {l : List Int} {i : Nat} (h : i < l.length) : (iC l)[i]? = some (.int .i64 l[i]) := by simp [iC, h]
theorem iC_set (l : List Int) (i : Nat) (x : Int) : (iC l).setIfInBounds i (.int .i64 x) = iC (l.set i x) := by
  unfold iC
  rw [List.setIfInBounds_toArray, List.map_set]
theorem iC_made (n : Nat) : madeCells #[.int .i64 0] (n * 1) = iC (List.replicate n 0) := by
  apply Array.ext
  · simp [size_madeCells, iC]
  · intro i h1 h2
    simp [madeCells, iC, Nat.mod_one]
theorem IL_of {W : World} {g : Nat} {t : TypeId} {l : List Int} (h : Blk W g t (iC l)) : IL W (some ⟨g, 0, none⟩) l := fun hn => ⟨g, 0, rfl, h.lt, fun i hi => by rw [h.cell, Nat.zero_add, iC_at hi]⟩
theorem infoInt : (Try.prog.info? 3).map (fun i => (i.zero, i.size, i.bytes)) = some (some (.int .i64 0), 1, 8) := by kernel_rfl
theorem find_eix {es : List Ed} (hs : es.Pairwise ltE) {a b : Int} {k : Nat} {ok : Bool} (h : FindP es a b k ok) : (ok = true ∧ k = eix es a b ∧ eix es a b < es.length) ∨ (ok = false ∧ k = 0 ∧ ¬ eix es a b < es.length) := by
  by_cases hl : eix es a b < es.length
  · have := List.findIdx_getElem (w := hl)
    simp only [Bool.and_eq_true, beq_iff_eq] at this
    have h2 : FindP es a b (eix es a b) true := .inl ⟨rfl, hl, this.1, this.2⟩
    obtain ⟨e1, e2⟩ := h.one hs h2
    exact .inl ⟨e2, e1, hl⟩
  · rcases h with ⟨_, hk, h1, h2⟩ | ⟨h1, h2, _⟩
    · exact absurd (List.findIdx_lt_length_of_exists ⟨es[k], List.getElem_mem hk, by simp [h1, h2]⟩) hl
    · exact .inr ⟨h1, h2, hl⟩
set_option maxHeartbeats 4000000 in
theorem sharp_any (W : World) (A1 A2 A3 B1 B2 B3 : Option Addr) (n1 n2 m2 m3 k1 k2 k3 d1 d2 d3 : Nat) (es : List Ed) (ks : List P3) (hE : EL W B1 es) (hs : es.Pairwise ltE) (hK : VL W A3 ks) (hl : es.length < 1099511627776) (hkl : ks.length < 1099511627776) :
    Calls Try.prog 33 #[.agg #[.slice A1 n1 k1, .slice A2 n2 k2, .slice A3 ks.length k3], .agg #[.slice B1 es.length d1, .slice B2 m2 d2, .slice B3 m3 d3]] W fun e W' => Below W.heap.size W W' ∧ ((sharpP es ks = none ∧ e = .returned (.tuple #[.slice none 0 0, .int .i64 14])) ∨ ∃ sh g, sharpP es ks = some sh ∧ W.heap.size ≤ g ∧ Blk W' g 3 (iC sh) ∧ e = .returned (.tuple #[.slice (some ⟨g, 0, none⟩) es.length es.length, .int .i64 0])) := by
  obtain ⟨i0, hi0, hz0, hz1, hz2⟩ := info_parts infoInt
  have hb0 : Below W.heap.size W ((W.alloc (.cells #[.slice A1 n1 k1, .slice A2 n2 k2, .slice A3 ks.length k3] 26)).alloc (.cells #[.slice B1 es.length d1, .slice B2 m2 d2, .slice B3 m3 d3] 37)) := bel_alloc (bel_alloc (Below.refl _ _) _) _
  have hC0 : Blk ((W.alloc (.cells #[.slice A1 n1 k1, .slice A2 n2 k2, .slice A3 ks.length k3] 26)).alloc (.cells #[.slice B1 es.length d1, .slice B2 m2 d2, .slice B3 m3 d3] 37)) W.heap.size 26 #[.slice A1 n1 k1, .slice A2 n2 k2, .slice A3 ks.length k3] := (Blk.new _ _ _ _ rfl).alloc _
  have hT0 : Blk ((W.alloc (.cells #[.slice A1 n1 k1, .slice A2 n2 k2, .slice A3 ks.length k3] 26)).alloc (.cells #[.slice B1 es.length d1, .slice B2 m2 d2, .slice B3 m3 d3] 37)) (W.heap.size + 1) 37 #[.slice B1 es.length d1, .slice B2 m2 d2, .slice B3 m3 d3] := Blk.new _ _ _ _ (by simp)
  have hsz0 : ((W.alloc (.cells #[.slice A1 n1 k1, .slice A2 n2 k2, .slice A3 ks.length k3] 26)).alloc (.cells #[.slice B1 es.length d1, .slice B2 m2 d2, .slice B3 m3 d3] 37)).heap.size = W.heap.size + 2 := by simp
  go_enter Try.func33, Try.ntmps33
  go_upto_region 1 with (fail)
  generalize (W.alloc (.cells #[.slice A1 n1 k1, .slice A2 n2 k2, .slice A3 ks.length k3] 26)).alloc (.cells #[.slice B1 es.length d1, .slice B2 m2 d2, .slice B3 m3 d3] 37) = W0 at *
  have x1 : W0.cell? ⟨W.heap.size + 1, 0, none⟩ = some (.slice B1 es.length d1) := hT0.cell 0
  have xl := hT0.lt
  go_upto_region 2 with (first | ((refine wpList_make_full _ rfl _ _ 57 rfl W0.heap.size 3 i0 _ 1 Try.underlying57 hi0 hz0 hz1 .i64 .i64 (es.length : Int) (es.length : Int) es.length rfl rfl rfl rfl (by rw [hz2]; omega) (by unfold maxLen; omega) (Nat.le_refl _) ?_); intro W1 own1 hg1) | fail)
  have hG1 : Blk W1 W0.heap.size 3 (iC (List.replicate es.length 0)) := by
    have := made_blk own1
    rw [show (Value.int .i64 0).cells = #[Value.int .i64 0] from rfl, iC_made] at this
    exact this
  have hb1 : Below W0.heap.size W0 W1 := bel_own (Below.refl _ _) hg1 (by intro k h; cases h)
  have hC1 := hC0.below hb1
  have hT1 := hT0.below hb1
  have hB1 := bel_trans hb0 hb1
  rw [hsz0] at hG1
  clear own1 hg1 hb1 hC0 hT0 hb0 x1 xl
  go_wp2
  clear hsz0
  go_loopw [18] (fun iv wr => ∃ (k : Nat) (l : List Int), iv = .int .i64 (k : Int) ∧ k ≤ es.length ∧ l.length = es.length ∧ (∀ i (h1 : i < l.length) (h2 : i < es.length), l[i] = if i < k then base0 es[i] else 0) ∧ Below W.heap.size W wr ∧ Blk wr W.heap.size 26 #[.slice A1 n1 k1, .slice A2 n2 k2, .slice A3 ks.length k3] ∧ Blk wr (W.heap.size + 1) 37 #[.slice B1 es.length d1, .slice B2 m2 d2, .slice B3 m3 d3] ∧ Blk wr (W.heap.size + 2) 3 (iC l)) (fun iv _ => es.length - (intOf iv).toNat)
  case atStart => exact ⟨0, List.replicate es.length 0, rfl, by omega, by simp, fun i h1 h2 => by simp, hB1, hC1, hT1, hG1⟩
  case round =>
    obtain ⟨k, l, rfl, hk, hll, hlv, hBr, hCr, hTr, hGr⟩ := hrel
    clear hB1 hC1 hG1 hT1
    by_cases hlt : k < es.length
    · have q0 : (0 : Int) ≤ (k : Int) := by omega
      have q1 : (k : Int) < (es.length : Int) := by omega
      have x0 : wr.cell? ⟨W.heap.size + 1, 0, none⟩ = some (.slice B1 es.length d1) := hTr.cell 0
      have x1 : wr.cell? ⟨W.heap.size + 1, 1, none⟩ = some (.slice B2 m2 d2) := hTr.cell 1
      have x2 : wr.cell? ⟨W.heap.size + 1, 2, none⟩ = some (.slice B3 m3 d3) := hTr.cell 2
      have xl := hTr.lt
      have cE := edged_any wr B1 B2 B3 m2 m3 d1 d2 d3 es (k : Int) (hE.below hBr)
      have hed : edgedB es (k : Int) = ((es[k].f == -1) != (es[k].g == -1)) := by simp [edgedB, hlt]
      have hbs : base0 es[k] = if ((es[k].f == -1) != (es[k].g == -1)) = true then 255 else 0 := rfl
      rw [hed] at cE
      replace hlv := Lib.hid hlv
      clear hed
      have hkl2 : k < l.length := by omega
      generalize ((es[k].f == -1) != (es[k].g == -1)) = bb at *
      replace hbs := Lib.hid hbs
      replace hll := Lib.hid hll
      cases bb with
      | false =>
        go_wp2_with (first | (go_at_call 58; (with_reducible refine cE.mono ?_); rintro e W3 ⟨rfl, hb3⟩) | fail)
        go_roundw
        case rel =>
          refine ⟨k + 1, l, by go_num, by omega, hll.out, fun i h1 h2 => ?_, bel_trans hBr hb3, hCr.below hb3, hTr.below hb3, hGr.below hb3⟩
          rw [hlv.out i h1 h2]
          by_cases e : i = k
          · subst e; rw [if_neg (by omega), if_pos (by omega), hbs.out]; rfl
          · by_cases e2 : i < k
            · rw [if_pos e2, if_pos (by omega)]
            · rw [if_neg e2, if_neg (by omega)]
        case measure => simp [intOf]; omega
      | true =>
        go_upto_region 6 with (first | (go_at_call 58; (with_reducible refine cE.mono ?_); rintro e W3 ⟨rfl, hb3⟩) | fail)
        have hG3 := hGr.below hb3
        have g0 := (hG3.cell k).trans (iC_at hkl2)
        have e0 := hG3.frozen k
        have gl := hG3.lt
        have hB3 := bel_trans hBr hb3
        have hC3 := hCr.below hb3
        have hT3 := hTr.below hb3
        clear hGr hBr hCr hTr hb3 cE
        go_wp2
        go_roundw
        case rel =>
          refine ⟨k + 1, l.set k 255, by go_num, by omega, by simp [hll.out], fun i h1 h2 => ?_, bel_set hB3 (p := ⟨W.heap.size + 2, _, none⟩) (by simp) _, hC3.far (b := W.heap.size + 2) _ _ (by omega), hT3.far (b := W.heap.size + 2) _ _ (by omega), ?_⟩
          · rw [List.getElem_set]
            by_cases e : k = i
            · subst e; rw [if_pos rfl, if_pos (by omega), hbs.out]; rfl
            · rw [if_neg e, hlv.out i (by simpa using h1) h2]
              by_cases e2 : i < k
              · rw [if_pos e2, if_pos (by omega)]
              · rw [if_neg e2, if_neg (by omega)]
          · rw [← iC_set]; exact hG3.set k _
        case measure => simp [intOf]; omega
    · obtain rfl : k = es.length := by omega
      have hl0 : l = es.map base0 := by
        apply List.ext_getElem
        · simp [hll]
        · intro i h1 h2
          rw [hlv i h1 (by omega), if_pos (by omega)]; simp
      subst hl0
      clear hlv hll
      have x0 : wr.cell? ⟨W.heap.size, 2, none⟩ = some (.slice A3 ks.length k3) := hCr.cell 2
      have xl := hCr.lt
      go_wp2
      go_loopw [31] (fun iv wq => ∃ (j : Nat) (l : List Int), iv = .int .i64 (j : Int) ∧ j ≤ ks.length ∧ l.length = es.length ∧ sharpP es ks = sharpK es l (ks.drop j) ∧ Below W.heap.size W wq ∧ Blk wq (W.heap.size + 1) 37 #[.slice B1 es.length d1, .slice B2 m2 d2, .slice B3 m3 d3] ∧ Blk wq (W.heap.size + 2) 3 (iC l)) (fun iv _ => ks.length - (intOf iv).toNat)
      case atStart => exact ⟨0, es.map base0, rfl, by omega, by simp, rfl, hBr, hTr, hGr⟩
      case round =>
        obtain ⟨j, l, rfl, hj, hll, hsk, hBq, hTq, hGq⟩ := hrel
        clear hBr hTr hGr hCr x0 xl
        rename World => wq
        by_cases hjl : j < ks.length
        · obtain ⟨bk, ok, rfl, hbk, c1, c2, c3⟩ := (hK.below hBq).at_ j hjl
          rw [List.drop_eq_getElem_cons hjl, sharpK] at hsk
          generalize ks[j] = p at *
          have q0 : (0 : Int) ≤ (j : Int) := by omega
          have q1 : (j : Int) < (ks.length : Int) := by omega
          have hb4 : Below wq.heap.size wq (wq.alloc (.cells #[.int .i64 p.x, .int .i64 p.y, .int .i64 p.z] 125)) := bel_alloc (Below.refl _ _) _
          have hP4 : Blk (wq.alloc (.cells #[.int .i64 p.x, .int .i64 p.y, .int .i64 p.z] 125)) wq.heap.size 125 #[.int .i64 p.x, .int .i64 p.y, .int .i64 p.z] := Blk.new _ _ _ _ rfl
          have hB4 := bel_trans hBq hb4
          have hT4 := hTq.below hb4
          have hG4 := hGq.below hb4
          have hTl := hTq.lt
          have hGl := hGq.lt
          clear hBq hTq hGq
          replace hsk := Lib.hid hsk
          go_upto_region 11 with (fail)
          generalize wq.alloc (.cells #[.int .i64 p.x, .int .i64 p.y, .int .i64 p.z] 125) = W4 at *
          obtain ⟨S, hS⟩ : ∃ S, wq.heap.size = S := ⟨_, rfl⟩
          simp only [hS] at *
          have x0 : W4.cell? ⟨W.heap.size + 1, 0, none⟩ = some (.slice B1 es.length d1) := hT4.cell 0
          have x1 : W4.cell? ⟨W.heap.size + 1, 1, none⟩ = some (.slice B2 m2 d2) := hT4.cell 1
          have x2 : W4.cell? ⟨W.heap.size + 1, 2, none⟩ = some (.slice B3 m3 d3) := hT4.cell 2
          have xl := hT4.lt
          have y0 : W4.cell? ⟨S, 0, none⟩ = some (.int .i64 p.x) := hP4.cell 0
          have y1 : W4.cell? ⟨S, 1, none⟩ = some (.int .i64 p.y) := hP4.cell 1
          have yl := hP4.lt
          have cF := find_any W4 B1 B2 B3 m2 m3 d1 d2 d3 es p.x p.y (hE.below hB4) hl hs
          go_upto_region 12 with (first | (go_at_call 59; (with_reducible refine cF.mono ?_); rintro e W5 ⟨k, ok, rfl, hfp, hb5⟩) | fail)
          have hP5 := hP4.below hb5
          have hB5 := bel_trans hB4 hb5
          have hT5 := hT4.below hb5
          have hG5 := hG4.below hb5
          clear hP4 hB4 hT4 hG4 hb4 hb5 x0 x1 x2 xl y0 y1 yl cF c1 c2 c3
          rcases find_eix hs hfp with ⟨rfl, rfl, hel⟩ | ⟨rfl, rfl, hel⟩
          · have hsk2 := Lib.hid (hsk.out.trans (if_pos hel))
            have hkl2 : eix es p.x p.y < l.length := by omega
            have hgd : l.getD (eix es p.x p.y) 0 = l[eix es p.x p.y] := by rw [List.getD_eq_getElem?_getD, List.getElem?_eq_getElem hkl2]; rfl
            rw [hgd] at hsk2
            generalize eix es p.x p.y = k at *
            have g0 := (hG5.cell k).trans (iC_at hkl2)
            have e0 := hG5.frozen k
            have gl := hG5.lt
            have z0 : W5.cell? ⟨S, 2, none⟩ = some (.int .i64 p.z) := hP5.cell 2
            have zl := hP5.lt
            have q2 : (0 : Int) ≤ (k : Int) := by omega
            have q3 : (k : Int) < (es.length : Int) := by omega
            generalize l[k] = lk at *
            replace hll := Lib.hid hll
            clear hsk hfp hgd
            go_upto_region 14 with (fail)
            refine wp_region_tail 9 ?_ (by kernel_rfl) (by kernel_rfl) (by kernel_rfl) (fun x => ?_) (fun x => ?_)
            rotate_left
            · simp only [List.take_succ_cons, List.take_zero]
              repeat (go_big_quiet_step (((fail))))
              refine wpQuiet_nil ?_
              exact rfl
            simp only [List.drop_succ_cons, List.drop_zero]
            try simp only [Act.put, List.setIfInBounds_toArray, List.set_cons_succ, List.set_cons_zero]
            have hB6 := bel_grow hB5 x
            have hT6 := hT5.grow x
            have hG6 := hG5.grow x
            have r0 : (grow W5 x).cell? ⟨W.heap.size + 2, k, none⟩ = some (.int .i64 lk) := by rw [hG6.cell, ← hG5.cell]; exact g0
            generalize grow W5 x = W6 at *
            have f0 := hG6.frozen k
            have fl := hG6.lt
            go_wp2
            go_roundw
            case rel =>
              refine ⟨j + 1, l.set k (max lk p.z), by go_num, by omega, by simp [hll.out], hsk2.out, bel_set hB6 (p := ⟨W.heap.size + 2, _, none⟩) (by simp) _, hT6.far (b := W.heap.size + 2) _ _ (by omega), ?_⟩
              rw [← iC_set]; exact hG6.set k _
            case measure => simp [intOf]; omega
          · have hsk2 := hsk.out.trans (if_neg hel)
            go_wp2
            go_ret2
            exact ⟨hB5, .inl ⟨hsk2, rfl⟩⟩
        · obtain rfl : j = ks.length := by omega
          simp only [List.drop_length, sharpK] at hsk
          go_wp2
          go_ret2
          exact ⟨hBq, .inr ⟨l, W.heap.size + 2, hsk, by omega, hGq, rfl⟩⟩
def farB (p : P3) : Bool := !wiB p.x p.y p.z 65536
theorem far_iff (p : P3) : farB p = false ↔ InP 65536 p := by
  unfold farB
  rw [Bool.not_eq_false', wiB_iff]
  unfold InP
  constructor
  · rintro ⟨_, h⟩; exact h
  · intro h; exact ⟨by omega, h⟩
theorem far_G (p : P3) : Gives Try.prog 35 #[.agg #[.int .i64 p.x, .int .i64 p.y, .int .i64 p.z]] (.bool (farB p)) := by
  have k1 := vWithin_any p.x p.y p.z 65536 (by omega)
  unfold farB
  refine Gives.mk fun w => ?_
  go_enter Try.func35, Try.ntmps35
  go_wp2_with (first | (go_at_call 14; (with_reducible refine (k1.at_ _).mono ?_); rintro e w' ⟨rfl, xg, rfl⟩) | fail)
  go_ret
  exact ⟨by simp, (by repeat (first | exact Below.refl _ _ | refine bel_then ?_ _ | refine bel_grow ?_ _ | refine bel_alloc ?_ _ | refine bel_drew ?_ | refine bel_set ?_ (by simp) _ | refine bel_setRow ?_ (by first | omega | (simp; done) | (refine Nat.le_trans ?_ (top_le _ _); simp; done) | (refine Nat.le_succ_of_le (Nat.le_trans ?_ (top_le _ _)); simp; done) | (refine Nat.le_trans ?_ (top_le _ _); simp only [World.size_alloc]; refine Nat.le_succ_of_le (Nat.le_trans ?_ (top_le _ _)); simp; done)) _))⟩
def firstFar (vs : List P3) : Int := if vs.any farB then (vs.findIdx farB : Int) else -1
set_option maxHeartbeats 1000000 in
theorem index_far (W : World) (A : Option Addr) (c : Nat) (vs : List P3) (hV : VL W A vs) (hl : vs.length < 1099511627776) :
    Calls Try.prog 60 #[.slice A vs.length c, .func (.func 35) #[] #[]] W fun e W' => Below W.heap.size W W' ∧ ∃ i : Int, e = .returned (.int .i64 i) ∧ (i < 0 ↔ vs.any farB = false) ∧ -1 ≤ i := by
  go_enter Try.func60, Try.ntmps60
  go_wp2
  go_loopw [8] (fun iv wr => ∃ k : Nat, iv = .int .i64 (k : Int) ∧ k ≤ vs.length ∧ (vs.take k).any farB = false ∧ Below W.heap.size W wr) (fun iv _ => vs.length - (intOf iv).toNat)
  case atStart => exact ⟨0, rfl, by omega, by simp, Below.refl _ _⟩
  case round =>
    obtain ⟨k, rfl, hk, hno, hBr⟩ := hrel
    by_cases hlt : k < vs.length
    · obtain ⟨bv, ov, rfl, hlv, c1, c2, c3⟩ := (hV.below hBr).at_ k hlt
      have htk : vs.take (k + 1) = vs.take k ++ [vs[k]] := List.take_succ_eq_append_getElem hlt
      have hmem := List.getElem_mem hlt
      generalize vs[k] = p at *
      have q0 : (0 : Int) ≤ (k : Int) := by omega
      have q1 : (k : Int) < (vs.length : Int) := by omega
      have kF := far_G p
      replace htk := Lib.hid htk
      replace hno := Lib.hid hno
      cases hb : farB p with
      | true =>
        rw [hb] at kF
        go_wp2_with (first | (go_at_call 35; (with_reducible refine (kF.at_ _).mono ?_); rintro e w' ⟨rfl, xg, rfl⟩) | fail)
        go_ret
        exact ⟨bel_grow hBr _, (k : Int), rfl, ⟨fun h => by omega, fun h => by rw [List.any_eq_false] at h; have := h p hmem; rw [hb] at this; simp at this⟩, by omega⟩
      | false =>
        rw [hb] at kF
        go_wp2_with (first | (go_at_call 35; (with_reducible refine (kF.at_ _).mono ?_); rintro e w' ⟨rfl, xg, rfl⟩) | fail)
        go_roundw
        case rel => exact ⟨k + 1, by go_num, by omega, by rw [htk.out, List.any_append, hno.out]; simp [hb], bel_grow hBr _⟩
        case measure => simp [intOf]; omega
    · obtain rfl : k = vs.length := by omega
      rw [List.take_length] at hno
      replace hno := Lib.hid hno
      go_wp2
      go_ret
      exact ⟨hBr, -1, rfl, ⟨fun _ => hno.out, fun _ => by omega⟩, by omega⟩
theorem far_any (W : World) (A : Option Addr) (c : Nat) (vs : List P3) (hV : VL W A vs) (hl : vs.length < 1099511627776) :
    Calls Try.prog 34 #[.slice A vs.length c, .func (.func 35) #[] #[]] W fun e W' => Below W.heap.size W W' ∧ e = .returned (.bool (vs.any farB)) := by
  have cI := index_far W A c vs hV hl
  replace cI := Lib.hid cI
  go_enter Try.func34, Try.ntmps34
  go_wp2_with (first | (go_at_call 60; (with_reducible refine cI.out.mono ?_); rintro e W2 ⟨hb2, i, rfl, hi, hi1⟩; replace hi := Lib.hid hi) | fail)
  go_ret
  refine ⟨hb2, ?_⟩
  have := hi.out
  cases hv : vs.any farB with
  | true =>
    rw [hv] at this
    have h2 : ¬ i < 0 := fun h => by have := this.1 h; cases this
    simp; omega
  | false =>
    rw [hv] at this
    have h2 := this.2 rfl
    simp; omega
end Go.Proofs.Ytgmifpicilfcdab
namespace Go.Proofs.Ytgmifpicilfcdab
open Go.RowKit
set_option linter.unusedVariables false
set_option linter.unusedSimpArgs false
theorem wpAnyH_forced {P : Program} {md : Region.Mode} {ops : Array Oper} {Q : Exit → Act → World → Prop} {S : World → Prop} {fuel i : Nat} {oi : Oper} {listed : Array Bool} {a : Act} {w : World} (hr : Region.ready md ops listed = [i]) (hi : ops[i]? = some oi) (hg : oi.guard = none)
    (h : oi.wp P a w (fun a' w' => S w' ∧ wpAnyH P md ops Q S fuel (listed.setIfInBounds i true) a' w') Q) : wpAnyH P md ops Q S (fuel + 1) listed a w := by
  refine ⟨fun h0 => (by rw [hr] at h0; cases h0), fun j hj => ?_⟩
  rw [hr] at hj
  obtain rfl : j = i := by simpa using hj
  unfold wpOp
  simp only [hi]
  rw [if_pos (by simp [Region.wanted, hg])]
  left
  exact h
theorem anyH_letter {P : Program} {md : Region.Mode} {ops : Array Oper} {Q : Exit → Act → World → Prop} {S : World → Prop} {fuel : Nat} {listed : Array Bool} {a : Act} {w : World} (h : ∀ V : World, V = w → wpAnyH P md ops Q S fuel listed a V) : wpAnyH P md ops Q S fuel listed a w := h w rfl
theorem wp_value {P : Program} {o : Oper} {a : Act} {w w' : World} {v : Value} {K : Act → World → Prop} {Q : Exit → Act → World → Prop} (h : (execOp a.eval o).run P w = .ok (.value v) w') (hk : K (a.put o.dst v) w') : o.wp P a w K Q := by
  unfold Oper.wp
  rw [h]
  exact hk
theorem wp_enter {P : Program} {o : Oper} {a : Act} {w w' : World} {f : FuncId} {args : Array Value} {R : Value → World → Prop} {K : Act → World → Prop} {Q : Exit → Act → World → Prop} (h : (execOp a.eval o).run P w = .ok (.enter f args) w') (hc : Calls P f args w' fun e w'' => ∃ v, e = .returned v ∧ R v w'') (hk : ∀ v w'', R v w'' → K (a.put o.dst v) w'') : o.wp P a w K Q := by
  unfold Oper.wp
  rw [h]
  exact hc.mono fun e w'' ⟨v, he, hr⟩ => by
    subst he
    exact hk v w'' hr
theorem bel_dr {a w : World} (h : Below a.heap.size a w) (d : Nat) : Below a.heap.size a { w with drawn := d } := ⟨h.os, h.tape, h.output, h.size, h.block⟩
end Go.Proofs.Ytgmifpicilfcdab
namespace Go.Proofs.Ytgmifpicilfcdab
open Go.RowKit
set_option linter.unusedVariables false
set_option linter.unusedSimpArgs false
section
variable {P : Program} {md : Region.Mode} {ops : Array Oper} {Q : Exit → Act → World → Prop} {R : Nat → World → Value → Prop} {a0 : Act} {w0 : World}
/-- What the operations that are done have left. -/
structure MonoI (ops : Array Oper) (R : Nat → World → Value → Prop) (a0 : Act) (w0 : World) (listed : Array Bool) (a : Act) (w : World) : Prop where
  bel : Below w0.heap.size w0 w
  size : a.tmps.size = a0.tmps.size
  defers : a.defers = a0.defers
  keep : ∀ t, (∀ (j : Nat) (o : Oper), ops[j]? = some o → o.dst ≠ some t) → a.tmps[t]? = a0.tmps[t]?
  got : ∀ (j : Nat) (o : Oper) (d : Tmp), ops[j]? = some o → o.dst = some d → listed.getD j false = true → ∃ v, a.tmps[d]? = some v ∧ R j w v
/-- An operation, once those that it waits for are done. -/
def MonoS (P : Program) (md : Region.Mode) (ops : Array Oper) (R : Nat → World → Value → Prop) (a0 : Act) (w0 : World) (Q : Exit → Act → World → Prop) (i : Nat) (o : Oper) : Prop :=
  o.guard = none ∧ ∀ (a : Act) (w : World), Below w0.heap.size w0 w → a.tmps.size = a0.tmps.size → a.defers = a0.defers → (∀ t, (∀ (j : Nat) (o : Oper), ops[j]? = some o → o.dst ≠ some t) → a.tmps[t]? = a0.tmps[t]?) →
    (∀ e ∈ o.after, Region.binds md e = true → ∀ (oj : Oper) (d : Tmp), ops[e.on]? = some oj → oj.dst = some d → ∃ v, a.tmps[d]? = some v ∧ R e.on w v) →
    o.wp P a w (fun a' w' => ∃ v, a' = a.put o.dst v ∧ Below w.heap.size w w' ∧ (∀ d, o.dst = some d → R i w' v)) Q
theorem put_tmps (a : Act) (d : Option Tmp) (v : Value) : (a.put d v).defers = a.defers ∧ (a.put d v).tmps.size = a.tmps.size ∧ (∀ t, d ≠ some t → (a.put d v).tmps[t]? = a.tmps[t]?) ∧ (∀ t, d = some t → t < a.tmps.size → (a.put d v).tmps[t]? = some v) := by
  cases d with
  | none => exact ⟨rfl, rfl, fun t _ => rfl, fun t h => by cases h⟩
  | some t0 =>
    refine ⟨rfl, by simp [Act.put], fun t h => ?_, fun t h ht => ?_⟩
    · have : t0 ≠ t := fun e => h (by rw [e])
      simp [Act.put, Array.getElem?_setIfInBounds_ne this]
    · cases h
      simp [Act.put, ht]
theorem MonoI.step {listed : Array Bool} {a : Act} {w w' : World} {i : Nat} {o : Oper} {v : Value} (h : MonoI ops R a0 w0 listed a w) (hi : ops[i]? = some o)
    (hmono : ∀ (j : Nat) (w w' : World) (v : Value), Below w.heap.size w w' → R j w v → R j w' v) (hd : ∀ (i j : Nat) (oi oj : Oper) (d : Tmp), ops[i]? = some oi → ops[j]? = some oj → oi.dst = some d → oj.dst = some d → i = j) (hsz : ∀ (j : Nat) (oj : Oper) (d : Tmp), ops[j]? = some oj → oj.dst = some d → d < a0.tmps.size)
    (hB : Below w.heap.size w w') (hR : ∀ d, o.dst = some d → R i w' v) : MonoI ops R a0 w0 (listed.setIfInBounds i true) (a.put o.dst v) w' := by
  obtain ⟨p1, p2, p3, p4⟩ := put_tmps a o.dst v
  refine ⟨h.bel.trans (hB.mono h.bel.size), p2.trans h.size, p1.trans h.defers, fun t ht => (p3 t (ht i o hi)).trans (h.keep t ht), fun j oj d hj hjd hl => ?_⟩
  by_cases hij : i = j
  · subst hij
    obtain rfl := Option.some.inj (hi.symm.trans hj)
    exact ⟨v, p4 d hjd (by rw [h.size]; exact hsz i o d hi hjd), hR d hjd⟩
  · rw [getD_set_ne false hij] at hl
    obtain ⟨u, hu, hr⟩ := h.got j oj d hj hjd hl
    refine ⟨u, (p3 d (fun e => hij (hd i j o oj d hi hj e hjd))).trans hu, hmono j w w' u hB hr⟩
/-- How many operations are not done yet. -/
def left (listed : Array Bool) : Nat := (listed.toList.filter fun b => !b).length
theorem left_set {listed : Array Bool} {i : Nat} (h : listed.getD i true = false) : left (listed.setIfInBounds i true) + 1 = left listed := by
  unfold left
  have hi : i < listed.size := by
    rcases Nat.lt_or_ge i listed.size with q | q
    · exact q
    · simp [Array.getD, Nat.not_lt.2 q] at h
  have hv : listed[i] = false := by simpa [Array.getD, hi] using h
  have hl : i < listed.toList.length := by simpa using hi
  have e1 : listed.toList = listed.toList.take i ++ false :: listed.toList.drop (i + 1) := by
    have := List.take_append_drop i listed.toList
    rw [List.drop_eq_getElem_cons hl] at this
    have hv2 : listed.toList[i] = false := by simpa using hv
    rw [hv2] at this
    exact this.symm
  have e2 : (listed.setIfInBounds i true).toList = listed.toList.take i ++ true :: listed.toList.drop (i + 1) := by
    rw [Array.toList_setIfInBounds, List.set_eq_take_append_cons_drop, if_pos hl]
  rw [e2]
  conv => rhs; rw [e1]
  simp [List.filter_append, List.filter_cons]
  omega
theorem all_done {listed : Array Bool} (hlen : listed.size = ops.size) (hE : ∀ (i : Nat) (o : Oper), ops[i]? = some o → ∀ e ∈ o.after, Region.binds md e = true → e.on < i) (h : Region.ready md ops listed = []) : ∀ i, i < ops.size → listed.getD i false = true := fun i => by
  induction i using Nat.strongRecOn with
  | _ i ih =>
    intro hi
    cases hq : listed.getD i true with
    | true =>
      have hil : i < listed.size := by omega
      simp only [Array.getD, hil, dif_pos] at hq ⊢
      exact hq
    | false =>
      have : i ∈ Region.ready md ops listed := mem_ready.2 ⟨hq, ops[i], by simp [hi], fun e he hb => by
        have hlt := hE i ops[i] (by simp [hi]) e he hb
        exact ih e.on hlt (by omega)⟩
      rw [h] at this
      cases this
theorem mono_sound (hE : ∀ (i : Nat) (o : Oper), ops[i]? = some o → ∀ e ∈ o.after, Region.binds md e = true → e.on < i)
    (hmono : ∀ (j : Nat) (w w' : World) (v : Value), Below w.heap.size w w' → R j w v → R j w' v) (hd : ∀ (i j : Nat) (oi oj : Oper) (d : Tmp), ops[i]? = some oi → ops[j]? = some oj → oi.dst = some d → oj.dst = some d → i = j) (hsz : ∀ (j : Nat) (oj : Oper) (d : Tmp), ops[j]? = some oj → oj.dst = some d → d < a0.tmps.size)
    (hS : ∀ (i : Nat) (o : Oper), ops[i]? = some o → MonoS P md ops R a0 w0 Q i o)
    (hend : ∀ (a : Act) (w : World), Below w0.heap.size w0 w → a.tmps.size = a0.tmps.size → a.defers = a0.defers → (∀ t, (∀ (j : Nat) (o : Oper), ops[j]? = some o → o.dst ≠ some t) → a.tmps[t]? = a0.tmps[t]?) → (∀ (j : Nat) (o : Oper) (d : Tmp), ops[j]? = some o → o.dst = some d → ∃ v, a.tmps[d]? = some v ∧ R j w v) → Q .normal a w) :
    ∀ (fuel : Nat) (listed : Array Bool) (a : Act) (w : World), listed.size = ops.size → left listed ≤ fuel → MonoI ops R a0 w0 listed a w → wpAny P md ops Q fuel listed a w := by
  have fin : ∀ (listed : Array Bool) (a : Act) (w : World), listed.size = ops.size → MonoI ops R a0 w0 listed a w → Region.ready md ops listed = [] → Q .normal a w := fun listed a w hl hI hr => by
    have hall := all_done hl hE hr
    exact hend a w hI.bel hI.size hI.defers hI.keep (fun j o d hj hjd => hI.got j o d hj hjd (hall j (Array.getElem?_eq_some_iff.1 hj).1))
  intro fuel
  induction fuel with
  | zero =>
    intro listed a w hl h0 hI
    have hr : Region.ready md ops listed = [] := by
      rw [List.eq_nil_iff_forall_not_mem]
      intro i hi
      have := left_set (mem_ready.1 hi).1
      omega
    exact ⟨hr, fin listed a w hl hI hr⟩
  | succ f ih =>
    intro listed a w hl hf hI
    refine ⟨fin listed a w hl hI, fun i hi => ?_⟩
    obtain ⟨hun, o, ho, hall⟩ := mem_ready.1 hi
    obtain ⟨hg, hs⟩ := hS i o ho
    unfold wpOp
    simp only [ho]
    rw [if_pos (by simp [Region.wanted, hg])]
    left
    refine Oper.wp_mono ?_ (hs a w hI.bel hI.size hI.defers hI.keep (fun e he hb oj d hoj hdj => hI.got e.on oj d hoj hdj (hall e he hb)))
    rintro a' w' ⟨v, rfl, hB, hR⟩
    refine ih _ _ _ (by simp [hl]) (by have := left_set hun; omega) (hI.step ho hmono hd hsz hB hR)
/-- The rule. -/
theorem wp_region_mono {id : Nat} (R : Nat → World → Value → Prop) (hm : P.follows .mixedOrders = true) (hE : ∀ (i : Nat) (o : Oper), ops[i]? = some o → ∀ e ∈ o.after, Region.binds .any e = true → e.on < i)
    (hmono : ∀ (j : Nat) (w w' : World) (v : Value), Below w.heap.size w w' → R j w v → R j w' v) (hd : ∀ (i j : Nat) (oi oj : Oper) (d : Tmp), ops[i]? = some oi → ops[j]? = some oj → oi.dst = some d → oj.dst = some d → i = j) (hsz : ∀ (j : Nat) (oj : Oper) (d : Tmp), ops[j]? = some oj → oj.dst = some d → d < a0.tmps.size)
    (hS : ∀ (i : Nat) (o : Oper), ops[i]? = some o → MonoS P .any ops R a0 w0 Q i o)
    (hend : ∀ (a : Act) (w : World), Below w0.heap.size w0 w → a.tmps.size = a0.tmps.size → a.defers = a0.defers → (∀ t, (∀ (j : Nat) (o : Oper), ops[j]? = some o → o.dst ≠ some t) → a.tmps[t]? = a0.tmps[t]?) → (∀ (j : Nat) (o : Oper) (d : Tmp), ops[j]? = some o → o.dst = some d → ∃ v, a.tmps[d]? = some v ∧ R j w v) → Q .normal a w) :
    (Code.region id ops true).wp P Q a0 w0 := by
  refine wp_region_any hm (mono_sound (a0 := a0) (w0 := w0) (R := R) hE hmono hd hsz hS hend _ _ _ _ (by simp) (by unfold left; simp) ⟨bel_dr (Below.refl _ _) _, rfl, rfl, fun t _ => rfl, fun j o d _ _ hl => ?_⟩)
  simp [Array.getD] at hl
/-- Each operation of a list, with its number. -/
def allI (X : Nat → Oper → Prop) : Nat → List Oper → Prop
  | _, [] => True
  | k, o :: l => X k o ∧ allI X (k + 1) l
theorem allI_get {X : Nat → Oper → Prop} : ∀ (l : List Oper) (k : Nat), allI X k l → ∀ (i : Nat) (o : Oper), l[i]? = some o → X (k + i) o
  | [], _, _, i, o, h => by simp at h
  | x :: l, k, ⟨h1, h2⟩, i, o, h => by
    cases i with
    | zero => simp at h; subst h; exact h1
    | succ i =>
      have := allI_get l (k + 1) h2 i o (by simpa using h)
      rw [show k + (i + 1) = k + 1 + i by omega]; exact this
theorem allI_arr {X : Nat → Oper → Prop} {l : List Oper} (h : allI X 0 l) : ∀ (i : Nat) (o : Oper), l.toArray[i]? = some o → X i o := fun i o hi => by
  have := allI_get l 0 h i o (by simpa using hi)
  rwa [Nat.zero_add] at this
/-- Do the edges go back, are the slots apart and within the frame, is nothing guarded? (closed facts) -/
def edgesB (l : List Oper) : Bool := l.zipIdx.all fun x => x.1.after.all fun e => decide (e.on < x.2)
def dstB (l : List Oper) (n : Nat) : Bool := (l.filterMap (·.dst)).all (fun d => decide (d < n)) && decide (l.filterMap (·.dst)).Nodup
theorem edges_of {l : List Oper} (h : edgesB l = true) : ∀ (i : Nat) (o : Oper), l.toArray[i]? = some o → ∀ e ∈ o.after, Region.binds .any e = true → e.on < i := fun i o hi e he _ => by
  unfold edgesB at h
  rw [List.all_eq_true] at h
  have hm : (o, i) ∈ l.zipIdx := by
    rw [List.mem_zipIdx_iff_getElem?]
    simpa using hi
  have := h _ hm
  rw [Array.all_eq_true_iff_forall_mem] at this
  simpa using this e he
theorem dst_lt {l : List Oper} {n : Nat} (h : dstB l n = true) : ∀ (j : Nat) (oj : Oper) (d : Tmp), l.toArray[j]? = some oj → oj.dst = some d → d < n := fun j oj d hj hd => by
  unfold dstB at h
  simp only [Bool.and_eq_true, List.all_eq_true] at h
  have hm : d ∈ l.filterMap (·.dst) := List.mem_filterMap.2 ⟨oj, List.mem_of_getElem? (by simpa using hj), hd⟩
  simpa using h.1 d hm
theorem dst_one {l : List Oper} {n : Nat} (h : dstB l n = true) : ∀ (i j : Nat) (oi oj : Oper) (d : Tmp), l.toArray[i]? = some oi → l.toArray[j]? = some oj → oi.dst = some d → oj.dst = some d → i = j := by
  unfold dstB at h
  simp only [Bool.and_eq_true, decide_eq_true_eq] at h
  have hn := h.2
  clear h
  intro i j oi oj d hi hj hdi hdj
  replace hi : l[i]? = some oi := by simpa using hi
  replace hj : l[j]? = some oj := by simpa using hj
  induction l generalizing i j with
  | nil => simp at hi
  | cons x l ih =>
    have hmem : ∀ (k : Nat) (o : Oper), l[k]? = some o → o.dst = some d → d ∈ l.filterMap (·.dst) := fun k o hk hd => List.mem_filterMap.2 ⟨o, List.mem_of_getElem? hk, hd⟩
    have hn2 : (l.filterMap (·.dst)).Nodup := by
      cases hx : x.dst with
      | none => rw [List.filterMap_cons_none hx] at hn; exact hn
      | some y => rw [List.filterMap_cons_some hx] at hn; exact (List.nodup_cons.1 hn).2
    have hno : x.dst = some d → d ∉ l.filterMap (·.dst) := fun hx => by
      rw [List.filterMap_cons_some hx] at hn; exact (List.nodup_cons.1 hn).1
    cases i with
    | zero =>
      cases j with
      | zero => rfl
      | succ j =>
        simp at hi; subst hi
        exact absurd (hmem j oj (by simpa using hj) hdj) (hno hdi)
    | succ i =>
      cases j with
      | zero =>
        simp at hj; subst hj
        exact absurd (hmem i oi (by simpa using hi) hdi) (hno hdj)
      | succ j => rw [ih hn2 i j (by simpa using hi) (by simpa using hj)]
theorem eval_tmp {a : Act} {d : Tmp} {v : Value} (h : a.tmps[d]? = some v) : a.eval (.tmp d) = v := by
  simp [Act.eval, h]
/-- An operation that makes a value, and perhaps blocks. -/
theorem mono_val {i : Nat} {o : Oper} (hg : o.guard = none) (h : ∀ (a : Act) (w : World), Below w0.heap.size w0 w → (∀ t, (∀ (j : Nat) (o : Oper), ops[j]? = some o → o.dst ≠ some t) → a.tmps[t]? = a0.tmps[t]?) →
    (∀ e ∈ o.after, Region.binds md e = true → ∀ (oj : Oper) (d : Tmp), ops[e.on]? = some oj → oj.dst = some d → ∃ v, a.tmps[d]? = some v ∧ R e.on w v) → ∃ v w', (execOp a.eval o).run P w = .ok (.value v) w' ∧ Below w.heap.size w w' ∧ (∀ d, o.dst = some d → R i w' v)) : MonoS P md ops R a0 w0 Q i o :=
  ⟨hg, fun a w hB _ _ hk hp => by
    obtain ⟨v, w', hr, hb, hR⟩ := h a w hB hk hp
    exact wp_value hr ⟨v, rfl, hb, hR⟩⟩
/-- A call. -/
theorem mono_call {i : Nat} {o : Oper} (hg : o.guard = none) (h : ∀ (a : Act) (w : World), Below w0.heap.size w0 w → (∀ t, (∀ (j : Nat) (o : Oper), ops[j]? = some o → o.dst ≠ some t) → a.tmps[t]? = a0.tmps[t]?) →
    (∀ e ∈ o.after, Region.binds md e = true → ∀ (oj : Oper) (d : Tmp), ops[e.on]? = some oj → oj.dst = some d → ∃ v, a.tmps[d]? = some v ∧ R e.on w v) → ∃ f args, (execOp a.eval o).run P w = .ok (.enter f args) w ∧ Calls P f args w fun e w' => ∃ v, e = .returned v ∧ Below w.heap.size w w' ∧ (∀ d, o.dst = some d → R i w' v)) : MonoS P md ops R a0 w0 Q i o :=
  ⟨hg, fun a w hB _ _ hk hp => by
    obtain ⟨f, args, hr, hc⟩ := h a w hB hk hp
    exact wp_enter (R := fun v w' => Below w.heap.size w w' ∧ (∀ d, o.dst = some d → R i w' v)) hr (hc.mono fun e w' ⟨v, he, hb, hR⟩ => ⟨v, he, hb, hR⟩) fun v w' hR => ⟨v, rfl, hR⟩⟩
/-- The rule over a list of operations: what can be reckoned is reckoned. -/
theorem wp_region_monoL {id : Nat} {l : List Oper} (R : Nat → World → Value → Prop) (hm : P.follows .mixedOrders = true) (n : Nat) (hn : a0.tmps.size = n) (hE : edgesB l = true) (hD : dstB l n = true)
    (hmono : ∀ (j : Nat) (w w' : World) (v : Value), Below w.heap.size w w' → R j w v → R j w' v)
    (hS : allI (MonoS P .any l.toArray R a0 w0 Q) 0 l)
    (hend : ∀ (a : Act) (w : World), Below w0.heap.size w0 w → a.tmps.size = a0.tmps.size → a.defers = a0.defers → (∀ t, (∀ (j : Nat) (o : Oper), l.toArray[j]? = some o → o.dst ≠ some t) → a.tmps[t]? = a0.tmps[t]?) → (∀ (j : Nat) (o : Oper) (d : Tmp), l.toArray[j]? = some o → o.dst = some d → ∃ v, a.tmps[d]? = some v ∧ R j w v) → Q .normal a w) :
    (Code.region id l.toArray true).wp P Q a0 w0 :=
  wp_region_mono R hm (edges_of hE) hmono (dst_one hD) (fun j oj d h1 h2 => by rw [hn]; exact dst_lt hD j oj d h1 h2) (allI_arr hS) hend
theorem keep_of {l : List Oper} {t : Tmp} (h : (l.all fun o => o.dst != some t) = true) : ∀ (j : Nat) (o : Oper), l.toArray[j]? = some o → o.dst ≠ some t := fun j o hj => by
  rw [List.all_eq_true] at h
  have := h o (List.mem_of_getElem? (by simpa using hj))
  simpa using this
/-- A slot that holds just this. -/
def PE (x : Value) : World → Value → Prop := fun _ v => v = x
/-- A slot that holds a row of its own of n cells. -/
def PS (cs : Array Value) (n : Nat) : World → Value → Prop := fun w v => ∃ b, v = .slice (some ⟨b, 0, none⟩) n n ∧ b < w.heap.size ∧ ∀ i, w.cell? ⟨b, i, none⟩ = cs[i]?
def Stays (p : World → Value → Prop) : Prop := ∀ (w w' : World) (v : Value), Below w.heap.size w w' → p w v → p w' v
theorem PE.stays (x : Value) : Stays (PE x) := fun _ _ _ _ h => h
theorem PS.stays (cs : Array Value) (n : Nat) : Stays (PS cs n) := fun w w' v hB ⟨b, e, hb, hc⟩ => ⟨b, e, Nat.lt_of_lt_of_le hb hB.size, fun i => (hB.cell (p := ⟨b, i, none⟩) hb).trans (hc i)⟩
/-- The facts of a region's slots, as a list. -/
def RL (ps : List (World → Value → Prop)) : Nat → World → Value → Prop := fun j => ps.getD j fun _ _ => True
theorem RL.stays {ps : List (World → Value → Prop)} (h : ∀ p ∈ ps, Stays p) : ∀ (j : Nat) (w w' : World) (v : Value), Below w.heap.size w w' → RL ps j w v → RL ps j w' v := fun j w w' v hB hr => by
  unfold RL at *
  by_cases hj : j < ps.length
  · have e : ps.getD j (fun _ _ => True) = ps[j] := by simp [List.getD, hj]
    rw [e] at hr ⊢
    exact h _ (List.getElem_mem hj) w w' v hB hr
  · have e : ps.getD j (fun _ _ => True) = fun _ _ => True := by simp [List.getD, Nat.le_of_not_lt hj]
    rw [e]; trivial
/-- The slots ds of a frame's cells set, each to what f says. -/
def setAll (f : Tmp → Value) : List Tmp → Array Value → Array Value
  | [], b => b
  | d :: ds, b => setAll f ds (b.setIfInBounds d (f d))
theorem setAll_size (f : Tmp → Value) : ∀ (ds : List Tmp) (b : Array Value), (setAll f ds b).size = b.size
  | [], b => rfl
  | d :: ds, b => by unfold setAll; rw [setAll_size f ds]; simp
theorem setAll_get (f : Tmp → Value) : ∀ (ds : List Tmp) (b : Array Value) (t : Nat), t < b.size → (setAll f ds b)[t]? = if t ∈ ds then some (f t) else b[t]?
  | [], b, t, _ => by simp [setAll]
  | d :: ds, b, t, ht => by
    unfold setAll
    rw [setAll_get f ds _ t (by simpa using ht)]
    by_cases h1 : t ∈ ds
    · simp [h1]
    · by_cases h2 : t = d
      · subst h2
        simp [h1, ht]
      · have : d ≠ t := fun e => h2 e.symm
        simp [h1, h2, Array.getElem?_setIfInBounds_ne this]
/-- The frame behind the region, written out: the region's own slots by f, all others as they were. -/
theorem frame_eq {l : List Oper} {a : Act} (hsz : a.tmps.size = a0.tmps.size) (hdf : a.defers = a0.defers) (hk : ∀ t, (∀ (j : Nat) (o : Oper), l.toArray[j]? = some o → o.dst ≠ some t) → a.tmps[t]? = a0.tmps[t]?) (ds : List Tmp) (hds : l.filterMap (·.dst) = ds) :
    ∃ f : Tmp → Value, (∀ d v, a.tmps[d]? = some v → f d = v) ∧ a = ⟨setAll f ds a0.tmps, a0.defers⟩ := by
  refine ⟨fun d => (a.tmps[d]?).getD undef, fun d v h => by simp [h], ?_⟩
  have e : a.tmps = setAll (fun d => (a.tmps[d]?).getD undef) ds a0.tmps := by
    apply Array.ext_getElem?
    intro t
    by_cases ht : t < a0.tmps.size
    · rw [setAll_get _ _ _ _ ht]
      split
      · have : t < a.tmps.size := by omega
        simp [this]
      · rename_i hno
        refine hk t (fun j o hj hd => hno ?_)
        rw [← hds]
        exact List.mem_filterMap.2 ⟨o, List.mem_of_getElem? (by simpa using hj), hd⟩
    · rw [Array.getElem?_eq_none (by omega), Array.getElem?_eq_none (by rw [setAll_size]; omega)]
  cases a
  simp only at e hdf
  rw [← hdf]
  congr 1
end
end Go.Proofs.Ytgmifpicilfcdab
namespace Go.Proofs.Ytgmifpicilfcdab
open Go.RowKit
set_option linter.unusedVariables false
set_option linter.unusedSimpArgs false
set_option linter.unnecessarySimpa false
set_option maxRecDepth 100000


theorem own_empty (W : World) (base : Nat) (e : TypeId) (hb : base ≤ W.heap.size) : (W.alloc (.cells #[] e)).ownsRow base e 1 (.slice (some ⟨W.heap.size, 0, none⟩) 0 0) 0 [] :=
  ⟨rfl, .inr ⟨W.heap.size, 0, #[], rfl, hb, Blk.new _ _ _ _ rfl, Nat.le_refl _, by unfold maxLen; omega, rfl, rfl⟩⟩
theorem fm_congr {α β : Type} {f g : α → Option β} : ∀ (l : List α), (∀ x ∈ l, f x = g x) → l.filterMap f = l.filterMap g
  | [], _ => rfl
  | x :: l, h => by rw [List.filterMap_cons, List.filterMap_cons, h x (by simp), fm_congr l fun y hy => h y (List.mem_cons_of_mem _ hy)]
def rl (rs : List Bool) : List Int := (List.range rs.length).filterMap fun i => if rs.getD i false then some (i : Int) else none
theorem rl_take (rs : List Bool) (i : Nat) (h : i < rs.length) : rl (rs.take (i + 1)) = rl (rs.take i) ++ if rs[i] then [(i : Int)] else [] := by
  have h1 : (rs.take (i + 1)).length = i + 1 := by simp; omega
  have h2 : (rs.take i).length = i := by simp; omega
  have g : ∀ m k, k < m → m ≤ rs.length → (rs.take m).getD k false = rs.getD k false := fun m k hk hm => by
    rw [List.getD_eq_getElem?_getD, List.getD_eq_getElem?_getD, List.getElem?_take_of_lt hk]
  unfold rl
  rw [h1, h2, List.range_succ, List.filterMap_append]
  congr 1
  · apply fm_congr
    intro k hk
    rw [List.mem_range] at hk
    rw [g (i + 1) k (by omega) (by omega), g i k hk (by omega)]
  · have e : (rs.take (i + 1)).getD i false = rs[i] := by
      rw [g (i + 1) i (by omega) (by omega), List.getD_eq_getElem?_getD, List.getElem?_eq_getElem h]; rfl
    rw [List.filterMap_cons, e]
    cases rs[i] <;> rfl
theorem rl_len (rs : List Bool) : (rl rs).length ≤ rs.length := by
  unfold rl
  refine Nat.le_trans (List.length_filterMap_le _ _) ?_
  simp
/-- A slot that holds a row of these numbers. -/
def PI (ns : List Int) : World → Value → Prop := fun w v => ∃ A c, v = .slice A ns.length c ∧ IL w A ns
theorem PI.stays (ns : List Int) : Stays (PI ns) := fun _ _ _ hB ⟨A, c, e, h⟩ => ⟨A, c, e, h.below hB⟩
theorem ldm_run (a : Act) (o : Oper) (w : World) (ty : TypeId) (x : Operand) (ho : o.op = .load ty x) (b off : Nat) (hx : a.eval x = .pointer (some ⟨b, off, none⟩)) (cs : List Value) (d : TypeDesc) (hc : w.rangeAt b off cs)
    (hu : Try.prog.underlying ty = some d) (hd : d.isRow = true) (hi : (Try.prog.info? ty).map (·.size) = some cs.length) : (execOp a.eval o).run Try.prog w = .ok (.value (.agg cs.toArray)) w := by
  unfold execOp
  simp only [ho, hx, Instr.loadAt, Instr.sureAddr, Sem.run_bind, Sem.run_pure, Result.andThen_ok, run_loadVar_mid w b off ty cs d hc hu hd hi]
theorem rng3 {w : World} {b off : Nat} {x y z : Value} (h0 : w.cell? ⟨b, off, none⟩ = some x) (h1 : w.cell? ⟨b, off + 1, none⟩ = some y) (h2 : w.cell? ⟨b, off + 2, none⟩ = some z) : w.rangeAt b off [x, y, z] := fun j v hv => by
  match j, hv with
  | 0, hv => simp at hv; subst hv; exact h0
  | 1, hv => simp at hv; subst hv; exact h1
  | 2, hv => simp at hv; subst hv; exact h2
  | j + 3, hv => simp at hv
theorem infoTT : (Try.prog.info? 37).map (·.size) = some 3 := by kernel_rfl
end Go.Proofs.Ytgmifpicilfcdab
namespace Go.Proofs.Ytgmifpicilfcdab
set_option linter.unusedVariables false
set_option linter.unusedSimpArgs false
/-- A way, moved: its vertices by n, its face by m. -/
def shW (n m : Int) (w : Way) : Way := ⟨w.a + n, w.b + n, w.f + m, w.c + n⟩
def shF (n : Int) (gs : List (List Int)) : List (List Int) := gs.map fun x => x.map (· + n)
theorem wayR_sh (n m f : Int) : ∀ (x : List Int) (b a : Int), wayR (f + m) (b + n) (a + n) (x.map (· + n)) = (wayR f b a x).map (shW n m)
  | [], _, _ => rfl
  | t :: r, b, a => by
    simp only [List.map_cons, wayR, wayR_sh n m f r a t]
    rfl
theorem waysF_sh (n m f : Int) (x : List Int) : waysF (f + m) (x.map (· + n)) = (waysF f x).map (shW n m) := by
  cases x with
  | nil => rfl
  | cons t r =>
    unfold waysF
    have g : ∀ k, k < (t :: r).length → ((t :: r).map (· + n)).getD k 0 = (t :: r).getD k 0 + n := fun k hk => by
      rw [List.getD_eq_getElem?_getD, List.getD_eq_getElem?_getD, List.getElem?_map, List.getElem?_eq_getElem hk]; rfl
    rw [List.length_map, g _ (by simp; omega), g _ (by simp), wayR_sh]
theorem waysL_sh (n : Int) (m : Nat) : ∀ (gs : List (List Int)) (k : Nat), waysL (k + m) (shF n gs) = (waysL k gs).map (shW n (m : Int))
  | [], _ => rfl
  | x :: r, k => by
    have ih := waysL_sh n m r (k + 1)
    unfold shF at *
    simp only [List.map_cons, waysL, List.map_append]
    rw [show k + m + 1 = k + 1 + m by omega, ih, show ((k + m : Nat) : Int) = (k : Int) + (m : Int) by omega, waysF_sh]
def both (n : Int) (fs gs : List (List Int)) : List (List Int) := fs ++ shF n gs
theorem both_ways (n : Int) (fs gs : List (List Int)) : waysL 0 (both n fs gs) = waysL 0 fs ++ (waysL 0 gs).map (shW n (fs.length : Int)) := by
  unfold both
  rw [waysL_append, waysL_sh]
theorem two_mem {n : Int} {fs gs : List (List Int)} {w : Way} : w ∈ waysL 0 (both n fs gs) ↔ w ∈ waysL 0 fs ∨ ∃ u ∈ waysL 0 gs, w = shW n (fs.length : Int) u := by
  rw [both_ways, List.mem_append, List.mem_map]
  constructor
  · rintro (h | ⟨u, hu, rfl⟩)
    · exact .inl h
    · exact .inr ⟨u, hu, rfl⟩
  · rintro (h | ⟨u, hu, rfl⟩)
    · exact .inl h
    · exact .inr ⟨u, hu, rfl⟩
theorem beq_add (x y n : Int) : (x + n == y + n) = (x == y) := by
  rw [Bool.eq_iff_iff, beq_iff_eq, beq_iff_eq]
  omega
/-- What is known of the two: their ways lie apart. -/
structure Two (n m : Int) (fs gs : List (List Int)) : Prop where
  o1 : WalkOk n fs
  o2 : WalkOk m gs
theorem WalkOk.rng {n : Int} {fs : List (List Int)} (h : WalkOk n fs) {w : Way} (hw : w ∈ waysL 0 fs) : (0 ≤ w.a ∧ w.a < n) ∧ (0 ≤ w.b ∧ w.b < n) ∧ (0 ≤ w.c ∧ w.c < n) := by
  obtain ⟨d, hd⟩ := h.prev hw
  obtain ⟨d2, hd2⟩ := h.prev hd
  exact ⟨h.inr _ hd, h.inr _ hw, h.inr _ hd2⟩
theorem WalkOk.frng {n : Int} {fs : List (List Int)} (h : WalkOk n fs) {w : Way} (hw : w ∈ waysL 0 fs) : 0 ≤ w.f ∧ w.f < fs.length := by
  obtain ⟨j, hj, hm⟩ := (mem_waysL fs 0 w).1 hw
  have := waysF_fc hm
  omega
section
variable {n m : Int} {fs gs : List (List Int)} (h : Two n m fs gs)
include h
theorem two_walk : WalkOk (n + m) (both n fs gs) where
  long x hx := by
    rcases List.mem_append.1 hx with hx | hx
    · exact h.o1.long x hx
    · obtain ⟨y, hy, rfl⟩ := List.mem_map.1 hx
      rw [List.length_map]; exact h.o2.long y hy
  inr w hw := by
    have p1 := h.o1.pos
    have p2 := h.o2.pos
    rcases two_mem.1 hw with hw | ⟨u, hu, rfl⟩
    · have := h.o1.inr w hw; omega
    · have := h.o2.inr u hu; simp only [shW]; omega
  apart := by
    unfold Apart
    rw [both_ways, List.pairwise_append]
    refine ⟨h.o1.apart, ?_, fun x hx y hy => ?_⟩
    · rw [List.pairwise_map]
      exact List.Pairwise.imp (fun {x y} k => ⟨fun e => k.1 ⟨by have := e.1; simp only [shW] at this; omega, by have := e.2; simp only [shW] at this; omega⟩, fun e => k.2 ⟨by have := e.1; simp only [shW] at this; omega, by have := e.2; simp only [shW] at this; omega⟩⟩) h.o2.apart
    · obtain ⟨u, hu, rfl⟩ := List.mem_map.1 hy
      have r1 := h.o1.rng hx
      have r2 := h.o2.rng hu
      simp only [apart, shW]
      omega
  pos := by have p1 := h.o1.pos; have p2 := h.o2.pos; omega
  all v h0 h1 := by
    by_cases c : v < n
    · obtain ⟨w, hw, e⟩ := h.o1.all v h0 c
      exact ⟨w, two_mem.2 (.inl hw), e⟩
    · obtain ⟨w, hw, e⟩ := h.o2.all (v - n) (by omega) (by omega)
      exact ⟨_, two_mem.2 (.inr ⟨w, hw, rfl⟩), by simp only [shW]; omega⟩
theorem two_look1 (a b : Int) (ha : a < n) : look (waysL 0 (both n fs gs)) a b = look (waysL 0 fs) a b := by
  unfold look
  rw [both_ways, List.find?_append]
  have : List.find? (fun w => w.a == a && w.b == b) ((waysL 0 gs).map (shW n (fs.length : Int))) = none := by
    rw [List.find?_eq_none]
    intro x hx
    obtain ⟨u, hu, rfl⟩ := List.mem_map.1 hx
    have := h.o2.rng hu
    simp only [shW, Bool.and_eq_true, beq_iff_eq]
    omega
  rw [this]; simp
theorem two_look2 (a b : Int) (ha : 0 ≤ a) : look (waysL 0 (both n fs gs)) (a + n) (b + n) = (look (waysL 0 gs) a b).map (shW n (fs.length : Int)) := by
  unfold look
  rw [both_ways, List.find?_append]
  have : List.find? (fun w => w.a == a + n && w.b == b + n) (waysL 0 fs) = none := by
    rw [List.find?_eq_none]
    intro x hx
    have := h.o1.rng hx
    simp only [Bool.and_eq_true, beq_iff_eq]
    omega
  rw [this, Option.none_or, List.find?_map]
  congr 2
  funext w
  simp only [Function.comp, shW]
  rw [beq_add, beq_add]
theorem two_froms1 (v : Int) (hv : v < n) : froms (waysL 0 (both n fs gs)) v = froms (waysL 0 fs) v := by
  unfold froms
  rw [both_ways, List.filter_append]
  have : List.filter (fun w => w.a == v) ((waysL 0 gs).map (shW n (fs.length : Int))) = [] := by
    rw [List.filter_eq_nil_iff]
    intro x hx
    obtain ⟨u, hu, rfl⟩ := List.mem_map.1 hx
    have := h.o2.rng hu
    simp only [shW, beq_iff_eq]
    omega
  rw [this, List.append_nil]
theorem two_froms2 (v : Int) (hv : 0 ≤ v) : froms (waysL 0 (both n fs gs)) (v + n) = (froms (waysL 0 gs) v).map (shW n (fs.length : Int)) := by
  unfold froms
  rw [both_ways, List.filter_append]
  have : List.filter (fun w => w.a == v + n) (waysL 0 fs) = [] := by
    rw [List.filter_eq_nil_iff]
    intro x hx
    have := h.o1.rng hx
    simp only [beq_iff_eq]
    omega
  rw [this, List.nil_append, List.filter_map]
  congr 2
  funext w
  simp only [Function.comp, shW]
  rw [beq_add]
theorem two_hub1 (v : Int) (hv : v < n) : hubOf (waysL 0 (both n fs gs)) v (waysL 0 (both n fs gs)) = hubOf (waysL 0 fs) v (waysL 0 fs) := by
  unfold hubOf
  rw [two_froms1 h v hv]
  have : ∀ (Q : List Way) (s : Int × Nat), (∀ w ∈ Q, w.b < n) → Q.foldl (hubStep (waysL 0 (both n fs gs))) s = Q.foldl (hubStep (waysL 0 fs)) s := by
    intro Q
    induction Q with
    | nil => intro s _; rfl
    | cons w Q ih =>
      intro s hQ
      simp only [List.foldl_cons]
      rw [show hubStep (waysL 0 (both n fs gs)) s w = hubStep (waysL 0 fs) s w by unfold hubStep; rw [two_look1 h _ _ (hQ w (by simp))]]
      exact ih _ fun u hu => hQ u (List.mem_cons_of_mem _ hu)
  exact this _ _ fun w hw => (h.o1.rng (mem_froms.1 hw).1).2.1.2
theorem two_hub2 (v : Int) (h0 : 0 ≤ v) (h1 : v < m) : (hubOf (waysL 0 (both n fs gs)) (v + n) (waysL 0 (both n fs gs))).1 = (hubOf (waysL 0 gs) v (waysL 0 gs)).1 + n := by
  unfold hubOf
  rw [two_froms2 h v h0]
  have : ∀ (Q : List Way) (s s' : Int × Nat), (∀ w ∈ Q, 0 ≤ w.b) → s.2 = s'.2 → (s.2 ≠ 0 → s.1 = s'.1 + n) → (Q = [] → s.2 ≠ 0) → ((Q.map (shW n (fs.length : Int))).foldl (hubStep (waysL 0 (both n fs gs))) s).1 = (Q.foldl (hubStep (waysL 0 gs)) s').1 + n := by
    intro Q
    induction Q with
    | nil => intro s s' _ _ h3 h4; exact h3 (h4 rfl)
    | cons w Q ih =>
      intro s s' hQ h2 h3 _
      simp only [List.map_cons, List.foldl_cons]
      have hl : look (waysL 0 (both n fs gs)) (shW n (fs.length : Int) w).b (shW n (fs.length : Int) w).a = none ↔ look (waysL 0 gs) w.b w.a = none := by
        simp only [shW]
        rw [two_look2 h _ _ (hQ w (by simp))]
        simp
      refine ih _ _ (fun u hu => hQ u (List.mem_cons_of_mem _ hu)) (by simp [hubStep, h2]) (fun _ => ?_) (fun _ => by simp [hubStep])
      unfold hubStep
      simp only
      by_cases c : s.2 = 0 ∨ look (waysL 0 (both n fs gs)) (shW n (fs.length : Int) w).b (shW n (fs.length : Int) w).a = none
      · rw [if_pos c, if_pos (c.imp (fun e => h2 ▸ e) hl.1)]; rfl
      · rw [if_neg c, if_neg (fun k => c (k.imp (fun e => h2 ▸ e) hl.2))]
        exact h3 fun e => c (.inl e)
  refine this _ _ _ (fun w hw => (h.o2.rng (mem_froms.1 hw).1).2.1.1) rfl (fun e => absurd rfl e) (fun e => ?_)
  obtain ⟨w, hw, hb⟩ := h.o2.all v h0 h1
  obtain ⟨d, hd⟩ := h.o2.next hw
  have : (⟨w.b, d, w.f, w.a⟩ : Way) ∈ froms (waysL 0 gs) v := mem_froms.2 ⟨hd, hb⟩
  rw [e] at this; cases this
theorem two_fan1 {v st : Int} {L : List Way} {r : Bool} (hv : v < n) (k : FanR (waysL 0 fs) v st L r) : FanR (waysL 0 (both n fs gs)) v st L r where
  mem w hw := ⟨two_mem.2 (.inl (k.mem w hw).1), (k.mem w hw).2⟩
  first := k.first
  link := k.link
  mid := k.mid
  back := k.back
  stop hr := ⟨fun w hw ha => by
    have : w ∈ froms (waysL 0 (both n fs gs)) v := mem_froms.2 ⟨hw, ha⟩
    rw [two_froms1 h v hv] at this
    exact (k.stop hr).1 w (mem_froms.1 this).1 ha, (k.stop hr).2⟩
theorem two_fan2 {v st : Int} {L : List Way} {r : Bool} (hv : 0 ≤ v) (k : FanR (waysL 0 gs) v st L r) : FanR (waysL 0 (both n fs gs)) (v + n) (st + n) (L.map (shW n (fs.length : Int))) r := by
  have hends : ends (L.map (shW n (fs.length : Int))) (st + n) = ends L st + n := by
    unfold ends
    rw [List.getLast?_map]
    cases L.getLast? <;> rfl
  refine ⟨⟨fun w hw => ?_, fun h0 => ?_, fun i hi => ?_, fun i hi => ?_⟩, fun hr => ?_, fun hr => ?_⟩
  · obtain ⟨u, hu, rfl⟩ := List.mem_map.1 hw
    exact ⟨two_mem.2 (.inr ⟨u, (k.mem u hu).1, rfl⟩), by simp only [shW]; rw [(k.mem u hu).2]⟩
  · rw [List.getElem_map]
    simp only [shW]
    rw [k.first (by simpa using h0)]
  · rw [List.getElem_map, List.getElem_map]
    simp only [shW]
    rw [k.link i (by simpa using hi)]
  · rw [List.getElem_map]
    simp only [shW]
    have := k.mid i (by simpa using hi)
    omega
  · obtain ⟨h1, h2⟩ := k.back hr
    exact ⟨by simpa using h1, by rw [hends, h2]⟩
  · obtain ⟨h1, h2⟩ := k.stop hr
    refine ⟨fun w hw ha => ?_, ?_⟩
    · have : w ∈ froms (waysL 0 (both n fs gs)) (v + n) := mem_froms.2 ⟨hw, ha⟩
      rw [two_froms2 h v hv] at this
      obtain ⟨u, hu, rfl⟩ := List.mem_map.1 this
      obtain ⟨h3, h4⟩ := mem_froms.1 hu
      have := h1 u h3 h4
      rw [hends]
      simp only [shW]
      omega
    · rcases h2 with h2 | h2
      · exact .inl (by rw [h2]; rfl)
      · refine .inr ?_
        rw [hends]; omega
end
theorem two_surf {n m : Int} {fs gs : List (List Int)} (h1 : Surf n fs) (h2 : Surf m gs) : Surf (n + m) (both n fs gs) := by
  have h : Two n m fs gs := ⟨h1.1, h2.1⟩
  refine ⟨two_walk h, fun v g0 g1 => ?_⟩
  by_cases c : v < n
  · obtain ⟨L, r, k1, k2⟩ := h1.2 v g0 c
    exact ⟨L, r, by rw [two_hub1 h v c]; exact two_fan1 h c k1, by rw [two_froms1 h v c]; exact k2⟩
  · obtain ⟨L, r, k1, k2⟩ := h2.2 (v - n) (by omega) (by omega)
    have e : v = v - n + n := by omega
    refine ⟨L.map (shW n (fs.length : Int)), r, ?_, ?_⟩
    · have := two_fan2 h (by omega) k1
      rw [← two_hub2 h (v - n) (by omega) (by omega), ← e] at this
      exact this
    · rw [e, two_froms2 h _ (by omega), List.length_map, List.length_map]; exact k2
def shE (n m : Int) (e : Ed) : Ed := ⟨e.a + n, e.b + n, if e.f = -1 then -1 else e.f + m, if e.g = -1 then -1 else e.g + m⟩
theorem two_edges {n m : Int} {fs gs : List (List Int)} (h : Two n m fs gs) {es es2 : List Ed} (e1 : EdgesR (waysL 0 fs) es) (e2 : EdgesR (waysL 0 gs) es2) : EdgesR (waysL 0 (both n fs gs)) (es ++ es2.map (shE n (fs.length : Int))) := by
  have face1 : ∀ a b, a < n → faceOf (waysL 0 (both n fs gs)) a b = faceOf (waysL 0 fs) a b := fun a b ha => by
    unfold faceOf; rw [two_look1 h a b ha]
  have face2 : ∀ a b, 0 ≤ a → faceOf (waysL 0 (both n fs gs)) (a + n) (b + n) = if faceOf (waysL 0 gs) a b = -1 then -1 else faceOf (waysL 0 gs) a b + (fs.length : Int) := fun a b ha => by
    unfold faceOf; rw [two_look2 h a b ha]
    cases hl : look (waysL 0 gs) a b with
    | none => simp
    | some w =>
      obtain ⟨hw, _, _⟩ := look_some hl
      have := h.o2.frng hw
      simp only [Option.map_some, Option.getD_some, shW]
      rw [if_neg (by omega)]
  constructor
  · rw [List.pairwise_append]
    refine ⟨e1.sorted, ?_, fun x hx y hy => ?_⟩
    · rw [List.pairwise_map]
      refine e2.sorted.imp fun {x y} k => ?_
      unfold ltE at *
      simp only [shE]
      omega
    · obtain ⟨w, hw, rfl⟩ := (e1.mem x).1 hx
      obtain ⟨z, hz, rfl⟩ := List.mem_map.1 hy
      obtain ⟨u, hu, rfl⟩ := (e2.mem z).1 hz
      have r1 := h.o1.rng hw
      have r2 := h.o2.rng hu
      unfold ltE
      simp only [shE, edOf]
      omega
  · intro e
    rw [List.mem_append, List.mem_map]
    constructor
    · rintro (he | ⟨z, hz, rfl⟩)
      · obtain ⟨w, hw, rfl⟩ := (e1.mem e).1 he
        have r1 := h.o1.rng hw
        refine ⟨w, two_mem.2 (.inl hw), ?_⟩
        unfold edOf
        rw [face1 _ _ (by omega), face1 _ _ (by omega)]
      · obtain ⟨u, hu, rfl⟩ := (e2.mem z).1 hz
        have r2 := h.o2.rng hu
        refine ⟨_, two_mem.2 (.inr ⟨u, hu, rfl⟩), ?_⟩
        simp only [shW, shE, edOf]
        rw [show min (u.a + n) (u.b + n) = min u.a u.b + n by omega, show max (u.a + n) (u.b + n) = max u.a u.b + n by omega, face2 _ _ (by omega), face2 _ _ (by omega)]
        first | done | rfl
    · rintro ⟨w, hw, rfl⟩
      rcases two_mem.1 hw with hw | ⟨u, hu, rfl⟩
      · have r1 := h.o1.rng hw
        left
        refine (e1.mem _).2 ⟨w, hw, ?_⟩
        unfold edOf
        rw [face1 _ _ (by omega), face1 _ _ (by omega)]
      · have r2 := h.o2.rng hu
        right
        refine ⟨_, (e2.mem _).2 ⟨u, hu, rfl⟩, ?_⟩
        simp only [shW, shE, edOf]
        rw [show min (u.a + n) (u.b + n) = min u.a u.b + n by omega, show max (u.a + n) (u.b + n) = max u.a u.b + n by omega, face2 _ _ (by omega), face2 _ _ (by omega)]
        first | done | rfl
theorem two_topo {n m : Int} {fs gs : List (List Int)} {t u c : TopoT} (ht : TopoS n fs t) (hu : TopoS m gs u) (hc : TopoS (n + m) (both n fs gs) c) :
    c.es = t.es ++ u.es.map (shE n (fs.length : Int)) ∧ c.fans.length = t.fans.length + u.fans.length ∧ ∀ i (hi : i < u.fans.length) (hi2 : i < u.rs.length), ∃ (h1 : t.fans.length + i < c.fans.length) (h2 : t.fans.length + i < c.rs.length), (c.fans[t.fans.length + i]).length = (u.fans[i]).length ∧ c.rs[t.fans.length + i] = u.rs[i] := by
  have h : Two n m fs gs := ⟨ht.walk, hu.walk⟩
  have a1 := ht.nf
  have a2 := hu.nf
  have a3 := hc.nf
  have a4 := hc.nr
  refine ⟨hc.edges.one (two_edges h ht.edges hu.edges), by omega, fun i hi hi2 => ⟨by omega, by omega, ?_⟩⟩
  obtain ⟨L, k1, k2, k3⟩ := hu.fan i hi hi2
  obtain ⟨M, g1, g2, g3⟩ := hc.fan (t.fans.length + i) (by omega) (by omega)
  have e : ((t.fans.length + i : Nat) : Int) = (i : Int) + n := by omega
  have k4 := two_fan2 h (by omega) k1
  rw [← two_hub2 h (i : Int) (by omega) (by omega), ← e] at k4
  obtain ⟨e1, e2⟩ := g1.unique hc.walk.apart k4
  refine ⟨?_, e2⟩
  rw [g3, k3, e1]
  simp
end Go.Proofs.Ytgmifpicilfcdab
