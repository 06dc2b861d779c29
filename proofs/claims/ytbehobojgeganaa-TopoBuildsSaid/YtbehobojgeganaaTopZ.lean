/- The document's fan. -/
import Derived.Test.YtbehobojgeganaaTopY
import Derived.Test.YtbehobojgeganaaTopQ
import Derived.OwnWalk
namespace Go.Proofs.Ytbehobojgeganaa
open Go.RowKit
set_option linter.unusedVariables false
set_option linter.unusedSimpArgs false
set_option linter.unnecessarySimpa false
set_option maxRecDepth 100000

/-- What the search for an open way has found. -/
def FirstR (al P : List Way) (o : Int) : Prop := (o = -1 ∧ ∀ u ∈ P, look al u.b u.a ≠ none) ∨ ∃ w ∈ P, o = w.f ∧ 0 ≤ w.f ∧ look al w.b w.a = none
/-- What the document's fan answers. -/
def FanD (fs : List (List Int)) (v : Int) (W : World) (e : Ending) (W' : World) : Prop := Below W.heap.size W W' ∧ ((froms (waysL 0 fs) v = [] ∧ e = .returned (.tuple #[.slice none 0 0, .bool false, .bool false])) ∨ ∃ w0 L r B c rd, StartW (waysL 0 fs) v w0 ∧ FanR (waysL 0 fs) v w0.b L r ∧ (rd = true ↔ ∀ u ∈ froms (waysL 0 fs) v, look (waysL 0 fs) u.b u.a ≠ none) ∧ e = .returned (.tuple #[.slice B L.length c, .bool rd, .bool (L.length == (froms (waysL 0 fs) v).length)]) ∧ W'.ownsRow W.heap.size 3 1 (.slice B L.length c) L.length (ints (L.map Way.f)))
theorem first_start {al : List Way} {v o : Int} (h : FirstR al (froms al v) o) (hne : froms al v ≠ []) (hf : ∀ w ∈ al, 0 ≤ w.f) : (o < 0 ∧ (∀ u ∈ froms al v, look al u.b u.a ≠ none) ∧ ∃ w0, StartW al v w0 ∧ (froms al v).head? = some w0) ∨ (0 ≤ o ∧ ¬(∀ u ∈ froms al v, look al u.b u.a ≠ none) ∧ ∃ w0, StartW al v w0 ∧ o = w0.f) := by
  rcases h with ⟨rfl, hc⟩ | ⟨w, hw, rfl, h0, hn⟩
  · left
    refine ⟨by omega, hc, ?_⟩
    cases hq : froms al v with
    | nil => exact absurd hq hne
    | cons w r => exact ⟨w, ⟨by rw [hq]; simp, .inr ⟨by rw [hq]; rfl, by rw [hq] at hc ⊢; exact hc⟩⟩, rfl⟩
  · right
    exact ⟨h0, fun hc => hc w hw hn, w, ⟨hw, .inl hn⟩, rfl⟩
theorem waysL_f0 {fs : List (List Int)} (ok : WalkG fs) : ∀ w ∈ waysL 0 fs, 0 ≤ w.f := fun w hw => by
  obtain ⟨j, _, e, _⟩ := way_next ok hw
  omega

set_option maxHeartbeats 8000000 in
theorem dfan_any (W : World) (A : Option Addr) (k : Nat) (fs : List (List Int)) (v : Int) (ok : WalkG fs) (hpos : ∀ x ∈ fs, ∀ y ∈ x, 0 ≤ y) (hA : FL W A fs) (hf : fs.length < 1099511627776) (hx : ∀ x ∈ fs, x.length < 1099511627776) (hlen : (waysL 0 fs).length < 1099511627776) :
    Calls Try.prog 46 #[.slice A fs.length k, .int .i64 v] W (FanD fs v W) := by
  obtain ⟨i0, hi0, hz0, hz1, hz2⟩ := info_parts infoI
  have cL := fun (W1 : World) (hb : Below W.heap.size W W1) (a b : Int) => along_any W1 A k fs a b (hA.below hb) (by omega) (fun x h => by have := hx x h; omega)
  simp only [along_face ok.long ok.keyU] at cL
  have hf0 := waysL_f0 ok
  have hown0 := own_empty W W.heap.size 3 (Nat.le_refl _)
  have hb0 : Below W.heap.size W (W.alloc (.cells #[] 3)) := bel_alloc (Below.refl _ _) _
  have hfr : (froms (waysL 0 fs) v).length ≤ (waysL 0 fs).length := List.length_filter_le _ _
  have hpl : ∀ f, (froms (waysL 0 (fs.take f)) v).length ≤ (waysL 0 fs).length := fun f => by
    refine Nat.le_trans (List.length_filter_le _ _) ?_
    rw [waysL_len, waysL_len]
    exact tot_le fs f
  go_enter Try.func46, Try.ntmps46
  go_upto_region 2 with (fail)
  generalize hWe : W.alloc (.cells #[] 3) = W1 at *
  clear hWe
  go_wp2
  go_loopw [7, 8, 9] (fun mv ov fv wr => ∃ (f : Nat) (A9 : Option Addr) (c9 : Nat) (o : Int), fv = .int .i64 (f : Int) ∧ f ≤ fs.length ∧ mv = .slice A9 (froms (waysL 0 (fs.take f)) v).length c9 ∧ wr.ownsRow W.heap.size 3 1 (.slice A9 (froms (waysL 0 (fs.take f)) v).length c9) (froms (waysL 0 (fs.take f)) v).length (ints ((froms (waysL 0 (fs.take f)) v).map Way.f)) ∧ ov = .int .i64 o ∧ FirstR (waysL 0 fs) (froms (waysL 0 (fs.take f)) v) o ∧ Below W.heap.size W wr) (fun _ _ fv _ => fs.length - (intOf fv).toNat)
  case atStart => exact ⟨0, some ⟨W.heap.size, 0, none⟩, 0, -1, rfl, by omega, by simp [waysL, froms], by simpa [waysL, froms, ints] using hown0, rfl, .inl ⟨rfl, by simp [waysL, froms]⟩, hb0⟩
  case round =>
    obtain ⟨f, A9, c9, o, rfl, hfl, rfl, hown, rfl, hfi, hbr⟩ := hrel
    clear hown0 hb0
    have hpf := hpl f
    by_cases hlt : f < fs.length
    · obtain ⟨bb, off, B, m, rfl, hbl, hc, hIL⟩ := hA.at_ f hlt
      have hxl := hx _ (List.getElem_mem hlt)
      have hft := froms_take ok v f hlt
      have hnd := ok.nodup f hlt
      have hp0 := hpos _ (List.getElem_mem hlt)
      generalize fs[f] = x at *
      have q0 : (0 : Int) ≤ (f : Int) := by omega
      have q1 : (f : Int) < (fs.length : Int) := by omega
      have hcr := (hbr.cell (p := ⟨bb, off + f, none⟩) hbl).trans hc
      have hblr := Nat.lt_of_lt_of_le hbl hbr.size
      have cN := fun (W1 : World) (hb : Below W.heap.size W W1) => next_any W1 B m x v 1 (hIL.below hb) (.inl rfl) (by omega)
      by_cases hv : v ∈ x
      · have hnv := nextV_in hv hnd 1 hp0
        rw [if_pos hv] at hft
        generalize nextV x v 1 = nv at *
        generalize nextV x v (-1) = nc at *
        generalize hP : froms (waysL 0 (fs.take f)) v = P at *
        replace hft := Lib.hid hft
        replace hP := Lib.hid hP
        have cN1 := cN wr hbr
        go_upto_region 7 with (first | (go_at_call 63; (with_reducible refine cN1.mono ?_); rintro e W2 ⟨rfl, hb2⟩) | fail)
        have hbW2 := bel_trans hbr hb2
        have hown2 := own_lay hown hb2
        have hob := own_block hown2
        have hsz2 := hbW2.size
        clear hcr hblr hown
        go_upto_region 8 with (first | (at_builtin; (refine wpList_append_own _ rfl _ _ 41 rfl W.heap.size 3 i0 _ 1 8 Try.underlying41 hi0 hz0 hz1 hz2 rfl (by decide) _ _ _ rfl (hown2.alloc _) ⟨W2.heap.size, 0, none⟩ 1 1 [.int .i64 (f : Int)] rfl rfl (cell_one_new _ _ _) (fun x hx => by simp at hx; subst hx; rfl) (by unfold maxLen; omega) (by omega) (by simp; omega) ?_); intro v3 W3 hown3 hg3 hnil; have hg3b : W2.grownBy W3 (Value.slice A9 P.length c9).ownBlock := (World.grownBy_alloc _ _ _).trans hg3; clear hg3 hnil; obtain ⟨A3b, c3b, rfl⟩ := own_form hown3) | fail)
        have hbW3 := bel_own hbW2 hg3b (fun k hk => (hob k hk).1)
        clear hg3b hbW2 hown2
        have hcr := (hbW3.cell (p := ⟨bb, off + f, none⟩) hbl).trans hc
        have hblr := Nat.lt_of_lt_of_le hbl hbW3.size
        have hlk : faceOf (waysL 0 fs) nv v < 0 ↔ look (waysL 0 fs) nv v = none := by
          rw [← faceOf_neg ok.long]
          have := faceOf_ge ok.long nv v
          omega
        have cN2 := cN W3 hbW3
        have cL2 := fun (W1 : World) (hb : Below W.heap.size W W1) => cL W1 hb nv v
        generalize hav : faceOf (waysL 0 fs) nv v = av at *
        replace hav := Lib.hid hav
        replace hlk := Lib.hid hlk
        by_cases d1 : av < 0
        · go_wp2_with (first | (go_at_call 63; (with_reducible refine cN2.mono ?_); rintro e W4 ⟨rfl, hb4⟩) | (go_at_call 45; (refine (cL2 _ (bel_trans hbW3 hb4)).mono ?_); rintro e W5 ⟨rfl, hb5⟩) | fail)
          go_roundw
          case rel => exact ⟨f + 1, A3b, c3b, f, by go_num, by omega, by rw [hft.out]; simp, by rw [hft.out]; simpa [ints] using own_lay (own_lay hown3 hb4) hb5, rfl, .inr ⟨⟨v, nv, f, nc⟩, by rw [hft.out]; simp, rfl, q0, hlk.out.1 d1⟩, bel_trans (bel_trans hbW3 hb4) hb5⟩
          case measure => simp [intOf]; omega
        · go_wp2_with (first | (go_at_call 63; (with_reducible refine cN2.mono ?_); rintro e W4 ⟨rfl, hb4⟩) | (go_at_call 45; (refine (cL2 _ (bel_trans hbW3 hb4)).mono ?_); rintro e W5 ⟨rfl, hb5⟩) | fail)
          go_roundw
          case rel => exact ⟨f + 1, A3b, c3b, o, by go_num, by omega, by rw [hft.out]; simp, by rw [hft.out]; simpa [ints] using own_lay (own_lay hown3 hb4) hb5, rfl, by
            rw [hft.out]
            rcases hfi with ⟨h1, h2⟩ | ⟨w, h1, h2⟩
            · refine .inl ⟨h1, fun u hu => ?_⟩
              rcases List.mem_append.1 hu with hu | hu
              · exact h2 u hu
              · obtain rfl := List.mem_singleton.1 hu
                exact fun e => by have := hlk.out.2 e; omega
            · exact .inr ⟨w, List.mem_append_left _ h1, h2⟩, bel_trans (bel_trans hbW3 hb4) hb5⟩
          case measure => simp [intOf]; omega
      · have hnv := nextV_out (d := 1) hv
        rw [if_neg hv, List.append_nil] at hft
        rw [hnv] at cN
        generalize hP : froms (waysL 0 (fs.take f)) v = P at *
        replace hft := Lib.hid hft
        replace hP := Lib.hid hP
        replace hnv := Lib.hid hnv
        have cN1 := cN wr hbr
        go_wp2_with (first | (go_at_call 63; (with_reducible refine cN1.mono ?_); rintro e W2 ⟨rfl, hb2⟩) | fail)
        go_roundw
        case rel => exact ⟨f + 1, A9, c9, o, by go_num, by omega, by rw [hft.out], by rw [hft.out]; exact own_lay hown hb2, rfl, by rw [hft.out]; exact hfi, bel_trans hbr hb2⟩
        case measure => simp [intOf]; omega
    · obtain rfl : f = fs.length := by omega
      rw [List.take_length] at hown hfi hpf ⊢
      generalize hQl : (froms (waysL 0 fs) v).length = ql at hown hpf hfr ⊢
      by_cases hq0 : ql = 0
      · subst hq0
        go_wp2
        go_ret3
        exact ⟨hbr, .inl ⟨List.eq_nil_of_length_eq_zero hQl, rfl⟩⟩
      · have hqn : froms (waysL 0 fs) v ≠ [] := fun e => hq0 (by rw [← hQl, e]; rfl)
        have hqi : ((ql : Int) == 0) = false := by simp; omega
        rcases first_start hfi hqn hf0 with ⟨ho, hcl, w0, hSt, hhd⟩ | ⟨ho, hcl, w0, hSt, ho2⟩
        · have a0 := mem_froms.1 hSt.1
          obtain ⟨b9, rfl, hb9, _, hc9⟩ := own_cell hown (by omega)
          have hc90 := hc9 0 (by omega)
          have h0v : (ints ((froms (waysL 0 fs) v).map Way.f))[0]? = some (.int .i64 w0.f) := by
            have : (froms (waysL 0 fs) v)[0]? = some w0 := by rw [← List.head?_eq_getElem?]; exact hhd
            simp [ints, this]
          rw [h0v] at hc90
          clear hc9 h0v
          have hqp : (0 : Int) < (ql : Int) := by omega
          have hownB := own_empty wr wr.heap.size 3 (Nat.le_refl _)
          have hbB : Below W.heap.size W (wr.alloc (.cells #[] 3)) := bel_alloc hbr _
          have hZ : W.heap.size ≤ wr.heap.size := hbr.size
          have hZ2 : wr.heap.size ≤ (wr.alloc (.cells #[] 3)).heap.size := by simp
          go_upto_region 16 with (fail)
          generalize hWe : wr.alloc (.cells #[] 3) = W2 at *
          generalize hZe : wr.heap.size = Z at *
          clear hWe hZe hown hbr
          have hs0 := look_mem ok.apart a0.1
          rw [a0.2] at hs0
          have hz0f : faceOf (waysL 0 fs) v w0.b = w0.f := by unfold faceOf; rw [hs0]; rfl
          generalize hff : w0.f = ff at *
          replace hff := Lib.hid hff
          replace hz0f := Lib.hid hz0f
          replace hs0 := Lib.hid hs0
          replace hQl := Lib.hid hQl
          go_wp2
          go_loopw [11, 12] (fun lv fv wq => ∃ (L : List Way) (A2 : Option Addr) (c2 : Nat), FanC (waysL 0 fs) v w0.b L ∧ lv = .slice A2 L.length c2 ∧ fv = .int .i64 (faceOf (waysL 0 fs) v (ends L w0.b)) ∧ wq.ownsRow Z 3 1 (.slice A2 L.length c2) L.length (ints (L.map Way.f)) ∧ Below W.heap.size W wq ∧ Z ≤ wq.heap.size) (fun lv _ _ => ql + 1 - lenS lv)
          case atStart => exact ⟨[], some ⟨Z, 0, none⟩, 0, FanC.nil _ _ _, rfl, by rw [ends_nil, hz0f.out], by simpa [ints] using hownB, hbB, hZ2⟩
          case round =>
            obtain ⟨L, A2, c2, hF, rfl, rfl, hown, hbq, hZq⟩ := hrel
            clear hownB hbB
            have hle := hF.leG ok
            rw [hQl.out] at hle
            cases hlk : look (waysL 0 fs) v (ends L w0.b) with
            | none =>
              have hfo : faceOf (waysL 0 fs) v (ends L w0.b) = -1 := (faceOf_neg ok.long _ _).2 hlk
              rw [hfo]
              replace hfo := Lib.hid hfo
              have hLn : L ≠ [] := fun e => by subst e; rw [ends_nil, hs0.out] at hlk; cases hlk
              have hen : ends L w0.b ≠ w0.b := fun e => by rw [e, hs0.out] at hlk; cases hlk
              have hR : FanR (waysL 0 fs) v w0.b L false := ⟨hF, fun h => (by cases h), fun _ => ⟨fun w hw ha hb => look_none hlk w hw ⟨ha, hb⟩, .inr hen⟩⟩
              replace hlk := Lib.hid hlk
              by_cases d5 : L.length = ql
              · have d5i : (L.length : Int) = (ql : Int) := by omega
                have d5b : (L.length == ql) = true := by simp [d5]
                replace d5 := Lib.hid d5
                go_wp2
                go_ret3
                exact ⟨hbq, .inr ⟨w0, L, false, A2, c2, true, hSt, hR, ⟨fun _ => hcl, fun _ => rfl⟩, by rw [hQl.out, d5b]; first | rfl | (have hdn : decide (ff < 0) = false := (by simp; omega); rw [hdn]; rfl), own_base hown hZ⟩⟩
              · have d5i : ((L.length : Int) == (ql : Int)) = false := by simp; omega
                have d5b : (L.length == ql) = false := by simp [d5]
                replace d5b := Lib.hid d5b
                go_wp2
                go_ret3
                exact ⟨hbq, .inr ⟨w0, L, false, A2, c2, true, hSt, hR, ⟨fun _ => hcl, fun _ => rfl⟩, by rw [hQl.out, d5b.out]; first | rfl | (have hdn : decide (ff < 0) = false := (by simp; omega); rw [hdn]; rfl), own_base hown hZ⟩⟩
            | some u =>
              obtain ⟨hu, hua, hub⟩ := look_some hlk
              obtain ⟨j, hj, e1, _, e3⟩ := way_next ok hu
              rw [hua] at e3
              have hfo : faceOf (waysL 0 fs) v (ends L w0.b) = (j : Int) := by unfold faceOf; rw [hlk]; exact e1
              rw [hfo]
              replace hfo := Lib.hid hfo
              by_cases hst : L ≠ [] ∧ (j : Int) = ff
              · obtain ⟨hLn, hjf⟩ := hst
                have hu0 : u = w0 := ok.fromf hu a0.1 (hua.trans a0.2.symm) (e1.trans (hjf.trans hff.out.symm))
                have hR : FanR (waysL 0 fs) v w0.b L true := ⟨hF, fun _ => ⟨hLn, by rw [← hub, hu0]⟩, fun h => (by cases h)⟩
                have hLp : 0 < L.length := List.length_pos_iff.2 hLn
                have hLz : ((L.length : Int) == 0) = false := by simp; omega
                have hj0 : (0 : Int) ≤ (j : Int) := by omega
                subst hjf
                replace hlk := Lib.hid hlk
                replace hu0 := Lib.hid hu0
                by_cases d5 : L.length = ql
                · have d5i : (L.length : Int) = (ql : Int) := by omega
                  have d5b : (L.length == ql) = true := by simp [d5]
                  replace d5 := Lib.hid d5
                  go_wp2
                  go_ret3
                  exact ⟨hbq, .inr ⟨w0, L, true, A2, c2, true, hSt, hR, ⟨fun _ => hcl, fun _ => rfl⟩, by rw [hQl.out, d5b]; first | rfl | (have hdn : decide (ff < 0) = false := (by simp; omega); rw [hdn]; rfl), own_base hown hZ⟩⟩
                · have d5i : ((L.length : Int) == (ql : Int)) = false := by simp; omega
                  have d5b : (L.length == ql) = false := by simp [d5]
                  replace d5b := Lib.hid d5b
                  go_wp2
                  go_ret3
                  exact ⟨hbq, .inr ⟨w0, L, true, A2, c2, true, hSt, hR, ⟨fun _ => hcl, fun _ => rfl⟩, by rw [hQl.out, d5b.out]; first | rfl | (have hdn : decide (ff < 0) = false := (by simp; omega); rw [hdn]; rfl), own_base hown hZ⟩⟩
              · have hne : L = [] ∨ ends L w0.b ≠ w0.b := by
                  by_cases hL : L = []
                  · exact .inl hL
                  · refine .inr fun e => hst ⟨hL, ?_⟩
                    rw [e, hs0.out] at hlk
                    rw [← e1, ← Option.some.inj hlk, hff.out]
                have hF2 := hF.snoc hu hua hub hne
                have hle2 := hF2.leG ok
                rw [hQl.out] at hle2
                simp only [List.length_append, List.length_singleton] at hle2
                obtain ⟨bb, off, B, m, rfl, hbl, hc, hIL⟩ := hA.at_ j hj
                have hxl := hx _ (List.getElem_mem hj)
                generalize fs[j] = x at *
                have q0 : (0 : Int) ≤ (j : Int) := by omega
                have q1 : (j : Int) < (fs.length : Int) := by omega
                have hob := own_block hown
                have hbs := hbq.size
                have hgo : (L.length = 0) ∨ (0 < L.length ∧ ((j : Int) == ff) = false) := by
                  by_cases hL : L = []
                  · exact .inl (by simp [hL])
                  · refine .inr ⟨List.length_pos_iff.2 hL, ?_⟩
                    have : ¬(j : Int) = ff := fun e => hst ⟨hL, e⟩
                    simp [this]
                replace hlk := Lib.hid hlk
                replace hne := Lib.hid hne
                replace hst := Lib.hid hst
                have hfo2 : faceOf (waysL 0 fs) v (ends (L ++ [u]) w0.b) = faceOf (waysL 0 fs) v u.c := by rw [ends_snoc]
                replace hfo2 := Lib.hid hfo2
                have hmap : ints ((L ++ [u]).map Way.f) = ints (L.map Way.f) ++ [.int .i64 (j : Int)] := by simp [ints, e1]
                replace hmap := Lib.hid hmap
                replace e1 := Lib.hid e1
                generalize hLl : L.length = ll at *
                rcases hgo with hgo | ⟨hgo, hjf⟩
                · have hLz : ((ll : Int) == 0) = true := by simp [hgo]
                  replace hgo := Lib.hid hgo
                  go_upto_region 19 with (first | (at_builtin; (refine wpList_append_own _ rfl _ _ 41 rfl Z 3 i0 _ 1 8 Try.underlying41 hi0 hz0 hz1 hz2 rfl (by decide) _ _ _ rfl (hown.alloc _) ⟨wr.heap.size, 0, none⟩ 1 1 [.int .i64 (j : Int)] rfl rfl (cell_one_new _ _ _) (fun x hx => by simp at hx; subst hx; rfl) (by unfold maxLen; omega) (by omega) (by simp; omega) ?_); intro v3 W3 hown3 hg3 hnil; have hg3b : wr.grownBy W3 (Value.slice A2 ll c2).ownBlock := (World.grownBy_alloc _ _ _).trans hg3; clear hg3 hnil; obtain ⟨A3b, c3b, rfl⟩ := own_form hown3) | fail)
                  have hbW3 := bel_own hbq hg3b (fun k hk => by have := (hob k hk).1; omega)
                  have hZ3 := hg3b.size
                  clear hg3b hown
                  have hcr := (hbW3.cell (p := ⟨bb, off + j, none⟩) hbl).trans hc
                  have hblr := Nat.lt_of_lt_of_le hbl hbW3.size
                  have cN2 := next_any W3 B m x v (-1) (hIL.below hbW3) (.inr rfl) (by omega)
                  rw [e3] at cN2
                  have cL2 := fun (W1 : World) (hb : Below W.heap.size W W1) => cL W1 hb v u.c
                  go_wp2_with (first | (go_at_call 63; (with_reducible refine cN2.mono ?_); rintro e W4 ⟨rfl, hb4⟩) | (go_at_call 45; (refine (cL2 _ (bel_trans hbW3 hb4)).mono ?_); rintro e W5 ⟨rfl, hb5⟩) | fail)
                  go_roundw
                  case rel => exact ⟨L ++ [u], A3b, c3b, hF2, by simp [hLl], by rw [hfo2.out], by rw [hmap.out]; have := own_lay (own_lay hown3 hb4) hb5; simpa [hLl] using this, bel_trans (bel_trans hbW3 hb4) hb5, by have := hb4.size; have := hb5.size; omega⟩
                  case measure => simp [lenS]; omega
                · have hLz : ((ll : Int) == 0) = false := by simp; omega
                  go_upto_region 19 with (first | (at_builtin; (refine wpList_append_own _ rfl _ _ 41 rfl Z 3 i0 _ 1 8 Try.underlying41 hi0 hz0 hz1 hz2 rfl (by decide) _ _ _ rfl (hown.alloc _) ⟨wr.heap.size, 0, none⟩ 1 1 [.int .i64 (j : Int)] rfl rfl (cell_one_new _ _ _) (fun x hx => by simp at hx; subst hx; rfl) (by unfold maxLen; omega) (by omega) (by simp; omega) ?_); intro v3 W3 hown3 hg3 hnil; have hg3b : wr.grownBy W3 (Value.slice A2 ll c2).ownBlock := (World.grownBy_alloc _ _ _).trans hg3; clear hg3 hnil; obtain ⟨A3b, c3b, rfl⟩ := own_form hown3) | fail)
                  have hbW3 := bel_own hbq hg3b (fun k hk => by have := (hob k hk).1; omega)
                  have hZ3 := hg3b.size
                  clear hg3b hown
                  have hcr := (hbW3.cell (p := ⟨bb, off + j, none⟩) hbl).trans hc
                  have hblr := Nat.lt_of_lt_of_le hbl hbW3.size
                  have cN2 := next_any W3 B m x v (-1) (hIL.below hbW3) (.inr rfl) (by omega)
                  rw [e3] at cN2
                  have cL2 := fun (W1 : World) (hb : Below W.heap.size W W1) => cL W1 hb v u.c
                  go_wp2_with (first | (go_at_call 63; (with_reducible refine cN2.mono ?_); rintro e W4 ⟨rfl, hb4⟩) | (go_at_call 45; (refine (cL2 _ (bel_trans hbW3 hb4)).mono ?_); rintro e W5 ⟨rfl, hb5⟩) | fail)
                  go_roundw
                  case rel => exact ⟨L ++ [u], A3b, c3b, hF2, by simp [hLl], by rw [hfo2.out], by rw [hmap.out]; have := own_lay (own_lay hown3 hb4) hb5; simpa [hLl] using this, bel_trans (bel_trans hbW3 hb4) hb5, by have := hb4.size; have := hb5.size; omega⟩
                  case measure => simp [lenS]; omega
        · have a0 := mem_froms.1 hSt.1
          subst ho2
          have hownB := own_empty wr wr.heap.size 3 (Nat.le_refl _)
          have hbB : Below W.heap.size W (wr.alloc (.cells #[] 3)) := bel_alloc hbr _
          have hZ : W.heap.size ≤ wr.heap.size := hbr.size
          have hZ2 : wr.heap.size ≤ (wr.alloc (.cells #[] 3)).heap.size := by simp
          go_upto_region 16 with (fail)
          generalize hWe : wr.alloc (.cells #[] 3) = W2 at *
          generalize hZe : wr.heap.size = Z at *
          clear hWe hZe hown hbr
          have hs0 := look_mem ok.apart a0.1
          rw [a0.2] at hs0
          have hz0f : faceOf (waysL 0 fs) v w0.b = w0.f := by unfold faceOf; rw [hs0]; rfl
          generalize hff : w0.f = ff at *
          replace hff := Lib.hid hff
          replace hz0f := Lib.hid hz0f
          replace hs0 := Lib.hid hs0
          replace hQl := Lib.hid hQl
          go_wp2
          go_loopw [11, 12] (fun lv fv wq => ∃ (L : List Way) (A2 : Option Addr) (c2 : Nat), FanC (waysL 0 fs) v w0.b L ∧ lv = .slice A2 L.length c2 ∧ fv = .int .i64 (faceOf (waysL 0 fs) v (ends L w0.b)) ∧ wq.ownsRow Z 3 1 (.slice A2 L.length c2) L.length (ints (L.map Way.f)) ∧ Below W.heap.size W wq ∧ Z ≤ wq.heap.size) (fun lv _ _ => ql + 1 - lenS lv)
          case atStart => exact ⟨[], some ⟨Z, 0, none⟩, 0, FanC.nil _ _ _, rfl, by rw [ends_nil, hz0f.out], by simpa [ints] using hownB, hbB, hZ2⟩
          case round =>
            obtain ⟨L, A2, c2, hF, rfl, rfl, hown, hbq, hZq⟩ := hrel
            clear hownB hbB
            have hle := hF.leG ok
            rw [hQl.out] at hle
            cases hlk : look (waysL 0 fs) v (ends L w0.b) with
            | none =>
              have hfo : faceOf (waysL 0 fs) v (ends L w0.b) = -1 := (faceOf_neg ok.long _ _).2 hlk
              rw [hfo]
              replace hfo := Lib.hid hfo
              have hLn : L ≠ [] := fun e => by subst e; rw [ends_nil, hs0.out] at hlk; cases hlk
              have hen : ends L w0.b ≠ w0.b := fun e => by rw [e, hs0.out] at hlk; cases hlk
              have hR : FanR (waysL 0 fs) v w0.b L false := ⟨hF, fun h => (by cases h), fun _ => ⟨fun w hw ha hb => look_none hlk w hw ⟨ha, hb⟩, .inr hen⟩⟩
              replace hlk := Lib.hid hlk
              by_cases d5 : L.length = ql
              · have d5i : (L.length : Int) = (ql : Int) := by omega
                have d5b : (L.length == ql) = true := by simp [d5]
                replace d5 := Lib.hid d5
                go_wp2
                go_ret3
                exact ⟨hbq, .inr ⟨w0, L, false, A2, c2, false, hSt, hR, ⟨fun h => (by cases h), fun h => absurd h hcl⟩, by rw [hQl.out, d5b]; first | rfl | (have hdn : decide (ff < 0) = false := (by simp; omega); rw [hdn]; rfl), own_base hown hZ⟩⟩
              · have d5i : ((L.length : Int) == (ql : Int)) = false := by simp; omega
                have d5b : (L.length == ql) = false := by simp [d5]
                replace d5b := Lib.hid d5b
                go_wp2
                go_ret3
                exact ⟨hbq, .inr ⟨w0, L, false, A2, c2, false, hSt, hR, ⟨fun h => (by cases h), fun h => absurd h hcl⟩, by rw [hQl.out, d5b.out]; first | rfl | (have hdn : decide (ff < 0) = false := (by simp; omega); rw [hdn]; rfl), own_base hown hZ⟩⟩
            | some u =>
              obtain ⟨hu, hua, hub⟩ := look_some hlk
              obtain ⟨j, hj, e1, _, e3⟩ := way_next ok hu
              rw [hua] at e3
              have hfo : faceOf (waysL 0 fs) v (ends L w0.b) = (j : Int) := by unfold faceOf; rw [hlk]; exact e1
              rw [hfo]
              replace hfo := Lib.hid hfo
              by_cases hst : L ≠ [] ∧ (j : Int) = ff
              · obtain ⟨hLn, hjf⟩ := hst
                have hu0 : u = w0 := ok.fromf hu a0.1 (hua.trans a0.2.symm) (e1.trans (hjf.trans hff.out.symm))
                have hR : FanR (waysL 0 fs) v w0.b L true := ⟨hF, fun _ => ⟨hLn, by rw [← hub, hu0]⟩, fun h => (by cases h)⟩
                have hLp : 0 < L.length := List.length_pos_iff.2 hLn
                have hLz : ((L.length : Int) == 0) = false := by simp; omega
                have hj0 : (0 : Int) ≤ (j : Int) := by omega
                subst hjf
                replace hlk := Lib.hid hlk
                replace hu0 := Lib.hid hu0
                by_cases d5 : L.length = ql
                · have d5i : (L.length : Int) = (ql : Int) := by omega
                  have d5b : (L.length == ql) = true := by simp [d5]
                  replace d5 := Lib.hid d5
                  go_wp2
                  go_ret3
                  exact ⟨hbq, .inr ⟨w0, L, true, A2, c2, false, hSt, hR, ⟨fun h => (by cases h), fun h => absurd h hcl⟩, by rw [hQl.out, d5b]; first | rfl | (have hdn : decide (ff < 0) = false := (by simp; omega); rw [hdn]; rfl), own_base hown hZ⟩⟩
                · have d5i : ((L.length : Int) == (ql : Int)) = false := by simp; omega
                  have d5b : (L.length == ql) = false := by simp [d5]
                  replace d5b := Lib.hid d5b
                  go_wp2
                  go_ret3
                  exact ⟨hbq, .inr ⟨w0, L, true, A2, c2, false, hSt, hR, ⟨fun h => (by cases h), fun h => absurd h hcl⟩, by rw [hQl.out, d5b.out]; first | rfl | (have hdn : decide (ff < 0) = false := (by simp; omega); rw [hdn]; rfl), own_base hown hZ⟩⟩
              · have hne : L = [] ∨ ends L w0.b ≠ w0.b := by
                  by_cases hL : L = []
                  · exact .inl hL
                  · refine .inr fun e => hst ⟨hL, ?_⟩
                    rw [e, hs0.out] at hlk
                    rw [← e1, ← Option.some.inj hlk, hff.out]
                have hF2 := hF.snoc hu hua hub hne
                have hle2 := hF2.leG ok
                rw [hQl.out] at hle2
                simp only [List.length_append, List.length_singleton] at hle2
                obtain ⟨bb, off, B, m, rfl, hbl, hc, hIL⟩ := hA.at_ j hj
                have hxl := hx _ (List.getElem_mem hj)
                generalize fs[j] = x at *
                have q0 : (0 : Int) ≤ (j : Int) := by omega
                have q1 : (j : Int) < (fs.length : Int) := by omega
                have hob := own_block hown
                have hbs := hbq.size
                have hgo : (L.length = 0) ∨ (0 < L.length ∧ ((j : Int) == ff) = false) := by
                  by_cases hL : L = []
                  · exact .inl (by simp [hL])
                  · refine .inr ⟨List.length_pos_iff.2 hL, ?_⟩
                    have : ¬(j : Int) = ff := fun e => hst ⟨hL, e⟩
                    simp [this]
                replace hlk := Lib.hid hlk
                replace hne := Lib.hid hne
                replace hst := Lib.hid hst
                have hfo2 : faceOf (waysL 0 fs) v (ends (L ++ [u]) w0.b) = faceOf (waysL 0 fs) v u.c := by rw [ends_snoc]
                replace hfo2 := Lib.hid hfo2
                have hmap : ints ((L ++ [u]).map Way.f) = ints (L.map Way.f) ++ [.int .i64 (j : Int)] := by simp [ints, e1]
                replace hmap := Lib.hid hmap
                replace e1 := Lib.hid e1
                generalize hLl : L.length = ll at *
                rcases hgo with hgo | ⟨hgo, hjf⟩
                · have hLz : ((ll : Int) == 0) = true := by simp [hgo]
                  replace hgo := Lib.hid hgo
                  go_upto_region 19 with (first | (at_builtin; (refine wpList_append_own _ rfl _ _ 41 rfl Z 3 i0 _ 1 8 Try.underlying41 hi0 hz0 hz1 hz2 rfl (by decide) _ _ _ rfl (hown.alloc _) ⟨wr.heap.size, 0, none⟩ 1 1 [.int .i64 (j : Int)] rfl rfl (cell_one_new _ _ _) (fun x hx => by simp at hx; subst hx; rfl) (by unfold maxLen; omega) (by omega) (by simp; omega) ?_); intro v3 W3 hown3 hg3 hnil; have hg3b : wr.grownBy W3 (Value.slice A2 ll c2).ownBlock := (World.grownBy_alloc _ _ _).trans hg3; clear hg3 hnil; obtain ⟨A3b, c3b, rfl⟩ := own_form hown3) | fail)
                  have hbW3 := bel_own hbq hg3b (fun k hk => by have := (hob k hk).1; omega)
                  have hZ3 := hg3b.size
                  clear hg3b hown
                  have hcr := (hbW3.cell (p := ⟨bb, off + j, none⟩) hbl).trans hc
                  have hblr := Nat.lt_of_lt_of_le hbl hbW3.size
                  have cN2 := next_any W3 B m x v (-1) (hIL.below hbW3) (.inr rfl) (by omega)
                  rw [e3] at cN2
                  have cL2 := fun (W1 : World) (hb : Below W.heap.size W W1) => cL W1 hb v u.c
                  go_wp2_with (first | (go_at_call 63; (with_reducible refine cN2.mono ?_); rintro e W4 ⟨rfl, hb4⟩) | (go_at_call 45; (refine (cL2 _ (bel_trans hbW3 hb4)).mono ?_); rintro e W5 ⟨rfl, hb5⟩) | fail)
                  go_roundw
                  case rel => exact ⟨L ++ [u], A3b, c3b, hF2, by simp [hLl], by rw [hfo2.out], by rw [hmap.out]; have := own_lay (own_lay hown3 hb4) hb5; simpa [hLl] using this, bel_trans (bel_trans hbW3 hb4) hb5, by have := hb4.size; have := hb5.size; omega⟩
                  case measure => simp [lenS]; omega
                · have hLz : ((ll : Int) == 0) = false := by simp; omega
                  go_upto_region 19 with (first | (at_builtin; (refine wpList_append_own _ rfl _ _ 41 rfl Z 3 i0 _ 1 8 Try.underlying41 hi0 hz0 hz1 hz2 rfl (by decide) _ _ _ rfl (hown.alloc _) ⟨wr.heap.size, 0, none⟩ 1 1 [.int .i64 (j : Int)] rfl rfl (cell_one_new _ _ _) (fun x hx => by simp at hx; subst hx; rfl) (by unfold maxLen; omega) (by omega) (by simp; omega) ?_); intro v3 W3 hown3 hg3 hnil; have hg3b : wr.grownBy W3 (Value.slice A2 ll c2).ownBlock := (World.grownBy_alloc _ _ _).trans hg3; clear hg3 hnil; obtain ⟨A3b, c3b, rfl⟩ := own_form hown3) | fail)
                  have hbW3 := bel_own hbq hg3b (fun k hk => by have := (hob k hk).1; omega)
                  have hZ3 := hg3b.size
                  clear hg3b hown
                  have hcr := (hbW3.cell (p := ⟨bb, off + j, none⟩) hbl).trans hc
                  have hblr := Nat.lt_of_lt_of_le hbl hbW3.size
                  have cN2 := next_any W3 B m x v (-1) (hIL.below hbW3) (.inr rfl) (by omega)
                  rw [e3] at cN2
                  have cL2 := fun (W1 : World) (hb : Below W.heap.size W W1) => cL W1 hb v u.c
                  go_wp2_with (first | (go_at_call 63; (with_reducible refine cN2.mono ?_); rintro e W4 ⟨rfl, hb4⟩) | (go_at_call 45; (refine (cL2 _ (bel_trans hbW3 hb4)).mono ?_); rintro e W5 ⟨rfl, hb5⟩) | fail)
                  go_roundw
                  case rel => exact ⟨L ++ [u], A3b, c3b, hF2, by simp [hLl], by rw [hfo2.out], by rw [hmap.out]; have := own_lay (own_lay hown3 hb4) hb5; simpa [hLl] using this, bel_trans (bel_trans hbW3 hb4) hb5, by have := hb4.size; have := hb5.size; omega⟩
                  case measure => simp [lenS]; omega
end Go.Proofs.Ytbehobojgeganaa
