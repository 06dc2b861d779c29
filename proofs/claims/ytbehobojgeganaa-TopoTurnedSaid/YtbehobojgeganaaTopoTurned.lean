/- TopoTurned holds for every input: the row, out of the walk. No condition. -/
import Derived.Test.YtbehobojgeganaaRows
import Derived.SizedLaws
import Derived.Test.YtbehobojgeganaaOpenF
import Derived.Test.YtbehobojgeganaaTopR
import Derived.Test.YtbehobojgeganaaPost
namespace Go.Proofs.Ytbehobojgeganaa.topoTurned
open Go.ChangeShapes Go.WideShapes Go.ChangeAt Go.RowKit
set_option linter.unusedVariables false
set_option linter.unusedSimpArgs false
set_option maxRecDepth 100000
set_option maxHeartbeats 4000000 in
theorem walk (W : World) (a0 : Int) (b0 : -9223372036854775808 ≤ a0 ∧ a0 ≤ 9223372036854775807) (A1 : Option Addr) (k1 : Nat) (fs1 : List (List Int)) (l1 : fs1.length ≤ reachBytes) (m1 : ∀ q ∈ fs1, q.length ≤ reachBytes ∧ (∀ x ∈ q, i64B x)) (n1 : FL W A1 fs1) :
    Calls Try.prog 6 #[.int .i64 a0, .slice A1 fs1.length k1] W fun e W' => e = .returned (.bool true) ∧ Below W.heap.size W W' := by
  obtain ⟨hx, hi⟩ := row_lens m1
  have hl : fs1.length < 1099511627776000 := by rw [reach_num] at l1; omega
  have cG := fun (W1 : World) (hb : Below W.heap.size W W1) => great_any W1 a0 k1 fs1 A1 (n1.below hb) hl hx
  have cB := fun (hg : a0 ≤ 60 ∧ fs1.length + tot fs1 ≤ 300) (W1 : World) (hb : Below W.heap.size W W1) => built_any W1 a0 k1 fs1 A1 (n1.below hb) b0 hi (by omega)
  replace cB := Lib.hid cB
  go_enter Try.func6, Try.ntmps6
  obtain ⟨i0, hi0, hz0, hz1, hz2⟩ := info_parts infoI
  obtain ⟨i1, hi1, hy0, hy1, hy2⟩ := info_parts infoIS
  go_upto_region 5 with (first
    | (go_at_call 14; (with_reducible refine (alive8_any _).mono ?_); rintro e W1 ⟨rfl, hb1⟩)
    | (go_at_call 15; (with_reducible refine (cG W1 hb1).mono ?_); rintro e W2 ⟨bb, rfl, hb2, hgr⟩; have hb12 := bel_trans hb1 hb2; replace hgr := Lib.hid hgr; clear hb2 cG; cases bb)
    | fail)
  rotate_left
  · go_ret
    exact ⟨rfl, hb12⟩
  have htot := hgr.out trivial
  have hown0 := own_empty W2 W.heap.size 41 hb12.size
  have hb3 := bel_alloc hb12 (.cells #[] 41)
  go_upto_region 6 with (fail)
  generalize hW2e : W2.alloc (.cells #[] 41) = W3 at *
  clear hW2e
  generalize W2.heap.size = Y at *
  go_wp2
  go_loopw [5, 6] (fun bv fv wr => ∃ (f : Nat) (A9 : Option Addr) (c9 : Nat), fv = .int .i64 (f : Int) ∧ f ≤ fs1.length ∧ bv = .slice A9 (back (fs1.take f)).length c9 ∧ OwnF wr W.heap.size A9 c9 (back (fs1.take f)) ∧ Below W.heap.size W wr) (fun _ fv _ => fs1.length - (intOf fv).toNat)
  case atStart => exact ⟨0, some ⟨Y, 0, none⟩, 0, rfl, by omega, by simp [back], ⟨[], by simpa [back] using hown0, fun i hi => by simp [back] at hi⟩, hb3⟩
  case round =>
    obtain ⟨f, A9, c9, rfl, hf, rfl, hOF, hbel⟩ := hrel
    clear hown0 hb3
    by_cases hfl : f < fs1.length
    · obtain ⟨b, off, Bf, m, rfl, hbl, hcell, hIL⟩ := n1.at_ f hfl
      have htb := len_tot (List.getElem_mem hfl)
      have hbk : back (fs1.take (f + 1)) = back (fs1.take f) ++ [(fs1[f]).reverse] := by
        rw [List.take_succ_eq_append_getElem hfl]; simp only [back, List.map_append, List.map_cons, List.map_nil]
      have hbl9 : (back (fs1.take f)).length = f := by simp [back]; omega
      have hixs := fun j (h : j < (fs1[f]).length) => m1 _ (List.getElem_mem hfl)
      generalize fs1[f] = x at *
      replace hbk := Lib.hid hbk
      have k0 : (0 : Int) ≤ (f : Int) := by omega
      have k1 : (f : Int) < (fs1.length : Int) := by omega
      have hown0 := own_empty wr wr.heap.size 3 (Nat.le_refl _)
      have hbo : Below wr.heap.size wr (wr.alloc (.cells #[] 3)) := bel_alloc (Below.refl _ _) _
      have hcr := (hbel.cell (p := ⟨b, off + f, none⟩) hbl).trans hcell
      have hblr := Nat.lt_of_lt_of_le hbl hbel.size
      have hbl8 : (back (fs1.take f)).length < 1099511627776 := by omega
      replace hbl9 := Lib.hid hbl9
      obtain ⟨Z, hZ⟩ : ∃ Z, Z = wr.heap.size := ⟨_, rfl⟩
      rw [← hZ] at hown0
      go_wp2
      rw [← hZ]
      replace hZ := Lib.hid hZ
      clear hcr hblr
      go_loopw [7, 8] (fun lv iv wq => ∃ (q t : Nat) (vi : Int) (A2 : Option Addr) (c2 : Nat), iv = .int .i64 vi ∧ (t : Int) = vi + 1 ∧ q + t = x.length ∧ lv = .slice A2 q c2 ∧ wq.ownsRow Z 3 1 (.slice A2 q c2) q (ints (x.reverse.take q)) ∧ Below wr.heap.size wr wq) (fun _ iv _ => ((intOf iv) + 1).toNat)
      case atStart => exact ⟨0, x.length, (x.length : Int) - 1, some ⟨Z, 0, none⟩, 0, rfl, by omega, by omega, rfl, by simpa [ints] using hown0, hbo⟩
      case round =>
        obtain ⟨q, tt, vi, A2, c2, rfl, hvi, hqt, rfl, hown, hbq⟩ := hrel
        clear hown0 hbo
        have hbW := bel_trans hbel hbq
        have hcr := (hbW.cell (p := ⟨b, off + f, none⟩) hbl).trans hcell
        have hblr := Nat.lt_of_lt_of_le hbl hbW.size
        rcases Nat.eq_zero_or_pos tt with h0 | h0
        · subst h0
          obtain rfl : q = x.length := by omega
          obtain rfl : vi = -1 := by omega
          have htr : x.reverse.take x.length = x.reverse := List.take_of_length_le (by simp)
          rw [htr] at hown
          have hOF2 := hOF.lay hbq
          obtain ⟨vals, hO1, hO2⟩ := hOF2.row
          have hob := own_block hO1
          have hsz := hbW.size
          go_wp2_with (first | (at_builtin; (refine wpList_append_own _ rfl _ _ 22 rfl W.heap.size 41 i1 _ 1 24 Try.underlying22 hi1 hy0 hy1 hy2 rfl (by decide) _ _ _ rfl (hO1.alloc _) ⟨wr.heap.size, 0, none⟩ 1 1 [.slice A2 x.length c2] rfl rfl (cell_one_new _ _ _) (fun x hx => by simp at hx; subst hx; rfl) (by unfold maxLen; omega) (by omega) (by have := hbel.size; have := hbq.size; simp; omega) ?_); intro v6 W6 hown6 hg6 hnil; have hg56 : wr.grownBy W6 (Value.slice A9 (back (fs1.take f)).length c9).ownBlock := (World.grownBy_alloc _ _ _).trans hg6; clear hg6 hnil; obtain ⟨A6b, c6b, rfl⟩ := own_form hown6) | fail)
          have hOF6 := OwnF.add (x := x.reverse) hO2 hO1 (by simpa using own_base hown (by rw [hZ.out]; exact hbel.size)) hg56 (by simpa using hown6)
          have hb6 := bel_own hbW hg56 (fun k hk => (hob k hk).1)
          go_roundw
          case rel => exact ⟨f + 1, A6b, c6b, by go_num, by omega, by rw [hbk.out]; simp, by rw [hbk.out]; exact hOF6, hb6⟩
          case measure => simp [intOf]; omega
        · obtain ⟨s, rfl⟩ : ∃ s, tt = s + 1 := ⟨tt - 1, by omega⟩
          obtain rfl : vi = (s : Int) := by omega
          have hsx : s < x.length := by omega
          obtain ⟨b2, off2, rfl, hb2, hc2⟩ := (hIL.below hbW) (by omega)
          have g1 := hc2 s hsx
          have hrv : x.reverse.take (q + 1) = x.reverse.take q ++ [x[s]] := by
            rw [List.take_succ_eq_append_getElem (by simp; omega)]
            congr 2
            rw [List.getElem_reverse]
            congr 1; omega
          clear hc2
          generalize x[s] = xv at *
          replace hrv := Lib.hid hrv
          have q0 : (0 : Int) ≤ (s : Int) := by omega
          have q1 : (s : Int) < (x.length : Int) := by omega
          have hob := own_block hown
          go_wp2_with (first | (at_builtin; (refine wpList_append_own _ rfl _ _ 41 rfl Z 3 i0 _ 1 8 Try.underlying41 hi0 hz0 hz1 hz2 rfl (by decide) _ _ _ rfl (hown.alloc _) ⟨wr.heap.size, 0, none⟩ 1 1 [.int .i64 xv] rfl rfl (cell_one_new _ _ _) (fun x hx => by simp at hx; subst hx; rfl) (by unfold maxLen; omega) (by omega) (by have := hbq.size; rw [hZ.out]; simp; omega) ?_); intro v3 W3 hown3 hg3 hnil; have hg3b : wr.grownBy W3 (Value.slice A2 q c2).ownBlock := (World.grownBy_alloc _ _ _).trans hg3; clear hg3 hnil; obtain ⟨A3b, c3b, rfl⟩ := own_form hown3) | fail)
          have hb3 := bel_own (a := _) hbq hg3b (fun k hk => by have := (hob k hk).1; rw [hZ.out] at this; exact this)
          go_roundw
          case rel => exact ⟨q + 1, s, (s : Int) - 1, A3b, c3b, by first | rfl | go_num, by omega, by omega, rfl, by rw [hrv.out]; simpa [ints] using hown3, hb3⟩
          case measure => (simp [intOf]) <;> omega
    · obtain rfl : f = fs1.length := by omega
      simp only [List.take_length] at hOF ⊢
      have cB1 := cB.out htot wr hbel
      have hFLb := hOF.fl
      have hlb : (back fs1).length = fs1.length := by simp [back]
      have htb2 : tot (back fs1) = tot fs1 := by
        unfold tot back
        rw [List.map_map]
        congr 1
        apply List.map_congr_left
        intro x _; simp
      have cB2 := fun (Wx : World) (h : Below wr.heap.size wr Wx) => built_any Wx a0 c9 (back fs1) A9 (hFLb.below h) b0 (fun x hx y hy => by
        obtain ⟨z, hz, rfl⟩ := List.mem_map.1 hx
        exact hi z hz y (by simpa using hy)) (by omega)
      replace cB2 := Lib.hid cB2
      replace hlb := Lib.hid hlb
      replace htb2 := Lib.hid htb2
      go_upto_region 16 with (first | (go_at_call 17; (with_reducible refine cB1.mono ?_); rintro e W3 ⟨A4, A5, A6, t, c4, c5, c6, ee, rfl, hP⟩) | fail)
      have hT : Blk (W3.alloc (.cells #[.slice A4 t.es.length c4, .slice A5 t.fans.length c5, .slice A6 t.rs.length c6] 29)) W3.heap.size 29 #[.slice A4 t.es.length c4, .slice A5 t.fans.length c5, .slice A6 t.rs.length c6] := Blk.new _ _ _ _ rfl
      have hb4 := bel_alloc hP.bel (.cells #[.slice A4 t.es.length c4, .slice A5 t.fans.length c5, .slice A6 t.rs.length c6] 29)
      have hV4 := TopoV.below hP.isV (bel_alloc (Below.refl _ _) (.cells #[.slice A4 t.es.length c4, .slice A5 t.fans.length c5, .slice A6 t.rs.length c6] 29))
      have hg1 := hP.good
      have hbW4 := bel_trans hbel hb4
      clear hP cB1
      generalize W3.alloc (.cells #[.slice A4 t.es.length c4, .slice A5 t.fans.length c5, .slice A6 t.rs.length c6] 29) = W4 at *
      generalize W3.heap.size = T at *
      have cB3 := cB2.out W4 hb4
      clear cB2 cB
      replace hg1 := Lib.hid hg1
      go_upto_region 17 with (first | (go_at_call 17; (with_reducible refine cB3.mono ?_); rintro e W5 ⟨B4, B5, B6, u, d4, d5, d6, ff, rfl, hP⟩) | fail)
      have hU : Blk (W5.alloc (.cells #[.slice B4 u.es.length d4, .slice B5 u.fans.length d5, .slice B6 u.rs.length d6] 29)) W5.heap.size 29 #[.slice B4 u.es.length d4, .slice B5 u.fans.length d5, .slice B6 u.rs.length d6] := Blk.new _ _ _ _ rfl
      have hb5 := bel_alloc hP.bel (.cells #[.slice B4 u.es.length d4, .slice B5 u.fans.length d5, .slice B6 u.rs.length d6] 29)
      have hV5 := TopoV.below hP.isV (bel_alloc (Below.refl _ _) (.cells #[.slice B4 u.es.length d4, .slice B5 u.fans.length d5, .slice B6 u.rs.length d6] 29))
      have hbW5 := bel_trans hbW4 hb5
      have hg2 := hP.good
      clear hP cB3
      generalize W5.alloc (.cells #[.slice B4 u.es.length d4, .slice B5 u.fans.length d5, .slice B6 u.rs.length d6] 29) = W6 at *
      generalize W5.heap.size = U at *
      have hT6 := hT.below hb5
      have hV6 := hV4.below hb5
      have hpair : ff = ee ∧ u.es = t.es.map (fun e => ⟨e.a, e.b, e.g, e.f⟩) ∧ u.rs = t.rs ∧ t.es.length ≤ 300 ∧ t.rs.length ≤ 60 := by
        rcases hg1.out with ⟨rfl, hs, hS⟩ | ⟨rfl, hn, rfl, _⟩
        · rcases hg2 with ⟨rfl, hs2, hS2⟩ | ⟨_, hn2, _⟩
          · obtain ⟨e1, e2⟩ := topo_back hS hS2
            have h1 := edges_le hS.walk hS.edges
            have h2 := waysL_len fs1 0
            have h3 := hS.nr
            exact ⟨rfl, e1, e2, by omega, by omega⟩
          · exact absurd (surf_back hs) hn2
        · rcases hg2 with ⟨_, hs2, _⟩ | ⟨rfl, _, rfl, _⟩
          · exact absurd (surf_back_iff.2 hs2) hn
          · exact ⟨rfl, rfl, rfl, by simp, by simp⟩
      clear hg1 hg2 hT hV4 hb4 hbW4 hb5 hFLb hOF hbel n1
      obtain ⟨ues, ufans, urs⟩ := u
      simp only at hpair hU hV5
      obtain ⟨rfl, rfl, rfl, hel, hrl⟩ := hpair
      simp only [List.length_map] at hU hV5 ⊢
      have t0 : W6.cell? ⟨T, 0, none⟩ = some (.slice A4 t.es.length c4) := hT6.cell 0
      have u0 : W6.cell? ⟨U, 0, none⟩ = some (.slice B4 t.es.length d4) := hU.cell 0
      have tl := hT6.lt
      have ul := hU.lt
      go_wp2
      clear t0 u0 tl ul
      go_loopw [13] (fun iv wq => ∃ i : Nat, iv = .int .i64 (i : Int) ∧ i ≤ t.es.length ∧ Below W6.heap.size W6 wq) (fun iv _ => t.es.length - (intOf iv).toNat)
      case atStart => exact ⟨0, rfl, by omega, Below.refl _ _⟩
      case round =>
        obtain ⟨i, rfl, hi3, hbq⟩ := hrel
        have hTq := hT6.below hbq
        have hUq := hU.below hbq
        have t0 : wr.cell? ⟨T, 0, none⟩ = some (.slice A4 t.es.length c4) := hTq.cell 0
        have u0 : wr.cell? ⟨U, 0, none⟩ = some (.slice B4 t.es.length d4) := hUq.cell 0
        have tl := hTq.lt
        have ul := hUq.lt
        by_cases hil : i < t.es.length
        · obtain ⟨b1, off1, rfl, hbl1, hc1⟩ := (hV6.es.below hbq) (by omega)
          obtain ⟨g0, g1, g2, g3⟩ := hc1 i hil
          obtain ⟨b2, off2, rfl, hbl2, hc2⟩ := (hV5.es.below hbq) (by simp only [List.length_map]; omega)
          obtain ⟨q0, q1, q2, q3⟩ := hc2 i (by simpa using hil)
          simp only [List.getElem_map] at q0 q1 q2 q3
          clear hc1 hc2
          generalize t.es[i].a = ea at *
          generalize t.es[i].b = eb at *
          generalize t.es[i].f = ef at *
          generalize t.es[i].g = eg at *
          have k0 : (0 : Int) ≤ (i : Int) := by omega
          have k1 : (i : Int) < (t.es.length : Int) := by omega
          have hbx : Blk (wr.alloc (.cells #[.int .i64 ea, .int .i64 eb, .int .i64 ef, .int .i64 eg] 38)) wr.heap.size 38 #[.int .i64 ea, .int .i64 eb, .int .i64 ef, .int .i64 eg] := Blk.new _ _ _ _ rfl
          have hb9 := bel_alloc hbq (.cells #[.int .i64 ea, .int .i64 eb, .int .i64 ef, .int .i64 eg] 38)
          go_wp2_with fail
          refine wp_region_grow (by kernel_rfl) (by kernel_rfl) ?_
          repeat (go_big_quiet_step ((fail)))
          refine wpQuiet_nil ?_
          rintro _ ⟨xg, rfl⟩
          have hb10 := bel_grow hb9 xg
          go_wp2_with fail
          go_roundw
          case rel => exact ⟨i + 1, by go_num, by omega, hb10⟩
          case measure => simp [intOf]; omega
        · obtain rfl : i = t.es.length := by omega
          have hRt := hV6.rs.below hbq
          have hRu := hV5.rs.below hbq
          simp only at hRu
          have hbWq := bel_trans hbW5 hbq
          go_wp2_with fail
          clear t0 u0 tl ul
          refine wp_region_monoL (RL [PE (.agg #[.slice A4 t.es.length c4, .slice A5 t.fans.length c5, .slice A6 t.rs.length c6]), PI (rl t.rs), PE (.agg #[.slice B4 t.es.length d4, .slice B5 ufans.length d5, .slice B6 t.rs.length d6]), PI (rl t.rs), PE (.bool true), PE (.bool true)]) (by kernel_rfl) _ rfl (by kernel_rfl) (by kernel_rfl) (RL.stays ?_) ?_ ?_
          · intro p hp
            simp only [List.mem_cons, List.not_mem_nil, or_false] at hp
            rcases hp with rfl | rfl | rfl | rfl | rfl | rfl <;> first | exact PE.stays _ | exact PI.stays _
          · refine ⟨?_, ?_, ?_, ?_, ?_, ?_, trivial⟩
            · refine mono_val rfl (fun a w hB hk hp => ?_)
              have e4 := (hk 9 (keep_of (by kernel_rfl))).trans (show _ = some (Value.pointer (some ⟨T, 0, none⟩)) from rfl)
              have hTw := hTq.below hB
              exact ⟨.agg #[.slice A4 t.es.length c4, .slice A5 t.fans.length c5, .slice A6 t.rs.length c6], w, ldm_run _ _ _ 29 _ rfl T 0 (eval_tmp e4) _ _ (rng3 (hTw.cell 0) (hTw.cell 1) (hTw.cell 2)) Try.underlying29 rfl infoTT, Below.refl _ _, fun _ _ => rfl⟩
            · refine mono_call rfl (fun a w hB hk hp => ?_)
              obtain ⟨x1, ex1, rx1⟩ := hp ⟨0, .data⟩ (by simp) rfl _ _ rfl rfl
              obtain rfl : x1 = .agg #[.slice A4 t.es.length c4, .slice A5 t.fans.length c5, .slice A6 t.rs.length c6] := rx1
              exact ⟨25, #[.agg #[.slice A4 t.es.length c4, .slice A5 t.fans.length c5, .slice A6 t.rs.length c6]], by simp [execOp, go_sem, ex1], (rounds_any w A4 A5 A6 t.es.length t.fans.length c4 c5 c6 t.rs (hRt.below hB) (by omega)).mono fun e w' ⟨A0, c0, h1, h2, h3⟩ => ⟨_, h1, h3, fun _ _ => ⟨A0, c0, rfl, h2⟩⟩⟩
            · refine mono_val rfl (fun a w hB hk hp => ?_)
              have e4 := (hk 11 (keep_of (by kernel_rfl))).trans (show _ = some (Value.pointer (some ⟨U, 0, none⟩)) from rfl)
              have hTw := hUq.below hB
              exact ⟨.agg #[.slice B4 t.es.length d4, .slice B5 ufans.length d5, .slice B6 t.rs.length d6], w, ldm_run _ _ _ 29 _ rfl U 0 (eval_tmp e4) _ _ (rng3 (hTw.cell 0) (hTw.cell 1) (hTw.cell 2)) Try.underlying29 rfl infoTT, Below.refl _ _, fun _ _ => rfl⟩
            · refine mono_call rfl (fun a w hB hk hp => ?_)
              obtain ⟨x1, ex1, rx1⟩ := hp ⟨2, .data⟩ (by simp) rfl _ _ rfl rfl
              obtain rfl : x1 = .agg #[.slice B4 t.es.length d4, .slice B5 ufans.length d5, .slice B6 t.rs.length d6] := rx1
              exact ⟨25, #[.agg #[.slice B4 t.es.length d4, .slice B5 ufans.length d5, .slice B6 t.rs.length d6]], by simp [execOp, go_sem, ex1], (rounds_any w B4 B5 B6 t.es.length ufans.length d4 d5 d6 t.rs (hRu.below hB) (by omega)).mono fun e w' ⟨A0, c0, h1, h2, h3⟩ => ⟨_, h1, h3, fun _ _ => ⟨A0, c0, rfl, h2⟩⟩⟩
            · refine mono_call rfl (fun a w hB hk hp => ?_)
              obtain ⟨x1, ex1, rx1⟩ := hp ⟨1, .data⟩ (by simp) rfl _ _ rfl rfl
              obtain ⟨x2, ex2, rx2⟩ := hp ⟨3, .data⟩ (by simp) rfl _ _ rfl rfl
              obtain ⟨P1, p1, rfl, hI1⟩ : PI (rl t.rs) w x1 := rx1
              obtain ⟨P2, p2, rfl, hI2⟩ : PI (rl t.rs) w x2 := rx2
              have hll := rl_len t.rs
              exact ⟨24, #[.slice P1 (rl t.rs).length p1, .slice P2 (rl t.rs).length p2], by simp [execOp, go_sem, ex1, ex2], (sameI_yes w P1 P2 p1 p2 (rl t.rs) hI1 hI2 (by omega)).mono fun e w' ⟨h1, h2⟩ => ⟨_, h1, h2, fun _ _ => rfl⟩⟩
            · refine mono_val rfl (fun a w hB hk hp => ?_)
              obtain ⟨x1, ex1, rx1⟩ := hp ⟨4, .data⟩ (by simp) rfl _ _ rfl rfl
              obtain rfl : x1 = .bool true := rx1
              exact ⟨.bool true, w, by simp [execOp, go_sem, ex1], Below.refl _ _, fun _ _ => rfl⟩
          · intro a w hB hsz hdf hk hgot
            obtain ⟨v, ev, rv⟩ := hgot 5 _ 4 rfl rfl
            obtain rfl : v = .bool true := rv
            obtain ⟨f, hf, rfl⟩ := frame_eq hsz hdf hk [103, 104, 105, 106, 107, 4] (by rfl)
            have f4 := hf 4 _ ev
            clear hsz hdf hk hgot ev hf
            simp only [setAll, List.setIfInBounds_toArray, List.set_cons_succ, List.set_cons_zero, f4]
            clear f4
            generalize f 103 = u103
            generalize f 104 = u104
            generalize f 105 = u105
            generalize f 106 = u106
            generalize f 107 = u107
            go_wp2_with fail
            go_ret
            exact ⟨rfl, bel_trans hbWq hB⟩

theorem own : ownKnob Try.prog.godebug = none := by kernel_rfl
set_option maxRecDepth 100000 in
theorem lifted (os : Os) (started : os.Started) (H : Type) (enc : TypeId × Value → H) :
    ReturnsInHanded {} Try.checked os 6 .any (Rows.topoTurnedSpec.pre6 enc Try.prog Try.f6 Rows.topoTurnedRow.domain false) (Rows.topoTurnedSpec.post enc Try.prog Try.f6 false true false false) := by
  refine returnsInHanded_of_change_sized (C := Try.checked) own started (by kernel_rfl) Try.func6
    (ChangeSpec.witness6 (enc := enc) (C := Try.checked) false ⟨#[], #[.int .i64 0, .slice none 0 0], []⟩ 12 (by kernel_rfl) (by kernel_rfl) (by kernel_rfl) (by kernel_rfl)) ?_
  intro W base args ds gs before hval0 hW hcnd hwt _
  have hval : ∀ (j : Nat) t v, Try.f6.params[j]? = some t → args[j]? = some v → Value.okWide Try.prog W .any base t v := hval0
  have hW' := hW
  obtain ⟨p, q, hA0, hV, rfl, hfz, hnd⟩ := hW
  have hA : DataW.TrodAll enc Try.prog W 0 (fun _ => true) true Try.f6.params.toList args.toList ds p := hA0
  rw [Try.params6] at hA hval
  obtain ⟨v0, vs0, d0, ds0, p0, q0, hargs, rfl, rfl, h0, r0⟩ := trodAll_cons hA
  obtain ⟨v1, vs1, d1, ds1, p1, q1, rfl, rfl, rfl, h1, r1⟩ := trodAll_cons r0
  obtain ⟨rfl, rfl, rfl⟩ := trodAll_nil r1
  obtain rfl : args = #[v0, v1] := by cases args; simp_all
  obtain ⟨a0, rfl, b0⟩ := open_int64 (hval 0 3 v0 rfl rfl) h0
  obtain ⟨sa1, sn1, sc1, rfl⟩ := okWide_slice Try.underlying22 (hval 1 22 v1 rfl rfl)
  have hTW1 : TW enc Try.prog W 0 (fun _ => true) true 22 [.slice sa1 sn1 sc1] := by
    obtain ⟨fu, hfu⟩ := h1
    refine ⟨fu, _, hfu, fun n hn => ?_⟩
    have := List.all_eq_true.1 hwt n (DataW.weights_mem_each (j := 1) (t := 22) (d := d1) (by rw [Try.params6]; rfl) (by rfl) n hn)
    simpa using this
  obtain ⟨A1, k1, fs1, e1, l1, m1, n1⟩ := tw_facesF hTW1
  obtain ⟨f1, g1, i1⟩ : A1 = sa1 ∧ fs1.length = sn1 ∧ k1 = sc1 := by simpa [eq_comm] using e1
  subst f1
  subst g1
  subst i1
  clear hTW1
  refine (walk W a0 b0 A1 k1 fs1 l1 m1 n1).mono fun e W' ⟨he, hb⟩ => ?_
  subst he
  exact ⟨_, rfl, law_post (tb := 4) (by kernel_rfl) (by kernel_rfl) rfl rfl Try.underlying4 rfl rfl rfl hW' hb⟩

theorem over : Rows.topoTurnedRow.holds Try.pinned (OpenSpec.ofChange Rows.topoTurnedSpec) :=
  OpenClaim.holds_of_wide 6 Try.f6 rfl rfl rfl rfl rfl rfl rfl ⟨rfl, rfl, rfl, rfl, rfl⟩ rfl rfl rfl rfl rfl (by kernel_rfl) Try.func6 (by kernel_rfl)
    (of_decide_eq_true (by kernel_rfl)) (by unfold Func.isWrapper; first | (rw [if_pos (by decide +kernel)]; kernel_rfl) | (rw [if_neg (by decide +kernel)]; exact ⟨rfl, rfl⟩))
    (fun os started H enc _ => lifted os started H enc)

theorem proved : Rows.TopoTurnedSaid :=
  over
#print axioms proved
end Go.Proofs.Ytbehobojgeganaa.topoTurned
