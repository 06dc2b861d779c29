/- TopoApart holds for every input: the row, out of the walk. No condition. -/
import Derived.Test.YtbehobojgeganaaRows
import Derived.SizedLaws
import Derived.Test.YtbehobojgeganaaOpenF
import Derived.Test.YtbehobojgeganaaTopQ
import Derived.Test.YtbehobojgeganaaPost
namespace Go.Proofs.Ytbehobojgeganaa.topoApart
open Go.ChangeShapes Go.WideShapes Go.ChangeAt Go.RowKit
set_option linter.unusedVariables false
set_option linter.unusedSimpArgs false
def part (n : Int) (fs gs : List (List Int)) (i : Nat) : List (List Int) := fs ++ shF n (gs.take i)
theorem part_all (n : Int) (fs gs : List (List Int)) : part n fs gs gs.length = both n fs gs := by unfold part both; rw [List.take_length]
theorem part_zero (n : Int) (fs gs : List (List Int)) : part n fs gs 0 = fs := by simp [part, shF]
theorem part_succ (n : Int) (fs gs : List (List Int)) (i : Nat) (h : i < gs.length) : part n fs gs (i + 1) = part n fs gs i ++ [gs[i].map (· + n)] := by
  unfold part shF
  rw [List.take_succ_eq_append_getElem h, List.map_append, List.append_assoc]; rfl
theorem part_len (n : Int) (fs gs : List (List Int)) (i : Nat) (h : i ≤ gs.length) : (part n fs gs i).length = fs.length + i := by
  simp [part, shF]; omega
set_option maxRecDepth 100000
set_option maxHeartbeats 4000000 in
theorem walk (W : World) (a0 : Int) (b0 : -9223372036854775808 ≤ a0 ∧ a0 ≤ 9223372036854775807) (A1 : Option Addr) (k1 : Nat) (fs1 : List (List Int)) (l1 : fs1.length ≤ reachBytes) (m1 : ∀ q ∈ fs1, q.length ≤ reachBytes ∧ (∀ x ∈ q, i64B x)) (n1 : FL W A1 fs1) (a2 : Int) (b2 : -9223372036854775808 ≤ a2 ∧ a2 ≤ 9223372036854775807) (A3 : Option Addr) (k3 : Nat) (fs3 : List (List Int)) (l3 : fs3.length ≤ reachBytes) (m3 : ∀ q ∈ fs3, q.length ≤ reachBytes ∧ (∀ x ∈ q, i64B x)) (n3 : FL W A3 fs3) :
    Calls Try.prog 8 #[.int .i64 a0, .slice A1 fs1.length k1, .int .i64 a2, .slice A3 fs3.length k3] W fun e W' => e = .returned (.bool true) ∧ Below W.heap.size W W' := by
  obtain ⟨hx, hi⟩ := row_lens m1
  have hl : fs1.length < 1099511627776000 := by rw [reach_num] at l1; omega
  have cG := fun (W1 : World) (hb : Below W.heap.size W W1) => great_any W1 a0 k1 fs1 A1 (n1.below hb) hl hx
  have cB := fun (hg : a0 ≤ 60 ∧ fs1.length + tot fs1 ≤ 300) (W1 : World) (hb : Below W.heap.size W W1) => built_any W1 a0 k1 fs1 A1 (n1.below hb) b0 hi (by omega)
  replace cB := Lib.hid cB
  obtain ⟨hx3, hi3⟩ := row_lens m3
  have hl3 : fs3.length < 1099511627776000 := by rw [reach_num] at l3; omega
  have cG3 := fun (W1 : World) (hb : Below W.heap.size W W1) => great_any W1 a2 k3 fs3 A3 (n3.below hb) hl3 hx3
  have cB3 := fun (hg : a2 ≤ 60 ∧ fs3.length + tot fs3 ≤ 300) (W1 : World) (hb : Below W.heap.size W W1) => built_any W1 a2 k3 fs3 A3 (n3.below hb) b2 hi3 (by omega)
  replace cB3 := Lib.hid cB3
  replace m1 := Lib.hid m1
  replace m3 := Lib.hid m3
  replace hi := Lib.hid hi
  replace hi3 := Lib.hid hi3
  obtain ⟨i0, hj0, hz0, hz1, hz2⟩ := info_parts infoI
  obtain ⟨i1, hj1, hy0, hy1, hy2⟩ := info_parts infoIS
  go_enter Try.func8, Try.ntmps8
  by_cases s0 : a0 < 0
  · go_wp2_with (first
      | (go_at_call 14; (with_reducible refine (alive8_any _).mono ?_); rintro e W1 ⟨rfl, hb1⟩)
      | (go_at_call 15; (with_reducible refine (cG W1 hb1).mono ?_); rintro e W2 ⟨bb, rfl, hb2, hgr⟩; have hb12 := bel_trans hb1 hb2; replace hgr := Lib.hid hgr; cases bb)
      | (go_at_call 15; (with_reducible refine (cG3 W2 hb12).mono ?_); rintro e W3 ⟨bb3, rfl, hb3, hgr3⟩; have hb13 := bel_trans hb12 hb3; replace hgr3 := Lib.hid hgr3; cases bb3)
      | fail)
    all_goals go_ret
    all_goals first | exact ⟨rfl, hb13⟩ | exact ⟨rfl, hb12⟩
  by_cases s2 : a2 < 0
  · go_wp2_with (first
      | (go_at_call 14; (with_reducible refine (alive8_any _).mono ?_); rintro e W1 ⟨rfl, hb1⟩)
      | (go_at_call 15; (with_reducible refine (cG W1 hb1).mono ?_); rintro e W2 ⟨bb, rfl, hb2, hgr⟩; have hb12 := bel_trans hb1 hb2; replace hgr := Lib.hid hgr; cases bb)
      | (go_at_call 15; (with_reducible refine (cG3 W2 hb12).mono ?_); rintro e W3 ⟨bb3, rfl, hb3, hgr3⟩; have hb13 := bel_trans hb12 hb3; replace hgr3 := Lib.hid hgr3; cases bb3)
      | fail)
    all_goals go_ret
    all_goals first | exact ⟨rfl, hb13⟩ | exact ⟨rfl, hb12⟩
  go_upto_region 5 with (first
    | (go_at_call 14; (with_reducible refine (alive8_any _).mono ?_); rintro e W1 ⟨rfl, hb1⟩)
    | (go_at_call 15; (with_reducible refine (cG W1 hb1).mono ?_); rintro e W2 ⟨bb, rfl, hb2, hgr⟩; have hb12 := bel_trans hb1 hb2; replace hgr := Lib.hid hgr; cases bb)
    | (go_at_call 15; (with_reducible refine (cG3 W2 hb12).mono ?_); rintro e W3 ⟨bb3, rfl, hb3, hgr3⟩; have hb13 := bel_trans hb12 hb3; replace hgr3 := Lib.hid hgr3; cases bb3)
    | fail)
  rotate_left
  · go_ret
    exact ⟨rfl, hb13⟩
  · go_ret
    exact ⟨rfl, hb12⟩
  have htot := hgr.out trivial
  have htot3 := hgr3.out trivial
  have cT := cB.out htot W3 hb13
  have cU := fun W1 hb => cB3.out htot3 W1 hb
  clear cG cG3 cB cB3 hgr hgr3 hb1 hb2 hb3 hb12
  go_upto_region 6 with (first | (go_at_call 17; (with_reducible refine cT.mono ?_); rintro e W4 ⟨A4, A5, A6, t, c4, c5, c6, ee, rfl, hP⟩) | fail)
  have hT : Blk (W4.alloc (.cells #[.slice A4 t.es.length c4, .slice A5 t.fans.length c5, .slice A6 t.rs.length c6] 29)) W4.heap.size 29 #[.slice A4 t.es.length c4, .slice A5 t.fans.length c5, .slice A6 t.rs.length c6] := Blk.new _ _ _ _ rfl
  have hV4 := TopoV.below hP.isV (bel_alloc (Below.refl _ _) (.cells #[.slice A4 t.es.length c4, .slice A5 t.fans.length c5, .slice A6 t.rs.length c6] 29))
  have hb5 := bel_alloc (bel_trans hb13 hP.bel) (.cells #[.slice A4 t.es.length c4, .slice A5 t.fans.length c5, .slice A6 t.rs.length c6] 29)
  have hg1 := Lib.hid hP.good
  clear hP cT hb13
  generalize W4.alloc (.cells #[.slice A4 t.es.length c4, .slice A5 t.fans.length c5, .slice A6 t.rs.length c6] 29) = W5 at *
  generalize W4.heap.size = T at *
  have cU5 := cU W5 hb5
  clear cU
  go_upto_region 7 with (first | (go_at_call 17; (with_reducible refine cU5.mono ?_); rintro e W6 ⟨B4, B5, B6, u, d4, d5, d6, ff, rfl, hP⟩) | fail)
  have hU : Blk (W6.alloc (.cells #[.slice B4 u.es.length d4, .slice B5 u.fans.length d5, .slice B6 u.rs.length d6] 29)) W6.heap.size 29 #[.slice B4 u.es.length d4, .slice B5 u.fans.length d5, .slice B6 u.rs.length d6] := Blk.new _ _ _ _ rfl
  have hV6 := TopoV.below hP.isV (bel_alloc (Below.refl _ _) (.cells #[.slice B4 u.es.length d4, .slice B5 u.fans.length d5, .slice B6 u.rs.length d6] 29))
  have hb67 := bel_alloc hP.bel (.cells #[.slice B4 u.es.length d4, .slice B5 u.fans.length d5, .slice B6 u.rs.length d6] 29)
  have hb7 := bel_trans hb5 hb67
  have hg2 := Lib.hid hP.good
  clear hP cU5
  generalize W6.alloc (.cells #[.slice B4 u.es.length d4, .slice B5 u.fans.length d5, .slice B6 u.rs.length d6] 29) = W7 at *
  generalize W6.heap.size = U at *
  have hT7 := hT.below hb67
  have hV7 := hV4.below hb67
  clear hT hV4 hb67 hb5
  rcases hg1.out with ⟨rfl, hs1, hS1⟩ | ⟨rfl, _, rfl, rfl, rfl, rfl, rfl, rfl, rfl⟩
  rotate_left
  · go_wp2
    go_ret
    exact ⟨rfl, hb7⟩
  rcases hg2.out with ⟨rfl, hs2, hS2⟩ | ⟨rfl, _, rfl, rfl, rfl, rfl, rfl, rfl, rfl⟩
  rotate_left
  · go_wp2
    go_ret
    exact ⟨rfl, hb7⟩
  clear hg1 hg2
  have hlen3 : ∀ x ∈ fs1, 0 < x.length := fun x hx9 => by have := hS1.walk.long x hx9; omega
  have cC := copyF_any W7 A1 k1 fs1 (n1.below hb7) hlen3 (by omega) (fun x hx9 => by have := len_tot hx9; omega)
  go_upto_region 10 with (first | (go_at_call 16; (with_reducible refine cC.mono ?_); rintro e W8 ⟨A9, c9, rfl, hOF, hb78⟩) | fail)
  have hOFw := hOF
  have h2t : Two a0 a2 fs1 fs3 := ⟨hS1.walk, hS2.walk⟩
  clear hOF cC
  go_wp2
  go_loopw [13, 14] (fun bv fv wr => ∃ (f : Nat) (A9 : Option Addr) (c9 : Nat), fv = .int .i64 (f : Int) ∧ f ≤ fs3.length ∧ bv = .slice A9 (part a0 fs1 fs3 f).length c9 ∧ OwnF wr W7.heap.size A9 c9 (part a0 fs1 fs3 f) ∧ Below W7.heap.size W7 wr) (fun _ fv _ => fs3.length - (intOf fv).toNat)
  case atStart => exact ⟨0, A9, c9, rfl, by omega, by rw [part_zero], by rw [part_zero]; exact hOFw, hb78⟩
  case round =>
    obtain ⟨f, A9, c9, rfl, hf, rfl, hOF, hbel7⟩ := hrel
    have hbel := bel_trans hb7 hbel7
    clear hOFw hb78
    by_cases hfl : f < fs3.length
    · obtain ⟨b, off, Bf, m, rfl, hbl, hcell, hIL⟩ := n3.at_ f hfl
      have htb := len_tot (List.getElem_mem hfl)
      have hbk := part_succ a0 fs1 fs3 f hfl
      have hbl9 := part_len a0 fs1 fs3 f hf
      have hcr3 := fun y (hy : y ∈ fs3[f]) => hS2.walk.corner_rng (List.getElem_mem hfl) hy
      generalize fs3[f] = x at *
      replace hbk := Lib.hid hbk
      have hbl8 : (part a0 fs1 fs3 f).length < 1099511627776 := by omega
      replace hbl9 := Lib.hid hbl9
      have k0 : (0 : Int) ≤ (f : Int) := by omega
      have k1' : (f : Int) < (fs3.length : Int) := by omega
      have hown0 := own_empty wr wr.heap.size 3 (Nat.le_refl _)
      have hbo : Below wr.heap.size wr (wr.alloc (.cells #[] 3)) := bel_alloc (Below.refl _ _) _
      obtain ⟨Z, hZ⟩ : ∃ Z, Z = wr.heap.size := ⟨_, rfl⟩
      rw [← hZ] at hown0
      go_wp2
      rw [← hZ]
      replace hZ := Lib.hid hZ
      go_loopw [15, 16] (fun lv iv wq => ∃ (q : Nat) (A2 : Option Addr) (c2 : Nat), iv = .int .i64 (q : Int) ∧ q ≤ x.length ∧ lv = .slice A2 q c2 ∧ wq.ownsRow Z 3 1 (.slice A2 q c2) q (ints ((x.map (· + a0)).take q)) ∧ Below wr.heap.size wr wq) (fun _ iv _ => x.length - (intOf iv).toNat)
      case atStart => exact ⟨0, some ⟨Z, 0, none⟩, 0, rfl, by omega, rfl, by simpa [ints] using hown0, hbo⟩
      case round =>
        obtain ⟨q, A2, c2, rfl, hqx, rfl, hown, hbq⟩ := hrel
        clear hown0 hbo
        have hbW := bel_trans hbel hbq
        have hcr := (hbW.cell (p := ⟨b, off + f, none⟩) hbl).trans hcell
        have hblr := Nat.lt_of_lt_of_le hbl hbW.size
        by_cases hqlt : q < x.length
        · obtain ⟨b9, off9, rfl, hb9, hc9⟩ := (hIL.below hbW) (by omega)
          have g1 := hc9 q hqlt
          have hrv : (x.map (· + a0)).take (q + 1) = (x.map (· + a0)).take q ++ [x[q] + a0] := by
            rw [List.take_succ_eq_append_getElem (by simpa using hqlt)]; simp
          have hxr := hcr3 _ (List.getElem_mem hqlt)
          clear hc9
          generalize x[q] = xv at *
          replace hrv := Lib.hid hrv
          have q0 : (0 : Int) ≤ (q : Int) := by omega
          have q1 : (q : Int) < (x.length : Int) := by omega
          have hob := own_block hown
          go_wp2_with (first | (at_builtin; (refine wpList_append_own _ rfl _ _ 41 rfl Z 3 i0 _ 1 8 Try.underlying41 hj0 hz0 hz1 hz2 rfl (by decide) _ _ _ rfl (hown.alloc _) ⟨wr.heap.size, 0, none⟩ 1 1 [.int .i64 (xv + a0)] rfl rfl (cell_one_new _ _ _) (fun x hx => by simp at hx; subst hx; rfl) (by unfold maxLen; omega) (by omega) (by have := hbq.size; rw [hZ.out]; simp; omega) ?_); intro v3 W3 hown3 hg3 hnil; have hg3b : wr.grownBy W3 (Value.slice A2 q c2).ownBlock := (World.grownBy_alloc _ _ _).trans hg3; clear hg3 hnil; obtain ⟨A3b, c3b, rfl⟩ := own_form hown3) | fail)
          have hb3 := bel_own (a := _) hbq hg3b (fun k hk => by have := (hob k hk).1; rw [hZ.out] at this; exact this)
          go_roundw
          case rel => exact ⟨q + 1, A3b, c3b, by go_num, by omega, rfl, by rw [hrv.out]; simpa [ints] using hown3, hb3⟩
          case measure => (simp [intOf]) <;> omega
        · obtain rfl : q = x.length := by omega
          have htr : (x.map (· + a0)).take x.length = x.map (· + a0) := List.take_of_length_le (by simp)
          rw [htr] at hown
          have hOF2 := hOF.lay hbq
          obtain ⟨vals, hO1, hO2⟩ := hOF2.row
          have hob := own_block hO1
          have hsz := hbW.size
          go_wp2_with (first | (at_builtin; (refine wpList_append_own _ rfl _ _ 22 rfl W7.heap.size 41 i1 _ 1 24 Try.underlying22 hj1 hy0 hy1 hy2 rfl (by decide) _ _ _ rfl (hO1.alloc _) ⟨wr.heap.size, 0, none⟩ 1 1 [.slice A2 x.length c2] rfl rfl (cell_one_new _ _ _) (fun x hx => by simp at hx; subst hx; rfl) (by unfold maxLen; omega) (by omega) (by have := hbel7.size; have := hbq.size; simp; omega) ?_); intro v6 W6 hown6 hg6 hnil; have hg56 : wr.grownBy W6 (Value.slice A9 (part a0 fs1 fs3 f).length c9).ownBlock := (World.grownBy_alloc _ _ _).trans hg6; clear hg6 hnil; obtain ⟨A6b, c6b, rfl⟩ := own_form hown6) | fail)
          have hOF6 := OwnF.add (x := x.map (· + a0)) hO2 hO1 (by simpa using own_base hown (by rw [hZ.out]; exact hbel7.size)) hg56 (by simpa using hown6)
          have hb67 := bel_own (bel_trans hbel7 hbq) hg56 (fun k hk => (hob k hk).1)
          go_roundw
          case rel => exact ⟨f + 1, A6b, c6b, by go_num, by omega, by rw [hbk.out]; simp, by rw [hbk.out]; exact hOF6, hb67⟩
          case measure => (simp [intOf]) <;> omega
    · obtain rfl : f = fs3.length := by omega
      rw [part_all] at hOF
      simp only [part_all]
      have hT9 := hT7.below hbel7
      have hU9 := hU.below hbel7
      have hV9 := hV7.below hbel7
      have hX9 := hV6.below hbel7
      have hbl9 : (both a0 fs1 fs3).length = fs1.length + fs3.length := by simp [both, shF]
      have hbt9 : tot (both a0 fs1 fs3) = tot fs1 + tot fs3 := by
        have e1 := waysL_len (both a0 fs1 fs3) 0
        rw [both_ways, List.length_append, List.length_map, waysL_len, waysL_len] at e1
        exact e1.symm
      have cV := built_any wr (a0 + a2) c9 (both a0 fs1 fs3) A9 hOF.fl (by unfold i64B; omega) (fun x hx y hy => by
        have := (two_walk h2t).corner_rng hx hy
        unfold i64B; omega) (by omega)
      replace hbl9 := Lib.hid hbl9
      replace hbt9 := Lib.hid hbt9
      clear hT7 hU hV7 hV6
      go_upto_region 20 with (first | (go_at_call 17; (with_reducible refine cV.mono ?_); rintro e W9 ⟨C4, C5, C6, v, e4, e5, e6, gg, rfl, hP⟩) | fail)
      have hC : Blk (W9.alloc (.cells #[.slice C4 v.es.length e4, .slice C5 v.fans.length e5, .slice C6 v.rs.length e6] 29)) W9.heap.size 29 #[.slice C4 v.es.length e4, .slice C5 v.fans.length e5, .slice C6 v.rs.length e6] := Blk.new _ _ _ _ rfl
      have hVc := TopoV.below hP.isV (bel_alloc (Below.refl _ _) (.cells #[.slice C4 v.es.length e4, .slice C5 v.fans.length e5, .slice C6 v.rs.length e6] 29))
      have hb9 := bel_alloc hP.bel (.cells #[.slice C4 v.es.length e4, .slice C5 v.fans.length e5, .slice C6 v.rs.length e6] 29)
      have hg3 := hP.good
      have hbW9 := bel_trans hbel hb9
      have hTa := hT9.below hb9
      have hUa := hU9.below hb9
      have hVa := hV9.below hb9
      have hXa := hX9.below hb9
      clear hP cV hT9 hU9 hV9 hX9 hOF hb9 hbel hbel7
      generalize W9.alloc (.cells #[.slice C4 v.es.length e4, .slice C5 v.fans.length e5, .slice C6 v.rs.length e6] 29) = W10 at *
      generalize W9.heap.size = C at *
      obtain ⟨rfl, _, hS3⟩ : gg = 0 ∧ Surf (a0 + a2) (both a0 fs1 fs3) ∧ TopoS (a0 + a2) (both a0 fs1 fs3) v := by
        rcases hg3 with h | ⟨_, hn, _⟩
        · exact h
        · exact absurd (two_surf hs1 hs2) hn
      obtain ⟨hce, hcf, hcl⟩ := two_topo hS1 hS2 hS3
      have hle : v.es.length = t.es.length + u.es.length := by rw [hce]; simp
      have hte : t.es.length ≤ 300 := by have h1 := edges_le hS1.walk hS1.edges; rw [waysL_len] at h1; omega
      have hue : u.es.length ≤ 300 := by have h1 := edges_le hS2.walk hS2.edges; rw [waysL_len] at h1; omega
      have hnf1 := hS1.nf
      have hnf2 := hS2.nf
      have hnr2 := hS2.nr
      have hle2 : ((v.es.length : Int) == (t.es.length : Int) + (u.es.length : Int)) = true := by simp; omega
      have hlf2 : ((v.fans.length : Int) == (t.fans.length : Int) + (u.fans.length : Int)) = true := by simp; omega
      have hbf1 : t.fans.length ≤ 60 := by omega
      have hbf2 : u.fans.length ≤ 60 := by omega
      replace hce := Lib.hid hce
      replace hcl := Lib.hid hcl
      replace hle := Lib.hid hle
      replace hcf := Lib.hid hcf
      replace hnf1 := Lib.hid hnf1
      replace hnf2 := Lib.hid hnf2
      replace hnr2 := Lib.hid hnr2
      clear hle2 hlf2
      have t0 : W10.cell? ⟨T, 0, none⟩ = some (.slice A4 t.es.length c4) := hTa.cell 0
      have t1 : W10.cell? ⟨T, 1, none⟩ = some (.slice A5 t.fans.length c5) := hTa.cell 1
      have t2 : W10.cell? ⟨T, 2, none⟩ = some (.slice A6 t.rs.length c6) := hTa.cell 2
      have tl := hTa.lt
      have u0 : W10.cell? ⟨U, 0, none⟩ = some (.slice B4 u.es.length d4) := hUa.cell 0
      have u1 : W10.cell? ⟨U, 1, none⟩ = some (.slice B5 u.fans.length d5) := hUa.cell 1
      have u2 : W10.cell? ⟨U, 2, none⟩ = some (.slice B6 u.rs.length d6) := hUa.cell 2
      have ul := hUa.lt
      have v0 : W10.cell? ⟨C, 0, none⟩ = some (.slice C4 v.es.length e4) := hC.cell 0
      have v1 : W10.cell? ⟨C, 1, none⟩ = some (.slice C5 v.fans.length e5) := hC.cell 1
      have v2 : W10.cell? ⟨C, 2, none⟩ = some (.slice C6 v.rs.length e6) := hC.cell 2
      have vl := hC.lt
      go_wp2
      any_goals (exfalso; have q1 := hle.out; have q2 := hcf.out; first | (have q3 := bne_iff_ne.1 (show ((v.fans.length : Int) != (t.fans.length : Int) + (u.fans.length : Int)) = true by assumption); omega) | (have q3 := bne_iff_ne.1 (show ((v.es.length : Int) != (t.es.length : Int) + (u.es.length : Int)) = true by assumption); omega) | omega)
      clear t0 t1 t2 tl u0 u1 u2 ul v0 v1 v2 vl
      go_loopw [19] (fun iv wq => ∃ i : Nat, iv = .int .i64 (i : Int) ∧ i ≤ t.es.length ∧ Below W10.heap.size W10 wq) (fun iv _ => t.es.length - (intOf iv).toNat)
      case atStart => exact ⟨0, rfl, by omega, Below.refl _ _⟩
      case round =>
        obtain ⟨i, rfl, hi9, hbq⟩ := hrel
        have hTq := hTa.below hbq
        have hCq := hC.below hbq
        have hUq := hUa.below hbq
        have t0 : wr.cell? ⟨T, 0, none⟩ = some (.slice A4 t.es.length c4) := hTq.cell 0
        have t1 : wr.cell? ⟨T, 1, none⟩ = some (.slice A5 t.fans.length c5) := hTq.cell 1
        have t2 : wr.cell? ⟨T, 2, none⟩ = some (.slice A6 t.rs.length c6) := hTq.cell 2
        have tl := hTq.lt
        have v0 : wr.cell? ⟨C, 0, none⟩ = some (.slice C4 v.es.length e4) := hCq.cell 0
        have v1 : wr.cell? ⟨C, 1, none⟩ = some (.slice C5 v.fans.length e5) := hCq.cell 1
        have v2 : wr.cell? ⟨C, 2, none⟩ = some (.slice C6 v.rs.length e6) := hCq.cell 2
        have vl := hCq.lt
        have u0 : wr.cell? ⟨U, 0, none⟩ = some (.slice B4 u.es.length d4) := hUq.cell 0
        have u1 : wr.cell? ⟨U, 1, none⟩ = some (.slice B5 u.fans.length d5) := hUq.cell 1
        have u2 : wr.cell? ⟨U, 2, none⟩ = some (.slice B6 u.rs.length d6) := hUq.cell 2
        have ul := hUq.lt
        by_cases hil : i < t.es.length
        · obtain ⟨x1, of1, rfl, hx1, hc1⟩ := (hVa.es.below hbq) (by omega)
          obtain ⟨g0, g1, g2, g3⟩ := hc1 i hil
          obtain ⟨x2, of2, rfl, hx2b, hc2⟩ := (hVc.es.below hbq) (by have := hle.out; omega)
          obtain ⟨q0, q1, q2, q3⟩ := hc2 i (by have := hle.out; omega)
          have hsame : v.es[i]'(by have := hle.out; omega) = t.es[i] := by
            have e := hce.out
            simp only [e]
            rw [List.getElem_append_left hil]
          rw [hsame] at q0 q1 q2 q3
          clear hc1 hc2 hsame
          generalize t.es[i].a = ea at *
          generalize t.es[i].b = eb at *
          generalize t.es[i].f = ef at *
          generalize t.es[i].g = eg at *
          have k0 : (0 : Int) ≤ (i : Int) := by omega
          have k1' : (i : Int) < (t.es.length : Int) := by omega
          have k2' : (i : Int) < (v.es.length : Int) := by have := hle.out; omega
          go_wp2_with fail
          refine wp_region_grow (by kernel_rfl) (by kernel_rfl) ?_
          repeat (go_big_quiet_step ((fail)))
          refine wpQuiet_nil ?_
          rintro _ ⟨xg, rfl⟩
          have hb10 := bel_grow hbq xg
          go_wp2_with fail
          go_roundw
          case rel => exact ⟨i + 1, by go_num, by omega, hb10⟩
          case measure => simp [intOf]; omega
        · obtain rfl : i = t.es.length := by omega
          go_wp2
          clear t0 t1 t2 tl u0 u1 u2 ul v0 v1 v2 vl
          go_loopw [20] (fun iv wq => ∃ i : Nat, iv = .int .i64 (i : Int) ∧ i ≤ u.fans.length ∧ Below W10.heap.size W10 wq) (fun iv _ => u.fans.length - (intOf iv).toNat)
          case atStart => exact ⟨0, rfl, by omega, hbq⟩
          case round =>
            obtain ⟨i, rfl, hi9, hbq2⟩ := hrel
            clear hTq hCq hUq hbq
            have hTq := hTa.below hbq2
            have hCq := hC.below hbq2
            have hUq := hUa.below hbq2
            have t0 : wr.cell? ⟨T, 0, none⟩ = some (.slice A4 t.es.length c4) := hTq.cell 0
            have t1 : wr.cell? ⟨T, 1, none⟩ = some (.slice A5 t.fans.length c5) := hTq.cell 1
            have t2 : wr.cell? ⟨T, 2, none⟩ = some (.slice A6 t.rs.length c6) := hTq.cell 2
            have tl := hTq.lt
            have v0 : wr.cell? ⟨C, 0, none⟩ = some (.slice C4 v.es.length e4) := hCq.cell 0
            have v1 : wr.cell? ⟨C, 1, none⟩ = some (.slice C5 v.fans.length e5) := hCq.cell 1
            have v2 : wr.cell? ⟨C, 2, none⟩ = some (.slice C6 v.rs.length e6) := hCq.cell 2
            have vl := hCq.lt
            have u0 : wr.cell? ⟨U, 0, none⟩ = some (.slice B4 u.es.length d4) := hUq.cell 0
            have u1 : wr.cell? ⟨U, 1, none⟩ = some (.slice B5 u.fans.length d5) := hUq.cell 1
            have u2 : wr.cell? ⟨U, 2, none⟩ = some (.slice B6 u.rs.length d6) := hUq.cell 2
            have ul := hUq.lt
            by_cases hil : i < u.fans.length
            · have hir : i < u.rs.length := by have e1 := hnf2.out; have e2 := hnr2.out; omega
              obtain ⟨h1, h2, h3, h4⟩ := hcl.out i hil hir
              obtain ⟨x1, of1, y1, z1, rfl, hx1, g1, _⟩ := (hVc.fans.below hbq2).at_ _ h1
              obtain ⟨x2, of2, y2, z2, rfl, hx2b, g2, _⟩ := (hXa.fans.below hbq2).at_ i hil
              obtain ⟨x3, of3, rfl, hx3b, hc3⟩ := (hVc.rs.below hbq2) (by omega)
              have g3 := hc3 _ h2
              obtain ⟨x4, of4, rfl, hx4, hc4⟩ := (hXa.rs.below hbq2) (by omega)
              have g4 := hc4 i hir
              rw [h3] at g1
              rw [h4] at g3
              clear hc3 hc4
              obtain ⟨mm, hmm⟩ : ∃ mm, t.fans.length + i = mm := ⟨_, rfl⟩
              have hmi : (t.fans.length : Int) + (i : Int) = (mm : Int) := by omega
              simp only [hmm] at g1 g3 h1 h2
              replace hmm := Lib.hid hmm
              clear h3 h4
              generalize u.fans[i].length = fl at *
              generalize u.rs[i] = rb at *
              have k0 : (0 : Int) ≤ (i : Int) := by omega
              have k1' : (i : Int) < (u.fans.length : Int) := by omega
              have k2' : (i : Int) < (u.rs.length : Int) := by omega
              have k3' : (0 : Int) ≤ (mm : Int) := by omega
              have k4' : (mm : Int) < (v.fans.length : Int) := by omega
              have k5' : (mm : Int) < (v.rs.length : Int) := by omega
              go_wp2_with fail
              refine wp_region_grow (by kernel_rfl) (by kernel_rfl) ?_
              repeat (go_big_quiet_step ((fail)))
              refine wpQuiet_nil ?_
              rintro _ ⟨xg, rfl⟩
              have hb10 := bel_grow hbq2 xg
              go_wp2_with fail
              go_roundw
              case rel => exact ⟨i + 1, by go_num, by omega, hb10⟩
              case measure => simp [intOf]; omega
            · obtain rfl : i = u.fans.length := by omega
              go_wp2
              go_ret
              exact ⟨rfl, bel_trans hbW9 hbq2⟩

theorem own : ownKnob Try.prog.godebug = none := by kernel_rfl
set_option maxRecDepth 100000 in
theorem lifted (os : Os) (started : os.Started) (H : Type) (enc : TypeId × Value → H) :
    ReturnsInHanded {} Try.checked os 8 .any (Rows.topoApartSpec.pre6 enc Try.prog Try.f8 Rows.topoApartRow.domain false) (Rows.topoApartSpec.post enc Try.prog Try.f8 false true false false) := by
  refine returnsInHanded_of_change_sized (C := Try.checked) own started (by kernel_rfl) Try.func8
    (ChangeSpec.witness6 (enc := enc) (C := Try.checked) false ⟨#[], #[.int .i64 0, .slice none 0 0, .int .i64 0, .slice none 0 0], []⟩ 12 (by kernel_rfl) (by kernel_rfl) (by kernel_rfl) (by kernel_rfl)) ?_
  intro W base args ds gs before hval0 hW hcnd hwt _
  have hval : ∀ (j : Nat) t v, Try.f8.params[j]? = some t → args[j]? = some v → Value.okWide Try.prog W .any base t v := hval0
  have hW' := hW
  obtain ⟨p, q, hA0, hV, rfl, hfz, hnd⟩ := hW
  have hA : DataW.TrodAll enc Try.prog W 0 (fun _ => true) true Try.f8.params.toList args.toList ds p := hA0
  rw [Try.params8] at hA hval
  obtain ⟨v0, vs0, d0, ds0, p0, q0, hargs, rfl, rfl, h0, r0⟩ := trodAll_cons hA
  obtain ⟨v1, vs1, d1, ds1, p1, q1, rfl, rfl, rfl, h1, r1⟩ := trodAll_cons r0
  obtain ⟨v2, vs2, d2, ds2, p2, q2, rfl, rfl, rfl, h2, r2⟩ := trodAll_cons r1
  obtain ⟨v3, vs3, d3, ds3, p3, q3, rfl, rfl, rfl, h3, r3⟩ := trodAll_cons r2
  obtain ⟨rfl, rfl, rfl⟩ := trodAll_nil r3
  obtain rfl : args = #[v0, v1, v2, v3] := by cases args; simp_all
  obtain ⟨a0, rfl, b0⟩ := open_int64 (hval 0 3 v0 rfl rfl) h0
  obtain ⟨sa1, sn1, sc1, rfl⟩ := okWide_slice Try.underlying22 (hval 1 22 v1 rfl rfl)
  have hTW1 : TW enc Try.prog W 0 (fun _ => true) true 22 [.slice sa1 sn1 sc1] := by
    obtain ⟨fu, hfu⟩ := h1
    refine ⟨fu, _, hfu, fun n hn => ?_⟩
    have := List.all_eq_true.1 hwt n (DataW.weights_mem_each (j := 1) (t := 22) (d := d1) (by rw [Try.params8]; rfl) (by rfl) n hn)
    simpa using this
  obtain ⟨A1, k1, fs1, e1, l1, m1, n1⟩ := tw_facesF hTW1
  obtain ⟨f1, g1, i1⟩ : A1 = sa1 ∧ fs1.length = sn1 ∧ k1 = sc1 := by simpa [eq_comm] using e1
  subst f1
  subst g1
  subst i1
  clear hTW1
  obtain ⟨a2, rfl, b2⟩ := open_int64 (hval 2 3 v2 rfl rfl) h2
  obtain ⟨sa3, sn3, sc3, rfl⟩ := okWide_slice Try.underlying22 (hval 3 22 v3 rfl rfl)
  have hTW3 : TW enc Try.prog W 0 (fun _ => true) true 22 [.slice sa3 sn3 sc3] := by
    obtain ⟨fu, hfu⟩ := h3
    refine ⟨fu, _, hfu, fun n hn => ?_⟩
    have := List.all_eq_true.1 hwt n (DataW.weights_mem_each (j := 3) (t := 22) (d := d3) (by rw [Try.params8]; rfl) (by rfl) n hn)
    simpa using this
  obtain ⟨A3, k3, fs3, e3, l3, m3, n3⟩ := tw_facesF hTW3
  obtain ⟨f3, g3, i3⟩ : A3 = sa3 ∧ fs3.length = sn3 ∧ k3 = sc3 := by simpa [eq_comm] using e3
  subst f3
  subst g3
  subst i3
  clear hTW3
  refine (walk W a0 b0 A1 k1 fs1 l1 m1 n1 a2 b2 A3 k3 fs3 l3 m3 n3).mono fun e W' ⟨he, hb⟩ => ?_
  subst he
  exact ⟨_, rfl, law_post (tb := 4) (by kernel_rfl) (by kernel_rfl) rfl rfl Try.underlying4 rfl rfl rfl hW' hb⟩

theorem over : Rows.topoApartRow.holds Try.pinned (OpenSpec.ofChange Rows.topoApartSpec) :=
  OpenClaim.holds_of_wide 8 Try.f8 rfl rfl rfl rfl rfl rfl rfl ⟨rfl, rfl, rfl, rfl, rfl⟩ rfl rfl rfl rfl rfl (by kernel_rfl) Try.func8 (by kernel_rfl)
    (of_decide_eq_true (by kernel_rfl)) (by unfold Func.isWrapper; first | (rw [if_pos (by decide +kernel)]; kernel_rfl) | (rw [if_neg (by decide +kernel)]; exact ⟨rfl, rfl⟩))
    (fun os started H enc _ => lifted os started H enc)

theorem proved : Rows.TopoApartSaid :=
  over
#print axioms proved
end Go.Proofs.Ytbehobojgeganaa.topoApart
