/- BvhTouches holds for every input: the row, out of the walk. No condition. -/
import Derived.SizedLaws
import Derived.Test.YthadlpkdfnonjaaRows
import Derived.Test.YthadlpkdfnonjaaC7
import Derived.Test.YthadlpkdfnonjaaC8
import Derived.Test.YthadlpkdfnonjaaC14
namespace Go.Proofs.Ythadlpkdfnonjaa.bvhTouches
open Go.ChangeShapes Go.WideShapes Go.ChangeAt Go.RowKit
set_option linter.unusedVariables false
set_option linter.unusedSimpArgs false
theorem rg_q {o d : P3} {b : Bx} (h : (rgV o d b.lo b.hi).k = true) : rayQ o d b = true := by
  unfold rayQ
  rcases rg_cases o d b.lo b.hi with ⟨_, e⟩ | ⟨_, _, e⟩ | ⟨r, _, e, _⟩
  · rw [e] at h; cases h
  · rw [e] at h; cases h
  · rw [e]; rfl
set_option maxRecDepth 100000 in
set_option maxHeartbeats 8000000 in
theorem walk (W : World) (A : Option Addr) (n c : Nat) (B : Nat → Bx) (hA : SL A n c ∧ BxR W A n B) (leaf : Int) (hleaf : -9223372036854775808 ≤ leaf ∧ leaf ≤ 9223372036854775807) (o : P3) (ko : In3 o) (d : P3) (kd : In3 d) : Calls Try.prog 6 #[.slice A n c, .int .i64 leaf, .agg #[.int .i64 o.x, .int .i64 o.y, .int .i64 o.z], .agg #[.int .i64 d.x, .int .i64 d.y, .int .i64 d.z]] W fun e w' => e = .returned (.bool true) ∧ Below W.heap.size W w' := by
  have al := alive16_any
  obtain ⟨hS, hB⟩ := hA
  have hnl := hS.1
  have hcl := hS.2.1
  clear ko kd
  by_cases h300 : 300 < n
  · have hq : (n : Int) > 300 := by omega
    have hn2 : (n : Int) ≤ 9223372036854775807 := by unfold maxLen at hcl; omega
    go_enter Try.func6, Try.ntmps6
    go_wp2_with (first | (go_at_call 18; (with_reducible refine (al.at_ _).mono ?_); rintro e w' ⟨rfl, xg, rfl⟩) | fail)
    go_ret
    exact ⟨rfl, (by repeat (first | exact Below.refl _ _ | refine bel_then ?_ _ | refine bel_grow ?_ _ | refine bel_alloc ?_ _ | refine bel_drew ?_ | refine bel_set ?_ (by simp) _ | refine bel_setRow ?_ (by first | omega | (simp; done) | (refine Nat.le_trans ?_ (top_le _ _); simp; done) | (refine Nat.le_succ_of_le (Nat.le_trans ?_ (top_le _ _)); simp; done) | (refine Nat.le_trans ?_ (top_le _ _); simp only [World.size_alloc]; refine Nat.le_succ_of_le (Nat.le_trans ?_ (top_le _ _)); simp; done)) _))⟩
  have hq : ¬ (n : Int) > 300 := by omega
  have hn3 : n ≤ 300 := by omega
  obtain ⟨W1, hW1⟩ : ∃ W1, W1 = (W.alloc (.cells (#[.int .i64 o.x, .int .i64 o.y, .int .i64 o.z]) 23)).alloc (.cells (#[.int .i64 d.x, .int .i64 d.y, .int .i64 d.z]) 23) := ⟨_, rfl⟩
  have hb1 : Below W.heap.size W W1 := by rw [hW1]; exact bel_alloc (bel_alloc (Below.refl _ _) _) _
  have hO1 : Blk W1 W.heap.size 23 #[.int .i64 o.x, .int .i64 o.y, .int .i64 o.z] := by rw [hW1]; exact (Blk.new _ _ _ _ rfl).alloc _
  have hD1 : Blk W1 (W.heap.size + 1) 23 #[.int .i64 d.x, .int .i64 d.y, .int .i64 d.z] := by rw [hW1]; exact Blk.new _ _ _ _ (by simp)
  go_enter Try.func6, Try.ntmps6
  go_upto_region 1 with (fail)
  simp only [← hW1]
  clear hW1
  obtain ⟨bo, hbo⟩ : ∃ b, b = W.heap.size := ⟨_, rfl⟩
  rw [← hbo] at hO1 hD1
  simp only [← hbo]
  replace hbo := Lib.hid hbo
  go_upto_region 5 with (first | (go_at_call 18; (with_reducible refine (al.at_ _).mono ?_); rintro e w' ⟨rfl, xg, rfl⟩) | fail)
  have hbg : Below W1.heap.size W1 (grow W1 xg) := xg.kept W1
  have hB2 := hB.below (bel_trans hb1 hbg)
  have hO2 := hO1.below hbg
  have hD2 := hD1.below hbg
  have hb2 := bel_trans hb1 hbg
  clear hb1 hO1 hD1 hbg hB al
  generalize hWg : grow W1 xg = W2 at *
  clear hWg
  have kB := build_any W2 A n c B hB2 hn3 leaf hleaf
  by_cases he : bldE B n leaf = 0
  · obtain ⟨hl1, hok⟩ := bldE_iff.1 he
    by_cases hn0 : n = 0
    · subst hn0
      have kB' : Calls Try.prog 19 #[.slice A 0 c, .int .i64 leaf] W2 fun e W' => Below W2.heap.size W2 W' ∧ e = .returned (.tuple #[.agg #[.slice none 0 0, .slice none 0 0], .int .i64 0]) := kB.mono fun e W' ⟨h1, h2⟩ => ⟨h1, bld_zero h2 he⟩
      clear kB
      have kT := fun (Wq : World) => touched_none Wq none 0 none 0 0 o d
      unfold TrZ at kT
      obtain ⟨i1, hi1, hy0, hys, hyb⟩ := binfo_of infoBoolB
      go_upto_region 12 with (first | (go_at_call 19; (with_reducible refine kB'.mono ?_); rintro e W3 ⟨hb3, rfl⟩; have hO3 := (hO2.below hb3).alloc (.cells #[.slice none 0 0, .slice none 0 0] 56); have hD3 := (hD2.below hb3).alloc (.cells #[.slice none 0 0, .slice none 0 0] 56); have o0 := hO3.cell 0; have o1 := hO3.cell 1; have o2 := hO3.cell 2; have ol := hO3.lt; have d0 := hD3.cell 0; have d1 := hD3.cell 1; have d2 := hD3.cell 2; have dl := hD3.lt) | (go_at_call 22; (with_reducible refine (kT _).mono ?_); rintro e W4 ⟨rfl, hb4⟩) | ((refine wpList_make_full _ rfl _ _ 64 rfl W4.heap.size 4 i1 _ 1 Try.underlying64 hi1 hy0 hys .i64 .i64 (0 : Int) (0 : Int) 0 rfl rfl rfl rfl (by rw [hyb]; omega) (by unfold maxLen; omega) (Nat.le_refl _) ?_); intro W6 own6 hg6; try simp only [Act.put, List.setIfInBounds_toArray, List.set_cons_succ, List.set_cons_zero]) | fail)
      have hb6 : Below W4.heap.size W4 W6 := ⟨hg6.os, hg6.tape, hg6.output, hg6.size, fun k hk => hg6.block k hk (by simp)⟩
      have hb7 := bel_trans (bel_trans (bel_alloc (bel_trans hb2 hb3) _) hb4) hb6
      clear own6 hg6 hb6 hb4 hb3 hb2
      generalize W4.heap.size = gs at *
      go_wp2
      go_loopw [13] (fun iv wr => iv = .int .i64 (0 : Int) ∧ Below W.heap.size W wr) (fun iv _ => 0)
      case atStart => exact ⟨rfl, hb7⟩
      case round =>
        obtain ⟨rfl, hbr⟩ := hrel
        go_wp2
        go_loopw [14, 15, 16, 17, 18] (fun iv _ _ _ _ wq => iv = .int .i64 (0 : Int) ∧ Below W.heap.size W wq) (fun iv _ _ _ _ _ => 0)
        case atStart => exact ⟨rfl, hbr⟩
        case round =>
          clear hbr
          obtain ⟨rfl, hbr⟩ := hrel
          go_wp2
          go_ret
          exact ⟨rfl, hbr⟩
    · have hn0' : 0 < n := by omega
      have hl2 : 0 < leaf.toNat := by omega
      have kB' : Calls Try.prog 19 #[.slice A n c, .int .i64 leaf] W2 fun e W' => Below W2.heap.size W2 W' ∧ ∃ A1 c1 A2 c2, e = .returned (.tuple #[.agg #[.slice A1 (bvT B leaf.toNat n).sz c1, .slice A2 n c2], .int .i64 0]) ∧ NdL W' A1 ((bvT B leaf.toNat n).lay B 0) ∧ IL W' A2 (zL (bvT B leaf.toNat n).its) ∧ n ≤ c2 := kB.mono fun e W' ⟨h1, h2⟩ => ⟨h1, bld_tree h2 he hn0'⟩
      clear kB
      go_upto_region 8 with (first | (go_at_call 19; (with_reducible refine kB'.mono ?_); rintro e W3 ⟨hb3, A1, c1, A2, c2, rfl, hN3, hI3, hc2⟩) | fail)
      have hba : Below W3.heap.size W3 (W3.alloc (.cells #[.slice A1 (bvT B leaf.toNat n).sz c1, .slice A2 n c2] 56)) := bel_alloc (Below.refl _ _) _
      have hT3 : Blk (W3.alloc (.cells #[.slice A1 (bvT B leaf.toNat n).sz c1, .slice A2 n c2] 56)) W3.heap.size 56 #[.slice A1 (bvT B leaf.toNat n).sz c1, .slice A2 n c2] := Blk.new _ _ _ _ rfl
      have hb4 := bel_trans hb3 hba
      have hN4 := hN3.below hba
      have hI4 := hI3.below hba
      have hO4 := hO2.below hb4
      have hD4 := hD2.below hb4
      have hB4 := hB2.below hb4
      have hb4' := bel_trans hb2 hb4
      clear hb3 hba hb4 hN3 hI3 hO2 hD2 hB2 hb2 kB'
      generalize W3.alloc (.cells #[.slice A1 (bvT B leaf.toNat n).sz c1, .slice A2 n c2] 56) = W4 at *
      generalize W3.heap.size = bt at *
      have kT := touchB_any W4 A1 c1 A2 c2 B hl2 hn0' hn3 hok hN4 hI4 hc2 o d
      obtain ⟨hTn, hTl, hTh⟩ := touch_n (B := B) hl2 hn0' hn3 o d
      obtain ⟨T, hT⟩ : ∃ T, T = (bvT B leaf.toNat n).touch B (rayQ o d) := ⟨_, rfl⟩
      rw [← hT] at kT hTn hTl hTh
      have t0 := hT3.cell 0
      have t1 := hT3.cell 1
      have tl := hT3.lt
      have o0 := hO4.cell 0
      have o1 := hO4.cell 1
      have o2 := hO4.cell 2
      have ol := hO4.lt
      have d0 := hD4.cell 0
      have d1 := hD4.cell 1
      have d2 := hD4.cell 2
      have dl := hD4.lt
      have hTn' := Lib.hid hTn
      have hTl' := Lib.hid hTl
      have hTh' := Lib.hid hTh
      clear hTn hTl hTh hT hN4 hI4
      cases hln : lnB o d
      · have kT' : Calls Try.prog 22 #[.agg #[.slice A1 (bvT B leaf.toNat n).sz c1, .slice A2 n c2], .agg #[.int .i64 o.x, .int .i64 o.y, .int .i64 o.z], .agg #[.int .i64 d.x, .int .i64 d.y, .int .i64 d.z]] W4 fun e W' => Below W4.heap.size W4 W' ∧ e = .returned (.tuple #[.slice none 0 0, .int .i64 21]) := kT.mono fun e W' ⟨h1, h2⟩ => ⟨h1, by
          rcases h2 with ⟨_, h3⟩ | ⟨h3, _⟩
          · exact h3
          · rw [hln] at h3; cases h3⟩
        clear kT
        generalize (bvT B leaf.toNat n).sz = sz at *
        go_wp2_with (first | (go_at_call 22; (with_reducible refine kT'.mono ?_); rintro e W5 ⟨hb5, rfl⟩) | fail)
        go_ret
        exact ⟨rfl, bel_trans hb4' hb5⟩
      · have kT' : Calls Try.prog 22 #[.agg #[.slice A1 (bvT B leaf.toNat n).sz c1, .slice A2 n c2], .agg #[.int .i64 o.x, .int .i64 o.y, .int .i64 o.z], .agg #[.int .i64 d.x, .int .i64 d.y, .int .i64 d.z]] W4 fun e W' => Below W4.heap.size W4 W' ∧ ∃ A5 c5, e = .returned (.tuple #[.slice A5 T.length c5, .int .i64 0]) ∧ IL W' A5 (zL T) := kT.mono fun e W' ⟨h1, h2⟩ => ⟨h1, by
          rcases h2 with ⟨h3, _⟩ | ⟨_, h3⟩
          · rw [hln] at h3; cases h3
          · exact h3⟩
        clear kT
        generalize (bvT B leaf.toNat n).sz = sz at *
        obtain ⟨i1, hi1, hy0, hys, hyb⟩ := binfo_of infoBoolB
        go_upto_region 12 with (first | (go_at_call 22; (with_reducible refine kT'.mono ?_); rintro e W5 ⟨hb5, A5, c5, rfl, hI5⟩) | ((refine wpList_make_full _ rfl _ _ 64 rfl W5.heap.size 4 i1 _ 1 Try.underlying64 hi1 hy0 hys .i64 .i64 (n : Int) (n : Int) n rfl rfl rfl rfl (by rw [hyb]; omega) (by unfold maxLen; omega) (Nat.le_refl _) ?_); intro W6 own6 hg6; try simp only [Act.put, List.setIfInBounds_toArray, List.set_cons_succ, List.set_cons_zero]) | fail)
        have hb6 : Below W5.heap.size W5 W6 := ⟨hg6.os, hg6.tape, hg6.output, hg6.size, fun k hk => hg6.block k hk (by simp)⟩
        have hG6 := bmade_blk own6
        rw [show (Value.bool false).cells = #[.bool false] from rfl, seenC_made n] at hG6
        have hO5 := hO4.below hb5
        have hD5 := hD4.below hb5
        have hB5 := hB4.below hb5
        have hb5' := bel_trans hb4' hb5
        have hgs5 : W5.heap.size ≤ W5.heap.size := Nat.le_refl _
        clear own6 hg6 hb5 hb4' hO4 hD4 hB4 hT3 t0 t1 tl o0 o1 o2 ol d0 d1 d2 dl
        obtain ⟨gs, hgsz⟩ : ∃ b, b = W5.heap.size := ⟨_, rfl⟩
        have hgs : W5.heap.size ≤ gs := by omega
        rw [← hgsz] at hG6
        try simp only [← hgsz]
        replace hgsz := Lib.hid hgsz
        have hTln : T.length ≤ 300 := by
          have h1 := (hTn'.out).length_le_of_subset (l₂ := List.range n) (fun x hx => by simpa using hTl'.out x hx)
          rw [List.length_range] at h1
          omega
        go_wp2
        go_loopw [13] (fun iv wr => ∃ k : Nat, iv = .int .i64 (k : Int) ∧ k ≤ T.length ∧ Below W5.heap.size W5 wr ∧ Blk wr gs 4 (seenC (T.take k) n)) (fun iv _ => T.length - (intOf iv).toNat)
        case atStart => exact ⟨0, rfl, by omega, hb6, by rw [List.take_zero]; exact hG6⟩
        case round =>
          obtain ⟨k, rfl, hk, hbr, hGr⟩ := hrel
          by_cases hkT : k < T.length
          · obtain ⟨b5, o5, rfl, hb5l, hx5⟩ := (hI5.below hbr).nat k hkT
            have hxl := hTl'.out _ (List.getElem_mem hkT)
            have hxn : T[k] ∉ T.take k := fun hm => by
              obtain ⟨j, hj, hje⟩ := List.getElem_of_mem hm
              have hj2 : j < k := by rw [List.length_take] at hj; omega
              rw [List.getElem_take] at hje
              have := (List.getElem_inj hTn'.out).1 hje
              omega
            have hset := fun (h : T[k] < n) => seenC_set (T := T.take k) h
            rw [← List.take_succ_eq_append_getElem hkT] at hset
            have hGc : wr.cell? ⟨gs, T[k], none⟩ = some (.bool false) := by rw [hGr.cell, seenC_at _ _ _ hxl, decide_eq_false hxn]
            have hGf := hGr.frozen T[k]
            have hGl := hGr.lt
            have q0 : (0 : Int) ≤ (k : Int) := by omega
            have q1 : (k : Int) < (T.length : Int) := by omega
            have x0 : (0 : Int) ≤ (T[k] : Int) := by omega
            have x1 : (T[k] : Int) < (n : Int) := by omega
            have hGs := hGr.set T[k] (.bool true)
            rw [hset hxl] at hGs
            clear hset hxn
            generalize T[k] = x at *
            go_wp2_with fail
            go_roundw
            case rel => exact ⟨k + 1, by go_num, by omega, bel_set hbr hgs _, hGs⟩
            case measure => simp [intOf]; omega
          · obtain rfl : k = T.length := by omega
            rw [List.take_length] at hGr
            clear hb6 hG6
            go_wp2
            go_loopw [14, 15, 16, 17, 18] (fun iv _ _ _ _ wq => ∃ k : Nat, iv = .int .i64 (k : Int) ∧ k ≤ n ∧ Below W5.heap.size W5 wq ∧ Blk wq gs 4 (seenC T n)) (fun iv _ _ _ _ _ => n - (intOf iv).toNat)
            case atStart => exact ⟨0, rfl, by omega, hbr, hGr⟩
            case round =>
              clear hbr hGr
              obtain ⟨k, rfl, hk, hbr, hGr⟩ := hrel
              by_cases hkn : k < n
              · obtain ⟨ba, off, rfl, hbl, c0, c1, c2, c3, c4, c5⟩ := (hB5.below hbr).at_ k hkn
                have kR := slRange_any o d (B k).lo (B k).hi
                have hid : Hid ((rgV o d (B k).lo (B k).hi).k = true → k ∈ T) := Lib.hid fun h => hTh'.out k hkn (rg_q h)
                have hOr := hO5.below hbr
                have hDr := hD5.below hbr
                have ox0 := hOr.cell 0
                have ox1 := hOr.cell 1
                have ox2 := hOr.cell 2
                have oxl := hOr.lt
                have dx0 := hDr.cell 0
                have dx1 := hDr.cell 1
                have dx2 := hDr.cell 2
                have dxl := hDr.lt
                have q0 : (0 : Int) ≤ (k : Int) := by omega
                have q1 : (k : Int) < (n : Int) := by omega
                generalize (rgV o d (B k).lo (B k).hi).a.n = r1n at *
                generalize (rgV o d (B k).lo (B k).hi).a.d = r1d at *
                generalize (rgV o d (B k).lo (B k).hi).b.n = r2n at *
                generalize (rgV o d (B k).lo (B k).hi).b.d = r2d at *
                generalize (rgV o d (B k).lo (B k).hi).k = rk at *
                generalize (rgV o d (B k).lo (B k).hi).e = re at *
                generalize B k = bk at *
                clear hI5 hO5 hD5 hB5 hTh' hOr hDr
                go_upto_region 21 with fail
                refine wp_region_monoV 18 (RO [some (.agg #[.int .i64 o.x, .int .i64 o.y, .int .i64 o.z]), some (.agg #[.int .i64 d.x, .int .i64 d.y, .int .i64 d.z]), some (.slice (some ⟨ba, off, none⟩) n c), some (.int .i64 (k : Int)), some (.pointer (some ⟨ba, off + k * 6, none⟩)), some (.agg #[.int .i64 bk.lo.x, .int .i64 bk.lo.y, .int .i64 bk.lo.z, .int .i64 bk.hi.x, .int .i64 bk.hi.y, .int .i64 bk.hi.z]), some (.tuple #[.agg #[.int .i64 r1n, .int .i64 r1d], .agg #[.int .i64 r2n, .int .i64 r2d], .bool rk, .int .i64 re]), some (.tuple #[.agg #[.int .i64 r1n, .int .i64 r1d], .agg #[.int .i64 r2n, .int .i64 r2d], .bool rk, .int .i64 re]), some (.agg #[.int .i64 r1n, .int .i64 r1d]), some (.agg #[.int .i64 r2n, .int .i64 r2d]), some (.bool rk), some (.int .i64 re), none, none, none, none, some (.bool rk), some (.int .i64 re)]) (JV wr [⟨12, 14, 15, 70, #[.int .i64 0, .int .i64 0], #[.int .i64 r1n, .int .i64 r1d]⟩, ⟨13, 15, 16, 70, #[.int .i64 0, .int .i64 0], #[.int .i64 r2n, .int .i64 r2d]⟩]) (by kernel_rfl) _ rfl (by kernel_rfl) (by kernel_rfl) (by kernel_rfl) (by kernel_rfl) (by kernel_rfl) (jv_start (by intro m hm; simp only [List.mem_cons, List.not_mem_nil, or_false] at hm; rcases hm with rfl | rfl <;> exact ⟨(by first | (dsimp only; decide) | (dsimp only; omega) | simp), (by first | (dsimp only; decide) | (dsimp only; omega) | simp)⟩)) ?_ ?_
                · simp only [List.take_succ_cons, List.take_zero]
                  refine ⟨?_, ?_, ?_, ?_, ?_, ?_, ?_, ?_, ?_, ?_, ?_, ?_, ?_, ?_, ?_, ?_, ?_, ?_, ?_⟩
                  · refine jv_val rfl (by intro m hm; simp only [List.mem_cons, List.not_mem_nil, or_false] at hm; rcases hm with rfl | rfl <;> exact ⟨(by first | (dsimp only; decide) | (dsimp only; omega) | simp), (by first | (dsimp only; decide) | (dsimp only; omega) | simp), (by first | (dsimp only; decide) | (dsimp only; omega) | simp)⟩) (fun a u hB hk hp => ?_)
                    have es6 := (hk 6 (keep_of (by kernel_rfl))).trans (show _ = some (.pointer (some ⟨bo, 0, none⟩)) from rfl)
                    exact ⟨_, bldm_run _ _ _ 23 _ rfl (bo) 0 (eval_tmp es6) _ _ (brng3 ((hB.cell (p := ⟨bo, 0, none⟩) oxl).trans ox0) ((hB.cell (p := ⟨bo, 0 + 1, none⟩) oxl).trans ox1) ((hB.cell (p := ⟨bo, 0 + 2, none⟩) oxl).trans ox2)) Try.underlying23 rfl infoV3B, rfl⟩
                  · refine jv_val rfl (by intro m hm; simp only [List.mem_cons, List.not_mem_nil, or_false] at hm; rcases hm with rfl | rfl <;> exact ⟨(by first | (dsimp only; decide) | (dsimp only; omega) | simp), (by first | (dsimp only; decide) | (dsimp only; omega) | simp), (by first | (dsimp only; decide) | (dsimp only; omega) | simp)⟩) (fun a u hB hk hp => ?_)
                    have es7 := (hk 7 (keep_of (by kernel_rfl))).trans (show _ = some (.pointer (some ⟨bo + 1, 0, none⟩)) from rfl)
                    exact ⟨_, bldm_run _ _ _ 23 _ rfl (bo + 1) 0 (eval_tmp es7) _ _ (brng3 ((hB.cell (p := ⟨bo + 1, 0, none⟩) dxl).trans dx0) ((hB.cell (p := ⟨bo + 1, 0 + 1, none⟩) dxl).trans dx1) ((hB.cell (p := ⟨bo + 1, 0 + 2, none⟩) dxl).trans dx2)) Try.underlying23 rfl infoV3B, rfl⟩
                  · refine jv_val rfl (by intro m hm; simp only [List.mem_cons, List.not_mem_nil, or_false] at hm; rcases hm with rfl | rfl <;> exact ⟨(by first | (dsimp only; decide) | (dsimp only; omega) | simp), (by first | (dsimp only; decide) | (dsimp only; omega) | simp), (by first | (dsimp only; decide) | (dsimp only; omega) | simp)⟩) (fun a u hB hk hp => ?_)
                    have es0 := (hk 0 (keep_of (by kernel_rfl))).trans (show _ = some (.slice (some ⟨ba, off, none⟩) n c) from rfl)
                    exact ⟨_, by simp [execOp, go_sem, es0], rfl⟩
                  · refine jv_val rfl (by intro m hm; simp only [List.mem_cons, List.not_mem_nil, or_false] at hm; rcases hm with rfl | rfl <;> exact ⟨(by first | (dsimp only; decide) | (dsimp only; omega) | simp), (by first | (dsimp only; decide) | (dsimp only; omega) | simp), (by first | (dsimp only; decide) | (dsimp only; omega) | simp)⟩) (fun a u hB hk hp => ?_)
                    have es14 := (hk 14 (keep_of (by kernel_rfl))).trans (show _ = some (.int .i64 (k : Int)) from rfl)
                    exact ⟨_, by simp [execOp, go_sem, es14], rfl⟩
                  · refine jv_val rfl (by intro m hm; simp only [List.mem_cons, List.not_mem_nil, or_false] at hm; rcases hm with rfl | rfl <;> exact ⟨(by first | (dsimp only; decide) | (dsimp only; omega) | simp), (by first | (dsimp only; decide) | (dsimp only; omega) | simp), (by first | (dsimp only; decide) | (dsimp only; omega) | simp)⟩) (fun a u hB hk hp => ?_)
                    obtain ⟨x2, ex2, rx2⟩ := hp ⟨2, .data⟩ (by simp) rfl _ _ rfl rfl
                    obtain rfl : x2 = _ := rx2
                    obtain ⟨x3, ex3, rx3⟩ := hp ⟨3, .data⟩ (by simp) rfl _ _ rfl rfl
                    obtain rfl : x3 = _ := rx3
                    have fc0 := q0
                    have fc1 := q1
                    exact ⟨_, by simp [execOp, go_sem, ex2, ex3, fc0, fc1], rfl⟩
                  · refine jv_val rfl (by intro m hm; simp only [List.mem_cons, List.not_mem_nil, or_false] at hm; rcases hm with rfl | rfl <;> exact ⟨(by first | (dsimp only; decide) | (dsimp only; omega) | simp), (by first | (dsimp only; decide) | (dsimp only; omega) | simp), (by first | (dsimp only; decide) | (dsimp only; omega) | simp)⟩) (fun a u hB hk hp => ?_)
                    obtain ⟨x4, ex4, rx4⟩ := hp ⟨4, .data⟩ (by simp) rfl _ _ rfl rfl
                    obtain rfl : x4 = _ := rx4
                    exact ⟨_, bldm_run _ _ _ 43 _ rfl ba (off + k * 6) (eval_tmp ex4) _ _ (brng6 ((hB.cell (p := ⟨ba, off + k * 6, none⟩) hbl).trans c0) ((hB.cell (p := ⟨ba, off + k * 6 + 1, none⟩) hbl).trans c1) ((hB.cell (p := ⟨ba, off + k * 6 + 2, none⟩) hbl).trans c2) ((hB.cell (p := ⟨ba, off + k * 6 + 3, none⟩) hbl).trans c3) ((hB.cell (p := ⟨ba, off + k * 6 + 4, none⟩) hbl).trans c4) ((hB.cell (p := ⟨ba, off + k * 6 + 5, none⟩) hbl).trans c5)) Try.underlying43 rfl infoBx6, rfl⟩
                  · refine jv_call rfl (by intro m hm; simp only [List.mem_cons, List.not_mem_nil, or_false] at hm; rcases hm with rfl | rfl <;> exact ⟨(by first | (dsimp only; decide) | (dsimp only; omega) | simp), (by first | (dsimp only; decide) | (dsimp only; omega) | simp), (by first | (dsimp only; decide) | (dsimp only; omega) | simp)⟩) (fun a u hB hk hp => ?_)
                    obtain ⟨x0, ex0, rx0⟩ := hp ⟨0, .data⟩ (by simp) rfl _ _ rfl rfl
                    obtain rfl : x0 = _ := rx0
                    obtain ⟨x1, ex1, rx1⟩ := hp ⟨1, .data⟩ (by simp) rfl _ _ rfl rfl
                    obtain rfl : x1 = _ := rx1
                    obtain ⟨x5, ex5, rx5⟩ := hp ⟨5, .data⟩ (by simp) rfl _ _ rfl rfl
                    obtain rfl : x5 = _ := rx5
                    exact ⟨26, #[.agg #[.int .i64 o.x, .int .i64 o.y, .int .i64 o.z], .agg #[.int .i64 d.x, .int .i64 d.y, .int .i64 d.z], .agg #[.int .i64 bk.lo.x, .int .i64 bk.lo.y, .int .i64 bk.lo.z, .int .i64 bk.hi.x, .int .i64 bk.hi.y, .int .i64 bk.hi.z]], _, by simp [execOp, go_sem, ex0, ex1, ex5], kR.bel u, rfl⟩
                  · refine jv_val rfl (by intro m hm; simp only [List.mem_cons, List.not_mem_nil, or_false] at hm; rcases hm with rfl | rfl <;> exact ⟨(by first | (dsimp only; decide) | (dsimp only; omega) | simp), (by first | (dsimp only; decide) | (dsimp only; omega) | simp), (by first | (dsimp only; decide) | (dsimp only; omega) | simp)⟩) (fun a u hB hk hp => ?_)
                    obtain ⟨x6, ex6, rx6⟩ := hp ⟨6, .data⟩ (by simp) rfl _ _ rfl rfl
                    obtain rfl : x6 = _ := rx6
                    exact ⟨_, by simp [execOp, go_sem, ex6], rfl⟩
                  · refine jv_val rfl (by intro m hm; simp only [List.mem_cons, List.not_mem_nil, or_false] at hm; rcases hm with rfl | rfl <;> exact ⟨(by first | (dsimp only; decide) | (dsimp only; omega) | simp), (by first | (dsimp only; decide) | (dsimp only; omega) | simp), (by first | (dsimp only; decide) | (dsimp only; omega) | simp)⟩) (fun a u hB hk hp => ?_)
                    obtain ⟨x7, ex7, rx7⟩ := hp ⟨7, .data⟩ (by simp) rfl _ _ rfl rfl
                    obtain rfl : x7 = _ := rx7
                    exact ⟨_, by simp [execOp, go_sem, ex7], rfl⟩
                  · refine jv_val rfl (by intro m hm; simp only [List.mem_cons, List.not_mem_nil, or_false] at hm; rcases hm with rfl | rfl <;> exact ⟨(by first | (dsimp only; decide) | (dsimp only; omega) | simp), (by first | (dsimp only; decide) | (dsimp only; omega) | simp), (by first | (dsimp only; decide) | (dsimp only; omega) | simp)⟩) (fun a u hB hk hp => ?_)
                    obtain ⟨x7, ex7, rx7⟩ := hp ⟨7, .data⟩ (by simp) rfl _ _ rfl rfl
                    obtain rfl : x7 = _ := rx7
                    exact ⟨_, by simp [execOp, go_sem, ex7], rfl⟩
                  · refine jv_val rfl (by intro m hm; simp only [List.mem_cons, List.not_mem_nil, or_false] at hm; rcases hm with rfl | rfl <;> exact ⟨(by first | (dsimp only; decide) | (dsimp only; omega) | simp), (by first | (dsimp only; decide) | (dsimp only; omega) | simp), (by first | (dsimp only; decide) | (dsimp only; omega) | simp)⟩) (fun a u hB hk hp => ?_)
                    obtain ⟨x7, ex7, rx7⟩ := hp ⟨7, .data⟩ (by simp) rfl _ _ rfl rfl
                    obtain rfl : x7 = _ := rx7
                    exact ⟨_, by simp [execOp, go_sem, ex7], rfl⟩
                  · refine jv_val rfl (by intro m hm; simp only [List.mem_cons, List.not_mem_nil, or_false] at hm; rcases hm with rfl | rfl <;> exact ⟨(by first | (dsimp only; decide) | (dsimp only; omega) | simp), (by first | (dsimp only; decide) | (dsimp only; omega) | simp), (by first | (dsimp only; decide) | (dsimp only; omega) | simp)⟩) (fun a u hB hk hp => ?_)
                    obtain ⟨x7, ex7, rx7⟩ := hp ⟨7, .data⟩ (by simp) rfl _ _ rfl rfl
                    obtain rfl : x7 = _ := rx7
                    exact ⟨_, by simp [execOp, go_sem, ex7], rfl⟩
                  · exact jv_alloc (m := ⟨12, 14, 15, 70, #[.int .i64 0, .int .i64 0], #[.int .i64 r1n, .int .i64 r1d]⟩) rfl (by simp) rfl rfl (of_decide_eq_true (by kernel_rfl)) (by intro m' hm' hn; simp only [List.mem_cons, List.not_mem_nil, or_false] at hm'; rcases hm' with rfl | rfl <;> first | exact absurd rfl hn | exact ⟨(by first | (dsimp only; decide) | (dsimp only; omega) | simp), (by first | (dsimp only; decide) | (dsimp only; omega) | simp), (by first | (dsimp only; decide) | (dsimp only; omega) | simp)⟩) (by first | (dsimp only; decide) | (dsimp only; omega) | simp) (by intro m' hm' e; simp only [List.mem_cons, List.not_mem_nil, or_false] at hm'; rcases hm' with rfl | rfl <;> first | rfl | exact absurd e (by first | (dsimp only; decide) | (dsimp only; omega) | simp)) (fun a u => alloc_FrB _ _ rfl u) (fun v => trivial)
                  · exact jv_alloc (m := ⟨13, 15, 16, 70, #[.int .i64 0, .int .i64 0], #[.int .i64 r2n, .int .i64 r2d]⟩) rfl (by simp) rfl rfl (of_decide_eq_true (by kernel_rfl)) (by intro m' hm' hn; simp only [List.mem_cons, List.not_mem_nil, or_false] at hm'; rcases hm' with rfl | rfl <;> first | exact absurd rfl hn | exact ⟨(by first | (dsimp only; decide) | (dsimp only; omega) | simp), (by first | (dsimp only; decide) | (dsimp only; omega) | simp), (by first | (dsimp only; decide) | (dsimp only; omega) | simp)⟩) (by first | (dsimp only; decide) | (dsimp only; omega) | simp) (by intro m' hm' e; simp only [List.mem_cons, List.not_mem_nil, or_false] at hm'; rcases hm' with rfl | rfl <;> first | rfl | exact absurd e (by first | (dsimp only; decide) | (dsimp only; omega) | simp)) (fun a u => alloc_FrB _ _ rfl u) (fun v => trivial)
                  · refine jv_store (m := ⟨12, 14, 15, 70, #[.int .i64 0, .int .i64 0], #[.int .i64 r1n, .int .i64 r1d]⟩) rfl rfl (by simp) (by first | (dsimp only; decide) | (dsimp only; omega) | simp) (by intro m' hm' hn; simp only [List.mem_cons, List.not_mem_nil, or_false] at hm'; rcases hm' with rfl | rfl <;> first | exact absurd rfl hn | exact ⟨(by first | (dsimp only; decide) | (dsimp only; omega) | simp), (by first | (dsimp only; decide) | (dsimp only; omega) | simp), (by first | (dsimp only; decide) | (dsimp only; omega) | simp)⟩) ⟨12, .data⟩ (by simp) rfl rfl (fun a u b hB hsb hZ hk hp => ?_)
                    obtain ⟨x8, ex8, rx8⟩ := hp ⟨8, .data⟩ (by simp) rfl _ _ rfl rfl
                    obtain rfl : x8 = _ := rx8
                    exact wp_store_row 70 _ _ rfl b _ (eval_tmp hsb) (eval_tmp ex8) 70 _ hZ infoFrB rfl (by simp [Value.oneCell']) ⟨_, rfl, rfl⟩
                  · refine jv_store (m := ⟨13, 15, 16, 70, #[.int .i64 0, .int .i64 0], #[.int .i64 r2n, .int .i64 r2d]⟩) rfl rfl (by simp) (by first | (dsimp only; decide) | (dsimp only; omega) | simp) (by intro m' hm' hn; simp only [List.mem_cons, List.not_mem_nil, or_false] at hm'; rcases hm' with rfl | rfl <;> first | exact absurd rfl hn | exact ⟨(by first | (dsimp only; decide) | (dsimp only; omega) | simp), (by first | (dsimp only; decide) | (dsimp only; omega) | simp), (by first | (dsimp only; decide) | (dsimp only; omega) | simp)⟩) ⟨13, .data⟩ (by simp) rfl rfl (fun a u b hB hsb hZ hk hp => ?_)
                    obtain ⟨x9, ex9, rx9⟩ := hp ⟨9, .data⟩ (by simp) rfl _ _ rfl rfl
                    obtain rfl : x9 = _ := rx9
                    exact wp_store_row 70 _ _ rfl b _ (eval_tmp hsb) (eval_tmp ex9) 70 _ hZ infoFrB rfl (by simp [Value.oneCell']) ⟨_, rfl, rfl⟩
                  · refine jv_val rfl (by intro m hm; simp only [List.mem_cons, List.not_mem_nil, or_false] at hm; rcases hm with rfl | rfl <;> exact ⟨(by first | (dsimp only; decide) | (dsimp only; omega) | simp), (by first | (dsimp only; decide) | (dsimp only; omega) | simp), (by first | (dsimp only; decide) | (dsimp only; omega) | simp)⟩) (fun a u hB hk hp => ?_)
                    obtain ⟨x10, ex10, rx10⟩ := hp ⟨10, .data⟩ (by simp) rfl _ _ rfl rfl
                    obtain rfl : x10 = _ := rx10
                    exact ⟨_, by simp [execOp, go_sem, ex10], rfl⟩
                  · refine jv_val rfl (by intro m hm; simp only [List.mem_cons, List.not_mem_nil, or_false] at hm; rcases hm with rfl | rfl <;> exact ⟨(by first | (dsimp only; decide) | (dsimp only; omega) | simp), (by first | (dsimp only; decide) | (dsimp only; omega) | simp), (by first | (dsimp only; decide) | (dsimp only; omega) | simp)⟩) (fun a u hB hk hp => ?_)
                    obtain ⟨x11, ex11, rx11⟩ := hp ⟨11, .data⟩ (by simp) rfl _ _ rfl rfl
                    obtain rfl : x11 = _ := rx11
                    exact ⟨_, by simp [execOp, go_sem, ex11], rfl⟩
                  · trivial
                · intro a W6 listed hJ hall hsz hdf hk hgot
                  obtain ⟨hB, hM, hD⟩ := jv_end hJ (by intro m hm; simp only [List.mem_cons, List.not_mem_nil, or_false] at hm; rcases hm with rfl | rfl <;> exact ⟨(by first | (dsimp only; decide) | (dsimp only; omega) | simp), (by first | (dsimp only; decide) | (dsimp only; omega) | simp)⟩) hall
                  obtain ⟨f1b, ev15, hf1b0, hf1b1⟩ := hM ⟨12, 14, 15, 70, #[.int .i64 0, .int .i64 0], #[.int .i64 r1n, .int .i64 r1d]⟩ (by simp)
                  obtain ⟨f2b, ev16, hf2b0, hf2b1⟩ := hM ⟨13, 15, 16, 70, #[.int .i64 0, .int .i64 0], #[.int .i64 r2n, .int .i64 r2d]⟩ (by simp)
                  have nf1bf2b : f1b ≠ f2b := fun e => hD ⟨12, 14, 15, 70, #[.int .i64 0, .int .i64 0], #[.int .i64 r1n, .int .i64 r1d]⟩ (by simp) ⟨13, 15, 16, 70, #[.int .i64 0, .int .i64 0], #[.int .i64 r2n, .int .i64 r2d]⟩ (by simp) (by first | (dsimp only; decide) | (dsimp only; omega) | simp) (by show a.tmps[15]? = a.tmps[16]?; rw [ev15, ev16, e])
                  replace ev15 : a.tmps[15]? = _ := ev15
                  replace ev16 : a.tmps[16]? = _ := ev16
                  clear hJ hall hM hD
                  obtain ⟨gv17, ev17, rv17⟩ := hgot 16 _ 17 rfl rfl
                  obtain rfl : gv17 = _ := rv17
                  obtain ⟨gv18, ev18, rv18⟩ := hgot 17 _ 18 rfl rfl
                  obtain rfl : gv18 = _ := rv18
                  obtain ⟨f, hf, rfl⟩ := frame_eq hsz hdf hk [93, 94, 95, 96, 97, 98, 99, 92, 100, 101, 102, 103, 15, 16, 17, 18] (by rfl)
                  have f15 := hf 15 _ ev15
                  have f16 := hf 16 _ ev16
                  have f17 := hf 17 _ ev17
                  have f18 := hf 18 _ ev18
                  clear hsz hdf hk hgot hf ev15 ev16 ev17 ev18
                  simp only [List.drop_succ_cons, List.drop_zero, setAll, List.setIfInBounds_toArray, List.set_cons_succ, List.set_cons_zero, f15, f16, f17, f18]
                  clear f15 f16 f17 f18
                  generalize f 93 = uu93; generalize f 94 = uu94; generalize f 95 = uu95; generalize f 96 = uu96; generalize f 97 = uu97; generalize f 98 = uu98; generalize f 99 = uu99; generalize f 92 = uu92; generalize f 100 = uu100; generalize f 101 = uu101; generalize f 102 = uu102; generalize f 103 = uu103
                  have hGr2 := hGr.below hB
                  have hbr2 := bel_trans hbr hB
                  have hGc : W6.cell? ⟨gs, k, none⟩ = some (.bool (decide (k ∈ T))) := by rw [hGr2.cell, seenC_at _ _ _ hkn]
                  have hGf := hGr2.frozen k
                  have hGl := hGr2.lt
                  clear ox0 ox1 ox2 oxl dx0 dx1 dx2 dxl c0 c1 c2 c3 c4 c5 hbl kR hGr hbr hB
                  cases rk
                  · go_wp2
                    go_roundw
                    case rel => exact ⟨k + 1, by go_num, by omega, hbr2, hGr2⟩
                    case measure => simp [intOf]; omega
                  · rw [decide_eq_true (hid.out rfl)] at hGc
                    go_wp2
                    go_roundw
                    case rel => exact ⟨k + 1, by go_num, by omega, hbr2, hGr2⟩
                    case measure => simp [intOf]; omega
              · obtain rfl : k = n := by omega
                go_wp2
                go_ret
                exact ⟨rfl, bel_trans hb5' hbr⟩
  · have kB' : Calls Try.prog 19 #[.slice A n c, .int .i64 leaf] W2 fun e W' => Below W2.heap.size W2 W' ∧ e = .returned (.tuple #[.agg #[.slice none 0 0, .slice none 0 0], .int .i64 (bldE B n leaf)]) := kB.mono fun e W' ⟨h1, h2⟩ => ⟨h1, bld_err h2 he⟩
    clear kB
    have hne : (bldE B n leaf != 0) = true := by simpa using he
    go_wp2_with (first | (go_at_call 19; (with_reducible refine kB'.mono ?_); rintro e W3 ⟨hb3, rfl⟩) | fail)
    go_ret
    exact ⟨rfl, bel_alloc (bel_trans hb2 hb3) _⟩

theorem own : ownKnob Try.prog.godebug = none := by kernel_rfl
set_option maxRecDepth 100000 in
theorem lifted (os : Os) (started : os.Started) (H : Type) (enc : TypeId × Value → H) :
    ReturnsInHanded {} Try.checked os 6 .any (Rows.bvhTouchesSpec.pre6 enc Try.prog Try.f6 Rows.bvhTouchesRow.domain false) (Rows.bvhTouchesSpec.post enc Try.prog Try.f6 false true false false) := by
  refine returnsInHanded_of_change_sized (C := Try.checked) own started (by kernel_rfl) Try.func6
    (ChangeSpec.witness6 (enc := enc) (C := Try.checked) false ⟨#[], #[.slice none 0 0, .int .i64 0, .agg #[.int .i64 0, .int .i64 0, .int .i64 0], .agg #[.int .i64 0, .int .i64 0, .int .i64 0]], []⟩ 12 (by kernel_rfl) (by kernel_rfl) (by kernel_rfl) (by kernel_rfl)) ?_
  intro W base args ds gs before hval0 hW hcnd hwt _
  have hval : ∀ (j : Nat) t v, Try.f6.params[j]? = some t → args[j]? = some v → Value.okWide Try.prog W .any base t v := hval0
  have hW' := hW
  obtain ⟨p, q, hA0, hV, rfl, hfz, hnd⟩ := hW
  have hA : DataW.TrodAll enc Try.prog W 0 (fun _ => true) true Try.f6.params.toList args.toList ds p := hA0
  rw [Try.params6] at hA hval
  obtain ⟨v0, vs0, d0, ds0, p0, q0, hargs, rfl, rfl, h0, r0⟩ := trodAll_cons hA
  obtain ⟨v1, vs1, d1, ds1, p1, q1, rfl, rfl, rfl, h1, r1⟩ := trodAll_cons r0
  obtain ⟨v2, vs2, d2, ds2, p2, q2, rfl, rfl, rfl, h2, r2⟩ := trodAll_cons r1
  obtain ⟨v3, vs3, d3, ds3, p3, q3, rfl, rfl, rfl, h3, r3⟩ := trodAll_cons r2
  obtain ⟨rfl, rfl, rfl⟩ := trodAll_nil r3
  obtain rfl : args = #[v0, v1, v2, v3] := by cases args; simp_all
  obtain ⟨A0, n0, c0, B0, rfl, b0⟩ := open_Boxs (hval 0 52 v0 rfl rfl) h0
  obtain ⟨a1, rfl, b1⟩ := open_int64 (hval 1 3 v1 rfl rfl) h1
  obtain ⟨a2, rfl, k2⟩ := open_V3 (hval 2 23 v2 rfl rfl) h2
  obtain ⟨a3, rfl, k3⟩ := open_V3 (hval 3 23 v3 rfl rfl) h3
  refine (walk W A0 n0 c0 B0 b0 a1 b1 a2 k2 a3 k3).mono fun e W' ⟨he, hb⟩ => ?_
  subst he
  exact ⟨_, rfl, law_post (tb := 4) (by kernel_rfl) (by kernel_rfl) rfl rfl Try.underlying4 rfl rfl rfl hW' hb⟩

theorem over : Rows.bvhTouchesRow.holds Try.pinned (OpenSpec.ofChange Rows.bvhTouchesSpec) :=
  OpenClaim.holds_of_wide 6 Try.f6 rfl rfl rfl rfl rfl rfl rfl ⟨rfl, rfl, rfl, rfl, rfl⟩ rfl rfl rfl rfl rfl (by kernel_rfl) Try.func6 (by kernel_rfl)
    (of_decide_eq_true (by kernel_rfl)) (by unfold Func.isWrapper; first | (rw [if_pos (by decide +kernel)]; kernel_rfl) | (rw [if_neg (by decide +kernel)]; exact ⟨rfl, rfl⟩))
    (fun os started H enc _ => lifted os started H enc)

theorem proved : Rows.BvhTouchesSaid :=
  over
#print axioms proved
end Go.Proofs.Ythadlpkdfnonjaa.bvhTouches
