/- BvhOne holds for every input: the row, out of the walk. No condition. -/
import Derived.SizedLaws
import Derived.Test.YthadlpkdfnonjaaRows
import Derived.Test.YthadlpkdfnonjaaC7
import Derived.Test.YthadlpkdfnonjaaC8
import Derived.Test.YthadlpkdfnonjaaC14
namespace Go.Proofs.Ythadlpkdfnonjaa.bvhOne
open Go.ChangeShapes Go.WideShapes Go.ChangeAt Go.RowKit
set_option linter.unusedVariables false
set_option linter.unusedSimpArgs false
/-- How many of the first k boxes the ray is in. -/
def cntQ (B : Nat → Bx) (o d : P3) (k : Nat) : Nat := ((List.range k).filter fun i => rayQ o d (B i)).length
theorem cntQ_le (B : Nat → Bx) (o d : P3) (k : Nat) : cntQ B o d k ≤ k := by
  have h := List.length_filter_le (fun i => rayQ o d (B i)) (List.range k)
  rw [List.length_range] at h
  exact h
theorem rg_k {o d : P3} {b : Bx} (hl : lnB o d = true) (hb : okBx b = true) : (rgV o d b.lo b.hi).k = rayQ o d b := by
  have hrb : rbB o d b.lo b.hi = true := by
    unfold okBx okP at hb
    unfold rbB corn
    rw [hl]
    simpa using hb
  unfold rayQ
  rcases rg_cases o d b.lo b.hi with ⟨h, _⟩ | ⟨_, h, e⟩ | ⟨r, _, h, e⟩
  · rw [h] at hrb; cases hrb
  · rw [e, h]; rfl
  · rw [e, h]; rfl
theorem cntQ_step {B : Nat → Bx} {o d : P3} {k : Nat} (hl : lnB o d = true) (hb : okBx (B k) = true) : cntQ B o d (k + 1) = cntQ B o d k + if (rgV o d (B k).lo (B k).hi).k then 1 else 0 := by
  rw [rg_k hl hb]
  unfold cntQ
  rw [List.range_succ, List.filter_append, List.length_append]
  cases h : rayQ o d (B k) <;> simp [h]
theorem touch_cnt {B : Nat → Bx} {n : Nat} (h0 : 0 < n) (hn : n ≤ 300) (o d : P3) : ((bvT B 1 n).touch B (rayQ o d)).length = cntQ B o d n := by
  obtain ⟨h1, h2, _⟩ := bvT_ok B (leaf := 1) (by omega) h0 hn
  rw [show (bvT B 1 n).touch B (rayQ o d) = _ from touch_one (q := rayQ o d) (inR_mon o d) h1]
  exact (h2.filter _).length_eq
set_option maxRecDepth 100000 in
set_option maxHeartbeats 8000000 in
theorem walk (W : World) (A : Option Addr) (n c : Nat) (B : Nat → Bx) (hA : SL A n c ∧ BxR W A n B) (o : P3) (ko : In3 o) (d : P3) (kd : In3 d) : Calls Try.prog 7 #[.slice A n c, .agg #[.int .i64 o.x, .int .i64 o.y, .int .i64 o.z], .agg #[.int .i64 d.x, .int .i64 d.y, .int .i64 d.z]] W fun e w' => e = .returned (.bool true) ∧ Below W.heap.size W w' := by
  have al := alive16_any
  obtain ⟨hS, hB⟩ := hA
  have hnl := hS.1
  have hcl := hS.2.1
  clear ko kd
  by_cases h300 : 300 < n
  · have hq : (n : Int) > 300 := by omega
    have hn2 : (n : Int) ≤ 9223372036854775807 := by unfold maxLen at hcl; omega
    go_enter Try.func7, Try.ntmps7
    go_wp2_with (first | (go_at_call 18; (with_reducible refine (al.at_ _).mono ?_); rintro e w' ⟨rfl, xg, rfl⟩) | fail)
    go_ret
    exact ⟨rfl, (by repeat (first | exact Below.refl _ _ | refine bel_then ?_ _ | refine bel_grow ?_ _ | refine bel_alloc ?_ _ | refine bel_drew ?_ | refine bel_set ?_ (by simp) _ | refine bel_setRow ?_ (by first | omega | (simp; done) | (refine Nat.le_trans ?_ (top_le _ _); simp; done) | (refine Nat.le_succ_of_le (Nat.le_trans ?_ (top_le _ _)); simp; done) | (refine Nat.le_trans ?_ (top_le _ _); simp only [World.size_alloc]; refine Nat.le_succ_of_le (Nat.le_trans ?_ (top_le _ _)); simp; done)) _))⟩
  have hq : ¬ (n : Int) > 300 := by omega
  have hn3 : n ≤ 300 := by omega
  obtain ⟨W1, hW1⟩ : ∃ W1, W1 = (W.alloc (.cells (#[.int .i64 o.x, .int .i64 o.y, .int .i64 o.z]) 23)).alloc (.cells (#[.int .i64 d.x, .int .i64 d.y, .int .i64 d.z]) 23) := ⟨_, rfl⟩
  have hb1 : Below W.heap.size W W1 := by rw [hW1]; exact bel_alloc (bel_alloc (Below.refl _ _) _) _
  have hO1 : Blk W1 W.heap.size 23 #[.int .i64 o.x, .int .i64 o.y, .int .i64 o.z] := by rw [hW1]; exact (Blk.new _ _ _ _ rfl).alloc _
  have hD1 : Blk W1 (W.heap.size + 1) 23 #[.int .i64 d.x, .int .i64 d.y, .int .i64 d.z] := by rw [hW1]; exact Blk.new _ _ _ _ (by simp)
  go_enter Try.func7, Try.ntmps7
  go_upto_region 1 with (fail)
  simp only [← hW1]
  clear hW1
  obtain ⟨bo, hbo⟩ : ∃ b, b = W.heap.size := ⟨_, rfl⟩
  rw [← hbo] at hO1 hD1
  simp only [← hbo]
  replace hbo := Lib.hid hbo
  go_upto_region 5 with (first | (go_at_call 18; (with_reducible refine (al.at_ _).mono ?_); rintro e w' ⟨rfl, xg, rfl⟩) | fail)
  have hbg : Below W1.heap.size W1 (grow W1 xg) := xg.kept W1
  have hB2 := hB.below (bel_trans hb1 hbg)
  have hO2 := hO1.below hbg
  have hD2 := hD1.below hbg
  have hb2 := bel_trans hb1 hbg
  clear hb1 hO1 hD1 hbg hB al
  generalize hWg : grow W1 xg = W2 at *
  clear hWg
  go_wp2
  go_loopw [7, 8] (fun iv _ wr => ∃ k : Nat, iv = .int .i64 (k : Int) ∧ k ≤ n ∧ Below W2.heap.size W2 wr) (fun iv _ _ => n - (intOf iv).toNat)
  case atStart => exact ⟨0, rfl, by omega, Below.refl _ _⟩
  case round =>
    obtain ⟨k, rfl, hk, hbr⟩ := hrel
    by_cases hkn : k < n
    · obtain ⟨ba, off, rfl, hbl, c0, c1, c2, c3, c4, c5⟩ := (hB2.below hbr).at_ k hkn
      have q0 : (0 : Int) ≤ (k : Int) := by omega
      have q1 : (k : Int) < (n : Int) := by omega
      have hZ : Blk (wr.alloc (.cells #[.int .i64 0, .int .i64 0, .int .i64 0, .int .i64 0, .int .i64 0, .int .i64 0] 43)) wr.heap.size 43 #[.int .i64 0, .int .i64 0, .int .i64 0, .int .i64 0, .int .i64 0, .int .i64 0] := Blk.new _ _ _ _ rfl
      have hbz : Below wr.heap.size wr (wr.alloc (.cells #[.int .i64 0, .int .i64 0, .int .i64 0, .int .i64 0, .int .i64 0, .int .i64 0] 43)) := bel_alloc (Below.refl _ _) _
      generalize B k = bk at *
      clear hO2 hD2 hB2
      go_upto_region 9 with (first | (refine putBxB rfl _ _ rfl wr.heap.size bk rfl rfl _ rfl hZ ?_; simp only [Act.put, List.setIfInBounds_toArray, List.set_cons_succ, List.set_cons_zero]) | fail)
      have hN := hZ.setRow #[.int .i64 bk.lo.x, .int .i64 bk.lo.y, .int .i64 bk.lo.z, .int .i64 bk.hi.x, .int .i64 bk.hi.y, .int .i64 bk.hi.z]
      have hbn := bel_trans hbr (bel_setRow hbz (Nat.le_refl _) #[.int .i64 bk.lo.x, .int .i64 bk.lo.y, .int .i64 bk.lo.z, .int .i64 bk.hi.x, .int .i64 bk.hi.y, .int .i64 bk.hi.z])
      clear hZ hbz hbl c0 c1 c2 c3 c4 c5
      generalize (wr.alloc (.cells #[.int .i64 0, .int .i64 0, .int .i64 0, .int .i64 0, .int .i64 0, .int .i64 0] 43)).setRow wr.heap.size #[.int .i64 bk.lo.x, .int .i64 bk.lo.y, .int .i64 bk.lo.z, .int .i64 bk.hi.x, .int .i64 bk.hi.y, .int .i64 bk.hi.z] = w1 at *
      generalize wr.heap.size = gb at *
      have e0 := hN.cell 0
      have e1 := hN.cell 1
      have e2 := hN.cell 2
      have e3 := hN.cell 3
      have e4 := hN.cell 4
      have e5 := hN.cell 5
      have el := hN.lt
      by_cases t1 : bk.lo.x > bk.hi.x
      · go_wp2
        go_ret
        exact ⟨rfl, bel_trans hb2 hbn⟩
      by_cases t2 : bk.lo.y > bk.hi.y
      · go_wp2
        go_ret
        exact ⟨rfl, bel_trans hb2 hbn⟩
      by_cases t3 : bk.lo.z > bk.hi.z
      · go_wp2
        go_ret
        exact ⟨rfl, bel_trans hb2 hbn⟩
      go_wp2
      go_roundw
      case rel => exact ⟨k + 1, by go_num, by omega, hbn⟩
      case measure => simp [intOf]; omega
    · obtain rfl : n = k := by omega
      have kB := build_any wr A n c B (hB2.below hbr) hn3 1 (by omega)
      have hB3 := hB2.below hbr
      have hO3 := hO2.below hbr
      have hD3 := hD2.below hbr
      have hb3 := bel_trans hb2 hbr
      clear hB2 hO2 hD2 hb2 hbr
      have he1 : (1 : Int).toNat = 1 := rfl
      by_cases he : bldE B n 1 = 0
      · obtain ⟨-, hok⟩ := bldE_iff.1 he
        by_cases hn0 : n = 0
        · subst hn0
          have kB' : Calls Try.prog 19 #[.slice A 0 c, .int .i64 1] wr fun e W' => Below wr.heap.size wr W' ∧ e = .returned (.tuple #[.agg #[.slice none 0 0, .slice none 0 0], .int .i64 0]) := kB.mono fun e W' ⟨h1, h2⟩ => ⟨h1, bld_zero h2 he⟩
          clear kB
          have kT := fun (Wq : World) => touched_none Wq none 0 none 0 0 o d
          unfold TrZ at kT
          clear hq
          go_upto_region 18 with (first | (go_at_call 19; (with_reducible refine kB'.mono ?_); rintro e W3 ⟨hb4, rfl⟩; have hO4 := (hO3.below hb4).alloc (.cells #[.slice none 0 0, .slice none 0 0] 56); have hD4 := (hD3.below hb4).alloc (.cells #[.slice none 0 0, .slice none 0 0] 56); have o0 := hO4.cell 0; have o1 := hO4.cell 1; have o2 := hO4.cell 2; have ol := hO4.lt; have d0 := hD4.cell 0; have d1 := hD4.cell 1; have d2 := hD4.cell 2; have dl := hD4.lt) | (go_at_call 22; (with_reducible refine (kT _).mono ?_); rintro e W4 ⟨rfl, hb5⟩) | fail)
          have hb7 := bel_trans (bel_alloc (bel_trans hb3 hb4) _) hb5
          clear hb3 hb4 hb5
          go_wp2
          go_loopw [12, 13, 14, 15, 16, 17] (fun nv iv _ _ _ _ wq => nv = .int .i64 (0 : Int) ∧ iv = .int .i64 (0 : Int) ∧ Below W.heap.size W wq) (fun _ _ _ _ _ _ _ => 0)
          case atStart => exact ⟨rfl, rfl, hb7⟩
          case round =>
            obtain ⟨rfl, rfl, hbr⟩ := hrel
            go_wp2
            go_ret
            exact ⟨rfl, hbr⟩
        · have hn0' : 0 < n := by omega
          have hl2 : 0 < (1 : Nat) := by omega
          have kB' : Calls Try.prog 19 #[.slice A n c, .int .i64 1] wr fun e W' => Below wr.heap.size wr W' ∧ ∃ A1 c1 A2 c2, e = .returned (.tuple #[.agg #[.slice A1 (bvT B 1 n).sz c1, .slice A2 n c2], .int .i64 0]) ∧ NdL W' A1 ((bvT B 1 n).lay B 0) ∧ IL W' A2 (zL (bvT B 1 n).its) ∧ n ≤ c2 := kB.mono fun e W' ⟨h1, h2⟩ => ⟨h1, bld_tree h2 he hn0'⟩
          clear kB
          go_upto_region 14 with (first | (go_at_call 19; (with_reducible refine kB'.mono ?_); rintro e W3 ⟨hb4, A1, c1, A2, c2, rfl, hN3, hI3, hc2⟩) | fail)
          have hba : Below W3.heap.size W3 (W3.alloc (.cells #[.slice A1 (bvT B 1 n).sz c1, .slice A2 n c2] 56)) := bel_alloc (Below.refl _ _) _
          have hT3 : Blk (W3.alloc (.cells #[.slice A1 (bvT B 1 n).sz c1, .slice A2 n c2] 56)) W3.heap.size 56 #[.slice A1 (bvT B 1 n).sz c1, .slice A2 n c2] := Blk.new _ _ _ _ rfl
          have hb5 := bel_trans hb4 hba
          have hN4 := hN3.below hba
          have hI4 := hI3.below hba
          have hO4 := hO3.below hb5
          have hD4 := hD3.below hb5
          have hB4 := hB3.below hb5
          have hb4' := bel_trans hb3 hb5
          clear hb4 hba hb5 hN3 hI3 hO3 hD3 hB3 hb3 kB'
          generalize W3.alloc (.cells #[.slice A1 (bvT B 1 n).sz c1, .slice A2 n c2] 56) = W4 at *
          generalize W3.heap.size = bt at *
          have kT := touchB_any W4 A1 c1 A2 c2 B hl2 hn0' hn3 hok hN4 hI4 hc2 o d
          have hTn := touch_cnt (B := B) hn0' hn3 o d
          obtain ⟨T, hT⟩ : ∃ T, T = (bvT B 1 n).touch B (rayQ o d) := ⟨_, rfl⟩
          rw [← hT] at kT hTn
          have t0 := hT3.cell 0
          have t1 := hT3.cell 1
          have tl := hT3.lt
          have o0 := hO4.cell 0
          have o1 := hO4.cell 1
          have o2 := hO4.cell 2
          have ol := hO4.lt
          have d0 := hD4.cell 0
          have d1 := hD4.cell 1
          have d2 := hD4.cell 2
          have dl := hD4.lt
          have hTn' := Lib.hid hTn
          clear hTn hT hN4 hI4
          cases hln : lnB o d
          · have kT' : Calls Try.prog 22 #[.agg #[.slice A1 (bvT B 1 n).sz c1, .slice A2 n c2], .agg #[.int .i64 o.x, .int .i64 o.y, .int .i64 o.z], .agg #[.int .i64 d.x, .int .i64 d.y, .int .i64 d.z]] W4 fun e W' => Below W4.heap.size W4 W' ∧ e = .returned (.tuple #[.slice none 0 0, .int .i64 21]) := kT.mono fun e W' ⟨h1, h2⟩ => ⟨h1, by
              rcases h2 with ⟨_, h3⟩ | ⟨h3, _⟩
              · exact h3
              · rw [hln] at h3; cases h3⟩
            clear kT
            generalize (bvT B 1 n).sz = sz at *
            go_wp2_with (first | (go_at_call 22; (with_reducible refine kT'.mono ?_); rintro e W5 ⟨hb5, rfl⟩) | fail)
            go_ret
            exact ⟨rfl, bel_trans hb4' hb5⟩
          · have kT' : Calls Try.prog 22 #[.agg #[.slice A1 (bvT B 1 n).sz c1, .slice A2 n c2], .agg #[.int .i64 o.x, .int .i64 o.y, .int .i64 o.z], .agg #[.int .i64 d.x, .int .i64 d.y, .int .i64 d.z]] W4 fun e W' => Below W4.heap.size W4 W' ∧ ∃ A5 c5, e = .returned (.tuple #[.slice A5 T.length c5, .int .i64 0]) ∧ IL W' A5 (zL T) := kT.mono fun e W' ⟨h1, h2⟩ => ⟨h1, by
              rcases h2 with ⟨h3, _⟩ | ⟨_, h3⟩
              · rw [hln] at h3; cases h3
              · exact h3⟩
            clear kT
            generalize (bvT B 1 n).sz = sz at *
            go_upto_region 18 with (first | (go_at_call 22; (with_reducible refine kT'.mono ?_); rintro e W5 ⟨hb5, A5, c5, rfl, hI5⟩) | fail)
            have hO5 := hO4.below hb5
            have hD5 := hD4.below hb5
            have hB5 := hB4.below hb5
            have hb5' := bel_trans hb4' hb5
            clear hb5 hb4' hO4 hD4 hB4 hT3 t0 t1 tl o0 o1 o2 ol d0 d1 d2 dl hI5
            generalize T.length = tn at *
            have hok' := Lib.hid ((allOk_iff B n).1 hok)
            clear hok
            go_wp2
            go_loopw [12, 13, 14, 15, 16, 17] (fun nv iv _ _ _ _ wq => ∃ k : Nat, iv = .int .i64 (k : Int) ∧ nv = .int .i64 (cntQ B o d k : Int) ∧ k ≤ n ∧ Below W5.heap.size W5 wq) (fun _ iv _ _ _ _ _ => n - (intOf iv).toNat)
            case atStart => exact ⟨0, rfl, rfl, by omega, Below.refl _ _⟩
            case round =>
              obtain ⟨k, rfl, rfl, hk, hbr⟩ := hrel
              have hcl := cntQ_le B o d k
              by_cases hkn : k < n
              · obtain ⟨ba, off, rfl, hbl, c0, c1, c2, c3, c4, c5⟩ := (hB5.below hbr).at_ k hkn
                have kR := slRange_any o d (B k).lo (B k).hi
                have hid : Hid (cntQ B o d (k + 1) = cntQ B o d k + if (rgV o d (B k).lo (B k).hi).k then 1 else 0) := Lib.hid (cntQ_step hln (hok'.out k hkn))
                have hOr := hO5.below hbr
                have hDr := hD5.below hbr
                have ox0 := hOr.cell 0
                have ox1 := hOr.cell 1
                have ox2 := hOr.cell 2
                have oxl := hOr.lt
                have dx0 := hDr.cell 0
                have dx1 := hDr.cell 1
                have dx2 := hDr.cell 2
                have dxl := hDr.lt
                have q0 : (0 : Int) ≤ (k : Int) := by omega
                have q1 : (k : Int) < (n : Int) := by omega
                generalize (rgV o d (B k).lo (B k).hi).a.n = r1n at *
                generalize (rgV o d (B k).lo (B k).hi).a.d = r1d at *
                generalize (rgV o d (B k).lo (B k).hi).b.n = r2n at *
                generalize (rgV o d (B k).lo (B k).hi).b.d = r2d at *
                generalize (rgV o d (B k).lo (B k).hi).k = rk at *
                generalize (rgV o d (B k).lo (B k).hi).e = re at *
                generalize hcn : cntQ B o d k = cn at *
                replace hcn := Lib.hid hcn
                obtain ⟨c2n, hc2n⟩ : ∃ x, x = cntQ B o d (k + 1) := ⟨_, rfl⟩
                rw [← hc2n] at hid
                replace hc2n := Lib.hid hc2n
                generalize B k = bk at *
                clear hO5 hD5 hB5 hOr hDr hok'
                go_upto_region 21 with fail
                refine wp_region_monoV 18 (RO [some (.agg #[.int .i64 o.x, .int .i64 o.y, .int .i64 o.z]), some (.agg #[.int .i64 d.x, .int .i64 d.y, .int .i64 d.z]), some (.slice (some ⟨ba, off, none⟩) n c), some (.int .i64 (k : Int)), some (.pointer (some ⟨ba, off + k * 6, none⟩)), some (.agg #[.int .i64 bk.lo.x, .int .i64 bk.lo.y, .int .i64 bk.lo.z, .int .i64 bk.hi.x, .int .i64 bk.hi.y, .int .i64 bk.hi.z]), some (.tuple #[.agg #[.int .i64 r1n, .int .i64 r1d], .agg #[.int .i64 r2n, .int .i64 r2d], .bool rk, .int .i64 re]), some (.tuple #[.agg #[.int .i64 r1n, .int .i64 r1d], .agg #[.int .i64 r2n, .int .i64 r2d], .bool rk, .int .i64 re]), some (.agg #[.int .i64 r1n, .int .i64 r1d]), some (.agg #[.int .i64 r2n, .int .i64 r2d]), some (.bool rk), some (.int .i64 re), none, none, none, none, some (.bool rk), some (.int .i64 re)]) (JV wr [⟨12, 14, 14, 70, #[.int .i64 0, .int .i64 0], #[.int .i64 r1n, .int .i64 r1d]⟩, ⟨13, 15, 15, 70, #[.int .i64 0, .int .i64 0], #[.int .i64 r2n, .int .i64 r2d]⟩]) (by kernel_rfl) _ rfl (by kernel_rfl) (by kernel_rfl) (by kernel_rfl) (by kernel_rfl) (by kernel_rfl) (jv_start (by intro m hm; simp only [List.mem_cons, List.not_mem_nil, or_false] at hm; rcases hm with rfl | rfl <;> exact ⟨(by first | (dsimp only; decide) | (dsimp only; omega) | simp), (by first | (dsimp only; decide) | (dsimp only; omega) | simp)⟩)) ?_ ?_
                · simp only [List.take_succ_cons, List.take_zero]
                  refine ⟨?_, ?_, ?_, ?_, ?_, ?_, ?_, ?_, ?_, ?_, ?_, ?_, ?_, ?_, ?_, ?_, ?_, ?_, ?_⟩
                  · refine jv_val rfl (by intro m hm; simp only [List.mem_cons, List.not_mem_nil, or_false] at hm; rcases hm with rfl | rfl <;> exact ⟨(by first | (dsimp only; decide) | (dsimp only; omega) | simp), (by first | (dsimp only; decide) | (dsimp only; omega) | simp), (by first | (dsimp only; decide) | (dsimp only; omega) | simp)⟩) (fun a u hB hk hp => ?_)
                    have es4 := (hk 4 (keep_of (by kernel_rfl))).trans (show _ = some (.pointer (some ⟨bo, 0, none⟩)) from rfl)
                    exact ⟨_, bldm_run _ _ _ 23 _ rfl (bo) 0 (eval_tmp es4) _ _ (brng3 ((hB.cell (p := ⟨bo, 0, none⟩) oxl).trans ox0) ((hB.cell (p := ⟨bo, 0 + 1, none⟩) oxl).trans ox1) ((hB.cell (p := ⟨bo, 0 + 2, none⟩) oxl).trans ox2)) Try.underlying23 rfl infoV3B, rfl⟩
                  · refine jv_val rfl (by intro m hm; simp only [List.mem_cons, List.not_mem_nil, or_false] at hm; rcases hm with rfl | rfl <;> exact ⟨(by first | (dsimp only; decide) | (dsimp only; omega) | simp), (by first | (dsimp only; decide) | (dsimp only; omega) | simp), (by first | (dsimp only; decide) | (dsimp only; omega) | simp)⟩) (fun a u hB hk hp => ?_)
                    have es5 := (hk 5 (keep_of (by kernel_rfl))).trans (show _ = some (.pointer (some ⟨bo + 1, 0, none⟩)) from rfl)
                    exact ⟨_, bldm_run _ _ _ 23 _ rfl (bo + 1) 0 (eval_tmp es5) _ _ (brng3 ((hB.cell (p := ⟨bo + 1, 0, none⟩) dxl).trans dx0) ((hB.cell (p := ⟨bo + 1, 0 + 1, none⟩) dxl).trans dx1) ((hB.cell (p := ⟨bo + 1, 0 + 2, none⟩) dxl).trans dx2)) Try.underlying23 rfl infoV3B, rfl⟩
                  · refine jv_val rfl (by intro m hm; simp only [List.mem_cons, List.not_mem_nil, or_false] at hm; rcases hm with rfl | rfl <;> exact ⟨(by first | (dsimp only; decide) | (dsimp only; omega) | simp), (by first | (dsimp only; decide) | (dsimp only; omega) | simp), (by first | (dsimp only; decide) | (dsimp only; omega) | simp)⟩) (fun a u hB hk hp => ?_)
                    have es0 := (hk 0 (keep_of (by kernel_rfl))).trans (show _ = some (.slice (some ⟨ba, off, none⟩) n c) from rfl)
                    exact ⟨_, by simp [execOp, go_sem, es0], rfl⟩
                  · refine jv_val rfl (by intro m hm; simp only [List.mem_cons, List.not_mem_nil, or_false] at hm; rcases hm with rfl | rfl <;> exact ⟨(by first | (dsimp only; decide) | (dsimp only; omega) | simp), (by first | (dsimp only; decide) | (dsimp only; omega) | simp), (by first | (dsimp only; decide) | (dsimp only; omega) | simp)⟩) (fun a u hB hk hp => ?_)
                    have es13 := (hk 13 (keep_of (by kernel_rfl))).trans (show _ = some (.int .i64 (k : Int)) from rfl)
                    exact ⟨_, by simp [execOp, go_sem, es13], rfl⟩
                  · refine jv_val rfl (by intro m hm; simp only [List.mem_cons, List.not_mem_nil, or_false] at hm; rcases hm with rfl | rfl <;> exact ⟨(by first | (dsimp only; decide) | (dsimp only; omega) | simp), (by first | (dsimp only; decide) | (dsimp only; omega) | simp), (by first | (dsimp only; decide) | (dsimp only; omega) | simp)⟩) (fun a u hB hk hp => ?_)
                    obtain ⟨x2, ex2, rx2⟩ := hp ⟨2, .data⟩ (by simp) rfl _ _ rfl rfl
                    obtain rfl : x2 = _ := rx2
                    obtain ⟨x3, ex3, rx3⟩ := hp ⟨3, .data⟩ (by simp) rfl _ _ rfl rfl
                    obtain rfl : x3 = _ := rx3
                    have fc0 := q0
                    have fc1 := q1
                    exact ⟨_, by simp [execOp, go_sem, ex2, ex3, fc0, fc1], rfl⟩
                  · refine jv_val rfl (by intro m hm; simp only [List.mem_cons, List.not_mem_nil, or_false] at hm; rcases hm with rfl | rfl <;> exact ⟨(by first | (dsimp only; decide) | (dsimp only; omega) | simp), (by first | (dsimp only; decide) | (dsimp only; omega) | simp), (by first | (dsimp only; decide) | (dsimp only; omega) | simp)⟩) (fun a u hB hk hp => ?_)
                    obtain ⟨x4, ex4, rx4⟩ := hp ⟨4, .data⟩ (by simp) rfl _ _ rfl rfl
                    obtain rfl : x4 = _ := rx4
                    exact ⟨_, bldm_run _ _ _ 43 _ rfl ba (off + k * 6) (eval_tmp ex4) _ _ (brng6 ((hB.cell (p := ⟨ba, off + k * 6, none⟩) hbl).trans c0) ((hB.cell (p := ⟨ba, off + k * 6 + 1, none⟩) hbl).trans c1) ((hB.cell (p := ⟨ba, off + k * 6 + 2, none⟩) hbl).trans c2) ((hB.cell (p := ⟨ba, off + k * 6 + 3, none⟩) hbl).trans c3) ((hB.cell (p := ⟨ba, off + k * 6 + 4, none⟩) hbl).trans c4) ((hB.cell (p := ⟨ba, off + k * 6 + 5, none⟩) hbl).trans c5)) Try.underlying43 rfl infoBx6, rfl⟩
                  · refine jv_call rfl (by intro m hm; simp only [List.mem_cons, List.not_mem_nil, or_false] at hm; rcases hm with rfl | rfl <;> exact ⟨(by first | (dsimp only; decide) | (dsimp only; omega) | simp), (by first | (dsimp only; decide) | (dsimp only; omega) | simp), (by first | (dsimp only; decide) | (dsimp only; omega) | simp)⟩) (fun a u hB hk hp => ?_)
                    obtain ⟨x0, ex0, rx0⟩ := hp ⟨0, .data⟩ (by simp) rfl _ _ rfl rfl
                    obtain rfl : x0 = _ := rx0
                    obtain ⟨x1, ex1, rx1⟩ := hp ⟨1, .data⟩ (by simp) rfl _ _ rfl rfl
                    obtain rfl : x1 = _ := rx1
                    obtain ⟨x5, ex5, rx5⟩ := hp ⟨5, .data⟩ (by simp) rfl _ _ rfl rfl
                    obtain rfl : x5 = _ := rx5
                    exact ⟨26, #[.agg #[.int .i64 o.x, .int .i64 o.y, .int .i64 o.z], .agg #[.int .i64 d.x, .int .i64 d.y, .int .i64 d.z], .agg #[.int .i64 bk.lo.x, .int .i64 bk.lo.y, .int .i64 bk.lo.z, .int .i64 bk.hi.x, .int .i64 bk.hi.y, .int .i64 bk.hi.z]], _, by simp [execOp, go_sem, ex0, ex1, ex5], kR.bel u, rfl⟩
                  · refine jv_val rfl (by intro m hm; simp only [List.mem_cons, List.not_mem_nil, or_false] at hm; rcases hm with rfl | rfl <;> exact ⟨(by first | (dsimp only; decide) | (dsimp only; omega) | simp), (by first | (dsimp only; decide) | (dsimp only; omega) | simp), (by first | (dsimp only; decide) | (dsimp only; omega) | simp)⟩) (fun a u hB hk hp => ?_)
                    obtain ⟨x6, ex6, rx6⟩ := hp ⟨6, .data⟩ (by simp) rfl _ _ rfl rfl
                    obtain rfl : x6 = _ := rx6
                    exact ⟨_, by simp [execOp, go_sem, ex6], rfl⟩
                  · refine jv_val rfl (by intro m hm; simp only [List.mem_cons, List.not_mem_nil, or_false] at hm; rcases hm with rfl | rfl <;> exact ⟨(by first | (dsimp only; decide) | (dsimp only; omega) | simp), (by first | (dsimp only; decide) | (dsimp only; omega) | simp), (by first | (dsimp only; decide) | (dsimp only; omega) | simp)⟩) (fun a u hB hk hp => ?_)
                    obtain ⟨x7, ex7, rx7⟩ := hp ⟨7, .data⟩ (by simp) rfl _ _ rfl rfl
                    obtain rfl : x7 = _ := rx7
                    exact ⟨_, by simp [execOp, go_sem, ex7], rfl⟩
                  · refine jv_val rfl (by intro m hm; simp only [List.mem_cons, List.not_mem_nil, or_false] at hm; rcases hm with rfl | rfl <;> exact ⟨(by first | (dsimp only; decide) | (dsimp only; omega) | simp), (by first | (dsimp only; decide) | (dsimp only; omega) | simp), (by first | (dsimp only; decide) | (dsimp only; omega) | simp)⟩) (fun a u hB hk hp => ?_)
                    obtain ⟨x7, ex7, rx7⟩ := hp ⟨7, .data⟩ (by simp) rfl _ _ rfl rfl
                    obtain rfl : x7 = _ := rx7
                    exact ⟨_, by simp [execOp, go_sem, ex7], rfl⟩
                  · refine jv_val rfl (by intro m hm; simp only [List.mem_cons, List.not_mem_nil, or_false] at hm; rcases hm with rfl | rfl <;> exact ⟨(by first | (dsimp only; decide) | (dsimp only; omega) | simp), (by first | (dsimp only; decide) | (dsimp only; omega) | simp), (by first | (dsimp only; decide) | (dsimp only; omega) | simp)⟩) (fun a u hB hk hp => ?_)
                    obtain ⟨x7, ex7, rx7⟩ := hp ⟨7, .data⟩ (by simp) rfl _ _ rfl rfl
                    obtain rfl : x7 = _ := rx7
                    exact ⟨_, by simp [execOp, go_sem, ex7], rfl⟩
                  · refine jv_val rfl (by intro m hm; simp only [List.mem_cons, List.not_mem_nil, or_false] at hm; rcases hm with rfl | rfl <;> exact ⟨(by first | (dsimp only; decide) | (dsimp only; omega) | simp), (by first | (dsimp only; decide) | (dsimp only; omega) | simp), (by first | (dsimp only; decide) | (dsimp only; omega) | simp)⟩) (fun a u hB hk hp => ?_)
                    obtain ⟨x7, ex7, rx7⟩ := hp ⟨7, .data⟩ (by simp) rfl _ _ rfl rfl
                    obtain rfl : x7 = _ := rx7
                    exact ⟨_, by simp [execOp, go_sem, ex7], rfl⟩
                  · exact jv_alloc (m := ⟨12, 14, 14, 70, #[.int .i64 0, .int .i64 0], #[.int .i64 r1n, .int .i64 r1d]⟩) rfl (by simp) rfl rfl (of_decide_eq_true (by kernel_rfl)) (by intro m' hm' hn; simp only [List.mem_cons, List.not_mem_nil, or_false] at hm'; rcases hm' with rfl | rfl <;> first | exact absurd rfl hn | exact ⟨(by first | (dsimp only; decide) | (dsimp only; omega) | simp), (by first | (dsimp only; decide) | (dsimp only; omega) | simp), (by first | (dsimp only; decide) | (dsimp only; omega) | simp)⟩) (by first | (dsimp only; decide) | (dsimp only; omega) | simp) (by intro m' hm' e; simp only [List.mem_cons, List.not_mem_nil, or_false] at hm'; rcases hm' with rfl | rfl <;> first | rfl | exact absurd e (by first | (dsimp only; decide) | (dsimp only; omega) | simp)) (fun a u => alloc_FrB _ _ rfl u) (fun v => trivial)
                  · exact jv_alloc (m := ⟨13, 15, 15, 70, #[.int .i64 0, .int .i64 0], #[.int .i64 r2n, .int .i64 r2d]⟩) rfl (by simp) rfl rfl (of_decide_eq_true (by kernel_rfl)) (by intro m' hm' hn; simp only [List.mem_cons, List.not_mem_nil, or_false] at hm'; rcases hm' with rfl | rfl <;> first | exact absurd rfl hn | exact ⟨(by first | (dsimp only; decide) | (dsimp only; omega) | simp), (by first | (dsimp only; decide) | (dsimp only; omega) | simp), (by first | (dsimp only; decide) | (dsimp only; omega) | simp)⟩) (by first | (dsimp only; decide) | (dsimp only; omega) | simp) (by intro m' hm' e; simp only [List.mem_cons, List.not_mem_nil, or_false] at hm'; rcases hm' with rfl | rfl <;> first | rfl | exact absurd e (by first | (dsimp only; decide) | (dsimp only; omega) | simp)) (fun a u => alloc_FrB _ _ rfl u) (fun v => trivial)
                  · refine jv_store (m := ⟨12, 14, 14, 70, #[.int .i64 0, .int .i64 0], #[.int .i64 r1n, .int .i64 r1d]⟩) rfl rfl (by simp) (by first | (dsimp only; decide) | (dsimp only; omega) | simp) (by intro m' hm' hn; simp only [List.mem_cons, List.not_mem_nil, or_false] at hm'; rcases hm' with rfl | rfl <;> first | exact absurd rfl hn | exact ⟨(by first | (dsimp only; decide) | (dsimp only; omega) | simp), (by first | (dsimp only; decide) | (dsimp only; omega) | simp), (by first | (dsimp only; decide) | (dsimp only; omega) | simp)⟩) ⟨12, .data⟩ (by simp) rfl rfl (fun a u b hB hsb hZ hk hp => ?_)
                    obtain ⟨x8, ex8, rx8⟩ := hp ⟨8, .data⟩ (by simp) rfl _ _ rfl rfl
                    obtain rfl : x8 = _ := rx8
                    exact wp_store_row 70 _ _ rfl b _ (eval_tmp hsb) (eval_tmp ex8) 70 _ hZ infoFrB rfl (by simp [Value.oneCell']) ⟨_, rfl, rfl⟩
                  · refine jv_store (m := ⟨13, 15, 15, 70, #[.int .i64 0, .int .i64 0], #[.int .i64 r2n, .int .i64 r2d]⟩) rfl rfl (by simp) (by first | (dsimp only; decide) | (dsimp only; omega) | simp) (by intro m' hm' hn; simp only [List.mem_cons, List.not_mem_nil, or_false] at hm'; rcases hm' with rfl | rfl <;> first | exact absurd rfl hn | exact ⟨(by first | (dsimp only; decide) | (dsimp only; omega) | simp), (by first | (dsimp only; decide) | (dsimp only; omega) | simp), (by first | (dsimp only; decide) | (dsimp only; omega) | simp)⟩) ⟨13, .data⟩ (by simp) rfl rfl (fun a u b hB hsb hZ hk hp => ?_)
                    obtain ⟨x9, ex9, rx9⟩ := hp ⟨9, .data⟩ (by simp) rfl _ _ rfl rfl
                    obtain rfl : x9 = _ := rx9
                    exact wp_store_row 70 _ _ rfl b _ (eval_tmp hsb) (eval_tmp ex9) 70 _ hZ infoFrB rfl (by simp [Value.oneCell']) ⟨_, rfl, rfl⟩
                  · refine jv_val rfl (by intro m hm; simp only [List.mem_cons, List.not_mem_nil, or_false] at hm; rcases hm with rfl | rfl <;> exact ⟨(by first | (dsimp only; decide) | (dsimp only; omega) | simp), (by first | (dsimp only; decide) | (dsimp only; omega) | simp), (by first | (dsimp only; decide) | (dsimp only; omega) | simp)⟩) (fun a u hB hk hp => ?_)
                    obtain ⟨x10, ex10, rx10⟩ := hp ⟨10, .data⟩ (by simp) rfl _ _ rfl rfl
                    obtain rfl : x10 = _ := rx10
                    exact ⟨_, by simp [execOp, go_sem, ex10], rfl⟩
                  · refine jv_val rfl (by intro m hm; simp only [List.mem_cons, List.not_mem_nil, or_false] at hm; rcases hm with rfl | rfl <;> exact ⟨(by first | (dsimp only; decide) | (dsimp only; omega) | simp), (by first | (dsimp only; decide) | (dsimp only; omega) | simp), (by first | (dsimp only; decide) | (dsimp only; omega) | simp)⟩) (fun a u hB hk hp => ?_)
                    obtain ⟨x11, ex11, rx11⟩ := hp ⟨11, .data⟩ (by simp) rfl _ _ rfl rfl
                    obtain rfl : x11 = _ := rx11
                    exact ⟨_, by simp [execOp, go_sem, ex11], rfl⟩
                  · trivial
                · intro a W6 listed hJ hall hsz hdf hk hgot
                  obtain ⟨hB, hM, hD⟩ := jv_end hJ (by intro m hm; simp only [List.mem_cons, List.not_mem_nil, or_false] at hm; rcases hm with rfl | rfl <;> exact ⟨(by first | (dsimp only; decide) | (dsimp only; omega) | simp), (by first | (dsimp only; decide) | (dsimp only; omega) | simp)⟩) hall
                  obtain ⟨f1b, ev14, hf1b0, hf1b1⟩ := hM ⟨12, 14, 14, 70, #[.int .i64 0, .int .i64 0], #[.int .i64 r1n, .int .i64 r1d]⟩ (by simp)
                  obtain ⟨f2b, ev15, hf2b0, hf2b1⟩ := hM ⟨13, 15, 15, 70, #[.int .i64 0, .int .i64 0], #[.int .i64 r2n, .int .i64 r2d]⟩ (by simp)
                  have nf1bf2b : f1b ≠ f2b := fun e => hD ⟨12, 14, 14, 70, #[.int .i64 0, .int .i64 0], #[.int .i64 r1n, .int .i64 r1d]⟩ (by simp) ⟨13, 15, 15, 70, #[.int .i64 0, .int .i64 0], #[.int .i64 r2n, .int .i64 r2d]⟩ (by simp) (by first | (dsimp only; decide) | (dsimp only; omega) | simp) (by show a.tmps[14]? = a.tmps[15]?; rw [ev14, ev15, e])
                  replace ev14 : a.tmps[14]? = _ := ev14
                  replace ev15 : a.tmps[15]? = _ := ev15
                  clear hJ hall hM hD
                  obtain ⟨gv16, ev16, rv16⟩ := hgot 16 _ 16 rfl rfl
                  obtain rfl : gv16 = _ := rv16
                  obtain ⟨gv17, ev17, rv17⟩ := hgot 17 _ 17 rfl rfl
                  obtain rfl : gv17 = _ := rv17
                  obtain ⟨f, hf, rfl⟩ := frame_eq hsz hdf hk [81, 82, 83, 84, 85, 86, 87, 80, 88, 89, 90, 91, 14, 15, 16, 17] (by rfl)
                  have f14 := hf 14 _ ev14
                  have f15 := hf 15 _ ev15
                  have f16 := hf 16 _ ev16
                  have f17 := hf 17 _ ev17
                  clear hsz hdf hk hgot hf ev14 ev15 ev16 ev17
                  simp only [List.drop_succ_cons, List.drop_zero, setAll, List.setIfInBounds_toArray, List.set_cons_succ, List.set_cons_zero, f14, f15, f16, f17]
                  clear f14 f15 f16 f17
                  generalize f 81 = uu81; generalize f 82 = uu82; generalize f 83 = uu83; generalize f 84 = uu84; generalize f 85 = uu85; generalize f 86 = uu86; generalize f 87 = uu87; generalize f 80 = uu80; generalize f 88 = uu88; generalize f 89 = uu89; generalize f 90 = uu90; generalize f 91 = uu91
                  have hbr2 := bel_trans hbr hB
                  clear ox0 ox1 ox2 oxl dx0 dx1 dx2 dxl c0 c1 c2 c3 c4 c5 hbl kR hbr hB
                  cases rk
                  · have he2 : c2n = cn := by have := hid.out; simpa using this
                    go_wp2
                    go_roundw
                    case rel => exact ⟨k + 1, by go_num, by rw [← hc2n.out, he2], by omega, hbr2⟩
                    case measure => simp [intOf]; omega
                  · have he2 : c2n = cn + 1 := by have := hid.out; simpa using this
                    go_wp2
                    go_roundw
                    case rel => exact ⟨k + 1, by go_num, by rw [← hc2n.out, he2]; go_num, by omega, hbr2⟩
                    case measure => simp [intOf]; omega
              · obtain rfl : n = k := by omega
                have he3 : cntQ B o d n = tn := hTn'.out.symm
                rw [he3]
                go_wp2
                go_ret
                exact ⟨rfl, bel_trans hb5' hbr⟩
      · have kB' : Calls Try.prog 19 #[.slice A n c, .int .i64 1] wr fun e W' => Below wr.heap.size wr W' ∧ e = .returned (.tuple #[.agg #[.slice none 0 0, .slice none 0 0], .int .i64 (bldE B n 1)]) := kB.mono fun e W' ⟨h1, h2⟩ => ⟨h1, bld_err h2 he⟩
        clear kB
        have hne : (bldE B n 1 != 0) = true := by simpa using he
        go_wp2_with (first | (go_at_call 19; (with_reducible refine kB'.mono ?_); rintro e W3 ⟨hb4, rfl⟩) | fail)
        go_ret
        exact ⟨rfl, bel_alloc (bel_trans hb3 hb4) _⟩

theorem own : ownKnob Try.prog.godebug = none := by kernel_rfl
set_option maxRecDepth 100000 in
theorem lifted (os : Os) (started : os.Started) (H : Type) (enc : TypeId × Value → H) :
    ReturnsInHanded {} Try.checked os 7 .any (Rows.bvhOneSpec.pre6 enc Try.prog Try.f7 Rows.bvhOneRow.domain false) (Rows.bvhOneSpec.post enc Try.prog Try.f7 false true false false) := by
  refine returnsInHanded_of_change_sized (C := Try.checked) own started (by kernel_rfl) Try.func7
    (ChangeSpec.witness6 (enc := enc) (C := Try.checked) false ⟨#[], #[.slice none 0 0, .agg #[.int .i64 0, .int .i64 0, .int .i64 0], .agg #[.int .i64 0, .int .i64 0, .int .i64 0]], []⟩ 12 (by kernel_rfl) (by kernel_rfl) (by kernel_rfl) (by kernel_rfl)) ?_
  intro W base args ds gs before hval0 hW hcnd hwt _
  have hval : ∀ (j : Nat) t v, Try.f7.params[j]? = some t → args[j]? = some v → Value.okWide Try.prog W .any base t v := hval0
  have hW' := hW
  obtain ⟨p, q, hA0, hV, rfl, hfz, hnd⟩ := hW
  have hA : DataW.TrodAll enc Try.prog W 0 (fun _ => true) true Try.f7.params.toList args.toList ds p := hA0
  rw [Try.params7] at hA hval
  obtain ⟨v0, vs0, d0, ds0, p0, q0, hargs, rfl, rfl, h0, r0⟩ := trodAll_cons hA
  obtain ⟨v1, vs1, d1, ds1, p1, q1, rfl, rfl, rfl, h1, r1⟩ := trodAll_cons r0
  obtain ⟨v2, vs2, d2, ds2, p2, q2, rfl, rfl, rfl, h2, r2⟩ := trodAll_cons r1
  obtain ⟨rfl, rfl, rfl⟩ := trodAll_nil r2
  obtain rfl : args = #[v0, v1, v2] := by cases args; simp_all
  obtain ⟨A0, n0, c0, B0, rfl, b0⟩ := open_Boxs (hval 0 52 v0 rfl rfl) h0
  obtain ⟨a1, rfl, k1⟩ := open_V3 (hval 1 23 v1 rfl rfl) h1
  obtain ⟨a2, rfl, k2⟩ := open_V3 (hval 2 23 v2 rfl rfl) h2
  refine (walk W A0 n0 c0 B0 b0 a1 k1 a2 k2).mono fun e W' ⟨he, hb⟩ => ?_
  subst he
  exact ⟨_, rfl, law_post (tb := 4) (by kernel_rfl) (by kernel_rfl) rfl rfl Try.underlying4 rfl rfl rfl hW' hb⟩

theorem over : Rows.bvhOneRow.holds Try.pinned (OpenSpec.ofChange Rows.bvhOneSpec) :=
  OpenClaim.holds_of_wide 7 Try.f7 rfl rfl rfl rfl rfl rfl rfl ⟨rfl, rfl, rfl, rfl, rfl⟩ rfl rfl rfl rfl rfl (by kernel_rfl) Try.func7 (by kernel_rfl)
    (of_decide_eq_true (by kernel_rfl)) (by unfold Func.isWrapper; first | (rw [if_pos (by decide +kernel)]; kernel_rfl) | (rw [if_neg (by decide +kernel)]; exact ⟨rfl, rfl⟩))
    (fun os started H enc _ => lifted os started H enc)

theorem proved : Rows.BvhOneSaid :=
  over
#print axioms proved
end Go.Proofs.Ythadlpkdfnonjaa.bvhOne
