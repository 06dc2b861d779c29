/- The document's Build. -/
import Derived.Test.YtbehobojgeganaaTopK
namespace Go.Proofs.Ytbehobojgeganaa
open Go.RowKit
set_option linter.unusedVariables false
set_option linter.unusedSimpArgs false
set_option linter.unnecessarySimpa false
set_option maxRecDepth 100000

set_option maxHeartbeats 8000000 in
theorem dbuild_any (W : World) (V : Int) (k : Nat) (fs : List (List Int)) (A : Option Addr) (hA : FL W A fs) (hlen : (waysL 0 fs).length < 1099511627776) (hfl : fs.length < 1099511627776) (hxl : ∀ x ∈ fs, x.length < 1099511627776) (hVl : V < 1099511627776) :
    Calls Try.prog 18 #[.int .i64 V, .slice A fs.length k] W fun e W' => Below W.heap.size W W' ∧ ((¬ Surf V fs ∧ e = .returned (.tuple #[.agg #[.slice none 0 0, .slice none 0 0, .slice none 0 0], .int .i64 14])) ∨ (Surf V fs ∧ ∃ t A1 A2 A3 c1 c2 c3, TopoS V fs t ∧ TopoV W' A1 A2 A3 t ∧ e = .returned (.tuple #[.agg #[.slice A1 t.es.length c1, .slice A2 t.fans.length c2, .slice A3 t.rs.length c3], .int .i64 0]))) := by
  have cG := fun (W1 : World) (hb : Below W.heap.size W W1) => good_any W1 A k fs V (hA.below hb) (by omega) (fun x h => by have := hxl x h; omega)
  have hb0 : Below W.heap.size W (W.alloc (.cells #[.slice none 0 0, .slice none 0 0, .slice none 0 0] 29)) := bel_alloc (Below.refl _ _) _
  have hR0 : Blk (W.alloc (.cells #[.slice none 0 0, .slice none 0 0, .slice none 0 0] 29)) W.heap.size 29 #[.slice none 0 0, .slice none 0 0, .slice none 0 0] := Blk.new _ _ _ _ rfl
  go_enter Try.func18, Try.ntmps18
  go_upto_region 1 with (fail)
  generalize W.alloc (.cells #[.slice none 0 0, .slice none 0 0, .slice none 0 0] 29) = W0 at *
  by_cases hV0 : V < 0
  · have hno := Lib.hid (show ¬ Surf V fs from fun h => by have := h.1.pos; omega)
    have xx0 : W0.cell? ⟨W.heap.size, 0, none⟩ = some (.slice none 0 0) := hR0.cell 0
    have xx1 : W0.cell? ⟨W.heap.size, 1, none⟩ = some (.slice none 0 0) := hR0.cell 1
    have xx2 : W0.cell? ⟨W.heap.size, 2, none⟩ = some (.slice none 0 0) := hR0.cell 2
    have xxl := hR0.lt
    have ff0 := hR0.frozen 0
    have ff1 := hR0.frozen 1
    have ff2 := hR0.frozen 2
    have hE := ((hR0.set 0 (.slice none 0 0)).set 1 (.slice none 0 0)).set 2 (.slice none 0 0)
    have hbE := bel_set (bel_set (bel_set hb0 (p := ⟨W.heap.size, 0, none⟩) (Nat.le_refl _) (.slice none 0 0)) (p := ⟨W.heap.size, 1, none⟩) (Nat.le_refl _) (.slice none 0 0)) (p := ⟨W.heap.size, 2, none⟩) (Nat.le_refl _) (.slice none 0 0)
    replace hE := Lib.hid hE
    replace hbE := Lib.hid hbE
    go_wp2
    replace hE := hE.out
    replace hbE := hbE.out
    generalize ((W0.setCell ⟨W.heap.size, 0, none⟩ (.slice none 0 0)).setCell ⟨W.heap.size, 1, none⟩ (.slice none 0 0)).setCell ⟨W.heap.size, 2, none⟩ (.slice none 0 0) = WE at *
    have y0 : WE.cell? ⟨W.heap.size, 0, none⟩ = some (.slice none 0 0) := hE.cell 0
    have y1 : WE.cell? ⟨W.heap.size, 1, none⟩ = some (.slice none 0 0) := hE.cell 1
    have y2 : WE.cell? ⟨W.heap.size, 2, none⟩ = some (.slice none 0 0) := hE.cell 2
    refine bodyPost_ret (v := .tuple #[.agg #[.slice none 0 0, .slice none 0 0, .slice none 0 0], .int .i64 14]) (by simp [results, Try.results18, go_sem, y0, y1, y2]) rfl ?_
    exact ⟨hbE, .inl ⟨hno.out, rfl⟩⟩
  · by_cases hG : GoodD V fs
    · have cG1 : Calls Try.prog 44 #[.int .i64 V, .slice A fs.length k] W0 fun e W' => e = .returned (.bool true) ∧ Below W0.heap.size W0 W' := (cG W0 hb0).mono fun e W' ⟨b, he, hb, hbel⟩ => ⟨by rw [he, hb.2 hG], hbel⟩
      have ok := good_g hG
      have hin := (good_parts hG).2.1
      have hpos := good_pos hG
      have cL := fun (W1 : World) (hb : Below W.heap.size W W1) (a b : Int) => along_any W1 A k fs a b (hA.below hb) (by omega) (fun x h => by have := hxl x h; omega)
      simp only [along_face ok.long ok.keyU] at cL
      have cF := fun (W1 : World) (hb : Below W.heap.size W W1) (v : Int) => dfan_any W1 A k fs v ok hpos (hA.below hb) (by omega) (fun x h => by have := hxl x h; omega) hlen
      obtain ⟨i0, hi0, hz0, hz1, hz2⟩ := info_parts infoE
      obtain ⟨N, rfl⟩ := Int.eq_ofNat_of_zero_le (Int.not_lt.mp hV0)
      have hdec : ((N : Int) < 0) = False := by simp
      go_upto_region 3 with (first | (go_at_call 44; (with_reducible refine cG1.mono ?_); rintro e W1 ⟨rfl, hb1⟩) | fail)
      have hR1 := hR0.below hb1
      have hbel1 := bel_trans hb0 hb1
      have hR1l := hR1.lt
      clear hb1 hR0 hb0 cG1 cG
      have hT0 : Blk (W1.alloc (.cells #[.slice none 0 0, .slice none 0 0, .slice none 0 0] 29)) W1.heap.size 29 #[.slice none 0 0, .slice none 0 0, .slice none 0 0] := Blk.new _ _ _ _ rfl
      have hb2 : Below W1.heap.size W1 (W1.alloc (.cells #[.slice none 0 0, .slice none 0 0, .slice none 0 0] 29)) := bel_alloc (Below.refl _ _) _
      have hsz2 : (W1.alloc (.cells #[.slice none 0 0, .slice none 0 0, .slice none 0 0] 29)).heap.size = W1.heap.size + 1 := World.size_alloc _ _
      have hR2 := hR1.below hb2
      have hbel2 := bel_trans hbel1 hb2
      clear hb2 hR1 hbel1
      go_upto_region 4 with (fail)
      generalize W1.alloc (.cells #[.slice none 0 0, .slice none 0 0, .slice none 0 0] 29) = W2 at *
      generalize hTe : W1.heap.size = T at *
      generalize hz3 : W2.heap.size = Z at *
      go_wp2
      go_loopw [7] (fun av wr => ∃ (a : Nat) (L : List (Int × Int)) (A1 : Option Addr) (c1 : Nat), av = .int .i64 (a : Int) ∧ a ≤ N ∧ EdD (waysL 0 fs) (N : Int) (a : Int) ((a : Int) + 1) (L.map fun p => edOf (waysL 0 fs) p.1 p.2) ∧ W2.grownBy wr (some T) ∧ Blk wr T 29 #[.slice A1 L.length c1, .slice none 0 0, .slice none 0 0] ∧ wr.ownsRow Z 38 4 (.slice A1 L.length c1) L.length (edCs (waysL 0 fs) L)) (fun av _ => N - (intOf av).toNat)
      case atStart => exact ⟨0, [], none, 0, rfl, by omega, by simpa using EdD.nil (waysL 0 fs) (N : Int), (grown_of (Below.refl _ _)).but _, hT0, World.ownsRow_nil _ _ _ _⟩
      case round =>
        obtain ⟨a, L, A1, c1, rfl, haN, hEd, hgr, hT, hO⟩ := hrel
        clear hT0
        by_cases hlt : a < N
        · go_wp2
          go_loopw [8] (fun bv wr => ∃ (b : Nat) (L : List (Int × Int)) (A1 : Option Addr) (c1 : Nat), bv = .int .i64 (b : Int) ∧ a < b ∧ b ≤ N ∧ EdD (waysL 0 fs) (N : Int) (a : Int) (b : Int) (L.map fun p => edOf (waysL 0 fs) p.1 p.2) ∧ W2.grownBy wr (some T) ∧ Blk wr T 29 #[.slice A1 L.length c1, .slice none 0 0, .slice none 0 0] ∧ wr.ownsRow Z 38 4 (.slice A1 L.length c1) L.length (edCs (waysL 0 fs) L)) (fun bv _ => N - (intOf bv).toNat)
          case atStart => exact ⟨a + 1, L, A1, c1, by go_num, by omega, by omega, by simpa using hEd, hgr, hT, hO⟩
          case round =>
            clear hgr hT hO hEd L A1 c1
            obtain ⟨b, L, A1, c1, rfl, hab, hbN, hEd, hgr, hT, hO⟩ := hrel
            have hbelr : Below W.heap.size W wr := bel_own hbel2 hgr (fun k hk => by cases hk; omega)
            by_cases hlb : b < N
            · have cL1 := cL wr hbelr (a : Int) (b : Int)
              have cL2 := fun (W1 : World) (hb : Below W.heap.size W W1) => cL W1 hb (b : Int) (a : Int)
              have hle := edD_le ok hEd
              simp only [List.length_map] at hle
              have hyes : (0 ≤ faceOf (waysL 0 fs) (a : Int) (b : Int) ∨ 0 ≤ faceOf (waysL 0 fs) (b : Int) (a : Int)) → EdD (waysL 0 fs) (N : Int) (a : Int) ((b : Int) + 1) ((L ++ [((a : Int), (b : Int))]).map fun p => edOf (waysL 0 fs) p.1 p.2) := fun h => by
                rw [List.map_append]
                exact hEd.yes (by omega) (by omega) (by omega) h
              have hnot := hEd.no
              generalize hff : faceOf (waysL 0 fs) (a : Int) (b : Int) = ff at *
              generalize hgg : faceOf (waysL 0 fs) (b : Int) (a : Int) = gg at *
              replace hff := Lib.hid hff
              replace hgg := Lib.hid hgg
              replace hyes := Lib.hid hyes
              replace hnot := Lib.hid hnot
              go_upto_region 11 with (first | (go_at_call 45; (with_reducible refine cL1.mono ?_); rintro e W4 ⟨rfl, hb4⟩) | fail)
              have cL3 := cL2 W4 (bel_trans hbelr hb4)
              go_upto_region 12 with (first | (go_at_call 45; (with_reducible refine cL3.mono ?_); rintro e W5 ⟨rfl, hb5⟩) | fail)
              have hb45 := bel_trans hb4 hb5
              have hT5 := hT.below hb45
              have hO5 := own_lay hO hb45
              have hg5 : W2.grownBy W5 (some T) := hgr.trans ((grown_of hb45).but _)
              have hbk := own_block hO5
              have tl := hT5.lt
              have hsz5 := hg5.size
              have t0 : W5.cell? ⟨T, 0, none⟩ = some (.slice A1 L.length c1) := hT5.cell 0
              by_cases d1 : 0 ≤ ff
              · replace hyes := Lib.hid (hyes.out (.inl (by omega)))
                go_upto_region 13 with (fail)
                go_wp2_with (first | (at_builtin; (refine wpList_append_own _ rfl _ _ 26 rfl Z 38 i0 _ 4 32 Try.underlying26 hi0 hz0 hz1 hz2 rfl (by decide) _ _ _ rfl (hO5.alloc _) ⟨W5.heap.size, 0, none⟩ 1 1 [.int .i64 (a : Int), .int .i64 (b : Int), .int .i64 ff, .int .i64 gg] rfl rfl (cell_four_new _ _ _ _ _ _) (fun x hx => by simp at hx; rcases hx with rfl | rfl | rfl | rfl <;> rfl) (by unfold maxLen; omega) (by omega) (by simp; omega) ?_); intro v6 W6 hown6 hg6 hnil; have hg56 : W5.grownBy W6 (Value.slice A1 L.length c1).ownBlock := (World.grownBy_alloc _ _ _).trans hg6; clear hg6 hnil; obtain ⟨A6, c6, rfl⟩ := own_form hown6; have hT6 : Blk W6 T 29 #[.slice A1 L.length c1, .slice none 0 0, .slice none 0 0] := (hg56.block _ tl (fun e => by have := (hbk _ e.symm).1; omega)).trans hT5; have tl6 := hT6.lt; have tf6 := hT6.frozen 0; have t6 : W6.cell? ⟨T, 0, none⟩ = some (.slice A1 L.length c1) := hT6.cell 0) | fail)
                have hsg := set_grown W6 T 0 (.slice A6 (L.length + 1) c6)
                have hO7 := own_kept hown6 hsg (fun k hk e => by have := (own_block hown6 k hk).1; cases e; omega)
                have hg7 := (hg5.andThen hg56 (fun j hj => .inl (by have := (hbk j hj).1; omega))).andThen hsg (fun j hj => .inr hj)
                have hT7 := hT6.set 0 (.slice A6 (L.length + 1) c6)
                generalize W6.setCell ⟨T, 0, none⟩ (.slice A6 (L.length + 1) c6) = W7 at *
                go_roundw
                case rel => exact ⟨b + 1, L ++ [((a : Int), (b : Int))], A6, c6, by go_num, by omega, by omega, by simpa using hyes.out, hg7, by simpa using hT7, by simpa [edCs_snoc, encE, hff.out, hgg.out] using hO7⟩
                case measure => simp [intOf]; omega
              · by_cases d2 : 0 ≤ gg
                · replace hyes := Lib.hid (hyes.out (.inr (by omega)))
                  go_upto_region 13 with (fail)
                  go_wp2_with (first | (at_builtin; (refine wpList_append_own _ rfl _ _ 26 rfl Z 38 i0 _ 4 32 Try.underlying26 hi0 hz0 hz1 hz2 rfl (by decide) _ _ _ rfl (hO5.alloc _) ⟨W5.heap.size, 0, none⟩ 1 1 [.int .i64 (a : Int), .int .i64 (b : Int), .int .i64 ff, .int .i64 gg] rfl rfl (cell_four_new _ _ _ _ _ _) (fun x hx => by simp at hx; rcases hx with rfl | rfl | rfl | rfl <;> rfl) (by unfold maxLen; omega) (by omega) (by simp; omega) ?_); intro v6 W6 hown6 hg6 hnil; have hg56 : W5.grownBy W6 (Value.slice A1 L.length c1).ownBlock := (World.grownBy_alloc _ _ _).trans hg6; clear hg6 hnil; obtain ⟨A6, c6, rfl⟩ := own_form hown6; have hT6 : Blk W6 T 29 #[.slice A1 L.length c1, .slice none 0 0, .slice none 0 0] := (hg56.block _ tl (fun e => by have := (hbk _ e.symm).1; omega)).trans hT5; have tl6 := hT6.lt; have tf6 := hT6.frozen 0; have t6 : W6.cell? ⟨T, 0, none⟩ = some (.slice A1 L.length c1) := hT6.cell 0) | fail)
                  have hsg := set_grown W6 T 0 (.slice A6 (L.length + 1) c6)
                  have hO7 := own_kept hown6 hsg (fun k hk e => by have := (own_block hown6 k hk).1; cases e; omega)
                  have hg7 := (hg5.andThen hg56 (fun j hj => .inl (by have := (hbk j hj).1; omega))).andThen hsg (fun j hj => .inr hj)
                  have hT7 := hT6.set 0 (.slice A6 (L.length + 1) c6)
                  generalize W6.setCell ⟨T, 0, none⟩ (.slice A6 (L.length + 1) c6) = W7 at *
                  go_roundw
                  case rel => exact ⟨b + 1, L ++ [((a : Int), (b : Int))], A6, c6, by go_num, by omega, by omega, by simpa using hyes.out, hg7, by simpa using hT7, by simpa [edCs_snoc, encE, hff.out, hgg.out] using hO7⟩
                  case measure => simp [intOf]; omega
                · have h9 := hnot.out (by omega)
                  replace h9 := Lib.hid h9
                  go_wp2
                  go_roundw
                  case rel => exact ⟨b + 1, L, A1, c1, by go_num, by omega, by omega, by simpa using h9.out, hg5, hT5, hO5⟩
                  case measure => simp [intOf]; omega
            · obtain rfl : b = N := by omega
              have h9 := hEd.row (Int.le_refl _)
              go_wp2
              go_roundw
              case rel => exact ⟨a + 1, L, A1, c1, by go_num, by omega, by simpa using h9, hgr, hT, hO⟩
              case measure => simp [intOf]; omega
        · obtain rfl : a = N := by omega
          have hER := hEd.edges ok hin (Int.le_refl _)
          have hLle := edD_le ok hEd
          simp only [List.length_map] at hLle
          replace hER := Lib.hid hER
          clear hEd
          go_wp2
          go_loopw [11] (fun i wr => ∃ (v : Nat) (A2 A3 : Option Addr) (c2 c3 : Nat) (fans : List (List Int)) (rs : List Bool), i = .int .i64 (v : Int) ∧ v ≤ a ∧ fans.length = v ∧ rs.length = v ∧ W2.grownBy wr (some T) ∧ Blk wr T 29 #[.slice A1 L.length c1, .slice A2 fans.length c2, .slice A3 rs.length c3] ∧ wr.ownsRow Z 38 4 (.slice A1 L.length c1) L.length (edCs (waysL 0 fs) L) ∧ OwnF wr Z A2 c2 fans ∧ wr.ownsRow Z 4 1 (.slice A3 rs.length c3) rs.length (rs.map Value.bool) ∧ (∀ u (h : u < fans.length) (h2 : u < rs.length), ∃ L, FanR (waysL 0 fs) (u : Int) (hubOf (waysL 0 fs) (u : Int) (waysL 0 fs)).1 L rs[u] ∧ L.length = (froms (waysL 0 fs) u).length ∧ fans[u] = L.map Way.f ∧ L ≠ [])) (fun i _ => a - (intOf i).toNat)
          case atStart => exact ⟨0, none, none, 0, 0, [], [], rfl, by omega, rfl, rfl, hgr, hT, hO, ⟨[], World.ownsRow_nil _ _ _ _, fun i hi => by simp at hi⟩, World.ownsRow_nil _ _ _ _, fun u h => by simp at h⟩
          case round =>
            clear hgr hT hO
            obtain ⟨v, A2, A3, c2, c3, fans, rs, rfl, hv, hfl2, hrl2, hgr, hT, hO, hOF, hOR, hFan⟩ := hrel
            have hRr : Blk wr W.heap.size 29 #[.slice none 0 0, .slice none 0 0, .slice none 0 0] := (hgr.block _ (by have := hR2.lt; omega) (by intro e; cases e; omega)).trans hR2
            have hbelr : Below W.heap.size W wr := bel_own hbel2 hgr (fun k hk => by cases hk; omega)
            by_cases hlt2 : v < a
            · have hszr := hgr.size
              replace hFan := Lib.hid hFan
              have cF1 := cF wr hbelr (v : Int)
              go_upto_region 18 with (first | (go_at_call 46; (with_reducible refine cF1.mono ?_); rintro e W5 ⟨hb5, hcase⟩; obtain ⟨s1, s2, s3, rfl⟩ : ∃ s1 s2 s3, e = .returned (.tuple #[s1, .bool s2, .bool s3]) := (by rcases hcase with ⟨_, h⟩ | ⟨w0, L0, r, B, c, rd, _, _, _, h, _⟩ <;> exact ⟨_, _, _, h⟩)) | fail)
              have hT5 := hT.below hb5
              have hO5 := own_lay hO hb5
              have hOF5 := hOF.lay hb5
              have hOR5 := own_lay hOR hb5
              have hR5 := hRr.below hb5
              have hbel5 := bel_trans hbelr hb5
              have hg5 : W2.grownBy W5 (some T) := hgr.trans ((grown_of hb5).but _)
              clear hT hO hOF hOR hRr hgr hb5 cF1
              rcases hcase with ⟨hq0, he⟩ | ⟨w0, L0, r, B, c, rd, hSt, hFR, hrd, he, hval⟩
              · simp only [Ending.returned.injEq, Value.tuple.injEq, Array.mk.injEq, List.cons.injEq, Value.bool.injEq, and_true] at he
                obtain ⟨rfl, rfl, rfl⟩ := he
                have hno := Lib.hid (show ¬ Surf (a : Int) fs from fun h => surf_froms h (by omega) (by omega) hq0)
                clear hbelr hT5 hO5 hOF5 hOR5 hg5 hFan hR2 hbel2 hER
                have xx0 : W5.cell? ⟨W.heap.size, 0, none⟩ = some (.slice none 0 0) := hR5.cell 0
                have xx1 : W5.cell? ⟨W.heap.size, 1, none⟩ = some (.slice none 0 0) := hR5.cell 1
                have xx2 : W5.cell? ⟨W.heap.size, 2, none⟩ = some (.slice none 0 0) := hR5.cell 2
                have xxl := hR5.lt
                have ff0 := hR5.frozen 0
                have ff1 := hR5.frozen 1
                have ff2 := hR5.frozen 2
                have hE := ((hR5.set 0 (.slice none 0 0)).set 1 (.slice none 0 0)).set 2 (.slice none 0 0)
                have hbE := bel_set (bel_set (bel_set hbel5 (p := ⟨W.heap.size, 0, none⟩) (Nat.le_refl _) (.slice none 0 0)) (p := ⟨W.heap.size, 1, none⟩) (Nat.le_refl _) (.slice none 0 0)) (p := ⟨W.heap.size, 2, none⟩) (Nat.le_refl _) (.slice none 0 0)
                replace hE := Lib.hid hE
                replace hbE := Lib.hid hbE
                go_wp2
                replace hE := hE.out
                replace hbE := hbE.out
                generalize ((W5.setCell ⟨W.heap.size, 0, none⟩ (.slice none 0 0)).setCell ⟨W.heap.size, 1, none⟩ (.slice none 0 0)).setCell ⟨W.heap.size, 2, none⟩ (.slice none 0 0) = WE at *
                have y0 : WE.cell? ⟨W.heap.size, 0, none⟩ = some (.slice none 0 0) := hE.cell 0
                have y1 : WE.cell? ⟨W.heap.size, 1, none⟩ = some (.slice none 0 0) := hE.cell 1
                have y2 : WE.cell? ⟨W.heap.size, 2, none⟩ = some (.slice none 0 0) := hE.cell 2
                refine bodyPost_ret (v := .tuple #[.agg #[.slice none 0 0, .slice none 0 0, .slice none 0 0], .int .i64 14]) (by simp [results, Try.results18, go_sem, y0, y1, y2]) rfl ?_
                exact ⟨hbE, .inl ⟨hno.out, rfl⟩⟩
              · simp only [Ending.returned.injEq, Value.tuple.injEq, Array.mk.injEq, List.cons.injEq, Value.bool.injEq, and_true] at he
                obtain ⟨rfl, rfl, rfl⟩ := he
                by_cases hl0 : L0.length = (froms (waysL 0 fs) (v : Int)).length
                · have hok := fan_ok ok hSt hFR hl0
                  have hrr : s2 = r := by
                    have h1 := fan_round ok hSt hFR hl0
                    rw [← hrd] at h1
                    cases s2 <;> cases r <;> simp_all
                  have hL0 : L0 ≠ [] := fun e => by
                    have h1 := hSt.1
                    rw [e] at hl0
                    rw [List.eq_nil_of_length_eq_zero hl0.symm] at h1; cases h1
                  have hle5 := hFR.toFanC.leG ok
                  have hfb : (froms (waysL 0 fs) (v : Int)).length ≤ (waysL 0 fs).length := List.length_filter_le _ _
                  have hbt : (L0.length == (froms (waysL 0 fs) (v : Int)).length) = true := by simp [hl0]
                  rw [hbt]
                  subst hrr
                  have hval5 := own_base (base' := Z) hval (by omega)
                  clear hval hbt hbelr hrd
                  have t1 : W5.cell? ⟨T, 1, none⟩ = some (.slice A2 fans.length c2) := hT5.cell 1
                  have tl := hT5.lt
                  obtain ⟨vals, hO1, hO2⟩ := hOF5.row
                  obtain ⟨i1, hi1, hy0, hy1, hy2⟩ := info_parts infoIS
                  have hfN : fans.length < 1099511627776 := by omega
                  have hrN : rs.length < 1099511627776 := by omega
                  replace hl0 := Lib.hid hl0
                  replace hfl2 := Lib.hid hfl2
                  replace hrl2 := Lib.hid hrl2
                  replace hFR := Lib.hid hFR
                  replace hok := Lib.hid hok
                  replace hOR5 := Lib.hid hOR5
                  replace hO5 := Lib.hid hO5
                  have hbk := own_block hO1
                  have hsz5 := hg5.size
                  go_upto_region 20 with (fail)
                  go_upto_region 21 with (first | (at_builtin; (refine wpList_append_own _ rfl _ _ 22 rfl Z 41 i1 _ 1 24 Try.underlying22 hi1 hy0 hy1 hy2 rfl (by decide) _ _ _ rfl (hO1.alloc _) ⟨W5.heap.size, 0, none⟩ 1 1 [.slice B L0.length c] rfl rfl (cell_one_new _ _ _) (fun x hx => by simp at hx; subst hx; rfl) (by unfold maxLen; omega) (by omega) (by simp; omega) ?_); intro v6 W6 hown6 hg6 hnil; have hg56 : W5.grownBy W6 (Value.slice A2 fans.length c2).ownBlock := (World.grownBy_alloc _ _ _).trans hg6; clear hg6 hnil; obtain ⟨A6, c6, rfl⟩ := own_form hown6; have hT6 : Blk W6 T 29 #[.slice A1 L.length c1, .slice A2 fans.length c2, .slice A3 rs.length c3] := (hg56.block _ tl (fun e => by have := (hbk _ e.symm).1; omega)).trans hT5; have tl6 := hT6.lt; have tf6 := hT6.frozen 1; have t6 : W6.cell? ⟨T, 1, none⟩ = some (.slice A2 fans.length c2) := hT6.cell 1) | fail)
                  have hOF6 : OwnF W6 Z A6 c6 (fans ++ [L0.map Way.f]) := OwnF.add hO2 hO1 (by simpa using hval5) hg56 (by simpa using hown6)
                  have hOR6 := own_kept hOR5.out hg56 (fun k hk e => own_type hOR5.out hO1 (by decide) k hk e)
                  have hOE6 := own_kept hO5.out hg56 (fun k hk e => own_type hO5.out hO1 (by decide) k hk e)
                  have hg6b := hg5.andThen hg56 (fun j hj => .inl (by have := (hbk j hj).1; omega))
                  have hsg := set_grown W6 T 1 (.slice A6 (fans.length + 1) c6)
                  have hOF7 := hOF6.kept hsg (fun k hk => .inl (by cases hk; omega))
                  have hOR7 := own_kept hOR6 hsg (fun k hk e => by have := (own_block hOR6 k hk).1; cases e; omega)
                  have hOE7 := own_kept hOE6 hsg (fun k hk e => by have := (own_block hOE6 k hk).1; cases e; omega)
                  have hg7 := hg6b.andThen hsg (fun j hj => .inr hj)
                  have hT7 : Blk (W6.setCell ⟨T, 1, none⟩ (.slice A6 (fans.length + 1) c6)) T 29 #[.slice A1 L.length c1, .slice A6 (fans.length + 1) c6, .slice A3 rs.length c3] := hT6.set 1 _
                  clear hOF6 hOR6 hOE6 hg6b hsg hT6 hOR5 hO5 hg5 hR5 hbel5 hg56 hown6 hO1 hO2 hOF5 hval5 hT5 tl6 tf6 t6 t1 tl hbk hsz5
                  generalize W6.setCell ⟨T, 1, none⟩ (.slice A6 (fans.length + 1) c6) = W7 at *
                  have t7 : W7.cell? ⟨T, 2, none⟩ = some (.slice A3 rs.length c3) := hT7.cell 2
                  have tl7 := hT7.lt
                  have hbk := own_block hOR7
                  have hsz7 := hg7.size
                  obtain ⟨i2, hi2, hw0, hw1, hw2⟩ := info_parts infoB
                  replace hOF7 := Lib.hid hOF7
                  replace hOE7 := Lib.hid hOE7
                  go_upto_region 16 with (first | (at_builtin; (refine wpList_append_own _ rfl _ _ 27 rfl Z 4 i2 _ 1 1 Try.underlying27 hi2 hw0 hw1 hw2 rfl (by decide) _ _ _ rfl (hOR7.alloc _) ⟨W7.heap.size, 0, none⟩ 1 1 [.bool s2] rfl rfl (cell_one_new _ _ _) (fun x hx => by simp at hx; subst hx; rfl) (by unfold maxLen; omega) (by omega) (by simp; omega) ?_); intro v8 W8 hown8 hg8 hnil; have hg78 : W7.grownBy W8 (Value.slice A3 rs.length c3).ownBlock := (World.grownBy_alloc _ _ _).trans hg8; clear hg8 hnil; obtain ⟨A8, c8, rfl⟩ := own_form hown8; have hT8 : Blk W8 T 29 #[.slice A1 L.length c1, .slice A6 (fans.length + 1) c6, .slice A3 rs.length c3] := (hg78.block _ tl7 (fun e => by have := (hbk _ e.symm).1; omega)).trans hT7; have tl8 := hT8.lt; have tf8 := hT8.frozen 2; have t8 : W8.cell? ⟨T, 2, none⟩ = some (.slice A3 rs.length c3) := hT8.cell 2) | fail)
                  have hOF8 := hOF7.out.kept hg78 (fun k hk => .inr ⟨_, _, _, _, _, _, hOR7, hk, by decide, by decide⟩)
                  have hOE8 := own_kept hOE7.out hg78 (fun k hk e => own_type hOE7.out hOR7 (by decide) k hk e)
                  have hg8b := hg7.andThen hg78 (fun j hj => .inl (by have := (hbk j hj).1; omega))
                  have hsg := set_grown W8 T 2 (.slice A8 (rs.length + 1) c8)
                  have hOF9 := hOF8.kept hsg (fun k hk => .inl (by cases hk; omega))
                  have hOR9 := own_kept hown8 hsg (fun k hk e => by have := (own_block hown8 k hk).1; cases e; omega)
                  have hOE9 := own_kept hOE8 hsg (fun k hk e => by have := (own_block hOE8 k hk).1; cases e; omega)
                  have hg9 := hg8b.andThen hsg (fun j hj => .inr hj)
                  have hT9 : Blk (W8.setCell ⟨T, 2, none⟩ (.slice A8 (rs.length + 1) c8)) T 29 #[.slice A1 L.length c1, .slice A6 (fans.length + 1) c6, .slice A8 (rs.length + 1) c8] := hT8.set 2 _
                  clear hOF8 hOE8 hg8b hsg hT8 hT7 hg78 hown8 hOR7 hOF7 hOE7 hg7 tl8 tf8 t8 t7 tl7 hbk hsz7
                  generalize W8.setCell ⟨T, 2, none⟩ (.slice A8 (rs.length + 1) c8) = W9 at *
                  go_wp2
                  go_roundw
                  case rel =>
                    refine ⟨v + 1, A6, A8, c6, c8, fans ++ [L0.map Way.f], rs ++ [s2], by go_num, by omega, by simp [hfl2.out], by simp [hrl2.out], hg9, by simpa using hT9, hOE9, hOF9, by simpa using hOR9, fun u h h2 => ?_⟩
                    have hff := hfl2.out
                    have hrr := hrl2.out
                    rcases Nat.lt_or_ge u v with hu | hu
                    · obtain ⟨M, h3, h4, h5, h6⟩ := hFan.out u (by omega) (by omega)
                      refine ⟨M, ?_, h4, ?_, h6⟩
                      · rw [List.getElem_append_left (by omega)]; exact h3
                      · rw [List.getElem_append_left (by omega)]; exact h5
                    · have e : u = v := by simp at h; omega
                      subst e
                      refine ⟨L0, ?_, hl0.out, ?_, hL0⟩
                      · rw [List.getElem_append_right (by omega)]
                        simpa [hrr] using hok.out
                      · rw [List.getElem_append_right (by omega)]
                        simp [hff]
                  case measure => simp [intOf]; omega
                · have hno := Lib.hid (show ¬ Surf (a : Int) fs from fun h => hl0 (fan_full h (by omega) (by omega) hSt hFR))
                  have hbt : (L0.length == (froms (waysL 0 fs) (v : Int)).length) = false := by simp [hl0]
                  rw [hbt]
                  clear hbelr hT5 hO5 hOF5 hOR5 hg5 hFan hR2 hbel2 hER hval hbt hFR hSt hrd
                  have xx0 : W5.cell? ⟨W.heap.size, 0, none⟩ = some (.slice none 0 0) := hR5.cell 0
                  have xx1 : W5.cell? ⟨W.heap.size, 1, none⟩ = some (.slice none 0 0) := hR5.cell 1
                  have xx2 : W5.cell? ⟨W.heap.size, 2, none⟩ = some (.slice none 0 0) := hR5.cell 2
                  have xxl := hR5.lt
                  have ff0 := hR5.frozen 0
                  have ff1 := hR5.frozen 1
                  have ff2 := hR5.frozen 2
                  have hE := ((hR5.set 0 (.slice none 0 0)).set 1 (.slice none 0 0)).set 2 (.slice none 0 0)
                  have hbE := bel_set (bel_set (bel_set hbel5 (p := ⟨W.heap.size, 0, none⟩) (Nat.le_refl _) (.slice none 0 0)) (p := ⟨W.heap.size, 1, none⟩) (Nat.le_refl _) (.slice none 0 0)) (p := ⟨W.heap.size, 2, none⟩) (Nat.le_refl _) (.slice none 0 0)
                  replace hE := Lib.hid hE
                  replace hbE := Lib.hid hbE
                  go_wp2
                  replace hE := hE.out
                  replace hbE := hbE.out
                  generalize ((W5.setCell ⟨W.heap.size, 0, none⟩ (.slice none 0 0)).setCell ⟨W.heap.size, 1, none⟩ (.slice none 0 0)).setCell ⟨W.heap.size, 2, none⟩ (.slice none 0 0) = WE at *
                  have y0 : WE.cell? ⟨W.heap.size, 0, none⟩ = some (.slice none 0 0) := hE.cell 0
                  have y1 : WE.cell? ⟨W.heap.size, 1, none⟩ = some (.slice none 0 0) := hE.cell 1
                  have y2 : WE.cell? ⟨W.heap.size, 2, none⟩ = some (.slice none 0 0) := hE.cell 2
                  refine bodyPost_ret (v := .tuple #[.agg #[.slice none 0 0, .slice none 0 0, .slice none 0 0], .int .i64 14]) (by simp [results, Try.results18, go_sem, y0, y1, y2]) rfl ?_
                  exact ⟨hbE, .inl ⟨hno.out, rfl⟩⟩
            · obtain rfl : v = a := by omega
              have hxT : Blk wr T 29 #[.slice A1 L.length c1, .slice A2 fans.length c2, .slice A3 rs.length c3] := hT
              have x0 : wr.cell? ⟨T, 0, none⟩ = some (.slice A1 L.length c1) := hT.cell 0
              have x1 : wr.cell? ⟨T, 1, none⟩ = some (.slice A2 fans.length c2) := hT.cell 1
              have x2 : wr.cell? ⟨T, 2, none⟩ = some (.slice A3 rs.length c3) := hT.cell 2
              have r0 : wr.cell? ⟨W.heap.size, 0, none⟩ = some (.slice none 0 0) := hRr.cell 0
              have r1 : wr.cell? ⟨W.heap.size, 1, none⟩ = some (.slice none 0 0) := hRr.cell 1
              have r2 : wr.cell? ⟨W.heap.size, 2, none⟩ = some (.slice none 0 0) := hRr.cell 2
              have f0 := hRr.frozen 0
              have f1 := hRr.frozen 1
              have f2 := hRr.frozen 2
              have rl := hRr.lt
              have xl := hT.lt
              have hRT : W.heap.size ≠ T := by omega
              have hE := ((hRr.set 0 (.slice A1 L.length c1)).set 1 (.slice A2 fans.length c2)).set 2 (.slice A3 rs.length c3)
              have hbE := bel_set (bel_set (bel_set hbelr (p := ⟨W.heap.size, 0, none⟩) (Nat.le_refl _) (.slice A1 L.length c1)) (p := ⟨W.heap.size, 1, none⟩) (Nat.le_refl _) (.slice A2 fans.length c2)) (p := ⟨W.heap.size, 2, none⟩) (Nat.le_refl _) (.slice A3 rs.length c3)
              have hRlt : W.heap.size < Z := by have := hR2.lt; omega
              have hgE : wr.grownBy (((wr.setCell ⟨W.heap.size, 0, none⟩ (.slice A1 L.length c1)).setCell ⟨W.heap.size, 1, none⟩ (.slice A2 fans.length c2)).setCell ⟨W.heap.size, 2, none⟩ (.slice A3 rs.length c3)) (some W.heap.size) := ((set_grown wr W.heap.size 0 _).trans (set_grown _ W.heap.size 1 _)).trans (set_grown _ W.heap.size 2 _)
              have hOFe := (hOF.kept hgE (fun k hk => .inl (by cases hk; omega))).fl
              have hORe := BL_own (own_kept hOR hgE (fun k hk e => by have := (own_block hOR k hk).1; cases e; omega))
              have hEe := EL_own (own_kept hO hgE (fun k hk e => by have := (own_block hO k hk).1; cases e; omega)) rfl
              have hSu : Surf (v : Int) fs := dsurf (by omega) hG (fun u g0 g1 => by
                obtain ⟨n, rfl⟩ := Int.eq_ofNat_of_zero_le g0
                obtain ⟨M, h3, h4, h5, h6⟩ := hFan n (by omega) (by omega)
                exact ⟨M, _, h3, h4, h6⟩)
              have hS : TopoS (v : Int) fs ⟨L.map fun p => edOf (waysL 0 fs) p.1 p.2, fans, rs⟩ := ⟨hSu.1, hER.out, by simp [hfl2], by simp [hrl2], fun u h h2 => by obtain ⟨M, h3, h4, h5, _⟩ := hFan u h h2; exact ⟨M, h3, h4, h5⟩⟩
              replace hE := Lib.hid hE
              replace hbE := Lib.hid hbE
              replace hOFe := Lib.hid hOFe
              replace hORe := Lib.hid hORe
              replace hEe := Lib.hid hEe
              replace hfl2 := Lib.hid hfl2
              replace hrl2 := Lib.hid hrl2
              replace hFan := Lib.hid hFan
              replace hS := Lib.hid hS
              replace hSu := Lib.hid hSu
              clear hOF hOR hO hRr hbelr hT hxT hgE
              go_wp2
              replace hE := hE.out
              replace hbE := hbE.out
              replace hOFe := hOFe.out
              replace hORe := hORe.out
              replace hEe := hEe.out
              generalize ((wr.setCell ⟨W.heap.size, 0, none⟩ (.slice A1 L.length c1)).setCell ⟨W.heap.size, 1, none⟩ (.slice A2 fans.length c2)).setCell ⟨W.heap.size, 2, none⟩ (.slice A3 rs.length c3) = WE at *
              have y0 : WE.cell? ⟨W.heap.size, 0, none⟩ = some (.slice A1 L.length c1) := hE.cell 0
              have y1 : WE.cell? ⟨W.heap.size, 1, none⟩ = some (.slice A2 fans.length c2) := hE.cell 1
              have y2 : WE.cell? ⟨W.heap.size, 2, none⟩ = some (.slice A3 rs.length c3) := hE.cell 2
              refine bodyPost_ret (v := .tuple #[.agg #[.slice A1 L.length c1, .slice A2 fans.length c2, .slice A3 rs.length c3], .int .i64 0]) (by simp [results, Try.results18, go_sem, y0, y1, y2]) rfl ?_
              exact ⟨hbE, .inr ⟨hSu.out, _, A1, A2, A3, c1, c2, c3, hS.out, ⟨hEe, hOFe, hORe⟩, by simp⟩⟩
    · have cG1 : Calls Try.prog 44 #[.int .i64 V, .slice A fs.length k] W0 fun e W' => e = .returned (.bool false) ∧ Below W0.heap.size W0 W' := (cG W0 hb0).mono fun e W' ⟨b, he, hb, hbel⟩ => ⟨by rw [he]; cases b with | false => rfl | true => exact absurd (hb.1 rfl) hG, hbel⟩
      have hno := Lib.hid (show ¬ Surf V fs from fun h => hG (surf_good h))
      go_upto_region 2 with (first | (go_at_call 44; (with_reducible refine cG1.mono ?_); rintro e W1 ⟨rfl, hb1⟩) | fail)
      have hR1 := hR0.below hb1
      have hbel1 := bel_trans hb0 hb1
      clear hR0 hb0 cG cG1 hb1
      have xx0 : W1.cell? ⟨W.heap.size, 0, none⟩ = some (.slice none 0 0) := hR1.cell 0
      have xx1 : W1.cell? ⟨W.heap.size, 1, none⟩ = some (.slice none 0 0) := hR1.cell 1
      have xx2 : W1.cell? ⟨W.heap.size, 2, none⟩ = some (.slice none 0 0) := hR1.cell 2
      have xxl := hR1.lt
      have ff0 := hR1.frozen 0
      have ff1 := hR1.frozen 1
      have ff2 := hR1.frozen 2
      have hE := ((hR1.set 0 (.slice none 0 0)).set 1 (.slice none 0 0)).set 2 (.slice none 0 0)
      have hbE := bel_set (bel_set (bel_set hbel1 (p := ⟨W.heap.size, 0, none⟩) (Nat.le_refl _) (.slice none 0 0)) (p := ⟨W.heap.size, 1, none⟩) (Nat.le_refl _) (.slice none 0 0)) (p := ⟨W.heap.size, 2, none⟩) (Nat.le_refl _) (.slice none 0 0)
      replace hE := Lib.hid hE
      replace hbE := Lib.hid hbE
      go_wp2
      replace hE := hE.out
      replace hbE := hbE.out
      generalize ((W1.setCell ⟨W.heap.size, 0, none⟩ (.slice none 0 0)).setCell ⟨W.heap.size, 1, none⟩ (.slice none 0 0)).setCell ⟨W.heap.size, 2, none⟩ (.slice none 0 0) = WE at *
      have y0 : WE.cell? ⟨W.heap.size, 0, none⟩ = some (.slice none 0 0) := hE.cell 0
      have y1 : WE.cell? ⟨W.heap.size, 1, none⟩ = some (.slice none 0 0) := hE.cell 1
      have y2 : WE.cell? ⟨W.heap.size, 2, none⟩ = some (.slice none 0 0) := hE.cell 2
      refine bodyPost_ret (v := .tuple #[.agg #[.slice none 0 0, .slice none 0 0, .slice none 0 0], .int .i64 14]) (by simp [results, Try.results18, go_sem, y0, y1, y2]) rfl ?_
      exact ⟨hbE, .inl ⟨hno.out, rfl⟩⟩
end Go.Proofs.Ytbehobojgeganaa
