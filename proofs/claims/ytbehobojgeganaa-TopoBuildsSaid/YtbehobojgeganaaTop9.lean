/- Package topo: Build, walked whole. -/
import Derived.Test.YtbehobojgeganaaTop8
namespace Go.Proofs.Ytbehobojgeganaa
open Go.RowKit
set_option linter.unusedVariables false
set_option linter.unusedSimpArgs false
set_option linter.unnecessarySimpa false
set_option maxRecDepth 100000


theorem hub_start {al : List Way} {v : Int} (h : froms al v ≠ []) : ∃ w ∈ al, w.b = (hubOf al v al).1 := by
  obtain ⟨w, hw, e, _⟩ := hubOf_to al v al h
  exact ⟨w, (mem_froms.1 hw).1, e⟩
theorem set_grown (W : World) (T i : Nat) (u : Value) : W.grownBy (W.setCell ⟨T, i, none⟩ u) (some T) := by
  refine ⟨rfl, rfl, rfl, by simp [World.setCell], fun k hk hne => ?_⟩
  have : T ≠ k := fun e => hne (by rw [e])
  simp [World.setCell, Array.getElem?_modify, this]
set_option maxHeartbeats 4000000 in
theorem build_any (W : World) (V : Int) (k : Nat) (fs : List (List Int)) (A : Option Addr) (hA : FL W A fs) (hV : i64B V) (hi : ∀ x ∈ fs, ∀ y ∈ x, i64B y) (hlen : (waysL 0 fs).length < 1099511627776) (hfl : fs.length < 1099511627776) (hxl : ∀ x ∈ fs, x.length < 1099511627776) (hVl : V < 1099511627776) :
    Calls Try.prog 17 #[.int .i64 V, .slice A fs.length k] W fun e W' => Below W.heap.size W W' ∧ ((¬ Surf V fs ∧ e = .returned (.tuple #[.agg #[.slice none 0 0, .slice none 0 0, .slice none 0 0], .int .i64 14])) ∨ (Surf V fs ∧ ∃ t A1 A2 A3 c1 c2 c3, TopoS V fs t ∧ TopoV W' A1 A2 A3 t ∧ e = .returned (.tuple #[.agg #[.slice A1 t.es.length c1, .slice A2 t.fans.length c2, .slice A3 t.rs.length c3], .int .i64 0]))) := by
  have cW := fun (W1 : World) (hb : Below W.heap.size W W1) => walk_any W1 V k fs A (hA.below hb) hV hi hlen hfl hxl
  have hb0 : Below W.heap.size W (W.alloc (.cells #[.slice none 0 0, .slice none 0 0, .slice none 0 0] 29)) := bel_alloc (Below.refl _ _) _
  have hR0 : Blk (W.alloc (.cells #[.slice none 0 0, .slice none 0 0, .slice none 0 0] 29)) W.heap.size 29 #[.slice none 0 0, .slice none 0 0, .slice none 0 0] := Blk.new _ _ _ _ rfl
  go_enter Try.func17, Try.ntmps17
  go_upto_region 1 with (fail)
  generalize W.alloc (.cells #[.slice none 0 0, .slice none 0 0, .slice none 0 0] 29) = W0 at *
  go_upto_region 2 with (first | (go_at_call 40; (with_reducible refine (cW _ hb0).mono ?_); rintro e W1 ⟨hb1, hcase⟩; obtain ⟨mm, bb, rfl⟩ : ∃ mm bb, e = .returned (.tuple #[mm, .bool bb]) := (by rcases hcase with ⟨_, m, h⟩ | ⟨_, B, h, _⟩; exact ⟨_, _, h⟩; exact ⟨_, _, h⟩)) | fail)
  have hR1 := hR0.below hb1
  have hbel1 := bel_trans hb0 hb1
  have hR1l := hR1.lt
  have hR1f : ∀ i, W1.frozen? ⟨W.heap.size, i, none⟩ = false := fun i => hR1.frozen i
  have f0 := hR1f 0
  have f1 := hR1f 1
  have f2 := hR1f 2
  have x0 : W1.cell? ⟨W.heap.size, 0, none⟩ = some (.slice none 0 0) := hR1.cell 0
  have x1 : W1.cell? ⟨W.heap.size, 1, none⟩ = some (.slice none 0 0) := hR1.cell 1
  have x2 : W1.cell? ⟨W.heap.size, 2, none⟩ = some (.slice none 0 0) := hR1.cell 2
  clear hR0 hb0 cW hb1 hR1f
  rcases hcase with ⟨hno, m, he⟩ | ⟨ok, B, he, hM⟩
  all_goals (simp only [Ending.returned.injEq, Value.tuple.injEq, Array.mk.injEq, List.cons.injEq, Value.bool.injEq, and_true] at he)
  all_goals (obtain ⟨rfl, rfl⟩ := he)
  · have hno2 := Lib.hid (show ¬ Surf V fs from fun h => hno h.1)
    clear hno
    have hE := ((hR1.set 0 (.slice none 0 0)).set 1 (.slice none 0 0)).set 2 (.slice none 0 0)
    go_wp2
    have hbE := bel_set (bel_set (bel_set hbel1 (p := ⟨W.heap.size, 0, none⟩) (Nat.le_refl _) (.slice none 0 0)) (p := ⟨W.heap.size, 1, none⟩) (Nat.le_refl _) (.slice none 0 0)) (p := ⟨W.heap.size, 2, none⟩) (Nat.le_refl _) (.slice none 0 0)
    generalize ((W1.setCell ⟨W.heap.size, 0, none⟩ (.slice none 0 0)).setCell ⟨W.heap.size, 1, none⟩ (.slice none 0 0)).setCell ⟨W.heap.size, 2, none⟩ (.slice none 0 0) = WE at *
    have y0 : WE.cell? ⟨W.heap.size, 0, none⟩ = some (.slice none 0 0) := hE.cell 0
    have y1 : WE.cell? ⟨W.heap.size, 1, none⟩ = some (.slice none 0 0) := hE.cell 1
    have y2 : WE.cell? ⟨W.heap.size, 2, none⟩ = some (.slice none 0 0) := hE.cell 2
    refine bodyPost_ret (v := .tuple #[.agg #[.slice none 0 0, .slice none 0 0, .slice none 0 0], .int .i64 14]) (by simp [results, Try.results17, go_sem, y0, y1, y2]) rfl ?_
    exact ⟨hbE, .inl ⟨hno2.out, rfl⟩⟩
  · obtain ⟨N, rfl⟩ := Int.eq_ofNat_of_zero_le ok.pos
    have hN : N < 1099511627776 := by omega
    have hrng : ∀ w ∈ waysL 0 fs, i64B w.a ∧ i64B w.b := by obtain ⟨D, _, hd⟩ := hM; exact hd.rng
    have hT0 : Blk (W1.alloc (.cells #[.slice none 0 0, .slice none 0 0, .slice none 0 0] 29)) W1.heap.size 29 #[.slice none 0 0, .slice none 0 0, .slice none 0 0] := Blk.new _ _ _ _ rfl
    have hb2 : Below W1.heap.size W1 (W1.alloc (.cells #[.slice none 0 0, .slice none 0 0, .slice none 0 0] 29)) := bel_alloc (Below.refl _ _) _
    have hsz2 : (W1.alloc (.cells #[.slice none 0 0, .slice none 0 0, .slice none 0 0] 29)).heap.size = W1.heap.size + 1 := World.size_alloc _ _
    have hM2 := hM.below hb2
    have hBl := hM.lt
    have hA2 := hA.below (bel_trans hbel1 hb2)
    have hR2 := hR1.below hb2
    have hbel2 := bel_trans hbel1 hb2
    clear hM hb2 hR1 hbel1 f0 f1 f2 x0 x1 x2
    go_upto_region 5 with (fail)
    generalize W1.alloc (.cells #[.slice none 0 0, .slice none 0 0, .slice none 0 0] 29) = W2 at *
    generalize hTe : W1.heap.size = T at *
    have cH := hubs_any W2 B N k fs A ok hM2 hA2 hrng hN hlen hfl hxl
    go_upto_region 6 with (first | (go_at_call 41; (with_reducible refine cH.mono ?_); rintro e W3 ⟨g, rfl, hb3, hH3, hg3⟩) | fail)
    have hR3 := hR2.below hb3
    have hT3 := hT0.below hb3
    have hM3 := hM2.below hb3
    have hbel3 := bel_trans hbel2 hb3
    have hg3b := hH3.lt
    have hsz3 := hb3.size
    clear hR2 hT0 hM2 hA2 hbel2 cH
    have hST : ∀ v : Nat, v < N → froms (waysL 0 fs) v ≠ [] := fun v hv h => by
      obtain ⟨w, hw, e⟩ := ok.all v (by omega) (by omega)
      obtain ⟨d, hd⟩ := ok.next hw
      have : (⟨w.b, d, w.f, w.a⟩ : Way) ∈ froms (waysL 0 fs) v := mem_froms.2 ⟨hd, e⟩
      rw [h] at this; cases this
    have hway : ∀ w ∈ waysL 0 fs, i64B w.f ∧ i64B w.c := fun w hw => by
      obtain ⟨d, hd⟩ := ok.prev hw
      refine ⟨?_, (hrng _ hd).1⟩
      obtain ⟨j, hj, hm⟩ := (mem_waysL fs 0 w).1 hw
      have := ok.long _ (List.getElem_mem hj)
      have := waysF_f (by omega) hm
      unfold i64B; omega
    replace hST := Lib.hid hST
    generalize hz3 : W3.heap.size = Z at *
    go_loopw [27] (fun i wr => ∃ (v : Nat) (A2 A3 : Option Addr) (c2 c3 : Nat) (fans : List (List Int)) (rs : List Bool), i = .int .i64 (v : Int) ∧ v ≤ N ∧ fans.length = v ∧ rs.length = v ∧ W3.grownBy wr (some T) ∧ Blk wr T 29 #[.slice none 0 0, .slice A2 fans.length c2, .slice A3 rs.length c3] ∧ OwnF wr Z A2 c2 fans ∧ wr.ownsRow Z 4 1 (.slice A3 rs.length c3) rs.length (rs.map Value.bool) ∧ (∀ u (h : u < fans.length) (h2 : u < rs.length), ∃ L, FanR (waysL 0 fs) (u : Int) (hubOf (waysL 0 fs) (u : Int) (waysL 0 fs)).1 L rs[u] ∧ L.length = (froms (waysL 0 fs) u).length ∧ fans[u] = L.map Way.f)) (fun i _ => N - (intOf i).toNat)
    case atStart => exact ⟨0, none, none, 0, 0, [], [], rfl, by omega, rfl, rfl, (grown_of (Below.refl _ _)).but _, hT3, ⟨[], World.ownsRow_nil _ _ _ _, fun i hi => by simp at hi⟩, World.ownsRow_nil _ _ _ _, fun u h => by simp at h⟩
    case round =>
      obtain ⟨v, A2, A3, c2, c3, fans, rs, rfl, hv, hfl2, hrl2, hgr, hT, hOF, hOR, hFan⟩ := hrel
      have hRr : Blk wr W.heap.size 29 #[.slice none 0 0, .slice none 0 0, .slice none 0 0] := (hgr.block _ (by have := hR3.lt; omega) (by intro e; cases e; omega)).trans hR3
      have hHr : Blk wr g 79 (hubCs N fun v => hubOf (waysL 0 fs) (v : Int) (waysL 0 fs)) := (hgr.block _ (by omega) (by intro e; cases e; omega)).trans hH3
      have hMr : GoM wr B (waysL 0 fs) := hM3.kept hgr (by intro e; cases e; omega)
      have hbelr : Below W.heap.size W wr := bel_own hbel3 hgr (fun k hk => by cases hk; omega)
      clear hR3 hH3 hM3 hbel3 hT3 hb3
      by_cases hlt : v < N
      · have q0 : (0 : Int) ≤ (v : Int) := by omega
        have q1 : (v : Int) < (N : Int) := by omega
        have hS := hub_start (hST.out v hlt)
        have x0 := hHr.cell (v * 2)
        have x1 := hHr.cell (v * 2 + 1)
        rw [hubCs_0 _ _ v hlt] at x0
        rw [hubCs_1 _ _ v hlt] at x1
        have hgl := hHr.lt
        have hcnt := hubOf_count (waysL 0 fs) (waysL 0 fs) (v : Int)
        have hcl : (hubOf (waysL 0 fs) (v : Int) (waysL 0 fs)).2 < 1099511627776 := by
          rw [hcnt]; exact Nat.lt_of_le_of_lt (List.length_filter_le _ _) hlen
        have hsi : i64B (hubOf (waysL 0 fs) (v : Int) (waysL 0 fs)).1 := by
          obtain ⟨w, hw, e⟩ := hS; rw [← e]; exact (hrng w hw).2
        have hvi : i64B (v : Int) := by unfold i64B; omega
        replace hFan := Lib.hid hFan
        replace hcnt := Lib.hid hcnt
        have hUQ := Lib.hid (fun (L : List Way) (r : Bool) (h : FanR (waysL 0 fs) (v : Int) (hubOf (waysL 0 fs) (v : Int) (waysL 0 fs)).1 L r) (hlt : L.length < (hubOf (waysL 0 fs) (v : Int) (waysL 0 fs)).2) => (show ¬ Surf (N : Int) fs from fun hs => by
          obtain ⟨M, s, h1, h2⟩ := hs.2 (v : Int) (by omega) (by omega)
          obtain ⟨rfl, _⟩ := h.unique ok.apart h1
          rw [hcnt.out] at hlt
          omega))
        generalize hho : hubOf (waysL 0 fs) (v : Int) (waysL 0 fs) = ho at *
        obtain ⟨st, cn⟩ := ho
        replace hho := Lib.hid hho
        simp only at x0 x1 hcl hsi
        have hbox : Blk (wr.alloc (.cells #[.int .i64 st, .int .i64 (cn : Int)] 79)) wr.heap.size 79 #[.int .i64 st, .int .i64 (cn : Int)] := Blk.new _ _ _ _ rfl
        have hb4 : Below wr.heap.size wr (wr.alloc (.cells #[.int .i64 st, .int .i64 (cn : Int)] 79)) := bel_alloc (Below.refl _ _) _
        have hM4 := hMr.below hb4
        have hszr := hgr.size
        go_upto_region 8 with (fail)
        generalize wr.alloc (.cells #[.int .i64 st, .int .i64 (cn : Int)] 79) = W4 at *
        have z0 : W4.cell? ⟨wr.heap.size, 0, none⟩ = some (.int .i64 st) := hbox.cell 0
        have z1 : W4.cell? ⟨wr.heap.size, 1, none⟩ = some (.int .i64 (cn : Int)) := hbox.cell 1
        have cF := fan_any W4 B (N : Int) fs ok hM4 hway (v : Int) st cn hvi hsi hcl hlen
        have hbl := hbox.lt
        clear x0 x1 hHr hgl hMr
        go_upto_region 9 with (first | (go_at_call 42; (with_reducible refine cF.mono ?_); rintro e W5 ⟨L, r, val, hFR, rfl, hb5, hval⟩; obtain ⟨Av, cv, rfl⟩ := own_form hval) | fail)
        have y1 : W5.cell? ⟨wr.heap.size, 1, none⟩ = some (.int .i64 (cn : Int)) := (hb5.cell (p := ⟨wr.heap.size, 1, none⟩) hbl).trans z1
        have hbl5 := Nat.lt_of_lt_of_le hbl hb5.size
        have hb45 := bel_trans hb4 hb5
        have hg5 : W3.grownBy W5 (some T) := hgr.trans ((grown_of hb45).but _)
        have hT5 := hT.below hb45
        have hOF5 := hOF.lay hb45
        have hOR5 := own_lay hOR hb45
        have hR5 := hRr.below hb45
        have hbel5 := bel_trans hbelr hb45
        have hle5 := hFR.toFanC.le ok
        have hval5 := own_base (base' := Z) hval (by have := hb4.size; omega)
        clear hval hT hOF hOR hRr hbelr hgr hb4 hb5 hb45 hM4 hbox z0 z1 cF hbl
        generalize wr.heap.size = X at *
        by_cases hc : L.length < cn
        · have hci : ((L.length : Int) < (cn : Int)) := by omega
          have hno := Lib.hid (hUQ.out L r hFR hc)
          have f0 := hR5.frozen 0
          have f1 := hR5.frozen 1
          have f2 := hR5.frozen 2
          have x0 : W5.cell? ⟨W.heap.size, 0, none⟩ = some (.slice none 0 0) := hR5.cell 0
          have x1 : W5.cell? ⟨W.heap.size, 1, none⟩ = some (.slice none 0 0) := hR5.cell 1
          have x2 : W5.cell? ⟨W.heap.size, 2, none⟩ = some (.slice none 0 0) := hR5.cell 2
          have xl := hR5.lt
          have hE := ((hR5.set 0 (.slice none 0 0)).set 1 (.slice none 0 0)).set 2 (.slice none 0 0)
          have hbE := bel_set (bel_set (bel_set hbel5 (p := ⟨W.heap.size, 0, none⟩) (Nat.le_refl _) (.slice none 0 0)) (p := ⟨W.heap.size, 1, none⟩) (Nat.le_refl _) (.slice none 0 0)) (p := ⟨W.heap.size, 2, none⟩) (Nat.le_refl _) (.slice none 0 0)
          replace hE := Lib.hid hE
          replace hbE := Lib.hid hbE
          clear hUQ hcnt hFan hST hOF5 hOR5 hval5 hT5 hg5 hFR hS hR5 hbel5
          go_wp2
          replace hE := hE.out
          replace hbE := hbE.out
          generalize ((W5.setCell ⟨W.heap.size, 0, none⟩ (.slice none 0 0)).setCell ⟨W.heap.size, 1, none⟩ (.slice none 0 0)).setCell ⟨W.heap.size, 2, none⟩ (.slice none 0 0) = WE at *
          have y0 : WE.cell? ⟨W.heap.size, 0, none⟩ = some (.slice none 0 0) := hE.cell 0
          have y1 : WE.cell? ⟨W.heap.size, 1, none⟩ = some (.slice none 0 0) := hE.cell 1
          have y2 : WE.cell? ⟨W.heap.size, 2, none⟩ = some (.slice none 0 0) := hE.cell 2
          refine bodyPost_ret (v := .tuple #[.agg #[.slice none 0 0, .slice none 0 0, .slice none 0 0], .int .i64 14]) (by simp [results, Try.results17, go_sem, y0, y1, y2]) rfl ?_
          exact ⟨hbE, .inl ⟨hno.out, rfl⟩⟩
        · have hci : ¬((L.length : Int) < (cn : Int)) := by omega
          have hLc : L.length = (froms (waysL 0 fs) (v : Int)).length := by
            have := hcnt.out
            omega
          have t1 : W5.cell? ⟨T, 1, none⟩ = some (.slice A2 fans.length c2) := hT5.cell 1
          have tl := hT5.lt
          obtain ⟨vals, hO1, hO2⟩ := hOF5.row
          obtain ⟨i1, hi1, hy0, hy1, hy2⟩ := info_parts infoIS
          replace hLc := Lib.hid hLc
          have hfN : fans.length < 1099511627776 := by omega
          have hrN : rs.length < 1099511627776 := by omega
          replace hfl2 := Lib.hid hfl2
          replace hrl2 := Lib.hid hrl2
          replace hFR := Lib.hid hFR
          replace hOR5 := Lib.hid hOR5
          have hbk := own_block hO1
          have hsz5 := hg5.size
          go_upto_region 11 with (fail)
          go_upto_region 12 with (first | (at_builtin; (refine wpList_append_own _ rfl _ _ 22 rfl Z 41 i1 _ 1 24 Try.underlying22 hi1 hy0 hy1 hy2 rfl (by decide) _ _ _ rfl (hO1.alloc _) ⟨W5.heap.size, 0, none⟩ 1 1 [.slice Av L.length cv] rfl rfl (cell_one_new _ _ _) (fun x hx => by simp at hx; subst hx; rfl) (by unfold maxLen; omega) (by omega) (by simp; omega) ?_); intro v6 W6 hown6 hg6 hnil; have hg56 : W5.grownBy W6 (Value.slice A2 fans.length c2).ownBlock := (World.grownBy_alloc _ _ _).trans hg6; clear hg6 hnil; obtain ⟨A6, c6, rfl⟩ := own_form hown6; have hT6 : Blk W6 T 29 #[.slice none 0 0, .slice A2 fans.length c2, .slice A3 rs.length c3] := (hg56.block _ tl (fun e => by have := (hbk _ e.symm).1; omega)).trans hT5; have tl6 := hT6.lt; have tf6 := hT6.frozen 1; have t6 : W6.cell? ⟨T, 1, none⟩ = some (.slice A2 fans.length c2) := hT6.cell 1) | fail)
          have hOF6 : OwnF W6 Z A6 c6 (fans ++ [L.map Way.f]) := OwnF.add hO2 hO1 (by simpa using hval5) hg56 (by simpa using hown6)
          have hOR6 := own_kept hOR5.out hg56 (fun k hk e => own_type hOR5.out hO1 (by decide) k hk e)
          have hg6b := hg5.andThen hg56 (fun j hj => .inl (by have := (hbk j hj).1; omega))
          have hR6 : Blk W6 W.heap.size 29 #[.slice none 0 0, .slice none 0 0, .slice none 0 0] := (hg56.block _ hR5.lt (fun e => by have := (hbk _ e.symm).1; omega)).trans hR5
          have hbel6 := bel_own hbel5 hg56 (fun k hk => by have := (hbk k hk).1; omega)
          have hsg := set_grown W6 T 1 (.slice A6 (fans.length + 1) c6)
          have hOF7 := hOF6.kept hsg (fun k hk => .inl (by cases hk; omega))
          have hOR7 := own_kept hOR6 hsg (fun k hk e => by have := (own_block hOR6 k hk).1; cases e; omega)
          have hg7 := hg6b.andThen hsg (fun j hj => .inr hj)
          have hR7 := hR6.far 1 (.slice A6 (fans.length + 1) c6) (b := T) (by omega)
          have hbel7 := bel_set hbel6 (p := ⟨T, 1, none⟩) (by simp only; omega) (.slice A6 (fans.length + 1) c6)
          have hT7 : Blk (W6.setCell ⟨T, 1, none⟩ (.slice A6 (fans.length + 1) c6)) T 29 #[.slice none 0 0, .slice A6 (fans.length + 1) c6, .slice A3 rs.length c3] := hT6.set 1 _
          clear hOF6 hOR6 hg6b hR6 hbel6 hsg hT6 hOR5 hg5 hR5 hbel5 hg56 hown6 hO1 hO2 hOF5 hval5 hT5 tl6 tf6 t6 t1 tl hbk hsz5
          generalize W6.setCell ⟨T, 1, none⟩ (.slice A6 (fans.length + 1) c6) = W7 at *
          have t7 : W7.cell? ⟨T, 2, none⟩ = some (.slice A3 rs.length c3) := hT7.cell 2
          have tl7 := hT7.lt
          have hbk := own_block hOR7
          have hsz7 := hg7.size
          obtain ⟨i2, hi2, hw0, hw1, hw2⟩ := info_parts infoB
          replace hOF7 := Lib.hid hOF7
          go_upto_region 13 with (first | (at_builtin; (refine wpList_append_own _ rfl _ _ 27 rfl Z 4 i2 _ 1 1 Try.underlying27 hi2 hw0 hw1 hw2 rfl (by decide) _ _ _ rfl (hOR7.alloc _) ⟨W7.heap.size, 0, none⟩ 1 1 [.bool r] rfl rfl (cell_one_new _ _ _) (fun x hx => by simp at hx; subst hx; rfl) (by unfold maxLen; omega) (by omega) (by simp; omega) ?_); intro v8 W8 hown8 hg8 hnil; have hg78 : W7.grownBy W8 (Value.slice A3 rs.length c3).ownBlock := (World.grownBy_alloc _ _ _).trans hg8; clear hg8 hnil; obtain ⟨A8, c8, rfl⟩ := own_form hown8; have hT8 : Blk W8 T 29 #[.slice none 0 0, .slice A6 (fans.length + 1) c6, .slice A3 rs.length c3] := (hg78.block _ tl7 (fun e => by have := (hbk _ e.symm).1; omega)).trans hT7; have tl8 := hT8.lt; have tf8 := hT8.frozen 2; have t8 : W8.cell? ⟨T, 2, none⟩ = some (.slice A3 rs.length c3) := hT8.cell 2) | fail)
          have hOF8 := hOF7.out.kept hg78 (fun k hk => .inr ⟨_, _, _, _, _, _, hOR7, hk, by decide, by decide⟩)
          have hg8b := hg7.andThen hg78 (fun j hj => .inl (by have := (hbk j hj).1; omega))
          have hsg := set_grown W8 T 2 (.slice A8 (rs.length + 1) c8)
          have hOF9 := hOF8.kept hsg (fun k hk => .inl (by cases hk; omega))
          have hOR9 := own_kept hown8 hsg (fun k hk e => by have := (own_block hown8 k hk).1; cases e; omega)
          have hg9 := hg8b.andThen hsg (fun j hj => .inr hj)
          have hT9 : Blk (W8.setCell ⟨T, 2, none⟩ (.slice A8 (rs.length + 1) c8)) T 29 #[.slice none 0 0, .slice A6 (fans.length + 1) c6, .slice A8 (rs.length + 1) c8] := hT8.set 2 _
          clear hOF8 hg8b hsg hT8 hT7 hg78 hown8 hOR7 hOF7 hg7 hR7 hbel7 tl8 tf8 t8 t7 tl7 hbk hsz7
          generalize W8.setCell ⟨T, 2, none⟩ (.slice A8 (rs.length + 1) c8) = W9 at *
          go_wp2
          go_roundw
          case rel =>
            refine ⟨v + 1, A6, A8, c6, c8, fans ++ [L.map Way.f], rs ++ [r], by go_num, by omega, by simp [hfl2.out], by simp [hrl2.out], hg9, by simpa using hT9, hOF9, by simpa using hOR9, fun u h h2 => ?_⟩
            have hff := hfl2.out
            have hrr := hrl2.out
            rcases Nat.lt_or_ge u v with hu | hu
            · obtain ⟨M, h3, h4, h5⟩ := hFan.out u (by omega) (by omega)
              refine ⟨M, ?_, h4, ?_⟩
              · rw [List.getElem_append_left (by omega)]; exact h3
              · rw [List.getElem_append_left (by omega)]; exact h5
            · have e : u = v := by simp at h; omega
              subst e
              refine ⟨L, ?_, hLc.out, ?_⟩
              · rw [hho.out, List.getElem_append_right (by omega)]
                simpa [hrr] using hFR.out
              · rw [List.getElem_append_right (by omega)]
                simp [hff]
          case measure => simp [intOf]; omega
      · obtain rfl : v = N := by omega
        have cE := edges_any wr B (v : Int) fs ok hMr hlen
        have tl := hT.lt
        go_upto_region 14 with (fail)
        go_upto_region 15 with (first | (go_at_call 43; (with_reducible refine cE.mono ?_); rintro e W5 ⟨L, A5, c5, hER, rfl, hb5, hE5⟩; have hT5 := hT.below hb5; have tl5 := hT5.lt; have tf5 := hT5.frozen 0; have t5 : W5.cell? ⟨T, 0, none⟩ = some (.slice none 0 0) := hT5.cell 0) | fail)
        have hg5 : W3.grownBy W5 (some T) := hgr.trans ((grown_of hb5).but _)
        have hOF5 := hOF.lay hb5
        have hOR5 := own_lay hOR hb5
        have hR5 := hRr.below hb5
        have hbel5 := bel_trans hbelr hb5
        have hszr := hgr.size
        have hbk := own_block hE5
        have hsg := set_grown W5 T 0 (.slice A5 L.length c5)
        have hOF6 := hOF5.kept hsg (fun k hk => .inl (by cases hk; omega))
        have hOR6 := own_kept hOR5 hsg (fun k hk e => by have := (own_block hOR5 k hk).1; cases e; omega)
        have hE6 := own_kept hE5 hsg (fun k hk e => by have := (hbk k hk).1; cases e; omega)
        have hR6 := hR5.far 0 (.slice A5 L.length c5) (b := T) (by omega)
        have hbel6 := bel_set hbel5 (p := ⟨T, 0, none⟩) (by simp only; omega) (.slice A5 L.length c5)
        have hT6 : Blk (W5.setCell ⟨T, 0, none⟩ (.slice A5 L.length c5)) T 29 #[.slice A5 L.length c5, .slice A2 fans.length c2, .slice A3 rs.length c3] := hT5.set 0 _
        clear hOF5 hOR5 hE5 hR5 hbel5 hsg hT5 hg5 hbk tl5 tf5 t5 hb5 hT hOF hOR hRr hbelr hgr
        generalize W5.setCell ⟨T, 0, none⟩ (.slice A5 L.length c5) = W6 at *
        have x0 : W6.cell? ⟨T, 0, none⟩ = some (.slice A5 L.length c5) := hT6.cell 0
        have x1 : W6.cell? ⟨T, 1, none⟩ = some (.slice A2 fans.length c2) := hT6.cell 1
        have x2 : W6.cell? ⟨T, 2, none⟩ = some (.slice A3 rs.length c3) := hT6.cell 2
        have r0 : W6.cell? ⟨W.heap.size, 0, none⟩ = some (.slice none 0 0) := hR6.cell 0
        have r1 : W6.cell? ⟨W.heap.size, 1, none⟩ = some (.slice none 0 0) := hR6.cell 1
        have r2 : W6.cell? ⟨W.heap.size, 2, none⟩ = some (.slice none 0 0) := hR6.cell 2
        have f0 := hR6.frozen 0
        have f1 := hR6.frozen 1
        have f2 := hR6.frozen 2
        have rl := hR6.lt
        have xl := hT6.lt
        have hRT : W.heap.size ≠ T := by omega
        have hE := ((hR6.set 0 (.slice A5 L.length c5)).set 1 (.slice A2 fans.length c2)).set 2 (.slice A3 rs.length c3)
        have hbE := bel_set (bel_set (bel_set hbel6 (p := ⟨W.heap.size, 0, none⟩) (Nat.le_refl _) (.slice A5 L.length c5)) (p := ⟨W.heap.size, 1, none⟩) (Nat.le_refl _) (.slice A2 fans.length c2)) (p := ⟨W.heap.size, 2, none⟩) (Nat.le_refl _) (.slice A3 rs.length c3)
        have hRlt : W.heap.size < Z := by omega
        have hgE : W6.grownBy (((W6.setCell ⟨W.heap.size, 0, none⟩ (.slice A5 L.length c5)).setCell ⟨W.heap.size, 1, none⟩ (.slice A2 fans.length c2)).setCell ⟨W.heap.size, 2, none⟩ (.slice A3 rs.length c3)) (some W.heap.size) := ((set_grown W6 W.heap.size 0 _).trans (set_grown _ W.heap.size 1 _)).trans (set_grown _ W.heap.size 2 _)
        have hOFe := (hOF6.kept hgE (fun k hk => .inl (by cases hk; omega))).fl
        have hORe := BL_own (own_kept hOR6 hgE (fun k hk e => by have := (own_block hOR6 k hk).1; cases e; omega))
        have hEe := EL_own (own_kept hE6 hgE (fun k hk e => by have := (own_block hE6 k hk).1; cases e; omega)) (srt_perm L).length_eq
        replace hE := Lib.hid hE
        replace hbE := Lib.hid hbE
        replace hOFe := Lib.hid hOFe
        replace hORe := Lib.hid hORe
        replace hEe := Lib.hid hEe
        replace hfl2 := Lib.hid hfl2
        replace hrl2 := Lib.hid hrl2
        replace hFan := Lib.hid hFan
        clear hOF6 hOR6 hE6 hR6 hbel6 hT6 hgE cE
        go_wp2
        replace hE := hE.out
        replace hbE := hbE.out
        replace hOFe := hOFe.out
        replace hORe := hORe.out
        replace hEe := hEe.out
        generalize ((W6.setCell ⟨W.heap.size, 0, none⟩ (.slice A5 L.length c5)).setCell ⟨W.heap.size, 1, none⟩ (.slice A2 fans.length c2)).setCell ⟨W.heap.size, 2, none⟩ (.slice A3 rs.length c3) = WE at *
        have y0 : WE.cell? ⟨W.heap.size, 0, none⟩ = some (.slice A5 L.length c5) := hE.cell 0
        have y1 : WE.cell? ⟨W.heap.size, 1, none⟩ = some (.slice A2 fans.length c2) := hE.cell 1
        have y2 : WE.cell? ⟨W.heap.size, 2, none⟩ = some (.slice A3 rs.length c3) := hE.cell 2
        refine bodyPost_ret (v := .tuple #[.agg #[.slice A5 L.length c5, .slice A2 fans.length c2, .slice A3 rs.length c3], .int .i64 0]) (by simp [results, Try.results17, go_sem, y0, y1, y2]) rfl ?_
        have hS : TopoS (v : Int) fs ⟨(srt L).map fun p => edOf (waysL 0 fs) p.1 p.2, fans, rs⟩ := ⟨ok, hER, by simp [hfl2.out], by simp [hrl2.out], fun u h h2 => hFan.out u h h2⟩
        have hls : ((srt L).map fun p => edOf (waysL 0 fs) p.1 p.2).length = L.length := by rw [List.length_map, (srt_perm L).length_eq]
        exact ⟨hbE, .inr ⟨hS.surf, _, A5, A2, A3, c5, c2, c3, hS, ⟨hEe, hOFe, hORe⟩, by rw [hls]⟩⟩
end Go.Proofs.Ytbehobojgeganaa