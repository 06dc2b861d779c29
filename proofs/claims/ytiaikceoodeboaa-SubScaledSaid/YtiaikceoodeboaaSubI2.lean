/- Package sub: the finer faces, in rows made anew. -/
import Derived.Test.YtiaikceoodeboaaC11
import Derived.Test.YtiaikceoodeboaaC13
namespace Go.Proofs.Ytiaikceoodeboaa
open Go.RowKit
set_option linter.unusedVariables false
set_option linter.unusedSimpArgs false
set_option linter.unnecessarySimpa false
set_option maxRecDepth 100000
/-- Rows of numbers that don't lie below base. -/
def FLb (base : Nat) (W : World) (A : Option Addr) (fs : List (List Int)) : Prop := FL W A fs ∧ ∀ b o s, A = some ⟨b, o, s⟩ → base ≤ b
theorem FLb.below {base : Nat} {W W' : World} {A : Option Addr} {fs : List (List Int)} (h : FLb base W A fs) (hb : Below W.heap.size W W') : FLb base W' A fs := ⟨h.1.below hb, h.2⟩
theorem OwnF.fresh {W : World} {base c : Nat} {A : Option Addr} {fans : List (List Int)} (h : OwnF W base A c fans) : ∀ b o s, A = some ⟨b, o, s⟩ → base ≤ b := fun b o s e => by
  obtain ⟨vals, h1, _⟩ := h.row
  subst e
  rcases h1.2 with ⟨h2, _⟩ | ⟨g, cap, cur, h2, h3, _⟩
  · cases h2
  · cases h2; exact h3
set_option maxHeartbeats 4000000 in
theorem quarters2_any (W : World) (A1 A2 A3 B1 B2 B3 S M : Option Addr) (n1 n3 m2 m3 ns nm k1 k2 k3 d1 d2 d3 s1 s2 : Nat) (es : List Ed) (fs : List (List Int)) (hF : FL W A2 fs) (hE : EL W B1 es) (hs : es.Pairwise ltE) (hl : es.length < 1099511627776) (hn : n1 < 1099511627776) (hfl : fs.length < 1099511627776) (hx3 : ∀ x ∈ fs, 3 ≤ x.length) (hxl : ∀ x ∈ fs, x.length < 1099511627776) (htl : (cornL 0 fs).length < 1099511627776) (he : ∀ x ∈ fs, ∀ j, j < x.length → eix es (x.getD j 0) (x.getD ((j + 1) % x.length) 0) < es.length) :
    Calls Try.prog 36 #[.agg #[.slice A1 n1 k1, .slice A2 fs.length k2, .slice A3 n3 k3, .slice B1 es.length d1, .slice B2 m2 d2, .slice B3 m3 d3, .slice S ns s1, .slice M nm s2]] W fun e W' => ∃ A c, e = .returned (.slice A (fine (n1 : Int) es fs).length c) ∧ FLb W.heap.size W' A (fine (n1 : Int) es fs) ∧ Below W.heap.size W W' := by
  obtain ⟨i1, hi1, hy0, hy1, hy2⟩ := info_parts infoIS
  have hb0 : Below W.heap.size W (W.alloc (.cells #[.slice A1 n1 k1, .slice A2 fs.length k2, .slice A3 n3 k3, .slice B1 es.length d1, .slice B2 m2 d2, .slice B3 m3 d3, .slice S ns s1, .slice M nm s2] 79)) := bel_alloc (Below.refl _ _) _
  have hC0 : Blk (W.alloc (.cells #[.slice A1 n1 k1, .slice A2 fs.length k2, .slice A3 n3 k3, .slice B1 es.length d1, .slice B2 m2 d2, .slice B3 m3 d3, .slice S ns s1, .slice M nm s2] 79)) W.heap.size 79 #[.slice A1 n1 k1, .slice A2 fs.length k2, .slice A3 n3 k3, .slice B1 es.length d1, .slice B2 m2 d2, .slice B3 m3 d3, .slice S ns s1, .slice M nm s2] := Blk.new _ _ _ _ rfl
  have hsz0 : (W.alloc (.cells #[.slice A1 n1 k1, .slice A2 fs.length k2, .slice A3 n3 k3, .slice B1 es.length d1, .slice B2 m2 d2, .slice B3 m3 d3, .slice S ns s1, .slice M nm s2] 79)).heap.size = W.heap.size + 1 := World.size_alloc _ _
  go_enter Try.func36, Try.ntmps36
  go_upto_region 1 with (fail)
  generalize W.alloc (.cells #[.slice A1 n1 k1, .slice A2 fs.length k2, .slice A3 n3 k3, .slice B1 es.length d1, .slice B2 m2 d2, .slice B3 m3 d3, .slice S ns s1, .slice M nm s2] 79) = W0 at *
  have x1 : W0.cell? ⟨W.heap.size, 1, none⟩ = some (.slice A2 fs.length k2) := hC0.cell 1
  have xl := hC0.lt
  go_wp2
  go_loopw [3, 15] (fun lv iv wr => ∃ (k : Nat) (A : Option Addr) (c : Nat), iv = .int .i64 (k : Int) ∧ k ≤ fs.length ∧ lv = .slice A (fine (n1 : Int) es (fs.take k)).length c ∧ OwnF wr (W.heap.size + 1) A c (fine (n1 : Int) es (fs.take k)) ∧ Below W.heap.size W wr ∧ Blk wr W.heap.size 79 #[.slice A1 n1 k1, .slice A2 fs.length k2, .slice A3 n3 k3, .slice B1 es.length d1, .slice B2 m2 d2, .slice B3 m3 d3, .slice S ns s1, .slice M nm s2]) (fun _ iv _ => fs.length - (intOf iv).toNat)
  case atStart => exact ⟨0, none, 0, rfl, by omega, rfl, ⟨[], World.ownsRow_nil _ _ _ _, fun i hi => by simp [fine, cornL] at hi⟩, hb0, hC0⟩
  case round =>
    obtain ⟨k, A, c, rfl, hk, rfl, hOF, hBr, hCr⟩ := hrel
    clear hb0 hC0 x1 xl
    by_cases hlt : k < fs.length
    · obtain ⟨b2, o2, B, m, rfl, hl2w, hcellw, hIL⟩ := hF.at_ k hlt
      have hcell := (hBr.cell (p := ⟨b2, o2 + k, none⟩) hl2w).trans hcellw
      have hl2 := Nat.lt_of_lt_of_le hl2w hBr.size
      clear hcellw
      have hx31 := hx3 _ (List.getElem_mem hlt)
      have hxl1 := hxl _ (List.getElem_mem hlt)
      have he1 := he _ (List.getElem_mem hlt)
      have htk : fine (n1 : Int) es (fs.take (k + 1)) = fine (n1 : Int) es (fs.take k) ++ (cornF (k : Int) fs[k]).map (quadOf (n1 : Int) es) := by
        unfold fine
        rw [List.take_succ_eq_append_getElem hlt, cornL_snoc, List.map_append]
        simp [Nat.min_eq_left (Nat.le_of_lt hlt)]
      have hln : (fine (n1 : Int) es (fs.take k)).length + fs[k].length ≤ (cornL 0 fs).length := by
        have e1 := congrArg List.length htk
        have e2 : (fine (n1 : Int) es (fs.take (k + 1))).length ≤ (cornL 0 fs).length := by
          rw [fine_len, cornL_len, waysL_len, waysL_len]; exact tot_le fs (k + 1)
        rw [List.length_append, List.length_map, cornF, List.length_map, List.length_range] at e1
        omega
      generalize fs[k] = x at *
      replace htk := Lib.hid htk
      have q0 : (0 : Int) ≤ (k : Int) := by omega
      have q1 : (k : Int) < (fs.length : Int) := by omega
      obtain ⟨G0, hG0⟩ : ∃ G0, G0 = fine (n1 : Int) es (fs.take k) := ⟨_, rfl⟩
      rw [← hG0] at hOF htk hln
      try rw [← hG0]
      replace hG0 := Lib.hid hG0
      -- the way behind the first corner
      have hlast : (x.length : Int) - 1 = ((x.length - 1 : Nat) : Int) := by omega
      obtain ⟨b9, o9, rfl, hl9, hc9⟩ := (hIL.below hBr) (by omega)
      have g0 := hc9 0 (by omega)
      have g1 := hc9 (x.length - 1) (by omega)
      rw [Nat.add_zero] at g0
      have he0 := he1 (x.length - 1) (by omega)
      rw [show (x.length - 1 + 1) % x.length = 0 by rw [Nat.sub_add_cancel (by omega), Nat.mod_self]] at he0
      have hbh : hBehind (n1 : Int) es (cw (k : Int) x 0) = (n1 : Int) + (eix es (x.getD (x.length - 1) 0) (x.getD 0 0) : Int) := by
        unfold hBehind cw
        simp only
        rw [show (0 + x.length - 1) % x.length = x.length - 1 by rw [Nat.zero_add]; exact Nat.mod_eq_of_lt (by omega)]
      have ed0 : x.getD 0 0 = x[0]'(by omega) := getD_at (by omega)
      have ed1 : x.getD (x.length - 1) 0 = x[x.length - 1]'(by omega) := getD_at (by omega)
      rw [ed0, ed1] at he0 hbh
      generalize x[0]'(by omega) = xa at *
      generalize x[x.length - 1]'(by omega) = xb at *
      clear ed0 ed1
      replace hbh := Lib.hid hbh
      have cH := fun (W1 : World) (hb : Below W.heap.size W W1) => half_any W1 A1 (some ⟨b2, o2, none⟩) A3 B1 B2 B3 S M n1 fs.length n3 m2 m3 ns nm k1 k2 k3 d1 d2 d3 s1 s2 es xb xa (hE.below hb) hs hl hn he0
      generalize (eix es xb xa : Int) = ix at *
      have x0 : wr.cell? ⟨W.heap.size, 0, none⟩ = some (.slice A1 n1 k1) := hCr.cell 0
      have x1 : wr.cell? ⟨W.heap.size, 1, none⟩ = some (.slice (some ⟨b2, o2, none⟩) fs.length k2) := hCr.cell 1
      have x2 : wr.cell? ⟨W.heap.size, 2, none⟩ = some (.slice A3 n3 k3) := hCr.cell 2
      have x3 : wr.cell? ⟨W.heap.size, 3, none⟩ = some (.slice B1 es.length d1) := hCr.cell 3
      have x4 : wr.cell? ⟨W.heap.size, 4, none⟩ = some (.slice B2 m2 d2) := hCr.cell 4
      have x5 : wr.cell? ⟨W.heap.size, 5, none⟩ = some (.slice B3 m3 d3) := hCr.cell 5
      have x6 : wr.cell? ⟨W.heap.size, 6, none⟩ = some (.slice S ns s1) := hCr.cell 6
      have x7 : wr.cell? ⟨W.heap.size, 7, none⟩ = some (.slice M nm s2) := hCr.cell 7
      have xl := hCr.lt
      go_upto_region 6 with (fail)
      have cQ := fun x_ => cH (grow wr x_) (bel_grow hBr x_)
      refine wp_region_grow (by kernel_rfl) (by kernel_rfl) ?_
      repeat (go_big_quiet_step ((first | exact calls_quiet _ (cQ _) | exact calls_quiet2 _ _ (cQ _))))
      refine wpQuiet_nil ?_
      rintro _ ⟨xg, rfl⟩
      have hB3 := bel_grow hBr xg
      have hC3 := hCr.grow xg
      have hOF3 := hOF.lay (bel_grow (Below.refl _ wr) xg)
      clear hBr hCr hOF cH cQ hcell g0 g1 hl9 hl2 hc9 x0 x1 x2 x3 x4 x5 x6 x7 xl he0
      generalize grow wr xg = W3 at *
      go_wp2
      go_loopw [3, 7, 44] (fun lv av jv wq => ∃ (j : Nat) (A : Option Addr) (c : Nat), jv = .int .i64 (j : Int) ∧ j ≤ x.length ∧ lv = .slice A (gsJ (n1 : Int) es (k : Int) x G0 j).length c ∧ OwnF wq (W.heap.size + 1) A c (gsJ (n1 : Int) es (k : Int) x G0 j) ∧ (j < x.length → av = .int .i64 (hBehind (n1 : Int) es (cw (k : Int) x j))) ∧ Below W.heap.size W wq ∧ Blk wq W.heap.size 79 #[.slice A1 n1 k1, .slice (some ⟨b2, o2, none⟩) fs.length k2, .slice A3 n3 k3, .slice B1 es.length d1, .slice B2 m2 d2, .slice B3 m3 d3, .slice S ns s1, .slice M nm s2]) (fun _ _ jv _ => x.length - (intOf jv).toNat)
      case atStart => exact ⟨0, A, c, rfl, by omega, by rw [gsJ_zero], by rw [gsJ_zero]; exact hOF3, fun _ => by rw [hbh.out], hB3, hC3⟩
      case round =>
        obtain ⟨j, A, c, rfl, hj, rfl, hOF, hav, hBq, hCq⟩ := hrel
        clear hOF3 hB3 hC3
        rename World => wq
        by_cases hjl : j < x.length
        · obtain rfl := hav hjl
          clear hav
          obtain ⟨b8, o8, e8, hl9, hc9⟩ := (hIL.below hBq) (by omega)
          obtain ⟨rfl, rfl⟩ : b9 = b8 ∧ o9 = o8 := by simpa using e8
          have hmj : (j + 1) % x.length < x.length := Nat.mod_lt _ (by omega)
          have g0 := hc9 j hjl
          have g1 := hc9 ((j + 1) % x.length) hmj
          have he0 := he1 j hjl
          have ed0 : x.getD j 0 = x[j] := getD_at hjl
          have ed1 : x.getD ((j + 1) % x.length) 0 = x[(j + 1) % x.length] := getD_at hmj
          have hq : quadOf (n1 : Int) es (cw (k : Int) x j) = [x[j], (n1 : Int) + (eix es x[j] x[(j + 1) % x.length] : Int), (n1 : Int) + (es.length : Int) + (k : Int), hBehind (n1 : Int) es (cw (k : Int) x j)] := by
            unfold quadOf hAhead hMid
            simp only [cw]
            rw [ed0, ed1]
          have hnx : j + 1 < x.length → hBehind (n1 : Int) es (cw (k : Int) x (j + 1)) = (n1 : Int) + (eix es x[j] x[(j + 1) % x.length] : Int) := fun h => by
            rw [behind_next _ _ _ _ h]
            unfold hAhead
            simp only [cw]
            rw [ed0, ed1]
          rw [ed0, ed1] at he0
          have hremt : ((j : Int) + 1).tmod (x.length : Int) = (((j + 1) % x.length : Nat) : Int) := by
            rw [Int.tmod_eq_emod_of_nonneg (by omega)]; simp
          have cH := fun (W1 : World) (hb : Below W.heap.size W W1) => half_any W1 A1 (some ⟨b2, o2, none⟩) A3 B1 B2 B3 S M n1 fs.length n3 m2 m3 ns nm k1 k2 k3 d1 d2 d3 s1 s2 es x[j] x[(j + 1) % x.length] (hE.below hb) hs hl hn he0
          clear ed0 ed1 e8
          generalize x[(j + 1) % x.length] = xb at *
          generalize x[j] = xa at *
          generalize hme : (j + 1) % x.length = mm at *
          have hs0 := gsJ_succ (n1 : Int) es (k : Int) x G0 j
          have hgl := gsJ_len (n1 : Int) es (k : Int) x G0 j
          rw [hq] at hs0
          generalize (eix es xa xb : Int) = ix at *
          generalize hBehind (n1 : Int) es (cw (k : Int) x j) = bh at *
          generalize gsJ (n1 : Int) es (k : Int) x G0 j = GJ at *
          have hglb : GJ.length < 1099511627776 := by omega
          replace hgl := Lib.hid hgl
          replace hs0 := Lib.hid hs0
          replace hnx := Lib.hid hnx
          replace hme := Lib.hid hme
          replace hq := Lib.hid hq
          replace hc9 := Lib.hid hc9
          have q2 : (0 : Int) ≤ (j : Int) := by omega
          have q3 : (j : Int) < (x.length : Int) := by omega
          have q4 : (mm : Int) < (x.length : Int) := by omega
          have q5 : (0 : Int) ≤ (mm : Int) := by omega
          have x0 : wq.cell? ⟨W.heap.size, 0, none⟩ = some (.slice A1 n1 k1) := hCq.cell 0
          have x1 : wq.cell? ⟨W.heap.size, 1, none⟩ = some (.slice (some ⟨b2, o2, none⟩) fs.length k2) := hCq.cell 1
          have x2 : wq.cell? ⟨W.heap.size, 2, none⟩ = some (.slice A3 n3 k3) := hCq.cell 2
          have x3 : wq.cell? ⟨W.heap.size, 3, none⟩ = some (.slice B1 es.length d1) := hCq.cell 3
          have x4 : wq.cell? ⟨W.heap.size, 4, none⟩ = some (.slice B2 m2 d2) := hCq.cell 4
          have x5 : wq.cell? ⟨W.heap.size, 5, none⟩ = some (.slice B3 m3 d3) := hCq.cell 5
          have x6 : wq.cell? ⟨W.heap.size, 6, none⟩ = some (.slice S ns s1) := hCq.cell 6
          have x7 : wq.cell? ⟨W.heap.size, 7, none⟩ = some (.slice M nm s2) := hCq.cell 7
          have xl := hCq.lt
          go_upto_region 10 with (fail)
          have cQ := fun x_ => cH (grow wq x_) (bel_grow hBq x_)
          refine wp_region_grow (by kernel_rfl) (by kernel_rfl) ?_
          repeat (go_big_quiet_step ((first | exact calls_quiet _ (cQ _) | exact calls_quiet2 _ _ (cQ _))))
          refine wpQuiet_nil ?_
          rintro _ ⟨xg, rfl⟩
          have hB4 := bel_grow hBq xg
          have hC4 := hCq.grow xg
          have hOF4 := hOF.lay (bel_grow (Below.refl _ wq) xg)
          clear hBq hCq hOF cH cQ g0 g1 x0 x1 x2 x3 x4 x5 x6 x7 xl he0 hl9
          generalize grow wq xg = W4 at *
          have hCl := hC4.lt
          have hx4 := own_int4 W4 xa ((n1 : Int) + ix) ((n1 : Int) + (es.length : Int) + (k : Int)) bh
          have hb5 : Below W4.heap.size W4 (W4.alloc (.cells #[.int .i64 xa, .int .i64 ((n1 : Int) + ix), .int .i64 ((n1 : Int) + (es.length : Int) + (k : Int)), .int .i64 bh] 3)) := bel_alloc (Below.refl _ _) _
          have hOF5 := hOF4.lay hb5
          obtain ⟨vals, hO1, hO2⟩ := hOF5.row
          have hob := own_block hO1
          have hB5 := bel_trans hB4 hb5
          have hC5 := hC4.below hb5
          clear hOF4 hOF5 hB4 hC4 hb5
          go_wp2_with (first | (at_builtin; (refine wpList_append_own _ rfl _ _ 23 rfl (W.heap.size + 1) 29 i1 _ 1 24 Try.underlying23 hi1 hy0 hy1 hy2 rfl (by decide) _ _ _ rfl (hO1.alloc _) ⟨W4.heap.size + 1, 0, none⟩ 1 1 [.slice (some ⟨W4.heap.size, 0, none⟩) 4 4] rfl rfl (by have := cell_one_new (W4.alloc (.cells #[.int .i64 xa, .int .i64 ((n1 : Int) + ix), .int .i64 ((n1 : Int) + (es.length : Int) + (k : Int)), .int .i64 bh] 3)) (.slice (some ⟨W4.heap.size, 0, none⟩) 4 4) 29; rwa [World.size_alloc] at this) (fun x hx => by simp at hx; subst hx; rfl) (by unfold maxLen; omega) (by omega) (by simp; omega) ?_); intro v6 W6 hown6 hg6 hnil; have hg56 := (World.grownBy_alloc (W4.alloc (.cells #[.int .i64 xa, .int .i64 ((n1 : Int) + ix), .int .i64 ((n1 : Int) + (es.length : Int) + (k : Int)), .int .i64 bh] 3)) (.cells #[.slice (some ⟨W4.heap.size, 0, none⟩) 4 4] 29) (Value.slice A GJ.length c).ownBlock).trans hg6; clear hg6 hnil; obtain ⟨A6b, c6b, rfl⟩ := own_form hown6) | fail)
          have hOF6 := OwnF.add (x := [xa, (n1 : Int) + ix, (n1 : Int) + (es.length : Int) + (k : Int), bh]) hO2 hO1 (own_base hx4 (by omega)) hg56 hown6
          rw [← hs0.out] at hOF6
          have hB6 := bel_own hB5 hg56 (fun k hk => by have := (hob k hk).1; omega)
          have hC6 := hC5.kept hg56 (fun e => by have := (hob _ e.symm).1; omega)
          have hl6 : (gsJ (n1 : Int) es (k : Int) x G0 (j + 1)).length = GJ.length + 1 := by rw [hs0.out]; simp
          go_roundw
          case rel => exact ⟨j + 1, A6b, c6b, by go_num, by omega, by rw [hl6], hOF6, fun h => by rw [hnx.out h], hB6, hC6⟩
          case measure => simp [intOf]; omega
        · obtain rfl : j = x.length := by omega
          clear hav
          have hfin := gsJ_all (n1 : Int) es (k : Int) x G0
          rw [← htk.out] at hfin
          rw [hfin] at hOF
          generalize gsJ (n1 : Int) es (k : Int) x G0 x.length = GJ at *
          subst hfin
          go_wp2
          go_roundw
          case rel => exact ⟨k + 1, A, c, by go_num, by omega, rfl, hOF, hBq, hCq⟩
          case measure => simp [intOf]; omega
    · obtain rfl : k = fs.length := by omega
      rw [List.take_length] at hOF
      try rw [List.take_length]
      go_wp2
      go_ret
      exact ⟨A, c, rfl, ⟨hOF.fl, fun b o s e => by have := hOF.fresh b o s e; omega⟩, hBr⟩
end Go.Proofs.Ytiaikceoodeboaa
