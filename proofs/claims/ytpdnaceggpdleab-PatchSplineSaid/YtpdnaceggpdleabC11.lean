/- Package sub: the finer faces. Package sub: what is left of creases. slices.Concat and Grow at points. A region in any order: reads and quiet calls, one block made, one store into it, and more operations that only read or name: any of them may fall behind or between. No program is imported. A region in any order: reads and quiet calls, two blocks made, a store into each, and more operations that only read or name. Operations other than the quiet ones are told by a state: of it the world is known. No program is imported. As XMono, where operations of one order follow the first n. No program is imported. -/
import Derived.Shelf.Spec.SlicesGrow
import Derived.StillTail
import Derived.Test.YtpdnaceggpdleabC1
import Derived.Test.YtpdnaceggpdleabC3
import Derived.Test.YtpdnaceggpdleabC6
import Derived.Test.YtpdnaceggpdleabC9
import Derived.Test.YtpdnaceggpdleabC10
namespace Go.Proofs.Ytpdnaceggpdleab
open Go.RowKit
set_option linter.unusedVariables false
set_option linter.unusedSimpArgs false
set_option linter.unnecessarySimpa false
set_option maxRecDepth 100000
set_option maxHeartbeats 1000000 in
theorem half_any (W : World) (A1 A2 A3 B1 B2 B3 S M : Option Addr) (n1 n2 n3 m2 m3 ns nm k1 k2 k3 d1 d2 d3 s1 s2 : Nat) (es : List Ed) (a b : Int) (hE : EL W B1 es) (hs : es.Pairwise ltE) (hl : es.length < 1099511627776) (hn : n1 < 1099511627776) (he : eix es a b < es.length) :
    Calls Try.prog 63 #[.agg #[.slice A1 n1 k1, .slice A2 n2 k2, .slice A3 n3 k3, .slice B1 es.length d1, .slice B2 m2 d2, .slice B3 m3 d3, .slice S ns s1, .slice M nm s2], .int .i64 a, .int .i64 b] W fun e W' => e = .returned (.int .i64 ((n1 : Int) + (eix es a b : Int))) ∧ Below W.heap.size W W' := by
  have hb0 : Below W.heap.size W (W.alloc (.cells #[.slice A1 n1 k1, .slice A2 n2 k2, .slice A3 n3 k3, .slice B1 es.length d1, .slice B2 m2 d2, .slice B3 m3 d3, .slice S ns s1, .slice M nm s2] 91)) := bel_alloc (Below.refl _ _) _
  have hC0 : Blk (W.alloc (.cells #[.slice A1 n1 k1, .slice A2 n2 k2, .slice A3 n3 k3, .slice B1 es.length d1, .slice B2 m2 d2, .slice B3 m3 d3, .slice S ns s1, .slice M nm s2] 91)) W.heap.size 91 #[.slice A1 n1 k1, .slice A2 n2 k2, .slice A3 n3 k3, .slice B1 es.length d1, .slice B2 m2 d2, .slice B3 m3 d3, .slice S ns s1, .slice M nm s2] := Blk.new _ _ _ _ rfl
  go_enter Try.func63, Try.ntmps63
  go_upto_region 1 with (fail)
  generalize W.alloc (.cells #[.slice A1 n1 k1, .slice A2 n2 k2, .slice A3 n3 k3, .slice B1 es.length d1, .slice B2 m2 d2, .slice B3 m3 d3, .slice S ns s1, .slice M nm s2] 91) = W0 at *
  have x3 : W0.cell? ⟨W.heap.size, 3, none⟩ = some (.slice B1 es.length d1) := hC0.cell 3
  have x4 : W0.cell? ⟨W.heap.size, 4, none⟩ = some (.slice B2 m2 d2) := hC0.cell 4
  have x5 : W0.cell? ⟨W.heap.size, 5, none⟩ = some (.slice B3 m3 d3) := hC0.cell 5
  have xl := hC0.lt
  have cF := find_any W0 B1 B2 B3 m2 m3 d1 d2 d3 es a b (hE.below hb0) hl hs
  go_upto_region 2 with (first | (go_at_call 50; (with_reducible refine cF.mono ?_); rintro e W5 ⟨k, ok, rfl, hfp, hb5⟩) | fail)
  rcases find_eix hs hfp with ⟨rfl, rfl, hel⟩ | ⟨rfl, rfl, hel⟩
  · have hC5 := hC0.below hb5
    have hB5 := bel_trans hb0 hb5
    have x0 : W5.cell? ⟨W.heap.size, 0, none⟩ = some (.slice A1 n1 k1) := hC5.cell 0
    have xl5 := hC5.lt
    generalize hix : eix es a b = ix at *
    replace hix := Lib.hid hix
    clear x3 x4 x5 xl cF hC0 hC5 hfp
    go_wp2
    go_ret
    exact ⟨by rw [hix.out]; rfl, hB5⟩
  · exact absurd he hel
theorem own_int4 (W : World) (a b c d : Int) : (W.alloc (.cells #[.int .i64 a, .int .i64 b, .int .i64 c, .int .i64 d] 3)).ownsRow W.heap.size 3 1 (.slice (some ⟨W.heap.size, 0, none⟩) 4 4) 4 (ints [a, b, c, d]) :=
  ⟨rfl, .inr ⟨W.heap.size, 4, #[.int .i64 a, .int .i64 b, .int .i64 c, .int .i64 d], rfl, Nat.le_refl _, heap_alloc_new W _, by omega, by unfold maxLen; omega, rfl, rfl⟩⟩
theorem cornL_snoc : ∀ (l : List (List Int)) (k : Nat) (x : List Int), cornL k (l ++ [x]) = cornL k l ++ cornF ((k + l.length : Nat) : Int) x
  | [], k, x => by simp [cornL]
  | y :: r, k, x => by
    rw [List.cons_append, cornL, cornL_snoc r (k + 1) x, cornL, List.append_assoc, List.length_cons, show k + 1 + r.length = k + (r.length + 1) by omega]
theorem behind_next (n : Int) (es : List Ed) (f : Int) (x : List Int) {j : Nat} (h : j + 1 < x.length) : hBehind n es (cw f x (j + 1)) = hAhead n es (cw f x j) := by
  obtain ⟨e1, e2, e3⟩ := mod_forth (show j < x.length by omega) (show 2 ≤ x.length by omega)
  rw [Nat.mod_eq_of_lt h] at e1
  unfold hAhead hBehind cw
  simp only
  rw [e1, Nat.mod_eq_of_lt h]
/-- The finer faces so far: of one face the first j. -/
def gsJ (n : Int) (es : List Ed) (f : Int) (x : List Int) (G0 : List (List Int)) (j : Nat) : List (List Int) := G0 ++ ((List.range j).map (cw f x)).map (quadOf n es)
theorem gsJ_zero (n : Int) (es : List Ed) (f : Int) (x : List Int) (G0 : List (List Int)) : gsJ n es f x G0 0 = G0 := by simp [gsJ]
theorem gsJ_succ (n : Int) (es : List Ed) (f : Int) (x : List Int) (G0 : List (List Int)) (j : Nat) : gsJ n es f x G0 (j + 1) = gsJ n es f x G0 j ++ [quadOf n es (cw f x j)] := by
  unfold gsJ; rw [List.range_succ, List.map_append, List.map_append, List.append_assoc]; rfl
theorem gsJ_len (n : Int) (es : List Ed) (f : Int) (x : List Int) (G0 : List (List Int)) (j : Nat) : (gsJ n es f x G0 j).length = G0.length + j := by simp [gsJ]
theorem gsJ_all (n : Int) (es : List Ed) (f : Int) (x : List Int) (G0 : List (List Int)) : gsJ n es f x G0 x.length = G0 ++ (cornF f x).map (quadOf n es) := rfl
set_option maxHeartbeats 4000000 in
theorem quarters_any (W : World) (A1 A2 A3 B1 B2 B3 S M : Option Addr) (n1 n3 m2 m3 ns nm k1 k2 k3 d1 d2 d3 s1 s2 : Nat) (es : List Ed) (fs : List (List Int)) (hF : FL W A2 fs) (hE : EL W B1 es) (hs : es.Pairwise ltE) (hl : es.length < 1099511627776) (hn : n1 < 1099511627776) (hfl : fs.length < 1099511627776) (hx3 : ∀ x ∈ fs, 3 ≤ x.length) (hxl : ∀ x ∈ fs, x.length < 1099511627776) (htl : (cornL 0 fs).length < 1099511627776) (he : ∀ x ∈ fs, ∀ j, j < x.length → eix es (x.getD j 0) (x.getD ((j + 1) % x.length) 0) < es.length) :
    Calls Try.prog 42 #[.agg #[.slice A1 n1 k1, .slice A2 fs.length k2, .slice A3 n3 k3, .slice B1 es.length d1, .slice B2 m2 d2, .slice B3 m3 d3, .slice S ns s1, .slice M nm s2]] W fun e W' => ∃ A c, e = .returned (.slice A (fine (n1 : Int) es fs).length c) ∧ FL W' A (fine (n1 : Int) es fs) ∧ Below W.heap.size W W' := by
  obtain ⟨i1, hi1, hy0, hy1, hy2⟩ := info_parts infoIS
  have hb0 : Below W.heap.size W (W.alloc (.cells #[.slice A1 n1 k1, .slice A2 fs.length k2, .slice A3 n3 k3, .slice B1 es.length d1, .slice B2 m2 d2, .slice B3 m3 d3, .slice S ns s1, .slice M nm s2] 91)) := bel_alloc (Below.refl _ _) _
  have hC0 : Blk (W.alloc (.cells #[.slice A1 n1 k1, .slice A2 fs.length k2, .slice A3 n3 k3, .slice B1 es.length d1, .slice B2 m2 d2, .slice B3 m3 d3, .slice S ns s1, .slice M nm s2] 91)) W.heap.size 91 #[.slice A1 n1 k1, .slice A2 fs.length k2, .slice A3 n3 k3, .slice B1 es.length d1, .slice B2 m2 d2, .slice B3 m3 d3, .slice S ns s1, .slice M nm s2] := Blk.new _ _ _ _ rfl
  have hsz0 : (W.alloc (.cells #[.slice A1 n1 k1, .slice A2 fs.length k2, .slice A3 n3 k3, .slice B1 es.length d1, .slice B2 m2 d2, .slice B3 m3 d3, .slice S ns s1, .slice M nm s2] 91)).heap.size = W.heap.size + 1 := World.size_alloc _ _
  go_enter Try.func42, Try.ntmps42
  go_upto_region 1 with (fail)
  generalize W.alloc (.cells #[.slice A1 n1 k1, .slice A2 fs.length k2, .slice A3 n3 k3, .slice B1 es.length d1, .slice B2 m2 d2, .slice B3 m3 d3, .slice S ns s1, .slice M nm s2] 91) = W0 at *
  have x1 : W0.cell? ⟨W.heap.size, 1, none⟩ = some (.slice A2 fs.length k2) := hC0.cell 1
  have xl := hC0.lt
  go_wp2
  go_loopw [3, 15] (fun lv iv wr => ∃ (k : Nat) (A : Option Addr) (c : Nat), iv = .int .i64 (k : Int) ∧ k ≤ fs.length ∧ lv = .slice A (fine (n1 : Int) es (fs.take k)).length c ∧ OwnF wr (W.heap.size + 1) A c (fine (n1 : Int) es (fs.take k)) ∧ Below W.heap.size W wr ∧ Blk wr W.heap.size 91 #[.slice A1 n1 k1, .slice A2 fs.length k2, .slice A3 n3 k3, .slice B1 es.length d1, .slice B2 m2 d2, .slice B3 m3 d3, .slice S ns s1, .slice M nm s2]) (fun _ iv _ => fs.length - (intOf iv).toNat)
  case atStart => exact ⟨0, none, 0, rfl, by omega, rfl, ⟨[], World.ownsRow_nil _ _ _ _, fun i hi => by simp [fine, cornL] at hi⟩, hb0, hC0⟩
  case round =>
    obtain ⟨k, A, c, rfl, hk, rfl, hOF, hBr, hCr⟩ := hrel
    clear hb0 hC0 x1 xl
    by_cases hlt : k < fs.length
    · obtain ⟨b2, o2, B, m, rfl, hl2w, hcellw, hIL⟩ := hF.at_ k hlt
      have hcell := (hBr.cell (p := ⟨b2, o2 + k, none⟩) hl2w).trans hcellw
      have hl2 := Nat.lt_of_lt_of_le hl2w hBr.size
      clear hcellw
      have hx31 := hx3 _ (List.getElem_mem hlt)
      have hxl1 := hxl _ (List.getElem_mem hlt)
      have he1 := he _ (List.getElem_mem hlt)
      have htk : fine (n1 : Int) es (fs.take (k + 1)) = fine (n1 : Int) es (fs.take k) ++ (cornF (k : Int) fs[k]).map (quadOf (n1 : Int) es) := by
        unfold fine
        rw [List.take_succ_eq_append_getElem hlt, cornL_snoc, List.map_append]
        simp [Nat.min_eq_left (Nat.le_of_lt hlt)]
      have hln : (fine (n1 : Int) es (fs.take k)).length + fs[k].length ≤ (cornL 0 fs).length := by
        have e1 := congrArg List.length htk
        have e2 : (fine (n1 : Int) es (fs.take (k + 1))).length ≤ (cornL 0 fs).length := by
          rw [fine_len, cornL_len, waysL_len, waysL_len]; exact tot_le fs (k + 1)
        rw [List.length_append, List.length_map, cornF, List.length_map, List.length_range] at e1
        omega
      generalize fs[k] = x at *
      replace htk := Lib.hid htk
      have q0 : (0 : Int) ≤ (k : Int) := by omega
      have q1 : (k : Int) < (fs.length : Int) := by omega
      obtain ⟨G0, hG0⟩ : ∃ G0, G0 = fine (n1 : Int) es (fs.take k) := ⟨_, rfl⟩
      rw [← hG0] at hOF htk hln
      try rw [← hG0]
      replace hG0 := Lib.hid hG0
      -- the way behind the first corner
      have hlast : (x.length : Int) - 1 = ((x.length - 1 : Nat) : Int) := by omega
      obtain ⟨b9, o9, rfl, hl9, hc9⟩ := (hIL.below hBr) (by omega)
      have g0 := hc9 0 (by omega)
      have g1 := hc9 (x.length - 1) (by omega)
      rw [Nat.add_zero] at g0
      have he0 := he1 (x.length - 1) (by omega)
      rw [show (x.length - 1 + 1) % x.length = 0 by rw [Nat.sub_add_cancel (by omega), Nat.mod_self]] at he0
      have hbh : hBehind (n1 : Int) es (cw (k : Int) x 0) = (n1 : Int) + (eix es (x.getD (x.length - 1) 0) (x.getD 0 0) : Int) := by
        unfold hBehind cw
        simp only
        rw [show (0 + x.length - 1) % x.length = x.length - 1 by rw [Nat.zero_add]; exact Nat.mod_eq_of_lt (by omega)]
      have ed0 : x.getD 0 0 = x[0]'(by omega) := getD_at (by omega)
      have ed1 : x.getD (x.length - 1) 0 = x[x.length - 1]'(by omega) := getD_at (by omega)
      rw [ed0, ed1] at he0 hbh
      generalize x[0]'(by omega) = xa at *
      generalize x[x.length - 1]'(by omega) = xb at *
      clear ed0 ed1
      replace hbh := Lib.hid hbh
      have cH := fun (W1 : World) (hb : Below W.heap.size W W1) => half_any W1 A1 (some ⟨b2, o2, none⟩) A3 B1 B2 B3 S M n1 fs.length n3 m2 m3 ns nm k1 k2 k3 d1 d2 d3 s1 s2 es xb xa (hE.below hb) hs hl hn he0
      generalize (eix es xb xa : Int) = ix at *
      have x0 : wr.cell? ⟨W.heap.size, 0, none⟩ = some (.slice A1 n1 k1) := hCr.cell 0
      have x1 : wr.cell? ⟨W.heap.size, 1, none⟩ = some (.slice (some ⟨b2, o2, none⟩) fs.length k2) := hCr.cell 1
      have x2 : wr.cell? ⟨W.heap.size, 2, none⟩ = some (.slice A3 n3 k3) := hCr.cell 2
      have x3 : wr.cell? ⟨W.heap.size, 3, none⟩ = some (.slice B1 es.length d1) := hCr.cell 3
      have x4 : wr.cell? ⟨W.heap.size, 4, none⟩ = some (.slice B2 m2 d2) := hCr.cell 4
      have x5 : wr.cell? ⟨W.heap.size, 5, none⟩ = some (.slice B3 m3 d3) := hCr.cell 5
      have x6 : wr.cell? ⟨W.heap.size, 6, none⟩ = some (.slice S ns s1) := hCr.cell 6
      have x7 : wr.cell? ⟨W.heap.size, 7, none⟩ = some (.slice M nm s2) := hCr.cell 7
      have xl := hCr.lt
      go_upto_region 6 with (fail)
      have cQ := fun x_ => cH (grow wr x_) (bel_grow hBr x_)
      refine wp_region_grow (by kernel_rfl) (by kernel_rfl) ?_
      repeat (go_big_quiet_step ((first | exact calls_quiet _ (cQ _) | exact calls_quiet2 _ _ (cQ _))))
      refine wpQuiet_nil ?_
      rintro _ ⟨xg, rfl⟩
      have hB3 := bel_grow hBr xg
      have hC3 := hCr.grow xg
      have hOF3 := hOF.lay (bel_grow (Below.refl _ wr) xg)
      clear hBr hCr hOF cH cQ hcell g0 g1 hl9 hl2 hc9 x0 x1 x2 x3 x4 x5 x6 x7 xl he0
      generalize grow wr xg = W3 at *
      go_wp2
      go_loopw [3, 7, 44] (fun lv av jv wq => ∃ (j : Nat) (A : Option Addr) (c : Nat), jv = .int .i64 (j : Int) ∧ j ≤ x.length ∧ lv = .slice A (gsJ (n1 : Int) es (k : Int) x G0 j).length c ∧ OwnF wq (W.heap.size + 1) A c (gsJ (n1 : Int) es (k : Int) x G0 j) ∧ (j < x.length → av = .int .i64 (hBehind (n1 : Int) es (cw (k : Int) x j))) ∧ Below W.heap.size W wq ∧ Blk wq W.heap.size 91 #[.slice A1 n1 k1, .slice (some ⟨b2, o2, none⟩) fs.length k2, .slice A3 n3 k3, .slice B1 es.length d1, .slice B2 m2 d2, .slice B3 m3 d3, .slice S ns s1, .slice M nm s2]) (fun _ _ jv _ => x.length - (intOf jv).toNat)
      case atStart => exact ⟨0, A, c, rfl, by omega, by rw [gsJ_zero], by rw [gsJ_zero]; exact hOF3, fun _ => by rw [hbh.out], hB3, hC3⟩
      case round =>
        obtain ⟨j, A, c, rfl, hj, rfl, hOF, hav, hBq, hCq⟩ := hrel
        clear hOF3 hB3 hC3
        rename World => wq
        by_cases hjl : j < x.length
        · obtain rfl := hav hjl
          clear hav
          obtain ⟨b8, o8, e8, hl9, hc9⟩ := (hIL.below hBq) (by omega)
          obtain ⟨rfl, rfl⟩ : b9 = b8 ∧ o9 = o8 := by simpa using e8
          have hmj : (j + 1) % x.length < x.length := Nat.mod_lt _ (by omega)
          have g0 := hc9 j hjl
          have g1 := hc9 ((j + 1) % x.length) hmj
          have he0 := he1 j hjl
          have ed0 : x.getD j 0 = x[j] := getD_at hjl
          have ed1 : x.getD ((j + 1) % x.length) 0 = x[(j + 1) % x.length] := getD_at hmj
          have hq : quadOf (n1 : Int) es (cw (k : Int) x j) = [x[j], (n1 : Int) + (eix es x[j] x[(j + 1) % x.length] : Int), (n1 : Int) + (es.length : Int) + (k : Int), hBehind (n1 : Int) es (cw (k : Int) x j)] := by
            unfold quadOf hAhead hMid
            simp only [cw]
            rw [ed0, ed1]
          have hnx : j + 1 < x.length → hBehind (n1 : Int) es (cw (k : Int) x (j + 1)) = (n1 : Int) + (eix es x[j] x[(j + 1) % x.length] : Int) := fun h => by
            rw [behind_next _ _ _ _ h]
            unfold hAhead
            simp only [cw]
            rw [ed0, ed1]
          rw [ed0, ed1] at he0
          have hremt : ((j : Int) + 1).tmod (x.length : Int) = (((j + 1) % x.length : Nat) : Int) := by
            rw [Int.tmod_eq_emod_of_nonneg (by omega)]; simp
          have cH := fun (W1 : World) (hb : Below W.heap.size W W1) => half_any W1 A1 (some ⟨b2, o2, none⟩) A3 B1 B2 B3 S M n1 fs.length n3 m2 m3 ns nm k1 k2 k3 d1 d2 d3 s1 s2 es x[j] x[(j + 1) % x.length] (hE.below hb) hs hl hn he0
          clear ed0 ed1 e8
          generalize x[(j + 1) % x.length] = xb at *
          generalize x[j] = xa at *
          generalize hme : (j + 1) % x.length = mm at *
          have hs0 := gsJ_succ (n1 : Int) es (k : Int) x G0 j
          have hgl := gsJ_len (n1 : Int) es (k : Int) x G0 j
          rw [hq] at hs0
          generalize (eix es xa xb : Int) = ix at *
          generalize hBehind (n1 : Int) es (cw (k : Int) x j) = bh at *
          generalize gsJ (n1 : Int) es (k : Int) x G0 j = GJ at *
          have hglb : GJ.length < 1099511627776 := by omega
          replace hgl := Lib.hid hgl
          replace hs0 := Lib.hid hs0
          replace hnx := Lib.hid hnx
          replace hme := Lib.hid hme
          replace hq := Lib.hid hq
          replace hc9 := Lib.hid hc9
          have q2 : (0 : Int) ≤ (j : Int) := by omega
          have q3 : (j : Int) < (x.length : Int) := by omega
          have q4 : (mm : Int) < (x.length : Int) := by omega
          have q5 : (0 : Int) ≤ (mm : Int) := by omega
          have x0 : wq.cell? ⟨W.heap.size, 0, none⟩ = some (.slice A1 n1 k1) := hCq.cell 0
          have x1 : wq.cell? ⟨W.heap.size, 1, none⟩ = some (.slice (some ⟨b2, o2, none⟩) fs.length k2) := hCq.cell 1
          have x2 : wq.cell? ⟨W.heap.size, 2, none⟩ = some (.slice A3 n3 k3) := hCq.cell 2
          have x3 : wq.cell? ⟨W.heap.size, 3, none⟩ = some (.slice B1 es.length d1) := hCq.cell 3
          have x4 : wq.cell? ⟨W.heap.size, 4, none⟩ = some (.slice B2 m2 d2) := hCq.cell 4
          have x5 : wq.cell? ⟨W.heap.size, 5, none⟩ = some (.slice B3 m3 d3) := hCq.cell 5
          have x6 : wq.cell? ⟨W.heap.size, 6, none⟩ = some (.slice S ns s1) := hCq.cell 6
          have x7 : wq.cell? ⟨W.heap.size, 7, none⟩ = some (.slice M nm s2) := hCq.cell 7
          have xl := hCq.lt
          go_upto_region 10 with (fail)
          have cQ := fun x_ => cH (grow wq x_) (bel_grow hBq x_)
          refine wp_region_grow (by kernel_rfl) (by kernel_rfl) ?_
          repeat (go_big_quiet_step ((first | exact calls_quiet _ (cQ _) | exact calls_quiet2 _ _ (cQ _))))
          refine wpQuiet_nil ?_
          rintro _ ⟨xg, rfl⟩
          have hB4 := bel_grow hBq xg
          have hC4 := hCq.grow xg
          have hOF4 := hOF.lay (bel_grow (Below.refl _ wq) xg)
          clear hBq hCq hOF cH cQ g0 g1 x0 x1 x2 x3 x4 x5 x6 x7 xl he0 hl9
          generalize grow wq xg = W4 at *
          have hCl := hC4.lt
          have hx4 := own_int4 W4 xa ((n1 : Int) + ix) ((n1 : Int) + (es.length : Int) + (k : Int)) bh
          have hb5 : Below W4.heap.size W4 (W4.alloc (.cells #[.int .i64 xa, .int .i64 ((n1 : Int) + ix), .int .i64 ((n1 : Int) + (es.length : Int) + (k : Int)), .int .i64 bh] 3)) := bel_alloc (Below.refl _ _) _
          have hOF5 := hOF4.lay hb5
          obtain ⟨vals, hO1, hO2⟩ := hOF5.row
          have hob := own_block hO1
          have hB5 := bel_trans hB4 hb5
          have hC5 := hC4.below hb5
          clear hOF4 hOF5 hB4 hC4 hb5
          go_wp2_with (first | (at_builtin; (refine wpList_append_own _ rfl _ _ 24 rfl (W.heap.size + 1) 31 i1 _ 1 24 Try.underlying24 hi1 hy0 hy1 hy2 rfl (by decide) _ _ _ rfl (hO1.alloc _) ⟨W4.heap.size + 1, 0, none⟩ 1 1 [.slice (some ⟨W4.heap.size, 0, none⟩) 4 4] rfl rfl (by have := cell_one_new (W4.alloc (.cells #[.int .i64 xa, .int .i64 ((n1 : Int) + ix), .int .i64 ((n1 : Int) + (es.length : Int) + (k : Int)), .int .i64 bh] 3)) (.slice (some ⟨W4.heap.size, 0, none⟩) 4 4) 31; rwa [World.size_alloc] at this) (fun x hx => by simp at hx; subst hx; rfl) (by unfold maxLen; omega) (by omega) (by simp; omega) ?_); intro v6 W6 hown6 hg6 hnil; have hg56 := (World.grownBy_alloc (W4.alloc (.cells #[.int .i64 xa, .int .i64 ((n1 : Int) + ix), .int .i64 ((n1 : Int) + (es.length : Int) + (k : Int)), .int .i64 bh] 3)) (.cells #[.slice (some ⟨W4.heap.size, 0, none⟩) 4 4] 31) (Value.slice A GJ.length c).ownBlock).trans hg6; clear hg6 hnil; obtain ⟨A6b, c6b, rfl⟩ := own_form hown6) | fail)
          have hOF6 := OwnF.add (x := [xa, (n1 : Int) + ix, (n1 : Int) + (es.length : Int) + (k : Int), bh]) hO2 hO1 (own_base hx4 (by omega)) hg56 hown6
          rw [← hs0.out] at hOF6
          have hB6 := bel_own hB5 hg56 (fun k hk => by have := (hob k hk).1; omega)
          have hC6 := hC5.kept hg56 (fun e => by have := (hob _ e.symm).1; omega)
          have hl6 : (gsJ (n1 : Int) es (k : Int) x G0 (j + 1)).length = GJ.length + 1 := by rw [hs0.out]; simp
          go_roundw
          case rel => exact ⟨j + 1, A6b, c6b, by go_num, by omega, by rw [hl6], hOF6, fun h => by rw [hnx.out h], hB6, hC6⟩
          case measure => simp [intOf]; omega
        · obtain rfl : j = x.length := by omega
          clear hav
          have hfin := gsJ_all (n1 : Int) es (k : Int) x G0
          rw [← htk.out] at hfin
          rw [hfin] at hOF
          generalize gsJ (n1 : Int) es (k : Int) x G0 x.length = GJ at *
          subst hfin
          go_wp2
          go_roundw
          case rel => exact ⟨k + 1, A, c, by go_num, by omega, rfl, hOF, hBq, hCq⟩
          case measure => simp [intOf]; omega
    · obtain rfl : k = fs.length := by omega
      rw [List.take_length] at hOF
      try rw [List.take_length]
      go_wp2
      go_ret
      exact ⟨A, c, rfl, hOF.fl, hBr⟩
end Go.Proofs.Ytpdnaceggpdleab
namespace Go.Proofs.Ytpdnaceggpdleab
open Go.RowKit
set_option linter.unusedVariables false
set_option linter.unusedSimpArgs false
set_option linter.unnecessarySimpa false
set_option maxRecDepth 100000
/-- The cells of structs of three numbers, one behind the other. -/
def kC : List P3 → List Value
  | [] => []
  | p :: r => .int .i64 p.x :: .int .i64 p.y :: .int .i64 p.z :: kC r
theorem kC_append : ∀ (l m : List P3), kC (l ++ m) = kC l ++ kC m
  | [], m => rfl
  | p :: r, m => by simp [kC, kC_append r m]
theorem kC_len : ∀ l : List P3, (kC l).length = l.length * 3
  | [] => rfl
  | p :: r => by simp [kC, kC_len r]; omega
theorem kC_at : ∀ (l : List P3) (i : Nat) (h : i < l.length), (kC l)[i * 3]? = some (.int .i64 l[i].x) ∧ (kC l)[i * 3 + 1]? = some (.int .i64 l[i].y) ∧ (kC l)[i * 3 + 2]? = some (.int .i64 l[i].z)
  | [], i, h => by simp at h
  | p :: r, 0, h => by simp [kC]
  | p :: r, i + 1, h => by
    obtain ⟨h1, h2, h3⟩ := kC_at r i (by simpa using h)
    have e : (i + 1) * 3 = i * 3 + 3 := by omega
    rw [e]
    simp only [kC, List.getElem?_cons_succ, List.getElem_cons_succ]
    exact ⟨h1, h2, h3⟩
theorem VL_own {W : World} {base c : Nat} {e : TypeId} {A : Option Addr} {ps : List P3} (h : W.ownsRow base e 3 (.slice A ps.length c) ps.length (kC ps)) : VL W A ps := fun hn => by
  obtain ⟨b, e, hl, _, hc⟩ := own_cell h hn
  refine ⟨b, 0, e, hl, fun i hi => ?_⟩
  obtain ⟨h1, h2, h3⟩ := kC_at ps i hi
  rw [Nat.zero_add]
  exact ⟨(hc _ (by omega)).trans h1, (hc _ (by omega)).trans h2, (hc _ (by omega)).trans h3⟩
theorem kC_one (l : List P3) : ∀ u ∈ kC l, u.oneCell' = true := by
  induction l with
  | nil => intro u h; cases h
  | cons p r ih =>
    intro u h
    simp only [kC, List.mem_cons] at h
    rcases h with rfl | rfl | rfl | h
    · rfl
    · rfl
    · rfl
    · exact ih u h
theorem cells_new (w : World) (xs : List Value) (t : TypeId) (b : Nat) (hb : b = w.heap.size) : ∀ j u, xs[j]? = some u → (w.alloc (.cells xs.toArray t)).cell? ((⟨b, 0, none⟩ : Addr).add j) = some u := fun j u hu => by
  subst hb
  rw [Addr.add_mid, Nat.zero_add]
  have h := (Blk.new w t xs.toArray _ rfl).cell j
  rw [h]; simpa using hu
theorem infoCr : (Try.prog.info? 109).map (fun i => (i.zero, i.size, i.bytes)) = some (some (.agg #[.int .i64 0, .int .i64 0, .int .i64 0]), 3, 24) := by kernel_rfl
theorem restP_one (N : Int) (k : Nat) (p : Ed × Int) : restP N k [p] = match lessS p.1 p.2 with | some s => [⟨p.1.a, N + k, s⟩, ⟨p.1.b, N + k, s⟩] | none => [] := by
  rw [restP, restP, List.append_nil]
  cases lessS p.1 p.2 <;> rfl
theorem restP_len (N : Int) : ∀ (L : List (Ed × Int)) (k : Nat), (restP N k L).length ≤ 2 * L.length
  | [], k => by simp [restP]
  | p :: r, k => by
    have := restP_len N r (k + 1)
    rw [restP, List.length_append, List.length_cons]
    split <;> simp <;> omega
set_option maxHeartbeats 4000000 in
theorem rest_any (W : World) (A1 A2 A3 B1 B2 B3 S M : Option Addr) (n1 n2 n3 m2 m3 nm k1 k2 k3 d1 d2 d3 s1 s2 : Nat) (es : List Ed) (sh : List Int) (hE : EL W B1 es) (hS : IL W S sh) (hsl : sh.length = es.length) (hl : es.length < 1099511627776) (hn : n1 < 1099511627776) (hi : ∀ s ∈ sh, i64B s) :
    Calls Try.prog 43 #[.agg #[.slice A1 n1 k1, .slice A2 n2 k2, .slice A3 n3 k3, .slice B1 es.length d1, .slice B2 m2 d2, .slice B3 m3 d3, .slice S sh.length s1, .slice M nm s2]] W fun e W' => ∃ A c, e = .returned (.slice A (restP (n1 : Int) 0 (es.zip sh)).length c) ∧ VL W' A (restP (n1 : Int) 0 (es.zip sh)) ∧ Below W.heap.size W W' := by
  obtain ⟨i0, hi0, hz0, hz1, hz2⟩ := info_parts infoCr
  obtain ⟨ns, hns⟩ : ∃ ns, sh.length = ns := ⟨_, rfl⟩
  rw [hns]
  have hsl2 := Lib.hid (hns.symm.trans hsl)
  replace hns := Lib.hid hns
  clear hsl
  have hb0 : Below W.heap.size W (W.alloc (.cells #[.slice A1 n1 k1, .slice A2 n2 k2, .slice A3 n3 k3, .slice B1 es.length d1, .slice B2 m2 d2, .slice B3 m3 d3, .slice S ns s1, .slice M nm s2] 91)) := bel_alloc (Below.refl _ _) _
  have hC0 : Blk (W.alloc (.cells #[.slice A1 n1 k1, .slice A2 n2 k2, .slice A3 n3 k3, .slice B1 es.length d1, .slice B2 m2 d2, .slice B3 m3 d3, .slice S ns s1, .slice M nm s2] 91)) W.heap.size 91 #[.slice A1 n1 k1, .slice A2 n2 k2, .slice A3 n3 k3, .slice B1 es.length d1, .slice B2 m2 d2, .slice B3 m3 d3, .slice S ns s1, .slice M nm s2] := Blk.new _ _ _ _ rfl
  go_enter Try.func43, Try.ntmps43
  go_upto_region 1 with (fail)
  generalize W.alloc (.cells #[.slice A1 n1 k1, .slice A2 n2 k2, .slice A3 n3 k3, .slice B1 es.length d1, .slice B2 m2 d2, .slice B3 m3 d3, .slice S ns s1, .slice M nm s2] 91) = W0 at *
  have x3 : W0.cell? ⟨W.heap.size, 3, none⟩ = some (.slice B1 es.length d1) := hC0.cell 3
  have xl := hC0.lt
  go_wp2
  go_loopw [3, 12] (fun lv iv wr => ∃ (k : Nat) (A : Option Addr) (c : Nat) (R : List P3), iv = .int .i64 (k : Int) ∧ k ≤ es.length ∧ lv = .slice A R.length c ∧ R = restP (n1 : Int) 0 ((es.zip sh).take k) ∧ wr.ownsRow (W.heap.size + 1) 109 3 (.slice A R.length c) R.length (kC R) ∧ Below W.heap.size W wr ∧ Blk wr W.heap.size 91 #[.slice A1 n1 k1, .slice A2 n2 k2, .slice A3 n3 k3, .slice B1 es.length d1, .slice B2 m2 d2, .slice B3 m3 d3, .slice S ns s1, .slice M nm s2]) (fun _ iv _ => es.length - (intOf iv).toNat)
  case atStart => exact ⟨0, none, 0, [], rfl, by omega, rfl, rfl, World.ownsRow_nil _ _ _ _, hb0, hC0⟩
  case round =>
    obtain ⟨k, A, c, R, rfl, hk, rfl, hR, hown, hBr, hCr⟩ := hrel
    clear hb0 hC0 x3 xl
    by_cases hlt : k < es.length
    · have hks : k < sh.length := by rw [hns.out, hsl2.out]; exact hlt
      obtain ⟨be, oe, rfl, hbe, c0, c1, c2, c3⟩ : ∃ b off, B1 = some ⟨b, off, none⟩ ∧ b < wr.heap.size ∧ _ := by
        obtain ⟨b, off, h1, h2, h3⟩ := (hE.below hBr) (by omega)
        exact ⟨b, off, h1, h2, h3 k hlt⟩
      obtain ⟨bs, os, rfl, hbs, cs⟩ := (hS.below hBr).at_ k hks
      have hzl : k < (es.zip sh).length := by simp; omega
      have htk : restP (n1 : Int) 0 ((es.zip sh).take (k + 1)) = R ++ restP (n1 : Int) k [(es[k], sh[k])] := by
        rw [List.take_succ_eq_append_getElem hzl, restP_snoc, hR]
        simp only [List.getElem_zip, Nat.zero_add, List.length_take]
        rw [Nat.min_eq_left (by omega)]
      have hRl : R.length ≤ 2 * k := by
        rw [hR]
        have h1 := restP_len (n1 : Int) ((es.zip sh).take k) 0
        have h2 : ((es.zip sh).take k).length ≤ k := by simp; omega
        omega
      have hed : edgedB es (k : Int) = ((es[k].f == -1) != (es[k].g == -1)) := by simp [edgedB, hlt]
      have hsv := hi _ (List.getElem_mem hks)
      have hkn : (k : Int) < (ns : Int) := by have := hsl2.out; omega
      rw [restP_one] at htk
      have cE := fun (W1 : World) (hb : Below W.heap.size W W1) => edged_any W1 (some ⟨be, oe, none⟩) B2 B3 m2 m3 d1 d2 d3 es (k : Int) (hE.below hb)
      rw [hed] at cE
      simp only at htk
      clear hed
      generalize es[k] = e at *
      generalize sh[k] = sv at *
      replace hR := Lib.hid hR
      have q0 : (0 : Int) ≤ (k : Int) := by omega
      have q1 : (k : Int) < (es.length : Int) := by omega
      have hb2 : Below wr.heap.size wr (wr.alloc (.cells #[.int .i64 e.a, .int .i64 e.b, .int .i64 e.f, .int .i64 e.g] 79)) := bel_alloc (Below.refl _ _) _
      have hP2 : Blk (wr.alloc (.cells #[.int .i64 e.a, .int .i64 e.b, .int .i64 e.f, .int .i64 e.g] 79)) wr.heap.size 79 #[.int .i64 e.a, .int .i64 e.b, .int .i64 e.f, .int .i64 e.g] := Blk.new _ _ _ _ rfl
      have hB2 := bel_trans hBr hb2
      have hC2 := hCr.below hb2
      have hown2 := own_lay hown hb2
      have hCl := hCr.lt
      replace cs := (hb2.cell (p := ⟨bs, _, none⟩) hbs).trans cs
      clear hBr hCr hown
      go_upto_region 5 with (fail)
      generalize wr.alloc (.cells #[.int .i64 e.a, .int .i64 e.b, .int .i64 e.f, .int .i64 e.g] 79) = W2 at *
      obtain ⟨X, hX⟩ : ∃ X, wr.heap.size = X := ⟨_, rfl⟩
      simp only [hX] at *
      clear hX c0 c1 c2 c3 hbe hb2
      have hXl := hP2.lt
      have hbs9 : bs < W2.heap.size := by omega
      have x3 : W2.cell? ⟨W.heap.size, 3, none⟩ = some (.slice (some ⟨be, oe, none⟩) es.length d1) := hC2.cell 3
      have x4 : W2.cell? ⟨W.heap.size, 4, none⟩ = some (.slice B2 m2 d2) := hC2.cell 4
      have x5 : W2.cell? ⟨W.heap.size, 5, none⟩ = some (.slice B3 m3 d3) := hC2.cell 5
      have x6 : W2.cell? ⟨W.heap.size, 6, none⟩ = some (.slice (some ⟨bs, os, none⟩) ns s1) := hC2.cell 6
      have xl := hC2.lt
      have cE2 := cE W2 hB2
      clear cE
      by_cases c1 : sv < 2
      · have hno : lessS e sv = none := by unfold lessS; rw [if_pos (.inl c1)]
        rw [hno, List.append_nil] at htk
        replace htk := Lib.hid htk
        go_wp2
        go_roundw
        case rel => exact ⟨k + 1, A, c, R, by go_num, by omega, rfl, htk.out.symm, hown2, hB2, hC2⟩
        case measure => simp [intOf]; omega
      · cases hbb : ((e.f == -1) != (e.g == -1)) with
        | true =>
          have hno : lessS e sv = none := by unfold lessS; rw [if_pos (.inr hbb)]
          rw [hno, List.append_nil] at htk
          rw [hbb] at cE2
          replace htk := Lib.hid htk
          replace hbb := Lib.hid hbb
          go_wp2_with (first | (go_at_call 49; (with_reducible refine cE2.mono ?_); rintro e9 W3 ⟨rfl, hb3⟩) | fail)
          go_roundw
          case rel => exact ⟨k + 1, A, c, R, by go_num, by omega, rfl, htk.out.symm, own_lay hown2 hb3, bel_trans hB2 hb3, hC2.below hb3⟩
          case measure => simp [intOf]; omega
        | false =>
          have hyes : lessS e sv = some (if sv = 255 then 255 else sv - 1) := by unfold lessS; rw [if_neg]; rintro (h | h); exact c1 h; rw [hbb] at h; cases h
          rw [hyes] at htk
          rw [hbb] at cE2
          replace hbb := Lib.hid hbb
          simp only at htk
          generalize hns : (if sv = 255 then (255 : Int) else sv - 1) = nv at *
          replace htk := Lib.hid htk
          replace hyes := Lib.hid hyes
          have hsv2 := hsv.2
          go_upto_region 7 with (first | (go_at_call 49; (with_reducible refine cE2.mono ?_); rintro e9 W3 ⟨rfl, hb3⟩) | fail)
          have hB3 := bel_trans hB2 hb3
          have hC3 := hC2.below hb3
          have hP3 := hP2.below hb3
          have hown3 := own_lay hown2 hb3
          clear hB2 hC2 hP2 hown2 cE2 x3 x4 x5 x6 xl cs hbs9 hb3
          have x0 : W3.cell? ⟨W.heap.size, 0, none⟩ = some (.slice A1 n1 k1) := hC3.cell 0
          have xl := hC3.lt
          have y0 : W3.cell? ⟨X, 0, none⟩ = some (.int .i64 e.a) := hP3.cell 0
          have y1 : W3.cell? ⟨X, 1, none⟩ = some (.int .i64 e.b) := hP3.cell 1
          have yl := hP3.lt
          have hob := own_block hown3
          have hRl2 : R.length < 1099511627776 * 2 := by omega
          replace hRl := Lib.hid hRl
          by_cases c2 : sv = 255
          · rw [if_pos c2] at hns
            subst hns
            subst c2
            have c2b : ((255 : Int) != 255) = false := rfl
            go_wp2_with (first | (at_builtin; (refine wpList_append_own _ rfl _ _ 25 rfl (W.heap.size + 1) 109 i0 _ 3 24 Try.underlying25 hi0 hz0 hz1 hz2 rfl (by decide) _ _ _ rfl (hown3.alloc _) ⟨W3.heap.size, 0, none⟩ 2 2 [.int .i64 e.a, .int .i64 ((n1 : Int) + (k : Int)), .int .i64 255, .int .i64 e.b, .int .i64 ((n1 : Int) + (k : Int)), .int .i64 255] rfl rfl (cells_new W3 [.int .i64 e.a, .int .i64 ((n1 : Int) + (k : Int)), .int .i64 255, .int .i64 e.b, .int .i64 ((n1 : Int) + (k : Int)), .int .i64 255] _ _ rfl) (kC_one [⟨e.a, (n1 : Int) + (k : Int), 255⟩, ⟨e.b, (n1 : Int) + (k : Int), 255⟩]) (by unfold maxLen; omega) (by omega) (by have := hC3.lt; simp; omega) ?_); intro v6 W6 hown6 hg6 hnil; have hg56 := (World.grownBy_alloc W3 (.cells [.int .i64 e.a, .int .i64 ((n1 : Int) + (k : Int)), .int .i64 255, .int .i64 e.b, .int .i64 ((n1 : Int) + (k : Int)), .int .i64 255].toArray 109) (Value.slice A R.length c).ownBlock).trans hg6; clear hg6 hnil; obtain ⟨A6b, c6b, rfl⟩ := own_form hown6) | fail)
            have hB6 := bel_own hB3 hg56 (fun k hk => by have := (hob k hk).1; omega)
            have hC6 := hC3.kept hg56 (fun e => by have := (hob _ e.symm).1; omega)
            have hown7 : W6.ownsRow (W.heap.size + 1) 109 3 (.slice A6b (R ++ [(⟨e.a, (n1 : Int) + (k : Int), 255⟩ : P3), ⟨e.b, (n1 : Int) + (k : Int), 255⟩]).length c6b) (R ++ [(⟨e.a, (n1 : Int) + (k : Int), 255⟩ : P3), ⟨e.b, (n1 : Int) + (k : Int), 255⟩]).length (kC (R ++ [(⟨e.a, (n1 : Int) + (k : Int), 255⟩ : P3), ⟨e.b, (n1 : Int) + (k : Int), 255⟩])) := by
              rw [kC_append, List.length_append]; exact hown6
            go_roundw
            case rel => exact ⟨k + 1, A6b, c6b, _, by go_num, by omega, by rw [List.length_append]; rfl, htk.out.symm, hown7, hB6, hC6⟩
            case measure => simp [intOf]; omega
          · rw [if_neg c2] at hns
            have c2b : (sv != 255) = true := by simpa using c2
            subst hns
            have hsv3 := hsv.1
            go_wp2_with (first | (at_builtin; (refine wpList_append_own _ rfl _ _ 25 rfl (W.heap.size + 1) 109 i0 _ 3 24 Try.underlying25 hi0 hz0 hz1 hz2 rfl (by decide) _ _ _ rfl (hown3.alloc _) ⟨W3.heap.size, 0, none⟩ 2 2 [.int .i64 e.a, .int .i64 ((n1 : Int) + (k : Int)), .int .i64 (sv - 1), .int .i64 e.b, .int .i64 ((n1 : Int) + (k : Int)), .int .i64 (sv - 1)] rfl rfl (cells_new W3 [.int .i64 e.a, .int .i64 ((n1 : Int) + (k : Int)), .int .i64 (sv - 1), .int .i64 e.b, .int .i64 ((n1 : Int) + (k : Int)), .int .i64 (sv - 1)] _ _ rfl) (kC_one [⟨e.a, (n1 : Int) + (k : Int), (sv - 1)⟩, ⟨e.b, (n1 : Int) + (k : Int), (sv - 1)⟩]) (by unfold maxLen; omega) (by omega) (by have := hC3.lt; simp; omega) ?_); intro v6 W6 hown6 hg6 hnil; have hg56 := (World.grownBy_alloc W3 (.cells [.int .i64 e.a, .int .i64 ((n1 : Int) + (k : Int)), .int .i64 (sv - 1), .int .i64 e.b, .int .i64 ((n1 : Int) + (k : Int)), .int .i64 (sv - 1)].toArray 109) (Value.slice A R.length c).ownBlock).trans hg6; clear hg6 hnil; obtain ⟨A6b, c6b, rfl⟩ := own_form hown6) | fail)
            have hB6 := bel_own hB3 hg56 (fun k hk => by have := (hob k hk).1; omega)
            have hC6 := hC3.kept hg56 (fun e => by have := (hob _ e.symm).1; omega)
            have hown7 : W6.ownsRow (W.heap.size + 1) 109 3 (.slice A6b (R ++ [(⟨e.a, (n1 : Int) + (k : Int), (sv - 1)⟩ : P3), ⟨e.b, (n1 : Int) + (k : Int), (sv - 1)⟩]).length c6b) (R ++ [(⟨e.a, (n1 : Int) + (k : Int), (sv - 1)⟩ : P3), ⟨e.b, (n1 : Int) + (k : Int), (sv - 1)⟩]).length (kC (R ++ [(⟨e.a, (n1 : Int) + (k : Int), (sv - 1)⟩ : P3), ⟨e.b, (n1 : Int) + (k : Int), (sv - 1)⟩])) := by
              rw [kC_append, List.length_append]; exact hown6
            go_roundw
            case rel => exact ⟨k + 1, A6b, c6b, _, by go_num, by omega, by rw [List.length_append]; rfl, htk.out.symm, hown7, hB6, hC6⟩
            case measure => simp [intOf]; omega
    · obtain rfl : k = es.length := by omega
      have hfin : R = restP (n1 : Int) 0 (es.zip sh) := by rw [hR, List.take_of_length_le (by simp; omega)]
      subst hfin
      clear hR
      go_wp2
      go_ret
      exact ⟨A, c, rfl, VL_own hown, hBr⟩
end Go.Proofs.Ytpdnaceggpdleab
namespace Go.Proofs.Ytpdnaceggpdleab
open Go.RowKit
set_option linter.unusedVariables false
set_option linter.unusedSimpArgs false
set_option linter.unnecessarySimpa false
set_option maxRecDepth 100000
theorem grow_any (W : World) (n : Nat) (hn : 0 < n) (hl : n < 1099511627776) :
    Calls Try.prog 59 #[.slice none 0 0, .int .i64 (n : Int)] W fun e W' => ∃ A c, e = .returned (.slice A 0 c) ∧ W'.ownsRow W.heap.size 30 3 (.slice A 0 c) 0 [] ∧ Below W.heap.size W W' := by
  obtain ⟨i0, hi0, hz0, hz1, hz2⟩ := info_parts infoV
  have h := Any8.slices_Grow_grow Try.grow59 i0 (.agg #[.int .i64 0, .int .i64 0, .int .i64 0]) hi0 hz0 (by rw [hz1]; omega) none 0 0 n [] W (Nat.le_refl _) (by omega) (by rw [hz2]; omega) (by omega) (by simp) (fun _ => rfl) (fun a h => by cases h)
  have h2 : Calls Try.prog 59 #[.slice none 0 0, .int .i64 (n : Int)] W _ := h
  refine h2.mono ?_
  rintro e W' ⟨rfl, rfl⟩
  have hg1 := grownCap_ge W (0 + n) 0 30
  have hg2 := grownCap_le_maxLen W (0 + n) 0 30 (by unfold maxLen; omega)
  refine ⟨_, _, rfl, ⟨rfl, .inr ⟨W.heap.size, grownCap W (0 + n) 0 30, _, rfl, Nat.le_refl _, heap_alloc_new W.drew _, Nat.zero_le _, hg2, ?_, rfl⟩⟩, bel_alloc (bel_drew (Below.refl _ _)) _⟩
  have hzs : (Value.agg #[Value.int .i64 0, Value.int .i64 0, Value.int .i64 0]).cells.size = 3 := rfl
  rw [Array.size_append, Array.size_append, size_zeroCells, size_zeroCells, hzs]
  simp only [List.size_toArray, List.length_nil]
  show 0 + (0 + n - 0) * 3 + (grownCap W (0 + n) 0 30 - (0 + n)) * 3 = grownCap W (0 + n) 0 30 * 3
  generalize grownCap W (0 + n) 0 30 = G at *
  omega
structure R3 where
  A : Option Addr
  c : Nat
  ps : List P3
def psAll (L : List R3) : List P3 := L.flatMap R3.ps
theorem psAll_snoc (L : List R3) (r : R3) : psAll (L ++ [r]) = psAll L ++ r.ps := by simp [psAll]
theorem psAll_take (L : List R3) (k : Nat) (h : k < L.length) : psAll (L.take (k + 1)) = psAll (L.take k) ++ L[k].ps := by rw [List.take_succ_eq_append_getElem h, psAll_snoc]
theorem psAll_le (L : List R3) (k : Nat) : (psAll (L.take k)).length ≤ (psAll L).length := by
  have : psAll L = psAll (L.take k) ++ psAll (L.drop k) := by
    unfold psAll; rw [← List.flatMap_append, List.take_append_drop]
  rw [this, List.length_append]; omega
theorem VL_cells {W : World} {b off : Nat} {ps : List P3} (h : ∀ i (h : i < ps.length), W.cell? ⟨b, off + i * 3, none⟩ = some (.int .i64 ps[i].x) ∧ W.cell? ⟨b, off + i * 3 + 1, none⟩ = some (.int .i64 ps[i].y) ∧ W.cell? ⟨b, off + i * 3 + 2, none⟩ = some (.int .i64 ps[i].z)) : ∀ j u, (kC ps)[j]? = some u → W.cell? ((⟨b, off, none⟩ : Addr).add j) = some u := fun j u hu => by
  rw [Addr.add_mid]
  have hj : j < ps.length * 3 := by have := (List.getElem?_eq_some_iff.1 hu).1; rwa [kC_len] at this
  obtain ⟨q, hq⟩ : ∃ q, j / 3 = q := ⟨_, rfl⟩
  have hi : q < ps.length := by omega
  obtain ⟨h1, h2, h3⟩ := h q hi
  obtain ⟨k1, k2, k3⟩ := kC_at ps q hi
  rcases (by omega : j = q * 3 ∨ j = q * 3 + 1 ∨ j = q * 3 + 2) with e | e | e
  · rw [e] at hu ⊢; rw [k1] at hu; rw [h1]; exact hu
  · rw [e] at hu ⊢; rw [k2] at hu; rw [← Nat.add_assoc, h2]; exact hu
  · rw [e] at hu ⊢; rw [k3] at hu; rw [← Nat.add_assoc, h3]; exact hu
theorem srcV (w : World) (A : Option Addr) (c size : Nat) : Src Try.prog size 22 (.slice A 0 c) 0 [] w :=
  by
  cases A with
  | none => exact Src.ofNil w Try.underlying22 c
  | some a => exact Src.ofSlice w Try.underlying22 a 0 c [] (by simp) (fun j u h => by simp at h) (fun u h => by cases h)
set_option maxHeartbeats 4000000 in
theorem concat_nil (W : World) (b n c : Nat) (L : List R3) (hb : b < W.heap.size) (hn : L.length = n) (hL : ∀ i (h : i < L.length), W.cell? ⟨b, i, none⟩ = some (.slice L[i].A 0 L[i].c)) (hnl : n < 1048576) :
    Calls Try.prog 39 #[.slice (some ⟨b, 0, none⟩) n c] W fun e W' => e = .returned (.slice none 0 0) ∧ W' = W := by
  obtain ⟨i0, hi0, hz0, hz1, hz2⟩ := info_parts infoV
  replace hn := Lib.hid hn
  replace hL := Lib.hid hL
  go_enter Try.func39, Try.ntmps39
  go_wp2
  go_loopw [3, 11] (fun sv iv wr => wr = W ∧ ∃ (k : Nat), iv = .int .i64 (k : Int) ∧ k ≤ n ∧ sv = .int .i64 0) (fun _ iv _ => n - (intOf iv).toNat)
  case atStart => exact ⟨rfl, 0, rfl, by omega, rfl⟩
  case round =>
    obtain ⟨rfl, k, rfl, hk, rfl⟩ := hrel
    by_cases hlt : k < n
    · have hkl : k < L.length := by rw [hn.out]; exact hlt
      have h1 := hL.out k hkl
      generalize L[k]'hkl = r at h1
      have q0 : (0 : Int) ≤ (k : Int) := by omega
      have q1 : (k : Int) < (n : Int) := by omega
      go_wp2
      go_roundw
      case rel => exact ⟨trivial, k + 1, by go_num, by omega, by simp⟩
      case measure => simp [intOf]; omega
    · obtain rfl : k = n := by omega
      have cG : Calls Try.prog 59 #[.slice none 0 0, .int .i64 0] wr fun e w' => e = .returned (.slice none 0 0) ∧ w' = wr := Any8.slices_Grow_room Try.grow59 none 0 0 0 wr (Nat.le_refl _) (by omega) (by omega) (by omega)
      go_upto_region 10 with (first | (go_at_call 59; (with_reducible refine cG.mono ?_); rintro e W2 ⟨rfl, rfl⟩) | fail)
      go_wp2
      go_loopw [6, 27] (fun lv iv wq => wq = W2 ∧ ∃ (j : Nat), iv = .int .i64 (j : Int) ∧ j ≤ k ∧ lv = .slice none 0 0) (fun _ iv _ => k - (intOf iv).toNat)
      case atStart => exact ⟨rfl, 0, rfl, by omega, rfl⟩
      case round =>
        obtain ⟨rfl, j, rfl, hj, rfl⟩ := hrel
        rename World => wq
        by_cases hjl : j < k
        · have hkl : j < L.length := by rw [hn.out]; exact hjl
          have h1 := hL.out j hkl
          generalize L[j]'hkl = r at h1
          have q0 : (0 : Int) ≤ (j : Int) := by omega
          have q1 : (j : Int) < (k : Int) := by omega
          have hrun := run_append_nothing (P := Try.prog) wq 22 22 22 30 i0 Try.underlying22 hi0 none 0 0 (Nat.le_refl _) (.slice r.A 0 r.c) (srcV _ r.A r.c _)
          go_wp2_with (first | (at_builtin; (refine wpList_val rfl (.slice none 0 0) wq (by unfold execOp; simp only [resolve, invoke, builtin, Sem.run_bind, Sem.run_pure, Result.andThen_ok, List.map_toArray, List.map_cons, List.map_nil]; exact congrArg (fun r => Result.andThen r (fun a w' => Result.ok (Next.value a) w')) hrun) ?_)) | fail)
          go_roundw
          case rel => exact ⟨trivial, j + 1, by go_num, by omega, rfl⟩
          case measure => simp [intOf]; omega
        · obtain rfl : j = k := by omega
          go_wp2
          go_ret
          exact ⟨rfl, rfl⟩
end Go.Proofs.Ytpdnaceggpdleab
namespace Go.Proofs.Ytpdnaceggpdleab
open Go.RowKit
set_option linter.unusedVariables false
set_option linter.unusedSimpArgs false
section
variable {P : Program} {ops : Array Oper} {w : World} {md : Region.Mode}
variable {n N : Nat} {alc : Tmp} {obj obj' : Obj} {L : Ph → Array Bool → Act → Prop}
end
section
variable {P : Program} {w : World}
end
end Go.Proofs.Ytpdnaceggpdleab
namespace Go.Proofs.Ytpdnaceggpdleab
open Go.RowKit
set_option linter.unusedVariables false
set_option linter.unusedSimpArgs false
section
variable {P : Program} {ops : Array Oper} {w : World} {md : Region.Mode} {S : Type}
variable {sp : Nat → Bool} {AtS : S → World → Prop} {L : S → Array Bool → Act → Prop}
/-- An operation that goes from state to state. -/
def spAt (P : Program) (AtS : S → World → Prop) (o : Oper) (ex : Sem Next) (s : S) (K : S → Value → Prop) : Prop :=
  o.guard = none ∧ ∀ u, AtS s u → ∃ s' v u', ((ex.run P u = .ok (.value v) u') ∨ (ex.run P u = .ok .skip u' ∧ v = undef)) ∧ AtS s' u' ∧ K s' v
def anyS (P : Program) (md : Region.Mode) (ops : Array Oper) (w : World) (sp : Nat → Bool) (AtS : S → World → Prop) (L : S → Array Bool → Act → Prop) : Nat → S → Array Bool → Act → Prop
  | 0, s, listed, a => L s listed a
  | f + 1, s, listed, a => Region.ready md ops listed ≠ [] ∧ ∀ i ∈ Region.ready md ops listed,
      (sp i = false ∧ sureOp P ops w i (anyS P md ops w sp AtS L f s (listed.setIfInBounds i true)) a) ∨
      (sp i = true ∧ ∃ o, ops[i]? = some o ∧ spAt P AtS o (execOp a.eval o) s (fun s' v => anyS P md ops w sp AtS L f s' (listed.setIfInBounds i true) (a.put o.dst v)))
theorem anyS_sound {g : Nat} {Q' : Exit → Act → World → Prop} (hg : ∀ s u, AtS s u → ∃ x, u = grow w x) (hon : ∀ s u, AtS s u → ∀ y, AtS s (grow u y)) (hL : ∀ s listed a u, AtS s u → L s listed a → wpAny P md ops Q' g listed a u) :
    ∀ (f : Nat) (s : S) (listed : Array Bool) (a : Act) (u : World), AtS s u → anyS P md ops w sp AtS L f s listed a → wpAny P md ops Q' (f + g) listed a u
  | 0, s, listed, a, u, hu, h => by rw [Nat.zero_add]; exact hL _ _ _ _ hu h
  | f + 1, s, listed, a, u, hu, h => by
    rw [show f + 1 + g = (f + g) + 1 by omega]
    refine ⟨fun h0 => absurd h0 h.1, fun i hi => ?_⟩
    rcases h.2 i hi with ⟨_, o, v, ho, hy, hk⟩ | ⟨_, o, ho, hst⟩
    · unfold wpOp
      simp only [ho]
      rcases hy with ⟨hw, hv⟩ | ⟨hw, rfl⟩
      · rw [if_pos hw]
        left
        obtain ⟨x, rfl⟩ := hg _ _ hu
        have h3 := hv x
        unfold Oper.quietAt at h3
        unfold Oper.wp
        generalize (execOp a.eval o).run P (grow w x) = r at *
        cases r with
        | ok nx w' =>
          cases nx <;> simp only [Oper.quietUpon] at h3 <;> simp only [Oper.upon]
          case value u' =>
            obtain ⟨e1, e2⟩ := h3
            rw [e1, e2]
            exact anyS_sound hg hon hL f _ _ _ _ hu hk
          case skip =>
            obtain ⟨e1, e2⟩ := h3
            rw [e1, ← e2]
            exact anyS_sound hg hon hL f _ _ _ _ hu hk
          case enter fn args =>
            obtain ⟨e1, hc⟩ := h3
            rw [e1]
            exact hc.mono fun e w'' ⟨he, y, hy⟩ => by
              subst he hy
              exact anyS_sound hg hon hL f _ _ _ _ (hon _ _ hu y) hk
        | halt x w' => simp only [Oper.quietUpon] at h3
      · rw [if_neg (by rw [hw]; exact Bool.false_ne_true)]
        exact anyS_sound hg hon hL f _ _ _ _ hu hk
    · obtain ⟨hgd, hrun⟩ := hst
      obtain ⟨s', v, u', hr, hu', hk⟩ := hrun u hu
      unfold wpOp
      simp only [ho]
      rw [if_pos (by simp [Region.wanted, hgd])]
      left
      unfold Oper.wp
      rcases hr with hr | ⟨hr, rfl⟩ <;> rw [hr] <;> simp only [Oper.upon] <;> exact anyS_sound hg hon hL f _ _ _ _ hu' hk
theorem anyS_first {i : Nat} {oi : Oper} {v : Value} (hi : ops[i]? = some oi) (hsel : ∀ (j : Nat) (o : Oper) cs b, ops[j]? = some o → o.op ≠ .select cs b) (hin : sp i = false)
    (hdone : ∀ s listed a, L s listed a → Region.ready md ops listed = []) :
    ∀ (f : Nat) (s : S) (listed : Array Bool) (a : Act),
      (∀ j oj, ops[j]? = some oj → j ≠ i → listed.getD j true = false → (∀ e ∈ oj.after, Region.binds md e = true → e.on ≠ i) → oi.apart ops oj = true) →
      i ∈ Region.ready md ops listed → Sure P ops w oi v a →
      anyS P md ops w sp AtS L f s (listed.setIfInBounds i true) (a.put oi.dst v) → anyS P md ops w sp AtS L (f + 1) s listed a := by
  intro f
  induction f with
  | zero =>
    intro s listed a _ hr hy H
    have hun := (mem_ready.1 hr).1
    refine ⟨fun h => (by rw [h] at hr; cases hr), fun j hj => ?_⟩
    by_cases hji : j = i
    · subst hji; exact .inl ⟨hin, oi, v, hi, hy, H⟩
    · have h1 := hdone _ _ _ H
      have h2 := ready_mono hj hji
      rw [h1] at h2
      cases h2
  | succ f ih =>
    intro s listed a hfree hr hy H
    have hun := (mem_ready.1 hr).1
    refine ⟨fun h => (by rw [h] at hr; cases hr), fun j hj => ?_⟩
    by_cases hji : j = i
    · subst hji; exact .inl ⟨hin, oi, v, hi, hy, H⟩
    · obtain ⟨hjun, oj, hoj, hall⟩ := mem_ready.1 hj
      have hnot : ∀ e ∈ oj.after, Region.binds md e = true → e.on ≠ i := fun e he hb heq => by
        have h1 := hall e he hb
        rw [heq, getD_both hun] at h1
        cases h1
      obtain ⟨p1, p2, p3⟩ := Oper.apart_spec (hfree j oj hoj hji hjun hnot)
      have hfree' : ∀ k ok, ops[k]? = some ok → k ≠ i → (listed.setIfInBounds j true).getD k true = false →
          (∀ e ∈ ok.after, Region.binds md e = true → e.on ≠ i) → oi.apart ops ok = true := fun k ok hk hki hun' hno => by
        refine hfree k ok hk hki ?_ hno
        by_cases hjk : j = k
        · subst hjk; exact hjun
        · rw [getD_set_ne true hjk] at hun'; exact hun'
      have go : ∀ (s' : S) (u : Value), anyS P md ops w sp AtS L f s' ((listed.setIfInBounds i true).setIfInBounds j true) ((a.put oi.dst v).put oj.dst u) →
          anyS P md ops w sp AtS L (f + 1) s' (listed.setIfInBounds j true) (a.put oj.dst u) := fun s' u h => by
        refine ih s' (listed.setIfInBounds j true) (a.put oj.dst u) hfree' (ready_mono hr (Ne.symm hji)) (hy.put (fun cs b => hsel i oi cs b hi) p3) ?_
        rw [Array.setIfInBounds_comm _ _ hji, ← Act.put_comm a v u p2]
        exact h
      rcases H.2 j (ready_mono hj hji) with ⟨hj2, oj', u, hoj', hyj, hk⟩ | ⟨hj2, o, ho, hgd, hrun⟩
      · obtain rfl : oj = oj' := Option.some.inj (hoj.symm.trans hoj')
        exact .inl ⟨hj2, oj, u, hoj, hyj.unput (fun cs b => hsel j oj cs b hoj) p1, go s u hk⟩
      · obtain rfl : oj = o := Option.some.inj (hoj.symm.trans ho)
        refine .inr ⟨hj2, oj, hoj, hgd, fun u hu => ?_⟩
        obtain ⟨s', x, u', hr', hu', hk⟩ := hrun u hu
        rw [execOp_put oj (fun cs b => hsel _ oj cs b hoj) a oi.dst v p1] at hr'
        exact ⟨s', x, u', hr', hu', go s' x hk⟩
theorem anyS_lex {F : Nat} {s : S} {fin : Array Bool → Bool} {Q : Act → Prop} (hsel : Region.noSelect ops = true) (hdone : ∀ s listed a, L s listed a → Region.ready md ops listed = [])
    (hfin : ∀ listed a, fin listed = true → Q a → anyS P md ops w sp AtS L F s listed a) :
    ∀ (l : List Oper) (k : Nat) (listed : Array Bool) (a : Act), (∀ j, j < l.length → l[j]? = ops[k + j]?) → (∀ j, k ≤ j → j < k + l.length → sp j = false) →
    lexH md ops fin l.length k listed = true → sureL P ops w Q l a → anyS P md ops w sp AtS L (l.length + F) s listed a
  | [], k, listed, a, _, hk, hB, h => by
    simp only [List.length_nil, Nat.zero_add]
    exact hfin listed a (by simpa [lexH] using hB) h
  | o :: l, k, listed, a, hl, hk, hB, h => by
    have h0 : ops[k]? = some o := by simpa using (hl 0 (by simp)).symm
    simp only [List.length_cons, lexH, Bool.and_eq_true] at hB
    obtain ⟨⟨hr, hf⟩, hB'⟩ := hB
    have hr' : k ∈ Region.ready md ops listed := by simpa using hr
    obtain ⟨v, hy, hK⟩ := h
    rw [show (o :: l).length + F = (l.length + F) + 1 by simp only [List.length_cons]; omega]
    exact anyS_first h0 (Region.noSelect_spec hsel) (hk k (Nat.le_refl _) (by simp)) hdone (l.length + F) s listed a (Region.free_spec h0 hf) hr' hy
      (anyS_lex hsel hdone hfin l (k + 1) _ _ (fun j hj => by have := hl (j + 1) (by simp; omega); simpa [Nat.add_assoc, Nat.add_comm 1 j] using this) (fun j h1 h2 => hk j (by omega) (by simp only [List.length_cons]; omega)) hB' hK)
end
/-! two blocks made, two stores -/
inductive Ph2 where
  | no
  | a (g : Nat)
  | b (g : Nat)
  | ab (ga gb : Nat)
  | s1 (ga gb : Nat)
  | s2 (ga gb : Nat)
def Own (w : World) (t : TypeId) (g : Nat) (c : Array Value) (u : World) : Prop := w.heap.size ≤ g ∧ Blk u g t c
def AtT (w : World) (t : TypeId) (c0 ca cb : Array Value) : Ph2 → World → Prop
  | .no, u => Below w.heap.size w u
  | .a g, u => Below w.heap.size w u ∧ Own w t g c0 u
  | .b g, u => Below w.heap.size w u ∧ Own w t g c0 u
  | .ab ga gb, u => Below w.heap.size w u ∧ ga ≠ gb ∧ Own w t ga c0 u ∧ Own w t gb c0 u
  | .s1 ga gb, u => Below w.heap.size w u ∧ ga ≠ gb ∧ Own w t ga ca u ∧ Own w t gb c0 u
  | .s2 ga gb, u => Below w.heap.size w u ∧ ga ≠ gb ∧ Own w t ga ca u ∧ Own w t gb cb u
theorem Own.on {w : World} {t : TypeId} {g : Nat} {c : Array Value} {u : World} (h : Own w t g c u) (y : More) : Own w t g c (grow u y) := ⟨h.1, h.2.grow y⟩
theorem AtT.grows {w : World} {t : TypeId} {c0 ca cb : Array Value} (s : Ph2) (u : World) (h : AtT w t c0 ca cb s u) : ∃ x, u = grow w x := by
  cases s
  · exact grow_of h
  all_goals exact grow_of h.1
theorem AtT.on {w : World} {t : TypeId} {c0 ca cb : Array Value} (s : Ph2) (u : World) (h : AtT w t c0 ca cb s u) (y : More) : AtT w t c0 ca cb s (grow u y) := by
  cases s
  · exact bel_grow h y
  · exact ⟨bel_grow h.1 y, h.2.on y⟩
  · exact ⟨bel_grow h.1 y, h.2.on y⟩
  all_goals exact ⟨bel_grow h.1 y, h.2.1, h.2.2.1.on y, h.2.2.2.on y⟩
theorem Own.alloc {w : World} {t : TypeId} {g : Nat} {c : Array Value} {u : World} (h : Own w t g c u) (o : Obj) : Own w t g c (u.alloc o) := ⟨h.1, h.2.alloc o⟩
theorem Own.new {w : World} {t : TypeId} {c : Array Value} {u : World} (h : Below w.heap.size w u) : Own w t u.heap.size c (u.alloc (.cells c t)) := ⟨h.size, Blk.new _ _ _ _ rfl⟩
def ptr (g : Nat) : Value := .pointer (some ⟨g, 0, none⟩)
def StoreS (P : Program) (o : Oper) (ex : Sem Next) (g : Nat) (t : TypeId) (c0 c1 : Array Value) : Prop :=
  o.guard = none ∧ o.dst = none ∧ ∀ u, Blk u g t c0 → ex.run P u = .ok .skip (u.setRow g c1)
theorem storeS_row {P : Program} (t : TypeId) (c c' : Array Value) {o : Oper} {a : Act} {g : Nat} (p v : Operand) (ho : o.op = .store t p v) (hg : o.guard = none) (hd : o.dst = none) (hp : a.eval p = .pointer (some ⟨g, 0, none⟩)) (hv : a.eval v = .agg c') (hi : (P.info? t).map (·.size) = some c'.size) (hs : c.size = c'.size) (h1 : c'.all (·.oneCell') = true) : StoreS P o (execOp a.eval o) g t c c' := by
  refine ⟨hg, hd, fun u hu => ?_⟩
  unfold execOp
  rw [ho]
  simp only [hp, hv, Instr.storeAt, Instr.sureAddr, Sem.run_bind, Sem.run_pure, Result.andThen]
  rw [run_storeVar_row _ _ t t c c' hu hi hs h1]
theorem bel_row {a w : World} (h : Below a.heap.size a w) {g : Nat} (hp : a.heap.size ≤ g) (c : Array Value) : Below a.heap.size a (w.setRow g c) := bel_setRow h hp c
section
variable {P : Program} {w : World}
def spB (n : Nat) (i : Nat) : Bool := decide (n ≤ i) && decide (i < n + 4)
def twoB (l : List Oper) (n : Nat) : Bool :=
  Region.noSelect l.toArray && decide (n + 3 < l.length) &&
  lexH .any l.toArray (fun b => decide (Region.ready .any l.toArray b = [n, n + 1]) && decide (Region.ready .any l.toArray (b.setIfInBounds n true) = [n + 1]) && decide (Region.ready .any l.toArray (b.setIfInBounds (n + 1) true) = [n]) &&
    (decide (Region.ready .any l.toArray ((b.setIfInBounds n true).setIfInBounds (n + 1) true) = [n + 2]) && decide (Region.ready .any l.toArray (((b.setIfInBounds n true).setIfInBounds (n + 1) true).setIfInBounds (n + 2) true) = [n + 3]) &&
    lexH .any l.toArray (fun b => decide (Region.ready .any l.toArray b = [])) (l.length - (n + 4)) (n + 4) ((((b.setIfInBounds n true).setIfInBounds (n + 1) true).setIfInBounds (n + 2) true).setIfInBounds (n + 3) true))) n 0 (Array.replicate l.length false)
/-- Operations n, n + 1 make a block each, n + 2, n + 3 store into them; all others are quiet, and go in any order. -/
theorem wp_region_two {id : Nat} {Q : Exit → Act → World → Prop} {a : Act} {l : List Oper} (n : Nat) (A : Act) (da db : Tmp) (t : TypeId) (c0 ca cb : Array Value) (hm : P.follows .mixedOrders = true) (hB : twoB l n = true) (hd : dstsB a.tmps.size (l.take n) = true) (hdd : da ≠ db)
    (hma : Makes P l.toArray n (some da) (.cells c0 t)) (hmb : Makes P l.toArray (n + 1) (some db) (.cells c0 t))
    (h : ∀ x : More, wpQuiet P l.toArray (fun u => ∃ y, u = grow (grow w x) y) (fun a' => a' = A) (l.take n) a)
    (hsa : ∀ ga gb : Nat, ∃ o, l[n + 2]? = some o ∧ StoreS P o (execOp ((A.put (some da) (ptr ga)).put (some db) (ptr gb)).eval o) ga t c0 ca)
    (hsb : ∀ ga gb : Nat, ∃ o, l[n + 3]? = some o ∧ StoreS P o (execOp ((A.put (some da) (ptr ga)).put (some db) (ptr gb)).eval o) gb t c0 cb)
    (ht : ∀ ga gb : Nat, ∃ A2 : Act, dstsB ((A.put (some da) (ptr ga)).put (some db) (ptr gb)).tmps.size (l.drop (n + 4)) = true ∧
      (∀ x : More, wpQuiet P l.toArray (fun u => ∃ y, u = grow (grow w x) y) (fun a' => a' = A2) (l.drop (n + 4)) ((A.put (some da) (ptr ga)).put (some db) (ptr gb))) ∧
      ∀ u, AtT w t c0 ca cb (.s2 ga gb) u → Q .normal A2 u) : (Code.region id l.toArray true).wp P Q a w := by
  simp only [twoB, Bool.and_eq_true, decide_eq_true_eq] at hB
  obtain ⟨⟨hsel, hn⟩, hlex⟩ := hB
  have htl : (l.take n).length = n := by simp; omega
  have hdl : (l.drop (n + 4)).length = l.length - (n + 4) := by simp
  refine wp_region_any hm ?_
  have hu : AtT w t c0 ca cb .no { w with drawn := w.drawn + 1 } := bel_drew (Below.refl _ _)
  let L : Ph2 → Array Bool → Act → Prop := fun s listed a => Region.ready .any l.toArray listed = [] ∧ ∃ ga gb, s = .s2 ga gb ∧ ∀ u, AtT w t c0 ca cb (.s2 ga gb) u → Q .normal a u
  have hdone : ∀ (s : Ph2) (listed : Array Bool) (a : Act), L s listed a → Region.ready .any l.toArray listed = [] := fun s listed a h => h.1
  have n0 : spB n n = true := by simp [spB]
  have n1 : spB n (n + 1) = true := by simp [spB]
  have n2 : spB n (n + 2) = true := by simp [spB]
  have n3 : spB n (n + 3) = true := by simp [spB]
  -- behind both makings
  have last : ∀ (ga gb : Nat) (b : Array Bool), (Region.ready .any l.toArray b = [n + 2] ∧ Region.ready .any l.toArray (b.setIfInBounds (n + 2) true) = [n + 3]) ∧ lexH .any l.toArray (fun b => decide (Region.ready .any l.toArray b = [])) (l.length - (n + 4)) (n + 4) ((b.setIfInBounds (n + 2) true).setIfInBounds (n + 3) true) = true →
      anyS P .any l.toArray w (spB n) (AtT w t c0 ca cb) L (l.length - (n + 4) + 2) (.ab ga gb) b ((A.put (some da) (ptr ga)).put (some db) (ptr gb)) := by
    intro ga gb b ⟨⟨r2, r3⟩, hx⟩
    obtain ⟨o2, ho2, g2, d2, run2⟩ := hsa ga gb
    obtain ⟨o3, ho3, g3, d3, run3⟩ := hsb ga gb
    obtain ⟨A2, hd2, h2, h3⟩ := ht ga gb
    refine ⟨by rw [r2]; simp, fun i hi => ?_⟩
    rw [r2] at hi
    obtain rfl : i = n + 2 := by simpa using hi
    refine .inr ⟨n2, o2, by simpa using ho2, g2, fun u hu => ⟨.s1 ga gb, undef, _, .inr ⟨run2 u hu.2.2.1.2, rfl⟩, ⟨bel_row hu.1 hu.2.2.1.1 _, hu.2.1, ⟨hu.2.2.1.1, hu.2.2.1.2.setRow _⟩, ⟨hu.2.2.2.1, hu.2.2.2.2.farRow _ hu.2.1⟩⟩, ?_⟩⟩
    rw [d2]
    refine ⟨by show Region.ready .any l.toArray (b.setIfInBounds (n + 2) true) ≠ []; rw [r3]; simp, fun j hj => ?_⟩
    rw [r3] at hj
    obtain rfl : j = n + 3 := by simpa using hj
    refine .inr ⟨n3, o3, by simpa using ho3, g3, fun u hu => ⟨.s2 ga gb, undef, _, .inr ⟨run3 u hu.2.2.2.2, rfl⟩, ⟨bel_row hu.1 hu.2.2.2.1 _, hu.2.1, ⟨hu.2.2.1.1, hu.2.2.1.2.farRow _ (Ne.symm hu.2.1)⟩, ⟨hu.2.2.2.1, hu.2.2.2.2.setRow _⟩⟩, ?_⟩⟩
    rw [d3]
    have key := anyS_lex (P := P) (w := w) (md := .any) (ops := l.toArray) (sp := spB n) (AtS := AtT w t c0 ca cb) (L := L) (s := .s2 ga gb) (F := 0)
      (fin := fun b => decide (Region.ready .any l.toArray b = [])) (Q := fun a => a = A2) hsel hdone
      (fun b a hf hq => ⟨by simpa using hf, ga, gb, rfl, by rw [hq]; exact h3⟩) (l.drop (n + 4)) (n + 4) ((b.setIfInBounds (n + 2) true).setIfInBounds (n + 3) true) ((A.put (some da) (ptr ga)).put (some db) (ptr gb))
      (fun j hj => by simp [List.getElem?_drop]) (fun j h1 h2 => by simp [spB]; omega) (by rw [hdl]; exact hx) (sure_of_quiet (Q := fun a => a = A2) rfl _ _ hd2 h2)
    rw [hdl, Nat.add_zero] at key
    exact key
  have H := anyS_lex (P := P) (w := w) (md := .any) (ops := l.toArray) (sp := spB n) (AtS := AtT w t c0 ca cb) (L := L) (s := .no) (F := (l.length - (n + 4)) + 4)
    (fin := fun b => decide (Region.ready .any l.toArray b = [n, n + 1]) && decide (Region.ready .any l.toArray (b.setIfInBounds n true) = [n + 1]) && decide (Region.ready .any l.toArray (b.setIfInBounds (n + 1) true) = [n]) &&
    (decide (Region.ready .any l.toArray ((b.setIfInBounds n true).setIfInBounds (n + 1) true) = [n + 2]) && decide (Region.ready .any l.toArray (((b.setIfInBounds n true).setIfInBounds (n + 1) true).setIfInBounds (n + 2) true) = [n + 3]) &&
    lexH .any l.toArray (fun b => decide (Region.ready .any l.toArray b = [])) (l.length - (n + 4)) (n + 4) ((((b.setIfInBounds n true).setIfInBounds (n + 1) true).setIfInBounds (n + 2) true).setIfInBounds (n + 3) true))) (Q := fun a => a = A) hsel hdone
    (fun b a hf hq => by
      simp only [Bool.and_eq_true, decide_eq_true_eq] at hf
      obtain ⟨⟨⟨r0, ra⟩, rb⟩, hx⟩ := hf
      subst hq
      obtain ⟨oa, hoa, dda, ga_, runa⟩ := hma da rfl
      obtain ⟨ob, hob, ddb, gb_, runb⟩ := hmb db rfl
      refine ⟨by rw [r0]; simp, fun i hi => ?_⟩
      rw [r0] at hi
      have hi' : i = n ∨ i = n + 1 := by simpa using hi
      rcases hi' with rfl | rfl
      · refine .inr ⟨n0, oa, hoa, ga_, fun u hu => ⟨.a u.heap.size, _, _, .inl (runa _ u), ⟨bel_alloc hu _, Own.new hu⟩, ?_⟩⟩
        rw [dda]
        refine ⟨by rw [ra]; simp, fun j hj => ?_⟩
        rw [ra] at hj
        obtain rfl : j = i + 1 := by simpa using hj
        refine .inr ⟨n1, ob, hob, gb_, fun u' hu' => ⟨.ab u.heap.size u'.heap.size, _, _, .inl (runb _ u'), ⟨bel_alloc hu'.1 _, Nat.ne_of_lt hu'.2.2.lt, hu'.2.alloc _, Own.new hu'.1⟩, ?_⟩⟩
        rw [ddb]
        exact last _ _ _ hx
      · refine .inr ⟨n1, ob, hob, gb_, fun u hu => ⟨.b u.heap.size, _, _, .inl (runb _ u), ⟨bel_alloc hu _, Own.new hu⟩, ?_⟩⟩
        rw [ddb]
        refine ⟨by rw [rb]; simp, fun j hj => ?_⟩
        rw [rb] at hj
        obtain rfl : j = n := by simpa using hj
        refine .inr ⟨n0, oa, hoa, ga_, fun u' hu' => ⟨.ab u'.heap.size u.heap.size, _, _, .inl (runa _ u'), ⟨bel_alloc hu'.1 _, Ne.symm (Nat.ne_of_lt hu'.2.2.lt), Own.new hu'.1, hu'.2.alloc _⟩, ?_⟩⟩
        rw [dda]
        have hc := last u'.heap.size u.heap.size _ hx
        rw [Array.setIfInBounds_comm _ _ (by omega), Act.put_comm _ (x := some da) (y := some db) _ _ (fun d e e2 => hdd (by cases e; cases e2; rfl))] at hc
        exact hc) (l.take n) 0 (Array.replicate l.length false) a (fun j hj => by
      rw [htl] at hj
      simp [hj]) (fun j _ h2 => by rw [htl] at h2; simp [spB]; omega) (by rw [htl]; simpa using hlex) (sure_of_quiet (Q := fun a => a = A) rfl _ _ hd h)
  have T := anyS_sound (P := P) (Q' := Q) (g := 0) (fun s u h => AtT.grows s u h) (fun s u h y => AtT.on s u h y) (fun s listed a u hu hl => by
    obtain ⟨hq, ga, gb, rfl, h3⟩ := hl
    exact ⟨hq, h3 u hu⟩) _ _ _ _ _ hu H
  rw [htl, show n + (l.length - (n + 4) + 4) + 0 = l.length by omega] at T
  simpa using T
end
end Go.Proofs.Ytpdnaceggpdleab
namespace Go.Proofs.Ytpdnaceggpdleab
open Go.RowKit
set_option linter.unusedVariables false
set_option linter.unusedSimpArgs false
section
variable {P : Program} {md : Region.Mode} {l : List Oper} {n : Nat} {Q : Exit → Act → World → Prop} {R : Nat → World → Value → Prop} {a0 : Act} {w0 : World}
def doneA (len n : Nat) : Array Bool := ((List.range len).map fun j => decide (j < n)).toArray
def predsL (l : List Oper) (i : Nat) : List Nat := ((l[i]?).map fun o => ((o.after.toList.filter fun e => Region.binds .any e).map fun e => e.on)).getD []
def ancS (l : List Oper) : Nat → List Nat → List Nat
  | 0, S => S
  | i + 1, S => ancS l i (if S.contains i then S ++ predsL l i else S)
/-- Do the operations behind the first n wait for all of these? (a closed fact) -/
def waitB (l : List Oper) (n : Nat) : Bool := (List.range l.length).all fun k => decide (k < n) || (List.range n).all fun j => (ancS l k (predsL l k)).contains j
def Closed (l : List Oper) (listed : Array Bool) : Prop := ∀ i, listed.getD i false = true → ∀ j ∈ predsL l i, listed.getD j false = true
theorem anc_listed {l : List Oper} {listed : Array Bool} (h : Closed l listed) : ∀ (i : Nat) (S : List Nat), (∀ j ∈ S, listed.getD j false = true) → ∀ j ∈ ancS l i S, listed.getD j false = true
  | 0, S, hS => hS
  | i + 1, S, hS => by
    unfold ancS
    split
    · rename_i hi
      refine anc_listed h i _ fun j hj => ?_
      rcases List.mem_append.1 hj with hj | hj
      · exact hS j hj
      · exact h i (hS i (by simpa using hi)) j hj
    · exact anc_listed h i S hS
theorem preds_of {l : List Oper} {i : Nat} {o : Oper} (ho : l.toArray[i]? = some o) (j : Nat) : j ∈ predsL l i ↔ ∃ e ∈ o.after, Region.binds .any e = true ∧ e.on = j := by
  have : l[i]? = some o := by simpa using ho
  unfold predsL
  rw [this]
  simp only [Option.map_some, Option.getD_some, List.mem_map, List.mem_filter, Array.mem_toList_iff]
  constructor
  · rintro ⟨e, ⟨h1, h2⟩, h3⟩; exact ⟨e, h1, h2, h3⟩
  · rintro ⟨e, h1, h2, h3⟩; exact ⟨e, ⟨h1, h2⟩, h3⟩
theorem wait_of (h : waitB l n = true) : ∀ (listed : Array Bool), Closed l listed → ∀ (k : Nat) (o : Oper), l.toArray[k]? = some o → n ≤ k → (∀ e ∈ o.after, Region.binds .any e = true → listed.getD e.on false = true) → ∀ j, j < n → listed.getD j false = true := fun listed hc k o hk hn hp j hj => by
  unfold waitB at h
  rw [List.all_eq_true] at h
  have hkl : k < l.length := by have := (Array.getElem?_eq_some_iff.1 hk).1; simpa using this
  have := h k (by simpa using hkl)
  simp only [Bool.or_eq_true, decide_eq_true_eq] at this
  rcases this with h1 | h1
  · omega
  · rw [List.all_eq_true] at h1
    have h2 := h1 j (by simpa using hj)
    refine anc_listed hc k (predsL l k) (fun i hi => ?_) j (by simpa using h2)
    obtain ⟨e, h3, h4, rfl⟩ := (preds_of hk i).1 hi
    exact hp e h3 h4
theorem take_get {j : Nat} (hj : j < n) : (l.take n).toArray[j]? = l.toArray[j]? := by simp [List.getElem?_take, hj]
theorem closed_set {l : List Oper} {listed : Array Bool} {i : Nat} {o : Oper} (h : Closed l listed) (ho : l.toArray[i]? = some o) (hp : ∀ e ∈ o.after, Region.binds .any e = true → listed.getD e.on false = true) : Closed l (listed.setIfInBounds i true) := by
  have up : ∀ j, listed.getD j false = true → (listed.setIfInBounds i true).getD j false = true := fun j hj => by
    by_cases e : i = j
    · subst e
      have hlt : i < listed.size := by
        rcases Nat.lt_or_ge i listed.size with q | q
        · exact q
        · simp [Array.getD, Nat.not_lt.2 q] at hj
      simp [Array.getD, hlt]
    · rw [getD_set_ne false e]; exact hj
  intro k hk j hj
  apply up
  by_cases e : i = k
  · subst e
    obtain ⟨e, h3, h4, rfl⟩ := (preds_of ho j).1 hj
    exact hp e h3 h4
  · rw [getD_set_ne false e] at hk
    exact h k hk j hj
theorem monoT_sound (hE : ∀ (i : Nat) (o : Oper), l.toArray[i]? = some o → ∀ e ∈ o.after, Region.binds .any e = true → e.on < i) (hW : ∀ (listed : Array Bool), Closed l listed → ∀ (k : Nat) (o : Oper), l.toArray[k]? = some o → n ≤ k → (∀ e ∈ o.after, Region.binds .any e = true → listed.getD e.on false = true) → ∀ j, j < n → listed.getD j false = true)
    (hnl : n ≤ l.length) (hseq : Region.seqB .any l.toArray (l.length - n) n (doneA l.length n) = true)
    (hmono : ∀ (j : Nat) (w w' : World) (v : Value), Below w.heap.size w w' → R j w v → R j w' v) (hd : ∀ (i j : Nat) (oi oj : Oper) (d : Tmp), (l.take n).toArray[i]? = some oi → (l.take n).toArray[j]? = some oj → oi.dst = some d → oj.dst = some d → i = j) (hsz : ∀ (j : Nat) (oj : Oper) (d : Tmp), (l.take n).toArray[j]? = some oj → oj.dst = some d → d < a0.tmps.size)
    (hS : ∀ (i : Nat) (o : Oper), (l.take n).toArray[i]? = some o → MonoS P .any (l.take n).toArray R a0 w0 Q i o)
    (hend : ∀ (a : Act) (w : World), Below w0.heap.size w0 w → a.tmps.size = a0.tmps.size → a.defers = a0.defers → (∀ t, (∀ (j : Nat) (o : Oper), (l.take n).toArray[j]? = some o → o.dst ≠ some t) → a.tmps[t]? = a0.tmps[t]?) → (∀ (j : Nat) (o : Oper) (d : Tmp), (l.take n).toArray[j]? = some o → o.dst = some d → ∃ v, a.tmps[d]? = some v ∧ R j w v) → wpList P l.toArray Q (l.drop n) a w) :
    ∀ (fuel : Nat) (listed : Array Bool) (a : Act) (w : World), listed.size = l.length → Closed l listed → left listed = fuel → (∀ j, n ≤ j → j < l.length → listed.getD j true = false) → MonoI (l.take n).toArray R a0 w0 listed a w → wpAny P .any l.toArray Q fuel listed a w := by
  intro fuel
  induction fuel with
  | zero =>
    intro listed a w hl hcl h0 hf hI
    by_cases hnn : n < l.length
    · have := left_set (hf n (Nat.le_refl _) hnn); omega
    · obtain rfl : n = l.length := by omega
      have hall : ∀ j, j < l.length → listed.getD j true = true := fun j hj => by
        cases hq : listed.getD j true with
        | true => rfl
        | false => have := left_set hq; omega
      have e : listed = doneA l.length l.length := by
        apply Array.ext
        · simp [doneA, hl]
        · intro i h1 h2
          have := hall i (by omega)
          simp only [Array.getD, h1, dif_pos] at this
          simp [doneA, show i < l.length by omega]; exact this
      have hs := wpAny_of_seq (P := P) (Q' := Q) (md := .any) (ops := l.toArray) (l.drop l.length) l.length listed a w (fun j => by simp) (by simpa [e] using hseq) (hend a w hI.bel hI.size hI.defers hI.keep (fun j o d hj hjd => hI.got j o d hj hjd (by
        have hj2 : j < l.length := by have := (Array.getElem?_eq_some_iff.1 hj).1; simpa using this
        have := hall j hj2
        have hjl : j < listed.size := by omega
        simp only [Array.getD, hjl, dif_pos] at this ⊢
        exact this)))
      simpa using hs
  | succ f ih =>
    intro listed a w hl hcl hf hT hI
    by_cases hdone : ∀ j, j < n → listed.getD j false = true
    · have e : listed = doneA l.length n := by
        apply Array.ext
        · simp [doneA, hl]
        · intro i h1 h2
          by_cases hi : i < n
          · have := hdone i hi
            simp only [Array.getD, h1, dif_pos] at this
            simp [doneA, hi]; exact this
          · have := hT i (by omega) (by omega)
            simp only [Array.getD, h1, dif_pos] at this
            simp [doneA, hi]; exact this
      have hfl : f + 1 = (l.drop n).length := by
        rw [← hf, e]
        unfold left doneA
        simp only [List.length_drop]
        have : ∀ len, n ≤ len → (((List.range len).map fun j => decide (j < n)).filter fun b => !b).length = len - n := fun len => by
          induction len with
          | zero => intro h; simp
          | succ m ihm =>
            intro h
            rw [List.range_succ, List.map_append, List.filter_append, List.length_append]
            by_cases hm : n ≤ m
            · rw [ihm hm]
              simp [show ¬ m < n by omega]; omega
            · obtain rfl : n = m + 1 := by omega
              have : ((List.range m).map fun j => decide (j < m + 1)).filter (fun b => !b) = [] := by
                rw [List.filter_eq_nil_iff]
                intro b hb
                obtain ⟨j, hj, rfl⟩ := List.mem_map.1 hb
                have : j < m := by simpa using hj
                simp; omega
              rw [this]
              simp
        exact this _ hnl
      rw [hfl]
      exact wpAny_of_seq (P := P) (Q' := Q) (md := .any) (ops := l.toArray) (l.drop n) n listed a w (fun j => by simp [List.getElem?_drop]) (by rw [e, List.length_drop]; exact hseq) (hend a w hI.bel hI.size hI.defers hI.keep (fun j o d hj hjd => hI.got j o d hj hjd (hdone j (by have := (Array.getElem?_eq_some_iff.1 hj).1; simp at this; omega))))
    · have hready : ∀ i ∈ Region.ready .any l.toArray listed, i < n := fun i hi => by
        obtain ⟨hun, o, ho, hall⟩ := mem_ready.1 hi
        rcases Nat.lt_or_ge i n with h | h
        · exact h
        · exfalso
          apply hdone
          exact hW listed hcl i o ho h hall
      refine ⟨fun hr => ?_, fun i hi => ?_⟩
      · exfalso
        apply hdone
        intro j
        induction j using Nat.strongRecOn with
        | _ j ihj =>
          intro hj
          cases hq : listed.getD j true with
          | true =>
            have hjl : j < listed.size := by omega
            simp only [Array.getD, hjl, dif_pos] at hq ⊢
            exact hq
          | false =>
            have hjl : j < l.length := by omega
            have : j ∈ Region.ready .any l.toArray listed := mem_ready.2 ⟨hq, l[j], by simp [hjl], fun e he hb => by
              have hlt := hE j l[j] (by simp [hjl]) e he hb
              exact ihj e.on hlt (by omega)⟩
            rw [hr] at this
            cases this
      · have hin := hready i hi
        obtain ⟨hun, o, ho, hall⟩ := mem_ready.1 hi
        have ho2 : (l.take n).toArray[i]? = some o := by rw [take_get hin]; exact ho
        obtain ⟨hg, hs⟩ := hS i o ho2
        unfold wpOp
        simp only [ho]
        rw [if_pos (by simp [Region.wanted, hg])]
        left
        refine Oper.wp_mono ?_ (hs a w hI.bel hI.size hI.defers hI.keep (fun e he hb oj d hoj hdj => hI.got e.on oj d hoj hdj (hall e he hb)))
        rintro a' w' ⟨v, rfl, hB, hR⟩
        refine ih _ _ _ (by simp [hl]) (closed_set hcl ho hall) (by have := left_set hun; omega) (fun j h1 h2 => ?_) (hI.step ho2 hmono hd hsz hB hR)
        rw [getD_set_ne true (by omega)]
        exact hT j h1 h2
/-- The rule over a list of operations: the first n in any order, the rest in one. -/
theorem wp_region_monoT {id : Nat} (n : Nat) (R : Nat → World → Value → Prop) (hm : P.follows .mixedOrders = true) (N : Nat) (hn : a0.tmps.size = N) (hE : edgesB l = true) (hW : waitB l n = true) (hnl : decide (n ≤ l.length) = true) (hseq : Region.seqB .any l.toArray (l.length - n) n (doneA l.length n) = true) (hD : dstB (l.take n) N = true)
    (hmono : ∀ (j : Nat) (w w' : World) (v : Value), Below w.heap.size w w' → R j w v → R j w' v)
    (hS : allI (MonoS P .any (l.take n).toArray R a0 w0 Q) 0 (l.take n))
    (hend : ∀ (a : Act) (w : World), Below w0.heap.size w0 w → a.tmps.size = a0.tmps.size → a.defers = a0.defers → (∀ t, (∀ (j : Nat) (o : Oper), (l.take n).toArray[j]? = some o → o.dst ≠ some t) → a.tmps[t]? = a0.tmps[t]?) → (∀ (j : Nat) (o : Oper) (d : Tmp), (l.take n).toArray[j]? = some o → o.dst = some d → ∃ v, a.tmps[d]? = some v ∧ R j w v) → wpList P l.toArray Q (l.drop n) a w) :
    (Code.region id l.toArray true).wp P Q a0 w0 := by
  have hl : left (Array.replicate l.toArray.size false) = l.toArray.size := by unfold left; simp
  refine wp_region_any hm ?_
  have := monoT_sound (a0 := a0) (w0 := w0) (R := R) (n := n) (Q := Q) (P := P) (edges_of hE) (wait_of hW) (by simpa using hnl) hseq hmono (dst_one hD) (fun j oj d h1 h2 => by rw [hn]; exact dst_lt hD j oj d h1 h2) (allI_arr hS) hend (l.toArray.size) (Array.replicate l.toArray.size false) a0 { w0 with drawn := w0.drawn + 1 } (by simp) (fun i hi => by simp [Array.getD] at hi) hl (fun j h1 h2 => by simp [Array.getD, h2]) ⟨bel_dr (Below.refl _ _) _, rfl, rfl, fun t _ => rfl, fun j o d _ _ hq => by simp [Array.getD] at hq⟩
  exact this
end
end Go.Proofs.Ytpdnaceggpdleab
