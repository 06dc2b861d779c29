/- Package sub: rows of points of a call's own; the middles of faces. alive of layer 8: a triangle, and two that go along an edge the same way. An argument that is a text. An argument that is an int. What all laws of layer 8 ask of a Build: its answer as one form. Find: the place of an edge in a sorted row. -/
import Derived.ChangeMaps5
import Derived.Test.YtpdnaceggpdleabProg
import Derived.Test.YtpdnaceggpdleabC0
import Derived.Test.YtpdnaceggpdleabC2
import Derived.Test.YtpdnaceggpdleabC6
import Derived.Test.YtpdnaceggpdleabC7
namespace Go.Proofs.Ytpdnaceggpdleab
open Go.RowKit
set_option linter.unusedVariables false
set_option linter.unusedSimpArgs false
set_option linter.unnecessarySimpa false
set_option maxRecDepth 100000
/-- The cells of points. -/
def pC (f : Nat → P3) : Nat → Nat → Value := fun v j => .int .i64 (if j = 0 then (f v).x else if j = 1 then (f v).y else (f v).z)
theorem pC_set (f : Nat → P3) {n v : Nat} (hv : v < n) (p : P3) : set3 (rowCs 3 n (pC f)) (v * 3) p = rowCs 3 n (pC fun u => if u = v then p else f u) := by
  unfold set3
  have e0 := rowCs_set (k := 3) (pC f) hv (show 0 < 3 by omega) (.int .i64 p.x)
  rw [Nat.add_zero] at e0
  rw [e0, rowCs_set _ hv (show 1 < 3 by omega), rowCs_set _ hv (show 2 < 3 by omega)]
  refine rowCs_ext fun a b ha hb => ?_
  unfold setC pC
  by_cases e : a = v
  · subst e
    rcases (by omega : b = 0 ∨ b = 1 ∨ b = 2) with rfl | rfl | rfl <;> simp
  · simp [e]
theorem pC_made (n : Nat) : madeCells #[.int .i64 Z3.x, .int .i64 Z3.y, .int .i64 Z3.z] (n * 3) = rowCs 3 n (pC fun _ => Z3) := by
  rw [rowCs_made (k := 3) rfl (by omega)]
  refine rowCs_ext fun a b ha hb => ?_
  unfold pC
  rcases (by omega : b = 0 ∨ b = 1 ∨ b = 2) with rfl | rfl | rfl <;> rfl
theorem pC_ext {n : Nat} {f g : Nat → P3} (h : ∀ v, v < n → f v = g v) : rowCs 3 n (pC f) = rowCs 3 n (pC g) := rowCs_ext fun a b ha hb => by unfold pC; rw [h a ha]
theorem VL_of {W : World} {g n : Nat} {t : TypeId} {f : Nat → P3} (h : Blk W g t (rowCs 3 n (pC f))) : VL W (some ⟨g, 0, none⟩) ((List.range n).map f) := fun hn => by
  refine ⟨g, 0, rfl, h.lt, fun i hi => ?_⟩
  have hi2 : i < n := by simpa using hi
  have e : ((List.range n).map f)[i] = f i := by simp
  rw [e, Nat.zero_add]
  refine ⟨?_, ?_, ?_⟩
  · rw [h.cell, show i * 3 = i * 3 + 0 from rfl, rowCs_at _ hi2 (by omega)]; rfl
  · rw [h.cell, rowCs_at _ hi2 (by omega)]; rfl
  · rw [h.cell, rowCs_at _ hi2 (by omega)]; rfl
theorem mid_eq (vs : List P3) (x : List Int) : ofP (foldP Z3 (x.map (vat vs))) (x.length : Int) = midP vs x := by
  rw [fold_sum]
  unfold midP ofP tri3 midS co
  simp only [List.map_map]
  rfl
theorem vat_get {vs : List P3} {i : Nat} (h : i < vs.length) : vat vs (i : Int) = vs[i] := by
  unfold vat; rw [Int.toNat_natCast, List.getD_eq_getElem?_getD, List.getElem?_eq_getElem h]; rfl
theorem made_blk {W1 : World} {base g n size : Nat} {e : TypeId} {z : Array Value} (own1 : W1.ownsRow base e size (.slice (some ⟨g, 0, none⟩) n n) n (madeCells z (n * size)).toList) : Blk W1 g e (madeCells z (n * size)) := by
  obtain ⟨_, h | ⟨g2, cap, cur, h1, h2, h3, h4, h5, h6, h7⟩⟩ := own1
  · simp at h
  · simp only [Value.slice.injEq, Option.some.injEq, Addr.mk.injEq, and_true] at h1
    obtain ⟨rfl, rfl⟩ : g = g2 ∧ n = cap := by
      refine ⟨h1.1, ?_⟩
      have := h1.2
      omega
    unfold Blk
    rw [h3]
    have e : cur = madeCells z (n * size) := by
      apply Array.ext'
      rw [List.take_of_length_le (by simp [h6])] at h7
      exact h7
    rw [e]
theorem Blk.kept {W W' : World} {g : Nat} {t : TypeId} {cs : Array Value} {row : Option Nat} (h : Blk W g t cs) (hg : W.grownBy W' row) (hne : some g ≠ row) : Blk W' g t cs := (hg.block g h.lt hne).trans h
set_option maxHeartbeats 4000000 in
theorem middles_any (W : World) (A1 A2 A3 : Option Addr) (k1 k2 n3 k3 : Nat) (vs : List P3) (fs : List (List Int)) (hV : VL W A1 vs) (hF : FL W A2 fs) (hin : ∀ x ∈ fs, ∀ y ∈ x, 0 ≤ y ∧ y < vs.length) (hl : fs.length < 1099511627776) (hxl : ∀ x ∈ fs, x.length < 1099511627776) :
    Calls Try.prog 38 #[.agg #[.slice A1 vs.length k1, .slice A2 fs.length k2, .slice A3 n3 k3]] W fun e W' => ∃ g, e = .returned (.slice (some ⟨g, 0, none⟩) fs.length fs.length) ∧ W.heap.size ≤ g ∧ Blk W' g 30 (rowCs 3 fs.length (pC fun f => midP vs (fs.getD f []))) ∧ Below W.heap.size W W' := by
  obtain ⟨i0, hi0, hz0, hz1, hz2⟩ := info_parts infoV
  have hb0 : Below W.heap.size W (W.alloc (.cells #[.slice A1 vs.length k1, .slice A2 fs.length k2, .slice A3 n3 k3] 27)) := bel_alloc (Below.refl _ _) _
  have hC0 : Blk (W.alloc (.cells #[.slice A1 vs.length k1, .slice A2 fs.length k2, .slice A3 n3 k3] 27)) W.heap.size 27 #[.slice A1 vs.length k1, .slice A2 fs.length k2, .slice A3 n3 k3] := Blk.new _ _ _ _ rfl
  have hsz0 : (W.alloc (.cells #[.slice A1 vs.length k1, .slice A2 fs.length k2, .slice A3 n3 k3] 27)).heap.size = W.heap.size + 1 := World.size_alloc _ _
  go_enter Try.func38, Try.ntmps38
  go_upto_region 1 with (fail)
  generalize W.alloc (.cells #[.slice A1 vs.length k1, .slice A2 fs.length k2, .slice A3 n3 k3] 27) = W0 at *
  have x1 : W0.cell? ⟨W.heap.size, 1, none⟩ = some (.slice A2 fs.length k2) := hC0.cell 1
  have xl := hC0.lt
  go_upto_region 2 with (first | ((refine wpList_make_full _ rfl _ _ 22 rfl W0.heap.size 30 i0 _ 3 Try.underlying22 hi0 hz0 hz1 .i64 .i64 (fs.length : Int) (fs.length : Int) fs.length rfl rfl rfl rfl (by rw [hz2]; omega) (by unfold maxLen; omega) (Nat.le_refl _) ?_); intro W1 own1 hg1) | fail)
  have hG1 : Blk W1 W0.heap.size 30 (rowCs 3 fs.length (pC fun _ => Z3)) := by
    have := made_blk own1
    rw [show (Value.agg #[Value.int .i64 0, .int .i64 0, .int .i64 0]).cells = #[.int .i64 Z3.x, .int .i64 Z3.y, .int .i64 Z3.z] from rfl, pC_made] at this
    exact this
  have hb1 : Below W0.heap.size W0 W1 := bel_own (Below.refl _ _) hg1 (by intro k h; cases h)
  have hC1 := hC0.below hb1
  have hB1 := bel_trans hb0 hb1
  rw [hsz0] at hG1
  clear own1 hg1 hb1 hC0 hb0 x1 xl
  have x1 : W1.cell? ⟨W.heap.size, 1, none⟩ = some (.slice A2 fs.length k2) := hC1.cell 1
  have xl := hC1.lt
  go_wp2
  go_loopw [16] (fun iv wr => ∃ k : Nat, iv = .int .i64 (k : Int) ∧ k ≤ fs.length ∧ Below W.heap.size W wr ∧ Blk wr W.heap.size 27 #[.slice A1 vs.length k1, .slice A2 fs.length k2, .slice A3 n3 k3] ∧ Blk wr (W.heap.size + 1) 30 (rowCs 3 fs.length (pC fun f => if f < k then midP vs (fs.getD f []) else Z3))) (fun iv _ => fs.length - (intOf iv).toNat)
  case atStart => exact ⟨0, rfl, by omega, hB1, hC1, by simpa using hG1⟩
  case round =>
    obtain ⟨k, rfl, hk, hBr, hCr, hGr⟩ := hrel
    clear hB1 hC1 hG1 x1 xl
    by_cases hlt : k < fs.length
    · obtain ⟨b2, o2, B, m, rfl, hl2w, hcellw, hIL⟩ := hF.at_ k hlt
      have hcell := (hBr.cell (p := ⟨b2, o2 + k, none⟩) hl2w).trans hcellw
      have hl2 := Nat.lt_of_lt_of_le hl2w hBr.size
      clear hcellw
      have hgd : fs.getD k [] = fs[k] := by rw [List.getD_eq_getElem?_getD, List.getElem?_eq_getElem hlt]; rfl
      have hin1 := hin _ (List.getElem_mem hlt)
      have hxl1 := hxl _ (List.getElem_mem hlt)
      generalize fs[k] = x at *
      replace hgd := Lib.hid hgd
      have q0 : (0 : Int) ≤ (k : Int) := by omega
      have q1 : (k : Int) < (fs.length : Int) := by omega
      have hS1 : Blk (wr.alloc (.cells #[.int .i64 Z3.x, .int .i64 Z3.y, .int .i64 Z3.z] 118)) wr.heap.size 118 #[.int .i64 (foldP Z3 []).x, .int .i64 (foldP Z3 []).y, .int .i64 (foldP Z3 []).z] := Blk.new _ _ _ _ rfl
      have hb2 : Below wr.heap.size wr (wr.alloc (.cells #[.int .i64 Z3.x, .int .i64 Z3.y, .int .i64 Z3.z] 118)) := bel_alloc (Below.refl _ _) _
      have hB2 := bel_trans hBr hb2
      have hC2 := hCr.below hb2
      have hG2 := hGr.below hb2
      have hCl := hCr.lt
      have hGl := hGr.lt
      go_upto_region 6 with (fail)
      change Code.wp _ _ _ _ (wr.alloc (.cells #[.int .i64 Z3.x, .int .i64 Z3.y, .int .i64 Z3.z] 118))
      generalize wr.alloc (.cells #[.int .i64 Z3.x, .int .i64 Z3.y, .int .i64 Z3.z] 118) = W2 at *
      obtain ⟨S, hS⟩ : ∃ S, wr.heap.size = S := ⟨_, rfl⟩
      simp only [hS] at *
      clear hCr hGr hBr hcell
      go_wp2
      go_loopw [23] (fun jv wq => ∃ j : Nat, jv = .int .i64 (j : Int) ∧ j ≤ x.length ∧ W2.grownBy wq (some S) ∧ Blk wq S 118 #[.int .i64 (foldP Z3 ((x.take j).map (vat vs))).x, .int .i64 (foldP Z3 ((x.take j).map (vat vs))).y, .int .i64 (foldP Z3 ((x.take j).map (vat vs))).z]) (fun jv _ => x.length - (intOf jv).toNat)
      case atStart => exact ⟨0, rfl, by omega, (grown_of (Below.refl _ _)).but _, by simpa using hS1⟩
      case round =>
        obtain ⟨j, rfl, hj, hgq, hSq⟩ := hrel
        clear hS1
        rename World => wq
        have hCq := hC2.kept hgq (by intro e; cases e; omega)
        have hGq := hG2.kept hgq (by intro e; cases e; omega)
        have hBq := bel_turn hB2 hgq (by omega)
        by_cases hjl : j < x.length
        · obtain ⟨b9, o9, rfl, hl9, hc9⟩ := (hIL.below hBq).at_ j hjl
          obtain ⟨hy0, hy1⟩ := hin1 _ (List.getElem_mem hjl)
          have htk : x.take (j + 1) = x.take j ++ [x[j]] := List.take_succ_eq_append_getElem hjl
          generalize x[j] = y at *
          obtain ⟨v, rfl⟩ := Int.eq_ofNat_of_zero_le hy0
          have hv : v < vs.length := by omega
          obtain ⟨bv, ov, rfl, hlv, c1, c2, c3⟩ := (hV.below hBq).at_ v hv
          rw [← vat_get hv] at c1 c2 c3
          have htm : (x.take (j + 1)).map (vat vs) = (x.take j).map (vat vs) ++ [vat vs (v : Int)] := by rw [htk]; simp
          clear htk
          replace htm := Lib.hid htm
          generalize vat vs (v : Int) = p at *
          generalize hsv : foldP Z3 ((x.take j).map (vat vs)) = sv at *
          replace hsv := Lib.hid hsv
          have x0 : wq.cell? ⟨W.heap.size, 0, none⟩ = some (.slice (some ⟨bv, ov, none⟩) vs.length k1) := hCq.cell 0
          have xl := hCq.lt
          have q2 : (0 : Int) ≤ (j : Int) := by omega
          have q3 : (j : Int) < (x.length : Int) := by omega
          have hS9 := hSq.alloc (.cells #[.int .i64 p.x, .int .i64 p.y, .int .i64 p.z] 30)
          have hCl9 := hCq.lt
          have hvi : (v : Int) < (vs.length : Int) := by omega
          have hA9 : VL (wq.alloc (.cells #[.int .i64 p.x, .int .i64 p.y, .int .i64 p.z] 30)) (some ⟨wq.heap.size, 0, none⟩) [p] := fun _ => ⟨_, _, rfl, by simp, fun i hi => by
            obtain rfl : i = 0 := by simp at hi; omega
            have hb9 := Blk.new wq 30 #[.int .i64 p.x, .int .i64 p.y, .int .i64 p.z] _ rfl
            exact ⟨hb9.cell 0, hb9.cell 1, hb9.cell 2⟩⟩
          have hSl := hSq.lt
          have cA := add_any (wq.alloc (.cells #[.int .i64 p.x, .int .i64 p.y, .int .i64 p.z] 30)) S 0 118 #[.int .i64 sv.x, .int .i64 sv.y, .int .i64 sv.z] sv (some ⟨wq.heap.size, 0, none⟩) 1 [p] hS9 (by simp) ⟨rfl, rfl, rfl⟩ hA9 (fun b2 o2 e => by cases e; omega) (by simp)
          simp only [List.length_cons, List.length_nil, Nat.zero_add] at cA
          go_wp2_with (first | (go_at_call 57; (with_reducible refine cA.mono ?_); rintro e W3 ⟨rfl, hg3, hS3⟩) | fail)
          go_roundw
          case rel =>
            refine ⟨j + 1, by go_num, by omega, hgq.trans ((World.grownBy_alloc _ _ _).trans hg3), ?_⟩
            rw [htm.out, foldP_snoc, hsv.out]
            exact hS3
          case measure => simp [intOf]; omega
        · obtain rfl : j = x.length := by omega
          rw [List.take_length] at hSq
          have hmid := mid_eq vs x
          have hi3 := fold_I3 Z3 (x.map (vat vs)) ⟨⟨by decide, by decide⟩, ⟨by decide, by decide⟩, ⟨by decide, by decide⟩⟩
          generalize foldP Z3 (x.map (vat vs)) = sv at *
          have x0 : wq.cell? ⟨S, 0, none⟩ = some (.int .i64 sv.x) := hSq.cell 0
          have x1 : wq.cell? ⟨S, 1, none⟩ = some (.int .i64 sv.y) := hSq.cell 1
          have x2 : wq.cell? ⟨S, 2, none⟩ = some (.int .i64 sv.z) := hSq.cell 2
          have xl := hSq.lt
          have kO := of_G sv (x.length : Int) hi3 (by unfold i64B; omega)
          rw [hmid] at kO
          have hm := Lib.hid (show midP vs (fs.getD k []) = midP vs x by rw [hgd.out])
          generalize midP vs x = mp at *
          clear hmid hi3 hIL hin1 hxl1 hl2w hF
          go_upto_region 11 with (fail)
          have hGql := hGq.lt
          have g0 := rowCs_at (k := 3) (pC fun f => if f < k then midP vs (fs.getD f []) else Z3) hlt (show 0 < 3 by omega)
          have g1 := rowCs_at (k := 3) (pC fun f => if f < k then midP vs (fs.getD f []) else Z3) hlt (show 1 < 3 by omega)
          have g2 := rowCs_at (k := 3) (pC fun f => if f < k then midP vs (fs.getD f []) else Z3) hlt (show 2 < 3 by omega)
          rw [Nat.add_zero] at g0
          rw [← hGq.cell] at g0 g1 g2
          have e0 := hGq.frozen (k * 3)
          have e1 := hGq.frozen (k * 3 + 1)
          have e2 := hGq.frozen (k * 3 + 2)
          have hset := pC_set (fun f => if f < k then midP vs (fs.getD f []) else Z3) hlt mp
          generalize pC (fun f => if f < k then midP vs (fs.getD f []) else Z3) = CC at *
          generalize CC k 0 = v0 at *
          generalize CC k 1 = v1 at *
          generalize CC k 2 = v2 at *
          go_wp2_with (first | (go_at_call 58; (with_reducible refine (kO.at_ _).mono ?_); rintro e w' ⟨rfl, xg, rfl⟩) | fail)
          go_roundw
          case rel =>
            refine ⟨k + 1, by go_num, by omega, ?_, ?_, ?_⟩
            · exact bel_grow (bel_set (bel_set (bel_set hBq (p := ⟨W.heap.size + 1, _, none⟩) (by simp) _) (p := ⟨W.heap.size + 1, _, none⟩) (by simp) _) (p := ⟨W.heap.size + 1, _, none⟩) (by simp) _) _
            · exact (((hCq.far (b := W.heap.size + 1) _ _ (by omega)).far (b := W.heap.size + 1) _ _ (by omega)).far (b := W.heap.size + 1) _ _ (by omega)).grow _
            · have h9 := ((hGq.set (k * 3) (.int .i64 mp.x)).set (k * 3 + 1) (.int .i64 mp.y)).set (k * 3 + 2) (.int .i64 mp.z)
              have e9 : rowCs 3 fs.length (pC fun f => if f < k + 1 then midP vs (fs.getD f []) else Z3) = set3 (rowCs 3 fs.length CC) (k * 3) mp := by
                rw [hset]
                refine pC_ext fun u hu => ?_
                by_cases e : u = k
                · subst e; rw [if_pos (by omega), if_pos rfl]; exact hm.out
                · simp only [e, if_false]
                  by_cases e2 : u < k
                  · rw [if_pos e2, if_pos (by omega)]
                  · rw [if_neg e2, if_neg (by omega)]
              rw [e9]
              exact h9.grow _
          case measure => simp [intOf]; omega
    · obtain rfl : k = fs.length := by omega
      have hGr2 : Blk wr (W.heap.size + 1) 30 (rowCs 3 fs.length (pC fun f => midP vs (fs.getD f []))) := by
        rw [← pC_ext (f := fun f => if f < fs.length then midP vs (fs.getD f []) else Z3) fun v hv => by simp [hv]]
        exact hGr
      go_wp2
      go_ret
      exact ⟨W.heap.size + 1, rfl, by omega, hGr2, hBr⟩
end Go.Proofs.Ytpdnaceggpdleab
namespace Go.Proofs.Ytpdnaceggpdleab
open Go.RowKit
set_option linter.unusedVariables false
set_option linter.unusedSimpArgs false
set_option linter.unnecessarySimpa false
set_option maxRecDepth 100000


def tri : List (List Int) := [[0, 1, 2]]
end Go.Proofs.Ytpdnaceggpdleab
namespace Go.Proofs.Ytpdnaceggpdleab
open Go.RowKit Go.ChangeShapes Go.WideShapes Go.ChangeAt Go.ChangeMaps
set_option linter.unusedVariables false
set_option linter.unusedSimpArgs false
section
variable {H : Type} {enc : TypeId × Value → H} {w : World} {base b0 : Nat} {spare : Nat → Bool} {held : Bool} {v : Value} {d : DataW H} {p : List MemPlace} {r : Reach}
end
end Go.Proofs.Ytpdnaceggpdleab
namespace Go.Proofs.Ytpdnaceggpdleab
open Go.ChangeShapes Go.WideShapes Go.ChangeAt Go.RowKit
set_option maxRecDepth 100000
set_option linter.unusedVariables false
set_option linter.unusedSimpArgs false
section
variable {H : Type} {enc : TypeId × Value → H} {w : World} {base b0 : Nat} {spare : Nat → Bool} {held : Bool} {v : Value} {d : DataW H} {p : List MemPlace} {r : Reach}
end
end Go.Proofs.Ytpdnaceggpdleab
namespace Go.Proofs.Ytpdnaceggpdleab
open Go.RowKit
set_option linter.unusedVariables false
set_option linter.unusedSimpArgs false
set_option maxRecDepth 100000
theorem len_tot {fs : List (List Int)} {x : List Int} (h : x ∈ fs) : x.length ≤ tot fs := by
  unfold tot
  induction fs with
  | nil => cases h
  | cons y r ih =>
    simp only [List.map_cons, List.sum_cons]
    rcases List.mem_cons.1 h with rfl | h
    · omega
    · have := ih h; omega
theorem tot_le (fs : List (List Int)) (f : Nat) : tot (fs.take f) ≤ tot fs := by
  have : tot fs = tot (fs.take f) + tot (fs.drop f) := by
    unfold tot
    rw [← List.sum_append, ← List.map_append, List.take_append_drop]
  omega
/-- Build's answer, as one value with its error. -/
structure BuiltP (W W' : World) (V : Int) (fs : List (List Int)) (A1 A2 A3 : Option Addr) (t : TopoT) (c1 c2 c3 : Nat) (ee : Int) : Prop where
  bel : Below W.heap.size W W'
  isV : TopoV W' A1 A2 A3 t
  good : (ee = 0 ∧ Surf V fs ∧ TopoS V fs t) ∨ (ee = 14 ∧ ¬ Surf V fs ∧ t = ⟨[], [], []⟩ ∧ A1 = none ∧ A2 = none ∧ A3 = none ∧ c1 = 0 ∧ c2 = 0 ∧ c3 = 0)
theorem built_any (W : World) (V : Int) (k : Nat) (fs : List (List Int)) (A : Option Addr) (hA : FL W A fs) (hV : i64B V) (hi : ∀ x ∈ fs, ∀ y ∈ x, i64B y) (hg : V ≤ 1099511627 ∧ fs.length + tot fs ≤ 1099511627) :
    Calls Try.prog 22 #[.int .i64 V, .slice A fs.length k] W fun e W' => ∃ A1 A2 A3 t c1 c2 c3 ee, e = .returned (.tuple #[.agg #[.slice A1 t.es.length c1, .slice A2 t.fans.length c2, .slice A3 t.rs.length c3], .int .i64 ee]) ∧ BuiltP W W' V fs A1 A2 A3 t c1 c2 c3 ee := by
  refine (build_any W V k fs A hA hV hi (by rw [waysL_len]; omega) (by omega) (fun x hx2 => by have := len_tot hx2; omega) (by omega)).mono ?_
  rintro e W' ⟨hb, ⟨hn, rfl⟩ | ⟨hs, t, A1, A2, A3, c1, c2, c3, hS, hV, rfl⟩⟩
  · exact ⟨none, none, none, ⟨[], [], []⟩, 0, 0, 0, 14, rfl, hb, ⟨fun h => by simp at h, fun h => by simp at h, fun h => by simp at h⟩, .inr ⟨rfl, hn, rfl, rfl, rfl, rfl, rfl, rfl, rfl⟩⟩
  · exact ⟨A1, A2, A3, t, c1, c2, c3, 0, rfl, hb, hV, .inl ⟨rfl, hs, hS⟩⟩
end Go.Proofs.Ytpdnaceggpdleab
namespace Go.Proofs.Ytpdnaceggpdleab
open Go.RowKit
set_option linter.unusedVariables false
set_option linter.unusedSimpArgs false
set_option linter.unnecessarySimpa false
set_option maxRecDepth 100000
open Go.Sort


theorem against_g (a b f g p q : Int) (W : World) : Calls Try.prog 67 #[.agg #[.int .i64 a, .int .i64 b, .int .i64 f, .int .i64 g], .agg #[.int .i64 p, .int .i64 q]] W fun e W' => e = .returned (.int .i64 (cf2 a b p q)) ∧ Below W.heap.size W W' :=
  (against_any W a b f g p q).mono fun _ _ ⟨he, x, hx⟩ => ⟨he, hx ▸ (x.kept W).bel⟩
def atE (es : List Ed) (i : Nat) (p q : Int) : Int := match es[i]? with | some e => cf2 e.a e.b p q | none => 1
theorem cf2_neg (a b p q : Int) : cf2 a b p q < 0 ↔ a < p ∨ (a = p ∧ b < q) := by
  have := cfE_lt (a, b) (p, q)
  unfold ltOf cfE at this
  simpa using this
theorem cf2_zero (a b p q : Int) : cf2 a b p q = 0 ↔ a = p ∧ b = q := by
  unfold cf2 orT Lib.compareInt
  repeat' split
  all_goals omega
theorem cf2_mono {es : List Ed} (hs : es.Pairwise ltE) {k h : Nat} {p q : Int} (hk : k < h) (hh : h < es.length) (hneg : cf2 es[h].a es[h].b p q < 0) : cf2 (es[k]'(by omega)).a (es[k]'(by omega)).b p q < 0 := by
  have := List.pairwise_iff_getElem.1 hs k h (by omega) hh hk
  rw [cf2_neg] at *
  unfold ltE at this
  omega
set_option maxHeartbeats 4000000 in
theorem bsearch_any (W : World) (A : Option Addr) (c : Nat) (es : List Ed) (p q : Int) (hE : EL W A es) (hn : es.length < 1099511627776) (hs : es.Pairwise ltE) :
    Calls Try.prog 68 #[.slice A es.length c, .agg #[.int .i64 p, .int .i64 q], .func (.func 67) #[] #[]] W fun e W' => ∃ i : Nat, i ≤ es.length ∧ (∀ k (h : k < es.length), k < i → cf2 es[k].a es[k].b p q < 0) ∧ (∀ k (h : k < es.length), i ≤ k → 0 ≤ cf2 es[k].a es[k].b p q) ∧ e = .returned (.tuple #[.int .i64 (i : Int), .bool (decide (i < es.length ∧ atE es i p q = 0))]) ∧ Below W.heap.size W W' := by
  have hb0 : Below W.heap.size W (W.alloc (.cells #[.int .i64 p, .int .i64 q] 132)) := bel_alloc (Below.refl _ _) _
  have hbx : Blk (W.alloc (.cells #[.int .i64 p, .int .i64 q] 132)) W.heap.size 132 #[.int .i64 p, .int .i64 q] := Blk.new _ _ _ _ rfl
  go_enter Try.func68, Try.ntmps68
  go_wp2
  go_loopw [9, 10] (fun iv jv wr => ∃ i j : Nat, iv = .int .i64 (i : Int) ∧ jv = .int .i64 (j : Int) ∧ i ≤ j ∧ j ≤ es.length ∧ (∀ k (h : k < es.length), k < i → cf2 es[k].a es[k].b p q < 0) ∧ (∀ k (h : k < es.length), j ≤ k → 0 ≤ cf2 es[k].a es[k].b p q) ∧ Below (W.alloc (.cells #[.int .i64 p, .int .i64 q] 132)).heap.size (W.alloc (.cells #[.int .i64 p, .int .i64 q] 132)) wr) (fun iv jv _ => (intOf jv).toNat - (intOf iv).toNat)
  case atStart => exact ⟨0, es.length, rfl, rfl, by omega, by omega, fun k _ h => by omega, fun k h h2 => by omega, Below.refl _ _⟩
  case round =>
    obtain ⟨i, j, rfl, rfl, hij, hj, hlo, hhi, hb⟩ := hrel
    have hbr := bel_trans hb0 hb
    have hbxr := hbx.below hb
    have x0 : wr.cell? ⟨W.heap.size, 0, none⟩ = some (.int .i64 p) := hbxr.cell 0
    have x1 : wr.cell? ⟨W.heap.size, 1, none⟩ = some (.int .i64 q) := hbxr.cell 1
    have xl := hbxr.lt
    replace hlo := Lib.hid hlo
    replace hhi := Lib.hid hhi
    by_cases hlt : i < j
    · have d1 : (i : Int) < (j : Int) := by omega
      go_upto_region 5 with (fail)
      have hh : ((i : Int) + (j : Int)) / 2 = (((i + j) / 2 : Nat) : Int) := by omega
      have h1 : i ≤ (i + j) / 2 := by omega
      have h2 : (i + j) / 2 < j := by omega
      simp only [hh]
      clear hh
      generalize (i + j) / 2 = h at *
      have hhl : h < es.length := by omega
      obtain ⟨b, off, rfl, hbl, hc⟩ := (hE.below hbr) (by omega)
      obtain ⟨g0, g1, g2, g3⟩ := hc h hhl
      clear hc
      have k0 : (0 : Int) ≤ (h : Int) := by omega
      have k1 : (h : Int) < (es.length : Int) := by omega
      have cA := against_g es[h].a es[h].b es[h].f es[h].g p q
      have hlo2 : cf2 es[h].a es[h].b p q < 0 → ∀ k (h9 : k < es.length), k < h + 1 → cf2 es[k].a es[k].b p q < 0 := fun hneg k hk hk2 => by
        by_cases e : k = h
        · subst e; exact hneg
        · exact cf2_mono hs (by omega) hhl hneg
      have hhi2 : 0 ≤ cf2 es[h].a es[h].b p q → ∀ k (h9 : k < es.length), h ≤ k → 0 ≤ cf2 es[k].a es[k].b p q := fun hpos k hk hk2 => by
        apply Classical.byContradiction
        intro hn2
        by_cases e : k = h
        · subst e; exact hn2 hpos
        · have := cf2_mono hs (show h < k by omega) hk (show cf2 es[k].a es[k].b p q < 0 by omega)
          omega
      replace hlo2 := Lib.hid hlo2
      replace hhi2 := Lib.hid hhi2
      generalize cf2 es[h].a es[h].b p q = cc at *
      generalize es[h].a = ea at *
      generalize es[h].b = eb at *
      generalize es[h].f = ef at *
      generalize es[h].g = eg at *
      refine wp_region_tail 6 ?_ (by kernel_rfl) (by kernel_rfl) (by kernel_rfl) (fun x => ?_) (fun x => ?_)
      rotate_left
      · simp only [List.take_succ_cons, List.take_zero]
        repeat (go_big_quiet_step ((fail)))
        refine wpQuiet_nil ?_
        exact rfl
      simp only [List.drop_succ_cons, List.drop_zero]
      try simp only [Act.put, List.setIfInBounds_toArray, List.set_cons_succ, List.set_cons_zero]
      have hbx2 := bel_grow hb x
      generalize grow wr x = W5 at *
      have cA5 := cA W5
      clear cA
      by_cases dc : cc < 0
      · go_wp2_with (first | (go_at_call 67; (with_reducible refine cA5.mono ?_); rintro e W6 ⟨rfl, hb6⟩) | fail)
        go_roundw
        case rel => exact ⟨h + 1, j, by go_num, rfl, by omega, hj, hlo2.out dc, hhi.out, bel_trans hbx2 hb6⟩
        case measure => simp [intOf]; omega
      · go_wp2_with (first | (go_at_call 67; (with_reducible refine cA5.mono ?_); rintro e W6 ⟨rfl, hb6⟩) | fail)
        go_roundw
        case rel => exact ⟨i, h, rfl, rfl, h1, by omega, hlo.out, hhi2.out (by omega), bel_trans hbx2 hb6⟩
        case measure => simp [intOf]; omega
    · obtain rfl : i = j := by omega
      by_cases hil : i < es.length
      · obtain ⟨b, off, rfl, hbl, hc⟩ := (hE.below hbr) (by omega)
        obtain ⟨g0, g1, g2, g3⟩ := hc i hil
        clear hc
        have k0 : (0 : Int) ≤ (i : Int) := by omega
        have k1 : (i : Int) < (es.length : Int) := by omega
        have cA := against_g es[i].a es[i].b es[i].f es[i].g p q
        have hat : atE es i p q = cf2 es[i].a es[i].b p q := by simp [atE, hil]
        replace hat := Lib.hid hat
        generalize cf2 es[i].a es[i].b p q = cc at *
        generalize es[i].a = ea at *
        generalize es[i].b = eb at *
        generalize es[i].f = ef at *
        generalize es[i].g = eg at *
        have cG : Gives Try.prog 67 #[.agg #[.int .i64 ea, .int .i64 eb, .int .i64 ef, .int .i64 eg], .agg #[.int .i64 p, .int .i64 q]] (.int .i64 cc) := Gives.mk cA
        go_upto_region 8 with (fail)
        refine wp_region_grow (by kernel_rfl) (by kernel_rfl) ?_
        repeat (go_big_quiet_step ((first | with_reducible exact cG.quiet _ | with_reducible exact cG.quiet2 _ _)))
        refine wpQuiet_nil ?_
        rintro _ ⟨x, rfl⟩
        have hbx2 := bel_grow hbr x
        generalize grow wr x = W5 at *
        go_wp2
        go_ret2
        refine ⟨i, hj, hlo.out, hhi.out, ?_, hbx2⟩
        rw [hat.out]
        by_cases e0 : cc = 0
        · simp [e0, hil]
        · simp [e0]
      · have d1 : ¬ (i : Int) < (es.length : Int) := by omega
        go_upto_region 8 with (fail)
        refine wp_region_grow (by kernel_rfl) (by kernel_rfl) ?_
        repeat (go_big_quiet_step ((fail)))
        refine wpQuiet_nil ?_
        rintro _ ⟨x, rfl⟩
        have hbx2 := bel_grow hbr x
        generalize grow wr x = W5 at *
        go_wp2
        go_ret2
        exact ⟨i, hj, hlo.out, hhi.out, by simp [hil], hbx2⟩
end Go.Proofs.Ytpdnaceggpdleab
