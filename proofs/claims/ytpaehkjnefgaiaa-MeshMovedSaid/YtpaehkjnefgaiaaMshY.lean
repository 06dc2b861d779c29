/- The layer's laws: a patch that is moved. -/
import Derived.Test.YtpaehkjnefgaiaaC16
namespace Go.Proofs.Ytpaehkjnefgaiaa
open Go.RowKit
set_option linter.unusedVariables false
set_option linter.unusedSimpArgs false
set_option linter.unnecessarySimpa false
set_option maxRecDepth 100000
theorem PchB_far {W : World} {b o : Nat} {P : Pch} (h : PchB W b o P) {g : Nat} (hg : g ≠ b) (i : Nat) (u : Value) : PchB (W.setCell ⟨g, i, none⟩ u) b o P := by
  refine ⟨by simpa [World.setCell] using h.1, fun j hj => ?_⟩
  rw [← h.2 j hj]
  exact World.cell?_of_block (by simp [World.setCell, Array.getElem?_modify, hg])
def Pch.mvK (P : Pch) (v : P3) (k : Nat) : Pch := ⟨fun j => if j < k then adE (P.pt j) v else P.pt j, P.co, P.nm, P.sk⟩
def Pch.mv (P : Pch) (v : P3) : Pch := ⟨mvF P.pt v, P.co, P.nm, P.sk⟩
theorem mvK_next (P : Pch) (v : P3) (k : Nat) : (P.mvK v k).putP k (adE (P.pt k) v) = P.mvK v (k + 1) := by
  unfold Pch.putP Pch.mvK
  simp only [Pch.mk.injEq, and_true]
  funext j
  by_cases e : j = k
  · subst e; rw [if_pos rfl, if_pos (by omega)]
  · rw [if_neg e]
    by_cases h : j < k
    · rw [if_pos h, if_pos (by omega)]
    · rw [if_neg h, if_neg (by omega)]
theorem mvK_all (P : Pch) (v : P3) : (P.mvK v 16).row = (P.mv v).row := by
  unfold Pch.row
  refine cellsF_ext fun j hj => ?_
  unfold Pch.c
  by_cases h : j < 48
  · rw [if_pos h, if_pos h]
    unfold qC
    have e : (P.mvK v 16).pt (j / 3) = (P.mv v).pt (j / 3) := by
      unfold Pch.mvK Pch.mv
      simp only
      rw [if_pos (by omega)]
      rfl
    rw [e]
  · rw [if_neg h, if_neg h]
    rfl
section
variable {P : Pch} {v : P3} (hv : wB v 16384 = true) (hp : ∀ k, k < 16 → wB (P.pt k) 40000 = true)
include hv hp
theorem mv_msF (u : Int) : msF (P.mv v) u 0 = msF P u 0 := by
  obtain ⟨h1, h2⟩ := mvF_ok hv hp
  have e1 : allW P.pt 60000 16 = true := (allW_iff).2 h1
  have e2 : allW (P.mv v).pt 60000 16 = true := (allW_iff).2 h2
  unfold msF
  rw [e1, e2]
  rfl
theorem mv_msE (u : Int) : msE (P.mv v) u 0 (-1) [] = msE P u 0 (-1) [] := by
  unfold msE
  rw [mv_msF hv hp u, msTx_none (.inl (by omega))]
theorem mv_mesh {u : Int} (f : Fine P u 0) (cage id : Int) : (meshF (P.mv v) cage id u 0 (-1) []).vs = (meshF P cage id u 0 (-1) []).vs.map (fun q => adE q v) ∧ (meshF (P.mv v) cage id u 0 (-1) []).ks = (meshF P cage id u 0 (-1) []).ks ∧ (meshF (P.mv v) cage id u 0 (-1) []).ts = (meshF P cage id u 0 (-1) []).ts := by
  obtain ⟨h1, h2⟩ := mvF_ok hv hp
  have o1 := okB_of h1
  have o2 := okB_of h2
  have he := msR_mv o1 o2 u
  have hr2 : ∀ k, k < 4 → msr (P.mv v).pt u k = msr P.pt u k := rQ_ext he
  have es : spotsW (msr (P.mv v).pt u) = spotsW (msr P.pt u) := spotsW_ext hr2
  have et : trisW (msr (P.mv v).pt u) = trisW (msr P.pt u) := trisW_ext hr2
  unfold meshF
  simp only
  rw [es, et, List.map_map]
  refine ⟨List.map_congr_left fun s hs => ?_, List.map_congr_left fun s hs => ?_, rfl⟩
  · have hsi := spIn_of f.q hs
    rw [msTx_none (.inl (by omega))]
    exact msP_mv f.q he o1 o2 hsi
  · exact msK_ext he (spIn_of f.q hs)
omit hp in
theorem mv_in {u : Int} (f : Fine P u 0) (cage id : Int) : ∀ q ∈ (meshF P cage id u 0 (-1) []).vs, wrap64 (q.x + v.x) = q.x + v.x ∧ wrap64 (q.y + v.y) = q.y + v.y ∧ wrap64 (q.z + v.z) = q.z + v.z := fun q hq => by
  unfold meshF at hq
  simp only [List.mem_map] at hq
  obtain ⟨s, hs, rfl⟩ := hq
  rw [msTx_none (.inl (by omega))]
  have hw := wB_iff.1 (msP_wi f (spIn_of f.q hs))
  have bv := wB_iff.1 hv
  show wrap64 ((msP P.pt (msR P.pt u) s).x + v.x) = _ ∧ wrap64 ((msP P.pt (msR P.pt u) s).y + v.y) = _ ∧ wrap64 ((msP P.pt (msR P.pt u) s).z + v.z) = _
  exact ⟨wrap_id (by omega) (by omega), wrap_id (by omega) (by omega), wrap_id (by omega) (by omega)⟩
end
/-! storing into a row of places -/
def put3 (W : World) (b i : Nat) (r : P3) : World := ((W.setCell ⟨b, i * 3, none⟩ (.int .i64 r.x)).setCell ⟨b, i * 3 + 1, none⟩ (.int .i64 r.y)).setCell ⟨b, i * 3 + 2, none⟩ (.int .i64 r.z)
theorem put3_block (W : World) (b i : Nat) (r : P3) {b' : Nat} (h : b' ≠ b) : (put3 W b i r).heap[b']? = W.heap[b']? := by
  unfold put3
  simp [World.setCell, Array.getElem?_modify, Ne.symm h]
theorem put3_size (W : World) (b i : Nat) (r : P3) : (put3 W b i r).heap.size = W.heap.size := by
  unfold put3
  simp [World.setCell]
theorem put3_blk {W : World} {b : Nat} {t : TypeId} {cs : Array Value} (h : Blk W b t cs) (i : Nat) (r : P3) : Blk (put3 W b i r) b t (((cs.setIfInBounds (i * 3) (.int .i64 r.x)).setIfInBounds (i * 3 + 1) (.int .i64 r.y)).setIfInBounds (i * 3 + 2) (.int .i64 r.z)) := ((h.set _ _).set _ _).set _ _
theorem put3_VL {W : World} {b : Nat} {t : TypeId} {cs : Array Value} (h : Blk W b t cs) {l : List P3} (hv : VL W (some ⟨b, 0, none⟩) l) {i : Nat} (hi : i < l.length) (r : P3) : VL (put3 W b i r) (some ⟨b, 0, none⟩) (l.set i r) := fun h0 => by
  obtain ⟨b2, o2, e, hl, hc⟩ := hv (by omega)
  cases e
  have hb := put3_blk h i r
  have hlt : ∀ j, j < l.length → b < W.heap.size ∧ j * 3 + 2 < cs.size := fun j hj => by
    refine ⟨hl, ?_⟩
    have h3 := (hc j hj).2.2
    rw [Nat.zero_add, h.cell] at h3
    exact (Array.getElem?_eq_some_iff.1 h3).1
  refine ⟨b, 0, rfl, by rw [put3_size]; exact hl, fun j hj => ?_⟩
  rw [List.length_set] at hj
  have hlj := (hlt j hj).2
  obtain ⟨c1, c2, c3⟩ := hc j hj
  rw [Nat.zero_add] at c1 c2 c3 ⊢
  rw [h.cell] at c1 c2 c3
  rw [hb.cell, hb.cell, hb.cell]
  simp only [Array.getElem?_setIfInBounds, Array.size_setIfInBounds]
  by_cases e : i = j
  · subst e
    simp only [List.getElem_set_self]
    refine ⟨?_, ?_, ?_⟩
    · rw [if_neg (by omega), if_neg (by omega), if_pos trivial, if_pos (by omega)]
    · rw [if_neg (by omega), if_pos trivial, if_pos (by omega)]
    · rw [if_pos trivial, if_pos (by omega)]
  · rw [List.getElem_set_ne e]
    refine ⟨?_, ?_, ?_⟩ <;> rw [if_neg (by omega), if_neg (by omega), if_neg (by omega)]
    · exact c1
    · exact c2
    · exact c3
theorem put3_VLo {W : World} {b : Nat} {A : Option Addr} {l : List P3} (hv : VL W A l) (hn : ∀ b' o, A = some ⟨b', o, none⟩ → b' ≠ b) (i : Nat) (r : P3) : VL (put3 W b i r) A l := fun h0 => by
  obtain ⟨b2, o2, e, hl, hc⟩ := hv h0
  have hne := hn _ _ e
  refine ⟨b2, o2, e, by rw [put3_size]; exact hl, fun j hj => ?_⟩
  obtain ⟨c1, c2, c3⟩ := hc j hj
  exact ⟨(World.cell?_of_block (put3_block W b i r hne)).trans c1, (World.cell?_of_block (put3_block W b i r hne)).trans c2, (World.cell?_of_block (put3_block W b i r hne)).trans c3⟩
theorem put3_KLo {W : World} {b : Nat} {A : Option Addr} {l : List Ky} (hv : KL W A l) (hn : ∀ b' o, A = some ⟨b', o, none⟩ → b' ≠ b) (i : Nat) (r : P3) : KL (put3 W b i r) A l := fun h0 => by
  obtain ⟨b2, o2, e, hl, hc⟩ := hv h0
  have hne := hn _ _ e
  exact ⟨b2, o2, e, by rw [put3_size]; exact hl, fun j hj x hx => (World.cell?_of_block (put3_block W b i r hne)).trans (hc j hj x hx)⟩
theorem put3_L3o {W : World} {b : Nat} {A : Option Addr} {l : List Spt} (hv : L3 W A l) (hn : 0 < l.length → ∀ b' o, A = some ⟨b', o, none⟩ → b' ≠ b) (i : Nat) (r : P3) : L3 (put3 W b i r) A l := fun h0 => by
  obtain ⟨b2, o2, e, hl, hc⟩ := hv h0
  have hne := hn h0 _ _ e
  refine ⟨b2, o2, e, by rw [put3_size]; exact hl, fun j hj => ?_⟩
  obtain ⟨c1, c2, c3⟩ := hc j hj
  exact ⟨(World.cell?_of_block (put3_block W b i r hne)).trans c1, (World.cell?_of_block (put3_block W b i r hne)).trans c2, (World.cell?_of_block (put3_block W b i r hne)).trans c3⟩
theorem put3_far {W : World} {b g : Nat} {t : TypeId} {cs : Array Value} (h : Blk W g t cs) (hn : g ≠ b) (i : Nat) (r : P3) : Blk (put3 W b i r) g t cs := (put3_block W b i r hn).trans h
theorem put3_bel {W W' : World} {b : Nat} (h : Below W.heap.size W W') (hb : W.heap.size ≤ b) (i : Nat) (r : P3) : Below W.heap.size W (put3 W' b i r) := bel_set (bel_set (bel_set h (p := ⟨b, i * 3, none⟩) hb (.int .i64 r.x)) (p := ⟨b, i * 3 + 1, none⟩) hb (.int .i64 r.y)) (p := ⟨b, i * 3 + 2, none⟩) hb (.int .i64 r.z)
def mvL (v : P3) (k : Nat) (l : List P3) : List P3 := (l.take k).map (fun q => adE q v) ++ l.drop k
theorem mvL_zero (v : P3) (l : List P3) : mvL v 0 l = l := by unfold mvL; simp
theorem mvL_len (v : P3) (k : Nat) (l : List P3) : (mvL v k l).length = l.length := by
  unfold mvL
  rw [List.length_append, List.length_map, List.length_take, List.length_drop]
  omega
theorem mvL_at (v : P3) {k : Nat} {l : List P3} (hk : k < l.length) : (mvL v k l)[k]'(by rw [mvL_len]; exact hk) = l[k] := by
  unfold mvL
  rw [List.getElem_append_right (by rw [List.length_map, List.length_take]; omega)]
  simp only [List.length_map, List.length_take, List.getElem_drop]
  congr 1
  omega
theorem mvL_next (v : P3) {k : Nat} {l : List P3} (hk : k < l.length) : (mvL v k l).set k (adE l[k] v) = mvL v (k + 1) l := by
  apply List.ext_getElem?
  intro j
  unfold mvL
  rw [List.getElem?_set]
  simp only [List.length_append, List.length_map, List.length_take, List.length_drop, List.getElem?_append, List.getElem?_map, List.getElem?_take, List.getElem?_drop]
  by_cases e : k = j
  · subst e
    rw [if_pos rfl, if_pos (by omega), if_pos (by omega), if_pos (by omega), List.getElem?_eq_getElem hk]
    rfl
  · rw [if_neg e]
    by_cases h : j < k
    · rw [if_pos (by omega), if_pos h, if_pos (by omega), if_pos (by omega)]
    · rw [if_neg (by omega)]
      by_cases h2 : j < l.length
      · rw [if_neg (by omega)]
        congr 1
        omega
      · rw [if_neg (by omega), List.getElem?_eq_none (by omega), List.getElem?_eq_none (by omega)]
theorem mvL_all (v : P3) (l : List P3) : mvL v l.length l = l.map (fun q => adE q v) := by unfold mvL; simp
end Go.Proofs.Ytpaehkjnefgaiaa
