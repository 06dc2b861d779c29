/- A cage that is moved comes to the same, moved; one in a plane stays there. -/
import Derived.Test.YthpdplpjpopenaaSubX
namespace Go.Proofs.Ythpdplpjpopenaa
open Go.RowKit
set_option linter.unusedVariables false
set_option linter.unusedSimpArgs false
set_option linter.unusedSectionVars false
theorem sum_shift (f f' : Int → Int) (k : Int) : ∀ l : List Int, (∀ x ∈ l, f' x = f x + k) → (l.map f').sum = (l.map f).sum + k * l.length
  | [], _ => by simp
  | a :: r, h => by
    have h1 := sum_shift f f' k r (fun y hy => h y (List.mem_cons_of_mem _ hy))
    have h2 := h a (by simp)
    simp only [List.map_cons, List.sum_cons, List.length_cons, h1, h2]
    have e1 : k * ((r.length + 1 : Nat) : Int) = k * (r.length : Int) + k := by rw [Int.natCast_add, Int.mul_add]; simp
    rw [e1]; omega
section
variable {g : P3 → Int} (hg : Co g) {vs ws : List P3} {fs : List (List Int)} {ks : List P3} {t : TopoT} {sh : List Int} (hlen : ws.length = vs.length) (hT : TopoS (vs.length : Int) fs t) (hs : sharpP t.es ks = some sh) (hf : ∀ p ∈ vs, InP 65536 p) (hw : ∀ p ∈ ws, InP 65536 p) (few : vs.length + fs.length + tot fs ≤ 1000000) {k : Int} (hk : -65536 ≤ k ∧ k ≤ 65536) (hq : ∀ u : Int, 0 ≤ u → u < vs.length → g (vat ws u) = g (vat vs u) + k)
include hg hlen hT hs hf hw few hk hq
theorem mid_shift : ∀ x ∈ fs, g (midP ws x) = g (midP vs x) + k := fun x hx => by
  have hx1 : x.length ≤ 1000000 := by have := len_tot hx; omega
  have hx2 : 0 < x.length := by have := hT.walk.long x hx; omega
  rw [co_mid hg hf x hx1, co_mid hg hw x hx1]
  have b2 := sum_bd 65536 (x.map fun v => g (vat vs v)) (fun y hy => by obtain ⟨v, _, rfl⟩ := List.mem_map.1 hy; exact co_vat hg (by omega) hf v)
  rw [List.length_map] at b2
  rw [sum_shift (fun v => g (vat vs v)) (fun v => g (vat ws v)) k x (fun y hy => by have := hT.walk.corner_rng hx hy; exact hq y this.1 this.2)]
  have e1 : k * (x.length : Int) ≤ 65536 * (x.length : Int) := Int.mul_le_mul_of_nonneg_right hk.2 (by omega)
  have e2 : -65536 * (x.length : Int) ≤ k * (x.length : Int) := Int.mul_le_mul_of_nonneg_right hk.1 (by omega)
  exact rnd_shift (by omega) (by omega) (by omega) (by omega)
theorem mids_shift : ∀ f : Int, 0 ≤ f → f < fs.length → g (vat (midsL ws fs) f) = g (vat (midsL vs fs) f) + k := fun f h0 h1 => by
  have e : ∀ us : List P3, vat (midsL us fs) f = midP us (fs.getD f.toNat []) := fun us => by
    have hl : f.toNat < (midsL us fs).length := by rw [midsL_len]; omega
    unfold vat
    rw [List.getD_eq_getElem?_getD, List.getElem?_eq_getElem hl]
    simp [midsL]
  have h2 : f.toNat < fs.length := by omega
  rw [e, e, List.getD_eq_getElem?_getD, List.getElem?_eq_getElem h2]
  exact mid_shift hg hlen hT hs hf hw few hk hq _ (List.getElem_mem h2)
theorem half_shift (i : Nat) (hi : i < t.es.length) : g (halfP ws (midsL ws fs) (t.es.getD i ed0) (sh.getD i 0)) = g (halfP vs (midsL vs fs) (t.es.getD i ed0) (sh.getD i 0)) + k := by
  have hxl : ∀ x ∈ fs, x.length ≤ 1000000 ∧ 0 < x.length := fun x hx => by
    have := hT.walk.long x hx
    have := len_tot hx
    omega
  have hmI := mids_in hf fs hxl
  have hmW := mids_in hw fs hxl
  have hi3 : i < sh.length := by rw [sharpP_len hs]; exact hi
  have e1 : t.es.getD i ed0 = t.es[i] := by rw [List.getD_eq_getElem?_getD, List.getElem?_eq_getElem hi]; rfl
  have e2 : sh.getD i 0 = sh[i] := by rw [List.getD_eq_getElem?_getD, List.getElem?_eq_getElem hi3]; rfl
  rw [e1, e2, co_half hg hf hmI, co_half hg hw hmW]
  obtain ⟨r1, r2, _⟩ := edge_rng hT (List.getElem_mem hi)
  have a := hq _ r1.1 r1.2
  have b := hq _ r2.1 r2.2
  have a2 := co_vat hg (m := 65536) (by omega) hf t.es[i].a
  have b2 := co_vat hg (m := 65536) (by omega) hf t.es[i].b
  unfold halfG
  dsimp only
  split
  · rename_i h0
    obtain ⟨s1, s2⟩ := soft_rng hT hs i hi hi3 h0
    have c := mids_shift hg hlen hT hs hf hw few hk hq _ s1.1 s1.2
    have d := mids_shift hg hlen hT hs hf hw few hk hq _ s2.1 s2.2
    have c2 := co_vat hg (m := 65536) (by omega) hmI t.es[i].f
    have d2 := co_vat hg (m := 65536) (by omega) hmI t.es[i].g
    rw [a, b, c, d, ← rnd_shift (by omega) (by omega) (by omega) (by omega)]
    congr 1; omega
  · rw [a, b, ← rnd_shift (by omega) (by omega) (by omega) (by omega)]
    congr 1; omega
theorem place_shift (v : Nat) (hv : v < vs.length) : g (placeA ws (midsL ws fs) t.fans (t.es.zip sh) v) = g (placeA vs (midsL vs fs) t.fans (t.es.zip sh) v) + k := by
  have ok := hT.walk
  have hel : t.es.length ≤ tot fs := by have h1 := edges_le ok hT.edges; rw [waysL_len] at h1; exact h1
  have hxl : ∀ x ∈ fs, x.length ≤ 1000000 ∧ 0 < x.length := fun x hx => by
    have := hT.walk.long x hx
    have := len_tot hx
    omega
  have hmI := mids_in hf fs hxl
  have hmW := mids_in hw fs hxl
  have hsl := sharpP_len hs
  have hnf := hT.nf
  have hnr := hT.nr
  have v1 : v < t.fans.length := by omega
  have v2 : v < t.rs.length := by omega
  have eF : t.fans.getD v [] = t.fans[v] := by rw [List.getD_eq_getElem?_getD, List.getElem?_eq_getElem v1]; rfl
  obtain ⟨hfr, hfl⟩ := fan_rng hT (List.getElem_mem v1)
  have hLl : (t.es.zip sh).length ≤ 1000000 := by rw [List.length_zip]; omega
  have hEz := othE_zip (v : Int) t.es sh hsl
  have hE : ∀ u ∈ othE (v : Int) (t.es.zip sh), g (vat ws u) = g (vat vs u) + k := fun u hu => by
    rw [hEz, oth_mem ok hT.edges] at hu
    obtain ⟨w, hw, ⟨_, rfl⟩ | ⟨rfl, _⟩⟩ := hu
    · have := (ok.rng hw).2.1; exact hq _ this.1 this.2
    · have := (ok.rng hw).1; exact hq _ this.1 this.2
  have hS : ∀ u ∈ othS (v : Int) (t.es.zip sh), u ∈ othE (v : Int) (t.es.zip sh) := fun u hu => by
    obtain ⟨q, hq1, hq2⟩ := List.mem_filterMap.1 hu
    refine List.mem_filterMap.2 ⟨q, hq1, ?_⟩
    split at hq2
    · cases hq2
    · exact hq2
  have q0 := hq (v : Int) (by omega) (by omega)
  have qa := co_vat hg (m := 65536) (by omega) hf (v : Int)
  have fpos : 0 < t.fans[v].length := by
    obtain ⟨L, hF, hl, hfe⟩ := hT.fan v v1 v2
    obtain ⟨w, hw, hb⟩ := ok.all (v : Int) (by omega) (by omega)
    obtain ⟨d, hd⟩ := ok.next hw
    have := List.length_pos_of_mem (fan_all ok hF hl _ hd hb)
    rw [hfe, List.length_map]; exact this
  unfold placeA
  rw [eF, co_place hg hf hmI t.fans[v] (t.es.zip sh) (v : Int) (by omega) fpos hLl, co_place hg hw hmW t.fans[v] (t.es.zip sh) (v : Int) (by omega) fpos hLl]
  unfold placeG
  dsimp only
  have bS := sum_shift (fun u => g (vat vs u)) (fun u => g (vat ws u)) k (othS (v : Int) (t.es.zip sh)) (fun u hu => hE u (hS u hu))
  have bE := sum_shift (fun u => g (vat vs u)) (fun u => g (vat ws u)) k (othE (v : Int) (t.es.zip sh)) hE
  have bM := sum_shift (fun f => g (vat (midsL vs fs) f)) (fun f => g (vat (midsL ws fs) f)) k t.fans[v] (fun f hf1 => mids_shift hg hlen hT hs hf hw few hk hq f (hfr f hf1).1 (hfr f hf1).2)
  have dS := sum_bd 65536 ((othS (v : Int) (t.es.zip sh)).map fun u => g (vat vs u)) (fun y hy => by obtain ⟨u, hu, rfl⟩ := List.mem_map.1 hy; exact co_vat hg (by omega) hf u)
  rw [List.length_map] at dS
  rw [q0, bS, bE, bM]
  generalize ((othS (v : Int) (t.es.zip sh)).map fun u => g (vat vs u)).sum = sS at *
  generalize ((othE (v : Int) (t.es.zip sh)).map fun u => g (vat vs u)).sum = sE at *
  generalize (t.fans[v].map fun f => g (vat (midsL vs fs) f)).sum = sM at *
  split
  · rfl
  · rename_i hc1
    split
    · rename_i hc2
      rw [hc2] at dS ⊢
      rw [← rnd_shift (by omega) (by omega) (by omega) (by omega)]
      congr 1; omega
    · rename_i hc2
      have hround : t.rs[v] = true := by
        cases hr : t.rs[v] with
        | true => rfl
        | false => have := cnt_two hT hs v v1 v2 hr; omega
      obtain ⟨d1, d2⟩ := deg hT v v1 v2 hround
      rw [← hEz] at d1
      rw [d1]
      generalize t.fans[v].length = n at *
      generalize g (vat vs (v : Int)) = q at *
      have e1 : 2 * (n : Int) * (q + k) = 2 * (n : Int) * q + 2 * (k * (n : Int)) := by rw [Int.mul_add, Int.mul_assoc 2 (n : Int) k, Int.mul_comm (n : Int) k]
      rw [e1, show sM + k * (n : Int) + (sE + k * (n : Int)) - (2 * (n : Int) * q + 2 * (k * (n : Int))) = sM + sE - 2 * (n : Int) * q by omega]
      omega
theorem lev_shift : (levC ⟨ws, fs, ks⟩ t sh).vs.map g = (levC ⟨vs, fs, ks⟩ t sh).vs.map (fun p => g p + k) := by
  simp only [levC, List.map_append]
  have h1 : (movedL ws (midsL ws fs) t.fans (t.es.zip sh)).map g = (movedL vs (midsL vs fs) t.fans (t.es.zip sh)).map (fun p => g p + k) := by
    unfold movedL
    rw [List.map_map, List.map_map, hlen]
    exact List.map_congr_left fun v hv => place_shift hg hlen hT hs hf hw few hk hq v (by simpa using hv)
  have h2 : (halvesL ws (midsL ws fs) t.es sh).map g = (halvesL vs (midsL vs fs) t.es sh).map (fun p => g p + k) := by
    unfold halvesL
    rw [List.map_map, List.map_map]
    exact List.map_congr_left fun i hi => half_shift hg hlen hT hs hf hw few hk hq i (by simpa using hi)
  have h3 : (midsL ws fs).map g = (midsL vs fs).map (fun p => g p + k) := by
    unfold midsL
    rw [List.map_map, List.map_map]
    refine List.map_congr_left fun f hf2 => ?_
    have h2 : f < fs.length := by simpa using hf2
    have e2 : fs.getD f [] = fs[f] := by rw [List.getD_eq_getElem?_getD, List.getElem?_eq_getElem h2]; rfl
    simp only [Function.comp_apply, e2]
    exact mid_shift hg hlen hT hs hf hw few hk hq _ (List.getElem_mem h2)
  rw [h1, h2, h3]
end
end Go.Proofs.Ythpdplpjpopenaa
