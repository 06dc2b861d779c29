/- A finer cage's vertices stay in the coarse one's box: all of them. -/
import Derived.Test.YthpdplpjpopenaaSubW
import Derived.Test.YthpdplpjpopenaaC4
import Derived.Test.YthpdplpjpopenaaC7
import Derived.Test.YthpdplpjpopenaaC13
namespace Go.Proofs.Ythpdplpjpopenaa
open Go.RowKit
set_option linter.unusedVariables false
set_option linter.unusedSimpArgs false
theorem vat_at (vs : List P3) (u : Int) (h0 : 0 ≤ u) (h1 : u < vs.length) : vat vs u ∈ vs := by
  have h : u.toNat < vs.length := by omega
  unfold vat
  rw [List.getD_eq_getElem?_getD, List.getElem?_eq_getElem h]
  exact List.getElem_mem h
theorem lev_box {g : P3 → Int} (hg : Co g) {c : Cg} {t : TopoT} {sh : List Int} (hT : TopoS (c.vs.length : Int) c.fs t) (hs : sharpP t.es c.ks = some sh) (hf : ∀ p ∈ c.vs, InP 65536 p) (few : c.vs.length + c.fs.length + tot c.fs ≤ 1000000) {lo hi : Int} (hb : ∀ p ∈ c.vs, lo ≤ g p ∧ g p ≤ hi) : ∀ p ∈ (levC c t sh).vs, lo ≤ g p ∧ g p ≤ hi := by
  obtain ⟨vs, fs, ks⟩ := c
  simp only [levC] at *
  have ok := hT.walk
  have hq : ∀ u : Int, 0 ≤ u → u < vs.length → lo ≤ g (vat vs u) ∧ g (vat vs u) ≤ hi := fun u h0 h1 => hb _ (vat_at vs u h0 h1)
  have hel : t.es.length ≤ tot fs := by have h1 := edges_le ok hT.edges; rw [waysL_len] at h1; exact h1
  have hxl : ∀ x ∈ fs, x.length ≤ 1000000 ∧ 0 < x.length := fun x hx => by
    have := ok.long x hx
    have := len_tot hx
    omega
  have hmI := mids_in hf fs hxl
  have hmid : ∀ x ∈ fs, lo ≤ g (midP vs x) ∧ g (midP vs x) ≤ hi := fun x hx => by
    have hx2 := hxl x hx
    rw [co_mid hg hf x hx2.1]
    have b1 := sum_box lo hi (x.map fun v => g (vat vs v)) (fun y hy => by
      obtain ⟨v, hv, rfl⟩ := List.mem_map.1 hy
      have := ok.corner_rng hx hv
      exact hq v this.1 this.2)
    have b2 := sum_bd 65536 (x.map fun v => g (vat vs v)) (fun y hy => by obtain ⟨v, _, rfl⟩ := List.mem_map.1 hy; exact co_vat hg (by omega) hf v)
    rw [List.length_map] at b1 b2
    exact rnd_box (by omega) (by omega) b1.1 b1.2 (by omega)
  have hM : ∀ f : Int, 0 ≤ f → f < fs.length → lo ≤ g (vat (midsL vs fs) f) ∧ g (vat (midsL vs fs) f) ≤ hi := fun f h0 h1 => by
    have h2 := vat_at (midsL vs fs) f h0 (by rw [midsL_len]; exact h1)
    obtain ⟨i, hi, e⟩ := List.mem_map.1 h2
    have hi2 : i < fs.length := by simpa using hi
    have e2 : fs.getD i [] = fs[i] := by rw [List.getD_eq_getElem?_getD, List.getElem?_eq_getElem hi2]; rfl
    rw [← e, e2]
    exact hmid _ (List.getElem_mem hi2)
  have hsl := sharpP_len hs
  intro p hp
  rcases List.mem_append.1 hp with hp | hp
  · rcases List.mem_append.1 hp with hp | hp
    · -- a vertex, moved
      obtain ⟨v, hv, rfl⟩ := List.mem_map.1 hp
      have hv2 : v < vs.length := by simpa using hv
      have hnf := hT.nf
      have hnr := hT.nr
      have v1 : v < t.fans.length := by omega
      have v2 : v < t.rs.length := by omega
      have eF : t.fans.getD v [] = t.fans[v] := by rw [List.getD_eq_getElem?_getD, List.getElem?_eq_getElem v1]; rfl
      obtain ⟨hfr, hfl⟩ := fan_rng hT (List.getElem_mem v1)
      have hLl : (t.es.zip sh).length ≤ 1000000 := by rw [List.length_zip]; omega
      have hEz := othE_zip (v : Int) t.es sh hsl
      have hE : ∀ u ∈ othE (v : Int) (t.es.zip sh), lo ≤ g (vat vs u) ∧ g (vat vs u) ≤ hi := fun u hu => by
        rw [hEz, oth_mem ok hT.edges] at hu
        obtain ⟨w, hw, ⟨_, rfl⟩ | ⟨rfl, _⟩⟩ := hu
        · have := (ok.rng hw).2.1; exact hq _ this.1 this.2
        · have := (ok.rng hw).1; exact hq _ this.1 this.2
      have hS : ∀ u ∈ othS (v : Int) (t.es.zip sh), u ∈ othE (v : Int) (t.es.zip sh) := fun u hu => by
        obtain ⟨q, hq1, hq2⟩ := List.mem_filterMap.1 hu
        refine List.mem_filterMap.2 ⟨q, hq1, ?_⟩
        split at hq2
        · cases hq2
        · exact hq2
      have q0 := hq (v : Int) (by omega) (by omega)
      have qa := co_vat hg (m := 65536) (by omega) hf (v : Int)
      have fpos : 0 < t.fans[v].length := by
        obtain ⟨L, hF, hl, hfe⟩ := hT.fan v v1 v2
        obtain ⟨w, hw, hb⟩ := ok.all (v : Int) (by omega) (by omega)
        obtain ⟨d, hd⟩ := ok.next hw
        have := List.length_pos_of_mem (fan_all ok hF hl _ hd hb)
        rw [hfe, List.length_map]; exact this
      unfold placeA
      rw [eF, co_place hg hf hmI t.fans[v] (t.es.zip sh) (v : Int) (by omega) fpos hLl]
      unfold placeG
      dsimp only
      have bS := sum_box lo hi ((othS (v : Int) (t.es.zip sh)).map fun u => g (vat vs u)) (fun y hy => by obtain ⟨u, hu, rfl⟩ := List.mem_map.1 hy; exact hE u (hS u hu))
      have bE := sum_box lo hi ((othE (v : Int) (t.es.zip sh)).map fun u => g (vat vs u)) (fun y hy => by obtain ⟨u, hu, rfl⟩ := List.mem_map.1 hy; exact hE u hu)
      have bM := sum_box lo hi (t.fans[v].map fun f => g (vat (midsL vs fs) f)) (fun y hy => by obtain ⟨f, hf1, rfl⟩ := List.mem_map.1 hy; exact hM f (hfr f hf1).1 (hfr f hf1).2)
      have dS := sum_bd 65536 ((othS (v : Int) (t.es.zip sh)).map fun u => g (vat vs u)) (fun y hy => by obtain ⟨u, hu, rfl⟩ := List.mem_map.1 hy; exact co_vat hg (by omega) hf u)
      have dE := sum_bd 65536 ((othE (v : Int) (t.es.zip sh)).map fun u => g (vat vs u)) (fun y hy => by obtain ⟨u, hu, rfl⟩ := List.mem_map.1 hy; exact co_vat hg (by omega) hf u)
      have dM := sum_bd 65536 (t.fans[v].map fun f => g (vat (midsL vs fs) f)) (fun y hy => by obtain ⟨f, hf1, rfl⟩ := List.mem_map.1 hy; exact co_vat hg (by omega) hmI f)
      rw [List.length_map] at bS bE bM dS dE dM
      generalize ((othS (v : Int) (t.es.zip sh)).map fun u => g (vat vs u)).sum = sS at *
      generalize ((othE (v : Int) (t.es.zip sh)).map fun u => g (vat vs u)).sum = sE at *
      generalize (t.fans[v].map fun f => g (vat (midsL vs fs) f)).sum = sM at *
      split
      · exact q0
      · rename_i hc1
        split
        · rename_i hc2
          rw [hc2] at bS dS
          exact rnd_box (by omega) (by omega) (by omega) (by omega) (by omega)
        · rename_i hc2
          have hround : t.rs[v] = true := by
            cases hr : t.rs[v] with
            | true => rfl
            | false => have := cnt_two hT hs v v1 v2 hr; omega
          obtain ⟨d1, d2⟩ := deg hT v v1 v2 hround
          rw [← hEz] at d1
          rw [d1] at bE dE
          generalize hn : t.fans[v].length = n at *
          generalize g (vat vs (v : Int)) = q at *
          have hnn : 0 ≤ (n : Int) := by omega
          have hK0 : 0 ≤ (n : Int) * ((n : Int) - 2) := Int.mul_nonneg hnn (by omega)
          have hN : (n : Int) * (n : Int) = (n : Int) * ((n : Int) - 2) + 2 * (n : Int) := by rw [Int.mul_sub]; omega
          have hKle : (n : Int) * ((n : Int) - 2) ≤ 1000000000000 := by
            have h1 := Int.mul_le_mul_of_nonneg_left (show (n : Int) - 2 ≤ 1000000 by omega) hnn
            omega
          have hN1 : 0 < (n : Int) * (n : Int) := by omega
          have eq2 : 2 * (n : Int) * q = 2 * ((n : Int) * q) := Int.mul_assoc ..
          rw [eq2, hN]
          generalize (n : Int) * ((n : Int) - 2) = K at *
          have k1 : lo * K ≤ q * K := Int.mul_le_mul_of_nonneg_right q0.1 hK0
          have k2 : q * K ≤ hi * K := Int.mul_le_mul_of_nonneg_right q0.2 hK0
          have k3 : -65536 * K ≤ q * K := Int.mul_le_mul_of_nonneg_right qa.1 hK0
          have k4 : q * K ≤ 65536 * K := Int.mul_le_mul_of_nonneg_right qa.2 hK0
          have p1 : (n : Int) * q ≤ (n : Int) * 65536 := Int.mul_le_mul_of_nonneg_left qa.2 hnn
          have p2 : (n : Int) * (-65536) ≤ (n : Int) * q := Int.mul_le_mul_of_nonneg_left qa.1 hnn
          have eD : q * (K + 2 * (n : Int)) = q * K + 2 * ((n : Int) * q) := by rw [Int.mul_add, Int.mul_left_comm q 2, Int.mul_comm q (n : Int)]
          have l1 : lo * (K + 2 * (n : Int)) = lo * K + 2 * (lo * (n : Int)) := by rw [Int.mul_add, Int.mul_left_comm]
          have l2 : hi * (K + 2 * (n : Int)) = hi * K + 2 * (hi * (n : Int)) := by rw [Int.mul_add, Int.mul_left_comm]
          have hsft := rnd_shift (x := sM + sE - 2 * ((n : Int) * q)) (n := K + 2 * (n : Int)) (k := q) (by omega) (by omega) (by omega) (by rw [eD]; omega)
          rw [Int.add_comm q, ← hsft, eD]
          exact rnd_box (by omega) (by omega) (by rw [l1]; omega) (by rw [l2]; omega) (by omega)
    · -- an edge's
      obtain ⟨i, hi, rfl⟩ := List.mem_map.1 hp
      have hi2 : i < t.es.length := by simpa using hi
      have hi3 : i < sh.length := by omega
      have e1 : t.es.getD i ed0 = t.es[i] := by rw [List.getD_eq_getElem?_getD, List.getElem?_eq_getElem hi2]; rfl
      have e2 : sh.getD i 0 = sh[i] := by rw [List.getD_eq_getElem?_getD, List.getElem?_eq_getElem hi3]; rfl
      rw [e1, e2, co_half hg hf hmI]
      obtain ⟨r1, r2, _⟩ := edge_rng hT (List.getElem_mem hi2)
      have a := hq _ r1.1 r1.2
      have b := hq _ r2.1 r2.2
      have a2 := co_vat hg (m := 65536) (by omega) hf t.es[i].a
      have b2 := co_vat hg (m := 65536) (by omega) hf t.es[i].b
      unfold halfG
      dsimp only
      split
      · rename_i h0
        obtain ⟨s1, s2⟩ := soft_rng hT hs i hi2 hi3 h0
        have c := hM _ s1.1 s1.2
        have d := hM _ s2.1 s2.2
        have c2 := co_vat hg (m := 65536) (by omega) hmI t.es[i].f
        have d2 := co_vat hg (m := 65536) (by omega) hmI t.es[i].g
        exact rnd_box (by omega) (by omega) (by omega) (by omega) (by omega)
      · exact rnd_box (by omega) (by omega) (by omega) (by omega) (by omega)
  · -- a face's
    obtain ⟨i, hi, rfl⟩ := List.mem_map.1 hp
    have hi2 : i < fs.length := by simpa using hi
    have e2 : fs.getD i [] = fs[i] := by rw [List.getD_eq_getElem?_getD, List.getElem?_eq_getElem hi2]; rfl
    rw [e2]
    exact hmid _ (List.getElem_mem hi2)
/-- A row's vertices as the box of a row takes them. -/
def ptF (vs : List P3) (i : Nat) : Int × Int × Int := ((vat vs i).x, (vat vs i).y, (vat vs i).z)
theorem vat_nat (vs : List P3) (i : Nat) (h : i < vs.length) : vat vs (i : Int) = vs[i] := by
  unfold vat
  rw [List.getD_eq_getElem?_getD, Int.toNat_natCast, List.getElem?_eq_getElem h]; rfl
theorem VL.vf {W : World} {A : Option Addr} {vs : List P3} (h : VL W A vs) : VF W A vs.length (ptF vs) := fun h0 => by
  obtain ⟨b, off, e, hl, hc⟩ := h h0
  refine ⟨b, off, e, hl, fun i hi => ?_⟩
  simp only [ptF, vat_nat vs i hi]
  exact hc i hi
/-- No vertex of the finer cage is outside the box. -/
theorem lev_has {c : Cg} {t : TopoT} {sh : List Int} (hT : TopoS (c.vs.length : Int) c.fs t) (hs : sharpP t.es c.ks = some sh) (hf : ∀ p ∈ c.vs, InP 65536 p) (few : c.vs.length + c.fs.length + tot c.fs ≤ 1000000) (n : Nat) (hn : c.vs.length = n + 1) : ∀ p ∈ (levC c t sh).vs, inB (boxF (ptF c.vs) n).1.1 (boxF (ptF c.vs) n).1.2.1 (boxF (ptF c.vs) n).1.2.2 (boxF (ptF c.vs) n).2.1 (boxF (ptF c.vs) n).2.2.1 (boxF (ptF c.vs) n).2.2.2 p.x p.y p.z = true := fun p hp => by
  have hb : ∀ p ∈ c.vs, inP (boxF (ptF c.vs) n) (p.x, p.y, p.z) := fun p hp => by
    obtain ⟨i, hi, rfl⟩ := List.getElem_of_mem hp
    have := boxF_has (ptF c.vs) n i (by omega)
    simp only [ptF, vat_nat c.vs i hi] at this
    exact this
  unfold inP at hb
  rw [inB_iff]
  have x := lev_box co_x hT hs hf few (lo := (boxF (ptF c.vs) n).1.1) (hi := (boxF (ptF c.vs) n).2.1) (fun p hp => by have := hb p hp; simp only at this; omega) p hp
  have y := lev_box co_y hT hs hf few (lo := (boxF (ptF c.vs) n).1.2.1) (hi := (boxF (ptF c.vs) n).2.2.1) (fun p hp => by have := hb p hp; simp only at this; omega) p hp
  have z := lev_box co_z hT hs hf few (lo := (boxF (ptF c.vs) n).1.2.2) (hi := (boxF (ptF c.vs) n).2.2.2) (fun p hp => by have := hb p hp; simp only at this; omega) p hp
  omega
end Go.Proofs.Ythpdplpjpopenaa
