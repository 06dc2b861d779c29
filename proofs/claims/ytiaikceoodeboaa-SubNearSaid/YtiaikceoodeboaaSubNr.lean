/- How near a finer cage's vertices are to what they stand for. -/
import Derived.Test.YtiaikceoodeboaaC14
namespace Go.Proofs.Ytiaikceoodeboaa
open Go.RowKit
set_option linter.unusedVariables false
set_option linter.unusedSimpArgs false
set_option linter.unusedSectionVars false
set_option linter.unnecessarySimpa false
/-- Within one of n / d, and nothing overflows. -/
def nrI (x n d : Int) : Prop := (-2305843009213693952 ≤ x * d ∧ x * d ≤ 2305843009213693952) ∧ (-2305843009213693952 ≤ n ∧ n ≤ 2305843009213693952) ∧ (0 ≤ d ∧ d ≤ 2305843009213693952) ∧ x * d - n ≤ d ∧ n - x * d ≤ d
def nearP (x n : P3) (d : Int) : Prop := ∀ g : P3 → Int, Co g → nrI (g x) (g n) d
theorem rnd_nr {x n : Int} (hn : 0 < n) (hn2 : n ≤ 2305843009213693952) (hx : -2305843009213693952 ≤ x ∧ x ≤ 2305843009213693952) : -n ≤ 2 * (n * rnd x n) - 2 * x ∧ 2 * (n * rnd x n) - 2 * x ≤ n := by
  rw [rnd_in (by omega)]
  have a := Int.mul_ediv_add_emod (2 * x + n) (2 * n)
  have a0 := Int.emod_nonneg (2 * x + n) (show 2 * n ≠ 0 by omega)
  have a1 := Int.emod_lt_of_pos (2 * x + n) (show 0 < 2 * n by omega)
  rw [Int.mul_assoc] at a
  omega
theorem wr_in {x : Int} (h : -4611686018427387904 ≤ x ∧ x ≤ 4611686018427387904) : wrap64 x = x := by unfold wrap64; omega
def sP (vs : List P3) (x : List Int) : P3 := foldP Z3 (x.map (vat vs))
def sumP (vs : List P3) (x : List Int) : P3 := scW (sP vs x) (840 / (x.length : Int))
def sumsL (vs : List P3) (fs : List (List Int)) : List P3 := fs.map (sumP vs)
section
variable {g : P3 → Int} (hg : Co g) {vs : List P3} (hf : ∀ p ∈ vs, InP 65536 p)
include hg hf
theorem co_sP (x : List Int) (hx : x.length ≤ 1000000) : g (sP vs x) = (x.map fun v => g (vat vs v)).sum := by
  unfold sP
  rw [co_fold hg 65536 (by omega) _ _ (fun p hp => by obtain ⟨v, _, rfl⟩ := List.mem_map.1 hp; exact co_vat hg (by omega) hf v) (by rw [hg.z, List.length_map]; omega), hg.z, List.map_map, Int.zero_add]
  rfl
theorem sP_bd (x : List Int) (hx : x.length ≤ 1000000) : -(x.length * 65536) ≤ g (sP vs x) ∧ g (sP vs x) ≤ x.length * 65536 := by
  rw [co_sP hg hf x hx]
  have b := sum_bd 65536 (x.map fun v => g (vat vs v)) (fun y hy => by obtain ⟨v, _, rfl⟩ := List.mem_map.1 hy; exact co_vat hg (by omega) hf v)
  rw [List.length_map] at b
  omega
theorem face_nrI (x : List Int) (h3 : 3 ≤ x.length) (h8 : x.length ≤ 8) : nrI (g (midP vs x)) (g (sP vs x)) (x.length : Int) ∧ (-420 ≤ 840 * g (midP vs x) - g (sumP vs x) ∧ 840 * g (midP vs x) - g (sumP vs x) ≤ 420) ∧ (-55050240 ≤ g (sumP vs x) ∧ g (sumP vs x) ≤ 55050240) := by
  have b := sP_bd hg hf x (by omega)
  have e : g (midP vs x) = rnd (g (sP vs x)) x.length := by rw [co_mid hg hf x (by omega), co_sP hg hf x (by omega)]
  have r := rnd_nr (x := g (sP vs x)) (n := (x.length : Int)) (by omega) (by omega) (by omega)
  unfold sumP
  rw [hg.sc, e]
  generalize rnd (g (sP vs x)) (x.length : Int) = M at *
  generalize g (sP vs x) = S at *
  unfold nrI
  have hn3 : 3 ≤ (x.length : Int) ∧ (x.length : Int) ≤ 8 := by omega
  clear e h3 h8
  generalize (x.length : Int) = n at *
  rcases (by omega : n = 3 ∨ n = 4 ∨ n = 5 ∨ n = 6 ∨ n = 7 ∨ n = 8) with rfl | rfl | rfl | rfl | rfl | rfl <;> simp only [Int.reduceDiv] at * <;> rw [wr_in (by omega)] <;> omega
end
section
variable {g : P3 → Int} (hg : Co g) {vs : List P3} {fs : List (List Int)} {ks : List P3} {t : TopoT} {sh : List Int} (hT : TopoS (vs.length : Int) fs t) (hs : sharpP t.es ks = some sh) (hf : ∀ p ∈ vs, InP 65536 p) (few : vs.length + fs.length + tot fs ≤ 300) (h8 : ∀ x ∈ fs, x.length ≤ 8)
include hg hT hs hf few h8
theorem mids_nrI (f : Int) (h0 : 0 ≤ f) (h1 : f < fs.length) : (-420 ≤ 840 * g (vat (midsL vs fs) f) - g (vat (sumsL vs fs) f) ∧ 840 * g (vat (midsL vs fs) f) - g (vat (sumsL vs fs) f) ≤ 420) ∧ (-55050240 ≤ g (vat (sumsL vs fs) f) ∧ g (vat (sumsL vs fs) f) ≤ 55050240) := by
  have h2 : f.toNat < fs.length := by omega
  have e1 : vat (midsL vs fs) f = midP vs fs[f.toNat] := by
    have hl : f.toNat < (midsL vs fs).length := by rw [midsL_len]; omega
    unfold vat
    rw [List.getD_eq_getElem?_getD, List.getElem?_eq_getElem hl]
    simp [midsL, List.getElem?_eq_getElem h2]
  have e2 : vat (sumsL vs fs) f = sumP vs fs[f.toNat] := by
    unfold vat sumsL
    rw [List.getD_eq_getElem?_getD, List.getElem?_map, List.getElem?_eq_getElem h2]
    rfl
  rw [e1, e2]
  have hx := List.getElem_mem h2
  exact (face_nrI hg hf _ (by have := hT.walk.long _ hx; omega) (h8 _ hx)).2
theorem midsI : ∀ p ∈ midsL vs fs, InP 65536 p := mids_in hf fs fun x hx => by
  have := hT.walk.long x hx
  have := len_tot hx
  omega
theorem edge_nrI (i : Nat) (hi : i < t.es.length) (e : Ed) (s : Int) (he : t.es.getD i ed0 = e) (hse : sh.getD i 0 = s) : nrI (g (halfP vs (midsL vs fs) e s)) (g (if s = 0 then adW (scW (adW (vat vs e.a) (vat vs e.b)) 840) (adW (vat (sumsL vs fs) e.f) (vat (sumsL vs fs) e.g)) else scW (adW (vat vs e.a) (vat vs e.b)) 840)) (if s = 0 then 3360 else 1680) := by
  have hmI := midsI hg hT hs hf few h8
  have hi3 : i < sh.length := by rw [sharpP_len hs]; exact hi
  rw [co_half hg hf hmI]
  have a := co_vat hg (m := 65536) (by omega) hf e.a
  have b := co_vat hg (m := 65536) (by omega) hf e.b
  have mf := co_vat hg (m := 65536) (by omega) hmI e.f
  have mg := co_vat hg (m := 65536) (by omega) hmI e.g
  have ew : g (scW (adW (vat vs e.a) (vat vs e.b)) 840) = 840 * (g (vat vs e.a) + g (vat vs e.b)) := by
    rw [hg.sc, hg.ad]; unfold wrap64; omega
  unfold halfG
  dsimp only
  by_cases h0 : s = 0
  · have hr := soft_rng hT hs i hi hi3 (by rw [List.getD_eq_getElem?_getD, List.getElem?_eq_getElem hi3] at hse; exact hse.trans h0)
    have he2 : t.es[i] = e := by rw [List.getD_eq_getElem?_getD, List.getElem?_eq_getElem hi] at he; exact he
    rw [he2] at hr
    have f1 := mids_nrI hg hT hs hf few h8 e.f hr.1.1 hr.1.2
    have g1 := mids_nrI hg hT hs hf few h8 e.g hr.2.1 hr.2.2
    rw [if_pos h0, if_pos h0, if_pos h0]
    rw [hg.ad, hg.ad, ew]
    generalize g (vat vs e.a) = qa at *
    generalize g (vat vs e.b) = qb at *
    generalize g (vat (midsL vs fs) e.f) = qf at *
    generalize g (vat (midsL vs fs) e.g) = qg at *
    generalize g (vat (sumsL vs fs) e.f) = sf at *
    generalize g (vat (sumsL vs fs) e.g) = sg at *
    have r := rnd_nr (x := qa + qb + qf + qg) (n := 4) (by omega) (by omega) (by omega)
    generalize rnd (qa + qb + qf + qg) 4 = R at *
    rw [wr_in (x := sf + sg) (by omega), wr_in (by omega)]
    unfold nrI
    omega
  · rw [if_neg h0, if_neg h0, if_neg h0, ew]
    generalize g (vat vs e.a) = qa at *
    generalize g (vat vs e.b) = qb at *
    have r := rnd_nr (x := qa + qb) (n := 2) (by omega) (by omega) (by omega)
    generalize rnd (qa + qb) 2 = R at *
    unfold nrI
    omega
theorem vert_nrI (v : Nat) (hv : v < vs.length) (hh : (othS (v : Int) (t.es.zip sh)).length < 2) (fan : List Int) (hfan : t.fans.getD v [] = fan) : nrI (g (placeA vs (midsL vs fs) t.fans (t.es.zip sh) v)) (g (foldP (foldP (scW (vat vs (v : Int)) (840 * fan.length * (fan.length - 2))) ((othE (v : Int) (t.es.zip sh)).map fun u => scW (vat vs u) 840)) (fan.map (vat (sumsL vs fs))))) (840 * fan.length * fan.length) := by
  have hmI := midsI hg hT hs hf few h8
  have hnf := hT.nf
  have v1 : v < t.fans.length := by omega
  have eF : t.fans.getD v [] = t.fans[v] := by rw [List.getD_eq_getElem?_getD, List.getElem?_eq_getElem v1]; rfl
  obtain ⟨hfr, hfl⟩ := fan_rng hT (List.getElem_mem v1)
  rw [← eF, hfan] at hfr hfl
  have hel : t.es.length ≤ tot fs := by have h1 := edges_le hT.walk hT.edges; rw [waysL_len] at h1; exact h1
  have hLl : (t.es.zip sh).length ≤ 300 := by rw [List.length_zip]; omega
  have hpos : 0 < fan.length := by
    have hp : 0 < (t.fans[v]).length := by
      have v2 : v < t.rs.length := by have := hT.nr; omega
      obtain ⟨L, hF, hl, hfm⟩ := hT.fan v v1 v2
      have := fan_pos hT.walk (by omega) (by omega) hl
      rw [hfm, List.length_map]; exact this
    rw [← eF, hfan] at hp
    exact hp
  unfold placeA
  rw [hfan, co_place hg hf hmI fan _ _ (by omega) hpos (by omega)]
  unfold placeG
  rw [if_neg (by omega), if_neg (by omega)]
  dsimp only
  have hv0 := co_vat hg (m := 65536) (by omega) hf (v : Int)
  have lE : (othE (v : Int) (t.es.zip sh)).length ≤ 300 := by have := List.length_filterMap_le (fun q : Ed × Int => other (v : Int) q.1) (t.es.zip sh); unfold othE; omega
  -- the sums, exactly
  have bE := sum_bd 65536 ((othE (v : Int) (t.es.zip sh)).map fun u => g (vat vs u)) (fun y hy => by obtain ⟨u, _, rfl⟩ := List.mem_map.1 hy; exact co_vat hg (by omega) hf u)
  have bM := sum_bd 65536 (fan.map fun f => g (vat (midsL vs fs) f)) (fun y hy => by obtain ⟨u, _, rfl⟩ := List.mem_map.1 hy; exact co_vat hg (by omega) hmI u)
  have e8 : ∀ u : Int, g (scW (vat vs u) 840) = 840 * g (vat vs u) := fun u => by
    have := co_vat hg (m := 65536) (by omega) hf u
    rw [hg.sc]; unfold wrap64; omega
  have eE : (((othE (v : Int) (t.es.zip sh)).map fun u => scW (vat vs u) 840).map g).sum = 840 * ((othE (v : Int) (t.es.zip sh)).map fun u => g (vat vs u)).sum := by
    rw [List.map_map]
    induction othE (v : Int) (t.es.zip sh) with
    | nil => simp
    | cons a l ih => simp only [List.map_cons, List.sum_cons, ih, Function.comp, e8]; omega
  have nM : -(420 * (fan.length : Int)) ≤ 840 * (fan.map fun f => g (vat (midsL vs fs) f)).sum - ((fan.map (vat (sumsL vs fs))).map g).sum ∧ 840 * (fan.map fun f => g (vat (midsL vs fs) f)).sum - ((fan.map (vat (sumsL vs fs))).map g).sum ≤ 420 * (fan.length : Int) := by
    clear hfl hpos hfan bM
    induction fan with
    | nil => simp
    | cons a l ih =>
      have h1 := hfr a (by simp)
      have h2 := (mids_nrI hg hT hs hf few h8 a h1.1 h1.2).1
      have h3 := ih (fun y hy => hfr y (by simp [hy]))
      simp only [List.map_cons, List.sum_cons, List.length_cons]
      omega
  have bS := sum_bd 55050240 ((fan.map (vat (sumsL vs fs))).map g) (fun y hy => by
    obtain ⟨p, hp, rfl⟩ := List.mem_map.1 hy
    obtain ⟨u, hu, rfl⟩ := List.mem_map.1 hp
    have h1 := hfr u hu
    exact (mids_nrI hg hT hs hf few h8 u h1.1 h1.2).2)
  rw [List.length_map] at bE bM
  rw [List.length_map, List.length_map] at bS
  have hn : (1 : Int) ≤ fan.length ∧ (fan.length : Int) ≤ 300 := by omega
  have hN1 : (fan.length : Int) ≤ (fan.length : Int) * (fan.length : Int) ∧ (fan.length : Int) * (fan.length : Int) ≤ 90000 := by
    have h1 := Int.mul_le_mul_of_nonneg_left hn.1 (show 0 ≤ (fan.length : Int) by omega)
    have h2 := Int.mul_le_mul_of_nonneg_left hn.2 (show 0 ≤ (fan.length : Int) by omega)
    omega
  have e0 : g (scW (vat vs (v : Int)) (840 * fan.length * (fan.length - 2))) = 840 * ((fan.length : Int) * (fan.length : Int) * g (vat vs (v : Int))) - 1680 * ((fan.length : Int) * g (vat vs (v : Int))) ∧ (-19660800000 ≤ (fan.length : Int) * (fan.length : Int) * g (vat vs (v : Int)) ∧ (fan.length : Int) * (fan.length : Int) * g (vat vs (v : Int)) ≤ 19660800000) ∧ (-19660800 ≤ (fan.length : Int) * g (vat vs (v : Int)) ∧ (fan.length : Int) * g (vat vs (v : Int)) ≤ 19660800) := by
    rw [hg.sc]
    generalize g (vat vs (v : Int)) = q at *
    generalize (fan.length : Int) = n at *
    have e : q * (840 * n * (n - 2)) = 840 * (n * n * q) - 1680 * (n * q) := by grind
    have b1 := Int.mul_le_mul_of_nonneg_left hv0.1 (show 0 ≤ n by omega)
    have b2 := Int.mul_le_mul_of_nonneg_left hv0.2 (show 0 ≤ n by omega)
    have b3 := Int.mul_le_mul_of_nonneg_left hv0.1 (show 0 ≤ n * n by omega)
    have b4 := Int.mul_le_mul_of_nonneg_left hv0.2 (show 0 ≤ n * n by omega)
    rw [e]
    generalize n * n * q = A at *
    generalize n * q = B at *
    generalize n * n = C at *
    unfold wrap64
    omega
  obtain ⟨e0, e0b, e0c⟩ := e0
  have e1 : g (foldP (scW (vat vs (v : Int)) (840 * fan.length * (fan.length - 2))) ((othE (v : Int) (t.es.zip sh)).map fun u => scW (vat vs u) 840)) = g (scW (vat vs (v : Int)) (840 * fan.length * (fan.length - 2))) + 840 * ((othE (v : Int) (t.es.zip sh)).map fun u => g (vat vs u)).sum := by
    rw [co_fold hg 55050240 (by omega) _ _ ?_ ?_, eE]
    · intro p hp
      obtain ⟨u, _, rfl⟩ := List.mem_map.1 hp
      have := co_vat hg (m := 65536) (by omega) hf u
      rw [e8]; omega
    · rw [e0, List.length_map]; omega
  rw [co_fold hg 55050240 (by omega) _ _ (fun p hp => by
    obtain ⟨u, hu, rfl⟩ := List.mem_map.1 hp
    have h1 := hfr u hu
    exact (mids_nrI hg hT hs hf few h8 u h1.1 h1.2).2) (by rw [e1, e0, List.length_map]; omega), e1, e0]
  have e2 : 2 * (fan.length : Int) * g (vat vs (v : Int)) = 2 * ((fan.length : Int) * g (vat vs (v : Int))) := Int.mul_assoc ..
  rw [e2]
  clear e0 e1 e2 eE e8
  generalize ((fan.map (vat (sumsL vs fs))).map g).sum = SS at *
  generalize (fan.map fun f => g (vat (midsL vs fs) f)).sum = SM at *
  generalize ((othE (v : Int) (t.es.zip sh)).map fun u => g (vat vs u)).sum = SE at *
  generalize hq : g (vat vs (v : Int)) = q at *
  generalize (fan.length : Int) = n at *
  have r := rnd_nr (x := SM + SE - 2 * (n * q)) (n := n * n) (by omega) (by omega) (by omega)
  generalize rnd (SM + SE - 2 * (n * q)) (n * n) = R at *
  have e3 : (q + R) * (840 * n * n) = 840 * (n * n * q) + 840 * (n * n * R) := by grind
  have e4 : 840 * n * n = 840 * (n * n) := by grind
  unfold nrI
  rw [e3, e4]
  generalize n * n * R = NR at *
  generalize n * n * q = A at *
  generalize n * q = B at *
  generalize n * n = C at *
  omega
end
end Go.Proofs.Ytiaikceoodeboaa
