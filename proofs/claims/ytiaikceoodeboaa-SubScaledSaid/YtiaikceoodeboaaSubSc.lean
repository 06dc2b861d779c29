/- A cage that is sixteen times as great comes to sixteen times the same, but for rounding. -/
import Derived.Test.YtiaikceoodeboaaC14
namespace Go.Proofs.Ytiaikceoodeboaa
open Go.RowKit
set_option linter.unusedVariables false
set_option linter.unusedSimpArgs false
set_option linter.unusedSectionVars false
set_option linter.unnecessarySimpa false
def nr (K x y : Int) : Prop := -K ≤ 16 * x - y ∧ 16 * x - y ≤ K
theorem rnd_sc {x y n E K : Int} (hn : 0 < n) (hn2 : n ≤ 2305843009213693952) (hx : -2305843009213693952 ≤ x ∧ x ≤ 2305843009213693952) (hy : -2305843009213693952 ≤ y ∧ y ≤ 2305843009213693952) (hE : nr E x y) (hK : 2 * E + 17 * n < 2 * (n * (K + 1))) : nr K (rnd x n) (rnd y n) := by
  rw [rnd_in (by omega), rnd_in (by omega)]
  have a := Int.mul_ediv_add_emod (2 * x + n) (2 * n)
  have a0 := Int.emod_nonneg (2 * x + n) (show 2 * n ≠ 0 by omega)
  have a1 := Int.emod_lt_of_pos (2 * x + n) (show 0 < 2 * n by omega)
  have b := Int.mul_ediv_add_emod (2 * y + n) (2 * n)
  have b0 := Int.emod_nonneg (2 * y + n) (show 2 * n ≠ 0 by omega)
  have b1 := Int.emod_lt_of_pos (2 * y + n) (show 0 < 2 * n by omega)
  generalize (2 * x + n) / (2 * n) = p at *
  generalize (2 * x + n) % (2 * n) = r at *
  generalize (2 * y + n) / (2 * n) = q at *
  generalize (2 * y + n) % (2 * n) = s at *
  rw [Int.mul_assoc] at a b
  have e : n * (16 * p - q) = 16 * (n * p) - n * q := by rw [Int.mul_sub, ← Int.mul_assoc, Int.mul_comm n 16, Int.mul_assoc]
  have e2 : n * (q - 16 * p) = n * q - 16 * (n * p) := by rw [Int.mul_sub, ← Int.mul_assoc n 16 p, Int.mul_comm n 16, Int.mul_assoc]
  unfold nr at hE ⊢
  generalize n * p = P at *
  generalize n * q = Q at *
  have h1 : n * (16 * p - q) < n * (K + 1) := by rw [e]; omega
  have h2 : n * (q - 16 * p) < n * (K + 1) := by rw [e2]; omega
  have h3 := Int.lt_of_mul_lt_mul_left h1 (by omega)
  have h4 := Int.lt_of_mul_lt_mul_left h2 (by omega)
  omega
theorem sum_sc (f f' : Int → Int) (D : Int) : ∀ l : List Int, (∀ x ∈ l, nr D (f x) (f' x)) → nr (D * l.length) ((l.map f).sum) ((l.map f').sum)
  | [], _ => by simp [nr]
  | a :: r, h => by
    have h1 := sum_sc f f' D r (fun y hy => h y (List.mem_cons_of_mem _ hy))
    have h2 := h a (by simp)
    have e1 : D * ((r.length + 1 : Nat) : Int) = D * (r.length : Int) + D := by rw [Int.natCast_add, Int.mul_add]; simp
    unfold nr at *
    simp only [List.map_cons, List.sum_cons, List.length_cons]
    rw [e1]; omega
theorem ap_sc {P : P3 → P3 → Prop} {A B A2 B2 : List P3} (hl : A.length = A2.length) (h1 : ∀ i (a : i < A.length) (b : i < A2.length), P A[i] A2[i]) (h2 : ∀ i (a : i < B.length) (b : i < B2.length), P B[i] B2[i]) : ∀ i (a : i < (A ++ B).length) (b : i < (A2 ++ B2).length), P (A ++ B)[i] (A2 ++ B2)[i] := fun i a b => by
  rcases Nat.lt_or_ge i A.length with h | h
  · rw [List.getElem_append_left h, List.getElem_append_left (by omega)]; exact h1 i h (by omega)
  · rw [List.getElem_append_right h, List.getElem_append_right (by omega)]
    simp only [hl]
    exact h2 _ (by simp at a; omega) (by simp at b; omega)
theorem map_sc {P : P3 → P3 → Prop} {n m : Nat} {f f2 : Nat → P3} (h : ∀ i, i < n → P (f i) (f2 i)) : ∀ i (a : i < ((List.range n).map f).length) (b : i < ((List.range m).map f2).length), P ((List.range n).map f)[i] ((List.range m).map f2)[i] := fun i a b => by
  rw [List.getElem_map, List.getElem_map, List.getElem_range, List.getElem_range]
  exact h i (by simpa using a)
section
variable {g : P3 → Int} (hg : Co g) {vs ws : List P3} {fs : List (List Int)} {ks : List P3} {t : TopoT} {sh : List Int} (hlen : ws.length = vs.length) (hT : TopoS (vs.length : Int) fs t) (hs : sharpP t.es ks = some sh) (hf : ∀ p ∈ vs, InP 65536 p) (hw : ∀ p ∈ ws, InP 65536 p) (few : vs.length + fs.length + tot fs ≤ 1000000) {D : Int} (hD : 0 ≤ D ∧ D ≤ 1000) (hq : ∀ u : Int, 0 ≤ u → u < vs.length → nr D (g (vat vs u)) (g (vat ws u)))
include hg hlen hT hs hf hw few hD hq
theorem mid_sc : ∀ x ∈ fs, nr (D + 8) (g (midP vs x)) (g (midP ws x)) := fun x hx => by
  have hx1 : x.length ≤ 1000000 := by have := len_tot hx; omega
  have hx2 : 0 < x.length := by have := hT.walk.long x hx; omega
  rw [co_mid hg hf x hx1, co_mid hg hw x hx1]
  have b1 := sum_bd 65536 (x.map fun v => g (vat vs v)) (fun y hy => by obtain ⟨v, _, rfl⟩ := List.mem_map.1 hy; exact co_vat hg (by omega) hf v)
  have b2 := sum_bd 65536 (x.map fun v => g (vat ws v)) (fun y hy => by obtain ⟨v, _, rfl⟩ := List.mem_map.1 hy; exact co_vat hg (by omega) hw v)
  rw [List.length_map] at b1 b2
  have h := sum_sc (fun v => g (vat vs v)) (fun v => g (vat ws v)) D x (fun y hy => by have := hT.walk.corner_rng hx hy; exact hq y this.1 this.2)
  have e : (x.length : Int) * (D + 8 + 1) = D * (x.length : Int) + 9 * (x.length : Int) := by rw [Int.mul_add, Int.mul_add, Int.mul_comm]; omega
  exact rnd_sc (by omega) (by omega) (by omega) (by omega) h (by rw [e]; omega)
theorem mids_sc : ∀ f : Int, 0 ≤ f → f < fs.length → nr (D + 8) (g (vat (midsL vs fs) f)) (g (vat (midsL ws fs) f)) := fun f h0 h1 => by
  have e : ∀ us : List P3, vat (midsL us fs) f = midP us (fs.getD f.toNat []) := fun us => by
    have hl : f.toNat < (midsL us fs).length := by rw [midsL_len]; omega
    unfold vat
    rw [List.getD_eq_getElem?_getD, List.getElem?_eq_getElem hl]
    simp [midsL]
  have h2 : f.toNat < fs.length := by omega
  rw [e, e, List.getD_eq_getElem?_getD, List.getElem?_eq_getElem h2]
  exact mid_sc hg hlen hT hs hf hw few hD hq _ (List.getElem_mem h2)
theorem half_sc (i : Nat) (hi : i < t.es.length) : nr (D + 17) (g (halfP vs (midsL vs fs) (t.es.getD i ed0) (sh.getD i 0))) (g (halfP ws (midsL ws fs) (t.es.getD i ed0) (sh.getD i 0))) := by
  have hxl : ∀ x ∈ fs, x.length ≤ 1000000 ∧ 0 < x.length := fun x hx => by
    have := hT.walk.long x hx
    have := len_tot hx
    omega
  have hmI := mids_in hf fs hxl
  have hmW := mids_in hw fs hxl
  have hi3 : i < sh.length := by rw [sharpP_len hs]; exact hi
  have e1 : t.es.getD i ed0 = t.es[i] := by rw [List.getD_eq_getElem?_getD, List.getElem?_eq_getElem hi]; rfl
  have e2 : sh.getD i 0 = sh[i] := by rw [List.getD_eq_getElem?_getD, List.getElem?_eq_getElem hi3]; rfl
  rw [e1, e2, co_half hg hf hmI, co_half hg hw hmW]
  obtain ⟨r1, r2, _⟩ := edge_rng hT (List.getElem_mem hi)
  have a := hq _ r1.1 r1.2
  have b := hq _ r2.1 r2.2
  have a2 := co_vat hg (m := 65536) (by omega) hf t.es[i].a
  have b2 := co_vat hg (m := 65536) (by omega) hf t.es[i].b
  have a3 := co_vat hg (m := 65536) (by omega) hw t.es[i].a
  have b3 := co_vat hg (m := 65536) (by omega) hw t.es[i].b
  unfold halfG
  dsimp only
  split
  · rename_i h0
    obtain ⟨s1, s2⟩ := soft_rng hT hs i hi hi3 h0
    have c := mids_sc hg hlen hT hs hf hw few hD hq _ s1.1 s1.2
    have d := mids_sc hg hlen hT hs hf hw few hD hq _ s2.1 s2.2
    have c2 := co_vat hg (m := 65536) (by omega) hmI t.es[i].f
    have d2 := co_vat hg (m := 65536) (by omega) hmI t.es[i].g
    have c3 := co_vat hg (m := 65536) (by omega) hmW t.es[i].f
    have d3 := co_vat hg (m := 65536) (by omega) hmW t.es[i].g
    refine rnd_sc (E := 4 * D + 16) (by omega) (by omega) (by omega) (by omega) ?_ (by omega)
    unfold nr at *; omega
  · refine rnd_sc (E := 2 * D) (by omega) (by omega) (by omega) (by omega) ?_ (by omega)
    unfold nr at *; omega
theorem place_sc (v : Nat) (hv : v < vs.length) : nr (D + 17) (g (placeA vs (midsL vs fs) t.fans (t.es.zip sh) v)) (g (placeA ws (midsL ws fs) t.fans (t.es.zip sh) v)) := by
  have ok := hT.walk
  have hel : t.es.length ≤ tot fs := by have h1 := edges_le ok hT.edges; rw [waysL_len] at h1; exact h1
  have hxl : ∀ x ∈ fs, x.length ≤ 1000000 ∧ 0 < x.length := fun x hx => by
    have := hT.walk.long x hx
    have := len_tot hx
    omega
  have hmI := mids_in hf fs hxl
  have hmW := mids_in hw fs hxl
  have hsl := sharpP_len hs
  have hnf := hT.nf
  have hnr := hT.nr
  have v1 : v < t.fans.length := by omega
  have v2 : v < t.rs.length := by omega
  have eF : t.fans.getD v [] = t.fans[v] := by rw [List.getD_eq_getElem?_getD, List.getElem?_eq_getElem v1]; rfl
  obtain ⟨hfr, hfl⟩ := fan_rng hT (List.getElem_mem v1)
  have hLl : (t.es.zip sh).length ≤ 1000000 := by rw [List.length_zip]; omega
  have hEz := othE_zip (v : Int) t.es sh hsl
  have hE : ∀ u ∈ othE (v : Int) (t.es.zip sh), nr D (g (vat vs u)) (g (vat ws u)) := fun u hu => by
    rw [hEz, oth_mem ok hT.edges] at hu
    obtain ⟨w, hw, ⟨_, rfl⟩ | ⟨rfl, _⟩⟩ := hu
    · have := (ok.rng hw).2.1; exact hq _ this.1 this.2
    · have := (ok.rng hw).1; exact hq _ this.1 this.2
  have hS : ∀ u ∈ othS (v : Int) (t.es.zip sh), u ∈ othE (v : Int) (t.es.zip sh) := fun u hu => by
    obtain ⟨q, hq1, hq2⟩ := List.mem_filterMap.1 hu
    refine List.mem_filterMap.2 ⟨q, hq1, ?_⟩
    split at hq2
    · cases hq2
    · exact hq2
  have q0 := hq (v : Int) (by omega) (by omega)
  have qa := co_vat hg (m := 65536) (by omega) hf (v : Int)
  have qb := co_vat hg (m := 65536) (by omega) hw (v : Int)
  have fpos : 0 < t.fans[v].length := by
    obtain ⟨L, hF, hl, hfe⟩ := hT.fan v v1 v2
    obtain ⟨w, hw, hb⟩ := ok.all (v : Int) (by omega) (by omega)
    obtain ⟨d, hd⟩ := ok.next hw
    have := List.length_pos_of_mem (fan_all ok hF hl _ hd hb)
    rw [hfe, List.length_map]; exact this
  unfold placeA
  rw [eF, co_place hg hf hmI t.fans[v] (t.es.zip sh) (v : Int) (by omega) fpos hLl, co_place hg hw hmW t.fans[v] (t.es.zip sh) (v : Int) (by omega) fpos hLl]
  unfold placeG
  dsimp only
  have bS := sum_sc (fun u => g (vat vs u)) (fun u => g (vat ws u)) D (othS (v : Int) (t.es.zip sh)) (fun u hu => hE u (hS u hu))
  have bE := sum_sc (fun u => g (vat vs u)) (fun u => g (vat ws u)) D (othE (v : Int) (t.es.zip sh)) hE
  have bM := sum_sc (fun f => g (vat (midsL vs fs) f)) (fun f => g (vat (midsL ws fs) f)) (D + 8) t.fans[v] (fun f hf1 => mids_sc hg hlen hT hs hf hw few hD hq f (hfr f hf1).1 (hfr f hf1).2)
  have box : ∀ (us : List P3) (hu : ∀ p ∈ us, InP 65536 p) (l : List Int), -(l.length * 65536 : Int) ≤ (l.map fun u => g (vat us u)).sum ∧ (l.map fun u => g (vat us u)).sum ≤ l.length * 65536 := fun us hu l => by
    have := sum_bd 65536 (l.map fun u => g (vat us u)) (fun y hy => by obtain ⟨u, _, rfl⟩ := List.mem_map.1 hy; exact co_vat hg (by omega) hu u)
    rwa [List.length_map] at this
  have dS := box vs hf (othS (v : Int) (t.es.zip sh))
  have dS2 := box ws hw (othS (v : Int) (t.es.zip sh))
  have dE := box vs hf (othE (v : Int) (t.es.zip sh))
  have dE2 := box ws hw (othE (v : Int) (t.es.zip sh))
  have dM := box (midsL vs fs) hmI t.fans[v]
  have dM2 := box (midsL ws fs) hmW t.fans[v]
  generalize ((othS (v : Int) (t.es.zip sh)).map fun u => g (vat vs u)).sum = sS at *
  generalize ((othE (v : Int) (t.es.zip sh)).map fun u => g (vat vs u)).sum = sE at *
  generalize (t.fans[v].map fun f => g (vat (midsL vs fs) f)).sum = sM at *
  generalize ((othS (v : Int) (t.es.zip sh)).map fun u => g (vat ws u)).sum = sS2 at *
  generalize ((othE (v : Int) (t.es.zip sh)).map fun u => g (vat ws u)).sum = sE2 at *
  generalize (t.fans[v].map fun f => g (vat (midsL ws fs) f)).sum = sM2 at *
  split
  · unfold nr at *; omega
  · rename_i hc1
    split
    · rename_i hc2
      rw [hc2] at dS dS2 bS
      refine rnd_sc (E := 8 * D) (by omega) (by omega) (by omega) (by omega) ?_ (by omega)
      unfold nr at *; omega
    · rename_i hc2
      have hround : t.rs[v] = true := by
        cases hr : t.rs[v] with
        | true => rfl
        | false => have := cnt_two hT hs v v1 v2 hr; omega
      obtain ⟨d1, d2⟩ := deg hT v v1 v2 hround
      rw [← hEz] at d1
      rw [d1] at bE dE dE2
      generalize t.fans[v].length = n at *
      generalize g (vat vs (v : Int)) = q at *
      generalize g (vat ws (v : Int)) = q2 at *
      have hn6 : n ≤ 1000000 := by omega
      clear box hEz hE hS hq
      obtain ⟨N, hN⟩ : ∃ N : Int, N = (n : Int) * (n : Int) := ⟨_, rfl⟩
      have N1 : 2 * (n : Int) ≤ N := by rw [hN]; exact Int.mul_le_mul_of_nonneg_right (by omega) (by omega)
      have N2 : N ≤ 1000000 * 1000000 := by rw [hN]; exact Int.mul_le_mul (by omega) (by omega) (by omega) (by omega)
      have qN : -65536 * N ≤ q * N ∧ q * N ≤ 65536 * N := ⟨Int.mul_le_mul_of_nonneg_right qa.1 (by omega), Int.mul_le_mul_of_nonneg_right qa.2 (by omega)⟩
      have qN2 : -65536 * N ≤ q2 * N ∧ q2 * N ≤ 65536 * N := ⟨Int.mul_le_mul_of_nonneg_right qb.1 (by omega), Int.mul_le_mul_of_nonneg_right qb.2 (by omega)⟩
      have nq : -65536 * (n : Int) ≤ q * (n : Int) ∧ q * (n : Int) ≤ 65536 * (n : Int) := ⟨Int.mul_le_mul_of_nonneg_right qa.1 (by omega), Int.mul_le_mul_of_nonneg_right qa.2 (by omega)⟩
      have nq2 : -65536 * (n : Int) ≤ q2 * (n : Int) ∧ q2 * (n : Int) ≤ 65536 * (n : Int) := ⟨Int.mul_le_mul_of_nonneg_right qb.1 (by omega), Int.mul_le_mul_of_nonneg_right qb.2 (by omega)⟩
      have k1 : (16 * q - q2) * (N - 2 * n) ≤ D * (N - 2 * n) := Int.mul_le_mul_of_nonneg_right q0.2 (by omega)
      have k2 : -D * (N - 2 * n) ≤ (16 * q - q2) * (N - 2 * n) := Int.mul_le_mul_of_nonneg_right q0.1 (by omega)
      have x1 : (16 * q - q2) * (N - 2 * n) = 16 * (q * N) - q2 * N - 32 * (q * n) + 2 * (q2 * n) := by grind
      have x2 : D * (N - 2 * n) = D * N - 2 * (D * n) := by grind
      have x3 : -D * (N - 2 * n) = -(D * N) + 2 * (D * n) := by grind
      have x4 : (D + 8) * (n : Int) = D * n + 8 * n := by grind
      have x5 : N * (D + 17 + 1) = D * N + 18 * N := by grind
      have x6 : 2 * (n : Int) * q = 2 * (q * n) := by grind
      have x7 : 2 * (n : Int) * q2 = 2 * (q2 * n) := by grind
      rw [x1, x2] at k1
      rw [x1, x3] at k2
      rw [x4] at bM
      rw [← hN, x6, x7, Int.add_comm q, Int.add_comm q2, ← rnd_shift (k := q) (by omega) (by omega) (by omega) (by omega), ← rnd_shift (k := q2) (by omega) (by omega) (by omega) (by omega)]
      refine rnd_sc (E := D * N + 8 * n) (by omega) (by omega) (by omega) (by omega) ?_ (by rw [x5]; omega)
      unfold nr at *
      omega
theorem lev_sc : ∀ i (a : i < (levC ⟨vs, fs, ks⟩ t sh).vs.length) (b : i < (levC ⟨ws, fs, ks⟩ t sh).vs.length), nr (D + 17) (g (levC ⟨vs, fs, ks⟩ t sh).vs[i]) (g (levC ⟨ws, fs, ks⟩ t sh).vs[i]) := by
  refine ap_sc (P := fun p q => nr (D + 17) (g p) (g q)) (by simp only [List.length_append, movedL_len, halvesL_len, hlen]) (ap_sc (P := fun p q => nr (D + 17) (g p) (g q)) (by rw [movedL_len, movedL_len, hlen]) ?_ ?_) ?_
  · exact map_sc (P := fun p q => nr (D + 17) (g p) (g q)) fun v hv => place_sc hg hlen hT hs hf hw few hD hq v hv
  · exact map_sc (P := fun p q => nr (D + 17) (g p) (g q)) fun i hi => half_sc hg hlen hT hs hf hw few hD hq i hi
  · refine map_sc (P := fun p q => nr (D + 17) (g p) (g q)) fun f hf2 => ?_
    have e2 : fs.getD f [] = fs[f] := by rw [List.getD_eq_getElem?_getD, List.getElem?_eq_getElem hf2]; rfl
    rw [e2]
    have hf3 : f < fs.length := hf2
    have h3 : nr (D + 8) (g (midP vs fs[f])) (g (midP ws fs[f])) := mid_sc hg hlen hT hs hf hw few hD hq _ (List.getElem_mem hf3)
    show nr (D + 17) (g (midP vs fs[f])) (g (midP ws fs[f]))
    unfold nr at *; omega
end
end Go.Proofs.Ytiaikceoodeboaa
