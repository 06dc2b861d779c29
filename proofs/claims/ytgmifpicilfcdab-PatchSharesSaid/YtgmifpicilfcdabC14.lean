/- A finer cage's vertices stay in the coarse one's box. A finer cage's vertices stay in the coarse one's box: all of them. The box of a cage's vertices, called; what it holds. A cage, copied. A cage that is moved comes to the same, moved; one in a plane stays there. Three cages with the same faces, one moved, one flat: what Level answers. -/
import Derived.Test.YtgmifpicilfcdabC2
import Derived.Test.YtgmifpicilfcdabC4
import Derived.Test.YtgmifpicilfcdabC7
import Derived.Test.YtgmifpicilfcdabC10
import Derived.Test.YtgmifpicilfcdabC11
import Derived.Test.YtgmifpicilfcdabC13
namespace Go.Proofs.Ytgmifpicilfcdab
open Go.RowKit
set_option linter.unusedVariables false
set_option linter.unusedSimpArgs false
/-- The new vertex of an edge, one coordinate: what it is reckoned from. -/
def halfG (q M : Int → Int) (e : Ed) (s : Int) : Int := if s = 0 then rnd (q e.a + q e.b + M e.f + M e.g) 4 else rnd (q e.a + q e.b) 2
theorem co_half {g : P3 → Int} (hg : Co g) {vs ms : List P3} (h : ∀ p ∈ vs, InP 65536 p) (hm : ∀ p ∈ ms, InP 65536 p) (e : Ed) (s : Int) : g (halfP vs ms e s) = halfG (fun u => g (vat vs u)) (fun f => g (vat ms f)) e s := by
  have a := co_vat hg (m := 65536) (by omega) h e.a
  have b := co_vat hg (m := 65536) (by omega) h e.b
  have c := co_vat hg (m := 65536) (by omega) hm e.f
  have d := co_vat hg (m := 65536) (by omega) hm e.g
  unfold halfP
  rw [hg.tri]
  unfold halfS halfG co sumS
  split
  · rw [fold_exact 65536 (by omega) _ _ ?_ ?_]
    · simp only [List.sum_cons, List.sum_nil]; congr 1; omega
    · intro y hy
      simp only [List.mem_cons, List.not_mem_nil, or_false] at hy
      rcases hy with rfl | rfl | rfl | rfl <;> omega
    · simp only [List.length_cons, List.length_nil]; omega
  · rw [fold_exact 65536 (by omega) _ _ ?_ ?_]
    · simp only [List.sum_cons, List.sum_nil]; congr 1; omega
    · intro y hy
      simp only [List.mem_cons, List.not_mem_nil, or_false] at hy
      rcases hy with rfl | rfl <;> omega
    · simp only [List.length_cons, List.length_nil]; omega
theorem sum_box (lo hi : Int) : ∀ l : List Int, (∀ y ∈ l, lo ≤ y ∧ y ≤ hi) → lo * l.length ≤ l.sum ∧ l.sum ≤ hi * l.length
  | [], _ => by simp
  | a :: r, h => by
    have h1 := sum_box lo hi r (fun y hy => h y (List.mem_cons_of_mem _ hy))
    have h2 := h a (by simp)
    simp only [List.sum_cons, List.length_cons]
    have e1 : lo * ((r.length + 1 : Nat) : Int) = lo * (r.length : Int) + lo := by rw [Int.natCast_add, Int.mul_add]; simp
    have e2 : hi * ((r.length + 1 : Nat) : Int) = hi * (r.length : Int) + hi := by rw [Int.natCast_add, Int.mul_add]; simp
    rw [e1, e2]; omega
theorem othE_zip (v : Int) (es : List Ed) (sh : List Int) (hl : sh.length = es.length) : othE v (es.zip sh) = es.filterMap (other v) := by
  have e : es = (es.zip sh).map Prod.fst := (List.map_fst_zip (by omega)).symm
  conv => rhs; rw [e, List.filterMap_map]
  rfl
theorem oth_mem {n : Int} {fs : List (List Int)} {es : List Ed} (ok : WalkOk n fs) (hE : EdgesR (waysL 0 fs) es) (v u : Int) : u ∈ es.filterMap (other v) ↔ ∃ w ∈ waysL 0 fs, (w.a = v ∧ w.b = u) ∨ (w.a = u ∧ w.b = v) := by
  rw [List.mem_filterMap]
  constructor
  · rintro ⟨e, he, ho⟩
    obtain ⟨w, hw, rfl⟩ := (hE.mem e).1 he
    refine ⟨w, hw, ?_⟩
    unfold other edOf at ho
    simp only at ho
    split at ho
    · simp only [Option.some.injEq] at ho; omega
    · split at ho
      · simp only [Option.some.injEq] at ho; omega
      · cases ho
  · rintro ⟨w, hw, h⟩
    have hne := ok.ne hw
    refine ⟨_, (hE.mem _).2 ⟨w, hw, rfl⟩, ?_⟩
    unfold other edOf
    simp only
    split
    · simp only [Option.some.injEq]; omega
    · split
      · simp only [Option.some.injEq]; omega
      · omega
theorem oth_nodup {n : Int} {fs : List (List Int)} {es : List Ed} (ok : WalkOk n fs) (hE : EdgesR (waysL 0 fs) es) (v : Int) : (es.filterMap (other v)).Nodup := by
  rw [List.nodup_iff_pairwise_ne, List.pairwise_filterMap]
  have hlt : ∀ e ∈ es, e.a < e.b := fun e he => by
    obtain ⟨w, hw, rfl⟩ := (hE.mem e).1 he
    have := ok.ne hw
    simp only [edOf]; omega
  refine List.Pairwise.imp_of_mem (fun {x y} hx hy hxy => ?_) hE.sorted
  have h1 := hlt x hx
  have h2 := hlt y hy
  intro b hb b' hb' e
  subst e
  unfold ltE at hxy
  unfold other at hb hb'
  split at hb
  · split at hb'
    · simp only [Option.some.injEq] at hb hb'; omega
    · split at hb'
      · simp only [Option.some.injEq] at hb hb'; omega
      · cases hb'
  · split at hb
    · split at hb'
      · simp only [Option.some.injEq] at hb hb'; omega
      · split at hb'
        · simp only [Option.some.injEq] at hb hb'; omega
        · cases hb'
    · cases hb
/-- As many edges come to a round vertex as faces are about it: at least two. -/
theorem deg {n : Int} {fs : List (List Int)} {t : TopoT} (h : TopoS n fs t) (v : Nat) (hv : v < t.fans.length) (hr : v < t.rs.length) (hround : t.rs[v] = true) : (t.es.filterMap (other (v : Int))).length = t.fans[v].length ∧ 2 ≤ t.fans[v].length := by
  have ok := h.walk
  obtain ⟨L, hF, hl, hf⟩ := h.fan v hv hr
  have hall := fan_all ok hF hl
  rw [hround] at hF
  obtain ⟨hne, hes⟩ := hF.back rfl
  generalize (hubOf (waysL 0 fs) (v : Int) (waysL 0 fs)).1 = start at *
  have hpos : 0 < L.length := List.length_pos_iff.2 hne
  have hends := ends_at start hpos
  have hbn : (L.map Way.b).Nodup := by
    rw [List.nodup_iff_pairwise_ne, List.pairwise_map]
    refine List.Pairwise.imp_of_mem (fun {x y} hx hy hxy e => hxy ?_) (List.nodup_iff_pairwise_ne.1 (hF.toFanC.nodup ok))
    have m1 := hF.mem x hx
    have m2 := hF.mem y hy
    exact ok.apart.key m1.1 m2.1 (m1.2.trans m2.2.symm) e
  have hmem : ∀ u, u ∈ t.es.filterMap (other (v : Int)) ↔ u ∈ L.map Way.b := fun u => by
    rw [oth_mem ok h.edges, List.mem_map]
    constructor
    · rintro ⟨w, hw, ⟨ha, hb⟩ | ⟨ha, hb⟩⟩
      · exact ⟨w, hall w hw ha, hb⟩
      · obtain ⟨w2, hw2, ha2, hc2⟩ := (ok.comes u (v : Int)).1 ⟨w, hw, ha, hb⟩
        obtain ⟨i, hi, rfl⟩ := List.getElem_of_mem (hall w2 hw2 ha2)
        by_cases e2 : i + 1 < L.length
        · exact ⟨_, List.getElem_mem e2, (hF.link i e2).trans hc2⟩
        · have : i = L.length - 1 := by omega
          subst this
          exact ⟨_, List.getElem_mem hpos, by rw [hF.first hpos, ← hes, hends, hc2]⟩
    · rintro ⟨w, hw, rfl⟩
      have := hF.mem w hw
      exact ⟨w, this.1, .inl ⟨this.2, rfl⟩⟩
  have a1 := nodup_le _ _ (oth_nodup ok h.edges (v : Int)) (fun u hu => (hmem u).1 hu)
  have a2 := nodup_le _ _ hbn (fun u hu => (hmem u).2 hu)
  have a3 : (L.map Way.b).length = L.length := List.length_map ..
  rw [hf, List.length_map]
  refine ⟨by omega, ?_⟩
  apply Classical.byContradiction
  intro hc
  have e1 : L.length = 1 := by omega
  have h0 := hF.first hpos
  have hm := hF.mem _ (List.getElem_mem hpos)
  apply ok.bc hm.1
  rw [h0, ← hes, hends]
  congr 2; omega
theorem bord_le (v : Int) : ∀ (es : List Ed) (sh : List Int), sh.length = es.length → (∀ i (h1 : i < es.length) (h2 : i < sh.length), bordB v es[i] = true → sh[i] ≠ 0) → (es.filter (bordB v)).length ≤ (othS v (es.zip sh)).length
  | [], _, _, _ => by simp
  | e :: r, [], hl, _ => by simp at hl
  | e :: r, s :: q, hl, h => by
    have ih := bord_le v r q (by simpa using hl) (fun i h1 h2 hb => by
      have := h (i + 1) (by simp; omega) (by simp; omega) (by simpa using hb)
      simpa using this)
    have h0 := h 0 (by simp) (by simp)
    simp only [List.getElem_cons_zero] at h0
    unfold othS at *
    rw [List.zip_cons_cons, List.filterMap_cons, List.filter_cons]
    by_cases hb : bordB v e = true
    · rw [if_pos hb]
      have hs := h0 hb
      have ho : ∃ u, other v e = some u := by
        unfold bordB at hb
        rw [Bool.and_eq_true] at hb
        have := hb.1
        simp only [Bool.or_eq_true, beq_iff_eq] at this
        unfold other
        split
        · exact ⟨_, rfl⟩
        · rw [if_pos (by omega)]; exact ⟨_, rfl⟩
      obtain ⟨u, hu⟩ := ho
      simp only [hs, if_false, hu, List.length_cons]
      omega
    · rw [if_neg hb]
      split
      · exact ih
      · simp only [List.length_cons]; omega
theorem cnt_two {n : Int} {fs : List (List Int)} {t : TopoT} (h : TopoS n fs t) {ks : List P3} {sh : List Int} (hs : sharpP t.es ks = some sh) (v : Nat) (hv : v < t.fans.length) (hr : v < t.rs.length) (hn : t.rs[v] = false) : 2 ≤ (othS (v : Int) (t.es.zip sh)).length := by
  have h1 := fewer h v hv hr
  rw [hn, if_neg (by simp)] at h1
  have h2 := bord_le (v : Int) t.es sh (sharpP_len hs) (fun i i1 i2 hb => by
    have hge := sharpK_ge hs i (by simpa using i1) i2
    rw [List.getElem_map] at hge
    unfold bordB at hb
    rw [Bool.and_eq_true] at hb
    unfold base0 at hge
    rw [if_pos hb.2] at hge
    omega)
  omega
end Go.Proofs.Ytgmifpicilfcdab
namespace Go.Proofs.Ytgmifpicilfcdab
open Go.RowKit
set_option linter.unusedVariables false
set_option linter.unusedSimpArgs false
theorem vat_at (vs : List P3) (u : Int) (h0 : 0 ≤ u) (h1 : u < vs.length) : vat vs u ∈ vs := by
  have h : u.toNat < vs.length := by omega
  unfold vat
  rw [List.getD_eq_getElem?_getD, List.getElem?_eq_getElem h]
  exact List.getElem_mem h
theorem lev_box {g : P3 → Int} (hg : Co g) {c : Cg} {t : TopoT} {sh : List Int} (hT : TopoS (c.vs.length : Int) c.fs t) (hs : sharpP t.es c.ks = some sh) (hf : ∀ p ∈ c.vs, InP 65536 p) (few : c.vs.length + c.fs.length + tot c.fs ≤ 1000000) {lo hi : Int} (hb : ∀ p ∈ c.vs, lo ≤ g p ∧ g p ≤ hi) : ∀ p ∈ (levC c t sh).vs, lo ≤ g p ∧ g p ≤ hi := by
  obtain ⟨vs, fs, ks⟩ := c
  simp only [levC] at *
  have ok := hT.walk
  have hq : ∀ u : Int, 0 ≤ u → u < vs.length → lo ≤ g (vat vs u) ∧ g (vat vs u) ≤ hi := fun u h0 h1 => hb _ (vat_at vs u h0 h1)
  have hel : t.es.length ≤ tot fs := by have h1 := edges_le ok hT.edges; rw [waysL_len] at h1; exact h1
  have hxl : ∀ x ∈ fs, x.length ≤ 1000000 ∧ 0 < x.length := fun x hx => by
    have := ok.long x hx
    have := len_tot hx
    omega
  have hmI := mids_in hf fs hxl
  have hmid : ∀ x ∈ fs, lo ≤ g (midP vs x) ∧ g (midP vs x) ≤ hi := fun x hx => by
    have hx2 := hxl x hx
    rw [co_mid hg hf x hx2.1]
    have b1 := sum_box lo hi (x.map fun v => g (vat vs v)) (fun y hy => by
      obtain ⟨v, hv, rfl⟩ := List.mem_map.1 hy
      have := ok.corner_rng hx hv
      exact hq v this.1 this.2)
    have b2 := sum_bd 65536 (x.map fun v => g (vat vs v)) (fun y hy => by obtain ⟨v, _, rfl⟩ := List.mem_map.1 hy; exact co_vat hg (by omega) hf v)
    rw [List.length_map] at b1 b2
    exact rnd_box (by omega) (by omega) b1.1 b1.2 (by omega)
  have hM : ∀ f : Int, 0 ≤ f → f < fs.length → lo ≤ g (vat (midsL vs fs) f) ∧ g (vat (midsL vs fs) f) ≤ hi := fun f h0 h1 => by
    have h2 := vat_at (midsL vs fs) f h0 (by rw [midsL_len]; exact h1)
    obtain ⟨i, hi, e⟩ := List.mem_map.1 h2
    have hi2 : i < fs.length := by simpa using hi
    have e2 : fs.getD i [] = fs[i] := by rw [List.getD_eq_getElem?_getD, List.getElem?_eq_getElem hi2]; rfl
    rw [← e, e2]
    exact hmid _ (List.getElem_mem hi2)
  have hsl := sharpP_len hs
  intro p hp
  rcases List.mem_append.1 hp with hp | hp
  · rcases List.mem_append.1 hp with hp | hp
    · -- a vertex, moved
      obtain ⟨v, hv, rfl⟩ := List.mem_map.1 hp
      have hv2 : v < vs.length := by simpa using hv
      have hnf := hT.nf
      have hnr := hT.nr
      have v1 : v < t.fans.length := by omega
      have v2 : v < t.rs.length := by omega
      have eF : t.fans.getD v [] = t.fans[v] := by rw [List.getD_eq_getElem?_getD, List.getElem?_eq_getElem v1]; rfl
      obtain ⟨hfr, hfl⟩ := fan_rng hT (List.getElem_mem v1)
      have hLl : (t.es.zip sh).length ≤ 1000000 := by rw [List.length_zip]; omega
      have hEz := othE_zip (v : Int) t.es sh hsl
      have hE : ∀ u ∈ othE (v : Int) (t.es.zip sh), lo ≤ g (vat vs u) ∧ g (vat vs u) ≤ hi := fun u hu => by
        rw [hEz, oth_mem ok hT.edges] at hu
        obtain ⟨w, hw, ⟨_, rfl⟩ | ⟨rfl, _⟩⟩ := hu
        · have := (ok.rng hw).2.1; exact hq _ this.1 this.2
        · have := (ok.rng hw).1; exact hq _ this.1 this.2
      have hS : ∀ u ∈ othS (v : Int) (t.es.zip sh), u ∈ othE (v : Int) (t.es.zip sh) := fun u hu => by
        obtain ⟨q, hq1, hq2⟩ := List.mem_filterMap.1 hu
        refine List.mem_filterMap.2 ⟨q, hq1, ?_⟩
        split at hq2
        · cases hq2
        · exact hq2
      have q0 := hq (v : Int) (by omega) (by omega)
      have qa := co_vat hg (m := 65536) (by omega) hf (v : Int)
      have fpos : 0 < t.fans[v].length := by
        obtain ⟨L, hF, hl, hfe⟩ := hT.fan v v1 v2
        obtain ⟨w, hw, hb⟩ := ok.all (v : Int) (by omega) (by omega)
        obtain ⟨d, hd⟩ := ok.next hw
        have := List.length_pos_of_mem (fan_all ok hF hl _ hd hb)
        rw [hfe, List.length_map]; exact this
      unfold placeA
      rw [eF, co_place hg hf hmI t.fans[v] (t.es.zip sh) (v : Int) (by omega) fpos hLl]
      unfold placeG
      dsimp only
      have bS := sum_box lo hi ((othS (v : Int) (t.es.zip sh)).map fun u => g (vat vs u)) (fun y hy => by obtain ⟨u, hu, rfl⟩ := List.mem_map.1 hy; exact hE u (hS u hu))
      have bE := sum_box lo hi ((othE (v : Int) (t.es.zip sh)).map fun u => g (vat vs u)) (fun y hy => by obtain ⟨u, hu, rfl⟩ := List.mem_map.1 hy; exact hE u hu)
      have bM := sum_box lo hi (t.fans[v].map fun f => g (vat (midsL vs fs) f)) (fun y hy => by obtain ⟨f, hf1, rfl⟩ := List.mem_map.1 hy; exact hM f (hfr f hf1).1 (hfr f hf1).2)
      have dS := sum_bd 65536 ((othS (v : Int) (t.es.zip sh)).map fun u => g (vat vs u)) (fun y hy => by obtain ⟨u, hu, rfl⟩ := List.mem_map.1 hy; exact co_vat hg (by omega) hf u)
      have dE := sum_bd 65536 ((othE (v : Int) (t.es.zip sh)).map fun u => g (vat vs u)) (fun y hy => by obtain ⟨u, hu, rfl⟩ := List.mem_map.1 hy; exact co_vat hg (by omega) hf u)
      have dM := sum_bd 65536 (t.fans[v].map fun f => g (vat (midsL vs fs) f)) (fun y hy => by obtain ⟨f, hf1, rfl⟩ := List.mem_map.1 hy; exact co_vat hg (by omega) hmI f)
      rw [List.length_map] at bS bE bM dS dE dM
      generalize ((othS (v : Int) (t.es.zip sh)).map fun u => g (vat vs u)).sum = sS at *
      generalize ((othE (v : Int) (t.es.zip sh)).map fun u => g (vat vs u)).sum = sE at *
      generalize (t.fans[v].map fun f => g (vat (midsL vs fs) f)).sum = sM at *
      split
      · exact q0
      · rename_i hc1
        split
        · rename_i hc2
          rw [hc2] at bS dS
          exact rnd_box (by omega) (by omega) (by omega) (by omega) (by omega)
        · rename_i hc2
          have hround : t.rs[v] = true := by
            cases hr : t.rs[v] with
            | true => rfl
            | false => have := cnt_two hT hs v v1 v2 hr; omega
          obtain ⟨d1, d2⟩ := deg hT v v1 v2 hround
          rw [← hEz] at d1
          rw [d1] at bE dE
          generalize hn : t.fans[v].length = n at *
          generalize g (vat vs (v : Int)) = q at *
          have hnn : 0 ≤ (n : Int) := by omega
          have hK0 : 0 ≤ (n : Int) * ((n : Int) - 2) := Int.mul_nonneg hnn (by omega)
          have hN : (n : Int) * (n : Int) = (n : Int) * ((n : Int) - 2) + 2 * (n : Int) := by rw [Int.mul_sub]; omega
          have hKle : (n : Int) * ((n : Int) - 2) ≤ 1000000000000 := by
            have h1 := Int.mul_le_mul_of_nonneg_left (show (n : Int) - 2 ≤ 1000000 by omega) hnn
            omega
          have hN1 : 0 < (n : Int) * (n : Int) := by omega
          have eq2 : 2 * (n : Int) * q = 2 * ((n : Int) * q) := Int.mul_assoc ..
          rw [eq2, hN]
          generalize (n : Int) * ((n : Int) - 2) = K at *
          have k1 : lo * K ≤ q * K := Int.mul_le_mul_of_nonneg_right q0.1 hK0
          have k2 : q * K ≤ hi * K := Int.mul_le_mul_of_nonneg_right q0.2 hK0
          have k3 : -65536 * K ≤ q * K := Int.mul_le_mul_of_nonneg_right qa.1 hK0
          have k4 : q * K ≤ 65536 * K := Int.mul_le_mul_of_nonneg_right qa.2 hK0
          have p1 : (n : Int) * q ≤ (n : Int) * 65536 := Int.mul_le_mul_of_nonneg_left qa.2 hnn
          have p2 : (n : Int) * (-65536) ≤ (n : Int) * q := Int.mul_le_mul_of_nonneg_left qa.1 hnn
          have eD : q * (K + 2 * (n : Int)) = q * K + 2 * ((n : Int) * q) := by rw [Int.mul_add, Int.mul_left_comm q 2, Int.mul_comm q (n : Int)]
          have l1 : lo * (K + 2 * (n : Int)) = lo * K + 2 * (lo * (n : Int)) := by rw [Int.mul_add, Int.mul_left_comm]
          have l2 : hi * (K + 2 * (n : Int)) = hi * K + 2 * (hi * (n : Int)) := by rw [Int.mul_add, Int.mul_left_comm]
          have hsft := rnd_shift (x := sM + sE - 2 * ((n : Int) * q)) (n := K + 2 * (n : Int)) (k := q) (by omega) (by omega) (by omega) (by rw [eD]; omega)
          rw [Int.add_comm q, ← hsft, eD]
          exact rnd_box (by omega) (by omega) (by rw [l1]; omega) (by rw [l2]; omega) (by omega)
    · -- an edge's
      obtain ⟨i, hi, rfl⟩ := List.mem_map.1 hp
      have hi2 : i < t.es.length := by simpa using hi
      have hi3 : i < sh.length := by omega
      have e1 : t.es.getD i ed0 = t.es[i] := by rw [List.getD_eq_getElem?_getD, List.getElem?_eq_getElem hi2]; rfl
      have e2 : sh.getD i 0 = sh[i] := by rw [List.getD_eq_getElem?_getD, List.getElem?_eq_getElem hi3]; rfl
      rw [e1, e2, co_half hg hf hmI]
      obtain ⟨r1, r2, _⟩ := edge_rng hT (List.getElem_mem hi2)
      have a := hq _ r1.1 r1.2
      have b := hq _ r2.1 r2.2
      have a2 := co_vat hg (m := 65536) (by omega) hf t.es[i].a
      have b2 := co_vat hg (m := 65536) (by omega) hf t.es[i].b
      unfold halfG
      dsimp only
      split
      · rename_i h0
        obtain ⟨s1, s2⟩ := soft_rng hT hs i hi2 hi3 h0
        have c := hM _ s1.1 s1.2
        have d := hM _ s2.1 s2.2
        have c2 := co_vat hg (m := 65536) (by omega) hmI t.es[i].f
        have d2 := co_vat hg (m := 65536) (by omega) hmI t.es[i].g
        exact rnd_box (by omega) (by omega) (by omega) (by omega) (by omega)
      · exact rnd_box (by omega) (by omega) (by omega) (by omega) (by omega)
  · -- a face's
    obtain ⟨i, hi, rfl⟩ := List.mem_map.1 hp
    have hi2 : i < fs.length := by simpa using hi
    have e2 : fs.getD i [] = fs[i] := by rw [List.getD_eq_getElem?_getD, List.getElem?_eq_getElem hi2]; rfl
    rw [e2]
    exact hmid _ (List.getElem_mem hi2)
/-- A row's vertices as the box of a row takes them. -/
def ptF (vs : List P3) (i : Nat) : Int × Int × Int := ((vat vs i).x, (vat vs i).y, (vat vs i).z)
theorem vat_nat (vs : List P3) (i : Nat) (h : i < vs.length) : vat vs (i : Int) = vs[i] := by
  unfold vat
  rw [List.getD_eq_getElem?_getD, Int.toNat_natCast, List.getElem?_eq_getElem h]; rfl
theorem VL.vf {W : World} {A : Option Addr} {vs : List P3} (h : VL W A vs) : VF W A vs.length (ptF vs) := fun h0 => by
  obtain ⟨b, off, e, hl, hc⟩ := h h0
  refine ⟨b, off, e, hl, fun i hi => ?_⟩
  simp only [ptF, vat_nat vs i hi]
  exact hc i hi
/-- No vertex of the finer cage is outside the box. -/
theorem lev_has {c : Cg} {t : TopoT} {sh : List Int} (hT : TopoS (c.vs.length : Int) c.fs t) (hs : sharpP t.es c.ks = some sh) (hf : ∀ p ∈ c.vs, InP 65536 p) (few : c.vs.length + c.fs.length + tot c.fs ≤ 1000000) (n : Nat) (hn : c.vs.length = n + 1) : ∀ p ∈ (levC c t sh).vs, inB (boxF (ptF c.vs) n).1.1 (boxF (ptF c.vs) n).1.2.1 (boxF (ptF c.vs) n).1.2.2 (boxF (ptF c.vs) n).2.1 (boxF (ptF c.vs) n).2.2.1 (boxF (ptF c.vs) n).2.2.2 p.x p.y p.z = true := fun p hp => by
  have hb : ∀ p ∈ c.vs, inP (boxF (ptF c.vs) n) (p.x, p.y, p.z) := fun p hp => by
    obtain ⟨i, hi, rfl⟩ := List.getElem_of_mem hp
    have := boxF_has (ptF c.vs) n i (by omega)
    simp only [ptF, vat_nat c.vs i hi] at this
    exact this
  unfold inP at hb
  rw [inB_iff]
  have x := lev_box co_x hT hs hf few (lo := (boxF (ptF c.vs) n).1.1) (hi := (boxF (ptF c.vs) n).2.1) (fun p hp => by have := hb p hp; simp only at this; omega) p hp
  have y := lev_box co_y hT hs hf few (lo := (boxF (ptF c.vs) n).1.2.1) (hi := (boxF (ptF c.vs) n).2.2.1) (fun p hp => by have := hb p hp; simp only at this; omega) p hp
  have z := lev_box co_z hT hs hf few (lo := (boxF (ptF c.vs) n).1.2.2) (hi := (boxF (ptF c.vs) n).2.2.2) (fun p hp => by have := hb p hp; simp only at this; omega) p hp
  omega
end Go.Proofs.Ytgmifpicilfcdab
namespace Go.Proofs.Ytgmifpicilfcdab
open Go.RowKit
set_option linter.unusedVariables false
set_option linter.unusedSimpArgs false
theorem bound_any (w : World) (A : Option Addr) (k : Nat) (vs : List P3) (fs : List (List Int)) (ks : List P3) (hV : VL w A vs) (hk : vs.length ≤ k) (few : vs.length + fs.length + tot fs ≤ 1000000) :
    Calls Try.prog 12 #[.slice A vs.length k] w fun e w' => ∃ (lx ly lz hx hy hz : Int) (ok : Bool), e = .returned (.tuple #[.agg #[.int .i64 lx, .int .i64 ly, .int .i64 lz, .int .i64 hx, .int .i64 hy, .int .i64 hz], .bool ok]) ∧ (∃ x, w' = grow w x) ∧ (ok = true → ∀ (t : TopoT) (sh : List Int), TopoS (vs.length : Int) fs t → sharpP t.es ks = some sh → (∀ p ∈ vs, InP 65536 p) → ∀ p ∈ (levC ⟨vs, fs, ks⟩ t sh).vs, inB lx ly lz hx hy hz p.x p.y p.z = true) := by
  by_cases h0 : vs.length = 0
  · rw [h0]
    refine ((vBound_none A k).at_ w).mono ?_
    rintro e w' ⟨rfl, x, rfl⟩
    exact ⟨0, 0, 0, 0, 0, 0, false, rfl, ⟨x, rfl⟩, fun h => by cases h⟩
  · obtain ⟨n, hn⟩ : ∃ n, vs.length = n + 1 := ⟨vs.length - 1, by omega⟩
    have hF := hV.vf
    rw [hn] at hF ⊢
    refine (vBound_some w A n k (ptF vs) hF (by omega) (by omega)).mono ?_
    rintro e w' ⟨rfl, x, rfl⟩
    refine ⟨_, _, _, _, _, _, true, rfl, ⟨x, rfl⟩, fun _ t sh hT hs hf => ?_⟩
    rw [← hn] at hT
    exact lev_has (c := ⟨vs, fs, ks⟩) hT hs hf few n hn
end Go.Proofs.Ytgmifpicilfcdab
namespace Go.Proofs.Ytgmifpicilfcdab
open Go.RowKit
set_option linter.unusedVariables false
set_option linter.unusedSimpArgs false
theorem infoCr9 : (Try.prog.info? 125).map (fun i => (i.zero, i.size, i.bytes)) = some (some (.agg #[.int .i64 0, .int .i64 0, .int .i64 0]), 3, 24) := by kernel_rfl
theorem newsV_kC (ps : List P3) : newsV (ptF ps) ps.length = kC ps := by
  apply List.ext_getElem?
  intro j
  by_cases h : j < ps.length * 3
  · have hi : j / 3 < ps.length := by omega
    obtain ⟨h1, h2, h3⟩ := kC_at ps (j / 3) hi
    rw [newsV_get _ _ _ h]
    have e0 : ptF ps (j / 3) = (ps[j / 3].x, ps[j / 3].y, ps[j / 3].z) := by simp only [ptF, vat_nat ps _ hi]
    rw [e0]
    rcases (by omega : j = j / 3 * 3 ∨ j = j / 3 * 3 + 1 ∨ j = j / 3 * 3 + 2) with e | e | e
    · rw [show j % 3 = 0 by omega]; conv => rhs; rw [e]
      rw [h1]; rfl
    · rw [show j % 3 = 1 by omega]; conv => rhs; rw [e]
      rw [h2]; rfl
    · rw [show j % 3 = 2 by omega]; conv => rhs; rw [e]
      rw [h3]; rfl
  · rw [List.getElem?_eq_none (by rw [newsV_len]; omega), List.getElem?_eq_none (by rw [kC_len]; omega)]
set_option maxHeartbeats 4000000 in
theorem copyVL_any (W : World) (A : Option Addr) (k : Nat) (ps : List P3) (hV : VL W A ps) (hs : SL A ps.length k) (hn : ps.length ≤ 1048576) :
    Calls Try.prog 30 #[.slice A ps.length k] W fun e W' => ∃ B d, e = .returned (.slice B ps.length d) ∧ W'.ownsRow W.heap.size 43 3 (.slice B ps.length d) ps.length (kC ps) ∧ Below W.heap.size W W' := by
  refine (copy_any W A ps.length k (ptF ps) hV.vf hs hn).mono ?_
  rintro e W' ⟨v, rfl, x, rfl, ho⟩
  rw [newsV_kC] at ho
  obtain ⟨hl, ⟨rfl, h0⟩ | ⟨g, cap, cur, rfl, h⟩⟩ := ho
  · rw [h0] at hl ⊢
    exact ⟨none, 0, rfl, ⟨hl, .inl ⟨rfl, rfl⟩⟩, bel_grow (Below.refl _ _) x⟩
  · exact ⟨_, cap, rfl, ⟨hl, .inr ⟨g, cap, cur, rfl, h⟩⟩, bel_grow (Below.refl _ _) x⟩
def PO (b : Nat) (ps : List P3) : World → Value → Prop := fun w v => ∃ B d, v = .slice B ps.length d ∧ w.ownsRow b 43 3 (.slice B ps.length d) ps.length (kC ps)
theorem PO.stays (b : Nat) (ps : List P3) : Stays (PO b ps) := fun w w' v hB ⟨B, d, e, h⟩ => ⟨B, d, e, own_lay h hB⟩
def PG (b : Nat) (fs : List (List Int)) : World → Value → Prop := fun w v => ∃ B d, v = .slice B fs.length d ∧ OwnF w b B d fs
theorem PG.stays (b : Nat) (fs : List (List Int)) : Stays (PG b fs) := fun w w' v hB ⟨B, d, e, h⟩ => ⟨B, d, e, h.lay hB⟩
def PQ (b : Nat) (vs : List P3) (fs : List (List Int)) (B3 : Option Addr) (n3 d3 : Nat) : World → Value → Prop := fun w v => ∃ R1 e1 R2 e2, v = .agg #[.slice R1 vs.length e1, .slice R2 fs.length e2, .slice B3 n3 d3] ∧ w.ownsRow b 43 3 (.slice R1 vs.length e1) vs.length (kC vs) ∧ OwnF w b R2 e2 fs
theorem PQ.stays (b : Nat) (vs : List P3) (fs : List (List Int)) (B3 : Option Addr) (n3 d3 : Nat) : Stays (PQ b vs fs B3 n3 d3) := fun w w' v hB ⟨B, d, C, f, e, h, k⟩ => ⟨B, d, C, f, e, own_lay h hB, k.lay hB⟩
set_option maxHeartbeats 4000000 in
theorem copyC_any (W : World) (A1 A2 A3 : Option Addr) (k1 k2 k3 : Nat) (vs : List P3) (fs : List (List Int)) (ks : List P3) (v1 : VL W A1 vs) (v2 : FL W A2 fs) (v3 : VL W A3 ks) (s1 : SL A1 vs.length k1) (s3 : SL A3 ks.length k3) (l1 : vs.length ≤ 1000) (l2 : fs.length ≤ 1000) (l3 : ks.length ≤ 1000) (hx : ∀ x ∈ fs, x.length < 1099511627776) :
    Calls Try.prog 18 #[.agg #[.slice A1 vs.length k1, .slice A2 fs.length k2, .slice A3 ks.length k3]] W fun e W' => ∃ (B1 B2 B3 : Option Addr) (d1 d2 d3 : Nat), e = .returned (.agg #[.slice B1 vs.length d1, .slice B2 fs.length d2, .slice B3 ks.length d3]) ∧ Below W.heap.size W W' ∧ W'.ownsRow W.heap.size 43 3 (.slice B1 vs.length d1) vs.length (kC vs) ∧ OwnF W' W.heap.size B2 d2 fs ∧ W'.ownsRow W.heap.size 125 3 (.slice B3 ks.length d3) ks.length (kC ks) := by
  obtain ⟨W0, hW0⟩ : ∃ W0, W0 = (W.alloc (.cells #[.slice A1 vs.length k1, .slice A2 fs.length k2, .slice A3 ks.length k3] 26)).alloc (.cells #[.slice none 0 0, .slice none 0 0, .slice none 0 0] 26) := ⟨_, rfl⟩
  have hB0 : Below W.heap.size W W0 := by rw [hW0]; exact bel_alloc (bel_alloc (Below.refl _ _) _) _
  have hC0 : Blk W0 W.heap.size 26 #[.slice A1 vs.length k1, .slice A2 fs.length k2, .slice A3 ks.length k3] := by rw [hW0]; exact (Blk.new _ _ _ _ rfl).alloc _
  have hR0 : Blk W0 (W.heap.size + 1) 26 #[.slice none 0 0, .slice none 0 0, .slice none 0 0] := by rw [hW0]; exact Blk.new _ _ _ _ (by simp)
  have hsz : W.heap.size + 1 < W0.heap.size := hR0.lt
  obtain ⟨i0, hi0, hz0, hz1, hz2⟩ := info_parts infoCr9
  have hlit : (W0.alloc (.cells #[] 125)).ownsRow W0.heap.size 125 3 (.slice (some ⟨W0.heap.size, 0, none⟩) 0 0) 0 [] := World.ownsRow_made _ _ _ (Nat.le_refl _) (by unfold maxLen; omega) rfl
  have hB1 : Below W0.heap.size W0 (W0.alloc (.cells #[] 125)) := bel_alloc (Below.refl _ _) _
  have v3b := v3.below (bel_trans hB0 hB1)
  have hC1 := hC0.below hB1
  obtain ⟨t1, t2, t3⟩ := s3
  have rest : ∀ (w1 : World) (v : Value), w1.ownsRow W0.heap.size 125 3 v ks.length (kC ks) → Below W0.heap.size W0 w1 → ∃ (B3 : Option Addr) (d3 : Nat), v = .slice B3 ks.length d3 ∧ w1.ownsRow W0.heap.size 125 3 (.slice B3 ks.length d3) ks.length (kC ks) := fun w1 v ho hb => by
    obtain ⟨A, c, rfl⟩ := own_form ho
    exact ⟨A, c, rfl, ho⟩
  replace rest := Lib.hid rest
  have cV := fun (w1 : World) (hb : Below W0.heap.size W0 w1) => copyVL_any w1 A1 k1 vs (v1.below (bel_trans hB0 hb)) s1 (by omega)
  have cF := fun (w1 : World) (hb : Below W0.heap.size W0 w1) => copyF_any0 w1 A2 k2 fs (v2.below (bel_trans hB0 hb)) (by omega) hx
  replace cV := Lib.hid cV
  replace cF := Lib.hid cF
  have x0 : (W0.alloc (.cells #[] 125)).cell? ⟨W.heap.size, 2, none⟩ = some (.slice A3 ks.length k3) := hC1.cell 2
  have xl := hC1.lt
  have fin : ∀ (w1 : World) (v : Value), w1.ownsRow W0.heap.size 125 3 v ks.length (kC ks) → Below W0.heap.size W0 w1 → True := fun _ _ _ _ => trivial
  go_enter Try.func18, Try.ntmps18
  go_upto_region 1 with (fail)
  go_upto_region 2 with (fail)
  have hsz2 : W.heap.size + 1 + 1 = W0.heap.size := by rw [hW0]; simp
  simp only [← hW0, hsz2]
  replace hlit := Lib.hid hlit
  have hfix : ∀ (w1 : World) (v1 : Value), w1.ownsRow W0.heap.size 125 3 v1 (0 + ks.length) ([] ++ kC ks) → w1.ownsRow W0.heap.size 125 3 v1 ks.length (kC ks) := fun w1 v1 h => by
    rw [Nat.zero_add, List.nil_append] at h; exact h
  have hbn : ∀ (w1 : World), (W0.alloc (.cells #[] 125)).grownBy w1 (some W0.heap.size) → Below W0.heap.size W0 w1 := fun w1 h2 => (bel_alloc (Below.refl _ _) _).grown h2 (by simp) (fun k hk => by simp at hk; omega)
  clear hW0 hsz2 fin
  cases A3 with
  | none =>
    obtain rfl : k3 = 0 := t3 rfl
    have hk0 : ks.length = 0 := by omega
    have ek : kC ks = [] := by rw [List.eq_nil_of_length_eq_zero hk0]; rfl
    rw [hk0] at x0
    go_upto_region 3 with (fail)
    generalize W0.alloc (.cells #[] 125) = w1 at *
    have hbw := hB1
    have hC2 := hC0.below hbw
    have hR2 := hR0.below hbw
    have cV1 := cV.out w1 hbw
    have hK := hlit.out
    clear rest hC0 hR0 hC1 x0 xl hlit
    have x0 : w1.cell? ⟨W.heap.size, 0, none⟩ = some (.slice A1 vs.length k1) := hC2.cell 0
    have x1 : w1.cell? ⟨W.heap.size, 1, none⟩ = some (.slice A2 fs.length k2) := hC2.cell 1
    have xl := hC2.lt
    clear cV1
    refine wp_region_monoT 8 (RL [PE (.pointer (some ⟨W.heap.size, 0, none⟩)), PE (.slice A1 vs.length k1), PO W0.heap.size vs, PE (.pointer (some ⟨W.heap.size, 1, none⟩)), PE (.slice A2 fs.length k2), PG W0.heap.size fs, PE (.slice (some ⟨W0.heap.size, 0, none⟩) 0 0), PQ W0.heap.size vs fs (some ⟨W0.heap.size, 0, none⟩) 0 0]) (by kernel_rfl) _ rfl (by kernel_rfl) (by kernel_rfl) (by kernel_rfl) (by kernel_rfl) (by kernel_rfl) (RL.stays ?_) ?_ ?_
    · intro p hp
      simp only [List.mem_cons, List.not_mem_nil, or_false] at hp
      rcases hp with rfl | rfl | rfl | rfl | rfl | rfl | rfl | rfl <;> first | exact PE.stays _ | exact PV.stays _ _ _ | exact PO.stays _ _ | exact PG.stays _ _ | exact PQ.stays _ _ _ _ _ _
    · simp only [List.take_succ_cons, List.take_zero]
      refine ⟨?_, ?_, ?_, ?_, ?_, ?_, ?_, ?_, ?_⟩
      · refine mono_val rfl (fun a w hB hk hp => ?_)
        have es1 := (hk 1 (keep_of (by kernel_rfl))).trans (show _ = some (.pointer (some ⟨W.heap.size, 0, none⟩)) from rfl)
        exact ⟨.pointer (some ⟨W.heap.size, 0, none⟩), w, by simp [execOp, go_sem, es1], Below.refl _ _, fun _ _ => rfl⟩
      · refine mono_val rfl (fun a w hB hk hp => ?_)
        obtain ⟨x0, ex0, rx0⟩ := hp ⟨0, .data⟩ (by simp) rfl _ _ rfl rfl
        obtain rfl : x0 = _ := rx0
        have fc0 := (hB.cell (p := ⟨W.heap.size, 0, none⟩) xl).trans x0
        exact ⟨.slice A1 vs.length k1, w, by simp [execOp, go_sem, ex0, fc0], Below.refl _ _, fun _ _ => rfl⟩
      · refine mono_call rfl (fun a w hB hk hp => ?_)
        obtain ⟨x1, ex1, rx1⟩ := hp ⟨1, .data⟩ (by simp) rfl _ _ rfl rfl
        obtain rfl : x1 = _ := rx1
        exact ⟨30, #[.slice A1 vs.length k1], by simp [execOp, go_sem, ex1], (cV.out w (bel_trans hbw hB)).mono fun e w' ⟨B, d, h1, h2, h3⟩ => ⟨_, h1, h3, fun _ _ => ⟨B, d, rfl, own_base h2 (bel_trans hbw hB).size⟩⟩⟩
      · refine mono_val rfl (fun a w hB hk hp => ?_)
        have es1 := (hk 1 (keep_of (by kernel_rfl))).trans (show _ = some (.pointer (some ⟨W.heap.size, 0, none⟩)) from rfl)
        exact ⟨.pointer (some ⟨W.heap.size, 1, none⟩), w, by simp [execOp, go_sem, es1], Below.refl _ _, fun _ _ => rfl⟩
      · refine mono_val rfl (fun a w hB hk hp => ?_)
        obtain ⟨x3, ex3, rx3⟩ := hp ⟨3, .data⟩ (by simp) rfl _ _ rfl rfl
        obtain rfl : x3 = _ := rx3
        have fc0 := (hB.cell (p := ⟨W.heap.size, 1, none⟩) xl).trans x1
        exact ⟨.slice A2 fs.length k2, w, by simp [execOp, go_sem, ex3, fc0], Below.refl _ _, fun _ _ => rfl⟩
      · refine mono_call rfl (fun a w hB hk hp => ?_)
        obtain ⟨x4, ex4, rx4⟩ := hp ⟨4, .data⟩ (by simp) rfl _ _ rfl rfl
        obtain rfl : x4 = _ := rx4
        exact ⟨31, #[.slice A2 fs.length k2], by simp [execOp, go_sem, ex4], (cF.out w (bel_trans hbw hB)).mono fun e w' ⟨B, d, h1, h2, h3⟩ => ⟨_, h1, h3, fun _ _ => ⟨B, d, rfl, h2.base (bel_trans hbw hB).size⟩⟩⟩
      · refine mono_val rfl (fun a w hB hk hp => ?_)
        have es3 := (hk 3 (keep_of (by kernel_rfl))).trans (show _ = some (.slice (some ⟨W0.heap.size, 0, none⟩) 0 0) from rfl)
        exact ⟨.slice (some ⟨W0.heap.size, 0, none⟩) 0 0, w, by simp [execOp, go_sem, es3], Below.refl _ _, fun _ _ => rfl⟩
      · refine mono_val rfl (fun a w hB hk hp => ?_)
        obtain ⟨x2, ex2, rx2⟩ := hp ⟨2, .data⟩ (by simp) rfl _ _ rfl rfl
        obtain ⟨R1, e1, rfl, hr1⟩ : PO W0.heap.size vs w x2 := rx2
        obtain ⟨x5, ex5, rx5⟩ := hp ⟨5, .data⟩ (by simp) rfl _ _ rfl rfl
        obtain ⟨R2, e2, rfl, hr2⟩ : PG W0.heap.size fs w x5 := rx5
        obtain ⟨x6, ex6, rx6⟩ := hp ⟨6, .data⟩ (by simp) rfl _ _ rfl rfl
        obtain rfl : x6 = _ := rx6
        exact ⟨.agg #[.slice R1 vs.length e1, .slice R2 fs.length e2, .slice (some ⟨W0.heap.size, 0, none⟩) 0 0], w, by simp [execOp, go_sem, ex2, ex5, ex6], Below.refl _ _, fun _ _ => ⟨R1, e1, R2, e2, rfl, hr1, hr2⟩⟩
      · trivial
    · intro a w5 hB hsz hdf hk hgot
      obtain ⟨v7, ev7, rv7⟩ := hgot 7 _ 16 rfl rfl
      obtain ⟨R1, e1, R2, e2, rfl, hr1, hr2⟩ : PQ W0.heap.size vs fs (some ⟨W0.heap.size, 0, none⟩) 0 0 w5 v7 := rv7
      obtain ⟨f, hf, rfl⟩ := frame_eq hsz hdf hk [9, 10, 11, 12, 13, 14, 15, 16] (by rfl)
      have f16 := hf 16 _ ev7
      clear hsz hdf hk hgot hf ev7
      simp only [List.drop_succ_cons, List.drop_zero, setAll, List.setIfInBounds_toArray, List.set_cons_succ, List.set_cons_zero, f16]
      clear f16
      generalize f 9 = uu9; generalize f 10 = uu10; generalize f 11 = uu11; generalize f 12 = uu12; generalize f 13 = uu13; generalize f 14 = uu14; generalize f 15 = uu15
      have hB5 := bel_trans hB0 (bel_trans hbw hB)
      have hR5 := hR2.below hB
      have hK5 := own_lay hK hB
      clear x0 x1 xl hC2 hR2 hB hK
      have f0 := hR5.frozen 0
      have f1 := hR5.frozen 1
      have f2 := hR5.frozen 2
      have r0 : w5.cell? ⟨W.heap.size + 1, 0, none⟩ = some (.slice none 0 0) := hR5.cell 0
      have r1 : w5.cell? ⟨W.heap.size + 1, 1, none⟩ = some (.slice none 0 0) := hR5.cell 1
      have r2 : w5.cell? ⟨W.heap.size + 1, 2, none⟩ = some (.slice none 0 0) := hR5.cell 2
      have rl := hR5.lt
      have hE := ((hR5.set 0 (.slice R1 vs.length e1)).set 1 (.slice R2 fs.length e2)).set 2 (.slice (some ⟨W0.heap.size, 0, none⟩) 0 0)
      have hbE := bel_set (bel_set (bel_set hB5 (p := ⟨W.heap.size + 1, 0, none⟩) (by simp) (.slice R1 vs.length e1)) (p := ⟨W.heap.size + 1, 1, none⟩) (by simp) (.slice R2 fs.length e2)) (p := ⟨W.heap.size + 1, 2, none⟩) (by simp) (.slice (some ⟨W0.heap.size, 0, none⟩) 0 0)
      have hgE := ((set_grown w5 (W.heap.size + 1) 0 (.slice R1 vs.length e1)).trans (set_grown _ (W.heap.size + 1) 1 (.slice R2 fs.length e2))).trans (set_grown _ (W.heap.size + 1) 2 (.slice (some ⟨W0.heap.size, 0, none⟩) 0 0))
      have o1 := own_kept hr1 hgE (fun k hk e => by have := (own_block hr1 k hk).1; simp only [Option.some.injEq] at e; omega)
      have o3 := own_kept hK5 hgE (fun k hk e => by have := (own_block hK5 k hk).1; simp only [Option.some.injEq] at e; omega)
      have o2 := hr2.kept hgE (fun k e => by simp only [Option.some.injEq] at e; exact .inl (by omega))
      clear hgE hr1 hr2 hB5 hR5 hK5
      go_wp2
      generalize ((w5.setCell ⟨W.heap.size + 1, 0, none⟩ (.slice R1 vs.length e1)).setCell ⟨W.heap.size + 1, 1, none⟩ (.slice R2 fs.length e2)).setCell ⟨W.heap.size + 1, 2, none⟩ (.slice (some ⟨W0.heap.size, 0, none⟩) 0 0) = WE at *
      have y0 : WE.cell? ⟨W.heap.size + 1, 0, none⟩ = some (.slice R1 vs.length e1) := hE.cell 0
      have y1 : WE.cell? ⟨W.heap.size + 1, 1, none⟩ = some (.slice R2 fs.length e2) := hE.cell 1
      have y2 : WE.cell? ⟨W.heap.size + 1, 2, none⟩ = some (.slice (some ⟨W0.heap.size, 0, none⟩) 0 0) := hE.cell 2
      refine bodyPost_ret (v := .agg #[.slice R1 vs.length e1, .slice R2 fs.length e2, .slice (some ⟨W0.heap.size, 0, none⟩) 0 0]) (by simp [results, Try.results18, go_sem, y0, y1, y2]) rfl ?_
      refine ⟨R1, R2, some ⟨W0.heap.size, 0, none⟩, e1, e2, 0, by first | rfl | rw [hk0], hbE, own_base o1 (by omega), o2.base (by omega), ?_⟩
      first | exact own_base o3 (by omega) | (rw [ek]; exact own_base o3 (by omega)) | (rw [hk0, ek]; exact own_base o3 (by omega))
  | some ad =>
    have hnews : ∀ j u, (kC ks)[j]? = some u → (W0.alloc (.cells #[] 125)).cell? (ad.add j) = some u := by
      rcases Nat.eq_zero_or_pos ks.length with hz | hz
      · obtain rfl := List.eq_nil_of_length_eq_zero hz
        intro j u h; simp [kC] at h
      · have hf := v3b.vf
        obtain ⟨b, off, e, hl, _⟩ := v3b hz
        cases e
        have := hf.news
        rw [newsV_kC] at this
        exact this
    replace hnews := Lib.hid hnews
    go_upto_region 3 with (at_builtin; refine wpList_append_own_at _ rfl (.tmp 5) (.tmp 7) _ rfl W0.heap.size 125 i0 _ 3 24 Try.underlying24 hi0 hz0 hz1 hz2 rfl (by omega) (.slice (some ⟨W0.heap.size, 0, none⟩) 0 0) 0 [] rfl hlit.out ad ks.length k3 (kC ks) rfl (kC_len ks) hnews.out (kC_one ks) (by unfold maxLen; omega) (by omega) (by simp) ?_; intro v1 w1 hown1 hg1 hnil1 hat1)
    have hbw : Below W0.heap.size W0 w1 := hbn w1 hg1
    obtain ⟨B3, d3, rfl, hK⟩ := rest.out w1 v1 (hfix w1 v1 hown1) hbw
    have hC2 := hC0.below hbw
    have hR2 := hR0.below hbw
    have cV1 := cV.out w1 hbw
    clear rest hC0 hR0 hC1 x0 xl
    have x0 : w1.cell? ⟨W.heap.size, 0, none⟩ = some (.slice A1 vs.length k1) := hC2.cell 0
    have x1 : w1.cell? ⟨W.heap.size, 1, none⟩ = some (.slice A2 fs.length k2) := hC2.cell 1
    have xl := hC2.lt
    clear cV1
    refine wp_region_monoT 8 (RL [PE (.pointer (some ⟨W.heap.size, 0, none⟩)), PE (.slice A1 vs.length k1), PO W0.heap.size vs, PE (.pointer (some ⟨W.heap.size, 1, none⟩)), PE (.slice A2 fs.length k2), PG W0.heap.size fs, PE (.slice B3 ks.length d3), PQ W0.heap.size vs fs B3 ks.length d3]) (by kernel_rfl) _ rfl (by kernel_rfl) (by kernel_rfl) (by kernel_rfl) (by kernel_rfl) (by kernel_rfl) (RL.stays ?_) ?_ ?_
    · intro p hp
      simp only [List.mem_cons, List.not_mem_nil, or_false] at hp
      rcases hp with rfl | rfl | rfl | rfl | rfl | rfl | rfl | rfl <;> first | exact PE.stays _ | exact PV.stays _ _ _ | exact PO.stays _ _ | exact PG.stays _ _ | exact PQ.stays _ _ _ _ _ _
    · simp only [List.take_succ_cons, List.take_zero]
      refine ⟨?_, ?_, ?_, ?_, ?_, ?_, ?_, ?_, ?_⟩
      · refine mono_val rfl (fun a w hB hk hp => ?_)
        have es1 := (hk 1 (keep_of (by kernel_rfl))).trans (show _ = some (.pointer (some ⟨W.heap.size, 0, none⟩)) from rfl)
        exact ⟨.pointer (some ⟨W.heap.size, 0, none⟩), w, by simp [execOp, go_sem, es1], Below.refl _ _, fun _ _ => rfl⟩
      · refine mono_val rfl (fun a w hB hk hp => ?_)
        obtain ⟨x0, ex0, rx0⟩ := hp ⟨0, .data⟩ (by simp) rfl _ _ rfl rfl
        obtain rfl : x0 = _ := rx0
        have fc0 := (hB.cell (p := ⟨W.heap.size, 0, none⟩) xl).trans x0
        exact ⟨.slice A1 vs.length k1, w, by simp [execOp, go_sem, ex0, fc0], Below.refl _ _, fun _ _ => rfl⟩
      · refine mono_call rfl (fun a w hB hk hp => ?_)
        obtain ⟨x1, ex1, rx1⟩ := hp ⟨1, .data⟩ (by simp) rfl _ _ rfl rfl
        obtain rfl : x1 = _ := rx1
        exact ⟨30, #[.slice A1 vs.length k1], by simp [execOp, go_sem, ex1], (cV.out w (bel_trans hbw hB)).mono fun e w' ⟨B, d, h1, h2, h3⟩ => ⟨_, h1, h3, fun _ _ => ⟨B, d, rfl, own_base h2 (bel_trans hbw hB).size⟩⟩⟩
      · refine mono_val rfl (fun a w hB hk hp => ?_)
        have es1 := (hk 1 (keep_of (by kernel_rfl))).trans (show _ = some (.pointer (some ⟨W.heap.size, 0, none⟩)) from rfl)
        exact ⟨.pointer (some ⟨W.heap.size, 1, none⟩), w, by simp [execOp, go_sem, es1], Below.refl _ _, fun _ _ => rfl⟩
      · refine mono_val rfl (fun a w hB hk hp => ?_)
        obtain ⟨x3, ex3, rx3⟩ := hp ⟨3, .data⟩ (by simp) rfl _ _ rfl rfl
        obtain rfl : x3 = _ := rx3
        have fc0 := (hB.cell (p := ⟨W.heap.size, 1, none⟩) xl).trans x1
        exact ⟨.slice A2 fs.length k2, w, by simp [execOp, go_sem, ex3, fc0], Below.refl _ _, fun _ _ => rfl⟩
      · refine mono_call rfl (fun a w hB hk hp => ?_)
        obtain ⟨x4, ex4, rx4⟩ := hp ⟨4, .data⟩ (by simp) rfl _ _ rfl rfl
        obtain rfl : x4 = _ := rx4
        exact ⟨31, #[.slice A2 fs.length k2], by simp [execOp, go_sem, ex4], (cF.out w (bel_trans hbw hB)).mono fun e w' ⟨B, d, h1, h2, h3⟩ => ⟨_, h1, h3, fun _ _ => ⟨B, d, rfl, h2.base (bel_trans hbw hB).size⟩⟩⟩
      · refine mono_val rfl (fun a w hB hk hp => ?_)
        have es3 := (hk 3 (keep_of (by kernel_rfl))).trans (show _ = some (.slice B3 ks.length d3) from rfl)
        exact ⟨.slice B3 ks.length d3, w, by simp [execOp, go_sem, es3], Below.refl _ _, fun _ _ => rfl⟩
      · refine mono_val rfl (fun a w hB hk hp => ?_)
        obtain ⟨x2, ex2, rx2⟩ := hp ⟨2, .data⟩ (by simp) rfl _ _ rfl rfl
        obtain ⟨R1, e1, rfl, hr1⟩ : PO W0.heap.size vs w x2 := rx2
        obtain ⟨x5, ex5, rx5⟩ := hp ⟨5, .data⟩ (by simp) rfl _ _ rfl rfl
        obtain ⟨R2, e2, rfl, hr2⟩ : PG W0.heap.size fs w x5 := rx5
        obtain ⟨x6, ex6, rx6⟩ := hp ⟨6, .data⟩ (by simp) rfl _ _ rfl rfl
        obtain rfl : x6 = _ := rx6
        exact ⟨.agg #[.slice R1 vs.length e1, .slice R2 fs.length e2, .slice B3 ks.length d3], w, by simp [execOp, go_sem, ex2, ex5, ex6], Below.refl _ _, fun _ _ => ⟨R1, e1, R2, e2, rfl, hr1, hr2⟩⟩
      · trivial
    · intro a w5 hB hsz hdf hk hgot
      obtain ⟨v7, ev7, rv7⟩ := hgot 7 _ 16 rfl rfl
      obtain ⟨R1, e1, R2, e2, rfl, hr1, hr2⟩ : PQ W0.heap.size vs fs B3 ks.length d3 w5 v7 := rv7
      obtain ⟨f, hf, rfl⟩ := frame_eq hsz hdf hk [9, 10, 11, 12, 13, 14, 15, 16] (by rfl)
      have f16 := hf 16 _ ev7
      clear hsz hdf hk hgot hf ev7
      simp only [List.drop_succ_cons, List.drop_zero, setAll, List.setIfInBounds_toArray, List.set_cons_succ, List.set_cons_zero, f16]
      clear f16
      generalize f 9 = uu9; generalize f 10 = uu10; generalize f 11 = uu11; generalize f 12 = uu12; generalize f 13 = uu13; generalize f 14 = uu14; generalize f 15 = uu15
      have hB5 := bel_trans hB0 (bel_trans hbw hB)
      have hR5 := hR2.below hB
      have hK5 := own_lay hK hB
      clear x0 x1 xl hC2 hR2 hB hK
      have f0 := hR5.frozen 0
      have f1 := hR5.frozen 1
      have f2 := hR5.frozen 2
      have r0 : w5.cell? ⟨W.heap.size + 1, 0, none⟩ = some (.slice none 0 0) := hR5.cell 0
      have r1 : w5.cell? ⟨W.heap.size + 1, 1, none⟩ = some (.slice none 0 0) := hR5.cell 1
      have r2 : w5.cell? ⟨W.heap.size + 1, 2, none⟩ = some (.slice none 0 0) := hR5.cell 2
      have rl := hR5.lt
      have hE := ((hR5.set 0 (.slice R1 vs.length e1)).set 1 (.slice R2 fs.length e2)).set 2 (.slice B3 ks.length d3)
      have hbE := bel_set (bel_set (bel_set hB5 (p := ⟨W.heap.size + 1, 0, none⟩) (by simp) (.slice R1 vs.length e1)) (p := ⟨W.heap.size + 1, 1, none⟩) (by simp) (.slice R2 fs.length e2)) (p := ⟨W.heap.size + 1, 2, none⟩) (by simp) (.slice B3 ks.length d3)
      have hgE := ((set_grown w5 (W.heap.size + 1) 0 (.slice R1 vs.length e1)).trans (set_grown _ (W.heap.size + 1) 1 (.slice R2 fs.length e2))).trans (set_grown _ (W.heap.size + 1) 2 (.slice B3 ks.length d3))
      have o1 := own_kept hr1 hgE (fun k hk e => by have := (own_block hr1 k hk).1; simp only [Option.some.injEq] at e; omega)
      have o3 := own_kept hK5 hgE (fun k hk e => by have := (own_block hK5 k hk).1; simp only [Option.some.injEq] at e; omega)
      have o2 := hr2.kept hgE (fun k e => by simp only [Option.some.injEq] at e; exact .inl (by omega))
      clear hgE hr1 hr2 hK5 hB5 hR5
      go_wp2
      generalize ((w5.setCell ⟨W.heap.size + 1, 0, none⟩ (.slice R1 vs.length e1)).setCell ⟨W.heap.size + 1, 1, none⟩ (.slice R2 fs.length e2)).setCell ⟨W.heap.size + 1, 2, none⟩ (.slice B3 ks.length d3) = WE at *
      have y0 : WE.cell? ⟨W.heap.size + 1, 0, none⟩ = some (.slice R1 vs.length e1) := hE.cell 0
      have y1 : WE.cell? ⟨W.heap.size + 1, 1, none⟩ = some (.slice R2 fs.length e2) := hE.cell 1
      have y2 : WE.cell? ⟨W.heap.size + 1, 2, none⟩ = some (.slice B3 ks.length d3) := hE.cell 2
      refine bodyPost_ret (v := .agg #[.slice R1 vs.length e1, .slice R2 fs.length e2, .slice B3 ks.length d3]) (by simp [results, Try.results18, go_sem, y0, y1, y2]) rfl ?_
      exact ⟨R1, R2, B3, e1, e2, d3, rfl, hbE, own_base o1 (by omega), o2.base (by omega), own_base o3 (by omega)⟩
end Go.Proofs.Ytgmifpicilfcdab
namespace Go.Proofs.Ytgmifpicilfcdab
open Go.RowKit
set_option linter.unusedVariables false
set_option linter.unusedSimpArgs false
set_option linter.unusedSectionVars false
theorem sum_shift (f f' : Int → Int) (k : Int) : ∀ l : List Int, (∀ x ∈ l, f' x = f x + k) → (l.map f').sum = (l.map f).sum + k * l.length
  | [], _ => by simp
  | a :: r, h => by
    have h1 := sum_shift f f' k r (fun y hy => h y (List.mem_cons_of_mem _ hy))
    have h2 := h a (by simp)
    simp only [List.map_cons, List.sum_cons, List.length_cons, h1, h2]
    have e1 : k * ((r.length + 1 : Nat) : Int) = k * (r.length : Int) + k := by rw [Int.natCast_add, Int.mul_add]; simp
    rw [e1]; omega
section
variable {g : P3 → Int} (hg : Co g) {vs ws : List P3} {fs : List (List Int)} {ks : List P3} {t : TopoT} {sh : List Int} (hlen : ws.length = vs.length) (hT : TopoS (vs.length : Int) fs t) (hs : sharpP t.es ks = some sh) (hf : ∀ p ∈ vs, InP 65536 p) (hw : ∀ p ∈ ws, InP 65536 p) (few : vs.length + fs.length + tot fs ≤ 1000000) {k : Int} (hk : -65536 ≤ k ∧ k ≤ 65536) (hq : ∀ u : Int, 0 ≤ u → u < vs.length → g (vat ws u) = g (vat vs u) + k)
include hg hlen hT hs hf hw few hk hq
theorem mid_shift : ∀ x ∈ fs, g (midP ws x) = g (midP vs x) + k := fun x hx => by
  have hx1 : x.length ≤ 1000000 := by have := len_tot hx; omega
  have hx2 : 0 < x.length := by have := hT.walk.long x hx; omega
  rw [co_mid hg hf x hx1, co_mid hg hw x hx1]
  have b2 := sum_bd 65536 (x.map fun v => g (vat vs v)) (fun y hy => by obtain ⟨v, _, rfl⟩ := List.mem_map.1 hy; exact co_vat hg (by omega) hf v)
  rw [List.length_map] at b2
  rw [sum_shift (fun v => g (vat vs v)) (fun v => g (vat ws v)) k x (fun y hy => by have := hT.walk.corner_rng hx hy; exact hq y this.1 this.2)]
  have e1 : k * (x.length : Int) ≤ 65536 * (x.length : Int) := Int.mul_le_mul_of_nonneg_right hk.2 (by omega)
  have e2 : -65536 * (x.length : Int) ≤ k * (x.length : Int) := Int.mul_le_mul_of_nonneg_right hk.1 (by omega)
  exact rnd_shift (by omega) (by omega) (by omega) (by omega)
theorem mids_shift : ∀ f : Int, 0 ≤ f → f < fs.length → g (vat (midsL ws fs) f) = g (vat (midsL vs fs) f) + k := fun f h0 h1 => by
  have e : ∀ us : List P3, vat (midsL us fs) f = midP us (fs.getD f.toNat []) := fun us => by
    have hl : f.toNat < (midsL us fs).length := by rw [midsL_len]; omega
    unfold vat
    rw [List.getD_eq_getElem?_getD, List.getElem?_eq_getElem hl]
    simp [midsL]
  have h2 : f.toNat < fs.length := by omega
  rw [e, e, List.getD_eq_getElem?_getD, List.getElem?_eq_getElem h2]
  exact mid_shift hg hlen hT hs hf hw few hk hq _ (List.getElem_mem h2)
theorem half_shift (i : Nat) (hi : i < t.es.length) : g (halfP ws (midsL ws fs) (t.es.getD i ed0) (sh.getD i 0)) = g (halfP vs (midsL vs fs) (t.es.getD i ed0) (sh.getD i 0)) + k := by
  have hxl : ∀ x ∈ fs, x.length ≤ 1000000 ∧ 0 < x.length := fun x hx => by
    have := hT.walk.long x hx
    have := len_tot hx
    omega
  have hmI := mids_in hf fs hxl
  have hmW := mids_in hw fs hxl
  have hi3 : i < sh.length := by rw [sharpP_len hs]; exact hi
  have e1 : t.es.getD i ed0 = t.es[i] := by rw [List.getD_eq_getElem?_getD, List.getElem?_eq_getElem hi]; rfl
  have e2 : sh.getD i 0 = sh[i] := by rw [List.getD_eq_getElem?_getD, List.getElem?_eq_getElem hi3]; rfl
  rw [e1, e2, co_half hg hf hmI, co_half hg hw hmW]
  obtain ⟨r1, r2, _⟩ := edge_rng hT (List.getElem_mem hi)
  have a := hq _ r1.1 r1.2
  have b := hq _ r2.1 r2.2
  have a2 := co_vat hg (m := 65536) (by omega) hf t.es[i].a
  have b2 := co_vat hg (m := 65536) (by omega) hf t.es[i].b
  unfold halfG
  dsimp only
  split
  · rename_i h0
    obtain ⟨s1, s2⟩ := soft_rng hT hs i hi hi3 h0
    have c := mids_shift hg hlen hT hs hf hw few hk hq _ s1.1 s1.2
    have d := mids_shift hg hlen hT hs hf hw few hk hq _ s2.1 s2.2
    have c2 := co_vat hg (m := 65536) (by omega) hmI t.es[i].f
    have d2 := co_vat hg (m := 65536) (by omega) hmI t.es[i].g
    rw [a, b, c, d, ← rnd_shift (by omega) (by omega) (by omega) (by omega)]
    congr 1; omega
  · rw [a, b, ← rnd_shift (by omega) (by omega) (by omega) (by omega)]
    congr 1; omega
theorem place_shift (v : Nat) (hv : v < vs.length) : g (placeA ws (midsL ws fs) t.fans (t.es.zip sh) v) = g (placeA vs (midsL vs fs) t.fans (t.es.zip sh) v) + k := by
  have ok := hT.walk
  have hel : t.es.length ≤ tot fs := by have h1 := edges_le ok hT.edges; rw [waysL_len] at h1; exact h1
  have hxl : ∀ x ∈ fs, x.length ≤ 1000000 ∧ 0 < x.length := fun x hx => by
    have := hT.walk.long x hx
    have := len_tot hx
    omega
  have hmI := mids_in hf fs hxl
  have hmW := mids_in hw fs hxl
  have hsl := sharpP_len hs
  have hnf := hT.nf
  have hnr := hT.nr
  have v1 : v < t.fans.length := by omega
  have v2 : v < t.rs.length := by omega
  have eF : t.fans.getD v [] = t.fans[v] := by rw [List.getD_eq_getElem?_getD, List.getElem?_eq_getElem v1]; rfl
  obtain ⟨hfr, hfl⟩ := fan_rng hT (List.getElem_mem v1)
  have hLl : (t.es.zip sh).length ≤ 1000000 := by rw [List.length_zip]; omega
  have hEz := othE_zip (v : Int) t.es sh hsl
  have hE : ∀ u ∈ othE (v : Int) (t.es.zip sh), g (vat ws u) = g (vat vs u) + k := fun u hu => by
    rw [hEz, oth_mem ok hT.edges] at hu
    obtain ⟨w, hw, ⟨_, rfl⟩ | ⟨rfl, _⟩⟩ := hu
    · have := (ok.rng hw).2.1; exact hq _ this.1 this.2
    · have := (ok.rng hw).1; exact hq _ this.1 this.2
  have hS : ∀ u ∈ othS (v : Int) (t.es.zip sh), u ∈ othE (v : Int) (t.es.zip sh) := fun u hu => by
    obtain ⟨q, hq1, hq2⟩ := List.mem_filterMap.1 hu
    refine List.mem_filterMap.2 ⟨q, hq1, ?_⟩
    split at hq2
    · cases hq2
    · exact hq2
  have q0 := hq (v : Int) (by omega) (by omega)
  have qa := co_vat hg (m := 65536) (by omega) hf (v : Int)
  have fpos : 0 < t.fans[v].length := by
    obtain ⟨L, hF, hl, hfe⟩ := hT.fan v v1 v2
    obtain ⟨w, hw, hb⟩ := ok.all (v : Int) (by omega) (by omega)
    obtain ⟨d, hd⟩ := ok.next hw
    have := List.length_pos_of_mem (fan_all ok hF hl _ hd hb)
    rw [hfe, List.length_map]; exact this
  unfold placeA
  rw [eF, co_place hg hf hmI t.fans[v] (t.es.zip sh) (v : Int) (by omega) fpos hLl, co_place hg hw hmW t.fans[v] (t.es.zip sh) (v : Int) (by omega) fpos hLl]
  unfold placeG
  dsimp only
  have bS := sum_shift (fun u => g (vat vs u)) (fun u => g (vat ws u)) k (othS (v : Int) (t.es.zip sh)) (fun u hu => hE u (hS u hu))
  have bE := sum_shift (fun u => g (vat vs u)) (fun u => g (vat ws u)) k (othE (v : Int) (t.es.zip sh)) hE
  have bM := sum_shift (fun f => g (vat (midsL vs fs) f)) (fun f => g (vat (midsL ws fs) f)) k t.fans[v] (fun f hf1 => mids_shift hg hlen hT hs hf hw few hk hq f (hfr f hf1).1 (hfr f hf1).2)
  have dS := sum_bd 65536 ((othS (v : Int) (t.es.zip sh)).map fun u => g (vat vs u)) (fun y hy => by obtain ⟨u, hu, rfl⟩ := List.mem_map.1 hy; exact co_vat hg (by omega) hf u)
  rw [List.length_map] at dS
  rw [q0, bS, bE, bM]
  generalize ((othS (v : Int) (t.es.zip sh)).map fun u => g (vat vs u)).sum = sS at *
  generalize ((othE (v : Int) (t.es.zip sh)).map fun u => g (vat vs u)).sum = sE at *
  generalize (t.fans[v].map fun f => g (vat (midsL vs fs) f)).sum = sM at *
  split
  · rfl
  · rename_i hc1
    split
    · rename_i hc2
      rw [hc2] at dS ⊢
      rw [← rnd_shift (by omega) (by omega) (by omega) (by omega)]
      congr 1; omega
    · rename_i hc2
      have hround : t.rs[v] = true := by
        cases hr : t.rs[v] with
        | true => rfl
        | false => have := cnt_two hT hs v v1 v2 hr; omega
      obtain ⟨d1, d2⟩ := deg hT v v1 v2 hround
      rw [← hEz] at d1
      rw [d1]
      generalize t.fans[v].length = n at *
      generalize g (vat vs (v : Int)) = q at *
      have e1 : 2 * (n : Int) * (q + k) = 2 * (n : Int) * q + 2 * (k * (n : Int)) := by rw [Int.mul_add, Int.mul_assoc 2 (n : Int) k, Int.mul_comm (n : Int) k]
      rw [e1, show sM + k * (n : Int) + (sE + k * (n : Int)) - (2 * (n : Int) * q + 2 * (k * (n : Int))) = sM + sE - 2 * (n : Int) * q by omega]
      omega
theorem lev_shift : (levC ⟨ws, fs, ks⟩ t sh).vs.map g = (levC ⟨vs, fs, ks⟩ t sh).vs.map (fun p => g p + k) := by
  simp only [levC, List.map_append]
  have h1 : (movedL ws (midsL ws fs) t.fans (t.es.zip sh)).map g = (movedL vs (midsL vs fs) t.fans (t.es.zip sh)).map (fun p => g p + k) := by
    unfold movedL
    rw [List.map_map, List.map_map, hlen]
    exact List.map_congr_left fun v hv => place_shift hg hlen hT hs hf hw few hk hq v (by simpa using hv)
  have h2 : (halvesL ws (midsL ws fs) t.es sh).map g = (halvesL vs (midsL vs fs) t.es sh).map (fun p => g p + k) := by
    unfold halvesL
    rw [List.map_map, List.map_map]
    exact List.map_congr_left fun i hi => half_shift hg hlen hT hs hf hw few hk hq i (by simpa using hi)
  have h3 : (midsL ws fs).map g = (midsL vs fs).map (fun p => g p + k) := by
    unfold midsL
    rw [List.map_map, List.map_map]
    refine List.map_congr_left fun f hf2 => ?_
    have h2 : f < fs.length := by simpa using hf2
    have e2 : fs.getD f [] = fs[f] := by rw [List.getD_eq_getElem?_getD, List.getElem?_eq_getElem h2]; rfl
    simp only [Function.comp_apply, e2]
    exact mid_shift hg hlen hT hs hf hw few hk hq _ (List.getElem_mem h2)
  rw [h1, h2, h3]
end
end Go.Proofs.Ytgmifpicilfcdab
namespace Go.Proofs.Ytgmifpicilfcdab
open Go.RowKit
set_option linter.unusedVariables false
set_option linter.unusedSimpArgs false
theorem topo_one9 {n : Int} {fs : List (List Int)} {t u : TopoT} (h : TopoS n fs t) (k : TopoS n fs u) : u = t := by
  have e1 := h.edges.one k.edges
  have hl : t.fans.length = u.fans.length := by have := h.nf; have := k.nf; omega
  have hl2 : t.rs.length = u.rs.length := by have := h.nr; have := k.nr; omega
  have hl3 : t.rs.length = t.fans.length := by have := h.nr; have := h.nf; omega
  have hv : ∀ v (h1 : v < t.fans.length) (h2 : v < t.rs.length) (h3 : v < u.fans.length) (h4 : v < u.rs.length), t.fans[v] = u.fans[v] ∧ t.rs[v] = u.rs[v] := fun v h1 h2 h3 h4 => by
    obtain ⟨L, p1, p2, p3⟩ := h.fan v h1 h2
    obtain ⟨M, q1, q2, q3⟩ := k.fan v h3 h4
    obtain ⟨r1, r2⟩ := p1.unique h.walk.apart q1
    exact ⟨by rw [p3, q3, r1], r2⟩
  cases t; cases u
  simp only at e1 hl hl2 hl3 hv
  simp only [TopoT.mk.injEq]
  refine ⟨e1.symm, ?_, ?_⟩
  · exact (List.ext_getElem hl fun v h1 h2 => (hv v h1 (by omega) h2 (by omega)).1).symm
  · exact (List.ext_getElem hl2 fun v h1 h2 => (hv v (by omega) h1 (by omega) h2).2).symm
/-- Both Builds tell the same. -/
theorem lev_two {vs ws : List P3} {fs : List (List Int)} {ks : List P3} (hlen : ws.length = vs.length) (hf : ∀ p ∈ vs, InP 65536 p) (hw : ∀ p ∈ ws, InP 65536 p) {r r2 : Cg} {er er2 : Int} (h : LevR ⟨vs, fs, ks⟩ r er) (h2 : LevR ⟨ws, fs, ks⟩ r2 er2) :
    (er = 14 ∧ er2 = 14 ∧ r.vs.length = 0 ∧ r2.vs.length = 0) ∨ ∃ t sh, TopoS (vs.length : Int) fs t ∧ sharpP t.es ks = some sh ∧ er = 0 ∧ er2 = 0 ∧ r = levC ⟨vs, fs, ks⟩ t sh ∧ r2 = levC ⟨ws, fs, ks⟩ t sh := by
  cases h with
  | noSurf hn =>
    left
    cases h2 with
    | noSurf hn2 => exact ⟨rfl, rfl, rfl, rfl⟩
    | noEdge t hT he => exact ⟨rfl, rfl, rfl, rfl⟩
    | large t hT sh he hf2 => exact absurd hw hf2
    | fine t hT sh he hf2 => simp only at hT hn; rw [hlen] at hT; exact absurd hT.surf hn
  | noEdge t hT he =>
    left
    cases h2 with
    | noSurf hn2 => exact ⟨rfl, rfl, rfl, rfl⟩
    | noEdge t2 hT2 he2 => exact ⟨rfl, rfl, rfl, rfl⟩
    | large t2 hT2 sh2 he2 hf2 => exact absurd hw hf2
    | fine t2 hT2 sh2 he2 hf2 =>
      simp only at hT hT2 he he2
      rw [hlen] at hT2
      rw [hT2.edges.one hT.edges, he] at he2; cases he2
  | large t hT sh he hf2 => exact absurd hf hf2
  | fine t hT sh he hf2 =>
    simp only at hT he
    cases h2 with
    | noSurf hn2 => simp only at hn2; rw [hlen] at hn2; exact absurd hT.surf hn2
    | noEdge t2 hT2 he2 =>
      simp only at hT2 he2
      rw [hlen] at hT2
      rw [hT2.edges.one hT.edges, he] at he2; cases he2
    | large t2 hT2 sh2 he2 hf3 => exact absurd hw hf3
    | fine t2 hT2 sh2 he2 hf3 =>
      simp only at hT2 he2
      rw [hlen] at hT2
      obtain rfl := topo_one9 hT hT2
      rw [he] at he2
      obtain rfl : sh = sh2 := by simpa using he2
      exact .inr ⟨_, _, hT, he, rfl, rfl, rfl, rfl⟩
/-- Moved; flat. -/
def movP (b : P3) (p : P3) : P3 := ⟨p.x + b.x, p.y + b.y, p.z + b.z⟩
def flaP (b : P3) (p : P3) : P3 := ⟨p.x, b.y, p.z⟩
theorem vat_map (F : P3 → P3) (vs : List P3) (u : Int) (h0 : 0 ≤ u) (h1 : u < vs.length) : vat (vs.map F) u = F (vat vs u) := by
  have h : u.toNat < vs.length := by omega
  unfold vat
  rw [List.getD_eq_getElem?_getD, List.getElem?_eq_getElem (by simpa using h), List.getD_eq_getElem?_getD, List.getElem?_eq_getElem h]
  simp
theorem flat_eq {vs : List P3} {fs : List (List Int)} {ks : List P3} {b : P3} (few : vs.length + fs.length + tot fs ≤ 1000000) (hv : ∀ p ∈ vs, InP 32768 p) (hb : InP 16384 b) {r r2 r3 : Cg} {er er2 er3 : Int} (h : LevR ⟨vs, fs, ks⟩ r er) (h2 : LevR ⟨vs.map (movP b), fs, ks⟩ r2 er2) (h3 : LevR ⟨vs.map (flaP b), fs, ks⟩ r3 er3) :
    er2 = er ∧ er3 = er ∧ r2.vs.length = r.vs.length ∧ r3.vs.length = r.vs.length ∧ r.vs.length ≤ 2000000 ∧ ∀ i (g1 : i < r.vs.length) (g2 : i < r2.vs.length) (g3 : i < r3.vs.length), InP 32768 r.vs[i] ∧ r2.vs[i] = movP b r.vs[i] ∧ r3.vs[i].y = b.y := by
  obtain ⟨bx, byy, bz⟩ := hb
  have hf : ∀ p ∈ vs, InP 65536 p := fun p hp => by obtain ⟨x, y, z⟩ := hv p hp; exact ⟨by omega, by omega, by omega⟩
  have hm : ∀ p ∈ vs.map (movP b), InP 65536 p := fun p hp => by
    obtain ⟨q, hq, rfl⟩ := List.mem_map.1 hp
    obtain ⟨x, y, z⟩ := hv q hq
    exact ⟨by simp only [movP]; omega, by simp only [movP]; omega, by simp only [movP]; omega⟩
  have hl : ∀ p ∈ vs.map (flaP b), InP 65536 p := fun p hp => by
    obtain ⟨q, hq, rfl⟩ := List.mem_map.1 hp
    obtain ⟨x, y, z⟩ := hv q hq
    exact ⟨by simp only [flaP]; omega, by simp only [flaP]; omega, by simp only [flaP]; omega⟩
  have n2 : (vs.map (movP b)).length = vs.length := List.length_map ..
  have n3 : (vs.map (flaP b)).length = vs.length := List.length_map ..
  have a := lev_two n2 hf hm h h2
  have c := lev_two n3 hf hl h h3
  rcases a with ⟨a1, a2, a3, a4⟩ | ⟨t, sh, hT, hs, a1, a2, a3, a4⟩
  · rcases c with ⟨c1, c2, c3, c4⟩ | ⟨t, sh, hT, hs, c1, c2, c3, c4⟩
    · exact ⟨by omega, by omega, by omega, by omega, by omega, fun i g1 => by omega⟩
    · omega
  · rcases c with ⟨c1, c2, c3, c4⟩ | ⟨t', sh', hT', hs', c1, c2, c3, c4⟩
    · omega
    · obtain rfl := topo_one9 hT hT'
      rw [hs] at hs'
      obtain rfl : sh = sh' := by simpa using hs'
      subst a3
      subst a4
      subst c4
      have hel : t'.es.length ≤ tot fs := by have h1 := edges_le hT.walk hT.edges; rw [waysL_len] at h1; exact h1
      have ll : ∀ us : List P3, us.length = vs.length → (levC ⟨us, fs, ks⟩ t' sh).vs.length = vs.length + t'.es.length + fs.length := fun us hu => by
        simp only [levC, List.length_append, movedL_len, halvesL_len, midsL_len, hu]
      have sx := lev_shift co_x n2 hT hs hf hm few (k := b.x) (by omega) (fun u u0 u1 => by rw [vat_map _ _ _ u0 u1]; rfl)
      have sy := lev_shift co_y n2 hT hs hf hm few (k := b.y) (by omega) (fun u u0 u1 => by rw [vat_map _ _ _ u0 u1]; rfl)
      have sz := lev_shift co_z n2 hT hs hf hm few (k := b.z) (by omega) (fun u u0 u1 => by rw [vat_map _ _ _ u0 u1]; rfl)
      have fy := lev_box co_y (c := ⟨vs.map (flaP b), fs, ks⟩) (t := t') (sh := sh) (by simp only; rw [n3]; exact hT) hs hl (by simp only; rw [n3]; exact few) (lo := b.y) (hi := b.y) (fun p hp => by obtain ⟨q, hq, rfl⟩ := List.mem_map.1 hp; simp only [flaP]; omega)
      have gx := lev_box co_x (c := ⟨vs, fs, ks⟩) (t := t') (sh := sh) hT hs hf few (lo := -32768) (hi := 32768) (fun p hp => (hv p hp).1)
      have gy := lev_box co_y (c := ⟨vs, fs, ks⟩) (t := t') (sh := sh) hT hs hf few (lo := -32768) (hi := 32768) (fun p hp => (hv p hp).2.1)
      have gz := lev_box co_z (c := ⟨vs, fs, ks⟩) (t := t') (sh := sh) hT hs hf few (lo := -32768) (hi := 32768) (fun p hp => (hv p hp).2.2)
      refine ⟨by omega, by omega, by rw [ll _ n2, ll _ rfl], by rw [ll _ n3, ll _ rfl], by rw [ll _ rfl]; omega, fun i g1 g2 g3 => ?_⟩
      have at_ : ∀ (g : P3 → Int) (k : Int), (levC ⟨vs.map (movP b), fs, ks⟩ t' sh).vs.map g = (levC ⟨vs, fs, ks⟩ t' sh).vs.map (fun p => g p + k) → g (levC ⟨vs.map (movP b), fs, ks⟩ t' sh).vs[i] = g (levC ⟨vs, fs, ks⟩ t' sh).vs[i] + k := fun g k e => by
        have e2 := congrArg (fun l => l[i]?) e
        simp only [List.getElem?_map, List.getElem?_eq_getElem g1, List.getElem?_eq_getElem g2, Option.map_some, Option.some.injEq] at e2
        exact e2
      have x := at_ _ _ sx
      have y := at_ _ _ sy
      have z := at_ _ _ sz
      have m := List.getElem_mem g1
      refine ⟨⟨gx _ m, gy _ m, gz _ m⟩, ?_, ?_⟩
      · generalize (levC ⟨vs.map (movP b), fs, ks⟩ t' sh).vs[i] = p at *
        obtain ⟨px, py, pz⟩ := p
        simp only at x y z
        rw [x, y, z]; rfl
      · have := fy _ (List.getElem_mem g3); omega
end Go.Proofs.Ytgmifpicilfcdab
