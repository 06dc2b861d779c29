/- A finer cage's vertices stay in the coarse one's box. A finer cage's vertices stay in the coarse one's box: all of them. The box of a cage's vertices, called; what it holds. A cage, copied. A cage that is moved comes to the same, moved; one in a plane stays there. Three cages with the same faces, one moved, one flat: what Level answers. -/
import Derived.Test.YtpdnaceggpdleabC2
import Derived.Test.YtpdnaceggpdleabC4
import Derived.Test.YtpdnaceggpdleabC7
import Derived.Test.YtpdnaceggpdleabC10
import Derived.Test.YtpdnaceggpdleabC11
import Derived.Test.YtpdnaceggpdleabC13
namespace Go.Proofs.Ytpdnaceggpdleab
open Go.RowKit
set_option linter.unusedVariables false
set_option linter.unusedSimpArgs false
/-- The new vertex of an edge, one coordinate: what it is reckoned from. -/
def halfG (q M : Int → Int) (e : Ed) (s : Int) : Int := if s = 0 then rnd (q e.a + q e.b + M e.f + M e.g) 4 else rnd (q e.a + q e.b) 2
theorem co_half {g : P3 → Int} (hg : Co g) {vs ms : List P3} (h : ∀ p ∈ vs, InP 65536 p) (hm : ∀ p ∈ ms, InP 65536 p) (e : Ed) (s : Int) : g (halfP vs ms e s) = halfG (fun u => g (vat vs u)) (fun f => g (vat ms f)) e s := by
  have a := co_vat hg (m := 65536) (by omega) h e.a
  have b := co_vat hg (m := 65536) (by omega) h e.b
  have c := co_vat hg (m := 65536) (by omega) hm e.f
  have d := co_vat hg (m := 65536) (by omega) hm e.g
  unfold halfP
  rw [hg.tri]
  unfold halfS halfG co sumS
  split
  · rw [fold_exact 65536 (by omega) _ _ ?_ ?_]
    · simp only [List.sum_cons, List.sum_nil]; congr 1; omega
    · intro y hy
      simp only [List.mem_cons, List.not_mem_nil, or_false] at hy
      rcases hy with rfl | rfl | rfl | rfl <;> omega
    · simp only [List.length_cons, List.length_nil]; omega
  · rw [fold_exact 65536 (by omega) _ _ ?_ ?_]
    · simp only [List.sum_cons, List.sum_nil]; congr 1; omega
    · intro y hy
      simp only [List.mem_cons, List.not_mem_nil, or_false] at hy
      rcases hy with rfl | rfl <;> omega
    · simp only [List.length_cons, List.length_nil]; omega
theorem sum_box (lo hi : Int) : ∀ l : List Int, (∀ y ∈ l, lo ≤ y ∧ y ≤ hi) → lo * l.length ≤ l.sum ∧ l.sum ≤ hi * l.length
  | [], _ => by simp
  | a :: r, h => by
    have h1 := sum_box lo hi r (fun y hy => h y (List.mem_cons_of_mem _ hy))
    have h2 := h a (by simp)
    simp only [List.sum_cons, List.length_cons]
    have e1 : lo * ((r.length + 1 : Nat) : Int) = lo * (r.length : Int) + lo := by rw [Int.natCast_add, Int.mul_add]; simp
    have e2 : hi * ((r.length + 1 : Nat) : Int) = hi * (r.length : Int) + hi := by rw [Int.natCast_add, Int.mul_add]; simp
    rw [e1, e2]; omega
theorem othE_zip (v : Int) (es : List Ed) (sh : List Int) (hl : sh.length = es.length) : othE v (es.zip sh) = es.filterMap (other v) := by
  have e : es = (es.zip sh).map Prod.fst := (List.map_fst_zip (by omega)).symm
  conv => rhs; rw [e, List.filterMap_map]
  rfl
theorem oth_mem {n : Int} {fs : List (List Int)} {es : List Ed} (ok : WalkOk n fs) (hE : EdgesR (waysL 0 fs) es) (v u : Int) : u ∈ es.filterMap (other v) ↔ ∃ w ∈ waysL 0 fs, (w.a = v ∧ w.b = u) ∨ (w.a = u ∧ w.b = v) := by
  rw [List.mem_filterMap]
  constructor
  · rintro ⟨e, he, ho⟩
    obtain ⟨w, hw, rfl⟩ := (hE.mem e).1 he
    refine ⟨w, hw, ?_⟩
    unfold other edOf at ho
    simp only at ho
    split at ho
    · simp only [Option.some.injEq] at ho; omega
    · split at ho
      · simp only [Option.some.injEq] at ho; omega
      · cases ho
  · rintro ⟨w, hw, h⟩
    have hne := ok.ne hw
    refine ⟨_, (hE.mem _).2 ⟨w, hw, rfl⟩, ?_⟩
    unfold other edOf
    simp only
    split
    · simp only [Option.some.injEq]; omega
    · split
      · simp only [Option.some.injEq]; omega
      · omega
theorem oth_nodup {n : Int} {fs : List (List Int)} {es : List Ed} (ok : WalkOk n fs) (hE : EdgesR (waysL 0 fs) es) (v : Int) : (es.filterMap (other v)).Nodup := by
  rw [List.nodup_iff_pairwise_ne, List.pairwise_filterMap]
  have hlt : ∀ e ∈ es, e.a < e.b := fun e he => by
    obtain ⟨w, hw, rfl⟩ := (hE.mem e).1 he
    have := ok.ne hw
    simp only [edOf]; omega
  refine List.Pairwise.imp_of_mem (fun {x y} hx hy hxy => ?_) hE.sorted
  have h1 := hlt x hx
  have h2 := hlt y hy
  intro b hb b' hb' e
  subst e
  unfold ltE at hxy
  unfold other at hb hb'
  split at hb
  · split at hb'
    · simp only [Option.some.injEq] at hb hb'; omega
    · split at hb'
      · simp only [Option.some.injEq] at hb hb'; omega
      · cases hb'
  · split at hb
    · split at hb'
      · simp only [Option.some.injEq] at hb hb'; omega
      · split at hb'
        · simp only [Option.some.injEq] at hb hb'; omega
        · cases hb'
    · cases hb
/-- As many edges come to a round vertex as faces are about it: at least two. -/
theorem deg {n : Int} {fs : List (List Int)} {t : TopoT} (h : TopoS n fs t) (v : Nat) (hv : v < t.fans.length) (hr : v < t.rs.length) (hround : t.rs[v] = true) : (t.es.filterMap (other (v : Int))).length = t.fans[v].length ∧ 2 ≤ t.fans[v].length := by
  have ok := h.walk
  obtain ⟨L, hF, hl, hf⟩ := h.fan v hv hr
  have hall := fan_all ok hF hl
  rw [hround] at hF
  obtain ⟨hne, hes⟩ := hF.back rfl
  generalize (hubOf (waysL 0 fs) (v : Int) (waysL 0 fs)).1 = start at *
  have hpos : 0 < L.length := List.length_pos_iff.2 hne
  have hends := ends_at start hpos
  have hbn : (L.map Way.b).Nodup := by
    rw [List.nodup_iff_pairwise_ne, List.pairwise_map]
    refine List.Pairwise.imp_of_mem (fun {x y} hx hy hxy e => hxy ?_) (List.nodup_iff_pairwise_ne.1 (hF.toFanC.nodup ok))
    have m1 := hF.mem x hx
    have m2 := hF.mem y hy
    exact ok.apart.key m1.1 m2.1 (m1.2.trans m2.2.symm) e
  have hmem : ∀ u, u ∈ t.es.filterMap (other (v : Int)) ↔ u ∈ L.map Way.b := fun u => by
    rw [oth_mem ok h.edges, List.mem_map]
    constructor
    · rintro ⟨w, hw, ⟨ha, hb⟩ | ⟨ha, hb⟩⟩
      · exact ⟨w, hall w hw ha, hb⟩
      · obtain ⟨w2, hw2, ha2, hc2⟩ := (ok.comes u (v : Int)).1 ⟨w, hw, ha, hb⟩
        obtain ⟨i, hi, rfl⟩ := List.getElem_of_mem (hall w2 hw2 ha2)
        by_cases e2 : i + 1 < L.length
        · exact ⟨_, List.getElem_mem e2, (hF.link i e2).trans hc2⟩
        · have : i = L.length - 1 := by omega
          subst this
          exact ⟨_, List.getElem_mem hpos, by rw [hF.first hpos, ← hes, hends, hc2]⟩
    · rintro ⟨w, hw, rfl⟩
      have := hF.mem w hw
      exact ⟨w, this.1, .inl ⟨this.2, rfl⟩⟩
  have a1 := nodup_le _ _ (oth_nodup ok h.edges (v : Int)) (fun u hu => (hmem u).1 hu)
  have a2 := nodup_le _ _ hbn (fun u hu => (hmem u).2 hu)
  have a3 : (L.map Way.b).length = L.length := List.length_map ..
  rw [hf, List.length_map]
  refine ⟨by omega, ?_⟩
  apply Classical.byContradiction
  intro hc
  have e1 : L.length = 1 := by omega
  have h0 := hF.first hpos
  have hm := hF.mem _ (List.getElem_mem hpos)
  apply ok.bc hm.1
  rw [h0, ← hes, hends]
  congr 2; omega
theorem bord_le (v : Int) : ∀ (es : List Ed) (sh : List Int), sh.length = es.length → (∀ i (h1 : i < es.length) (h2 : i < sh.length), bordB v es[i] = true → sh[i] ≠ 0) → (es.filter (bordB v)).length ≤ (othS v (es.zip sh)).length
  | [], _, _, _ => by simp
  | e :: r, [], hl, _ => by simp at hl
  | e :: r, s :: q, hl, h => by
    have ih := bord_le v r q (by simpa using hl) (fun i h1 h2 hb => by
      have := h (i + 1) (by simp; omega) (by simp; omega) (by simpa using hb)
      simpa using this)
    have h0 := h 0 (by simp) (by simp)
    simp only [List.getElem_cons_zero] at h0
    unfold othS at *
    rw [List.zip_cons_cons, List.filterMap_cons, List.filter_cons]
    by_cases hb : bordB v e = true
    · rw [if_pos hb]
      have hs := h0 hb
      have ho : ∃ u, other v e = some u := by
        unfold bordB at hb
        rw [Bool.and_eq_true] at hb
        have := hb.1
        simp only [Bool.or_eq_true, beq_iff_eq] at this
        unfold other
        split
        · exact ⟨_, rfl⟩
        · rw [if_pos (by omega)]; exact ⟨_, rfl⟩
      obtain ⟨u, hu⟩ := ho
      simp only [hs, if_false, hu, List.length_cons]
      omega
    · rw [if_neg hb]
      split
      · exact ih
      · simp only [List.length_cons]; omega
theorem cnt_two {n : Int} {fs : List (List Int)} {t : TopoT} (h : TopoS n fs t) {ks : List P3} {sh : List Int} (hs : sharpP t.es ks = some sh) (v : Nat) (hv : v < t.fans.length) (hr : v < t.rs.length) (hn : t.rs[v] = false) : 2 ≤ (othS (v : Int) (t.es.zip sh)).length := by
  have h1 := fewer h v hv hr
  rw [hn, if_neg (by simp)] at h1
  have h2 := bord_le (v : Int) t.es sh (sharpP_len hs) (fun i i1 i2 hb => by
    have hge := sharpK_ge hs i (by simpa using i1) i2
    rw [List.getElem_map] at hge
    unfold bordB at hb
    rw [Bool.and_eq_true] at hb
    unfold base0 at hge
    rw [if_pos hb.2] at hge
    omega)
  omega
end Go.Proofs.Ytpdnaceggpdleab
namespace Go.Proofs.Ytpdnaceggpdleab
open Go.RowKit
set_option linter.unusedVariables false
set_option linter.unusedSimpArgs false
theorem vat_at (vs : List P3) (u : Int) (h0 : 0 ≤ u) (h1 : u < vs.length) : vat vs u ∈ vs := by
  have h : u.toNat < vs.length := by omega
  unfold vat
  rw [List.getD_eq_getElem?_getD, List.getElem?_eq_getElem h]
  exact List.getElem_mem h
theorem lev_box {g : P3 → Int} (hg : Co g) {c : Cg} {t : TopoT} {sh : List Int} (hT : TopoS (c.vs.length : Int) c.fs t) (hs : sharpP t.es c.ks = some sh) (hf : ∀ p ∈ c.vs, InP 65536 p) (few : c.vs.length + c.fs.length + tot c.fs ≤ 1000000) {lo hi : Int} (hb : ∀ p ∈ c.vs, lo ≤ g p ∧ g p ≤ hi) : ∀ p ∈ (levC c t sh).vs, lo ≤ g p ∧ g p ≤ hi := by
  obtain ⟨vs, fs, ks⟩ := c
  simp only [levC] at *
  have ok := hT.walk
  have hq : ∀ u : Int, 0 ≤ u → u < vs.length → lo ≤ g (vat vs u) ∧ g (vat vs u) ≤ hi := fun u h0 h1 => hb _ (vat_at vs u h0 h1)
  have hel : t.es.length ≤ tot fs := by have h1 := edges_le ok hT.edges; rw [waysL_len] at h1; exact h1
  have hxl : ∀ x ∈ fs, x.length ≤ 1000000 ∧ 0 < x.length := fun x hx => by
    have := ok.long x hx
    have := len_tot hx
    omega
  have hmI := mids_in hf fs hxl
  have hmid : ∀ x ∈ fs, lo ≤ g (midP vs x) ∧ g (midP vs x) ≤ hi := fun x hx => by
    have hx2 := hxl x hx
    rw [co_mid hg hf x hx2.1]
    have b1 := sum_box lo hi (x.map fun v => g (vat vs v)) (fun y hy => by
      obtain ⟨v, hv, rfl⟩ := List.mem_map.1 hy
      have := ok.corner_rng hx hv
      exact hq v this.1 this.2)
    have b2 := sum_bd 65536 (x.map fun v => g (vat vs v)) (fun y hy => by obtain ⟨v, _, rfl⟩ := List.mem_map.1 hy; exact co_vat hg (by omega) hf v)
    rw [List.length_map] at b1 b2
    exact rnd_box (by omega) (by omega) b1.1 b1.2 (by omega)
  have hM : ∀ f : Int, 0 ≤ f → f < fs.length → lo ≤ g (vat (midsL vs fs) f) ∧ g (vat (midsL vs fs) f) ≤ hi := fun f h0 h1 => by
    have h2 := vat_at (midsL vs fs) f h0 (by rw [midsL_len]; exact h1)
    obtain ⟨i, hi, e⟩ := List.mem_map.1 h2
    have hi2 : i < fs.length := by simpa using hi
    have e2 : fs.getD i [] = fs[i] := by rw [List.getD_eq_getElem?_getD, List.getElem?_eq_getElem hi2]; rfl
    rw [← e, e2]
    exact hmid _ (List.getElem_mem hi2)
  have hsl := sharpP_len hs
  intro p hp
  rcases List.mem_append.1 hp with hp | hp
  · rcases List.mem_append.1 hp with hp | hp
    · -- a vertex, moved
      obtain ⟨v, hv, rfl⟩ := List.mem_map.1 hp
      have hv2 : v < vs.length := by simpa using hv
      have hnf := hT.nf
      have hnr := hT.nr
      have v1 : v < t.fans.length := by omega
      have v2 : v < t.rs.length := by omega
      have eF : t.fans.getD v [] = t.fans[v] := by rw [List.getD_eq_getElem?_getD, List.getElem?_eq_getElem v1]; rfl
      obtain ⟨hfr, hfl⟩ := fan_rng hT (List.getElem_mem v1)
      have hLl : (t.es.zip sh).length ≤ 1000000 := by rw [List.length_zip]; omega
      have hEz := othE_zip (v : Int) t.es sh hsl
      have hE : ∀ u ∈ othE (v : Int) (t.es.zip sh), lo ≤ g (vat vs u) ∧ g (vat vs u) ≤ hi := fun u hu => by
        rw [hEz, oth_mem ok hT.edges] at hu
        obtain ⟨w, hw, ⟨_, rfl⟩ | ⟨rfl, _⟩⟩ := hu
        · have := (ok.rng hw).2.1; exact hq _ this.1 this.2
        · have := (ok.rng hw).1; exact hq _ this.1 this.2
      have hS : ∀ u ∈ othS (v : Int) (t.es.zip sh), u ∈ othE (v : Int) (t.es.zip sh) := fun u hu => by
        obtain ⟨q, hq1, hq2⟩ := List.mem_filterMap.1 hu
        refine List.mem_filterMap.2 ⟨q, hq1, ?_⟩
        split at hq2
        · cases hq2
        · exact hq2
      have q0 := hq (v : Int) (by omega) (by omega)
      have qa := co_vat hg (m := 65536) (by omega) hf (v : Int)
      have fpos : 0 < t.fans[v].length := by
        obtain ⟨L, hF, hl, hfe⟩ := hT.fan v v1 v2
        obtain ⟨w, hw, hb⟩ := ok.all (v : Int) (by omega) (by omega)
        obtain ⟨d, hd⟩ := ok.next hw
        have := List.length_pos_of_mem (fan_all ok hF hl _ hd hb)
        rw [hfe, List.length_map]; exact this
      unfold placeA
      rw [eF, co_place hg hf hmI t.fans[v] (t.es.zip sh) (v : Int) (by omega) fpos hLl]
      unfold placeG
      dsimp only
      have bS := sum_box lo hi ((othS (v : Int) (t.es.zip sh)).map fun u => g (vat vs u)) (fun y hy => by obtain ⟨u, hu, rfl⟩ := List.mem_map.1 hy; exact hE u (hS u hu))
      have bE := sum_box lo hi ((othE (v : Int) (t.es.zip sh)).map fun u => g (vat vs u)) (fun y hy => by obtain ⟨u, hu, rfl⟩ := List.mem_map.1 hy; exact hE u hu)
      have bM := sum_box lo hi (t.fans[v].map fun f => g (vat (midsL vs fs) f)) (fun y hy => by obtain ⟨f, hf1, rfl⟩ := List.mem_map.1 hy; exact hM f (hfr f hf1).1 (hfr f hf1).2)
      have dS := sum_bd 65536 ((othS (v : Int) (t.es.zip sh)).map fun u => g (vat vs u)) (fun y hy => by obtain ⟨u, hu, rfl⟩ := List.mem_map.1 hy; exact co_vat hg (by omega) hf u)
      have dE := sum_bd 65536 ((othE (v : Int) (t.es.zip sh)).map fun u => g (vat vs u)) (fun y hy => by obtain ⟨u, hu, rfl⟩ := List.mem_map.1 hy; exact co_vat hg (by omega) hf u)
      have dM := sum_bd 65536 (t.fans[v].map fun f => g (vat (midsL vs fs) f)) (fun y hy => by obtain ⟨f, hf1, rfl⟩ := List.mem_map.1 hy; exact co_vat hg (by omega) hmI f)
      rw [List.length_map] at bS bE bM dS dE dM
      generalize ((othS (v : Int) (t.es.zip sh)).map fun u => g (vat vs u)).sum = sS at *
      generalize ((othE (v : Int) (t.es.zip sh)).map fun u => g (vat vs u)).sum = sE at *
      generalize (t.fans[v].map fun f => g (vat (midsL vs fs) f)).sum = sM at *
      split
      · exact q0
      · rename_i hc1
        split
        · rename_i hc2
          rw [hc2] at bS dS
          exact rnd_box (by omega) (by omega) (by omega) (by omega) (by omega)
        · rename_i hc2
          have hround : t.rs[v] = true := by
            cases hr : t.rs[v] with
            | true => rfl
            | false => have := cnt_two hT hs v v1 v2 hr; omega
          obtain ⟨d1, d2⟩ := deg hT v v1 v2 hround
          rw [← hEz] at d1
          rw [d1] at bE dE
          generalize hn : t.fans[v].length = n at *
          generalize g (vat vs (v : Int)) = q at *
          have hnn : 0 ≤ (n : Int) := by omega
          have hK0 : 0 ≤ (n : Int) * ((n : Int) - 2) := Int.mul_nonneg hnn (by omega)
          have hN : (n : Int) * (n : Int) = (n : Int) * ((n : Int) - 2) + 2 * (n : Int) := by rw [Int.mul_sub]; omega
          have hKle : (n : Int) * ((n : Int) - 2) ≤ 1000000000000 := by
            have h1 := Int.mul_le_mul_of_nonneg_left (show (n : Int) - 2 ≤ 1000000 by omega) hnn
            omega
          have hN1 : 0 < (n : Int) * (n : Int) := by omega
          have eq2 : 2 * (n : Int) * q = 2 * ((n : Int) * q) := Int.mul_assoc ..
          rw [eq2, hN]
          generalize (n : Int) * ((n : Int) - 2) = K at *
          have k1 : lo * K ≤ q * K := Int.mul_le_mul_of_nonneg_right q0.1 hK0
          have k2 : q * K ≤ hi * K := Int.mul_le_mul_of_nonneg_right q0.2 hK0
          have k3 : -65536 * K ≤ q * K := Int.mul_le_mul_of_nonneg_right qa.1 hK0
          have k4 : q * K ≤ 65536 * K := Int.mul_le_mul_of_nonneg_right qa.2 hK0
          have p1 : (n : Int) * q ≤ (n : Int) * 65536 := Int.mul_le_mul_of_nonneg_left qa.2 hnn
          have p2 : (n : Int) * (-65536) ≤ (n : Int) * q := Int.mul_le_mul_of_nonneg_left qa.1 hnn
          have eD : q * (K + 2 * (n : Int)) = q * K + 2 * ((n : Int) * q) := by rw [Int.mul_add, Int.mul_left_comm q 2, Int.mul_comm q (n : Int)]
          have l1 : lo * (K + 2 * (n : Int)) = lo * K + 2 * (lo * (n : Int)) := by rw [Int.mul_add, Int.mul_left_comm]
          have l2 : hi * (K + 2 * (n : Int)) = hi * K + 2 * (hi * (n : Int)) := by rw [Int.mul_add, Int.mul_left_comm]
          have hsft := rnd_shift (x := sM + sE - 2 * ((n : Int) * q)) (n := K + 2 * (n : Int)) (k := q) (by omega) (by omega) (by omega) (by rw [eD]; omega)
          rw [Int.add_comm q, ← hsft, eD]
          exact rnd_box (by omega) (by omega) (by rw [l1]; omega) (by rw [l2]; omega) (by omega)
    · -- an edge's
      obtain ⟨i, hi, rfl⟩ := List.mem_map.1 hp
      have hi2 : i < t.es.length := by simpa using hi
      have hi3 : i < sh.length := by omega
      have e1 : t.es.getD i ed0 = t.es[i] := by rw [List.getD_eq_getElem?_getD, List.getElem?_eq_getElem hi2]; rfl
      have e2 : sh.getD i 0 = sh[i] := by rw [List.getD_eq_getElem?_getD, List.getElem?_eq_getElem hi3]; rfl
      rw [e1, e2, co_half hg hf hmI]
      obtain ⟨r1, r2, _⟩ := edge_rng hT (List.getElem_mem hi2)
      have a := hq _ r1.1 r1.2
      have b := hq _ r2.1 r2.2
      have a2 := co_vat hg (m := 65536) (by omega) hf t.es[i].a
      have b2 := co_vat hg (m := 65536) (by omega) hf t.es[i].b
      unfold halfG
      dsimp only
      split
      · rename_i h0
        obtain ⟨s1, s2⟩ := soft_rng hT hs i hi2 hi3 h0
        have c := hM _ s1.1 s1.2
        have d := hM _ s2.1 s2.2
        have c2 := co_vat hg (m := 65536) (by omega) hmI t.es[i].f
        have d2 := co_vat hg (m := 65536) (by omega) hmI t.es[i].g
        exact rnd_box (by omega) (by omega) (by omega) (by omega) (by omega)
      · exact rnd_box (by omega) (by omega) (by omega) (by omega) (by omega)
  · -- a face's
    obtain ⟨i, hi, rfl⟩ := List.mem_map.1 hp
    have hi2 : i < fs.length := by simpa using hi
    have e2 : fs.getD i [] = fs[i] := by rw [List.getD_eq_getElem?_getD, List.getElem?_eq_getElem hi2]; rfl
    rw [e2]
    exact hmid _ (List.getElem_mem hi2)
/-- A row's vertices as the box of a row takes them. -/
def ptF (vs : List P3) (i : Nat) : Int × Int × Int := ((vat vs i).x, (vat vs i).y, (vat vs i).z)
theorem vat_nat (vs : List P3) (i : Nat) (h : i < vs.length) : vat vs (i : Int) = vs[i] := by
  unfold vat
  rw [List.getD_eq_getElem?_getD, Int.toNat_natCast, List.getElem?_eq_getElem h]; rfl
theorem VL.vf {W : World} {A : Option Addr} {vs : List P3} (h : VL W A vs) : VF W A vs.length (ptF vs) := fun h0 => by
  obtain ⟨b, off, e, hl, hc⟩ := h h0
  refine ⟨b, off, e, hl, fun i hi => ?_⟩
  simp only [ptF, vat_nat vs i hi]
  exact hc i hi
end Go.Proofs.Ytpdnaceggpdleab
namespace Go.Proofs.Ytpdnaceggpdleab
open Go.RowKit
set_option linter.unusedVariables false
set_option linter.unusedSimpArgs false
end Go.Proofs.Ytpdnaceggpdleab
namespace Go.Proofs.Ytpdnaceggpdleab
open Go.RowKit
set_option linter.unusedVariables false
set_option linter.unusedSimpArgs false
theorem infoCr9 : (Try.prog.info? 109).map (fun i => (i.zero, i.size, i.bytes)) = some (some (.agg #[.int .i64 0, .int .i64 0, .int .i64 0]), 3, 24) := by kernel_rfl
theorem newsV_kC (ps : List P3) : newsV (ptF ps) ps.length = kC ps := by
  apply List.ext_getElem?
  intro j
  by_cases h : j < ps.length * 3
  · have hi : j / 3 < ps.length := by omega
    obtain ⟨h1, h2, h3⟩ := kC_at ps (j / 3) hi
    rw [newsV_get _ _ _ h]
    have e0 : ptF ps (j / 3) = (ps[j / 3].x, ps[j / 3].y, ps[j / 3].z) := by simp only [ptF, vat_nat ps _ hi]
    rw [e0]
    rcases (by omega : j = j / 3 * 3 ∨ j = j / 3 * 3 + 1 ∨ j = j / 3 * 3 + 2) with e | e | e
    · rw [show j % 3 = 0 by omega]; conv => rhs; rw [e]
      rw [h1]; rfl
    · rw [show j % 3 = 1 by omega]; conv => rhs; rw [e]
      rw [h2]; rfl
    · rw [show j % 3 = 2 by omega]; conv => rhs; rw [e]
      rw [h3]; rfl
  · rw [List.getElem?_eq_none (by rw [newsV_len]; omega), List.getElem?_eq_none (by rw [kC_len]; omega)]
def PO (b : Nat) (ps : List P3) : World → Value → Prop := fun w v => ∃ B d, v = .slice B ps.length d ∧ w.ownsRow b 30 3 (.slice B ps.length d) ps.length (kC ps)
theorem PO.stays (b : Nat) (ps : List P3) : Stays (PO b ps) := fun w w' v hB ⟨B, d, e, h⟩ => ⟨B, d, e, own_lay h hB⟩
def PG (b : Nat) (fs : List (List Int)) : World → Value → Prop := fun w v => ∃ B d, v = .slice B fs.length d ∧ OwnF w b B d fs
theorem PG.stays (b : Nat) (fs : List (List Int)) : Stays (PG b fs) := fun w w' v hB ⟨B, d, e, h⟩ => ⟨B, d, e, h.lay hB⟩
def PQ (b : Nat) (vs : List P3) (fs : List (List Int)) (B3 : Option Addr) (n3 d3 : Nat) : World → Value → Prop := fun w v => ∃ R1 e1 R2 e2, v = .agg #[.slice R1 vs.length e1, .slice R2 fs.length e2, .slice B3 n3 d3] ∧ w.ownsRow b 30 3 (.slice R1 vs.length e1) vs.length (kC vs) ∧ OwnF w b R2 e2 fs
theorem PQ.stays (b : Nat) (vs : List P3) (fs : List (List Int)) (B3 : Option Addr) (n3 d3 : Nat) : Stays (PQ b vs fs B3 n3 d3) := fun w w' v hB ⟨B, d, C, f, e, h, k⟩ => ⟨B, d, C, f, e, own_lay h hB, k.lay hB⟩
end Go.Proofs.Ytpdnaceggpdleab
namespace Go.Proofs.Ytpdnaceggpdleab
open Go.RowKit
set_option linter.unusedVariables false
set_option linter.unusedSimpArgs false
set_option linter.unusedSectionVars false
section
variable {g : P3 → Int} (hg : Co g) {vs ws : List P3} {fs : List (List Int)} {ks : List P3} {t : TopoT} {sh : List Int} (hlen : ws.length = vs.length) (hT : TopoS (vs.length : Int) fs t) (hs : sharpP t.es ks = some sh) (hf : ∀ p ∈ vs, InP 65536 p) (hw : ∀ p ∈ ws, InP 65536 p) (few : vs.length + fs.length + tot fs ≤ 1000000) {k : Int} (hk : -65536 ≤ k ∧ k ≤ 65536) (hq : ∀ u : Int, 0 ≤ u → u < vs.length → g (vat ws u) = g (vat vs u) + k)
include hg hlen hT hs hf hw few hk hq
end
end Go.Proofs.Ytpdnaceggpdleab
namespace Go.Proofs.Ytpdnaceggpdleab
open Go.RowKit
set_option linter.unusedVariables false
set_option linter.unusedSimpArgs false
theorem topo_one9 {n : Int} {fs : List (List Int)} {t u : TopoT} (h : TopoS n fs t) (k : TopoS n fs u) : u = t := by
  have e1 := h.edges.one k.edges
  have hl : t.fans.length = u.fans.length := by have := h.nf; have := k.nf; omega
  have hl2 : t.rs.length = u.rs.length := by have := h.nr; have := k.nr; omega
  have hl3 : t.rs.length = t.fans.length := by have := h.nr; have := h.nf; omega
  have hv : ∀ v (h1 : v < t.fans.length) (h2 : v < t.rs.length) (h3 : v < u.fans.length) (h4 : v < u.rs.length), t.fans[v] = u.fans[v] ∧ t.rs[v] = u.rs[v] := fun v h1 h2 h3 h4 => by
    obtain ⟨L, p1, p2, p3⟩ := h.fan v h1 h2
    obtain ⟨M, q1, q2, q3⟩ := k.fan v h3 h4
    obtain ⟨r1, r2⟩ := p1.unique h.walk.apart q1
    exact ⟨by rw [p3, q3, r1], r2⟩
  cases t; cases u
  simp only at e1 hl hl2 hl3 hv
  simp only [TopoT.mk.injEq]
  refine ⟨e1.symm, ?_, ?_⟩
  · exact (List.ext_getElem hl fun v h1 h2 => (hv v h1 (by omega) h2 (by omega)).1).symm
  · exact (List.ext_getElem hl2 fun v h1 h2 => (hv v (by omega) h1 (by omega) h2).2).symm
/-- Moved; flat. -/
def movP (b : P3) (p : P3) : P3 := ⟨p.x + b.x, p.y + b.y, p.z + b.z⟩
def flaP (b : P3) (p : P3) : P3 := ⟨p.x, b.y, p.z⟩
theorem vat_map (F : P3 → P3) (vs : List P3) (u : Int) (h0 : 0 ≤ u) (h1 : u < vs.length) : vat (vs.map F) u = F (vat vs u) := by
  have h : u.toNat < vs.length := by omega
  unfold vat
  rw [List.getD_eq_getElem?_getD, List.getElem?_eq_getElem (by simpa using h), List.getD_eq_getElem?_getD, List.getElem?_eq_getElem h]
  simp
end Go.Proofs.Ytpdnaceggpdleab
