/- A finer cage's vertices stay in the coarse one's box. -/
import Derived.Test.YthpdplpjpopenaaSubV
import Derived.Test.YthpdplpjpopenaaC13
namespace Go.Proofs.Ythpdplpjpopenaa
open Go.RowKit
set_option linter.unusedVariables false
set_option linter.unusedSimpArgs false
/-- The new vertex of an edge, one coordinate: what it is reckoned from. -/
def halfG (q M : Int → Int) (e : Ed) (s : Int) : Int := if s = 0 then rnd (q e.a + q e.b + M e.f + M e.g) 4 else rnd (q e.a + q e.b) 2
theorem co_half {g : P3 → Int} (hg : Co g) {vs ms : List P3} (h : ∀ p ∈ vs, InP 65536 p) (hm : ∀ p ∈ ms, InP 65536 p) (e : Ed) (s : Int) : g (halfP vs ms e s) = halfG (fun u => g (vat vs u)) (fun f => g (vat ms f)) e s := by
  have a := co_vat hg (m := 65536) (by omega) h e.a
  have b := co_vat hg (m := 65536) (by omega) h e.b
  have c := co_vat hg (m := 65536) (by omega) hm e.f
  have d := co_vat hg (m := 65536) (by omega) hm e.g
  unfold halfP
  rw [hg.tri]
  unfold halfS halfG co sumS
  split
  · rw [fold_exact 65536 (by omega) _ _ ?_ ?_]
    · simp only [List.sum_cons, List.sum_nil]; congr 1; omega
    · intro y hy
      simp only [List.mem_cons, List.not_mem_nil, or_false] at hy
      rcases hy with rfl | rfl | rfl | rfl <;> omega
    · simp only [List.length_cons, List.length_nil]; omega
  · rw [fold_exact 65536 (by omega) _ _ ?_ ?_]
    · simp only [List.sum_cons, List.sum_nil]; congr 1; omega
    · intro y hy
      simp only [List.mem_cons, List.not_mem_nil, or_false] at hy
      rcases hy with rfl | rfl <;> omega
    · simp only [List.length_cons, List.length_nil]; omega
theorem sum_box (lo hi : Int) : ∀ l : List Int, (∀ y ∈ l, lo ≤ y ∧ y ≤ hi) → lo * l.length ≤ l.sum ∧ l.sum ≤ hi * l.length
  | [], _ => by simp
  | a :: r, h => by
    have h1 := sum_box lo hi r (fun y hy => h y (List.mem_cons_of_mem _ hy))
    have h2 := h a (by simp)
    simp only [List.sum_cons, List.length_cons]
    have e1 : lo * ((r.length + 1 : Nat) : Int) = lo * (r.length : Int) + lo := by rw [Int.natCast_add, Int.mul_add]; simp
    have e2 : hi * ((r.length + 1 : Nat) : Int) = hi * (r.length : Int) + hi := by rw [Int.natCast_add, Int.mul_add]; simp
    rw [e1, e2]; omega
theorem othE_zip (v : Int) (es : List Ed) (sh : List Int) (hl : sh.length = es.length) : othE v (es.zip sh) = es.filterMap (other v) := by
  have e : es = (es.zip sh).map Prod.fst := (List.map_fst_zip (by omega)).symm
  conv => rhs; rw [e, List.filterMap_map]
  rfl
theorem oth_mem {n : Int} {fs : List (List Int)} {es : List Ed} (ok : WalkOk n fs) (hE : EdgesR (waysL 0 fs) es) (v u : Int) : u ∈ es.filterMap (other v) ↔ ∃ w ∈ waysL 0 fs, (w.a = v ∧ w.b = u) ∨ (w.a = u ∧ w.b = v) := by
  rw [List.mem_filterMap]
  constructor
  · rintro ⟨e, he, ho⟩
    obtain ⟨w, hw, rfl⟩ := (hE.mem e).1 he
    refine ⟨w, hw, ?_⟩
    unfold other edOf at ho
    simp only at ho
    split at ho
    · simp only [Option.some.injEq] at ho; omega
    · split at ho
      · simp only [Option.some.injEq] at ho; omega
      · cases ho
  · rintro ⟨w, hw, h⟩
    have hne := ok.ne hw
    refine ⟨_, (hE.mem _).2 ⟨w, hw, rfl⟩, ?_⟩
    unfold other edOf
    simp only
    split
    · simp only [Option.some.injEq]; omega
    · split
      · simp only [Option.some.injEq]; omega
      · omega
theorem oth_nodup {n : Int} {fs : List (List Int)} {es : List Ed} (ok : WalkOk n fs) (hE : EdgesR (waysL 0 fs) es) (v : Int) : (es.filterMap (other v)).Nodup := by
  rw [List.nodup_iff_pairwise_ne, List.pairwise_filterMap]
  have hlt : ∀ e ∈ es, e.a < e.b := fun e he => by
    obtain ⟨w, hw, rfl⟩ := (hE.mem e).1 he
    have := ok.ne hw
    simp only [edOf]; omega
  refine List.Pairwise.imp_of_mem (fun {x y} hx hy hxy => ?_) hE.sorted
  have h1 := hlt x hx
  have h2 := hlt y hy
  intro b hb b' hb' e
  subst e
  unfold ltE at hxy
  unfold other at hb hb'
  split at hb
  · split at hb'
    · simp only [Option.some.injEq] at hb hb'; omega
    · split at hb'
      · simp only [Option.some.injEq] at hb hb'; omega
      · cases hb'
  · split at hb
    · split at hb'
      · simp only [Option.some.injEq] at hb hb'; omega
      · split at hb'
        · simp only [Option.some.injEq] at hb hb'; omega
        · cases hb'
    · cases hb
/-- As many edges come to a round vertex as faces are about it: at least two. -/
theorem deg {n : Int} {fs : List (List Int)} {t : TopoT} (h : TopoS n fs t) (v : Nat) (hv : v < t.fans.length) (hr : v < t.rs.length) (hround : t.rs[v] = true) : (t.es.filterMap (other (v : Int))).length = t.fans[v].length ∧ 2 ≤ t.fans[v].length := by
  have ok := h.walk
  obtain ⟨L, hF, hl, hf⟩ := h.fan v hv hr
  have hall := fan_all ok hF hl
  rw [hround] at hF
  obtain ⟨hne, hes⟩ := hF.back rfl
  generalize (hubOf (waysL 0 fs) (v : Int) (waysL 0 fs)).1 = start at *
  have hpos : 0 < L.length := List.length_pos_iff.2 hne
  have hends := ends_at start hpos
  have hbn : (L.map Way.b).Nodup := by
    rw [List.nodup_iff_pairwise_ne, List.pairwise_map]
    refine List.Pairwise.imp_of_mem (fun {x y} hx hy hxy e => hxy ?_) (List.nodup_iff_pairwise_ne.1 (hF.toFanC.nodup ok))
    have m1 := hF.mem x hx
    have m2 := hF.mem y hy
    exact ok.apart.key m1.1 m2.1 (m1.2.trans m2.2.symm) e
  have hmem : ∀ u, u ∈ t.es.filterMap (other (v : Int)) ↔ u ∈ L.map Way.b := fun u => by
    rw [oth_mem ok h.edges, List.mem_map]
    constructor
    · rintro ⟨w, hw, ⟨ha, hb⟩ | ⟨ha, hb⟩⟩
      · exact ⟨w, hall w hw ha, hb⟩
      · obtain ⟨w2, hw2, ha2, hc2⟩ := (ok.comes u (v : Int)).1 ⟨w, hw, ha, hb⟩
        obtain ⟨i, hi, rfl⟩ := List.getElem_of_mem (hall w2 hw2 ha2)
        by_cases e2 : i + 1 < L.length
        · exact ⟨_, List.getElem_mem e2, (hF.link i e2).trans hc2⟩
        · have : i = L.length - 1 := by omega
          subst this
          exact ⟨_, List.getElem_mem hpos, by rw [hF.first hpos, ← hes, hends, hc2]⟩
    · rintro ⟨w, hw, rfl⟩
      have := hF.mem w hw
      exact ⟨w, this.1, .inl ⟨this.2, rfl⟩⟩
  have a1 := nodup_le _ _ (oth_nodup ok h.edges (v : Int)) (fun u hu => (hmem u).1 hu)
  have a2 := nodup_le _ _ hbn (fun u hu => (hmem u).2 hu)
  have a3 : (L.map Way.b).length = L.length := List.length_map ..
  rw [hf, List.length_map]
  refine ⟨by omega, ?_⟩
  apply Classical.byContradiction
  intro hc
  have e1 : L.length = 1 := by omega
  have h0 := hF.first hpos
  have hm := hF.mem _ (List.getElem_mem hpos)
  apply ok.bc hm.1
  rw [h0, ← hes, hends]
  congr 2; omega
theorem bord_le (v : Int) : ∀ (es : List Ed) (sh : List Int), sh.length = es.length → (∀ i (h1 : i < es.length) (h2 : i < sh.length), bordB v es[i] = true → sh[i] ≠ 0) → (es.filter (bordB v)).length ≤ (othS v (es.zip sh)).length
  | [], _, _, _ => by simp
  | e :: r, [], hl, _ => by simp at hl
  | e :: r, s :: q, hl, h => by
    have ih := bord_le v r q (by simpa using hl) (fun i h1 h2 hb => by
      have := h (i + 1) (by simp; omega) (by simp; omega) (by simpa using hb)
      simpa using this)
    have h0 := h 0 (by simp) (by simp)
    simp only [List.getElem_cons_zero] at h0
    unfold othS at *
    rw [List.zip_cons_cons, List.filterMap_cons, List.filter_cons]
    by_cases hb : bordB v e = true
    · rw [if_pos hb]
      have hs := h0 hb
      have ho : ∃ u, other v e = some u := by
        unfold bordB at hb
        rw [Bool.and_eq_true] at hb
        have := hb.1
        simp only [Bool.or_eq_true, beq_iff_eq] at this
        unfold other
        split
        · exact ⟨_, rfl⟩
        · rw [if_pos (by omega)]; exact ⟨_, rfl⟩
      obtain ⟨u, hu⟩ := ho
      simp only [hs, if_false, hu, List.length_cons]
      omega
    · rw [if_neg hb]
      split
      · exact ih
      · simp only [List.length_cons]; omega
theorem cnt_two {n : Int} {fs : List (List Int)} {t : TopoT} (h : TopoS n fs t) {ks : List P3} {sh : List Int} (hs : sharpP t.es ks = some sh) (v : Nat) (hv : v < t.fans.length) (hr : v < t.rs.length) (hn : t.rs[v] = false) : 2 ≤ (othS (v : Int) (t.es.zip sh)).length := by
  have h1 := fewer h v hv hr
  rw [hn, if_neg (by simp)] at h1
  have h2 := bord_le (v : Int) t.es sh (sharpP_len hs) (fun i i1 i2 hb => by
    have hge := sharpK_ge hs i (by simpa using i1) i2
    rw [List.getElem_map] at hge
    unfold bordB at hb
    rw [Bool.and_eq_true] at hb
    unfold base0 at hge
    rw [if_pos hb.2] at hge
    omega)
  omega
end Go.Proofs.Ythpdplpjpopenaa
