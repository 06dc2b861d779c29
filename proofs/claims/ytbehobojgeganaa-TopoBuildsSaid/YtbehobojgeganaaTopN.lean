/- What holds of a surface's edges and fans: counts at a vertex, counts of sides. No program is imported. -/
import Derived.Test.YtbehobojgeganaaTopF
namespace Go.Proofs.Ytbehobojgeganaa
set_option linter.unusedVariables false
set_option linter.unusedSimpArgs false
theorem sorted_nodup {es : List Ed} (h : es.Pairwise ltE) : es.Nodup := by
  rw [List.nodup_iff_pairwise_ne]
  exact h.imp fun h e => by subst e; exact ltE_irrefl _ h
theorem look_ne {al : List Way} {a b : Int} : look al a b ≠ none ↔ ∃ w ∈ al, w.a = a ∧ w.b = b := by
  constructor
  · intro h
    cases hl : look al a b with
    | none => exact absurd hl h
    | some w => obtain ⟨h1, h2, h3⟩ := look_some hl; exact ⟨w, h1, h2, h3⟩
  · rintro ⟨w, hw, h2, h3⟩ h
    exact look_none h w hw ⟨h2, h3⟩
/-- To v comes a way just from where a face about v comes from. -/
theorem WalkOk.comes {n : Int} {fs : List (List Int)} (ok : WalkOk n fs) (u v : Int) : (∃ w ∈ waysL 0 fs, w.a = u ∧ w.b = v) ↔ ∃ w ∈ waysL 0 fs, w.a = v ∧ w.c = u := by
  constructor
  · rintro ⟨w, hw, rfl, rfl⟩
    obtain ⟨e, he⟩ := ok.next hw
    exact ⟨_, he, rfl, rfl⟩
  · rintro ⟨w, hw, rfl, rfl⟩
    obtain ⟨d, hd⟩ := ok.prev hw
    exact ⟨_, hd, rfl, rfl⟩
def bordB (v : Int) (e : Ed) : Bool := (e.a == v || e.b == v) && ((e.f == -1) != (e.g == -1))
def oneWay (al : List Way) (v u : Int) : Prop := ((look al v u ≠ none) ∧ look al u v = none) ∨ (look al v u = none ∧ look al u v ≠ none)
theorem bord_iff {al : List Way} {fs : List (List Int)} (hal : al = waysL 0 fs) (hl : Long fs) (a b : Int) : ((edOf al a b).f == -1) != ((edOf al a b).g == -1) ↔ oneWay al a b := by
  subst hal
  unfold edOf oneWay
  simp only
  have h1 := faceOf_neg hl a b
  have h2 := faceOf_neg hl b a
  by_cases c1 : look (waysL 0 fs) a b = none <;> by_cases c2 : look (waysL 0 fs) b a = none
  · simp [h1.2 c1, h2.2 c2, c1, c2]
  · have : ¬ faceOf (waysL 0 fs) b a = -1 := fun h => c2 (h2.1 h)
    simp [h1.2 c1, this, c1, c2]
  · have : ¬ faceOf (waysL 0 fs) a b = -1 := fun h => c1 (h1.1 h)
    simp [h2.2 c2, this, c1, c2]
  · have k1 : ¬ faceOf (waysL 0 fs) a b = -1 := fun h => c1 (h1.1 h)
    have k2 : ¬ faceOf (waysL 0 fs) b a = -1 := fun h => c2 (h2.1 h)
    have q1 : (faceOf (waysL 0 fs) a b == -1) = false := by simpa using k1
    have q2 : (faceOf (waysL 0 fs) b a == -1) = false := by simpa using k2
    simp [q1, q2, c1, c2]
theorem oneWay_symm {al : List Way} {a b : Int} (h : oneWay al a b) : oneWay al b a := by
  rcases h with ⟨h1, h2⟩ | ⟨h1, h2⟩
  · exact .inr ⟨h2, h1⟩
  · exact .inl ⟨h2, h1⟩
theorem bord_mem {n : Int} {fs : List (List Int)} {es : List Ed} (ok : WalkOk n fs) (hE : EdgesR (waysL 0 fs) es) (v : Int) (e : Ed) : e ∈ es.filter (bordB v) ↔ ∃ u, oneWay (waysL 0 fs) v u ∧ e = edOf (waysL 0 fs) (min v u) (max v u) := by
  rw [List.mem_filter, hE.mem]
  constructor
  · rintro ⟨⟨w, hw, rfl⟩, hb⟩
    unfold bordB at hb
    rw [Bool.and_eq_true] at hb
    have h1 := (bord_iff rfl ok.long _ _).1 hb.2
    have h2 := hb.1
    simp only [edOf, Bool.or_eq_true, beq_iff_eq] at h2
    rcases h2 with h2 | h2
    · refine ⟨max w.a w.b, by rw [h2] at h1; exact h1, ?_⟩
      have : min v (max w.a w.b) = min w.a w.b ∧ max v (max w.a w.b) = max w.a w.b := by omega
      rw [this.1, this.2]
    · refine ⟨min w.a w.b, by rw [h2] at h1; exact oneWay_symm h1, ?_⟩
      have : min v (min w.a w.b) = min w.a w.b ∧ max v (min w.a w.b) = max w.a w.b := by omega
      rw [this.1, this.2]
  · rintro ⟨u, h, rfl⟩
    refine ⟨?_, ?_⟩
    · rcases h with ⟨h1, _⟩ | ⟨_, h1⟩
      · obtain ⟨w, hw, rfl, rfl⟩ := look_ne.1 h1; exact ⟨w, hw, rfl⟩
      · obtain ⟨w, hw, rfl, rfl⟩ := look_ne.1 h1
        exact ⟨w, hw, by rw [Int.min_comm, Int.max_comm]⟩
    · unfold bordB
      rw [Bool.and_eq_true]
      refine ⟨by simp only [edOf, Bool.or_eq_true, beq_iff_eq]; omega, (bord_iff rfl ok.long _ _).2 ?_⟩
      rcases Int.le_total v u with h3 | h3
      · rw [Int.min_eq_left h3, Int.max_eq_right h3]; exact h
      · rw [Int.min_eq_right h3, Int.max_eq_left h3]; exact oneWay_symm h
/-- A fan that has all ways from v. -/
theorem fan_all {n : Int} {fs : List (List Int)} (ok : WalkOk n fs) {v start : Int} {L : List Way} {r : Bool} (h : FanR (waysL 0 fs) v start L r) (hl : L.length = (froms (waysL 0 fs) v).length) : ∀ w ∈ waysL 0 fs, w.a = v → w ∈ L := fun w hw ha =>
  nodup_all L _ (h.toFanC.nodup ok) (fun u hu => mem_froms.2 (h.mem u hu)) (by omega) w (mem_froms.2 ⟨hw, ha⟩)
theorem fewer {n : Int} {fs : List (List Int)} {t : TopoT} (h : TopoS n fs t) (v : Nat) (hv : v < t.fans.length) (hr : v < t.rs.length) : (t.es.filter (bordB v)).length = if t.rs[v] then 0 else 2 := by
  have ok := h.walk
  obtain ⟨L, hF, hl, _⟩ := h.fan v hv hr
  have hall := fan_all ok hF hl
  generalize (hubOf (waysL 0 fs) (v : Int) (waysL 0 fs)).1 = start at *
  have hmem := bord_mem ok h.edges (v : Int)
  have hne : L ≠ [] := by
    obtain ⟨w, hw, hb⟩ := ok.all (v : Int) (by omega) (by have := h.nf; omega)
    obtain ⟨d, hd⟩ := ok.next hw
    have := hall _ hd hb
    intro e; rw [e] at this; cases this
  have hpos : 0 < L.length := by
    rcases Nat.eq_zero_or_pos L.length with e | e
    · exact absurd (List.eq_nil_of_length_eq_zero e) hne
    · exact e
  -- where ways go from v, and where they come from
  have hB : ∀ u, look (waysL 0 fs) (v : Int) u ≠ none ↔ ∃ i, ∃ hi : i < L.length, L[i].b = u := fun u => by
    rw [look_ne]
    constructor
    · rintro ⟨w, hw, ha, rfl⟩
      obtain ⟨i, hi, e⟩ := List.getElem_of_mem (hall w hw ha)
      exact ⟨i, hi, by rw [e]⟩
    · rintro ⟨i, hi, rfl⟩
      obtain ⟨h1, h2⟩ := hF.mem _ (List.getElem_mem hi)
      exact ⟨_, h1, h2, rfl⟩
  have hC : ∀ u, look (waysL 0 fs) u (v : Int) ≠ none ↔ ∃ i, ∃ hi : i < L.length, L[i].c = u := fun u => by
    rw [look_ne, ok.comes]
    constructor
    · rintro ⟨w, hw, ha, rfl⟩
      obtain ⟨i, hi, e⟩ := List.getElem_of_mem (hall w hw ha)
      exact ⟨i, hi, by rw [e]⟩
    · rintro ⟨i, hi, rfl⟩
      obtain ⟨h1, h2⟩ := hF.mem _ (List.getElem_mem hi)
      exact ⟨_, h1, h2, rfl⟩
  have hends := ends_at start hpos
  have hBC : ∀ u, (∃ i, ∃ hi : i < L.length, L[i].b = u) → u = start ∨ ∃ i, ∃ hi : i < L.length, L[i].c = u := by
    rintro u ⟨i, hi, rfl⟩
    cases i with
    | zero => exact .inl (hF.first hi)
    | succ i => exact .inr ⟨i, by omega, (hF.link i hi).symm⟩
  have hCB : ∀ u, (∃ i, ∃ hi : i < L.length, L[i].c = u) → u = ends L start ∨ ∃ i, ∃ hi : i < L.length, L[i].b = u := by
    rintro u ⟨i, hi, rfl⟩
    by_cases e : i + 1 < L.length
    · exact .inr ⟨i + 1, e, hF.link i e⟩
    · left
      rw [hends]
      congr 2; omega
  have hnd : (t.es.filter (bordB v)).Nodup := (sorted_nodup h.edges.sorted).sublist List.filter_sublist
  cases hrv : t.rs[v] with
  | true =>
    rw [hrv] at hF
    have hes := (hF.back rfl).2
    rw [if_pos rfl]
    rw [List.length_eq_zero_iff, List.eq_nil_iff_forall_not_mem]
    intro e he
    obtain ⟨u, hu, _⟩ := (hmem e).1 he
    rcases hu with ⟨h1, h2⟩ | ⟨h1, h2⟩
    · rcases hBC u ((hB u).1 h1) with rfl | h3
      · exact absurd h2 ((hC _).2 ⟨L.length - 1, by omega, by rw [← hends, hes]⟩)
      · exact absurd h2 ((hC u).2 h3)
    · rcases hCB u ((hC u).1 h2) with rfl | h3
      · exact absurd h1 ((hB _).2 ⟨0, hpos, by rw [hes]; exact hF.first hpos⟩)
      · exact absurd h1 ((hB u).2 h3)
  | false =>
    rw [hrv] at hF
    obtain ⟨hs1, hs2⟩ := hF.stop rfl
    have hs3 : ends L start ≠ start := by
      rcases hs2 with h1 | h1
      · exact absurd h1 hne
      · exact h1
    have o1 : oneWay (waysL 0 fs) (v : Int) start := by
      refine .inl ⟨(hB _).2 ⟨0, hpos, hF.first hpos⟩, ?_⟩
      apply Classical.byContradiction
      intro hc
      obtain ⟨i, hi, e⟩ := (hC _).1 hc
      by_cases e2 : i + 1 < L.length
      · exact hF.mid i e2 e
      · have : i = L.length - 1 := by omega
        subst this
        rw [← hends] at e; exact hs3 e
    have o2 : oneWay (waysL 0 fs) (v : Int) (ends L start) := by
      refine .inr ⟨?_, (hC _).2 ⟨L.length - 1, by omega, hends.symm⟩⟩
      apply Classical.byContradiction
      intro hc
      obtain ⟨w, hw, ha, hb⟩ := look_ne.1 hc
      exact hs1 w hw ha hb
    have only : ∀ u, oneWay (waysL 0 fs) (v : Int) u → u = start ∨ u = ends L start := by
      rintro u (⟨h1, h2⟩ | ⟨h1, h2⟩)
      · rcases hBC u ((hB u).1 h1) with h3 | h3
        · exact .inl h3
        · exact absurd h2 ((hC u).2 h3)
      · rcases hCB u ((hC u).1 h2) with h3 | h3
        · exact .inr h3
        · exact absurd h1 ((hB u).2 h3)
    rw [if_neg (by simp)]
    have m1 := (hmem _).2 ⟨_, o1, rfl⟩
    have m2 := (hmem _).2 ⟨_, o2, rfl⟩
    have d12 : edOf (waysL 0 fs) (min (v : Int) start) (max (v : Int) start) ≠ edOf (waysL 0 fs) (min (v : Int) (ends L start)) (max (v : Int) (ends L start)) := fun e => by
      have e1 := congrArg Ed.a e
      have e2 := congrArg Ed.b e
      simp only [edOf] at e1 e2
      omega
    have l1 := nodup_le [_, _] (t.es.filter (bordB v)) (by simpa using d12) (by
      intro x hx
      simp only [List.mem_cons, List.not_mem_nil, or_false] at hx
      rcases hx with rfl | rfl
      · exact m1
      · exact m2)
    have l2 := nodup_le (t.es.filter (bordB v)) [edOf (waysL 0 fs) (min (v : Int) start) (max (v : Int) start), edOf (waysL 0 fs) (min (v : Int) (ends L start)) (max (v : Int) (ends L start))] hnd (by
      intro x hx
      obtain ⟨u, hu, rfl⟩ := (hmem x).1 hx
      rcases only u hu with rfl | rfl <;> simp)
    simp at l1 l2
    omega
theorem take_count {α : Type} (p : α → Bool) (l : List α) (i : Nat) (h : i < l.length) : ((l.take (i + 1)).filter p).length = ((l.take i).filter p).length + if p l[i] then 1 else 0 := by
  rw [List.take_succ_eq_append_getElem h, List.filter_append, List.length_append]
  congr 1
  by_cases e : p l[i] <;> simp [e]
/-- No more edges than ways. -/
theorem edges_le {n : Int} {fs : List (List Int)} {es : List Ed} (ok : WalkOk n fs) (hE : EdgesR (waysL 0 fs) es) : es.length ≤ (waysL 0 fs).length := by
  have := nodup_le es ((waysL 0 fs).map fun w => edOf (waysL 0 fs) (min w.a w.b) (max w.a w.b)) (sorted_nodup hE.sorted) (fun e he => by
    obtain ⟨w, hw, rfl⟩ := (hE.mem e).1 he
    exact List.mem_map.2 ⟨w, hw, rfl⟩)
  simpa using this
theorem faceOf_ge {fs : List (List Int)} (hl : Long fs) (a b : Int) : -1 ≤ faceOf (waysL 0 fs) a b := by
  unfold faceOf
  cases h : look (waysL 0 fs) a b with
  | none => simp
  | some x =>
    obtain ⟨h1, _, _⟩ := look_some h
    obtain ⟨j, hj, hm⟩ := (mem_waysL fs 0 x).1 h1
    have := waysF_f (by have := hl _ (List.getElem_mem hj); omega) hm
    simp; omega
/-- An edge has a face on one side at least. -/
theorem edge_one {n : Int} {fs : List (List Int)} {es : List Ed} (ok : WalkOk n fs) (hE : EdgesR (waysL 0 fs) es) (e : Ed) (he : e ∈ es) : -1 ≤ e.f ∧ -1 ≤ e.g ∧ ¬(e.f = -1 ∧ e.g = -1) := by
  obtain ⟨w, hw, rfl⟩ := (hE.mem e).1 he
  refine ⟨faceOf_ge ok.long _ _, faceOf_ge ok.long _ _, fun h => ?_⟩
  have h1 := (faceOf_neg ok.long _ _).1 h.1
  have h2 := (faceOf_neg ok.long _ _).1 h.2
  rcases Int.le_total w.a w.b with h3 | h3
  · rw [Int.min_eq_left h3, Int.max_eq_right h3] at h1
    exact look_none h1 w hw ⟨rfl, rfl⟩
  · rw [Int.min_eq_right h3, Int.max_eq_left h3] at h2
    exact look_none h2 w hw ⟨rfl, rfl⟩
end Go.Proofs.Ytbehobojgeganaa
