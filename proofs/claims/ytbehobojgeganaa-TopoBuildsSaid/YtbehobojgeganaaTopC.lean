/- Counts on a surface: sides, edges, corners. No program is imported. -/
import Derived.Test.YtbehobojgeganaaTopN
namespace Go.Proofs.Ytbehobojgeganaa
set_option linter.unusedVariables false
set_option linter.unusedSimpArgs false
/-- The side of a face from one corner on is a way. -/
theorem side_way {n : Int} {fs : List (List Int)} (ok : WalkOk n fs) (f i : Nat) (hf : f < fs.length) (hi : i < fs[f].length) : ∃ c, (⟨fs[f].getD i 0, fs[f].getD ((i + 1) % fs[f].length) 0, (f : Int), c⟩ : Way) ∈ waysL 0 fs := by
  have hl := ok.long _ (List.getElem_mem hf)
  obtain ⟨e1, e2, e3⟩ := mod_forth hi (show 2 ≤ fs[f].length by omega)
  have h1 := (mem_waysL fs 0 _).2 ⟨f, hf, (mem_waysF (by omega)).2 ⟨_, e2, rfl⟩⟩
  rw [e1] at h1
  simp only [Nat.zero_add] at h1
  exact ⟨_, h1⟩
theorem edge_is {n : Int} {fs : List (List Int)} {es : List Ed} (hE : EdgesR (waysL 0 fs) es) {e : Ed} (he : e ∈ es) : e = edOf (waysL 0 fs) e.a e.b := by
  obtain ⟨w, hw, rfl⟩ := (hE.mem e).1 he
  rfl
theorem faceOf_way {n : Int} {fs : List (List Int)} (ok : WalkOk n fs) {w : Way} (hw : w ∈ waysL 0 fs) : faceOf (waysL 0 fs) w.a w.b = w.f := by
  unfold faceOf
  rw [look_mem ok.apart hw]; rfl
theorem side_edge {n : Int} {fs : List (List Int)} {es : List Ed} (ok : WalkOk n fs) (hE : EdgesR (waysL 0 fs) es) {w : Way} (hw : w ∈ waysL 0 fs) : ∃ e ∈ es, e.a = min w.a w.b ∧ e.b = max w.a w.b :=
  ⟨_, (hE.mem _).2 ⟨w, hw, rfl⟩, rfl, rfl⟩
theorem side_face {n : Int} {fs : List (List Int)} {es : List Ed} (ok : WalkOk n fs) (hE : EdgesR (waysL 0 fs) es) {w : Way} (hw : w ∈ waysL 0 fs) {e : Ed} (he : e ∈ es) (h1 : e.a = min w.a w.b) (h2 : e.b = max w.a w.b) : (w.a < w.b → e.f = w.f) ∧ (w.b < w.a → e.g = w.f) := by
  have h3 := edge_is (n := n) hE he
  have h4 := faceOf_way ok hw
  constructor
  · intro h
    rw [h3, h1, h2, Int.min_eq_left (by omega), Int.max_eq_right (by omega)]
    exact h4
  · intro h
    rw [h3, h1, h2, Int.min_eq_right (by omega), Int.max_eq_left (by omega)]
    exact h4
def edgedE (e : Ed) : Bool := (e.f == -1) != (e.g == -1)
theorem two_count : ∀ (es : List Ed), (∀ e ∈ es, -1 ≤ e.f ∧ -1 ≤ e.g ∧ ¬(e.f = -1 ∧ e.g = -1)) → (es.filter fun e => e.f != -1).length + (es.filter fun e => e.g != -1).length = es.length + (es.filter fun e => !edgedE e).length
  | [], _ => rfl
  | e :: r, h => by
    have ih := two_count r fun x hx => h x (List.mem_cons_of_mem _ hx)
    obtain ⟨h1, h2, h3⟩ := h e (by simp)
    simp only [List.filter_cons]
    by_cases c1 : e.f = -1 <;> by_cases c2 : e.g = -1
    · exact absurd ⟨c1, c2⟩ h3
    · have q : (e.g == -1) = false := by simpa using c2
      simp [edgedE, c1, c2, q] at ih ⊢
      omega
    · have q : (e.f == -1) = false := by simpa using c1
      simp [edgedE, c1, c2, q] at ih ⊢
      omega
    · have q : (e.f == -1) = false := by simpa using c1
      have q2 : (e.g == -1) = false := by simpa using c2
      simp [edgedE, c1, c2, q, q2] at ih ⊢
      omega
theorem filter_split {α : Type} (p : α → Bool) : ∀ l : List α, l.length = (l.filter p).length + (l.filter fun x => !p x).length
  | [] => rfl
  | x :: l => by
    have ih := filter_split p l
    simp only [List.filter_cons, List.length_cons]
    cases h : p x <;> simp [h] <;> omega
theorem sum_zero : ∀ l : List Nat, (∀ x ∈ l, x = 0) → l.sum = 0
  | [], _ => rfl
  | x :: l, h => by rw [List.sum_cons, sum_zero l fun y hy => h y (List.mem_cons_of_mem _ hy), h x (by simp)]
theorem two_is {n : Int} {fs : List (List Int)} {es : List Ed} (ok : WalkOk n fs) (hE : EdgesR (waysL 0 fs) es) : (waysL 0 fs).length = es.length + (es.filter fun e => !edgedE e).length := by
  have h0 := two_count es (edge_one ok hE)
  have hap := ok.apart
  have nd := sorted_nodup hE.sorted
  -- ways upwards, and downwards
  have hu : ((waysL 0 fs).filter fun w => decide (w.a < w.b)).length = (es.filter fun e => e.f != -1).length := by
    have nd1 : (((waysL 0 fs).filter fun w => decide (w.a < w.b)).map fun w => edOf (waysL 0 fs) w.a w.b).Nodup := by
      rw [List.nodup_iff_pairwise_ne, List.pairwise_map]
      refine (List.Pairwise.filter _ hap).imp fun h e => h.2 ⟨?_, ?_⟩
      · exact congrArg Ed.a e
      · exact congrArg Ed.b e
    have l1 := nodup_le _ (es.filter fun e => e.f != -1) nd1 (fun e he => by
      obtain ⟨w, hw, rfl⟩ := List.mem_map.1 he
      obtain ⟨hw1, hw2⟩ := List.mem_filter.1 hw
      have hlt : w.a < w.b := by simpa using hw2
      rw [List.mem_filter]
      refine ⟨(hE.mem _).2 ⟨w, hw1, by rw [Int.min_eq_left (by omega), Int.max_eq_right (by omega)]⟩, ?_⟩
      have : faceOf (waysL 0 fs) w.a w.b ≠ -1 := fun h => look_none ((faceOf_neg ok.long _ _).1 h) w hw1 ⟨rfl, rfl⟩
      simpa [edOf] using this)
    have l2 := nodup_le (es.filter fun e => e.f != -1) (((waysL 0 fs).filter fun w => decide (w.a < w.b)).map fun w => edOf (waysL 0 fs) w.a w.b) (nd.sublist List.filter_sublist) (fun e he => by
      obtain ⟨he1, he2⟩ := List.mem_filter.1 he
      obtain ⟨w, hw, rfl⟩ := (hE.mem e).1 he1
      have hne : faceOf (waysL 0 fs) (min w.a w.b) (max w.a w.b) ≠ -1 := by simpa [edOf] using he2
      cases hl : look (waysL 0 fs) (min w.a w.b) (max w.a w.b) with
      | none => exact absurd ((faceOf_neg ok.long _ _).2 hl) hne
      | some u =>
        obtain ⟨hu, ha, hb⟩ := look_some hl
        have := ok.ne hw
        rw [← ha, ← hb]
        exact List.mem_map.2 ⟨u, List.mem_filter.2 ⟨hu, by simp; omega⟩, rfl⟩)
    rw [List.length_map] at l1 l2
    omega
  have hd : ((waysL 0 fs).filter fun w => !decide (w.a < w.b)).length = (es.filter fun e => e.g != -1).length := by
    have nd1 : (((waysL 0 fs).filter fun w => !decide (w.a < w.b)).map fun w => edOf (waysL 0 fs) w.b w.a).Nodup := by
      rw [List.nodup_iff_pairwise_ne, List.pairwise_map]
      refine (List.Pairwise.filter _ hap).imp fun h e => h.2 ⟨?_, ?_⟩
      · exact congrArg Ed.b e
      · exact congrArg Ed.a e
    have l1 := nodup_le _ (es.filter fun e => e.g != -1) nd1 (fun e he => by
      obtain ⟨w, hw, rfl⟩ := List.mem_map.1 he
      obtain ⟨hw1, hw2⟩ := List.mem_filter.1 hw
      have hlt : ¬ w.a < w.b := by simpa using hw2
      rw [List.mem_filter]
      refine ⟨(hE.mem _).2 ⟨w, hw1, by rw [Int.min_eq_right (by omega), Int.max_eq_left (by omega)]⟩, ?_⟩
      have : faceOf (waysL 0 fs) w.a w.b ≠ -1 := fun h => look_none ((faceOf_neg ok.long _ _).1 h) w hw1 ⟨rfl, rfl⟩
      simpa [edOf] using this)
    have l2 := nodup_le (es.filter fun e => e.g != -1) (((waysL 0 fs).filter fun w => !decide (w.a < w.b)).map fun w => edOf (waysL 0 fs) w.b w.a) (nd.sublist List.filter_sublist) (fun e he => by
      obtain ⟨he1, he2⟩ := List.mem_filter.1 he
      obtain ⟨w, hw, rfl⟩ := (hE.mem e).1 he1
      have hne : faceOf (waysL 0 fs) (max w.a w.b) (min w.a w.b) ≠ -1 := by simpa [edOf] using he2
      cases hl : look (waysL 0 fs) (max w.a w.b) (min w.a w.b) with
      | none => exact absurd ((faceOf_neg ok.long _ _).2 hl) hne
      | some u =>
        obtain ⟨hu, ha, hb⟩ := look_some hl
        rw [← ha, ← hb]
        exact List.mem_map.2 ⟨u, List.mem_filter.2 ⟨hu, by simp; omega⟩, rfl⟩)
    rw [List.length_map] at l1 l2
    omega
  have hsum : (waysL 0 fs).length = ((waysL 0 fs).filter fun w => decide (w.a < w.b)).length + ((waysL 0 fs).filter fun w => !decide (w.a < w.b)).length := by
    exact filter_split (fun w : Way => decide (w.a < w.b)) (waysL 0 fs)
  omega
/-- Each corner is in one fan. -/
theorem sum_if (N : Nat) (k : Int) (h0 : 0 ≤ k) (h1 : k < N) : ((List.range N).map fun v : Nat => if k = (v : Int) then 1 else 0).sum = 1 := by
  induction N with
  | zero => omega
  | succ N ih =>
    rw [List.range_succ, List.map_append, List.sum_append]
    by_cases e : k = (N : Int)
    · have : ((List.range N).map fun v : Nat => if k = (v : Int) then 1 else 0).sum = 0 := by
        apply sum_zero
        intro x hx
        obtain ⟨v, hv, rfl⟩ := List.mem_map.1 hx
        rw [List.mem_range] at hv
        rw [if_neg (by omega)]
      rw [this]; simp [e]
    · rw [ih (by omega)]; simp [e]
theorem sum_add {α : Type} (l : List α) (f g : α → Nat) : (l.map fun x => f x + g x).sum = (l.map f).sum + (l.map g).sum := by
  induction l with
  | nil => rfl
  | cons x l ih => simp only [List.map_cons, List.sum_cons, ih]; omega
theorem sum_froms (N : Nat) : ∀ (P : List Way), (∀ w ∈ P, 0 ≤ w.a ∧ w.a < N) → ((List.range N).map fun v : Nat => (froms P (v : Int)).length).sum = P.length
  | [], _ => by
    apply sum_zero
    intro x hx
    obtain ⟨v, _, rfl⟩ := List.mem_map.1 hx
    rfl
  | w :: P, h => by
    have ih := sum_froms N P fun x hx => h x (List.mem_cons_of_mem _ hx)
    obtain ⟨h0, h1⟩ := h w (by simp)
    have e : (fun v : Nat => (froms (w :: P) (v : Int)).length) = fun v : Nat => (if w.a = (v : Int) then 1 else 0) + (froms P (v : Int)).length := by
      funext v
      unfold froms
      rw [List.filter_cons]
      by_cases c : w.a = (v : Int) <;> simp [c] <;> omega
    rw [e, sum_add, sum_if N w.a h0 h1, ih]; simp; omega
theorem corners {n : Int} {fs : List (List Int)} {t : TopoT} (h : TopoS n fs t) : (t.fans.map List.length).sum = (waysL 0 fs).length := by
  have e : t.fans.map List.length = (List.range t.fans.length).map fun v : Nat => (froms (waysL 0 fs) (v : Int)).length := by
    apply List.ext_getElem (by simp)
    intro v h1 h2
    have hv : v < t.fans.length := by simpa using h1
    obtain ⟨L, _, h4, h5⟩ := h.fan v hv (by have := h.nf; have := h.nr; omega)
    simp only [List.getElem_map, List.getElem_range, h5, List.length_map, h4]
  rw [e]
  refine sum_froms _ _ fun w hw => ?_
  obtain ⟨d, hd⟩ := h.walk.prev hw
  have := h.walk.inr _ hd
  simp only at this
  have := h.nf
  omega
end Go.Proofs.Ytbehobojgeganaa
