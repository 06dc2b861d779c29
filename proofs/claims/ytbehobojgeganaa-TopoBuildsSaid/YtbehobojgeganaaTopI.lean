/- Edges in the document's order (math). -/
import Derived.Test.YtbehobojgeganaaTopY
namespace Go.Proofs.Ytbehobojgeganaa
set_option linter.unusedVariables false
set_option linter.unusedSimpArgs false
set_option linter.unnecessarySimpa false
/-- The edges of all pairs ahead of (a, b). -/
structure EdD (al : List Way) (V a b : Int) (es : List Ed) : Prop where
  sorted : es.Pairwise ltE
  mem : ∀ e, e ∈ es ↔ ∃ p q, 0 ≤ p ∧ p < q ∧ q < V ∧ (p < a ∨ (p = a ∧ q < b)) ∧ (0 ≤ faceOf al p q ∨ 0 ≤ faceOf al q p) ∧ e = edOf al p q
theorem EdD.nil (al : List Way) (V : Int) : EdD al V 0 1 [] := ⟨List.Pairwise.nil, fun e => by
  constructor
  · intro h; cases h
  · rintro ⟨p, q, h0, h1, h2, h3, _⟩; omega⟩
theorem EdD.yes {al : List Way} {V a b : Int} {es : List Ed} (h : EdD al V a b es) (h0 : 0 ≤ a) (h1 : a < b) (h2 : b < V) (hf : 0 ≤ faceOf al a b ∨ 0 ≤ faceOf al b a) : EdD al V a (b + 1) (es ++ [edOf al a b]) := by
  refine ⟨?_, fun e => ?_⟩
  · rw [List.pairwise_append]
    refine ⟨h.sorted, List.pairwise_singleton _ _, fun x hx y hy => ?_⟩
    obtain rfl := List.mem_singleton.1 hy
    obtain ⟨p, q, _, _, _, h6, _, rfl⟩ := (h.mem x).1 hx
    show p < a ∨ (p = a ∧ q < b)
    exact h6
  · rw [List.mem_append, h.mem, List.mem_singleton]
    constructor
    · rintro (⟨p, q, g0, g1, g2, g3, g4, g5⟩ | rfl)
      · exact ⟨p, q, g0, g1, g2, by omega, g4, g5⟩
      · exact ⟨a, b, h0, h1, h2, by omega, hf, rfl⟩
    · rintro ⟨p, q, g0, g1, g2, g3, g4, g5⟩
      by_cases hpq : p = a ∧ q = b
      · obtain ⟨rfl, rfl⟩ := hpq
        exact .inr g5
      · exact .inl ⟨p, q, g0, g1, g2, by omega, g4, g5⟩
theorem EdD.no {al : List Way} {V a b : Int} {es : List Ed} (h : EdD al V a b es) (hf : ¬(0 ≤ faceOf al a b ∨ 0 ≤ faceOf al b a)) : EdD al V a (b + 1) es := by
  refine ⟨h.sorted, fun e => ?_⟩
  rw [h.mem]
  constructor
  · rintro ⟨p, q, g0, g1, g2, g3, g4, g5⟩
    exact ⟨p, q, g0, g1, g2, by omega, g4, g5⟩
  · rintro ⟨p, q, g0, g1, g2, g3, g4, g5⟩
    by_cases hpq : p = a ∧ q = b
    · obtain ⟨rfl, rfl⟩ := hpq
      exact absurd g4 hf
    · exact ⟨p, q, g0, g1, g2, by omega, g4, g5⟩
theorem EdD.row {al : List Way} {V a b : Int} {es : List Ed} (h : EdD al V a b es) (hb : V ≤ b) : EdD al V (a + 1) (a + 1 + 1) es := by
  refine ⟨h.sorted, fun e => ?_⟩
  rw [h.mem]
  constructor
  · rintro ⟨p, q, g0, g1, g2, g3, g4, g5⟩
    exact ⟨p, q, g0, g1, g2, by omega, g4, g5⟩
  · rintro ⟨p, q, g0, g1, g2, g3, g4, g5⟩
    exact ⟨p, q, g0, g1, g2, by omega, g4, g5⟩
theorem faceOf_in {fs : List (List Int)} (ok : WalkG fs) (a b : Int) : 0 ≤ faceOf (waysL 0 fs) a b ↔ ∃ w ∈ waysL 0 fs, w.a = a ∧ w.b = b := by
  rw [← look_ne]
  have h1 := faceOf_ge ok.long a b
  have h2 := faceOf_neg ok.long a b
  constructor
  · intro h e; have := h2.2 e; omega
  · intro h; have : ¬ faceOf (waysL 0 fs) a b = -1 := fun e => h (h2.1 e); omega
theorem EdD.edges {fs : List (List Int)} (ok : WalkG fs) {V a b : Int} {es : List Ed} (hin : InR V (waysL 0 fs)) (h : EdD (waysL 0 fs) V a b es) (ha : V ≤ a) : EdgesR (waysL 0 fs) es := by
  refine ⟨h.sorted, fun e => ?_⟩
  rw [h.mem]
  constructor
  · rintro ⟨p, q, g0, g1, g2, g3, g4, rfl⟩
    rcases g4 with g4 | g4
    · obtain ⟨w, hw, rfl, rfl⟩ := (faceOf_in ok _ _).1 g4
      exact ⟨w, hw, by rw [Int.min_eq_left (by omega), Int.max_eq_right (by omega)]⟩
    · obtain ⟨w, hw, rfl, rfl⟩ := (faceOf_in ok _ _).1 g4
      exact ⟨w, hw, by rw [Int.min_eq_right (by omega), Int.max_eq_left (by omega)]⟩
  · rintro ⟨w, hw, rfl⟩
    have hne := ok.ne hw
    have hb := hin w hw
    obtain ⟨d, hd⟩ := ok.prev hw
    have hA := hin _ hd
    simp only at hA
    rcases Int.lt_or_gt_of_ne hne with q | q
    · rw [Int.min_eq_left (by omega), Int.max_eq_right (by omega)]
      exact ⟨w.a, w.b, by omega, q, by omega, by omega, .inl ((faceOf_in ok _ _).2 ⟨w, hw, rfl, rfl⟩), rfl⟩
    · rw [Int.min_eq_right (by omega), Int.max_eq_left (by omega)]
      exact ⟨w.b, w.a, by omega, q, by omega, by omega, .inr ((faceOf_in ok _ _).2 ⟨w, hw, rfl, rfl⟩), rfl⟩
end Go.Proofs.Ytbehobojgeganaa
