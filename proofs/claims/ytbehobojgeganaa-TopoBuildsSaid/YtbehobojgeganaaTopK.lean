/- The document's Build against the surface (math). -/
import Derived.Test.YtbehobojgeganaaTopI
import Derived.Test.YtbehobojgeganaaTopE
import Derived.Test.YtbehobojgeganaaTopJ
namespace Go.Proofs.Ytbehobojgeganaa
set_option linter.unusedVariables false
set_option linter.unusedSimpArgs false
set_option linter.unnecessarySimpa false
theorem good_parts {V : Int} {fs : List (List Int)} (hg : GoodD V fs) : Long fs ∧ InR V (waysL 0 fs) ∧ Apart (waysL 0 fs) := by
  have hl : Long fs := fun x hx => (hg x hx).three
  have hnd : ∀ x ∈ fs, x.Nodup := fun x hx => by
    show x.Pairwise (· ≠ ·)
    rw [List.pairwise_iff_getElem]
    intro i j hi hj hij e
    have := ((hg x hx).one j hj).2.2 i hij
    rw [getD_at hi, getD_at hj] at this
    exact this e.symm
  refine ⟨hl, ?_, ?_⟩
  · intro w hw
    obtain ⟨j, hj, hw2⟩ := (mem_waysL fs 0 w).1 hw
    have hx := List.getElem_mem hj
    obtain ⟨i, hi, rfl⟩ := (mem_waysF (by have := hl _ hx; omega)).1 hw2
    have := (hg _ hx).one i hi
    exact ⟨this.1, this.2.1⟩
  · have hk : KeyU (waysL 0 fs) := keyU_of fun w hw => by
      obtain ⟨j, hj, hw2⟩ := (mem_waysL fs 0 w).1 hw
      have hx := List.getElem_mem hj
      have h3 := hl _ hx
      obtain ⟨i, hi, rfl⟩ := (mem_waysF (by omega)).1 hw2
      have hb := mod_back hi (by omega : 2 ≤ fs[j].length)
      have hgo := (hg _ hx).goes _ hb.2
      have e1 : ((i + fs[j].length - 1) % fs[j].length + 1) % fs[j].length = i := by
        rw [mod1 hi]
        by_cases hz : i = 0
        · rw [if_pos hz, show fs[j].length - 1 + 1 = fs[j].length by omega, Nat.mod_self, hz]
        · rw [if_neg hz, show i - 1 + 1 = i by omega, Nat.mod_eq_of_lt hi]
      rw [e1] at hgo
      exact along_one hl hgo
    exact List.Pairwise.and (tofU fs 0 hl hnd) hk
theorem good_g {V : Int} {fs : List (List Int)} (hg : GoodD V fs) : WalkG fs := ⟨(good_parts hg).1, (good_parts hg).2.2⟩
theorem good_pos {V : Int} {fs : List (List Int)} (hg : GoodD V fs) : ∀ x ∈ fs, ∀ y ∈ x, 0 ≤ y := fun x hx y hy => by
  obtain ⟨i, hi, rfl⟩ := List.mem_iff_getElem.mp hy
  have := ((hg x hx).one i hi).1
  rw [getD_at hi] at this
  exact this
theorem surf_good {V : Int} {fs : List (List Int)} (h : Surf V fs) : GoodD V fs := ((good_walk h.1.pos).2 h.1).1
theorem surf_froms {V : Int} {fs : List (List Int)} (h : Surf V fs) {v : Int} (h0 : 0 ≤ v) (h1 : v < V) : froms (waysL 0 fs) v ≠ [] := fun e => by
  obtain ⟨w, hw, hb⟩ := h.1.all v h0 h1
  obtain ⟨d, hd⟩ := h.1.next hw
  have : (⟨w.b, d, w.f, w.a⟩ : Way) ∈ froms (waysL 0 fs) v := mem_froms.2 ⟨hd, hb⟩
  rw [e] at this; cases this
theorem hub_startW {al : List Way} {v : Int} (h : froms al v ≠ []) : ∃ w, StartW al v w ∧ w.b = (hubOf al v al).1 := by
  obtain ⟨w, hw, e, hd⟩ := hubOf_to al v al h
  exact ⟨w, ⟨hw, hd⟩, e⟩
theorem fan_ok {fs : List (List Int)} (ok : WalkG fs) {v : Int} {w0 : Way} {L : List Way} {r : Bool} (h0 : StartW (waysL 0 fs) v w0) (h : FanR (waysL 0 fs) v w0.b L r) (hl : L.length = (froms (waysL 0 fs) v).length) : FanR (waysL 0 fs) v (hubOf (waysL 0 fs) v (waysL 0 fs)).1 L r := by
  obtain ⟨w1, h1, e⟩ := hub_startW (fun e => by have := h0.1; rw [e] at this; cases this)
  have := start_same ok h0 h1 h.toFanC hl
  rw [← e, ← this]; exact h
theorem fan_full {V : Int} {fs : List (List Int)} (hs : Surf V fs) {v : Int} (g0 : 0 ≤ v) (g1 : v < V) {w0 : Way} {L : List Way} {r : Bool} (h0 : StartW (waysL 0 fs) v w0) (h : FanR (waysL 0 fs) v w0.b L r) : L.length = (froms (waysL 0 fs) v).length := by
  have ok := hs.1.g
  obtain ⟨w1, h1, e⟩ := hub_startW (surf_froms hs g0 g1)
  obtain ⟨M, s, hM, hl⟩ := hs.2 v g0 g1
  rw [← e] at hM
  have := start_same ok h1 h0 hM.toFanC hl
  rw [this] at hM
  rw [(h.unique ok.apart hM).1]; exact hl
theorem edD_le {fs : List (List Int)} (ok : WalkG fs) {V a b : Int} {es : List Ed} (h : EdD (waysL 0 fs) V a b es) : es.length ≤ (waysL 0 fs).length := by
  have := nodup_le es ((waysL 0 fs).map fun w => edOf (waysL 0 fs) (min w.a w.b) (max w.a w.b)) (sorted_nodup h.sorted) (fun e he => by
    obtain ⟨p, q, g0, g1, g2, g3, g4, rfl⟩ := (h.mem e).1 he
    rw [List.mem_map]
    rcases g4 with g4 | g4
    · obtain ⟨w, hw, rfl, rfl⟩ := (faceOf_in ok _ _).1 g4
      exact ⟨w, hw, by rw [Int.min_eq_left (by omega), Int.max_eq_right (by omega)]⟩
    · obtain ⟨w, hw, rfl, rfl⟩ := (faceOf_in ok _ _).1 g4
      exact ⟨w, hw, by rw [Int.min_eq_right (by omega), Int.max_eq_left (by omega)]⟩)
  simpa using this
/-- Every fan being whole, the faces are a surface's. -/
theorem dsurf {V : Int} {fs : List (List Int)} (h0 : 0 ≤ V) (hg : GoodD V fs) (hF : ∀ v : Int, 0 ≤ v → v < V → ∃ L r, FanR (waysL 0 fs) v (hubOf (waysL 0 fs) v (waysL 0 fs)).1 L r ∧ L.length = (froms (waysL 0 fs) v).length ∧ L ≠ []) : Surf V fs := by
  have ok := good_g hg
  refine ⟨(good_walk h0).1 ⟨hg, fun v g0 g1 => ?_⟩, fun v g0 g1 => ?_⟩
  · obtain ⟨L, r, h1, h2, h3⟩ := hF v g0 g1
    cases L with
    | nil => exact absurd rfl h3
    | cons w l =>
      obtain ⟨hw, ha⟩ := h1.mem w (by simp)
      obtain ⟨d, hd⟩ := ok.prev hw
      exact ⟨_, hd, ha⟩
  · obtain ⟨L, r, h1, h2, _⟩ := hF v g0 g1
    exact ⟨L, r, h1, h2⟩
end Go.Proofs.Ytbehobojgeganaa
