/- Fans, as the document finds them (math). -/
import Derived.Test.YtbehobojgeganaaTopX
import Derived.Test.YtbehobojgeganaaTopT
namespace Go.Proofs.Ytbehobojgeganaa
set_option linter.unusedVariables false
set_option linter.unusedSimpArgs false
set_option linter.unnecessarySimpa false
/-- Right ways, whether or not each vertex is in a face. -/
structure WalkG (fs : List (List Int)) : Prop where
  long : Long fs
  apart : Apart (waysL 0 fs)
theorem WalkOk.g {n : Int} {fs : List (List Int)} (h : WalkOk n fs) : WalkG fs := ⟨h.long, h.apart⟩
theorem WalkG.keyU {fs : List (List Int)} (h : WalkG fs) : KeyU (waysL 0 fs) := List.Pairwise.imp (fun h => h.2) h.apart
theorem WalkG.prev {fs : List (List Int)} (h : WalkG fs) {w : Way} (hw : w ∈ waysL 0 fs) : ∃ d, (⟨w.c, w.a, w.f, d⟩ : Way) ∈ waysL 0 fs := by
  obtain ⟨j, hj, hm⟩ := (mem_waysL fs 0 w).1 hw
  have hl := h.long _ (List.getElem_mem hj)
  obtain ⟨d, hd⟩ := waysF_prev (by omega) hm
  rw [← waysF_f (by omega) hm] at hd
  exact ⟨d, (mem_waysL fs 0 _).2 ⟨j, hj, by rw [waysF_f (by omega) hm] at hd ⊢; exact hd⟩⟩
theorem WalkG.next {fs : List (List Int)} (h : WalkG fs) {w : Way} (hw : w ∈ waysL 0 fs) : ∃ e, (⟨w.b, e, w.f, w.a⟩ : Way) ∈ waysL 0 fs := by
  obtain ⟨j, hj, hm⟩ := (mem_waysL fs 0 w).1 hw
  have hl := h.long _ (List.getElem_mem hj)
  obtain ⟨d, hd⟩ := waysF_next (by omega) hm
  exact ⟨d, (mem_waysL fs 0 _).2 ⟨j, hj, by rw [waysF_f (by omega) hm]; exact hd⟩⟩
theorem WalkG.corner {fs : List (List Int)} (h : WalkG fs) (j : Nat) (hj : j < fs.length) {i i2 : Nat} (hi : i < fs[j].length) (hi2 : i2 < fs[j].length) (e : fs[j].getD i 0 = fs[j].getD i2 0) : i = i2 := by
  apply Classical.byContradiction
  intro hne
  have hl := h.long _ (List.getElem_mem hj)
  have pl : ∀ (i : Nat) (hi : i < fs[j].length), (waysL 0 fs)[(waysL 0 (fs.take j)).length + i]? = (waysF ((0 + j : Nat) : Int) fs[j])[i]? := fun i hi => by
    rw [waysL_split fs 0 j hj, List.append_assoc, List.getElem?_append_right (by omega), List.getElem?_append_left (by rw [waysF_length]; omega)]
    congr 1; omega
  have l1 := pl _ hi
  have l2 := pl _ hi2
  rw [waysF_get _ _ (by omega) _ hi] at l1
  rw [waysF_get _ _ (by omega) _ hi2] at l2
  obtain ⟨b1, f1⟩ := List.getElem?_eq_some_iff.1 l1
  obtain ⟨b2, f2⟩ := List.getElem?_eq_some_iff.1 l2
  have := h.apart.at_ b1 b2 (by omega)
  rw [f1, f2] at this
  exact this.1 ⟨e, rfl⟩
theorem WalkG.ne {fs : List (List Int)} (h : WalkG fs) {w : Way} (hw : w ∈ waysL 0 fs) : w.a ≠ w.b := fun e => by
  obtain ⟨j, hj, hm⟩ := (mem_waysL fs 0 w).1 hw
  have hl := h.long _ (List.getElem_mem hj)
  obtain ⟨i, hi, rfl⟩ := (mem_waysF (by omega)).1 hm
  simp only at e
  have h2 : (i + fs[j].length - 1) % fs[j].length < fs[j].length := Nat.mod_lt _ (by omega)
  have := h.corner j hj h2 hi e
  rw [mod1 hi] at this
  split at this <;> omega
theorem WalkG.fromf {fs : List (List Int)} (h : WalkG fs) {x y : Way} (hx : x ∈ waysL 0 fs) (hy : y ∈ waysL 0 fs) (h1 : x.a = y.a) (h2 : x.f = y.f) : x = y := by
  obtain ⟨j, hj, hm⟩ := (mem_waysL fs 0 x).1 hx
  obtain ⟨k, hk, hm2⟩ := (mem_waysL fs 0 y).1 hy
  have hl := h.long _ (List.getElem_mem hj)
  have hl2 := h.long _ (List.getElem_mem hk)
  have e1 := waysF_f (by omega) hm
  have e2 := waysF_f (by omega) hm2
  have : j = k := by rw [e1, e2] at h2; omega
  subst this
  obtain ⟨i, hi, e3⟩ := (mem_waysF (by omega)).1 hm
  obtain ⟨i2, hi2, e4⟩ := (mem_waysF (by omega)).1 hm2
  obtain ⟨m1, m2⟩ := mod_back hi (by omega)
  obtain ⟨m3, m4⟩ := mod_back hi2 (by omega)
  have p1 := (mem_waysL fs 0 _).2 ⟨j, hj, (mem_waysF (by omega)).2 ⟨_, m2, rfl⟩⟩
  have p2 := (mem_waysL fs 0 _).2 ⟨j, hk, (mem_waysF (by omega)).2 ⟨_, m4, rfl⟩⟩
  have e5 := h.apart.tof p1 p2 (by rw [e3, e4] at h1; exact h1) rfl
  have q1 : x.b = y.b := by
    have g1 := (mem_waysL fs 0 x).1 hx
    -- the places are the same: else two corners of the face are one
    by_cases e : (i + fs[j].length - 1) % fs[j].length = (i2 + fs[j].length - 1) % fs[j].length
    · have : i = i2 := mod_inj hi hi2 e
      subst this
      rw [e3, e4]
    · exfalso
      exact e (h.corner j hj m2 m4 (by rw [e3, e4] at h1; exact h1))
  exact h.apart.key hx hy h1 q1
theorem WalkG.cinj {fs : List (List Int)} (h : WalkG fs) {x y : Way} (hx : x ∈ waysL 0 fs) (hy : y ∈ waysL 0 fs) (h1 : x.a = y.a) (h2 : x.c = y.c) : x = y := by
  obtain ⟨d, hd⟩ := h.prev hx
  obtain ⟨e, he⟩ := h.prev hy
  have this : (⟨x.c, x.a, x.f, d⟩ : Way) = ⟨y.c, y.a, y.f, e⟩ := h.apart.key hd he h2 h1
  have hf : x.f = y.f := by simpa using congrArg Way.f this
  exact h.fromf hx hy h1 hf
theorem FanC.nodupG {fs : List (List Int)} (ok : WalkG fs) {v start : Int} {L : List Way} (h : FanC (waysL 0 fs) v start L) : L.Nodup := by
  rw [List.nodup_iff_pairwise_ne, List.pairwise_iff_getElem]
  intro i
  induction i with
  | zero =>
    intro j hi hj hij e
    have h1 := h.link (j - 1) (by omega)
    have h2 := h.mid (j - 1) (by omega)
    have h3 := h.first hi
    simp only [show j - 1 + 1 = j by omega] at h1
    rw [← e] at h1
    exact h2 (h1.symm.trans h3)
  | succ i ih =>
    intro j hi hj hij e
    have h1 := h.link (j - 1) (by omega)
    have h2 := h.link i hi
    simp only [show j - 1 + 1 = j by omega] at h1
    have m1 := h.mem _ (List.getElem_mem (show i < L.length by omega))
    have m2 := h.mem _ (List.getElem_mem (show j - 1 < L.length by omega))
    refine ih (j - 1) (by omega) (by omega) (by omega) (ok.cinj m1.1 m2.1 (m1.2.trans m2.2.symm) ?_)
    rw [← h2, ← h1, e]
theorem FanC.leG {fs : List (List Int)} (ok : WalkG fs) {v start : Int} {L : List Way} (h : FanC (waysL 0 fs) v start L) : L.length ≤ (froms (waysL 0 fs) v).length :=
  nodup_le _ _ (h.nodupG ok) fun w hw => mem_froms.2 (h.mem w hw)
theorem side_wayG {fs : List (List Int)} (ok : WalkG fs) (f i : Nat) (hf : f < fs.length) (hi : i < fs[f].length) : ∃ c, (⟨fs[f].getD i 0, fs[f].getD ((i + 1) % fs[f].length) 0, (f : Int), c⟩ : Way) ∈ waysL 0 fs := by
  have hl := ok.long _ (List.getElem_mem hf)
  obtain ⟨e1, e2, e3⟩ := mod_forth hi (show 2 ≤ fs[f].length by omega)
  have h1 := (mem_waysL fs 0 _).2 ⟨f, hf, (mem_waysF (by omega)).2 ⟨_, e2, rfl⟩⟩
  rw [e1] at h1
  simp only [Nat.zero_add] at h1
  exact ⟨_, h1⟩
theorem faceOf_wayG {fs : List (List Int)} (ok : WalkG fs) {w : Way} (hw : w ∈ waysL 0 fs) : faceOf (waysL 0 fs) w.a w.b = w.f := by
  unfold faceOf
  rw [look_mem ok.apart hw]; rfl

theorem filter_at {α : Type} {p : α → Bool} {l : List α} {j : Nat} (hj : j < l.length) (hp : p l[j] = true) (hn : ∀ i (h : i < l.length), i ≠ j → p l[i] = false) : l.filter p = [l[j]] := by
  have e : l = l.take j ++ l[j] :: l.drop (j + 1) := by rw [← List.drop_eq_getElem_cons hj, List.take_append_drop]
  have h1 : (l.take j).filter p = [] := by
    rw [List.filter_eq_nil_iff]
    intro x hx
    obtain ⟨i, hi, rfl⟩ := List.mem_iff_getElem.mp hx
    rw [List.getElem_take, hn i (by simp at hi; omega) (by simp at hi; omega)]; simp
  have h2 : (l.drop (j + 1)).filter p = [] := by
    rw [List.filter_eq_nil_iff]
    intro x hx
    obtain ⟨i, hi, rfl⟩ := List.mem_iff_getElem.mp hx
    rw [List.getElem_drop, hn (j + 1 + i) (by simp at hi; omega) (by omega)]; simp
  generalize l[j] = y at *
  rw [e, List.filter_append, List.filter_cons, if_pos hp, h1, h2]; rfl
theorem WalkG.nodup {fs : List (List Int)} (h : WalkG fs) (j : Nat) (hj : j < fs.length) : fs[j].Nodup := by
  show fs[j].Pairwise (· ≠ ·)
  rw [List.pairwise_iff_getElem]
  intro i k hi hk hik e
  have := h.corner j hj hi hk (by rw [getD_at hi, getD_at hk]; exact e)
  omega
theorem nextV_nd {x : List Int} (hn : x.Nodup) {i : Nat} (hi : i < x.length) (d : Int) : nextV x (x.getD i 0) d = x.getD (((i : Int) + (x.length : Int) + d) % (x.length : Int)).toNat 0 :=
  nextV_at hi rfl fun j hj e => by
    rw [getD_at hi, getD_at (by omega : j < x.length)] at e
    have := (List.pairwise_iff_getElem.1 hn) j i (by omega) hi hj
    exact this e
theorem nextV_1 {x : List Int} (hn : x.Nodup) {i : Nat} (hi : i < x.length) : nextV x (x.getD i 0) 1 = x.getD ((i + 1) % x.length) 0 := by
  rw [nextV_nd hn hi]
  congr 1
  have : ((i : Int) + (x.length : Int) + 1) % (x.length : Int) = (((i + 1) % x.length : Nat) : Int) := by
    rw [show (i : Int) + (x.length : Int) + 1 = ((i + 1 : Nat) : Int) + (x.length : Int) by omega, Int.add_emod_right]; simp
  rw [this]; exact Int.toNat_natCast _
theorem nextV_2 {x : List Int} (hn : x.Nodup) {i : Nat} (hi : i < x.length) : nextV x (x.getD i 0) (-1) = x.getD ((i + x.length - 1) % x.length) 0 := by
  rw [nextV_nd hn hi]
  congr 1
  have : ((i : Int) + (x.length : Int) + (-1)) % (x.length : Int) = (((i + x.length - 1) % x.length : Nat) : Int) := by
    rw [show (i : Int) + (x.length : Int) + (-1) = ((i + x.length - 1 : Nat) : Int) by omega]; simp
  rw [this]; exact Int.toNat_natCast _
/-- A face's one way out of a vertex of its own. -/
theorem fromsF {f : Int} {x : List Int} (hn : x.Nodup) (h3 : 3 ≤ x.length) (v : Int) : froms (waysF f x) v = if v ∈ x then [⟨v, nextV x v 1, f, nextV x v (-1)⟩] else [] := by
  by_cases hv : v ∈ x
  · rw [if_pos hv]
    obtain ⟨i, hi, rfl⟩ := List.mem_iff_getElem.mp hv
    rw [← getD_at hi]
    obtain ⟨m1, m2, m3⟩ := mod_forth hi (by omega : 2 ≤ x.length)
    have hl : (i + 1) % x.length < (waysF f x).length := by rw [waysF_length]; exact m2
    have hg : ∀ k (hk : k < (waysF f x).length), (waysF f x)[k] = ⟨x.getD ((k + x.length - 1) % x.length) 0, x.getD k 0, f, x.getD ((k + x.length - 2) % x.length) 0⟩ := fun k hk => by
      have := waysF_get f x (by omega) k (by rw [waysF_length] at hk; exact hk)
      rw [List.getElem?_eq_getElem hk] at this
      exact Option.some.inj this
    have := filter_at (p := fun w : Way => w.a == x.getD i 0) hl (by rw [hg _ hl, m1]; simp) (fun k hk hne => by
      rw [hg k hk]
      have hk2 : k < x.length := by rw [waysF_length] at hk; exact hk
      have h4 : (k + x.length - 1) % x.length < x.length := Nat.mod_lt _ (by omega)
      have h5 : (k + x.length - 1) % x.length ≠ i := fun e => hne (by
        apply mod_inj hk2 m2
        rw [e, m1])
      have h6 : x[(k + x.length - 1) % x.length] ≠ x[i] := fun e => by
        rcases Nat.lt_or_gt_of_ne h5 with q | q
        · exact (List.pairwise_iff_getElem.1 hn) _ _ h4 hi q e
        · exact (List.pairwise_iff_getElem.1 hn) _ _ hi h4 q e.symm
      simp only [getD_at h4, getD_at hi]
      simpa using h6)
    unfold froms
    rw [this, hg _ hl, m1, m3, nextV_1 hn hi, nextV_2 hn hi]
  · rw [if_neg hv]
    unfold froms
    rw [List.filter_eq_nil_iff]
    intro w hw e
    obtain ⟨i, hi, rfl⟩ := (mem_waysF (by omega)).1 hw
    have h4 : (i + x.length - 1) % x.length < x.length := Nat.mod_lt _ (by omega)
    simp only [getD_at h4, beq_iff_eq] at e
    exact hv (e ▸ List.getElem_mem h4)
theorem nextV_in {x : List Int} {v : Int} (hv : v ∈ x) (hn : x.Nodup) (d : Int) (hx : ∀ y ∈ x, 0 ≤ y) : 0 ≤ nextV x v d := by
  obtain ⟨i, hi, rfl⟩ := List.mem_iff_getElem.mp hv
  rw [← getD_at hi, nextV_nd hn hi]
  have m0 : 0 ≤ ((i : Int) + (x.length : Int) + d) % (x.length : Int) := Int.emod_nonneg _ (by omega)
  have m1 : ((i : Int) + (x.length : Int) + d) % (x.length : Int) < (x.length : Int) := Int.emod_lt_of_pos _ (by omega)
  have h : (((i : Int) + (x.length : Int) + d) % (x.length : Int)).toNat < x.length := by omega
  rw [getD_at h]
  exact hx _ (List.getElem_mem h)
theorem nextV_out {x : List Int} {v d : Int} (hv : ¬ v ∈ x) : nextV x v d = -1 :=
  nextV_no fun j hj e => hv (by rw [getD_at hj] at e; exact e ▸ List.getElem_mem hj)
theorem froms_take {fs : List (List Int)} (ok : WalkG fs) (v : Int) (f : Nat) (hf : f < fs.length) : froms (waysL 0 (fs.take (f + 1))) v = froms (waysL 0 (fs.take f)) v ++ if v ∈ fs[f] then [⟨v, nextV fs[f] v 1, f, nextV fs[f] v (-1)⟩] else [] := by
  rw [List.take_succ_eq_append_getElem hf, waysL_append, waysL, waysL, List.append_nil]
  have e : ((0 + (fs.take f).length : Nat) : Int) = (f : Int) := by simp; omega
  rw [e, ← fromsF (ok.nodup f hf) (ok.long _ (List.getElem_mem hf)) v]
  simp [froms, List.filter_append]
/-- What the vertices ahead of and behind a way's start are. -/
theorem way_next {fs : List (List Int)} (ok : WalkG fs) {w : Way} (hw : w ∈ waysL 0 fs) : ∃ j : Nat, ∃ h : j < fs.length, w.f = (j : Int) ∧ nextV fs[j] w.a 1 = w.b ∧ nextV fs[j] w.a (-1) = w.c := by
  obtain ⟨j, hj, hm⟩ := (mem_waysL fs 0 w).1 hw
  have h3 := ok.long _ (List.getElem_mem hj)
  refine ⟨j, hj, by have := waysF_f (by omega) hm; omega, ?_⟩
  have h4 : w ∈ froms (waysF ((0 + j : Nat) : Int) fs[j]) w.a := mem_froms.2 ⟨hm, rfl⟩
  rw [fromsF (ok.nodup j hj) h3] at h4
  split at h4
  · have e := List.mem_singleton.1 h4
    exact ⟨(congrArg Way.b e).symm, (congrArg Way.c e).symm⟩
  · cases h4
/-- A way that a search may begin with. -/
def StartW (al : List Way) (v : Int) (w : Way) : Prop := w ∈ froms al v ∧ (look al w.b w.a = none ∨ ((froms al v).head? = some w ∧ ∀ u ∈ froms al v, look al u.b u.a ≠ none))
theorem fan_has {fs : List (List Int)} (ok : WalkG fs) {v start : Int} {L : List Way} (h : FanC (waysL 0 fs) v start L) (hl : L.length = (froms (waysL 0 fs) v).length) : ∀ w ∈ froms (waysL 0 fs) v, w ∈ L :=
  nodup_all _ _ (h.nodupG ok) (fun w hw => mem_froms.2 (h.mem w hw)) (by omega)
/-- One that has one ahead of it isn't open. -/
theorem ahead {fs : List (List Int)} (ok : WalkG fs) {w u : Way} (hu : u ∈ waysL 0 fs) (h1 : u.a = w.a) (h2 : u.c = w.b) : look (waysL 0 fs) w.b w.a ≠ none := fun e => by
  obtain ⟨d, hd⟩ := ok.prev hu
  exact look_none e _ hd ⟨h2, h1⟩
theorem start_same {fs : List (List Int)} (ok : WalkG fs) {v : Int} {w0 w1 : Way} (h0 : StartW (waysL 0 fs) v w0) (h1 : StartW (waysL 0 fs) v w1) {L : List Way} (h : FanC (waysL 0 fs) v w0.b L) (hl : L.length = (froms (waysL 0 fs) v).length) : w0.b = w1.b := by
  have hL := fan_has ok h hl w1 h1.1
  have a1 := (mem_froms.1 h1.1).2
  rcases h1.2 with ho | ⟨hh, hc⟩
  · obtain ⟨i, hi, e⟩ := List.mem_iff_getElem.mp hL
    cases i with
    | zero => rw [← e, h.first hi]
    | succ i =>
      exfalso
      have hlk := h.link i hi
      rw [e] at hlk
      have hm := h.mem _ (List.getElem_mem (show i < L.length by omega))
      exact ahead ok hm.1 (hm.2.trans a1.symm) hlk.symm ho
  · rcases h0.2 with ho | ⟨hh2, _⟩
    · exact absurd ho (hc w0 h0.1)
    · rw [hh] at hh2; rw [Option.some.inj hh2]
theorem fan_round {fs : List (List Int)} (ok : WalkG fs) {v : Int} {w0 : Way} (h0 : StartW (waysL 0 fs) v w0) {L : List Way} {r : Bool} (h : FanR (waysL 0 fs) v w0.b L r) (hl : L.length = (froms (waysL 0 fs) v).length) : r = true ↔ ∀ u ∈ froms (waysL 0 fs) v, look (waysL 0 fs) u.b u.a ≠ none := by
  have a0 := mem_froms.1 h0.1
  constructor
  · intro hr
    rcases h0.2 with ho | ⟨_, hc⟩
    · exfalso
      obtain ⟨hne, he⟩ := h.back hr
      have hp : 0 < L.length := List.length_pos_iff.2 hne
      rw [ends_at _ hp] at he
      have hm := h.mem _ (List.getElem_mem (show L.length - 1 < L.length by omega))
      exact ahead ok hm.1 (hm.2.trans a0.2.symm) he ho
    · exact hc
  · intro hc
    cases r with
    | true => rfl
    | false =>
      exfalso
      have hs := h.stop rfl
      cases hk : look (waysL 0 fs) w0.b w0.a with
      | none => exact hc w0 h0.1 hk
      | some p =>
        obtain ⟨hp, p1, p2⟩ := look_some hk
        obtain ⟨e, he⟩ := ok.next hp
        have hL := fan_has ok h.toFanC hl ⟨p.b, e, p.f, p.a⟩ (mem_froms.2 ⟨he, p2.trans a0.2⟩)
        obtain ⟨i, hi, ei⟩ := List.mem_iff_getElem.mp hL
        have hc2 : L[i].c = w0.b := by rw [ei]; exact p1
        have hlast : i + 1 = L.length := by
          rcases Nat.lt_or_ge (i + 1) L.length with q | q
          · exact absurd hc2 (h.mid i q)
          · omega
        rcases hs.2 with q | q
        · rw [q] at hi; simp at hi
        · apply q
          rw [ends_at _ (by omega)]
          have : L.length - 1 = i := by omega
          simp only [this]
          exact hc2
end Go.Proofs.Ytbehobojgeganaa
