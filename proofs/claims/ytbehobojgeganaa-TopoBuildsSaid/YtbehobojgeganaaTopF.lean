/- Fans: the chain of ways about a vertex that the program goes along; hubs; the edges. No program is imported. -/
import Derived.Test.YtbehobojgeganaaTopM
namespace Go.Proofs.Ytbehobojgeganaa
set_option linter.unusedVariables false
set_option linter.unusedSimpArgs false
theorem nodup_le {α : Type} : ∀ (L M : List α), L.Nodup → (∀ x ∈ L, x ∈ M) → L.length ≤ M.length
  | [], M, _, _ => Nat.zero_le _
  | x :: L, M, h, hs => by
    obtain ⟨s, t, rfl⟩ := List.append_of_mem (hs x (by simp))
    have h2 := List.nodup_cons.1 h
    have := nodup_le L (s ++ t) h2.2 fun y hy => by
      have := hs y (List.mem_cons_of_mem _ hy)
      simp only [List.mem_append, List.mem_cons] at this ⊢
      rcases this with h | rfl | h
      · exact .inl h
      · exact absurd hy h2.1
      · exact .inr h
    simp only [List.length_append, List.length_cons] at this ⊢
    omega
/-- Without doubles, and no fewer: all of them. -/
theorem nodup_all {α : Type} (L M : List α) (h : L.Nodup) (hs : ∀ x ∈ L, x ∈ M) (hl : M.length ≤ L.length) : ∀ x ∈ M, x ∈ L := fun x hx => by
  apply Classical.byContradiction
  intro hn
  have := nodup_le (x :: L) M (List.nodup_cons.2 ⟨hn, h⟩) (fun y hy => (List.mem_cons.1 hy).elim (fun e => e ▸ hx) (fun hy => hs y hy))
  simp at this; omega
def froms (al : List Way) (v : Int) : List Way := al.filter fun w => w.a == v
theorem mem_froms {al : List Way} {v : Int} {w : Way} : w ∈ froms al v ↔ w ∈ al ∧ w.a = v := by simp [froms]
def ends (L : List Way) (start : Int) : Int := (L.getLast?.map Way.c).getD start
theorem ends_nil (start : Int) : ends [] start = start := rfl
theorem ends_snoc (L : List Way) (w : Way) (start : Int) : ends (L ++ [w]) start = w.c := by simp [ends]
theorem ends_at {L : List Way} (start : Int) (h : 0 < L.length) : ends L start = (L[L.length - 1]'(by omega)).c := by
  unfold ends
  rw [List.getLast?_eq_getElem?, List.getElem?_eq_getElem (by omega)]; rfl
/-- A chain of ways about v, each behind the one ahead of it, begun at start and not yet come to it again. -/
structure FanC (al : List Way) (v start : Int) (L : List Way) : Prop where
  mem : ∀ w ∈ L, w ∈ al ∧ w.a = v
  first : ∀ h : 0 < L.length, L[0].b = start
  link : ∀ i (h : i + 1 < L.length), L[i + 1].b = L[i].c
  mid : ∀ i (h : i + 1 < L.length), L[i].c ≠ start
theorem FanC.nil (al : List Way) (v start : Int) : FanC al v start [] := ⟨by simp, fun h => by simp at h, fun i h => by simp at h, fun i h => by simp at h⟩
theorem FanC.snoc {al : List Way} {v start : Int} {L : List Way} (h : FanC al v start L) {w : Way} (hw : w ∈ al) (ha : w.a = v) (hb : w.b = ends L start) (hne : L = [] ∨ ends L start ≠ start) : FanC al v start (L ++ [w]) where
  mem x hx := by
    rcases List.mem_append.1 hx with hx | hx
    · exact h.mem x hx
    · obtain rfl := List.mem_singleton.1 hx; exact ⟨hw, ha⟩
  first h0 := by
    rcases Nat.eq_zero_or_pos L.length with e | e
    · obtain rfl := List.eq_nil_of_length_eq_zero e
      simpa [ends] using hb
    · rw [List.getElem_append_left e]; exact h.first e
  link i hi := by
    simp only [List.length_append, List.length_singleton] at hi
    rcases Nat.lt_or_ge (i + 1) L.length with e | e
    · rw [List.getElem_append_left e, List.getElem_append_left (by omega)]; exact h.link i e
    · have e2 : i + 1 = L.length := by omega
      rw [List.getElem_append_right (by omega), List.getElem_append_left (by omega)]
      simp only [e2, Nat.sub_self, List.getElem_cons_zero]
      rw [hb, ends_at start (by omega)]
      congr 2; omega
  mid i hi := by
    simp only [List.length_append, List.length_singleton] at hi
    rw [List.getElem_append_left (by omega)]
    rcases Nat.lt_or_ge (i + 1) L.length with e | e
    · exact h.mid i e
    · rcases hne with rfl | hne
      · simp at hi
      · rw [ends_at start (by omega)] at hne
        have e2 : i = L.length - 1 := by omega
        subst e2; exact hne
theorem FanC.nodup {n : Int} {fs : List (List Int)} (ok : WalkOk n fs) {v start : Int} {L : List Way} (h : FanC (waysL 0 fs) v start L) : L.Nodup := by
  rw [List.nodup_iff_pairwise_ne, List.pairwise_iff_getElem]
  intro i
  induction i with
  | zero =>
    intro j hi hj hij e
    have h1 := h.link (j - 1) (by omega)
    have h2 := h.mid (j - 1) (by omega)
    have h3 := h.first hi
    simp only [show j - 1 + 1 = j by omega] at h1
    rw [← e] at h1
    exact h2 (h1.symm.trans h3)
  | succ i ih =>
    intro j hi hj hij e
    have h1 := h.link (j - 1) (by omega)
    have h2 := h.link i hi
    simp only [show j - 1 + 1 = j by omega] at h1
    have m1 := h.mem _ (List.getElem_mem (show i < L.length by omega))
    have m2 := h.mem _ (List.getElem_mem (show j - 1 < L.length by omega))
    refine ih (j - 1) (by omega) (by omega) (by omega) (ok.cinj m1.1 m2.1 (m1.2.trans m2.2.symm) ?_)
    rw [← h2, ← h1, e]
theorem FanC.le {n : Int} {fs : List (List Int)} (ok : WalkOk n fs) {v start : Int} {L : List Way} (h : FanC (waysL 0 fs) v start L) : L.length ≤ (froms (waysL 0 fs) v).length :=
  nodup_le _ _ (h.nodup ok) fun w hw => mem_froms.2 (h.mem w hw)
/-- What the search answers: the ways that it has come along, and whether it came back to its start. -/
structure FanR (al : List Way) (v start : Int) (L : List Way) (r : Bool) : Prop extends FanC al v start L where
  back : r = true → L ≠ [] ∧ ends L start = start
  stop : r = false → (∀ w ∈ al, w.a = v → w.b ≠ ends L start) ∧ (L = [] ∨ ends L start ≠ start)
/-- The way from a to b, if there is one. -/
def look (al : List Way) (a b : Int) : Option Way := al.find? fun w => w.a == a && w.b == b
theorem look_some {al : List Way} {a b : Int} {w : Way} (h : look al a b = some w) : w ∈ al ∧ w.a = a ∧ w.b = b := by
  have h1 := List.find?_some h
  have h2 := List.mem_of_find?_eq_some h
  simp at h1
  exact ⟨h2, h1.1, h1.2⟩
theorem look_none {al : List Way} {a b : Int} (h : look al a b = none) : ∀ w ∈ al, ¬(w.a = a ∧ w.b = b) := fun w hw e => by
  have := List.find?_eq_none.1 h w hw
  simp [e.1, e.2] at this
theorem look_mem {al : List Way} (hA : Apart al) {w : Way} (hw : w ∈ al) : look al w.a w.b = some w := by
  cases h : look al w.a w.b with
  | none => exact absurd ⟨rfl, rfl⟩ (look_none h w hw)
  | some x =>
    obtain ⟨h1, h2, h3⟩ := look_some h
    rw [hA.key h1 hw h2 h3]
def faceOf (al : List Way) (a b : Int) : Int := ((look al a b).map Way.f).getD (-1)
theorem faceOf_neg {fs : List (List Int)} (hl : Long fs) (a b : Int) : faceOf (waysL 0 fs) a b = -1 ↔ look (waysL 0 fs) a b = none := by
  unfold faceOf
  cases h : look (waysL 0 fs) a b with
  | none => simp
  | some x =>
    obtain ⟨h1, _, _⟩ := look_some h
    obtain ⟨j, hj, hm⟩ := (mem_waysL fs 0 x).1 h1
    have := waysF_f (by have := hl _ (List.getElem_mem hj); omega) hm
    simp; omega
def hubStep (al : List Way) (s : Int × Nat) (w : Way) : Int × Nat := (if s.2 = 0 ∨ look al w.b w.a = none then w.b else s.1, s.2 + 1)
def hubOf (al : List Way) (v : Int) (P : List Way) : Int × Nat := (froms P v).foldl (hubStep al) (0, 0)
theorem froms_snoc (P : List Way) (w : Way) (v : Int) : froms (P ++ [w]) v = froms P v ++ (if w.a = v then [w] else []) := by
  unfold froms; rw [List.filter_append]; congr 1
  by_cases h : w.a = v <;> simp [h]
theorem hubOf_snoc (al P : List Way) (w : Way) (v : Int) : hubOf al v (P ++ [w]) = if w.a = v then hubStep al (hubOf al v P) w else hubOf al v P := by
  unfold hubOf
  rw [froms_snoc]
  split <;> simp
theorem hubOf_nil (al : List Way) (v : Int) : hubOf al v [] = (0, 0) := rfl
theorem hub_fold (al : List Way) : ∀ (Q : List Way) (s : Int × Nat), (Q.foldl (hubStep al) s).2 = s.2 + Q.length
  | [], s => rfl
  | w :: Q, s => by simp only [List.foldl_cons, hub_fold al Q, hubStep, List.length_cons]; omega
theorem hubOf_count (al P : List Way) (v : Int) : (hubOf al v P).2 = (froms P v).length := by
  unfold hubOf; rw [hub_fold]; simp
/-- Where a fan begins: at a way that follows no other, or, if there is none, at the first. -/
theorem hub_to (al : List Way) : ∀ (Q R : List Way) (s : Int × Nat), s.2 = R.length → (R ≠ [] → ∃ w ∈ R, w.b = s.1 ∧ (look al w.b w.a = none ∨ (R.head? = some w ∧ ∀ u ∈ R, look al u.b u.a ≠ none))) →
    (R ++ Q ≠ [] → ∃ w ∈ R ++ Q, w.b = (Q.foldl (hubStep al) s).1 ∧ (look al w.b w.a = none ∨ ((R ++ Q).head? = some w ∧ ∀ u ∈ R ++ Q, look al u.b u.a ≠ none)))
  | [], R, s, _, h => by simpa using h
  | x :: Q, R, s, hs, h => by
    have := hub_to al Q (R ++ [x]) (hubStep al s x) (by simp [hubStep, hs]) (fun _ => by
      unfold hubStep
      by_cases e : s.2 = 0 ∨ look al x.b x.a = none
      · simp only [if_pos e]
        refine ⟨x, by simp, rfl, ?_⟩
        by_cases e2 : look al x.b x.a = none
        · exact .inl e2
        · rcases e with e | e
          · have : R = [] := List.eq_nil_of_length_eq_zero (by omega)
            subst this
            exact .inr ⟨rfl, by simpa using e2⟩
          · exact absurd e e2
      · simp only [if_neg e]
        have e0 : s.2 ≠ 0 := fun h => e (.inl h)
        have e1 : look al x.b x.a ≠ none := fun h => e (.inr h)
        have hR : R ≠ [] := fun h => e0 (by rw [hs, h]; rfl)
        obtain ⟨w, hw, hb, hd⟩ := h hR
        refine ⟨w, List.mem_append_left _ hw, hb, hd.imp id fun ⟨h1, h2⟩ => ⟨?_, ?_⟩⟩
        · rw [List.head?_append, h1]; rfl
        · intro u hu
          rcases List.mem_append.1 hu with hu | hu
          · exact h2 u hu
          · obtain rfl := List.mem_singleton.1 hu; exact e1)
    rw [List.append_assoc, List.singleton_append] at this
    exact this
theorem hubOf_to (al : List Way) (v : Int) (P : List Way) (h : froms P v ≠ []) : ∃ w ∈ froms P v, w.b = (hubOf al v P).1 ∧ (look al w.b w.a = none ∨ ((froms P v).head? = some w ∧ ∀ u ∈ froms P v, look al u.b u.a ≠ none)) := by
  have := hub_to al (froms P v) [] (0, 0) rfl (fun h => absurd rfl h)
  simpa [hubOf] using this (by simpa using h)
theorem FanC.same {al : List Way} (hA : Apart al) {v start : Int} {L M : List Way} (h : FanC al v start L) (k : FanC al v start M) : ∀ i (h1 : i < L.length) (h2 : i < M.length), L[i] = M[i]
  | 0, h1, h2 => by
    have m1 := h.mem _ (List.getElem_mem h1)
    have m2 := k.mem _ (List.getElem_mem h2)
    exact hA.key m1.1 m2.1 (m1.2.trans m2.2.symm) ((h.first h1).trans (k.first h2).symm)
  | i + 1, h1, h2 => by
    have m1 := h.mem _ (List.getElem_mem h1)
    have m2 := k.mem _ (List.getElem_mem h2)
    refine hA.key m1.1 m2.1 (m1.2.trans m2.2.symm) ?_
    rw [h.link i h1, k.link i h2, FanC.same hA h k i (by omega) (by omega)]
theorem FanR.le {al : List Way} (hA : Apart al) {v start : Int} {L M : List Way} {r s : Bool} (h : FanR al v start L r) (k : FanR al v start M s) : M.length ≤ L.length := by
  apply Classical.byContradiction
  intro hlt
  have hl : L.length < M.length := by omega
  rcases Nat.eq_zero_or_pos L.length with h0 | h0
  · obtain rfl := List.eq_nil_of_length_eq_zero h0
    cases r with
    | true => exact (h.back rfl).1 rfl
    | false =>
      have m2 := k.mem _ (List.getElem_mem hl)
      exact (h.stop rfl).1 _ m2.1 m2.2 (k.first hl)
  · have e := h.toFanC.same hA k.toFanC (L.length - 1) (by omega) (by omega)
    have hen := ends_at start h0
    cases r with
    | true =>
      have := k.mid (L.length - 1) (by omega)
      rw [← e, ← hen] at this
      exact this (h.back rfl).2
    | false =>
      have m2 := k.mem _ (List.getElem_mem hl)
      have hk := k.link (L.length - 1) (by omega)
      simp only [show L.length - 1 + 1 = L.length by omega] at hk
      exact (h.stop rfl).1 _ m2.1 m2.2 (by rw [hk, ← e, hen])
theorem FanR.unique {al : List Way} (hA : Apart al) {v start : Int} {L M : List Way} {r s : Bool} (h : FanR al v start L r) (k : FanR al v start M s) : L = M ∧ r = s := by
  have h1 := h.le hA k
  have h2 := k.le hA h
  have e : L = M := List.ext_getElem (by omega) fun i a b => h.toFanC.same hA k.toFanC i a b
  subst e
  refine ⟨rfl, ?_⟩
  cases r <;> cases s
  · rfl
  · obtain ⟨h3, h4⟩ := k.back rfl
    rcases (h.stop rfl).2 with h5 | h5
    · exact absurd h5 h3
    · exact absurd h4 h5
  · obtain ⟨h3, h4⟩ := h.back rfl
    rcases (k.stop rfl).2 with h5 | h5
    · exact absurd h5 h3
    · exact absurd h4 h5
  · rfl
/-- An edge: its two vertices, the lower first; the face that goes along it, the one that comes back; -1: none. -/
structure Ed where
  a : Int
  b : Int
  f : Int
  g : Int
theorem Ed.ext4 {x y : Ed} (h1 : x.a = y.a) (h2 : x.b = y.b) (h3 : x.f = y.f) (h4 : x.g = y.g) : x = y := by
  cases x; cases y; simp_all
def edOf (al : List Way) (a b : Int) : Ed := ⟨a, b, faceOf al a b, faceOf al b a⟩
def ltE (x y : Ed) : Prop := x.a < y.a ∨ (x.a = y.a ∧ x.b < y.b)
theorem ltE_irrefl (x : Ed) : ¬ ltE x x := by unfold ltE; omega
theorem ltE_trans {x y z : Ed} (h : ltE x y) (k : ltE y z) : ltE x z := by unfold ltE at *; omega
structure EdgesR (al : List Way) (es : List Ed) : Prop where
  sorted : es.Pairwise ltE
  mem : ∀ e, e ∈ es ↔ ∃ w ∈ al, e = edOf al (min w.a w.b) (max w.a w.b)
theorem sorted_one : ∀ (l m : List Ed), l.Pairwise ltE → m.Pairwise ltE → (∀ e, e ∈ l ↔ e ∈ m) → l = m
  | [], [], _, _, _ => rfl
  | [], y :: m, _, _, h => by have := (h y).2 (by simp); simp at this
  | x :: l, [], _, _, h => by have := (h x).1 (by simp); simp at this
  | x :: l, y :: m, hl, hm, h => by
    obtain ⟨l1, l2⟩ := List.pairwise_cons.1 hl
    obtain ⟨m1, m2⟩ := List.pairwise_cons.1 hm
    have e : x = y := by
      rcases List.mem_cons.1 ((h x).1 (by simp)) with e | e
      · exact e
      · rcases List.mem_cons.1 ((h y).2 (by simp)) with e2 | e2
        · exact e2.symm
        · exact absurd (ltE_trans (m1 x e) (l1 y e2)) (ltE_irrefl y)
    subst e
    rw [sorted_one l m l2 m2 fun z => ?_]
    have hz := h z
    simp only [List.mem_cons] at hz
    constructor
    · intro hz1
      rcases hz.1 (.inr hz1) with rfl | h2
      · exact absurd (l1 _ hz1) (ltE_irrefl _)
      · exact h2
    · intro hz1
      rcases hz.2 (.inr hz1) with rfl | h2
      · exact absurd (m1 _ hz1) (ltE_irrefl _)
      · exact h2
theorem EdgesR.one {al : List Way} {l m : List Ed} (h : EdgesR al l) (k : EdgesR al m) : l = m := sorted_one l m h.sorted k.sorted fun e => (h.mem e).trans (k.mem e).symm
/-- What Build tells of faces. -/
structure TopoT where
  es : List Ed
  fans : List (List Int)
  rs : List Bool
structure TopoS (n : Int) (fs : List (List Int)) (t : TopoT) : Prop where
  walk : WalkOk n fs
  edges : EdgesR (waysL 0 fs) t.es
  nf : (t.fans.length : Int) = n
  nr : (t.rs.length : Int) = n
  fan : ∀ (v : Nat) (h : v < t.fans.length) (h2 : v < t.rs.length), ∃ L, FanR (waysL 0 fs) v (hubOf (waysL 0 fs) v (waysL 0 fs)).1 L t.rs[v] ∧ L.length = (froms (waysL 0 fs) v).length ∧ t.fans[v] = L.map Way.f
/-- The faces make a surface. -/
def Surf (n : Int) (fs : List (List Int)) : Prop := WalkOk n fs ∧ ∀ v : Int, 0 ≤ v → v < n → ∃ L r, FanR (waysL 0 fs) v (hubOf (waysL 0 fs) v (waysL 0 fs)).1 L r ∧ L.length = (froms (waysL 0 fs) v).length
theorem TopoS.surf {n : Int} {fs : List (List Int)} {t : TopoT} (h : TopoS n fs t) : Surf n fs := ⟨h.walk, fun v h0 h1 => by
  have e := h.nf
  have e2 := h.nr
  obtain ⟨L, h1, h2, _⟩ := h.fan v.toNat (by omega) (by omega)
  rw [Int.toNat_of_nonneg h0] at h1 h2
  exact ⟨L, _, h1, h2⟩⟩
end Go.Proofs.Ytbehobojgeganaa
