/- Ways along faces, as the program goes along them; chains of ways about a vertex. No program is imported. -/
import Derived.Below
namespace Go.Proofs.Ytbehobojgeganaa
set_option linter.unusedVariables false
set_option linter.unusedSimpArgs false
/-- A way from a to b in face f; c is where that face comes from to a. -/
structure Way where
  a : Int
  b : Int
  f : Int
  c : Int
theorem Way.ext4 {x y : Way} (h1 : x.a = y.a) (h2 : x.b = y.b) (h3 : x.f = y.f) (h4 : x.c = y.c) : x = y := by
  cases x; cases y; simp_all
def wayR (f : Int) : Int → Int → List Int → List Way
  | _, _, [] => []
  | b, a, t :: r => ⟨a, t, f, b⟩ :: wayR f a t r
def waysF (f : Int) (x : List Int) : List Way := wayR f (x.getD (x.length - 2) 0) (x.getD (x.length - 1) 0) x
def waysL : Nat → List (List Int) → List Way
  | _, [] => []
  | k, x :: r => waysF k x ++ waysL (k + 1) r
theorem wayR_length (f : Int) : ∀ (x : List Int) (b a : Int), (wayR f b a x).length = x.length
  | [], _, _ => rfl
  | t :: r, b, a => by simp [wayR, wayR_length f r]
theorem wayR_get (f : Int) : ∀ (x : List Int) (b a : Int) (i : Nat) (h : i < x.length), (wayR f b a x)[i]? = some ⟨(b :: a :: x).getD (i + 1) 0, (b :: a :: x).getD (i + 2) 0, f, (b :: a :: x).getD i 0⟩
  | [], _, _, i, h => by simp at h
  | t :: r, b, a, 0, h => by simp [wayR]
  | t :: r, b, a, i + 1, h => by
    rw [wayR, List.getElem?_cons_succ, wayR_get f r a t i (by simpa using h)]
    simp [List.getD]
theorem waysF_length (f : Int) (x : List Int) : (waysF f x).length = x.length := wayR_length f x _ _
theorem mod1 {i n : Nat} (h : i < n) : (i + n - 1) % n = if i = 0 then n - 1 else i - 1 := by
  split
  · subst i; rw [Nat.zero_add]; exact Nat.mod_eq_of_lt (by omega)
  · rw [show i + n - 1 = i - 1 + n by omega, Nat.add_mod_right]; exact Nat.mod_eq_of_lt (by omega)
theorem mod2 {i n : Nat} (h : i < n) (hn : 2 ≤ n) : (i + n - 2) % n = if i = 0 then n - 2 else if i = 1 then n - 1 else i - 2 := by
  split
  · subst i; rw [Nat.zero_add]; exact Nat.mod_eq_of_lt (by omega)
  · split
    · subst i; rw [show 1 + n - 2 = n - 1 by omega]; exact Nat.mod_eq_of_lt (by omega)
    · rw [show i + n - 2 = i - 2 + n by omega, Nat.add_mod_right]; exact Nat.mod_eq_of_lt (by omega)
theorem modS {i n : Nat} (h : i < n) : (i + 1) % n = if i + 1 = n then 0 else i + 1 := by
  split
  · rename_i e; rw [e, Nat.mod_self]
  · exact Nat.mod_eq_of_lt (by omega)
/-- The i-th way of a face, by the places of its corners. -/
theorem waysF_get (f : Int) (x : List Int) (hn : 2 ≤ x.length) (i : Nat) (h : i < x.length) :
    (waysF f x)[i]? = some ⟨x.getD ((i + x.length - 1) % x.length) 0, x.getD i 0, f, x.getD ((i + x.length - 2) % x.length) 0⟩ := by
  unfold waysF
  rw [wayR_get f x _ _ i h, mod1 h, mod2 h hn]
  match i, h with
  | 0, h => simp [List.getD]
  | 1, h => simp [List.getD]
  | i + 2, h => simp [List.getD]
theorem mem_waysF {f : Int} {x : List Int} (hn : 2 ≤ x.length) {w : Way} : w ∈ waysF f x ↔ ∃ i, i < x.length ∧ w = ⟨x.getD ((i + x.length - 1) % x.length) 0, x.getD i 0, f, x.getD ((i + x.length - 2) % x.length) 0⟩ := by
  constructor
  · intro h
    obtain ⟨i, hi⟩ := List.getElem?_of_mem h
    have hl : i < x.length := by rw [← waysF_length f x]; exact (List.getElem?_eq_some_iff.1 hi).1
    rw [waysF_get f x hn i hl] at hi
    exact ⟨i, hl, (Option.some.inj hi).symm⟩
  · rintro ⟨i, hl, rfl⟩
    exact List.mem_of_getElem? (waysF_get f x hn i hl)
theorem mod_back {i n : Nat} (h : i < n) (hn : 2 ≤ n) : ((i + n - 1) % n + n - 1) % n = (i + n - 2) % n ∧ (i + n - 1) % n < n := by
  have h2 : (i + n - 1) % n < n := Nat.mod_lt _ (by omega)
  refine ⟨?_, h2⟩
  rw [mod1 h2, mod2 h hn, mod1 h]
  repeat' split
  all_goals omega
theorem mod_forth {i n : Nat} (h : i < n) (hn : 2 ≤ n) : (((i + 1) % n) + n - 1) % n = i ∧ (i + 1) % n < n ∧ (((i + 1) % n) + n - 2) % n = (i + n - 1) % n := by
  have h2 : (i + 1) % n < n := Nat.mod_lt _ (by omega)
  refine ⟨?_, h2, ?_⟩
  · rw [mod1 h2, modS h]
    repeat' split
    all_goals omega
  · rw [mod2 h2 hn, modS h, mod1 h]
    repeat' split
    all_goals omega
theorem mod_inj {i k n : Nat} (h : i < n) (hk : k < n) (e : (i + n - 1) % n = (k + n - 1) % n) : i = k := by
  rw [mod1 h, mod1 hk] at e
  split at e <;> split at e <;> omega
/-- Ahead of a way there is one in its face, and behind it one. -/
theorem waysF_prev {f : Int} {x : List Int} (hn : 2 ≤ x.length) {w : Way} (h : w ∈ waysF f x) : ∃ d, (⟨w.c, w.a, f, d⟩ : Way) ∈ waysF f x := by
  obtain ⟨i, hi, rfl⟩ := (mem_waysF hn).1 h
  obtain ⟨e1, e2⟩ := mod_back hi hn
  exact ⟨x.getD (((i + x.length - 1) % x.length + x.length - 2) % x.length) 0, (mem_waysF hn).2 ⟨(i + x.length - 1) % x.length, e2, by simp only [e1]⟩⟩
theorem waysF_next {f : Int} {x : List Int} (hn : 2 ≤ x.length) {w : Way} (h : w ∈ waysF f x) : ∃ e, (⟨w.b, e, f, w.a⟩ : Way) ∈ waysF f x := by
  obtain ⟨i, hi, rfl⟩ := (mem_waysF hn).1 h
  obtain ⟨e1, e2, e3⟩ := mod_forth hi hn
  exact ⟨x.getD ((i + 1) % x.length) 0, (mem_waysF hn).2 ⟨(i + 1) % x.length, e2, by simp only [e1, e3]⟩⟩
theorem waysF_f {f : Int} {x : List Int} (hn : 2 ≤ x.length) {w : Way} (h : w ∈ waysF f x) : w.f = f := by
  obtain ⟨i, hi, rfl⟩ := (mem_waysF hn).1 h; rfl
theorem mem_waysL : ∀ (l : List (List Int)) (k : Nat) (w : Way), w ∈ waysL k l ↔ ∃ j, ∃ h : j < l.length, w ∈ waysF ((k + j : Nat) : Int) l[j]
  | [], k, w => by simp [waysL]
  | x :: r, k, w => by
    rw [waysL, List.mem_append, mem_waysL r (k + 1) w]
    constructor
    · rintro (h | ⟨j, hj, h⟩)
      · exact ⟨0, by simp, by simpa using h⟩
      · exact ⟨j + 1, by simpa using hj, by rw [List.getElem_cons_succ, show k + (j + 1) = k + 1 + j by omega]; exact h⟩
    · rintro ⟨j, hj, h⟩
      cases j with
      | zero => left; simpa using h
      | succ j => right; exact ⟨j, by simpa using hj, by rw [List.getElem_cons_succ, show k + (j + 1) = k + 1 + j by omega] at h; exact h⟩
theorem waysL_append : ∀ (l m : List (List Int)) (k : Nat), waysL k (l ++ m) = waysL k l ++ waysL (k + l.length) m
  | [], m, k => by simp [waysL]
  | x :: r, m, k => by
    simp only [List.cons_append, waysL, waysL_append r m (k + 1), List.append_assoc, List.length_cons]
    congr 3; omega
theorem waysL_split : ∀ (l : List (List Int)) (k j : Nat) (h : j < l.length), waysL k l = waysL k (l.take j) ++ waysF ((k + j : Nat) : Int) l[j] ++ waysL (k + j + 1) (l.drop (j + 1))
  | [], _, j, h => by simp at h
  | x :: r, k, 0, h => by simp [waysL]
  | x :: r, k, j + 1, h => by
    have hj : j < r.length := by simpa using h
    simp only [List.take_succ_cons, waysL, List.getElem_cons_succ, List.drop_succ_cons, waysL_split r (k + 1) j hj, List.append_assoc]
    rw [show k + 1 + j = k + (j + 1) by omega]
def Long (fs : List (List Int)) : Prop := ∀ x ∈ fs, 3 ≤ x.length
def InR (n : Int) (al : List Way) : Prop := ∀ w ∈ al, 0 ≤ w.b ∧ w.b < n
def apart (x y : Way) : Prop := ¬(x.b = y.b ∧ x.f = y.f) ∧ ¬(x.a = y.a ∧ x.b = y.b)
def Apart (al : List Way) : Prop := al.Pairwise apart
theorem apart_symm {x y : Way} (h : apart x y) : apart y x := ⟨fun e => h.1 ⟨e.1.symm, e.2.symm⟩, fun e => h.2 ⟨e.1.symm, e.2.symm⟩⟩
theorem Apart.at_ {al : List Way} (h : Apart al) {p q : Nat} (hp : p < al.length) (hq : q < al.length) (hpq : p ≠ q) : apart al[p] al[q] := by
  rcases Nat.lt_or_ge p q with h' | h'
  · exact List.pairwise_iff_getElem.1 h p q hp hq h'
  · exact apart_symm (List.pairwise_iff_getElem.1 h q p hq hp (by omega))
theorem Apart.eq {al : List Way} (h : Apart al) {x y : Way} (hx : x ∈ al) (hy : y ∈ al) (hn : ¬ apart x y) : x = y := by
  obtain ⟨p, hp, rfl⟩ := List.getElem_of_mem hx
  obtain ⟨q, hq, rfl⟩ := List.getElem_of_mem hy
  by_cases e : p = q
  · subst e; rfl
  · exact absurd (h.at_ hp hq e) hn
theorem Apart.key {al : List Way} (h : Apart al) {x y : Way} (hx : x ∈ al) (hy : y ∈ al) (h1 : x.a = y.a) (h2 : x.b = y.b) : x = y := h.eq hx hy fun n => n.2 ⟨h1, h2⟩
theorem Apart.tof {al : List Way} (h : Apart al) {x y : Way} (hx : x ∈ al) (hy : y ∈ al) (h1 : x.b = y.b) (h2 : x.f = y.f) : x = y := h.eq hx hy fun n => n.1 ⟨h1, h2⟩
/-- The ways of some faces that are all right. -/
structure WalkOk (n : Int) (fs : List (List Int)) : Prop where
  long : Long fs
  inr : InR n (waysL 0 fs)
  apart : Apart (waysL 0 fs)
  pos : 0 ≤ n
  all : ∀ v, 0 ≤ v → v < n → ∃ w ∈ waysL 0 fs, w.b = v
theorem WalkOk.prev {n : Int} {fs : List (List Int)} (h : WalkOk n fs) {w : Way} (hw : w ∈ waysL 0 fs) : ∃ d, (⟨w.c, w.a, w.f, d⟩ : Way) ∈ waysL 0 fs := by
  obtain ⟨j, hj, hm⟩ := (mem_waysL fs 0 w).1 hw
  have hl := h.long _ (List.getElem_mem hj)
  obtain ⟨d, hd⟩ := waysF_prev (by omega) hm
  rw [← waysF_f (by omega) hm] at hd
  exact ⟨d, (mem_waysL fs 0 _).2 ⟨j, hj, by rw [waysF_f (by omega) hm] at hd ⊢; exact hd⟩⟩
theorem WalkOk.next {n : Int} {fs : List (List Int)} (h : WalkOk n fs) {w : Way} (hw : w ∈ waysL 0 fs) : ∃ e, (⟨w.b, e, w.f, w.a⟩ : Way) ∈ waysL 0 fs := by
  obtain ⟨j, hj, hm⟩ := (mem_waysL fs 0 w).1 hw
  have hl := h.long _ (List.getElem_mem hj)
  obtain ⟨d, hd⟩ := waysF_next (by omega) hm
  exact ⟨d, (mem_waysL fs 0 _).2 ⟨j, hj, by rw [waysF_f (by omega) hm]; exact hd⟩⟩
/-- A face's corners are all different. -/
theorem WalkOk.corner {n : Int} {fs : List (List Int)} (h : WalkOk n fs) (j : Nat) (hj : j < fs.length) {i i2 : Nat} (hi : i < fs[j].length) (hi2 : i2 < fs[j].length) (e : fs[j].getD i 0 = fs[j].getD i2 0) : i = i2 := by
  apply Classical.byContradiction
  intro hne
  have hl := h.long _ (List.getElem_mem hj)
  have pl : ∀ (i : Nat) (hi : i < fs[j].length), (waysL 0 fs)[(waysL 0 (fs.take j)).length + i]? = (waysF ((0 + j : Nat) : Int) fs[j])[i]? := fun i hi => by
    rw [waysL_split fs 0 j hj, List.append_assoc, List.getElem?_append_right (by omega), List.getElem?_append_left (by rw [waysF_length]; omega)]
    congr 1; omega
  have l1 := pl _ hi
  have l2 := pl _ hi2
  rw [waysF_get _ _ (by omega) _ hi] at l1
  rw [waysF_get _ _ (by omega) _ hi2] at l2
  obtain ⟨b1, f1⟩ := List.getElem?_eq_some_iff.1 l1
  obtain ⟨b2, f2⟩ := List.getElem?_eq_some_iff.1 l2
  have := h.apart.at_ b1 b2 (by omega)
  rw [f1, f2] at this
  exact this.1 ⟨e, rfl⟩
theorem WalkOk.ne {n : Int} {fs : List (List Int)} (h : WalkOk n fs) {w : Way} (hw : w ∈ waysL 0 fs) : w.a ≠ w.b := fun e => by
  obtain ⟨j, hj, hm⟩ := (mem_waysL fs 0 w).1 hw
  have hl := h.long _ (List.getElem_mem hj)
  obtain ⟨i, hi, rfl⟩ := (mem_waysF (by omega)).1 hm
  simp only at e
  have h2 : (i + fs[j].length - 1) % fs[j].length < fs[j].length := Nat.mod_lt _ (by omega)
  have := h.corner j hj h2 hi e
  rw [mod1 hi] at this
  split at this <;> omega
/-- In a face each corner is the start of one way. -/
theorem WalkOk.fromf {n : Int} {fs : List (List Int)} (h : WalkOk n fs) {x y : Way} (hx : x ∈ waysL 0 fs) (hy : y ∈ waysL 0 fs) (h1 : x.a = y.a) (h2 : x.f = y.f) : x = y := by
  obtain ⟨j, hj, hm⟩ := (mem_waysL fs 0 x).1 hx
  obtain ⟨k, hk, hm2⟩ := (mem_waysL fs 0 y).1 hy
  have hl := h.long _ (List.getElem_mem hj)
  have hl2 := h.long _ (List.getElem_mem hk)
  have e1 := waysF_f (by omega) hm
  have e2 := waysF_f (by omega) hm2
  have : j = k := by rw [e1, e2] at h2; omega
  subst this
  obtain ⟨i, hi, e3⟩ := (mem_waysF (by omega)).1 hm
  obtain ⟨i2, hi2, e4⟩ := (mem_waysF (by omega)).1 hm2
  obtain ⟨m1, m2⟩ := mod_back hi (by omega)
  obtain ⟨m3, m4⟩ := mod_back hi2 (by omega)
  have p1 := (mem_waysL fs 0 _).2 ⟨j, hj, (mem_waysF (by omega)).2 ⟨_, m2, rfl⟩⟩
  have p2 := (mem_waysL fs 0 _).2 ⟨j, hk, (mem_waysF (by omega)).2 ⟨_, m4, rfl⟩⟩
  have e5 := h.apart.tof p1 p2 (by rw [e3, e4] at h1; exact h1) rfl
  have q1 : x.b = y.b := by
    have g1 := (mem_waysL fs 0 x).1 hx
    -- the places are the same: else two corners of the face are one
    by_cases e : (i + fs[j].length - 1) % fs[j].length = (i2 + fs[j].length - 1) % fs[j].length
    · have : i = i2 := mod_inj hi hi2 e
      subst this
      rw [e3, e4]
    · exfalso
      exact e (h.corner j hj m2 m4 (by rw [e3, e4] at h1; exact h1))
  exact h.apart.key hx hy h1 q1
theorem WalkOk.cinj {n : Int} {fs : List (List Int)} (h : WalkOk n fs) {x y : Way} (hx : x ∈ waysL 0 fs) (hy : y ∈ waysL 0 fs) (h1 : x.a = y.a) (h2 : x.c = y.c) : x = y := by
  obtain ⟨d, hd⟩ := h.prev hx
  obtain ⟨e, he⟩ := h.prev hy
  have this : (⟨x.c, x.a, x.f, d⟩ : Way) = ⟨y.c, y.a, y.f, e⟩ := h.apart.key hd he h2 h1
  have hf : x.f = y.f := by simpa using congrArg Way.f this
  exact h.fromf hx hy h1 hf
end Go.Proofs.Ytbehobojgeganaa
