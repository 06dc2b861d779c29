/- Ways along faces, as the program goes along them; chains of ways about a vertex. No program is imported. Fans: the chain of ways about a vertex that the program goes along; hubs; the edges. No program is imported. The maps of package topo: which face goes along each way; of each vertex the last face that it was met in. A region that draws its order: its operations read, or are calls that answer a value and leave what was there; one of them may make a block; the last ones, in one forced order, store. One walk in the order of the text serves every order. No program is imported. Blocks of the call's own under calls that leave them: stores go through to the block that they write. No program is imported. A block whose cells are all known, in worlds that go on. No program is imported. -/
import Derived.Below
import Derived.Maps.OwnOps
import Derived.Maps.OwnSet
import Derived.Maps.RangeWalk
import Derived.DeepKeys4
import Derived.StillTail
import Derived.Laws.Tables
import Derived.Laws.Rows
import Derived.Deep.WholeRow
import Derived.LoopN
import Derived.Deep.DeepCutAuto
import Derived.Test.YtpdnaceggpdleabProg
import Derived.Test.YtpdnaceggpdleabC0
namespace Go.Proofs.Ytpdnaceggpdleab
set_option linter.unusedVariables false
set_option linter.unusedSimpArgs false
/-- A way from a to b in face f; c is where that face comes from to a. -/
structure Way where
  a : Int
  b : Int
  f : Int
  c : Int
theorem Way.ext4 {x y : Way} (h1 : x.a = y.a) (h2 : x.b = y.b) (h3 : x.f = y.f) (h4 : x.c = y.c) : x = y := by
  cases x; cases y; simp_all
def wayR (f : Int) : Int → Int → List Int → List Way
  | _, _, [] => []
  | b, a, t :: r => ⟨a, t, f, b⟩ :: wayR f a t r
def waysF (f : Int) (x : List Int) : List Way := wayR f (x.getD (x.length - 2) 0) (x.getD (x.length - 1) 0) x
def waysL : Nat → List (List Int) → List Way
  | _, [] => []
  | k, x :: r => waysF k x ++ waysL (k + 1) r
theorem wayR_length (f : Int) : ∀ (x : List Int) (b a : Int), (wayR f b a x).length = x.length
  | [], _, _ => rfl
  | t :: r, b, a => by simp [wayR, wayR_length f r]
theorem wayR_get (f : Int) : ∀ (x : List Int) (b a : Int) (i : Nat) (h : i < x.length), (wayR f b a x)[i]? = some ⟨(b :: a :: x).getD (i + 1) 0, (b :: a :: x).getD (i + 2) 0, f, (b :: a :: x).getD i 0⟩
  | [], _, _, i, h => by simp at h
  | t :: r, b, a, 0, h => by simp [wayR]
  | t :: r, b, a, i + 1, h => by
    rw [wayR, List.getElem?_cons_succ, wayR_get f r a t i (by simpa using h)]
    simp [List.getD]
theorem waysF_length (f : Int) (x : List Int) : (waysF f x).length = x.length := wayR_length f x _ _
theorem mod1 {i n : Nat} (h : i < n) : (i + n - 1) % n = if i = 0 then n - 1 else i - 1 := by
  split
  · subst i; rw [Nat.zero_add]; exact Nat.mod_eq_of_lt (by omega)
  · rw [show i + n - 1 = i - 1 + n by omega, Nat.add_mod_right]; exact Nat.mod_eq_of_lt (by omega)
theorem mod2 {i n : Nat} (h : i < n) (hn : 2 ≤ n) : (i + n - 2) % n = if i = 0 then n - 2 else if i = 1 then n - 1 else i - 2 := by
  split
  · subst i; rw [Nat.zero_add]; exact Nat.mod_eq_of_lt (by omega)
  · split
    · subst i; rw [show 1 + n - 2 = n - 1 by omega]; exact Nat.mod_eq_of_lt (by omega)
    · rw [show i + n - 2 = i - 2 + n by omega, Nat.add_mod_right]; exact Nat.mod_eq_of_lt (by omega)
theorem modS {i n : Nat} (h : i < n) : (i + 1) % n = if i + 1 = n then 0 else i + 1 := by
  split
  · rename_i e; rw [e, Nat.mod_self]
  · exact Nat.mod_eq_of_lt (by omega)
/-- The i-th way of a face, by the places of its corners. -/
theorem waysF_get (f : Int) (x : List Int) (hn : 2 ≤ x.length) (i : Nat) (h : i < x.length) :
    (waysF f x)[i]? = some ⟨x.getD ((i + x.length - 1) % x.length) 0, x.getD i 0, f, x.getD ((i + x.length - 2) % x.length) 0⟩ := by
  unfold waysF
  rw [wayR_get f x _ _ i h, mod1 h, mod2 h hn]
  match i, h with
  | 0, h => simp [List.getD]
  | 1, h => simp [List.getD]
  | i + 2, h => simp [List.getD]
theorem mem_waysF {f : Int} {x : List Int} (hn : 2 ≤ x.length) {w : Way} : w ∈ waysF f x ↔ ∃ i, i < x.length ∧ w = ⟨x.getD ((i + x.length - 1) % x.length) 0, x.getD i 0, f, x.getD ((i + x.length - 2) % x.length) 0⟩ := by
  constructor
  · intro h
    obtain ⟨i, hi⟩ := List.getElem?_of_mem h
    have hl : i < x.length := by rw [← waysF_length f x]; exact (List.getElem?_eq_some_iff.1 hi).1
    rw [waysF_get f x hn i hl] at hi
    exact ⟨i, hl, (Option.some.inj hi).symm⟩
  · rintro ⟨i, hl, rfl⟩
    exact List.mem_of_getElem? (waysF_get f x hn i hl)
theorem mod_back {i n : Nat} (h : i < n) (hn : 2 ≤ n) : ((i + n - 1) % n + n - 1) % n = (i + n - 2) % n ∧ (i + n - 1) % n < n := by
  have h2 : (i + n - 1) % n < n := Nat.mod_lt _ (by omega)
  refine ⟨?_, h2⟩
  rw [mod1 h2, mod2 h hn, mod1 h]
  repeat' split
  all_goals omega
theorem mod_forth {i n : Nat} (h : i < n) (hn : 2 ≤ n) : (((i + 1) % n) + n - 1) % n = i ∧ (i + 1) % n < n ∧ (((i + 1) % n) + n - 2) % n = (i + n - 1) % n := by
  have h2 : (i + 1) % n < n := Nat.mod_lt _ (by omega)
  refine ⟨?_, h2, ?_⟩
  · rw [mod1 h2, modS h]
    repeat' split
    all_goals omega
  · rw [mod2 h2 hn, modS h, mod1 h]
    repeat' split
    all_goals omega
theorem mod_inj {i k n : Nat} (h : i < n) (hk : k < n) (e : (i + n - 1) % n = (k + n - 1) % n) : i = k := by
  rw [mod1 h, mod1 hk] at e
  split at e <;> split at e <;> omega
/-- Ahead of a way there is one in its face, and behind it one. -/
theorem waysF_prev {f : Int} {x : List Int} (hn : 2 ≤ x.length) {w : Way} (h : w ∈ waysF f x) : ∃ d, (⟨w.c, w.a, f, d⟩ : Way) ∈ waysF f x := by
  obtain ⟨i, hi, rfl⟩ := (mem_waysF hn).1 h
  obtain ⟨e1, e2⟩ := mod_back hi hn
  exact ⟨x.getD (((i + x.length - 1) % x.length + x.length - 2) % x.length) 0, (mem_waysF hn).2 ⟨(i + x.length - 1) % x.length, e2, by simp only [e1]⟩⟩
theorem waysF_next {f : Int} {x : List Int} (hn : 2 ≤ x.length) {w : Way} (h : w ∈ waysF f x) : ∃ e, (⟨w.b, e, f, w.a⟩ : Way) ∈ waysF f x := by
  obtain ⟨i, hi, rfl⟩ := (mem_waysF hn).1 h
  obtain ⟨e1, e2, e3⟩ := mod_forth hi hn
  exact ⟨x.getD ((i + 1) % x.length) 0, (mem_waysF hn).2 ⟨(i + 1) % x.length, e2, by simp only [e1, e3]⟩⟩
theorem waysF_f {f : Int} {x : List Int} (hn : 2 ≤ x.length) {w : Way} (h : w ∈ waysF f x) : w.f = f := by
  obtain ⟨i, hi, rfl⟩ := (mem_waysF hn).1 h; rfl
theorem mem_waysL : ∀ (l : List (List Int)) (k : Nat) (w : Way), w ∈ waysL k l ↔ ∃ j, ∃ h : j < l.length, w ∈ waysF ((k + j : Nat) : Int) l[j]
  | [], k, w => by simp [waysL]
  | x :: r, k, w => by
    rw [waysL, List.mem_append, mem_waysL r (k + 1) w]
    constructor
    · rintro (h | ⟨j, hj, h⟩)
      · exact ⟨0, by simp, by simpa using h⟩
      · exact ⟨j + 1, by simpa using hj, by rw [List.getElem_cons_succ, show k + (j + 1) = k + 1 + j by omega]; exact h⟩
    · rintro ⟨j, hj, h⟩
      cases j with
      | zero => left; simpa using h
      | succ j => right; exact ⟨j, by simpa using hj, by rw [List.getElem_cons_succ, show k + (j + 1) = k + 1 + j by omega] at h; exact h⟩
theorem waysL_append : ∀ (l m : List (List Int)) (k : Nat), waysL k (l ++ m) = waysL k l ++ waysL (k + l.length) m
  | [], m, k => by simp [waysL]
  | x :: r, m, k => by
    simp only [List.cons_append, waysL, waysL_append r m (k + 1), List.append_assoc, List.length_cons]
    congr 3; omega
theorem waysL_split : ∀ (l : List (List Int)) (k j : Nat) (h : j < l.length), waysL k l = waysL k (l.take j) ++ waysF ((k + j : Nat) : Int) l[j] ++ waysL (k + j + 1) (l.drop (j + 1))
  | [], _, j, h => by simp at h
  | x :: r, k, 0, h => by simp [waysL]
  | x :: r, k, j + 1, h => by
    have hj : j < r.length := by simpa using h
    simp only [List.take_succ_cons, waysL, List.getElem_cons_succ, List.drop_succ_cons, waysL_split r (k + 1) j hj, List.append_assoc]
    rw [show k + 1 + j = k + (j + 1) by omega]
def Long (fs : List (List Int)) : Prop := ∀ x ∈ fs, 3 ≤ x.length
def InR (n : Int) (al : List Way) : Prop := ∀ w ∈ al, 0 ≤ w.b ∧ w.b < n
def apart (x y : Way) : Prop := ¬(x.b = y.b ∧ x.f = y.f) ∧ ¬(x.a = y.a ∧ x.b = y.b)
def Apart (al : List Way) : Prop := al.Pairwise apart
theorem apart_symm {x y : Way} (h : apart x y) : apart y x := ⟨fun e => h.1 ⟨e.1.symm, e.2.symm⟩, fun e => h.2 ⟨e.1.symm, e.2.symm⟩⟩
theorem Apart.at_ {al : List Way} (h : Apart al) {p q : Nat} (hp : p < al.length) (hq : q < al.length) (hpq : p ≠ q) : apart al[p] al[q] := by
  rcases Nat.lt_or_ge p q with h' | h'
  · exact List.pairwise_iff_getElem.1 h p q hp hq h'
  · exact apart_symm (List.pairwise_iff_getElem.1 h q p hq hp (by omega))
theorem Apart.eq {al : List Way} (h : Apart al) {x y : Way} (hx : x ∈ al) (hy : y ∈ al) (hn : ¬ apart x y) : x = y := by
  obtain ⟨p, hp, rfl⟩ := List.getElem_of_mem hx
  obtain ⟨q, hq, rfl⟩ := List.getElem_of_mem hy
  by_cases e : p = q
  · subst e; rfl
  · exact absurd (h.at_ hp hq e) hn
theorem Apart.key {al : List Way} (h : Apart al) {x y : Way} (hx : x ∈ al) (hy : y ∈ al) (h1 : x.a = y.a) (h2 : x.b = y.b) : x = y := h.eq hx hy fun n => n.2 ⟨h1, h2⟩
theorem Apart.tof {al : List Way} (h : Apart al) {x y : Way} (hx : x ∈ al) (hy : y ∈ al) (h1 : x.b = y.b) (h2 : x.f = y.f) : x = y := h.eq hx hy fun n => n.1 ⟨h1, h2⟩
/-- The ways of some faces that are all right. -/
structure WalkOk (n : Int) (fs : List (List Int)) : Prop where
  long : Long fs
  inr : InR n (waysL 0 fs)
  apart : Apart (waysL 0 fs)
  pos : 0 ≤ n
  all : ∀ v, 0 ≤ v → v < n → ∃ w ∈ waysL 0 fs, w.b = v
theorem WalkOk.prev {n : Int} {fs : List (List Int)} (h : WalkOk n fs) {w : Way} (hw : w ∈ waysL 0 fs) : ∃ d, (⟨w.c, w.a, w.f, d⟩ : Way) ∈ waysL 0 fs := by
  obtain ⟨j, hj, hm⟩ := (mem_waysL fs 0 w).1 hw
  have hl := h.long _ (List.getElem_mem hj)
  obtain ⟨d, hd⟩ := waysF_prev (by omega) hm
  rw [← waysF_f (by omega) hm] at hd
  exact ⟨d, (mem_waysL fs 0 _).2 ⟨j, hj, by rw [waysF_f (by omega) hm] at hd ⊢; exact hd⟩⟩
theorem WalkOk.next {n : Int} {fs : List (List Int)} (h : WalkOk n fs) {w : Way} (hw : w ∈ waysL 0 fs) : ∃ e, (⟨w.b, e, w.f, w.a⟩ : Way) ∈ waysL 0 fs := by
  obtain ⟨j, hj, hm⟩ := (mem_waysL fs 0 w).1 hw
  have hl := h.long _ (List.getElem_mem hj)
  obtain ⟨d, hd⟩ := waysF_next (by omega) hm
  exact ⟨d, (mem_waysL fs 0 _).2 ⟨j, hj, by rw [waysF_f (by omega) hm]; exact hd⟩⟩
/-- A face's corners are all different. -/
theorem WalkOk.corner {n : Int} {fs : List (List Int)} (h : WalkOk n fs) (j : Nat) (hj : j < fs.length) {i i2 : Nat} (hi : i < fs[j].length) (hi2 : i2 < fs[j].length) (e : fs[j].getD i 0 = fs[j].getD i2 0) : i = i2 := by
  apply Classical.byContradiction
  intro hne
  have hl := h.long _ (List.getElem_mem hj)
  have pl : ∀ (i : Nat) (hi : i < fs[j].length), (waysL 0 fs)[(waysL 0 (fs.take j)).length + i]? = (waysF ((0 + j : Nat) : Int) fs[j])[i]? := fun i hi => by
    rw [waysL_split fs 0 j hj, List.append_assoc, List.getElem?_append_right (by omega), List.getElem?_append_left (by rw [waysF_length]; omega)]
    congr 1; omega
  have l1 := pl _ hi
  have l2 := pl _ hi2
  rw [waysF_get _ _ (by omega) _ hi] at l1
  rw [waysF_get _ _ (by omega) _ hi2] at l2
  obtain ⟨b1, f1⟩ := List.getElem?_eq_some_iff.1 l1
  obtain ⟨b2, f2⟩ := List.getElem?_eq_some_iff.1 l2
  have := h.apart.at_ b1 b2 (by omega)
  rw [f1, f2] at this
  exact this.1 ⟨e, rfl⟩
theorem WalkOk.ne {n : Int} {fs : List (List Int)} (h : WalkOk n fs) {w : Way} (hw : w ∈ waysL 0 fs) : w.a ≠ w.b := fun e => by
  obtain ⟨j, hj, hm⟩ := (mem_waysL fs 0 w).1 hw
  have hl := h.long _ (List.getElem_mem hj)
  obtain ⟨i, hi, rfl⟩ := (mem_waysF (by omega)).1 hm
  simp only at e
  have h2 : (i + fs[j].length - 1) % fs[j].length < fs[j].length := Nat.mod_lt _ (by omega)
  have := h.corner j hj h2 hi e
  rw [mod1 hi] at this
  split at this <;> omega
/-- In a face each corner is the start of one way. -/
theorem WalkOk.fromf {n : Int} {fs : List (List Int)} (h : WalkOk n fs) {x y : Way} (hx : x ∈ waysL 0 fs) (hy : y ∈ waysL 0 fs) (h1 : x.a = y.a) (h2 : x.f = y.f) : x = y := by
  obtain ⟨j, hj, hm⟩ := (mem_waysL fs 0 x).1 hx
  obtain ⟨k, hk, hm2⟩ := (mem_waysL fs 0 y).1 hy
  have hl := h.long _ (List.getElem_mem hj)
  have hl2 := h.long _ (List.getElem_mem hk)
  have e1 := waysF_f (by omega) hm
  have e2 := waysF_f (by omega) hm2
  have : j = k := by rw [e1, e2] at h2; omega
  subst this
  obtain ⟨i, hi, e3⟩ := (mem_waysF (by omega)).1 hm
  obtain ⟨i2, hi2, e4⟩ := (mem_waysF (by omega)).1 hm2
  obtain ⟨m1, m2⟩ := mod_back hi (by omega)
  obtain ⟨m3, m4⟩ := mod_back hi2 (by omega)
  have p1 := (mem_waysL fs 0 _).2 ⟨j, hj, (mem_waysF (by omega)).2 ⟨_, m2, rfl⟩⟩
  have p2 := (mem_waysL fs 0 _).2 ⟨j, hk, (mem_waysF (by omega)).2 ⟨_, m4, rfl⟩⟩
  have e5 := h.apart.tof p1 p2 (by rw [e3, e4] at h1; exact h1) rfl
  have q1 : x.b = y.b := by
    have g1 := (mem_waysL fs 0 x).1 hx
    -- the places are the same: else two corners of the face are one
    by_cases e : (i + fs[j].length - 1) % fs[j].length = (i2 + fs[j].length - 1) % fs[j].length
    · have : i = i2 := mod_inj hi hi2 e
      subst this
      rw [e3, e4]
    · exfalso
      exact e (h.corner j hj m2 m4 (by rw [e3, e4] at h1; exact h1))
  exact h.apart.key hx hy h1 q1
theorem WalkOk.cinj {n : Int} {fs : List (List Int)} (h : WalkOk n fs) {x y : Way} (hx : x ∈ waysL 0 fs) (hy : y ∈ waysL 0 fs) (h1 : x.a = y.a) (h2 : x.c = y.c) : x = y := by
  obtain ⟨d, hd⟩ := h.prev hx
  obtain ⟨e, he⟩ := h.prev hy
  have this : (⟨x.c, x.a, x.f, d⟩ : Way) = ⟨y.c, y.a, y.f, e⟩ := h.apart.key hd he h2 h1
  have hf : x.f = y.f := by simpa using congrArg Way.f this
  exact h.fromf hx hy h1 hf
end Go.Proofs.Ytpdnaceggpdleab
namespace Go.Proofs.Ytpdnaceggpdleab
set_option linter.unusedVariables false
set_option linter.unusedSimpArgs false
theorem nodup_le {α : Type} : ∀ (L M : List α), L.Nodup → (∀ x ∈ L, x ∈ M) → L.length ≤ M.length
  | [], M, _, _ => Nat.zero_le _
  | x :: L, M, h, hs => by
    obtain ⟨s, t, rfl⟩ := List.append_of_mem (hs x (by simp))
    have h2 := List.nodup_cons.1 h
    have := nodup_le L (s ++ t) h2.2 fun y hy => by
      have := hs y (List.mem_cons_of_mem _ hy)
      simp only [List.mem_append, List.mem_cons] at this ⊢
      rcases this with h | rfl | h
      · exact .inl h
      · exact absurd hy h2.1
      · exact .inr h
    simp only [List.length_append, List.length_cons] at this ⊢
    omega
/-- Without doubles, and no fewer: all of them. -/
theorem nodup_all {α : Type} (L M : List α) (h : L.Nodup) (hs : ∀ x ∈ L, x ∈ M) (hl : M.length ≤ L.length) : ∀ x ∈ M, x ∈ L := fun x hx => by
  apply Classical.byContradiction
  intro hn
  have := nodup_le (x :: L) M (List.nodup_cons.2 ⟨hn, h⟩) (fun y hy => (List.mem_cons.1 hy).elim (fun e => e ▸ hx) (fun hy => hs y hy))
  simp at this; omega
def froms (al : List Way) (v : Int) : List Way := al.filter fun w => w.a == v
theorem mem_froms {al : List Way} {v : Int} {w : Way} : w ∈ froms al v ↔ w ∈ al ∧ w.a = v := by simp [froms]
def ends (L : List Way) (start : Int) : Int := (L.getLast?.map Way.c).getD start
theorem ends_snoc (L : List Way) (w : Way) (start : Int) : ends (L ++ [w]) start = w.c := by simp [ends]
theorem ends_at {L : List Way} (start : Int) (h : 0 < L.length) : ends L start = (L[L.length - 1]'(by omega)).c := by
  unfold ends
  rw [List.getLast?_eq_getElem?, List.getElem?_eq_getElem (by omega)]; rfl
/-- A chain of ways about v, each behind the one ahead of it, begun at start and not yet come to it again. -/
structure FanC (al : List Way) (v start : Int) (L : List Way) : Prop where
  mem : ∀ w ∈ L, w ∈ al ∧ w.a = v
  first : ∀ h : 0 < L.length, L[0].b = start
  link : ∀ i (h : i + 1 < L.length), L[i + 1].b = L[i].c
  mid : ∀ i (h : i + 1 < L.length), L[i].c ≠ start
theorem FanC.nil (al : List Way) (v start : Int) : FanC al v start [] := ⟨by simp, fun h => by simp at h, fun i h => by simp at h, fun i h => by simp at h⟩
theorem FanC.snoc {al : List Way} {v start : Int} {L : List Way} (h : FanC al v start L) {w : Way} (hw : w ∈ al) (ha : w.a = v) (hb : w.b = ends L start) (hne : L = [] ∨ ends L start ≠ start) : FanC al v start (L ++ [w]) where
  mem x hx := by
    rcases List.mem_append.1 hx with hx | hx
    · exact h.mem x hx
    · obtain rfl := List.mem_singleton.1 hx; exact ⟨hw, ha⟩
  first h0 := by
    rcases Nat.eq_zero_or_pos L.length with e | e
    · obtain rfl := List.eq_nil_of_length_eq_zero e
      simpa [ends] using hb
    · rw [List.getElem_append_left e]; exact h.first e
  link i hi := by
    simp only [List.length_append, List.length_singleton] at hi
    rcases Nat.lt_or_ge (i + 1) L.length with e | e
    · rw [List.getElem_append_left e, List.getElem_append_left (by omega)]; exact h.link i e
    · have e2 : i + 1 = L.length := by omega
      rw [List.getElem_append_right (by omega), List.getElem_append_left (by omega)]
      simp only [e2, Nat.sub_self, List.getElem_cons_zero]
      rw [hb, ends_at start (by omega)]
      congr 2; omega
  mid i hi := by
    simp only [List.length_append, List.length_singleton] at hi
    rw [List.getElem_append_left (by omega)]
    rcases Nat.lt_or_ge (i + 1) L.length with e | e
    · exact h.mid i e
    · rcases hne with rfl | hne
      · simp at hi
      · rw [ends_at start (by omega)] at hne
        have e2 : i = L.length - 1 := by omega
        subst e2; exact hne
theorem FanC.nodup {n : Int} {fs : List (List Int)} (ok : WalkOk n fs) {v start : Int} {L : List Way} (h : FanC (waysL 0 fs) v start L) : L.Nodup := by
  rw [List.nodup_iff_pairwise_ne, List.pairwise_iff_getElem]
  intro i
  induction i with
  | zero =>
    intro j hi hj hij e
    have h1 := h.link (j - 1) (by omega)
    have h2 := h.mid (j - 1) (by omega)
    have h3 := h.first hi
    simp only [show j - 1 + 1 = j by omega] at h1
    rw [← e] at h1
    exact h2 (h1.symm.trans h3)
  | succ i ih =>
    intro j hi hj hij e
    have h1 := h.link (j - 1) (by omega)
    have h2 := h.link i hi
    simp only [show j - 1 + 1 = j by omega] at h1
    have m1 := h.mem _ (List.getElem_mem (show i < L.length by omega))
    have m2 := h.mem _ (List.getElem_mem (show j - 1 < L.length by omega))
    refine ih (j - 1) (by omega) (by omega) (by omega) (ok.cinj m1.1 m2.1 (m1.2.trans m2.2.symm) ?_)
    rw [← h2, ← h1, e]
theorem FanC.le {n : Int} {fs : List (List Int)} (ok : WalkOk n fs) {v start : Int} {L : List Way} (h : FanC (waysL 0 fs) v start L) : L.length ≤ (froms (waysL 0 fs) v).length :=
  nodup_le _ _ (h.nodup ok) fun w hw => mem_froms.2 (h.mem w hw)
/-- What the search answers: the ways that it has come along, and whether it came back to its start. -/
structure FanR (al : List Way) (v start : Int) (L : List Way) (r : Bool) : Prop extends FanC al v start L where
  back : r = true → L ≠ [] ∧ ends L start = start
  stop : r = false → (∀ w ∈ al, w.a = v → w.b ≠ ends L start) ∧ (L = [] ∨ ends L start ≠ start)
/-- The way from a to b, if there is one. -/
def look (al : List Way) (a b : Int) : Option Way := al.find? fun w => w.a == a && w.b == b
theorem look_some {al : List Way} {a b : Int} {w : Way} (h : look al a b = some w) : w ∈ al ∧ w.a = a ∧ w.b = b := by
  have h1 := List.find?_some h
  have h2 := List.mem_of_find?_eq_some h
  simp at h1
  exact ⟨h2, h1.1, h1.2⟩
theorem look_none {al : List Way} {a b : Int} (h : look al a b = none) : ∀ w ∈ al, ¬(w.a = a ∧ w.b = b) := fun w hw e => by
  have := List.find?_eq_none.1 h w hw
  simp [e.1, e.2] at this
theorem look_mem {al : List Way} (hA : Apart al) {w : Way} (hw : w ∈ al) : look al w.a w.b = some w := by
  cases h : look al w.a w.b with
  | none => exact absurd ⟨rfl, rfl⟩ (look_none h w hw)
  | some x =>
    obtain ⟨h1, h2, h3⟩ := look_some h
    rw [hA.key h1 hw h2 h3]
def faceOf (al : List Way) (a b : Int) : Int := ((look al a b).map Way.f).getD (-1)
theorem faceOf_neg {fs : List (List Int)} (hl : Long fs) (a b : Int) : faceOf (waysL 0 fs) a b = -1 ↔ look (waysL 0 fs) a b = none := by
  unfold faceOf
  cases h : look (waysL 0 fs) a b with
  | none => simp
  | some x =>
    obtain ⟨h1, _, _⟩ := look_some h
    obtain ⟨j, hj, hm⟩ := (mem_waysL fs 0 x).1 h1
    have := waysF_f (by have := hl _ (List.getElem_mem hj); omega) hm
    simp; omega
def hubStep (al : List Way) (s : Int × Nat) (w : Way) : Int × Nat := (if s.2 = 0 ∨ look al w.b w.a = none then w.b else s.1, s.2 + 1)
def hubOf (al : List Way) (v : Int) (P : List Way) : Int × Nat := (froms P v).foldl (hubStep al) (0, 0)
theorem froms_snoc (P : List Way) (w : Way) (v : Int) : froms (P ++ [w]) v = froms P v ++ (if w.a = v then [w] else []) := by
  unfold froms; rw [List.filter_append]; congr 1
  by_cases h : w.a = v <;> simp [h]
theorem hubOf_snoc (al P : List Way) (w : Way) (v : Int) : hubOf al v (P ++ [w]) = if w.a = v then hubStep al (hubOf al v P) w else hubOf al v P := by
  unfold hubOf
  rw [froms_snoc]
  split <;> simp
theorem hubOf_nil (al : List Way) (v : Int) : hubOf al v [] = (0, 0) := rfl
theorem hub_fold (al : List Way) : ∀ (Q : List Way) (s : Int × Nat), (Q.foldl (hubStep al) s).2 = s.2 + Q.length
  | [], s => rfl
  | w :: Q, s => by simp only [List.foldl_cons, hub_fold al Q, hubStep, List.length_cons]; omega
theorem hubOf_count (al P : List Way) (v : Int) : (hubOf al v P).2 = (froms P v).length := by
  unfold hubOf; rw [hub_fold]; simp
/-- Where a fan begins: at a way that follows no other, or, if there is none, at the first. -/
theorem hub_to (al : List Way) : ∀ (Q R : List Way) (s : Int × Nat), s.2 = R.length → (R ≠ [] → ∃ w ∈ R, w.b = s.1 ∧ (look al w.b w.a = none ∨ (R.head? = some w ∧ ∀ u ∈ R, look al u.b u.a ≠ none))) →
    (R ++ Q ≠ [] → ∃ w ∈ R ++ Q, w.b = (Q.foldl (hubStep al) s).1 ∧ (look al w.b w.a = none ∨ ((R ++ Q).head? = some w ∧ ∀ u ∈ R ++ Q, look al u.b u.a ≠ none)))
  | [], R, s, _, h => by simpa using h
  | x :: Q, R, s, hs, h => by
    have := hub_to al Q (R ++ [x]) (hubStep al s x) (by simp [hubStep, hs]) (fun _ => by
      unfold hubStep
      by_cases e : s.2 = 0 ∨ look al x.b x.a = none
      · simp only [if_pos e]
        refine ⟨x, by simp, rfl, ?_⟩
        by_cases e2 : look al x.b x.a = none
        · exact .inl e2
        · rcases e with e | e
          · have : R = [] := List.eq_nil_of_length_eq_zero (by omega)
            subst this
            exact .inr ⟨rfl, by simpa using e2⟩
          · exact absurd e e2
      · simp only [if_neg e]
        have e0 : s.2 ≠ 0 := fun h => e (.inl h)
        have e1 : look al x.b x.a ≠ none := fun h => e (.inr h)
        have hR : R ≠ [] := fun h => e0 (by rw [hs, h]; rfl)
        obtain ⟨w, hw, hb, hd⟩ := h hR
        refine ⟨w, List.mem_append_left _ hw, hb, hd.imp id fun ⟨h1, h2⟩ => ⟨?_, ?_⟩⟩
        · rw [List.head?_append, h1]; rfl
        · intro u hu
          rcases List.mem_append.1 hu with hu | hu
          · exact h2 u hu
          · obtain rfl := List.mem_singleton.1 hu; exact e1)
    rw [List.append_assoc, List.singleton_append] at this
    exact this
theorem hubOf_to (al : List Way) (v : Int) (P : List Way) (h : froms P v ≠ []) : ∃ w ∈ froms P v, w.b = (hubOf al v P).1 ∧ (look al w.b w.a = none ∨ ((froms P v).head? = some w ∧ ∀ u ∈ froms P v, look al u.b u.a ≠ none)) := by
  have := hub_to al (froms P v) [] (0, 0) rfl (fun h => absurd rfl h)
  simpa [hubOf] using this (by simpa using h)
theorem FanC.same {al : List Way} (hA : Apart al) {v start : Int} {L M : List Way} (h : FanC al v start L) (k : FanC al v start M) : ∀ i (h1 : i < L.length) (h2 : i < M.length), L[i] = M[i]
  | 0, h1, h2 => by
    have m1 := h.mem _ (List.getElem_mem h1)
    have m2 := k.mem _ (List.getElem_mem h2)
    exact hA.key m1.1 m2.1 (m1.2.trans m2.2.symm) ((h.first h1).trans (k.first h2).symm)
  | i + 1, h1, h2 => by
    have m1 := h.mem _ (List.getElem_mem h1)
    have m2 := k.mem _ (List.getElem_mem h2)
    refine hA.key m1.1 m2.1 (m1.2.trans m2.2.symm) ?_
    rw [h.link i h1, k.link i h2, FanC.same hA h k i (by omega) (by omega)]
theorem FanR.le {al : List Way} (hA : Apart al) {v start : Int} {L M : List Way} {r s : Bool} (h : FanR al v start L r) (k : FanR al v start M s) : M.length ≤ L.length := by
  apply Classical.byContradiction
  intro hlt
  have hl : L.length < M.length := by omega
  rcases Nat.eq_zero_or_pos L.length with h0 | h0
  · obtain rfl := List.eq_nil_of_length_eq_zero h0
    cases r with
    | true => exact (h.back rfl).1 rfl
    | false =>
      have m2 := k.mem _ (List.getElem_mem hl)
      exact (h.stop rfl).1 _ m2.1 m2.2 (k.first hl)
  · have e := h.toFanC.same hA k.toFanC (L.length - 1) (by omega) (by omega)
    have hen := ends_at start h0
    cases r with
    | true =>
      have := k.mid (L.length - 1) (by omega)
      rw [← e, ← hen] at this
      exact this (h.back rfl).2
    | false =>
      have m2 := k.mem _ (List.getElem_mem hl)
      have hk := k.link (L.length - 1) (by omega)
      simp only [show L.length - 1 + 1 = L.length by omega] at hk
      exact (h.stop rfl).1 _ m2.1 m2.2 (by rw [hk, ← e, hen])
theorem FanR.unique {al : List Way} (hA : Apart al) {v start : Int} {L M : List Way} {r s : Bool} (h : FanR al v start L r) (k : FanR al v start M s) : L = M ∧ r = s := by
  have h1 := h.le hA k
  have h2 := k.le hA h
  have e : L = M := List.ext_getElem (by omega) fun i a b => h.toFanC.same hA k.toFanC i a b
  subst e
  refine ⟨rfl, ?_⟩
  cases r <;> cases s
  · rfl
  · obtain ⟨h3, h4⟩ := k.back rfl
    rcases (h.stop rfl).2 with h5 | h5
    · exact absurd h5 h3
    · exact absurd h4 h5
  · obtain ⟨h3, h4⟩ := h.back rfl
    rcases (k.stop rfl).2 with h5 | h5
    · exact absurd h5 h3
    · exact absurd h4 h5
  · rfl
/-- An edge: its two vertices, the lower first; the face that goes along it, the one that comes back; -1: none. -/
structure Ed where
  a : Int
  b : Int
  f : Int
  g : Int
theorem Ed.ext4 {x y : Ed} (h1 : x.a = y.a) (h2 : x.b = y.b) (h3 : x.f = y.f) (h4 : x.g = y.g) : x = y := by
  cases x; cases y; simp_all
def edOf (al : List Way) (a b : Int) : Ed := ⟨a, b, faceOf al a b, faceOf al b a⟩
def ltE (x y : Ed) : Prop := x.a < y.a ∨ (x.a = y.a ∧ x.b < y.b)
theorem ltE_irrefl (x : Ed) : ¬ ltE x x := by unfold ltE; omega
theorem ltE_trans {x y z : Ed} (h : ltE x y) (k : ltE y z) : ltE x z := by unfold ltE at *; omega
structure EdgesR (al : List Way) (es : List Ed) : Prop where
  sorted : es.Pairwise ltE
  mem : ∀ e, e ∈ es ↔ ∃ w ∈ al, e = edOf al (min w.a w.b) (max w.a w.b)
theorem sorted_one : ∀ (l m : List Ed), l.Pairwise ltE → m.Pairwise ltE → (∀ e, e ∈ l ↔ e ∈ m) → l = m
  | [], [], _, _, _ => rfl
  | [], y :: m, _, _, h => by have := (h y).2 (by simp); simp at this
  | x :: l, [], _, _, h => by have := (h x).1 (by simp); simp at this
  | x :: l, y :: m, hl, hm, h => by
    obtain ⟨l1, l2⟩ := List.pairwise_cons.1 hl
    obtain ⟨m1, m2⟩ := List.pairwise_cons.1 hm
    have e : x = y := by
      rcases List.mem_cons.1 ((h x).1 (by simp)) with e | e
      · exact e
      · rcases List.mem_cons.1 ((h y).2 (by simp)) with e2 | e2
        · exact e2.symm
        · exact absurd (ltE_trans (m1 x e) (l1 y e2)) (ltE_irrefl y)
    subst e
    rw [sorted_one l m l2 m2 fun z => ?_]
    have hz := h z
    simp only [List.mem_cons] at hz
    constructor
    · intro hz1
      rcases hz.1 (.inr hz1) with rfl | h2
      · exact absurd (l1 _ hz1) (ltE_irrefl _)
      · exact h2
    · intro hz1
      rcases hz.2 (.inr hz1) with rfl | h2
      · exact absurd (m1 _ hz1) (ltE_irrefl _)
      · exact h2
theorem EdgesR.one {al : List Way} {l m : List Ed} (h : EdgesR al l) (k : EdgesR al m) : l = m := sorted_one l m h.sorted k.sorted fun e => (h.mem e).trans (k.mem e).symm
/-- What Build tells of faces. -/
structure TopoT where
  es : List Ed
  fans : List (List Int)
  rs : List Bool
structure TopoS (n : Int) (fs : List (List Int)) (t : TopoT) : Prop where
  walk : WalkOk n fs
  edges : EdgesR (waysL 0 fs) t.es
  nf : (t.fans.length : Int) = n
  nr : (t.rs.length : Int) = n
  fan : ∀ (v : Nat) (h : v < t.fans.length) (h2 : v < t.rs.length), ∃ L, FanR (waysL 0 fs) v (hubOf (waysL 0 fs) v (waysL 0 fs)).1 L t.rs[v] ∧ L.length = (froms (waysL 0 fs) v).length ∧ t.fans[v] = L.map Way.f
/-- The faces make a surface. -/
def Surf (n : Int) (fs : List (List Int)) : Prop := WalkOk n fs ∧ ∀ v : Int, 0 ≤ v → v < n → ∃ L r, FanR (waysL 0 fs) v (hubOf (waysL 0 fs) v (waysL 0 fs)).1 L r ∧ L.length = (froms (waysL 0 fs) v).length
theorem TopoS.surf {n : Int} {fs : List (List Int)} {t : TopoT} (h : TopoS n fs t) : Surf n fs := ⟨h.walk, fun v h0 h1 => by
  have e := h.nf
  have e2 := h.nr
  obtain ⟨L, h1, h2, _⟩ := h.fan v.toNat (by omega) (by omega)
  rw [Int.toNat_of_nonneg h0] at h1 h2
  exact ⟨L, _, h1, h2⟩⟩
end Go.Proofs.Ytpdnaceggpdleab
namespace Go.Proofs.Ytpdnaceggpdleab
open Go.RowKit
set_option linter.unusedVariables false
set_option linter.unusedSimpArgs false
set_option linter.unnecessarySimpa false
set_option maxRecDepth 100000
def i64B (x : Int) : Prop := -9223372036854775808 ≤ x ∧ x ≤ 9223372036854775807
theorem i64B.wf {x : Int} (h : i64B x) : (Lit.int .i64 x).wf = true := by
  unfold i64B at h
  simp only [Lit.wf, IntKind.min, IntKind.max, IntKind.bits, IntKind.signed, Bool.and_eq_true, decide_eq_true_eq]
  simp
  omega
theorem wideW : (match Try.prog.underlying 132 with | some (.array _ _) | some (.struct _) => true | _ => false) = true := by kernel_rfl
theorem lawW : Maps.Keyed Try.prog 132 := Maps.Keyed.of_law (deep_law_laid (m := 2) (by kernel_rfl) (by omega) (of_decide_eq_true (by kernel_rfl)) (by kernel_rfl) wideW)
theorem lawI : Maps.Keyed Try.prog 3 := Maps.int_keyed Try.underlying3
theorem keyTW : Try.prog.keyType 132 = true := by kernel_rfl
/-- A way as a key. -/
def wayV (a b : Int) : Value := .agg #[.int .i64 a, .int .i64 b]
def keyL (a b : Int) : Lit := .string (keyBytes [.int .i64 a, .int .i64 b])
theorem keyW {a b : Int} (ha : i64B a) (hb : i64B b) : keyOf Try.prog 132 (wayV a b) = some (keyL a b) := by
  have hw1 := ha.wf
  have hw2 := hb.wf
  have hf : (wayV a b).formed Try.prog 132 = true := by
    unfold wayV; simp only [Value.formed, Try.underlying132]; kernel_rfl
  obtain ⟨m, hm⟩ : ∃ m, Try.prog.types.size = m + 1 := ⟨Try.prog.types.size - 1, by kernel_rfl⟩
  have c1 : Try.prog.cellsOf 132 = 2 := by kernel_rfl
  have c2 : Try.prog.cellsOf 3 = 1 := by kernel_rfl
  unfold keyOf
  rw [Try.underlying132]
  simp only [keyTW, hf, Bool.and_self, if_true, hm]
  simp only [wayV, Value.cells, Program.keyLits, Try.underlying132, c1, c2, Try.underlying3]
  simp [hw1, hw2, c2, Try.underlying3, Program.keyLits, keyL]
theorem keyL_inj {a b c d : Int} (ha : i64B a) (hb : i64B b) (hc : i64B c) (hd : i64B d) (h : keyL a b = keyL c d) : a = c ∧ b = d := by
  have h1 := keyW ha hb
  have h2 := keyW hc hd
  rw [h] at h1
  have := lawW.inj h1 h2
  simpa [wayV] using this
theorem lits_int {m : Nat} {u : Value} {l : List Lit} (h : Try.prog.keyLits (m + 1) 3 [u] = some l) : ∃ n : Int, u = .int .i64 n ∧ i64B n ∧ l = [.int .i64 n] := by
  unfold Program.keyLits at h
  rw [Try.underlying3] at h
  cases u <;> simp at h
  rename_i q n
  obtain ⟨⟨rfl, hw⟩, rfl⟩ := h
  refine ⟨n, rfl, ?_, rfl⟩
  unfold i64B
  simp only [Lit.wf, IntKind.min, IntKind.max, IntKind.bits, IntKind.signed, Bool.and_eq_true, decide_eq_true_eq] at hw
  simp at hw
  omega
theorem key_inv {v : Value} {l : Lit} (h : keyOf Try.prog 132 v = some l) : ∃ a b : Int, v = wayV a b ∧ i64B a ∧ i64B b ∧ l = keyL a b := by
  obtain ⟨xs, L, rfl, hk, rfl⟩ := keyOf_top wideW h
  obtain ⟨m, hm⟩ : ∃ m, Try.prog.types.size = m + 1 := ⟨Try.prog.types.size - 1, by kernel_rfl⟩
  have c1 : Try.prog.cellsOf 132 = 2 := by kernel_rfl
  have c2 : Try.prog.cellsOf 3 = 1 := by kernel_rfl
  rw [hm] at hk
  unfold Program.keyLits at hk
  rw [Try.underlying132] at hk
  simp only [c1] at hk
  split at hk
  · rename_i hl
    obtain ⟨u, v, e⟩ : ∃ u v, xs.toList = [u, v] := by
      have := hl.1
      match h : xs.toList, this with
      | [u, v], _ => exact ⟨u, v, rfl⟩
    have exs : xs = #[u, v] := Array.ext' (by rw [e])
    subst exs
    rw [List.mapM_cons, List.mapM_cons, List.mapM_nil] at hk
    simp only [c2, List.take_succ_cons, List.take_zero, List.drop_zero, List.drop_succ_cons] at hk
    cases h1 : Try.prog.keyLits (m + 1) 3 [u] with
    | none => simp [h1] at hk
    | some l1 =>
      cases h2 : Try.prog.keyLits (m + 1) 3 [v] with
      | none => simp [h1, h2] at hk
      | some l2 =>
        obtain ⟨n1, rfl, r1, rfl⟩ := lits_int h1
        obtain ⟨n2, rfl, r2, rfl⟩ := lits_int h2
        simp [h1, h2] at hk
        subst hk
        exact ⟨n1, n2, rfl, r1, r2, rfl⟩
  · cases hk
/-- What an element reads as. -/
def goR (v : Value) : Option (DataW Unit × List MemPlace) :=
  match v with
  | .agg xs => match xs.toList with
    | [.int .i64 x, .int .i64 y] => some (.agg [.lit (.int .i64 x), .lit (.int .i64 y)], [])
    | _ => none
  | _ => none
def goV (f c : Int) : Value := .agg #[.int .i64 f, .int .i64 c]
def goD (f c : Int) : DataW Unit := .agg [.lit (.int .i64 f), .lit (.int .i64 c)]
theorem goR_mk (f c : Int) : goR (goV f c) = some (goD f c, []) := rfl
theorem goR_inv {v : Value} {y : DataW Unit × List MemPlace} (h : goR v = some y) : ∃ p : Int × Int, v = goV p.1 p.2 ∧ y = (goD p.1 p.2, []) := by
  unfold goR at h
  split at h
  · rename_i xs
    split at h
    · rename_i x y e
      refine ⟨(x, y), ?_, (Option.some.inj h).symm⟩
      have : xs = #[.int .i64 x, .int .i64 y] := Array.ext' (by rw [e])
      rw [this]; rfl
    · cases h
  · cases h
theorem goD_inj {f c f' c' : Int} (h : goD f c = goD f' c') : f = f' ∧ c = c' := by
  unfold goD at h; simpa using h
theorem zeroG (w : World) : (zeroValue 129).run Try.prog w = .ok (goV 0 0) w := by kernel_rfl
theorem zeroI (w : World) : (zeroValue 3).run Try.prog w = .ok (.int .i64 0) w := by kernel_rfl
/-- The datum of a map reads as these ways. -/
structure GoD (D : DataW Unit) (P : List Way) : Prop where
  rng : ∀ w ∈ P, i64B w.a ∧ i64B w.b
  has : ∀ a b, i64B a → i64B b → Maps.has D (keyL a b) = (look P a b).isSome
  val : ∀ a b w, i64B a → i64B b → look P a b = some w → ∀ zd, D.atKey (keyL a b) zd = goD w.f w.c
def GoM (W : World) (B : Nat) (P : List Way) : Prop := ∃ D : DataW Unit, W.ownsMap Try.prog 132 goR B P.length D ∧ GoD D P
theorem GoM.made (W : World) : GoM (W.alloc (.map #[] 0)) W.heap.size [] := ⟨.map [], World.ownsMap_made _ _ _ _, by simp, fun a b _ _ => rfl, fun a b w _ _ h => by simp [look] at h⟩
theorem GoM.kept {W W' : World} {B : Nat} {P : List Way} {row : Option Nat} (h : GoM W B P) (hg : W.grownBy W' row) (hne : some B ≠ row) : GoM W' B P := by
  obtain ⟨D, h1, h2⟩ := h; exact ⟨D, h1.kept hg hne, h2⟩
theorem GoM.lt {W : World} {B : Nat} {P : List Way} (h : GoM W B P) : B < W.heap.size := by
  obtain ⟨D, h1, h2⟩ := h; exact h1.lt
def gF (o : Option Way) : Int := (o.map Way.f).getD 0
def gC (o : Option Way) : Int := (o.map Way.c).getD 0
theorem look_snoc (P : List Way) (w : Way) (a b : Int) (hn : look P w.a w.b = none) : look (P ++ [w]) a b = if a = w.a ∧ b = w.b then some w else look P a b := by
  unfold look at *
  rw [List.find?_append]
  split
  · rename_i e
    rw [e.1, e.2, hn]; simp
  · rename_i e
    have : (List.find? (fun x => x.a == a && x.b == b) [w]) = none := by
      simp only [List.find?_singleton]
      rw [if_neg]
      simp only [Bool.and_eq_true, beq_iff_eq]
      exact fun h => e ⟨h.1.symm, h.2.symm⟩
    rw [this]; simp
section
variable {ops : Array Oper} {rest : List Oper} {o : Oper} {a : Act} {Q : Exit → Act → World → Prop}
theorem wpL_look_go (W : World) (hg : o.guard = none) (m x : Operand) (hop : o.op = Op.lookup 97 m x true) (B : Nat) (P : List Way) (hm : a.eval m = .map (some B)) (h : GoM W B P) (p q : Int) (hx : a.eval x = wayV p q) (hp : i64B p) (hq : i64B q)
    (hK : wpList Try.prog ops Q rest (a.put o.dst (.tuple #[.agg #[.int .i64 (gF (look P p q)), .int .i64 (gC (look P p q))], .bool (look P p q).isSome])) W) : wpList Try.prog ops Q (o :: rest) a W := by
  obtain ⟨D, ho, hd⟩ := h
  refine wpList_lookup_own_ok W hg m x _ hop 132 129 lawW Try.underlying97 goR (zeroG W) (goD 0 0) [] (goR_mk 0 0) B P.length D hm ho _ (keyL p q) hx (keyW hp hq) ?_
  intro v ps hv
  obtain ⟨⟨f, c⟩, rfl, e⟩ := goR_inv hv
  rw [hd.has p q hp hq]
  have e2 : f = gF (look P p q) ∧ c = gC (look P p q) := by
    have e1 := congrArg Prod.fst e
    simp only at e1
    cases hl : look P p q with
    | none =>
      have := hd.has p q hp hq
      rw [hl] at this
      rw [Maps.atKey_of_not_has this] at e1
      have := goD_inj e1
      exact ⟨this.1.symm, this.2.symm⟩
    | some w =>
      rw [hd.val p q w hp hq hl] at e1
      have := goD_inj e1
      exact ⟨this.1.symm, this.2.symm⟩
  show wpList Try.prog ops Q rest (a.put o.dst (.tuple #[goV f c, .bool (look P p q).isSome])) W
  rw [e2.1, e2.2]
  exact hK
theorem wpL_put_go (W : World) (hg : o.guard = none) (m x v : Operand) (hop : o.op = Op.mapUpdate 97 m x v) (B : Nat) (P : List Way) (hm : a.eval m = .map (some B)) (h : GoM W B P) (w : Way) (hx : a.eval x = wayV w.a w.b) (hv : a.eval v = goV w.f w.c)
    (hp : i64B w.a) (hq : i64B w.b) (hn : look P w.a w.b = none) (hlen : P.length < 9223372036854775807)
    (hK : ∀ W', GoM W' B (P ++ [w]) → W.grownBy W' (some B) → wpList Try.prog ops Q rest (a.put o.dst undef) W') : wpList Try.prog ops Q (o :: rest) a W := by
  obtain ⟨D, ho, hd⟩ := h
  refine wpList_mapUpdate_own W hg m x v _ hop 132 129 lawW Try.underlying97 goR B P.length D hm ho (by unfold maxLen; omega) _ _ (keyL w.a w.b) hx hv (keyW hp hq) (goD w.f w.c) [] (goR_mk _ _) ?_
  intro W' h1 h2
  refine hK W' ⟨D.put (keyL w.a w.b) (goD w.f w.c), by simpa using h1, ?_, ?_, ?_⟩ h2
  · intro u hu
    rcases List.mem_append.1 hu with hu | hu
    · exact hd.rng u hu
    · obtain rfl := List.mem_singleton.1 hu; exact ⟨hp, hq⟩
  · intro c d hc hdd
    rw [look_snoc _ _ _ _ hn]
    split
    · rename_i e
      rw [e.1, e.2, Maps.has_put_same ho.isMap (lawW.key (keyW hp hq))]; rfl
    · rename_i e
      rw [Maps.has_put_other (fun e2 => e (keyL_inj hc hdd hp hq e2)), hd.has c d hc hdd]
  · intro c d u hc hdd hl zd
    rw [look_snoc _ _ _ _ hn] at hl
    split at hl
    · rename_i e
      obtain rfl := Option.some.inj hl
      rw [e.1, e.2, Maps.atKey_put_same ho.isMap (lawW.key (keyW hp hq))]
    · rename_i e
      rw [Maps.atKey_put_other (fun e2 => e (keyL_inj hc hdd hp hq e2))]
      exact hd.val c d u hc hdd hl zd
/-- A range over the ways: those in dn have come, each once. -/
def GoRg (W : World) (B r : Nat) (P dn : List Way) (cnt : Nat) : Prop := ∃ (D : DataW Unit) (left : Lit → Bool), W.ranges Try.prog 132 goR B r P.length D left cnt ∧ GoD D P ∧ (∀ w ∈ P, left (keyL w.a w.b) = true ↔ w ∉ dn) ∧ (∀ w ∈ dn, w ∈ P) ∧ dn.Nodup
theorem GoRg.go {W : World} {B r : Nat} {P dn : List Way} {cnt : Nat} (h : GoRg W B r P dn cnt) : GoM W B P := by
  obtain ⟨D, l, h1, h2, _⟩ := h; exact ⟨D, h1.owns, h2⟩
theorem GoRg.kept {W W' : World} {B r : Nat} {P dn : List Way} {cnt : Nat} {row : Option Nat} (h : GoRg W B r P dn cnt) (hg : W.grownBy W' row) (hne : some B ≠ row) (hr : some r ≠ row) : GoRg W' B r P dn cnt := by
  obtain ⟨D, l, h1, h2⟩ := h; exact ⟨D, l, h1.kept hg hne hr, h2⟩
theorem GoRg.left {W : World} {B r : Nat} {P dn : List Way} {cnt : Nat} (h : GoRg W B r P dn cnt) : W.rangeLeft B r = cnt := by
  obtain ⟨D, l, h1, h2⟩ := h; exact h1.left_eq
theorem GoRg.ne {W : World} {B r : Nat} {P dn : List Way} {cnt : Nat} (h : GoRg W B r P dn cnt) : r ≠ B := by
  obtain ⟨D, l, h1, h2⟩ := h; exact h1.ne
theorem GoRg.lt {W : World} {B r : Nat} {P dn : List Way} {cnt : Nat} (h : GoRg W B r P dn cnt) : r < W.heap.size := by
  obtain ⟨D, l, h1, h2⟩ := h; exact h1.lt
theorem wpL_range_go (W : World) (hg : o.guard = none) (m : Operand) (hop : o.op = Op.range 97 m) (B : Nat) (P : List Way) (hA : Apart P) (hm : a.eval m = .map (some B)) (h : GoM W B P)
    (hK : ∀ W' cnt, GoRg W' B W.heap.size P [] cnt → W.grownBy W' none → W'.heap.size = W.heap.size + 1 → wpList Try.prog ops Q rest (a.put o.dst (.pointer (some ⟨W.heap.size, 0, none⟩))) W') : wpList Try.prog ops Q (o :: rest) a W := by
  obtain ⟨D, ho, hd⟩ := h
  refine wpList_range_own W hg m _ hop 132 129 lawW Try.underlying97 goR B P.length D hm ho ?_
  intro W' h1 h2 h3
  refine hK W' _ ⟨D, _, h1, hd, fun w hw => ?_, by simp, List.nodup_nil⟩ h2 h3
  have hr := hd.rng w hw
  rw [hd.has _ _ hr.1 hr.2, look_mem hA hw]
  simp
theorem wpL_next_go (W : World) (hg : o.guard = none) (it : Operand) (hop : o.op = Op.next it false) (B r : Nat) (P dn : List Way) (hA : Apart P) (hit : a.eval it = .pointer (some ⟨r, 0, none⟩)) (cnt : Nat) (h : GoRg W B r P dn cnt)
    (hDone : (∀ w ∈ P, w ∈ dn) → wpList Try.prog ops Q rest (a.put o.dst (.tuple #[.bool false])) W)
    (hMore : ∀ (w : Way) (W' : World) (cnt' : Nat), w ∈ P → w ∉ dn → GoRg W' B r P (dn ++ [w]) cnt' → cnt' < cnt → W.grownBy W' (some r) → W'.heap.size = W.heap.size → (Instr.entry (.pointer (some ⟨r, 0, none⟩))).run Try.prog W' = .ok (.tuple #[.agg #[.int .i64 w.a, .int .i64 w.b], .agg #[.int .i64 w.f, .int .i64 w.c]]) W' → wpList Try.prog ops Q rest (a.put o.dst (.tuple #[.bool true, .agg #[.int .i64 w.a, .int .i64 w.b], .agg #[.int .i64 w.f, .int .i64 w.c]])) W') :
    wpList Try.prog ops Q (o :: rest) a W := by
  obtain ⟨D, left, hr, hd, hl, hs, hn⟩ := h
  refine wpList_next_ranges W hg it hop 132 lawW goR (fun p : Int × Int => wayV p.1 p.2) (fun p : Int × Int => goV p.1 p.2) (fun key kl hk => ?_) (fun v y hv => ?_) B r P.length D left cnt hit hr (fun h0 hall => ?_) ?_
  · obtain ⟨p, q, e, _⟩ := key_inv hk; exact ⟨(p, q), e⟩
  · obtain ⟨p, e, _⟩ := goR_inv hv; exact ⟨p, e⟩
  · refine hDone fun w hw => ?_
    apply Classical.byContradiction
    intro hw2
    have := (hl w hw).2 hw2
    rw [hall] at this; cases this
  · rintro ⟨p, q⟩ ⟨f, c⟩ kl y W' cnt' hkey hlk hR hat hrg hlt hgr hsz hen
    obtain ⟨p', q', e, hp, hq, rfl⟩ := key_inv hkey
    obtain ⟨rfl, rfl⟩ : p = p' ∧ q = q' := by simpa [wayV] using e
    have hh : Maps.has D (keyL p q) = true := Maps.has_true_of_atKey hat
    rw [hd.has p q hp hq] at hh
    cases hlw : look P p q with
    | none => rw [hlw] at hh; cases hh
    | some w =>
      obtain ⟨hw, rfl, rfl⟩ := look_some hlw
      have h1 := hat (goD 0 0)
      rw [hd.val _ _ w hp hq hlw] at h1
      obtain ⟨⟨f', c'⟩, e1, rfl⟩ := goR_inv hR
      obtain ⟨rfl, rfl⟩ : f = f' ∧ c = c' := by simpa [goV] using e1
      obtain ⟨e2, e3⟩ := goD_inj h1
      simp only at e2 e3
      subst e2; subst e3
      have hwn := (hl w hw).1 hlk
      refine hMore w W' cnt' hw hwn ⟨D, _, hrg, hd, fun u hu => ?_, fun u hu => ?_, ?_⟩ hlt hgr hsz hen
      · have hru := hd.rng u hu
        rw [List.mem_append, List.mem_singleton]
        constructor
        · intro h3
          simp only [Bool.and_eq_true, Bool.not_eq_true'] at h3
          rintro (h4 | rfl)
          · exact (hl u hu).1 h3.1 h4
          · rw [WideAt.sameKey_self (lawW.key (keyW hp hq))] at h3; cases h3.2
        · intro h3
          simp only [Bool.and_eq_true, Bool.not_eq_true']
          refine ⟨(hl u hu).2 (fun h4 => h3 (.inl h4)), Maps.sameKey_ne fun e4 => ?_⟩
          obtain ⟨e5, e6⟩ := keyL_inj hru.1 hru.2 hp hq e4
          exact h3 (.inr (hA.key hu hw e5 e6))
      · rcases List.mem_append.1 hu with hu | hu
        · exact hs u hu
        · obtain rfl := List.mem_singleton.1 hu; exact hw
      · rw [List.nodup_append]
        refine ⟨hn, by simp, ?_⟩
        intro x hx y hy e9
        rw [List.mem_singleton.1 hy] at e9
        rw [e9] at hx; exact hwn hx
end
/-- Of each vertex the last face that it was met in. -/
structure LaD (D : DataW Unit) (P : List Way) : Prop where
  has : ∀ v, i64B v → (Maps.has D (.int .i64 v) = true ↔ ∃ x ∈ P, x.b = v)
  val : ∀ v, i64B v → Maps.has D (.int .i64 v) = true → ∃ x ∈ P, x.b = v ∧ (∀ zd, D.atKey (.int .i64 v) zd = .lit (.int .i64 x.f)) ∧ ∀ y ∈ P, y.b = v → y.f ≤ x.f
  size : ∃ M : List Int, M.Nodup ∧ (∀ v, v ∈ M ↔ ∃ x ∈ P, x.b = v) ∧ Maps.size D = M.length
def LaM (W : World) (B : Nat) (P : List Way) : Prop := ∃ D : DataW Unit, W.ownsMap Try.prog 3 (plainElem Try.prog 3) B P.length D ∧ LaD D P
theorem LaM.made (W : World) : LaM (W.alloc (.map #[] 0)) W.heap.size [] := ⟨.map [], World.ownsMap_made _ _ _ _, fun v _ => by simp [Maps.has], fun v _ h => by simp [Maps.has] at h, [], List.nodup_nil, by simp, rfl⟩
theorem LaM.kept {W W' : World} {B : Nat} {P : List Way} {row : Option Nat} (h : LaM W B P) (hg : W.grownBy W' row) (hne : some B ≠ row) : LaM W' B P := by
  obtain ⟨D, h1, h2⟩ := h; exact ⟨D, h1.kept hg hne, h2⟩
theorem LaM.lt {W : World} {B : Nat} {P : List Way} (h : LaM W B P) : B < W.heap.size := by
  obtain ⟨D, h1, h2⟩ := h; exact h1.lt
section
variable {ops : Array Oper} {rest : List Oper} {o : Oper} {a : Act} {Q : Exit → Act → World → Prop}
theorem wpL_look_la (W : World) (hg : o.guard = none) (m x : Operand) (hop : o.op = Op.lookup 127 m x true) (B : Nat) (P : List Way) (hm : a.eval m = .map (some B)) (h : LaM W B P) (v : Int) (hx : a.eval x = .int .i64 v) (hv : i64B v)
    (hK : ∀ (g : Int) (met : Bool), (met = true → ∃ x ∈ P, x.b = v ∧ x.f = g ∧ ∀ y ∈ P, y.b = v → y.f ≤ g) → (met = false → ∀ x ∈ P, x.b ≠ v) → wpList Try.prog ops Q rest (a.put o.dst (.tuple #[.int .i64 g, .bool met])) W) : wpList Try.prog ops Q (o :: rest) a W := by
  obtain ⟨D, ho, hd⟩ := h
  refine wpList_lookup_own_ok_int W hg m x _ hop 3 3 .i64 lawI Try.underlying127 Try.underlying3 (zeroI W) B P.length D hm ho _ (.int .i64 v) hx (Maps.keyOf_int_mk Try.underlying3 hv.wf) ?_
  intro c hat _
  refine hK c _ (fun h1 => ?_) (fun h1 y hy e => ?_)
  · obtain ⟨x, hx1, hx2, hx3, hx4⟩ := hd.val v hv h1
    have := hx3 (.lit (.int .i64 0))
    rw [hat] at this
    simp only [DataW.lit.injEq, Lit.int.injEq, true_and] at this
    exact ⟨x, hx1, hx2, this.symm, by rw [this]; exact hx4⟩
  · have := (hd.has v hv).2 ⟨y, hy, e⟩
    rw [h1] at this; cases this
theorem wpL_put_la (W : World) (hg : o.guard = none) (m x v : Operand) (hop : o.op = Op.mapUpdate 127 m x v) (B : Nat) (P : List Way) (hm : a.eval m = .map (some B)) (h : LaM W B P) (w : Way) (hx : a.eval x = .int .i64 w.b) (hv : a.eval v = .int .i64 w.f)
    (hp : i64B w.b) (hq : i64B w.f) (hn : ∀ y ∈ P, y.b = w.b → y.f ≤ w.f) (hlen : P.length < 9223372036854775807)
    (hK : ∀ W', LaM W' B (P ++ [w]) → W.grownBy W' (some B) → wpList Try.prog ops Q rest (a.put o.dst undef) W') : wpList Try.prog ops Q (o :: rest) a W := by
  obtain ⟨D, ho, hd⟩ := h
  have hk := Maps.keyOf_int_mk (P := Try.prog) Try.underlying3 hp.wf
  refine wpList_mapUpdate_own W hg m x v _ hop 3 3 lawI Try.underlying127 (plainElem Try.prog 3) B P.length D hm ho (by unfold maxLen; omega) _ _ (.int .i64 w.b) hx hv hk _ [] (plainElem_int Try.underlying3 hq.wf) ?_
  intro W' h1 h2
  have hne : ∀ c, c ≠ w.b → Lit.int .i64 c ≠ Lit.int .i64 w.b := fun c hc e => hc (by simpa using e)
  have hhas : ∀ c, i64B c → (Maps.has (D.put (.int .i64 w.b) (.lit (.int .i64 w.f))) (.int .i64 c) = true ↔ ∃ x ∈ P ++ [w], x.b = c) := fun c hc => by
    by_cases e : c = w.b
    · subst e
      rw [Maps.has_put_same ho.isMap (lawI.key hk)]
      exact ⟨fun _ => ⟨w, by simp, rfl⟩, fun _ => rfl⟩
    · rw [Maps.has_put_other (hne c e), hd.has c hc]
      constructor
      · rintro ⟨x, hx, e⟩; exact ⟨x, List.mem_append_left _ hx, e⟩
      · rintro ⟨x, hx, e2⟩
        rcases List.mem_append.1 hx with hx | hx
        · exact ⟨x, hx, e2⟩
        · obtain rfl := List.mem_singleton.1 hx; exact absurd e2.symm e
  refine hK W' ⟨_, by simpa using h1, hhas, ?_, ?_⟩ h2
  · intro c hc hh
    by_cases e : c = w.b
    · subst e
      refine ⟨w, by simp, rfl, fun zd => Maps.atKey_put_same ho.isMap (lawI.key hk) _ _, fun y hy e2 => ?_⟩
      rcases List.mem_append.1 hy with hy | hy
      · exact hn y hy e2
      · obtain rfl := List.mem_singleton.1 hy; exact Int.le_refl _
    · rw [Maps.has_put_other (hne c e)] at hh
      obtain ⟨x, hx1, hx2, hx3, hx4⟩ := hd.val c hc hh
      refine ⟨x, List.mem_append_left _ hx1, hx2, fun zd => by rw [Maps.atKey_put_other (hne c e)]; exact hx3 zd, fun y hy e2 => ?_⟩
      rcases List.mem_append.1 hy with hy | hy
      · exact hx4 y hy e2
      · obtain rfl := List.mem_singleton.1 hy; exact absurd e2.symm e
  · obtain ⟨M, hM1, hM2, hM3⟩ := hd.size
    have ht := ho.tidy lawI
    by_cases e : Maps.has D (.int .i64 w.b) = true
    · refine ⟨M, hM1, fun c => ?_, by rw [Maps.size_put ht, if_pos e, hM3]⟩
      rw [hM2]
      constructor
      · rintro ⟨x, hx, e⟩; exact ⟨x, List.mem_append_left _ hx, e⟩
      · rintro ⟨x, hx, e2⟩
        rcases List.mem_append.1 hx with hx | hx
        · exact ⟨x, hx, e2⟩
        · obtain rfl := List.mem_singleton.1 hx
          obtain ⟨y, hy, e3⟩ := (hd.has _ hp).1 e
          exact ⟨y, hy, e3.trans e2⟩
    · have hnm : w.b ∉ M := fun h => e ((hd.has _ hp).2 ((hM2 _).1 h))
      refine ⟨M ++ [w.b], ?_, fun c => ?_, by rw [Maps.size_put ht, if_neg e, hM3]; simp⟩
      · rw [List.nodup_append]
        refine ⟨hM1, by simp, ?_⟩
        intro x hx y hy e9
        rw [List.mem_singleton.1 hy] at e9
        rw [e9] at hx; exact hnm hx
      · rw [List.mem_append, hM2, List.mem_singleton]
        constructor
        · rintro (⟨x, hx, e⟩ | rfl)
          · exact ⟨x, List.mem_append_left _ hx, e⟩
          · exact ⟨w, by simp, rfl⟩
        · rintro ⟨x, hx, e2⟩
          rcases List.mem_append.1 hx with hx | hx
          · exact .inl ⟨x, hx, e2⟩
          · obtain rfl := List.mem_singleton.1 hx; exact .inr e2.symm
theorem LaM.len {W : World} {B : Nat} {P : List Way} (h : LaM W B P) (ty : TypeId) : ∃ M : List Int, M.Nodup ∧ (∀ v, v ∈ M ↔ ∃ x ∈ P, x.b = v) ∧ (Builtin.len_ #[127] ty #[.map (some B)]).run Try.prog W = .ok (.int .i64 M.length) W := by
  obtain ⟨D, ho, hd⟩ := h
  obtain ⟨M, h1, h2, h3⟩ := hd.size
  refine ⟨M, h1, h2, ?_⟩
  rw [← h3]
  exact ho.len Try.underlying127 ty
end
end Go.Proofs.Ytpdnaceggpdleab
namespace Go.Proofs.Ytpdnaceggpdleab
open Go.RowKit
set_option linter.unusedVariables false
set_option linter.unusedSimpArgs false
def More.none_ : More := ⟨fun w => w, fun w => Below.refl _ _⟩
theorem grow_none (w : World) : grow w More.none_ = w := rfl
section
variable {P : Program} {ops : Array Oper} {w : World} {md : Region.Mode}
/-- From wherever the region has come, the operation answers v and leaves what was there. -/
def SureAt (P : Program) (o : Oper) (a : Act) (w : World) (v : Value) : Prop := ∀ x : More, o.quietAt P a (fun u => ∃ y, u = grow (grow w x) y) (grow w x) v
def Sure (P : Program) (ops : Array Oper) (w : World) (o : Oper) (v : Value) (a : Act) : Prop :=
  (Region.wanted o (yielded ops a.tmps) = true ∧ SureAt P o a w v) ∨ (Region.wanted o (yielded ops a.tmps) = false ∧ v = undef)
theorem Sure.of_same {o : Oper} {v : Value} {a a' : Act} (h : Sure P ops w o v a) (he : execOp a'.eval o = execOp a.eval o) (hw : Region.wanted o (yielded ops a'.tmps) = Region.wanted o (yielded ops a.tmps)) : Sure P ops w o v a' := by
  unfold Sure SureAt Oper.quietAt at *
  rw [he, hw]
  exact h
/-- What another operation, apart from it, has left makes no difference. -/
theorem Sure.put {o oj : Oper} {v u : Value} {a : Act} (h : Sure P ops w o v a) (hs : ∀ cs b, o.op ≠ .select cs b) (hd : ∀ d, oj.dst = some d → d ∉ o.looksAt ops) : Sure P ops w o v (a.put oj.dst u) :=
  h.of_same (execOp_put o hs a oj.dst u hd) (wanted_put o a oj.dst u hd)
theorem Sure.unput {o oj : Oper} {v u : Value} {a : Act} (h : Sure P ops w o v (a.put oj.dst u)) (hs : ∀ cs b, o.op ≠ .select cs b) (hd : ∀ d, oj.dst = some d → d ∉ o.looksAt ops) : Sure P ops w o v a :=
  h.of_same (execOp_put o hs a oj.dst u hd).symm (wanted_put o a oj.dst u hd).symm
def sureOp (P : Program) (ops : Array Oper) (w : World) (i : Nat) (K : Act → Prop) (a : Act) : Prop := ∃ o v, ops[i]? = some o ∧ Sure P ops w o v a ∧ K (a.put o.dst v)
/-- The one block that the region makes: its place in the region, its slot. -/
def pt (w : World) (x : More) : Value := .pointer (some ⟨(grow w x).heap.size, 0, none⟩)
/-- Where the region may be: nothing made yet; or the block made behind what x tells. -/
def At (w : World) (obj : Obj) : Option More → World → Prop
  | none, u => ∃ x, u = grow w x
  | some x, u => ∃ y, u = grow ((grow w x).alloc obj) y
theorem At.grows {obj : Obj} {s : Option More} {u : World} (h : At w obj s u) : ∃ x, u = grow w x := by
  cases s with
  | none => exact h
  | some x =>
    obtain ⟨y, rfl⟩ := h
    exact grow_of (bel_grow (bel_alloc (bel_grow (Below.refl _ _) x) obj) y)
theorem At.on {obj : Obj} {s : Option More} {u : World} (h : At w obj s u) (y : More) : At w obj s (grow u y) := by
  cases s with
  | none => obtain ⟨x, rfl⟩ := h; exact ⟨x.then y, rfl⟩
  | some x => obtain ⟨z, rfl⟩ := h; exact ⟨z.then y, rfl⟩
variable {n N : Nat} {alc : Option Tmp} {obj : Obj} {L : Option More → Array Bool → Act → Prop}
def anyU (P : Program) (md : Region.Mode) (ops : Array Oper) (w : World) (n : Nat) (alc : Option Tmp) (L : Option More → Array Bool → Act → Prop) : Nat → Option More → Array Bool → Act → Prop
  | 0, s, listed, a => L s listed a
  | f + 1, s, listed, a => Region.ready md ops listed ≠ [] ∧ ∀ i ∈ Region.ready md ops listed,
      (i < n ∧ sureOp P ops w i (anyU P md ops w n alc L f s (listed.setIfInBounds i true)) a) ∨
      (i = n ∧ s = none ∧ ∃ d, alc = some d ∧ ∀ x, anyU P md ops w n alc L f (some x) (listed.setIfInBounds i true) (a.put (some d) (pt w x)))
/-- What the block's making does. -/
def Makes (P : Program) (ops : Array Oper) (n : Nat) (alc : Option Tmp) (obj : Obj) : Prop :=
  ∀ d, alc = some d → ∃ o, ops[n]? = some o ∧ o.dst = some d ∧ o.guard = none ∧ ∀ (a : Act) (u : World), (execOp a.eval o).run P u = .ok (.value (.pointer (some ⟨u.heap.size, 0, none⟩))) (u.alloc obj)
theorem any_sound {g : Nat} {Q' : Exit → Act → World → Prop} (hm : Makes P ops n alc obj) (hL : ∀ s listed a u, At w obj s u → L s listed a → wpAny P md ops Q' g listed a u) :
    ∀ (f : Nat) (s : Option More) (listed : Array Bool) (a : Act) (u : World), At w obj s u → anyU P md ops w n alc L f s listed a → wpAny P md ops Q' (f + g) listed a u
  | 0, s, listed, a, u, hu, h => by rw [Nat.zero_add]; exact hL _ _ _ _ hu h
  | f + 1, s, listed, a, u, hu, h => by
    rw [show f + 1 + g = (f + g) + 1 by omega]
    refine ⟨fun h0 => absurd h0 h.1, fun i hi => ?_⟩
    rcases h.2 i hi with ⟨_, o, v, ho, hy, hk⟩ | ⟨hin, hsn, d, hd, hk⟩
    · unfold wpOp
      simp only [ho]
      rcases hy with ⟨hw, hv⟩ | ⟨hw, rfl⟩
      · rw [if_pos hw]
        left
        obtain ⟨x, rfl⟩ := hu.grows
        have h3 := hv x
        unfold Oper.quietAt at h3
        unfold Oper.wp
        generalize (execOp a.eval o).run P (grow w x) = r at *
        cases r with
        | ok nx w' =>
          cases nx <;> simp only [Oper.quietUpon] at h3 <;> simp only [Oper.upon]
          case value u' =>
            obtain ⟨e1, e2⟩ := h3
            rw [e1, e2]
            exact any_sound hm hL f _ _ _ _ hu hk
          case skip =>
            obtain ⟨e1, e2⟩ := h3
            rw [e1, ← e2]
            exact any_sound hm hL f _ _ _ _ hu hk
          case enter fn args =>
            obtain ⟨e1, hc⟩ := h3
            rw [e1]
            exact hc.mono fun e w'' ⟨he, y, hy⟩ => by
              subst he hy
              exact any_sound hm hL f _ _ _ _ (hu.on y) hk
        | halt x w' => simp only [Oper.quietUpon] at h3
      · rw [if_neg (by rw [hw]; exact Bool.false_ne_true)]
        exact any_sound hm hL f _ _ _ _ hu hk
    · obtain ⟨o, ho, hdst, hg, hrun⟩ := hm d hd
      rw [hsn] at hu
      obtain ⟨x, hux⟩ := hu
      unfold wpOp
      rw [hin] at hk ⊢
      simp only [ho]
      rw [if_pos (by simp [Region.wanted, hg])]
      left
      unfold Oper.wp
      rw [hrun]
      simp only [Oper.upon, hdst]
      rw [hux]
      exact any_sound hm hL f (some x) _ _ _ ⟨More.none_, rfl⟩ (hk x)
theorem any_first {i : Nat} {oi : Oper} {v : Value} (hm : Makes P ops n alc obj) (hi : ops[i]? = some oi) (hsel : ∀ (j : Nat) (o : Oper) cs b, ops[j]? = some o → o.op ≠ .select cs b) (hin : i < n) (hnN : n ≤ N) (hN : ∀ d, alc = some d → N = n + 1)
    (hs : Region.sinkB md ops N = true) (hc : Region.chainB md ops N = true) (hNs : N < ops.size) (hdone : ∀ s listed a, L s listed a → ∀ j ∈ Region.ready md ops listed, N ≤ j) :
    ∀ (f : Nat) (s : Option More) (listed : Array Bool) (a : Act), HeadInv md ops N listed →
      (∀ j oj, ops[j]? = some oj → j ≠ i → listed.getD j true = false → (∀ e ∈ oj.after, Region.binds md e = true → e.on ≠ i) → oi.apart ops oj = true) →
      i ∈ Region.ready md ops listed → Sure P ops w oi v a →
      anyU P md ops w n alc L f s (listed.setIfInBounds i true) (a.put oi.dst v) → anyU P md ops w n alc L (f + 1) s listed a := by
  intro f
  induction f with
  | zero =>
    intro s listed a inv _ hr hy H
    have hun := (mem_ready.1 hr).1
    refine ⟨fun h => (by rw [h] at hr; cases hr), fun j hj => ?_⟩
    have hjn : j < N := by
      rcases Nat.lt_or_ge j N with h | h
      · exact h
      · exact absurd hj (tail_waits hs hc hNs inv _ i rfl (by omega) hun j h)
    by_cases hji : j = i
    · subst hji; exact .inl ⟨hin, oi, v, hi, hy, H⟩
    · have := hdone _ _ _ H j (ready_mono hj hji)
      omega
  | succ f ih =>
    intro s listed a inv hfree hr hy H
    have hun := (mem_ready.1 hr).1
    refine ⟨fun h => (by rw [h] at hr; cases hr), fun j hj => ?_⟩
    have hjn : j < N := by
      rcases Nat.lt_or_ge j N with h | h
      · exact h
      · exact absurd hj (tail_waits hs hc hNs inv _ i rfl (by omega) hun j h)
    by_cases hji : j = i
    · subst hji; exact .inl ⟨hin, oi, v, hi, hy, H⟩
    · obtain ⟨hjun, oj, hoj, hall⟩ := mem_ready.1 hj
      have hnot : ∀ e ∈ oj.after, Region.binds md e = true → e.on ≠ i := fun e he hb heq => by
        have h1 := hall e he hb
        rw [heq, getD_both hun] at h1
        cases h1
      obtain ⟨p1, p2, p3⟩ := Oper.apart_spec (hfree j oj hoj hji hjun hnot)
      have hfree' : ∀ k ok, ops[k]? = some ok → k ≠ i → (listed.setIfInBounds j true).getD k true = false →
          (∀ e ∈ ok.after, Region.binds md e = true → e.on ≠ i) → oi.apart ops ok = true := fun k ok hk hki hun' hno => by
        refine hfree k ok hk hki ?_ hno
        by_cases hjk : j = k
        · subst hjk; exact hjun
        · rw [getD_set_ne true hjk] at hun'; exact hun'
      have go : ∀ (s' : Option More) (u : Value), anyU P md ops w n alc L f s' ((listed.setIfInBounds i true).setIfInBounds j true) ((a.put oi.dst v).put oj.dst u) →
          anyU P md ops w n alc L (f + 1) s' (listed.setIfInBounds j true) (a.put oj.dst u) := fun s' u h => by
        refine ih s' (listed.setIfInBounds j true) (a.put oj.dst u) (inv.set hj hjn) hfree' (ready_mono hr (Ne.symm hji)) (hy.put (fun cs b => hsel i oi cs b hi) p3) ?_
        rw [Array.setIfInBounds_comm _ _ hji, ← Act.put_comm a v u p2]
        exact h
      rcases H.2 j (ready_mono hj hji) with ⟨hj2, oj', u, hoj', hyj, hk⟩ | ⟨hj2, hs2, d, hd, hk⟩
      · obtain rfl : oj = oj' := Option.some.inj (hoj.symm.trans hoj')
        exact .inl ⟨hj2, oj, u, hoj, hyj.unput (fun cs b => hsel j oj cs b hoj) p1, go s u hk⟩
      · obtain ⟨o, ho, hdst, _, _⟩ := hm d hd
        subst hj2
        obtain rfl : oj = o := Option.some.inj (hoj.symm.trans ho)
        refine .inr ⟨rfl, hs2, d, hd, fun x => ?_⟩
        have := go (some x) (pt w x)
        rw [hdst] at this
        exact this (hk x)
/-! the order of the text -/
def lexH (md : Region.Mode) (ops : Array Oper) (fin : Array Bool → Bool) : Nat → Nat → Array Bool → Bool
  | 0, _, listed => fin listed
  | f + 1, k, listed => (Region.ready md ops listed).contains k && Region.free md ops listed k && lexH md ops fin f (k + 1) (listed.setIfInBounds k true)
/-- The walk with one value for each operation. -/
def sureL (P : Program) (ops : Array Oper) (w : World) (Q : Act → Prop) : List Oper → Act → Prop
  | [], a => Q a
  | o :: rest, a => ∃ v, Sure P ops w o v a ∧ sureL P ops w Q rest (a.put o.dst v)
theorem any_lex {F : Nat} {fin : Array Bool → Bool} {Q : Act → Prop} (hm : Makes P ops n alc obj) (hsel : Region.noSelect ops = true) (hnN : n ≤ N) (hN : ∀ d, alc = some d → N = n + 1)
    (hs : Region.sinkB md ops N = true) (hc : Region.chainB md ops N = true) (hNs : N < ops.size) (hdone : ∀ s listed a, L s listed a → ∀ j ∈ Region.ready md ops listed, N ≤ j)
    (hfin : ∀ listed a, HeadInv md ops N listed → fin listed = true → Q a → anyU P md ops w n alc L F none listed a) :
    ∀ (l : List Oper) (k : Nat) (listed : Array Bool) (a : Act), (∀ j, j < l.length → l[j]? = ops[k + j]?) → k + l.length = n → HeadInv md ops N listed →
    lexH md ops fin l.length k listed = true → sureL P ops w Q l a → anyU P md ops w n alc L (l.length + F) none listed a
  | [], k, listed, a, _, hk, inv, hB, h => by
    simp only [List.length_nil, Nat.zero_add]
    exact hfin listed a inv (by simpa [lexH] using hB) h
  | o :: l, k, listed, a, hl, hk, inv, hB, h => by
    have h0 : ops[k]? = some o := by simpa using (hl 0 (by simp)).symm
    simp only [List.length_cons, lexH, Bool.and_eq_true] at hB
    obtain ⟨⟨hr, hf⟩, hB'⟩ := hB
    have hkn : k < n := by simp only [List.length_cons] at hk; omega
    have hr' : k ∈ Region.ready md ops listed := by simpa using hr
    obtain ⟨v, hy, hK⟩ := h
    rw [show (o :: l).length + F = (l.length + F) + 1 by simp only [List.length_cons]; omega]
    exact any_first hm h0 (Region.noSelect_spec hsel) hkn hnN hN hs hc hNs hdone (l.length + F) none listed a inv (Region.free_spec h0 hf) hr' hy
      (any_lex hm hsel hnN hN hs hc hNs hdone hfin l (k + 1) _ _ (fun j hj => by have := hl (j + 1) (by simp; omega); simpa [Nat.add_assoc, Nat.add_comm 1 j] using this) (by simp only [List.length_cons] at hk; omega) (inv.set hr' (by omega)) hB' hK)
/-! one value, out of walks from wherever the region has come -/
def dstsB (t : Nat) : List Oper → Bool
  | [] => true
  | o :: l => (match o.dst with | some d => decide (d < t) && l.all (fun o' => o'.dst != some d) | none => false) && dstsB t l
theorem put_size (a : Act) (d : Option Tmp) (v : Value) : (a.put d v).tmps.size = a.tmps.size := by cases d <;> simp [Act.put]
theorem quiet_keeps {C : World → Prop} {A : Act} {d : Tmp} : ∀ (l : List Oper) (a : Act), (l.all fun o' => o'.dst != some d) = true → wpQuiet P ops C (fun a' => a' = A) l a → A.tmps[d]? = a.tmps[d]?
  | [], a, _, h => by rw [← (h : a = A)]
  | o :: l, a, hd, h => by
    simp only [List.all_cons, Bool.and_eq_true, bne_iff_ne, ne_eq] at hd
    have key : ∀ v, (a.put o.dst v).tmps[d]? = a.tmps[d]? := fun v => by
      cases ho : o.dst with
      | none => rfl
      | some e =>
        have : e ≠ d := fun he => hd.1 (by rw [ho, he])
        simp [Act.put, Array.getElem?_setIfInBounds_ne this]
    unfold wpQuiet at h
    split at h
    · obtain ⟨v, _, h2⟩ := h
      rw [quiet_keeps l _ hd.2 h2, key]
    · rw [quiet_keeps l _ hd.2 h, key]
theorem sure_of_quiet {A : Act} {Q : Act → Prop} (hQ : Q A) : ∀ (l : List Oper) (a : Act), dstsB a.tmps.size l = true → (∀ x : More, wpQuiet P ops (fun u => ∃ y, u = grow (grow w x) y) (fun a' => a' = A) l a) → sureL P ops w Q l a
  | [], a, _, h => by have := h More.none_; unfold wpQuiet at this; subst this; exact hQ
  | o :: l, a, hd, h => by
    simp only [dstsB, Bool.and_eq_true] at hd
    obtain ⟨hd1, hd2⟩ := hd
    cases ho : o.dst with
    | none => rw [ho] at hd1; cases hd1
    | some d =>
      rw [ho] at hd1
      simp only [Bool.and_eq_true, decide_eq_true_eq] at hd1
      have fixed : ∀ v, wpQuiet P ops (fun u => ∃ y, u = grow (grow w More.none_) y) (fun a' => a' = A) l (a.put o.dst v) → A.tmps[d]? = some v := fun v hv => by
        rw [quiet_keeps l _ hd1.2 hv, ho]
        simp [Act.put, hd1.1]
      have fixed' : ∀ (x : More) v, wpQuiet P ops (fun u => ∃ y, u = grow (grow w x) y) (fun a' => a' = A) l (a.put o.dst v) → A.tmps[d]? = some v := fun x v hv => by
        rw [quiet_keeps l _ hd1.2 hv, ho]
        simp [Act.put, hd1.1]
      by_cases hw : Region.wanted o (yielded ops a.tmps) = true
      · have h0 := h More.none_
        unfold wpQuiet at h0
        rw [if_pos hw] at h0
        obtain ⟨v, _, h2⟩ := h0
        have hv := fixed v h2
        have each : ∀ x : More, (∀ u, (∃ y, u = grow (grow w x) y) → o.quietAt P a (fun u => ∃ y, u = grow (grow w x) y) u v) ∧ wpQuiet P ops (fun u => ∃ y, u = grow (grow w x) y) (fun a' => a' = A) l (a.put o.dst v) := fun x => by
          have hx := h x
          unfold wpQuiet at hx
          rw [if_pos hw] at hx
          obtain ⟨v', h1', h2'⟩ := hx
          have hv' := fixed' x v' h2'
          rw [hv] at hv'
          cases hv'
          exact ⟨h1', h2'⟩
        refine ⟨v, .inl ⟨hw, fun x => (each x).1 _ ⟨More.none_, rfl⟩⟩, ?_⟩
        exact sure_of_quiet hQ l _ (by rw [put_size]; exact hd2) fun x => (each x).2
      · refine ⟨undef, .inr ⟨by simpa using hw, rfl⟩, ?_⟩
        refine sure_of_quiet hQ l _ (by rw [put_size]; exact hd2) fun x => ?_
        have hx := h x
        unfold wpQuiet at hx
        rw [if_neg hw] at hx
        exact hx
end
section
variable {P : Program} {w : World}
def tailB (l : List Oper) (n : Nat) : Bool :=
  Region.noSelect l.toArray && decide (n < l.length) && Region.sinkB .any l.toArray n && Region.chainB .any l.toArray n && lexH .any l.toArray (fun listed => Region.seqB .any l.toArray (l.length - n) n listed) n 0 (Array.replicate l.length false)
theorem inv0 (l : List Oper) (N : Nat) : HeadInv .any l.toArray N (Array.replicate l.length false) :=
  ⟨by simp, fun j oj _ hl => (by rw [getD_replicate_false] at hl; cases hl), fun t _ ht => getD_in (by simpa using ht) (getD_replicate_false _ _)⟩
/-- The region's first n operations read or are such calls; the rest goes in one order. A: the frame behind the first n. -/
theorem wp_region_tail {id : Nat} {Q : Exit → Act → World → Prop} {a : Act} {l : List Oper} (n : Nat) (A : Act) (hm : P.follows .mixedOrders = true) (hB : tailB l n = true) (hd : dstsB a.tmps.size (l.take n) = true)
    (h : ∀ x : More, wpQuiet P l.toArray (fun u => ∃ y, u = grow (grow w x) y) (fun a' => a' = A) (l.take n) a)
    (ht : ∀ x : More, wpList P l.toArray Q (l.drop n) A (grow w x)) : (Code.region id l.toArray true).wp P Q a w := by
  simp only [tailB, Bool.and_eq_true, decide_eq_true_eq] at hB
  obtain ⟨⟨⟨⟨hsel, hn⟩, hs⟩, hc⟩, hlex⟩ := hB
  have htl : (l.take n).length = n := by simp; omega
  refine wp_region_any hm ?_
  have hmk : Makes P l.toArray n none (.cells #[] 0) := fun d hd => by cases hd
  have hu : At w (.cells #[] 0) none { w with drawn := w.drawn + 1 } := grow_of (bel_drew (Below.refl _ _))
  have H := any_lex (P := P) (w := w) (md := .any) (ops := l.toArray) (n := n) (N := n) (alc := none) (obj := .cells #[] 0) (L := fun s listed a => s = none ∧ Region.seqB .any l.toArray (l.length - n) n listed = true ∧ a = A) (F := 0)
    (fin := fun listed => Region.seqB .any l.toArray (l.length - n) n listed) (Q := fun a => a = A) hmk hsel (Nat.le_refl _) (fun d hd => by cases hd) hs hc (by simpa using hn) (fun s listed a h => seqB_ready h.2.1)
    (fun listed a _ hf hq => ⟨rfl, hf, hq⟩) (l.take n) 0 (Array.replicate l.length false) a (fun j hj => by
      rw [htl] at hj
      simp [hj]) (by simpa using htl) (inv0 l n) (by rw [htl]; exact hlex) (sure_of_quiet (Q := fun a => a = A) rfl _ _ hd h)
  have S := any_sound (P := P) (Q' := Q) (g := l.length - n) hmk (fun s listed a u hu hl => by
    obtain ⟨rfl, hq, rfl⟩ := hl
    obtain ⟨x, rfl⟩ := hu
    have := wpAny_of_seq (md := .any) (Q' := Q) (ops := l.toArray) (l.drop n) n listed a (grow w x) (fun j => by simp [List.getElem?_drop]) (by simpa using hq) (ht x)
    simpa using this) _ _ _ _ _ hu H
  rw [htl, show n + 0 + (l.length - n) = l.length by omega] at S
  simpa using S
end
end Go.Proofs.Ytpdnaceggpdleab
namespace Go.Proofs.Ytpdnaceggpdleab
open Go.RowKit
set_option linter.unusedVariables false
set_option linter.unusedSimpArgs false
theorem setRow_alloc_past (w : World) (o : Obj) (n : Nat) (cs : Array Value) (hn : n < w.heap.size) : (w.alloc o).setRow n cs = (w.setRow n cs).alloc o := by
  unfold World.setRow World.alloc
  congr 1
  apply Array.ext_getElem?
  intro k
  simp only [Array.getElem?_modify, Array.getElem?_push, Array.size_modify]
  by_cases hk : k = w.heap.size
  · subst hk; simp [Nat.ne_of_lt hn]
  · by_cases hn' : n = k <;> simp [hk, hn']
theorem setRow_alloc_at (w : World) (c cs : Array Value) (t : TypeId) (n : Nat) (hn : n = w.heap.size) : (w.alloc (.cells c t)).setRow n cs = w.alloc (.cells cs t) := by
  subst hn; exact World.setRow_alloc_new w c cs t
attribute [go_sem] setRow_alloc_past setRow_alloc_at
/-! what a block holds -/
theorem bel_setRow {a w : World} (h : Below a.heap.size a w) {n : Nat} (hn : a.heap.size ≤ n) (cs : Array Value) : Below a.heap.size a (w.setRow n cs) :=
  h.trans ⟨rfl, rfl, rfl, by simp, fun k hk => setRow_other w n k cs (by omega)⟩
/-- One operation by an equation of its own. -/
theorem wpList_val {P : Program} {ops : Array Oper} {rest : List Oper} {o : Oper} {a : Act} {w : World} {Q : Exit → Act → World → Prop} (hg : o.guard = none) (v : Value) (w' : World)
    (hrun : (execOp a.eval o).run P w = .ok (.value v) w') (h : wpList P ops Q rest (a.put o.dst v) w') : wpList P ops Q (o :: rest) a w :=
  wpList_plain hg fun _ hK => by
    unfold Oper.wp
    rw [hrun]
    exact hK _ _ h
end Go.Proofs.Ytpdnaceggpdleab
namespace Go.Proofs.Ytpdnaceggpdleab
open Go.RowKit
set_option linter.unusedVariables false
set_option linter.unusedSimpArgs false
def Blk (W : World) (g : Nat) (t : TypeId) (cs : Array Value) : Prop := W.heap[g]? = some (.cells cs t (0, 0))
section
variable {W W' : World} {g : Nat} {t : TypeId} {cs : Array Value}
theorem Blk.lt (h : Blk W g t cs) : g < W.heap.size := (Array.getElem?_eq_some_iff.1 h).1
theorem Blk.cell (h : Blk W g t cs) (i : Nat) : W.cell? ⟨g, i, none⟩ = cs[i]? := cell_of_row W g i cs t (0, 0) h
theorem Blk.frozen (h : Blk W g t cs) (i : Nat) : W.frozen? ⟨g, i, none⟩ = false := by
  unfold Blk at h; simp [World.frozen?, h]
theorem Blk.new (W : World) (t : TypeId) (cs : Array Value) (g : Nat) (hg : g = W.heap.size) : Blk (W.alloc (.cells cs t)) g t cs := by
  subst hg; exact heap_alloc_new W _
theorem Blk.below (h : Blk W g t cs) (hb : Below W.heap.size W W') : Blk W' g t cs := (hb.block g h.lt).trans h
theorem Blk.alloc (h : Blk W g t cs) (o : Obj) : Blk (W.alloc o) g t cs := h.below (bel_alloc (Below.refl _ _) o)
theorem Blk.grow (h : Blk W g t cs) (x : More) : Blk (grow W x) g t cs := h.below (x.kept W)
theorem Blk.then (x y : More) (h : Blk (Go.Proofs.Ytpdnaceggpdleab.grow W x) g t cs) : Blk (Go.Proofs.Ytpdnaceggpdleab.grow W (x.then y)) g t cs := Blk.grow h y
theorem Blk.drew (h : Blk W g t cs) : Blk W.drew g t cs := h
theorem Blk.set (h : Blk W g t cs) (i : Nat) (u : Value) : Blk (W.setCell ⟨g, i, none⟩ u) g t (cs.setIfInBounds i u) := by
  unfold Blk at h ⊢
  simp [World.setCell, Array.getElem?_modify, h]
theorem Blk.far (h : Blk W g t cs) {b : Nat} (i : Nat) (u : Value) (hb : b ≠ g) : Blk (W.setCell ⟨b, i, none⟩ u) g t cs := by
  unfold Blk at h ⊢
  simp [World.setCell, Array.getElem?_modify, h, hb]
theorem Blk.setRow (h : Blk W g t cs) (cs' : Array Value) : Blk (W.setRow g cs') g t cs' := setRow_heap W g cs cs' t (0, 0) h
theorem Blk.farRow (h : Blk W g t cs) {b : Nat} (cs' : Array Value) (hb : b ≠ g) : Blk (W.setRow b cs') g t cs := (setRow_other W b g cs' (Ne.symm hb)).trans h
theorem Blk.ne_ {g' : Nat} {t' : TypeId} {cs' : Array Value} (h : Blk W g t cs) (h' : Blk W g' t' cs') (hne : t ≠ t') : g ≠ g' := by
  rintro rfl
  unfold Blk at h h'
  rw [h] at h'
  injection h' with h'
  injection h' with _ ht
  exact hne ht
end
end Go.Proofs.Ytpdnaceggpdleab
