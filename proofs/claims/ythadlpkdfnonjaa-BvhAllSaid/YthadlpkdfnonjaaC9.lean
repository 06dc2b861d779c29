/- The contract of wide's call Div. The numbers that the document fixes: alive answers true. Contracts of the document's own products and lines. Package relievoref04: Range, whatever is asked. Ways along faces, as the program goes along them; chains of ways about a vertex. No program is imported. Fans: the chain of ways about a vertex that the program goes along; hubs; the edges. No program is imported. -/
import Derived.Below
import Derived.Test.YthadlpkdfnonjaaC2
import Derived.Test.YthadlpkdfnonjaaC4
import Derived.Test.YthadlpkdfnonjaaC7
import Derived.Test.YthadlpkdfnonjaaC8
namespace Go.Proofs.Ythadlpkdfnonjaa
open Go.RowKit
set_option linter.unusedVariables false
set_option linter.unusedSimpArgs false

/-! one step of long division -/
end Go.Proofs.Ythadlpkdfnonjaa
namespace Go.Proofs.Ythadlpkdfnonjaa
open Go.RowKit
set_option linter.unusedVariables false
set_option linter.unusedSimpArgs false

end Go.Proofs.Ythadlpkdfnonjaa
namespace Go.Proofs.Ythadlpkdfnonjaa
open Go.RowKit
set_option linter.unusedVariables false
set_option linter.unusedSimpArgs false
end Go.Proofs.Ythadlpkdfnonjaa
namespace Go.Proofs.Ythadlpkdfnonjaa
open Go.RowKit
set_option linter.unusedVariables false
set_option linter.unusedSimpArgs false
end Go.Proofs.Ythadlpkdfnonjaa
namespace Go.Proofs.Ythadlpkdfnonjaa
set_option linter.unusedVariables false
set_option linter.unusedSimpArgs false
/-- A way from a to b in face f; c is where that face comes from to a. -/
structure Way where
  a : Int
  b : Int
  f : Int
  c : Int
def wayR (f : Int) : Int → Int → List Int → List Way
  | _, _, [] => []
  | b, a, t :: r => ⟨a, t, f, b⟩ :: wayR f a t r
def waysF (f : Int) (x : List Int) : List Way := wayR f (x.getD (x.length - 2) 0) (x.getD (x.length - 1) 0) x
def waysL : Nat → List (List Int) → List Way
  | _, [] => []
  | k, x :: r => waysF k x ++ waysL (k + 1) r
theorem wayR_length (f : Int) : ∀ (x : List Int) (b a : Int), (wayR f b a x).length = x.length
  | [], _, _ => rfl
  | t :: r, b, a => by simp [wayR, wayR_length f r]
theorem wayR_get (f : Int) : ∀ (x : List Int) (b a : Int) (i : Nat) (h : i < x.length), (wayR f b a x)[i]? = some ⟨(b :: a :: x).getD (i + 1) 0, (b :: a :: x).getD (i + 2) 0, f, (b :: a :: x).getD i 0⟩
  | [], _, _, i, h => by simp at h
  | t :: r, b, a, 0, h => by simp [wayR]
  | t :: r, b, a, i + 1, h => by
    rw [wayR, List.getElem?_cons_succ, wayR_get f r a t i (by simpa using h)]
    simp [List.getD]
theorem waysF_length (f : Int) (x : List Int) : (waysF f x).length = x.length := wayR_length f x _ _
theorem mod1 {i n : Nat} (h : i < n) : (i + n - 1) % n = if i = 0 then n - 1 else i - 1 := by
  split
  · subst i; rw [Nat.zero_add]; exact Nat.mod_eq_of_lt (by omega)
  · rw [show i + n - 1 = i - 1 + n by omega, Nat.add_mod_right]; exact Nat.mod_eq_of_lt (by omega)
theorem mod2 {i n : Nat} (h : i < n) (hn : 2 ≤ n) : (i + n - 2) % n = if i = 0 then n - 2 else if i = 1 then n - 1 else i - 2 := by
  split
  · subst i; rw [Nat.zero_add]; exact Nat.mod_eq_of_lt (by omega)
  · split
    · subst i; rw [show 1 + n - 2 = n - 1 by omega]; exact Nat.mod_eq_of_lt (by omega)
    · rw [show i + n - 2 = i - 2 + n by omega, Nat.add_mod_right]; exact Nat.mod_eq_of_lt (by omega)
theorem modS {i n : Nat} (h : i < n) : (i + 1) % n = if i + 1 = n then 0 else i + 1 := by
  split
  · rename_i e; rw [e, Nat.mod_self]
  · exact Nat.mod_eq_of_lt (by omega)
/-- The i-th way of a face, by the places of its corners. -/
theorem waysF_get (f : Int) (x : List Int) (hn : 2 ≤ x.length) (i : Nat) (h : i < x.length) :
    (waysF f x)[i]? = some ⟨x.getD ((i + x.length - 1) % x.length) 0, x.getD i 0, f, x.getD ((i + x.length - 2) % x.length) 0⟩ := by
  unfold waysF
  rw [wayR_get f x _ _ i h, mod1 h, mod2 h hn]
  match i, h with
  | 0, h => simp [List.getD]
  | 1, h => simp [List.getD]
  | i + 2, h => simp [List.getD]
theorem mem_waysF {f : Int} {x : List Int} (hn : 2 ≤ x.length) {w : Way} : w ∈ waysF f x ↔ ∃ i, i < x.length ∧ w = ⟨x.getD ((i + x.length - 1) % x.length) 0, x.getD i 0, f, x.getD ((i + x.length - 2) % x.length) 0⟩ := by
  constructor
  · intro h
    obtain ⟨i, hi⟩ := List.getElem?_of_mem h
    have hl : i < x.length := by rw [← waysF_length f x]; exact (List.getElem?_eq_some_iff.1 hi).1
    rw [waysF_get f x hn i hl] at hi
    exact ⟨i, hl, (Option.some.inj hi).symm⟩
  · rintro ⟨i, hl, rfl⟩
    exact List.mem_of_getElem? (waysF_get f x hn i hl)
theorem mod_back {i n : Nat} (h : i < n) (hn : 2 ≤ n) : ((i + n - 1) % n + n - 1) % n = (i + n - 2) % n ∧ (i + n - 1) % n < n := by
  have h2 : (i + n - 1) % n < n := Nat.mod_lt _ (by omega)
  refine ⟨?_, h2⟩
  rw [mod1 h2, mod2 h hn, mod1 h]
  repeat' split
  all_goals omega
theorem mod_forth {i n : Nat} (h : i < n) (hn : 2 ≤ n) : (((i + 1) % n) + n - 1) % n = i ∧ (i + 1) % n < n ∧ (((i + 1) % n) + n - 2) % n = (i + n - 1) % n := by
  have h2 : (i + 1) % n < n := Nat.mod_lt _ (by omega)
  refine ⟨?_, h2, ?_⟩
  · rw [mod1 h2, modS h]
    repeat' split
    all_goals omega
  · rw [mod2 h2 hn, modS h, mod1 h]
    repeat' split
    all_goals omega
theorem mod_inj {i k n : Nat} (h : i < n) (hk : k < n) (e : (i + n - 1) % n = (k + n - 1) % n) : i = k := by
  rw [mod1 h, mod1 hk] at e
  split at e <;> split at e <;> omega
/-- Ahead of a way there is one in its face, and behind it one. -/
theorem waysF_prev {f : Int} {x : List Int} (hn : 2 ≤ x.length) {w : Way} (h : w ∈ waysF f x) : ∃ d, (⟨w.c, w.a, f, d⟩ : Way) ∈ waysF f x := by
  obtain ⟨i, hi, rfl⟩ := (mem_waysF hn).1 h
  obtain ⟨e1, e2⟩ := mod_back hi hn
  exact ⟨x.getD (((i + x.length - 1) % x.length + x.length - 2) % x.length) 0, (mem_waysF hn).2 ⟨(i + x.length - 1) % x.length, e2, by simp only [e1]⟩⟩
theorem waysF_next {f : Int} {x : List Int} (hn : 2 ≤ x.length) {w : Way} (h : w ∈ waysF f x) : ∃ e, (⟨w.b, e, f, w.a⟩ : Way) ∈ waysF f x := by
  obtain ⟨i, hi, rfl⟩ := (mem_waysF hn).1 h
  obtain ⟨e1, e2, e3⟩ := mod_forth hi hn
  exact ⟨x.getD ((i + 1) % x.length) 0, (mem_waysF hn).2 ⟨(i + 1) % x.length, e2, by simp only [e1, e3]⟩⟩
theorem waysF_f {f : Int} {x : List Int} (hn : 2 ≤ x.length) {w : Way} (h : w ∈ waysF f x) : w.f = f := by
  obtain ⟨i, hi, rfl⟩ := (mem_waysF hn).1 h; rfl
theorem mem_waysL : ∀ (l : List (List Int)) (k : Nat) (w : Way), w ∈ waysL k l ↔ ∃ j, ∃ h : j < l.length, w ∈ waysF ((k + j : Nat) : Int) l[j]
  | [], k, w => by simp [waysL]
  | x :: r, k, w => by
    rw [waysL, List.mem_append, mem_waysL r (k + 1) w]
    constructor
    · rintro (h | ⟨j, hj, h⟩)
      · exact ⟨0, by simp, by simpa using h⟩
      · exact ⟨j + 1, by simpa using hj, by rw [List.getElem_cons_succ, show k + (j + 1) = k + 1 + j by omega]; exact h⟩
    · rintro ⟨j, hj, h⟩
      cases j with
      | zero => left; simpa using h
      | succ j => right; exact ⟨j, by simpa using hj, by rw [List.getElem_cons_succ, show k + (j + 1) = k + 1 + j by omega] at h; exact h⟩
theorem waysL_split : ∀ (l : List (List Int)) (k j : Nat) (h : j < l.length), waysL k l = waysL k (l.take j) ++ waysF ((k + j : Nat) : Int) l[j] ++ waysL (k + j + 1) (l.drop (j + 1))
  | [], _, j, h => by simp at h
  | x :: r, k, 0, h => by simp [waysL]
  | x :: r, k, j + 1, h => by
    have hj : j < r.length := by simpa using h
    simp only [List.take_succ_cons, waysL, List.getElem_cons_succ, List.drop_succ_cons, waysL_split r (k + 1) j hj, List.append_assoc]
    rw [show k + 1 + j = k + (j + 1) by omega]
def Long (fs : List (List Int)) : Prop := ∀ x ∈ fs, 3 ≤ x.length
def InR (n : Int) (al : List Way) : Prop := ∀ w ∈ al, 0 ≤ w.b ∧ w.b < n
def apart (x y : Way) : Prop := ¬(x.b = y.b ∧ x.f = y.f) ∧ ¬(x.a = y.a ∧ x.b = y.b)
def Apart (al : List Way) : Prop := al.Pairwise apart
theorem apart_symm {x y : Way} (h : apart x y) : apart y x := ⟨fun e => h.1 ⟨e.1.symm, e.2.symm⟩, fun e => h.2 ⟨e.1.symm, e.2.symm⟩⟩
theorem Apart.at_ {al : List Way} (h : Apart al) {p q : Nat} (hp : p < al.length) (hq : q < al.length) (hpq : p ≠ q) : apart al[p] al[q] := by
  rcases Nat.lt_or_ge p q with h' | h'
  · exact List.pairwise_iff_getElem.1 h p q hp hq h'
  · exact apart_symm (List.pairwise_iff_getElem.1 h q p hq hp (by omega))
theorem Apart.eq {al : List Way} (h : Apart al) {x y : Way} (hx : x ∈ al) (hy : y ∈ al) (hn : ¬ apart x y) : x = y := by
  obtain ⟨p, hp, rfl⟩ := List.getElem_of_mem hx
  obtain ⟨q, hq, rfl⟩ := List.getElem_of_mem hy
  by_cases e : p = q
  · subst e; rfl
  · exact absurd (h.at_ hp hq e) hn
theorem Apart.key {al : List Way} (h : Apart al) {x y : Way} (hx : x ∈ al) (hy : y ∈ al) (h1 : x.a = y.a) (h2 : x.b = y.b) : x = y := h.eq hx hy fun n => n.2 ⟨h1, h2⟩
theorem Apart.tof {al : List Way} (h : Apart al) {x y : Way} (hx : x ∈ al) (hy : y ∈ al) (h1 : x.b = y.b) (h2 : x.f = y.f) : x = y := h.eq hx hy fun n => n.1 ⟨h1, h2⟩
/-- The ways of some faces that are all right. -/
structure WalkOk (n : Int) (fs : List (List Int)) : Prop where
  long : Long fs
  inr : InR n (waysL 0 fs)
  apart : Apart (waysL 0 fs)
  pos : 0 ≤ n
  all : ∀ v, 0 ≤ v → v < n → ∃ w ∈ waysL 0 fs, w.b = v
theorem WalkOk.prev {n : Int} {fs : List (List Int)} (h : WalkOk n fs) {w : Way} (hw : w ∈ waysL 0 fs) : ∃ d, (⟨w.c, w.a, w.f, d⟩ : Way) ∈ waysL 0 fs := by
  obtain ⟨j, hj, hm⟩ := (mem_waysL fs 0 w).1 hw
  have hl := h.long _ (List.getElem_mem hj)
  obtain ⟨d, hd⟩ := waysF_prev (by omega) hm
  rw [← waysF_f (by omega) hm] at hd
  exact ⟨d, (mem_waysL fs 0 _).2 ⟨j, hj, by rw [waysF_f (by omega) hm] at hd ⊢; exact hd⟩⟩
theorem WalkOk.next {n : Int} {fs : List (List Int)} (h : WalkOk n fs) {w : Way} (hw : w ∈ waysL 0 fs) : ∃ e, (⟨w.b, e, w.f, w.a⟩ : Way) ∈ waysL 0 fs := by
  obtain ⟨j, hj, hm⟩ := (mem_waysL fs 0 w).1 hw
  have hl := h.long _ (List.getElem_mem hj)
  obtain ⟨d, hd⟩ := waysF_next (by omega) hm
  exact ⟨d, (mem_waysL fs 0 _).2 ⟨j, hj, by rw [waysF_f (by omega) hm]; exact hd⟩⟩
/-- A face's corners are all different. -/
theorem WalkOk.corner {n : Int} {fs : List (List Int)} (h : WalkOk n fs) (j : Nat) (hj : j < fs.length) {i i2 : Nat} (hi : i < fs[j].length) (hi2 : i2 < fs[j].length) (e : fs[j].getD i 0 = fs[j].getD i2 0) : i = i2 := by
  apply Classical.byContradiction
  intro hne
  have hl := h.long _ (List.getElem_mem hj)
  have pl : ∀ (i : Nat) (hi : i < fs[j].length), (waysL 0 fs)[(waysL 0 (fs.take j)).length + i]? = (waysF ((0 + j : Nat) : Int) fs[j])[i]? := fun i hi => by
    rw [waysL_split fs 0 j hj, List.append_assoc, List.getElem?_append_right (by omega), List.getElem?_append_left (by rw [waysF_length]; omega)]
    congr 1; omega
  have l1 := pl _ hi
  have l2 := pl _ hi2
  rw [waysF_get _ _ (by omega) _ hi] at l1
  rw [waysF_get _ _ (by omega) _ hi2] at l2
  obtain ⟨b1, f1⟩ := List.getElem?_eq_some_iff.1 l1
  obtain ⟨b2, f2⟩ := List.getElem?_eq_some_iff.1 l2
  have := h.apart.at_ b1 b2 (by omega)
  rw [f1, f2] at this
  exact this.1 ⟨e, rfl⟩
/-- In a face each corner is the start of one way. -/
theorem WalkOk.fromf {n : Int} {fs : List (List Int)} (h : WalkOk n fs) {x y : Way} (hx : x ∈ waysL 0 fs) (hy : y ∈ waysL 0 fs) (h1 : x.a = y.a) (h2 : x.f = y.f) : x = y := by
  obtain ⟨j, hj, hm⟩ := (mem_waysL fs 0 x).1 hx
  obtain ⟨k, hk, hm2⟩ := (mem_waysL fs 0 y).1 hy
  have hl := h.long _ (List.getElem_mem hj)
  have hl2 := h.long _ (List.getElem_mem hk)
  have e1 := waysF_f (by omega) hm
  have e2 := waysF_f (by omega) hm2
  have : j = k := by rw [e1, e2] at h2; omega
  subst this
  obtain ⟨i, hi, e3⟩ := (mem_waysF (by omega)).1 hm
  obtain ⟨i2, hi2, e4⟩ := (mem_waysF (by omega)).1 hm2
  obtain ⟨m1, m2⟩ := mod_back hi (by omega)
  obtain ⟨m3, m4⟩ := mod_back hi2 (by omega)
  have p1 := (mem_waysL fs 0 _).2 ⟨j, hj, (mem_waysF (by omega)).2 ⟨_, m2, rfl⟩⟩
  have p2 := (mem_waysL fs 0 _).2 ⟨j, hk, (mem_waysF (by omega)).2 ⟨_, m4, rfl⟩⟩
  have e5 := h.apart.tof p1 p2 (by rw [e3, e4] at h1; exact h1) rfl
  have q1 : x.b = y.b := by
    have g1 := (mem_waysL fs 0 x).1 hx
    -- the places are the same: else two corners of the face are one
    by_cases e : (i + fs[j].length - 1) % fs[j].length = (i2 + fs[j].length - 1) % fs[j].length
    · have : i = i2 := mod_inj hi hi2 e
      subst this
      rw [e3, e4]
    · exfalso
      exact e (h.corner j hj m2 m4 (by rw [e3, e4] at h1; exact h1))
  exact h.apart.key hx hy h1 q1
theorem WalkOk.cinj {n : Int} {fs : List (List Int)} (h : WalkOk n fs) {x y : Way} (hx : x ∈ waysL 0 fs) (hy : y ∈ waysL 0 fs) (h1 : x.a = y.a) (h2 : x.c = y.c) : x = y := by
  obtain ⟨d, hd⟩ := h.prev hx
  obtain ⟨e, he⟩ := h.prev hy
  have this : (⟨x.c, x.a, x.f, d⟩ : Way) = ⟨y.c, y.a, y.f, e⟩ := h.apart.key hd he h2 h1
  have hf : x.f = y.f := by simpa using congrArg Way.f this
  exact h.fromf hx hy h1 hf
end Go.Proofs.Ythadlpkdfnonjaa
namespace Go.Proofs.Ythadlpkdfnonjaa
set_option linter.unusedVariables false
set_option linter.unusedSimpArgs false
theorem nodup_le {α : Type} : ∀ (L M : List α), L.Nodup → (∀ x ∈ L, x ∈ M) → L.length ≤ M.length
  | [], M, _, _ => Nat.zero_le _
  | x :: L, M, h, hs => by
    obtain ⟨s, t, rfl⟩ := List.append_of_mem (hs x (by simp))
    have h2 := List.nodup_cons.1 h
    have := nodup_le L (s ++ t) h2.2 fun y hy => by
      have := hs y (List.mem_cons_of_mem _ hy)
      simp only [List.mem_append, List.mem_cons] at this ⊢
      rcases this with h | rfl | h
      · exact .inl h
      · exact absurd hy h2.1
      · exact .inr h
    simp only [List.length_append, List.length_cons] at this ⊢
    omega
def froms (al : List Way) (v : Int) : List Way := al.filter fun w => w.a == v
theorem mem_froms {al : List Way} {v : Int} {w : Way} : w ∈ froms al v ↔ w ∈ al ∧ w.a = v := by simp [froms]
def ends (L : List Way) (start : Int) : Int := (L.getLast?.map Way.c).getD start
theorem ends_at {L : List Way} (start : Int) (h : 0 < L.length) : ends L start = (L[L.length - 1]'(by omega)).c := by
  unfold ends
  rw [List.getLast?_eq_getElem?, List.getElem?_eq_getElem (by omega)]; rfl
/-- A chain of ways about v, each behind the one ahead of it, begun at start and not yet come to it again. -/
structure FanC (al : List Way) (v start : Int) (L : List Way) : Prop where
  mem : ∀ w ∈ L, w ∈ al ∧ w.a = v
  first : ∀ h : 0 < L.length, L[0].b = start
  link : ∀ i (h : i + 1 < L.length), L[i + 1].b = L[i].c
  mid : ∀ i (h : i + 1 < L.length), L[i].c ≠ start
theorem FanC.nil (al : List Way) (v start : Int) : FanC al v start [] := ⟨by simp, fun h => by simp at h, fun i h => by simp at h, fun i h => by simp at h⟩
theorem FanC.nodup {n : Int} {fs : List (List Int)} (ok : WalkOk n fs) {v start : Int} {L : List Way} (h : FanC (waysL 0 fs) v start L) : L.Nodup := by
  rw [List.nodup_iff_pairwise_ne, List.pairwise_iff_getElem]
  intro i
  induction i with
  | zero =>
    intro j hi hj hij e
    have h1 := h.link (j - 1) (by omega)
    have h2 := h.mid (j - 1) (by omega)
    have h3 := h.first hi
    simp only [show j - 1 + 1 = j by omega] at h1
    rw [← e] at h1
    exact h2 (h1.symm.trans h3)
  | succ i ih =>
    intro j hi hj hij e
    have h1 := h.link (j - 1) (by omega)
    have h2 := h.link i hi
    simp only [show j - 1 + 1 = j by omega] at h1
    have m1 := h.mem _ (List.getElem_mem (show i < L.length by omega))
    have m2 := h.mem _ (List.getElem_mem (show j - 1 < L.length by omega))
    refine ih (j - 1) (by omega) (by omega) (by omega) (ok.cinj m1.1 m2.1 (m1.2.trans m2.2.symm) ?_)
    rw [← h2, ← h1, e]
theorem FanC.le {n : Int} {fs : List (List Int)} (ok : WalkOk n fs) {v start : Int} {L : List Way} (h : FanC (waysL 0 fs) v start L) : L.length ≤ (froms (waysL 0 fs) v).length :=
  nodup_le _ _ (h.nodup ok) fun w hw => mem_froms.2 (h.mem w hw)
/-- What the search answers: the ways that it has come along, and whether it came back to its start. -/
structure FanR (al : List Way) (v start : Int) (L : List Way) (r : Bool) : Prop extends FanC al v start L where
  back : r = true → L ≠ [] ∧ ends L start = start
  stop : r = false → (∀ w ∈ al, w.a = v → w.b ≠ ends L start) ∧ (L = [] ∨ ends L start ≠ start)
/-- The way from a to b, if there is one. -/
def look (al : List Way) (a b : Int) : Option Way := al.find? fun w => w.a == a && w.b == b
def faceOf (al : List Way) (a b : Int) : Int := ((look al a b).map Way.f).getD (-1)
def hubStep (al : List Way) (s : Int × Nat) (w : Way) : Int × Nat := (if s.2 = 0 ∨ look al w.b w.a = none then w.b else s.1, s.2 + 1)
def hubOf (al : List Way) (v : Int) (P : List Way) : Int × Nat := (froms P v).foldl (hubStep al) (0, 0)
theorem FanC.same {al : List Way} (hA : Apart al) {v start : Int} {L M : List Way} (h : FanC al v start L) (k : FanC al v start M) : ∀ i (h1 : i < L.length) (h2 : i < M.length), L[i] = M[i]
  | 0, h1, h2 => by
    have m1 := h.mem _ (List.getElem_mem h1)
    have m2 := k.mem _ (List.getElem_mem h2)
    exact hA.key m1.1 m2.1 (m1.2.trans m2.2.symm) ((h.first h1).trans (k.first h2).symm)
  | i + 1, h1, h2 => by
    have m1 := h.mem _ (List.getElem_mem h1)
    have m2 := k.mem _ (List.getElem_mem h2)
    refine hA.key m1.1 m2.1 (m1.2.trans m2.2.symm) ?_
    rw [h.link i h1, k.link i h2, FanC.same hA h k i (by omega) (by omega)]
theorem FanR.le {al : List Way} (hA : Apart al) {v start : Int} {L M : List Way} {r s : Bool} (h : FanR al v start L r) (k : FanR al v start M s) : M.length ≤ L.length := by
  apply Classical.byContradiction
  intro hlt
  have hl : L.length < M.length := by omega
  rcases Nat.eq_zero_or_pos L.length with h0 | h0
  · obtain rfl := List.eq_nil_of_length_eq_zero h0
    cases r with
    | true => exact (h.back rfl).1 rfl
    | false =>
      have m2 := k.mem _ (List.getElem_mem hl)
      exact (h.stop rfl).1 _ m2.1 m2.2 (k.first hl)
  · have e := h.toFanC.same hA k.toFanC (L.length - 1) (by omega) (by omega)
    have hen := ends_at start h0
    cases r with
    | true =>
      have := k.mid (L.length - 1) (by omega)
      rw [← e, ← hen] at this
      exact this (h.back rfl).2
    | false =>
      have m2 := k.mem _ (List.getElem_mem hl)
      have hk := k.link (L.length - 1) (by omega)
      simp only [show L.length - 1 + 1 = L.length by omega] at hk
      exact (h.stop rfl).1 _ m2.1 m2.2 (by rw [hk, ← e, hen])
/-- An edge: its two vertices, the lower first; the face that goes along it, the one that comes back; -1: none. -/
structure Ed where
  a : Int
  b : Int
  f : Int
  g : Int
def edOf (al : List Way) (a b : Int) : Ed := ⟨a, b, faceOf al a b, faceOf al b a⟩
def ltE (x y : Ed) : Prop := x.a < y.a ∨ (x.a = y.a ∧ x.b < y.b)
theorem ltE_irrefl (x : Ed) : ¬ ltE x x := by unfold ltE; omega
theorem ltE_trans {x y z : Ed} (h : ltE x y) (k : ltE y z) : ltE x z := by unfold ltE at *; omega
structure EdgesR (al : List Way) (es : List Ed) : Prop where
  sorted : es.Pairwise ltE
  mem : ∀ e, e ∈ es ↔ ∃ w ∈ al, e = edOf al (min w.a w.b) (max w.a w.b)
theorem sorted_one : ∀ (l m : List Ed), l.Pairwise ltE → m.Pairwise ltE → (∀ e, e ∈ l ↔ e ∈ m) → l = m
  | [], [], _, _, _ => rfl
  | [], y :: m, _, _, h => by have := (h y).2 (by simp); simp at this
  | x :: l, [], _, _, h => by have := (h x).1 (by simp); simp at this
  | x :: l, y :: m, hl, hm, h => by
    obtain ⟨l1, l2⟩ := List.pairwise_cons.1 hl
    obtain ⟨m1, m2⟩ := List.pairwise_cons.1 hm
    have e : x = y := by
      rcases List.mem_cons.1 ((h x).1 (by simp)) with e | e
      · exact e
      · rcases List.mem_cons.1 ((h y).2 (by simp)) with e2 | e2
        · exact e2.symm
        · exact absurd (ltE_trans (m1 x e) (l1 y e2)) (ltE_irrefl y)
    subst e
    rw [sorted_one l m l2 m2 fun z => ?_]
    have hz := h z
    simp only [List.mem_cons] at hz
    constructor
    · intro hz1
      rcases hz.1 (.inr hz1) with rfl | h2
      · exact absurd (l1 _ hz1) (ltE_irrefl _)
      · exact h2
    · intro hz1
      rcases hz.2 (.inr hz1) with rfl | h2
      · exact absurd (m1 _ hz1) (ltE_irrefl _)
      · exact h2
theorem EdgesR.one {al : List Way} {l m : List Ed} (h : EdgesR al l) (k : EdgesR al m) : l = m := sorted_one l m h.sorted k.sorted fun e => (h.mem e).trans (k.mem e).symm
/-- What Build tells of faces. -/
structure TopoT where
  es : List Ed
  fans : List (List Int)
  rs : List Bool
structure TopoS (n : Int) (fs : List (List Int)) (t : TopoT) : Prop where
  walk : WalkOk n fs
  edges : EdgesR (waysL 0 fs) t.es
  nf : (t.fans.length : Int) = n
  nr : (t.rs.length : Int) = n
  fan : ∀ (v : Nat) (h : v < t.fans.length) (h2 : v < t.rs.length), ∃ L, FanR (waysL 0 fs) v (hubOf (waysL 0 fs) v (waysL 0 fs)).1 L t.rs[v] ∧ L.length = (froms (waysL 0 fs) v).length ∧ t.fans[v] = L.map Way.f
end Go.Proofs.Ythadlpkdfnonjaa
