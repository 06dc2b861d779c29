/- Cells set in rows of one's own; three cages in one world. -/
import Derived.Test.YthpdplpjpopenaaCopyC
import Derived.Test.YthpdplpjpopenaaSubF2
namespace Go.Proofs.Ythpdplpjpopenaa
open Go.RowKit
set_option linter.unusedVariables false
set_option linter.unusedSimpArgs false
theorem own_put {W : World} {base : Nat} {e : TypeId} {sz n : Nat} {v : Value} {xs : List Value} (h : W.ownsRow base e sz v n xs) {g : Nat} (hv : v.ownBlock = some g) {j : Nat} (hj : j < n * sz) (u : Value) : (W.setCell ⟨g, j, none⟩ u).ownsRow base e sz v n (xs.set j u) := by
  obtain ⟨hl, ⟨rfl, _⟩ | ⟨g', cap, cur, rfl, hb, hh, hc, hm, hs, ht⟩⟩ := h
  · simp [Value.ownBlock] at hv
  · obtain rfl : g' = g := by simpa [Value.ownBlock] using hv
    refine ⟨by rw [List.length_set]; exact hl, .inr ⟨g', cap, cur.setIfInBounds j u, rfl, hb, (Blk.set (W := W) (g := g') (t := e) (cs := cur) hh j u), hc, hm, by simpa using hs, ?_⟩⟩
    rw [Array.toList_setIfInBounds, List.take_set, ht]
theorem kC_set3 : ∀ (R : List P3) (i : Nat) (p : P3), i < R.length → (((kC R).set (i * 3) (.int .i64 p.x)).set (i * 3 + 1) (.int .i64 p.y)).set (i * 3 + 2) (.int .i64 p.z) = kC (R.set i p)
  | [], i, p, h => by simp at h
  | q :: r, 0, p, h => by simp [kC]
  | q :: r, i + 1, p, h => by
    have ih := kC_set3 r i p (by simpa using h)
    have e0 : (i + 1) * 3 = i * 3 + 3 := by omega
    simp only [kC, e0, List.set_cons_succ, ← ih]
theorem kC_setY : ∀ (R : List P3) (i : Nat) (y : Int) (h : i < R.length), (kC R).set (i * 3 + 1) (.int .i64 y) = kC (R.set i ⟨R[i].x, y, R[i].z⟩)
  | [], i, y, h => by simp at h
  | q :: r, 0, y, h => by simp [kC]
  | q :: r, i + 1, y, h => by
    have ih := kC_setY r i y (by simpa using h)
    have e0 : (i + 1) * 3 + 1 = i * 3 + 1 + 3 := by omega
    simp only [kC, e0, List.set_cons_succ, ih, List.getElem_cons_succ]
/-- A row, changed as far as i. -/
def rowAt (F : P3 → P3) (i : Nat) (vs : List P3) : List P3 := (vs.take i).map F ++ vs.drop i
theorem rowAt_len (F : P3 → P3) (i : Nat) (vs : List P3) : (rowAt F i vs).length = vs.length := by
  unfold rowAt; simp; omega
theorem rowAt_zero (F : P3 → P3) (vs : List P3) : rowAt F 0 vs = vs := by simp [rowAt]
theorem rowAt_all (F : P3 → P3) (vs : List P3) : rowAt F vs.length vs = vs.map F := by simp [rowAt]
theorem rowAt_at (F : P3 → P3) (i : Nat) (vs : List P3) (h : i < vs.length) : (rowAt F i vs)[i]'(by rw [rowAt_len]; exact h) = vs[i] := by
  unfold rowAt
  rw [List.getElem_append_right (by simp; omega)]
  simp [Nat.min_eq_left (Nat.le_of_lt h)]
theorem rowAt_set (F : P3 → P3) (i : Nat) (vs : List P3) (h : i < vs.length) : (rowAt F i vs).set i (F vs[i]) = rowAt F (i + 1) vs := by
  apply List.ext_getElem?
  intro j
  rw [List.getElem?_set, rowAt_len]
  unfold rowAt
  by_cases e : i = j
  · subst e
    simp [h, List.getElem?_append, Nat.min_eq_left (Nat.succ_le_of_lt h)]
  · rw [if_neg e]
    simp only [List.getElem?_append, List.length_map, List.length_take, List.getElem?_map, List.getElem?_take, List.getElem?_drop]
    by_cases e2 : j < i
    · simp [e2, show j < i + 1 by omega, show j < vs.length by omega, Nat.min_eq_left (Nat.le_of_lt h), Nat.min_eq_left (Nat.succ_le_of_lt h)]
    · have e3 : ¬ j < i + 1 := by omega
      simp [e2, e3, Nat.min_eq_left (Nat.le_of_lt h), Nat.min_eq_left (Nat.succ_le_of_lt h)]
      congr 1; omega
theorem own_blk {W : World} {base : Nat} {e : TypeId} {sz n : Nat} {v : Value} {xs : List Value} (h : W.ownsRow base e sz v n xs) {g : Nat} (hv : v.ownBlock = some g) : base ≤ g ∧ ∃ cur, Blk W g e cur := by
  obtain ⟨hl, ⟨rfl, _⟩ | ⟨g', cap, cur, rfl, hb, hh, _⟩⟩ := h
  · simp [Value.ownBlock] at hv
  · obtain rfl : g' = g := by simpa [Value.ownBlock] using hv
    exact ⟨hb, cur, hh⟩
theorem own_apart {W : World} {b1 b2 : Nat} {e1 e2 : TypeId} {s1 s2 n1 n2 : Nat} {v1 v2 : Value} {x1 x2 : List Value} (h1 : W.ownsRow b1 e1 s1 v1 n1 x1) (h2 : W.ownsRow b2 e2 s2 v2 n2 x2) (he : e1 ≠ e2) {g k : Nat} (hg : v1.ownBlock = some g) (hk : v2.ownBlock = some k) : g ≠ k := by
  obtain ⟨_, c1, p1⟩ := own_blk h1 hg
  obtain ⟨_, c2, p2⟩ := own_blk h2 hk
  exact Blk.ne_ p1 p2 he
theorem neVC : (40 : TypeId) ≠ 26 := by decide
theorem neVK : (40 : TypeId) ≠ 58 := by decide
theorem neVI : (40 : TypeId) ≠ 3 := by decide
theorem neVL : (40 : TypeId) ≠ 38 := by decide
/-- A cage, a point and two copies of the cage: the one's vertices moved as far as i, the other's made flat as far as j. -/
structure KF (P : Nat) (C : Array Value) (b : P3) (M F : Nat) (B1 B2 B3 D1 D2 D3 : Option Addr) (d1 d2 d3 e1 e2 e3 : Nat) (vs : List P3) (fs : List (List Int)) (ks : List P3) (b1 b2 : Nat) (i j : Nat) (wr : World) : Prop where
  c : Blk wr P 26 C
  y : Blk wr (P + 1) 40 #[.int .i64 b.x, .int .i64 b.y, .int .i64 b.z]
  m : Blk wr M 26 #[.slice B1 vs.length d1, .slice B2 fs.length d2, .slice B3 ks.length d3]
  f : Blk wr F 26 #[.slice D1 vs.length e1, .slice D2 fs.length e2, .slice D3 ks.length e3]
  r1 : wr.ownsRow b1 40 3 (.slice B1 vs.length d1) vs.length (kC (rowAt (movP b) i vs))
  r2 : wr.ownsRow b2 40 3 (.slice D1 vs.length e1) vs.length (kC (rowAt (flaP b) j vs))
  g1 : OwnF wr b1 B2 d2 fs
  g2 : OwnF wr b2 D2 e2 fs
  k1 : wr.ownsRow b1 58 3 (.slice B3 ks.length d3) ks.length (kC ks)
  k2 : wr.ownsRow b2 58 3 (.slice D3 ks.length e3) ks.length (kC ks)
  lt1 : P + 1 < b1
  lt2 : b1 ≤ b2
  lt : ∀ k, (Value.slice B1 vs.length d1).ownBlock = some k → k < b2
section
variable {P : Nat} {C : Array Value} {b : P3} {M F : Nat} {B1 B2 B3 D1 D2 D3 : Option Addr} {d1 d2 d3 e1 e2 e3 : Nat} {vs : List P3} {fs : List (List Int)} {ks : List P3} {b1 b2 i j : Nat} {wr wq : World}
theorem KF.lay (h : KF P C b M F B1 B2 B3 D1 D2 D3 d1 d2 d3 e1 e2 e3 vs fs ks b1 b2 i j wr) (hb : Below wr.heap.size wr wq) : KF P C b M F B1 B2 B3 D1 D2 D3 d1 d2 d3 e1 e2 e3 vs fs ks b1 b2 i j wq :=
  ⟨h.c.below hb, h.y.below hb, h.m.below hb, h.f.below hb, own_lay h.r1 hb, own_lay h.r2 hb, h.g1.lay hb, h.g2.lay hb, own_lay h.k1 hb, own_lay h.k2 hb, h.lt1, h.lt2, h.lt⟩
theorem KF.put1 {i' : Nat} (h : KF P C b M F B1 B2 B3 D1 D2 D3 d1 d2 d3 e1 e2 e3 vs fs ks b1 b2 i j wr) {g : Nat} (hv : (Value.slice B1 vs.length d1).ownBlock = some g) (hg : wr.grownBy wq (some g)) (hr : wq.ownsRow b1 40 3 (.slice B1 vs.length d1) vs.length (kC (rowAt (movP b) i' vs))) : KF P C b M F B1 B2 B3 D1 D2 D3 d1 d2 d3 e1 e2 e3 vs fs ks b1 b2 i' j wq := by
  obtain ⟨hb, cur, hB⟩ := own_blk h.r1 hv
  have l1 := h.lt1
  have l2 := h.lt g hv
  have nm := Blk.ne_ hB h.m neVC
  have nf := Blk.ne_ hB h.f neVC
  exact ⟨h.c.kept hg (by simp only [ne_eq, Option.some.injEq]; omega), h.y.kept hg (by simp only [ne_eq, Option.some.injEq]; omega), h.m.kept hg (by simp only [ne_eq, Option.some.injEq]; omega), h.f.kept hg (by simp only [ne_eq, Option.some.injEq]; omega), hr,
    own_kept h.r2 hg (fun k hk e => by have := (own_blk h.r2 hk).1; simp only [Option.some.injEq] at e; omega),
    h.g1.kept hg (fun k e => .inr ⟨_, _, _, _, _, _, h.r1, by rw [hv, e], neVI, neVL⟩),
    h.g2.kept hg (fun k e => .inr ⟨_, _, _, _, _, _, h.r1, by rw [hv, e], neVI, neVL⟩),
    own_kept h.k1 hg (fun k hk e => by have := own_apart h.r1 h.k1 neVK hv hk; simp only [Option.some.injEq] at e; omega),
    own_kept h.k2 hg (fun k hk e => by have := own_apart h.r1 h.k2 neVK hv hk; simp only [Option.some.injEq] at e; omega), h.lt1, h.lt2, h.lt⟩
theorem KF.put2 {j' : Nat} (h : KF P C b M F B1 B2 B3 D1 D2 D3 d1 d2 d3 e1 e2 e3 vs fs ks b1 b2 i j wr) {g : Nat} (hv : (Value.slice D1 vs.length e1).ownBlock = some g) (hg : wr.grownBy wq (some g)) (hr : wq.ownsRow b2 40 3 (.slice D1 vs.length e1) vs.length (kC (rowAt (flaP b) j' vs))) : KF P C b M F B1 B2 B3 D1 D2 D3 d1 d2 d3 e1 e2 e3 vs fs ks b1 b2 i j' wq := by
  obtain ⟨hb, cur, hB⟩ := own_blk h.r2 hv
  have l1 := h.lt1
  have l2 := h.lt2
  have nm := Blk.ne_ hB h.m neVC
  have nf := Blk.ne_ hB h.f neVC
  exact ⟨h.c.kept hg (by simp only [ne_eq, Option.some.injEq]; omega), h.y.kept hg (by simp only [ne_eq, Option.some.injEq]; omega), h.m.kept hg (by simp only [ne_eq, Option.some.injEq]; omega), h.f.kept hg (by simp only [ne_eq, Option.some.injEq]; omega),
    own_kept h.r1 hg (fun k hk e => by have := h.lt k hk; simp only [Option.some.injEq] at e; omega), hr,
    h.g1.kept hg (fun k e => .inr ⟨_, _, _, _, _, _, h.r2, by rw [hv, e], neVI, neVL⟩),
    h.g2.kept hg (fun k e => .inr ⟨_, _, _, _, _, _, h.r2, by rw [hv, e], neVI, neVL⟩),
    own_kept h.k1 hg (fun k hk e => by have := own_apart h.r2 h.k1 neVK hv hk; simp only [Option.some.injEq] at e; omega),
    own_kept h.k2 hg (fun k hk e => by have := own_apart h.r2 h.k2 neVK hv hk; simp only [Option.some.injEq] at e; omega), h.lt1, h.lt2, h.lt⟩
/-- The moved copy's next vertex is written. -/
theorem KF.step1 (h : KF P C b M F B1 B2 B3 D1 D2 D3 d1 d2 d3 e1 e2 e3 vs fs ks b1 b2 i j wr) {g : Nat} (hv : B1 = some ⟨g, 0, none⟩) (hi : i < vs.length) (p : P3) (hp : vs[i] = p) : KF P C b M F B1 B2 B3 D1 D2 D3 d1 d2 d3 e1 e2 e3 vs fs ks b1 b2 (i + 1) j (((wr.setCell ⟨g, i * 3, none⟩ (.int .i64 (p.x + b.x))).setCell ⟨g, i * 3 + 1, none⟩ (.int .i64 (p.y + b.y))).setCell ⟨g, i * 3 + 2, none⟩ (.int .i64 (p.z + b.z))) := by
  subst hv
  subst hp
  refine h.put1 (g := g) rfl (((set_grown _ g _ _).trans (set_grown _ g _ _)).trans (set_grown _ g _ _)) ?_
  have o := own_put (own_put (own_put h.r1 (g := g) rfl (j := i * 3) (by omega) (.int .i64 (vs[i].x + b.x))) (g := g) rfl (j := i * 3 + 1) (by omega) (.int .i64 (vs[i].y + b.y))) (g := g) rfl (j := i * 3 + 2) (by omega) (.int .i64 (vs[i].z + b.z))
  have e := kC_set3 (rowAt (movP b) i vs) i (movP b vs[i]) (by rw [rowAt_len]; exact hi)
  rw [rowAt_set _ _ _ hi] at e
  rw [← e]
  exact o
/-- The flat copy's next vertex is written. -/
theorem KF.step2 (h : KF P C b M F B1 B2 B3 D1 D2 D3 d1 d2 d3 e1 e2 e3 vs fs ks b1 b2 i j wr) {g : Nat} (hv : D1 = some ⟨g, 0, none⟩) (hj : j < vs.length) : KF P C b M F B1 B2 B3 D1 D2 D3 d1 d2 d3 e1 e2 e3 vs fs ks b1 b2 i (j + 1) (wr.setCell ⟨g, j * 3 + 1, none⟩ (.int .i64 b.y)) := by
  subst hv
  refine h.put2 (g := g) rfl (set_grown _ g _ _) ?_
  have o := own_put h.r2 (g := g) rfl (j := j * 3 + 1) (by omega) (.int .i64 b.y)
  have e := kC_setY (rowAt (flaP b) j vs) j b.y (by rw [rowAt_len]; exact hj)
  rw [rowAt_at _ _ _ hj] at e
  rw [show (⟨vs[j].x, b.y, vs[j].z⟩ : P3) = flaP b vs[j] from rfl, rowAt_set _ _ _ hj] at e
  rw [← e]
  exact o
end
end Go.Proofs.Ythpdplpjpopenaa
