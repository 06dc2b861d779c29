/- Cells set in rows of one's own; three cages in one world. The copies, all changed, as Level takes them. Rows of numbers of a call's own, each in a block of its own: faces, copied. A cage, copied: each face in a block of its own. A cage with all its faces the other way round comes to the same vertices and creases. A copy of a cage whose faces are turned, number by number. -/
import Derived.Test.YtiaikceoodeboaaC3
import Derived.Test.YtiaikceoodeboaaC10
import Derived.Test.YtiaikceoodeboaaC13
import Derived.Test.YtiaikceoodeboaaC14
namespace Go.Proofs.Ytiaikceoodeboaa
open Go.RowKit
set_option linter.unusedVariables false
set_option linter.unusedSimpArgs false
theorem own_put {W : World} {base : Nat} {e : TypeId} {sz n : Nat} {v : Value} {xs : List Value} (h : W.ownsRow base e sz v n xs) {g : Nat} (hv : v.ownBlock = some g) {j : Nat} (hj : j < n * sz) (u : Value) : (W.setCell ⟨g, j, none⟩ u).ownsRow base e sz v n (xs.set j u) := by
  obtain ⟨hl, ⟨rfl, _⟩ | ⟨g', cap, cur, rfl, hb, hh, hc, hm, hs, ht⟩⟩ := h
  · simp [Value.ownBlock] at hv
  · obtain rfl : g' = g := by simpa [Value.ownBlock] using hv
    refine ⟨by rw [List.length_set]; exact hl, .inr ⟨g', cap, cur.setIfInBounds j u, rfl, hb, (Blk.set (W := W) (g := g') (t := e) (cs := cur) hh j u), hc, hm, by simpa using hs, ?_⟩⟩
    rw [Array.toList_setIfInBounds, List.take_set, ht]
theorem kC_set3 : ∀ (R : List P3) (i : Nat) (p : P3), i < R.length → (((kC R).set (i * 3) (.int .i64 p.x)).set (i * 3 + 1) (.int .i64 p.y)).set (i * 3 + 2) (.int .i64 p.z) = kC (R.set i p)
  | [], i, p, h => by simp at h
  | q :: r, 0, p, h => by simp [kC]
  | q :: r, i + 1, p, h => by
    have ih := kC_set3 r i p (by simpa using h)
    have e0 : (i + 1) * 3 = i * 3 + 3 := by omega
    simp only [kC, e0, List.set_cons_succ, ← ih]
theorem kC_setY : ∀ (R : List P3) (i : Nat) (y : Int) (h : i < R.length), (kC R).set (i * 3 + 1) (.int .i64 y) = kC (R.set i ⟨R[i].x, y, R[i].z⟩)
  | [], i, y, h => by simp at h
  | q :: r, 0, y, h => by simp [kC]
  | q :: r, i + 1, y, h => by
    have ih := kC_setY r i y (by simpa using h)
    have e0 : (i + 1) * 3 + 1 = i * 3 + 1 + 3 := by omega
    simp only [kC, e0, List.set_cons_succ, ih, List.getElem_cons_succ]
/-- A row, changed as far as i. -/
def rowAt (F : P3 → P3) (i : Nat) (vs : List P3) : List P3 := (vs.take i).map F ++ vs.drop i
theorem rowAt_len (F : P3 → P3) (i : Nat) (vs : List P3) : (rowAt F i vs).length = vs.length := by
  unfold rowAt; simp; omega
theorem rowAt_zero (F : P3 → P3) (vs : List P3) : rowAt F 0 vs = vs := by simp [rowAt]
theorem rowAt_all (F : P3 → P3) (vs : List P3) : rowAt F vs.length vs = vs.map F := by simp [rowAt]
theorem rowAt_at (F : P3 → P3) (i : Nat) (vs : List P3) (h : i < vs.length) : (rowAt F i vs)[i]'(by rw [rowAt_len]; exact h) = vs[i] := by
  unfold rowAt
  rw [List.getElem_append_right (by simp; omega)]
  simp [Nat.min_eq_left (Nat.le_of_lt h)]
theorem rowAt_set (F : P3 → P3) (i : Nat) (vs : List P3) (h : i < vs.length) : (rowAt F i vs).set i (F vs[i]) = rowAt F (i + 1) vs := by
  apply List.ext_getElem?
  intro j
  rw [List.getElem?_set, rowAt_len]
  unfold rowAt
  by_cases e : i = j
  · subst e
    simp [h, List.getElem?_append, Nat.min_eq_left (Nat.succ_le_of_lt h)]
  · rw [if_neg e]
    simp only [List.getElem?_append, List.length_map, List.length_take, List.getElem?_map, List.getElem?_take, List.getElem?_drop]
    by_cases e2 : j < i
    · simp [e2, show j < i + 1 by omega, show j < vs.length by omega, Nat.min_eq_left (Nat.le_of_lt h), Nat.min_eq_left (Nat.succ_le_of_lt h)]
    · have e3 : ¬ j < i + 1 := by omega
      simp [e2, e3, Nat.min_eq_left (Nat.le_of_lt h), Nat.min_eq_left (Nat.succ_le_of_lt h)]
      congr 1; omega
theorem own_blk {W : World} {base : Nat} {e : TypeId} {sz n : Nat} {v : Value} {xs : List Value} (h : W.ownsRow base e sz v n xs) {g : Nat} (hv : v.ownBlock = some g) : base ≤ g ∧ ∃ cur, Blk W g e cur := by
  obtain ⟨hl, ⟨rfl, _⟩ | ⟨g', cap, cur, rfl, hb, hh, _⟩⟩ := h
  · simp [Value.ownBlock] at hv
  · obtain rfl : g' = g := by simpa [Value.ownBlock] using hv
    exact ⟨hb, cur, hh⟩
theorem own_apart {W : World} {b1 b2 : Nat} {e1 e2 : TypeId} {s1 s2 n1 n2 : Nat} {v1 v2 : Value} {x1 x2 : List Value} (h1 : W.ownsRow b1 e1 s1 v1 n1 x1) (h2 : W.ownsRow b2 e2 s2 v2 n2 x2) (he : e1 ≠ e2) {g k : Nat} (hg : v1.ownBlock = some g) (hk : v2.ownBlock = some k) : g ≠ k := by
  obtain ⟨_, c1, p1⟩ := own_blk h1 hg
  obtain ⟨_, c2, p2⟩ := own_blk h2 hk
  exact Blk.ne_ p1 p2 he
theorem neVC : (42 : TypeId) ≠ 26 := by decide
theorem neVK : (42 : TypeId) ≠ 51 := by decide
theorem neVI : (42 : TypeId) ≠ 3 := by decide
theorem neVL : (42 : TypeId) ≠ 29 := by decide
/-- A cage, a point and two copies of the cage: the one's vertices moved as far as i, the other's made flat as far as j. -/
structure KF (P : Nat) (C : Array Value) (b : P3) (M F : Nat) (B1 B2 B3 D1 D2 D3 : Option Addr) (d1 d2 d3 e1 e2 e3 : Nat) (vs : List P3) (fs : List (List Int)) (ks : List P3) (b1 b2 : Nat) (i j : Nat) (wr : World) : Prop where
  c : Blk wr P 26 C
  y : Blk wr (P + 1) 42 #[.int .i64 b.x, .int .i64 b.y, .int .i64 b.z]
  m : Blk wr M 26 #[.slice B1 vs.length d1, .slice B2 fs.length d2, .slice B3 ks.length d3]
  f : Blk wr F 26 #[.slice D1 vs.length e1, .slice D2 fs.length e2, .slice D3 ks.length e3]
  r1 : wr.ownsRow b1 42 3 (.slice B1 vs.length d1) vs.length (kC (rowAt (movP b) i vs))
  r2 : wr.ownsRow b2 42 3 (.slice D1 vs.length e1) vs.length (kC (rowAt (flaP b) j vs))
  g1 : OwnF wr b1 B2 d2 fs
  g2 : OwnF wr b2 D2 e2 fs
  k1 : wr.ownsRow b1 51 3 (.slice B3 ks.length d3) ks.length (kC ks)
  k2 : wr.ownsRow b2 51 3 (.slice D3 ks.length e3) ks.length (kC ks)
  lt1 : P + 1 < b1
  lt2 : b1 ≤ b2
  lt : ∀ k, (Value.slice B1 vs.length d1).ownBlock = some k → k < b2
section
variable {P : Nat} {C : Array Value} {b : P3} {M F : Nat} {B1 B2 B3 D1 D2 D3 : Option Addr} {d1 d2 d3 e1 e2 e3 : Nat} {vs : List P3} {fs : List (List Int)} {ks : List P3} {b1 b2 i j : Nat} {wr wq : World}
theorem KF.lay (h : KF P C b M F B1 B2 B3 D1 D2 D3 d1 d2 d3 e1 e2 e3 vs fs ks b1 b2 i j wr) (hb : Below wr.heap.size wr wq) : KF P C b M F B1 B2 B3 D1 D2 D3 d1 d2 d3 e1 e2 e3 vs fs ks b1 b2 i j wq :=
  ⟨h.c.below hb, h.y.below hb, h.m.below hb, h.f.below hb, own_lay h.r1 hb, own_lay h.r2 hb, h.g1.lay hb, h.g2.lay hb, own_lay h.k1 hb, own_lay h.k2 hb, h.lt1, h.lt2, h.lt⟩
theorem KF.put1 {i' : Nat} (h : KF P C b M F B1 B2 B3 D1 D2 D3 d1 d2 d3 e1 e2 e3 vs fs ks b1 b2 i j wr) {g : Nat} (hv : (Value.slice B1 vs.length d1).ownBlock = some g) (hg : wr.grownBy wq (some g)) (hr : wq.ownsRow b1 42 3 (.slice B1 vs.length d1) vs.length (kC (rowAt (movP b) i' vs))) : KF P C b M F B1 B2 B3 D1 D2 D3 d1 d2 d3 e1 e2 e3 vs fs ks b1 b2 i' j wq := by
  obtain ⟨hb, cur, hB⟩ := own_blk h.r1 hv
  have l1 := h.lt1
  have l2 := h.lt g hv
  have nm := Blk.ne_ hB h.m neVC
  have nf := Blk.ne_ hB h.f neVC
  exact ⟨h.c.kept hg (by simp only [ne_eq, Option.some.injEq]; omega), h.y.kept hg (by simp only [ne_eq, Option.some.injEq]; omega), h.m.kept hg (by simp only [ne_eq, Option.some.injEq]; omega), h.f.kept hg (by simp only [ne_eq, Option.some.injEq]; omega), hr,
    own_kept h.r2 hg (fun k hk e => by have := (own_blk h.r2 hk).1; simp only [Option.some.injEq] at e; omega),
    h.g1.kept hg (fun k e => .inr ⟨_, _, _, _, _, _, h.r1, by rw [hv, e], neVI, neVL⟩),
    h.g2.kept hg (fun k e => .inr ⟨_, _, _, _, _, _, h.r1, by rw [hv, e], neVI, neVL⟩),
    own_kept h.k1 hg (fun k hk e => by have := own_apart h.r1 h.k1 neVK hv hk; simp only [Option.some.injEq] at e; omega),
    own_kept h.k2 hg (fun k hk e => by have := own_apart h.r1 h.k2 neVK hv hk; simp only [Option.some.injEq] at e; omega), h.lt1, h.lt2, h.lt⟩
theorem KF.put2 {j' : Nat} (h : KF P C b M F B1 B2 B3 D1 D2 D3 d1 d2 d3 e1 e2 e3 vs fs ks b1 b2 i j wr) {g : Nat} (hv : (Value.slice D1 vs.length e1).ownBlock = some g) (hg : wr.grownBy wq (some g)) (hr : wq.ownsRow b2 42 3 (.slice D1 vs.length e1) vs.length (kC (rowAt (flaP b) j' vs))) : KF P C b M F B1 B2 B3 D1 D2 D3 d1 d2 d3 e1 e2 e3 vs fs ks b1 b2 i j' wq := by
  obtain ⟨hb, cur, hB⟩ := own_blk h.r2 hv
  have l1 := h.lt1
  have l2 := h.lt2
  have nm := Blk.ne_ hB h.m neVC
  have nf := Blk.ne_ hB h.f neVC
  exact ⟨h.c.kept hg (by simp only [ne_eq, Option.some.injEq]; omega), h.y.kept hg (by simp only [ne_eq, Option.some.injEq]; omega), h.m.kept hg (by simp only [ne_eq, Option.some.injEq]; omega), h.f.kept hg (by simp only [ne_eq, Option.some.injEq]; omega),
    own_kept h.r1 hg (fun k hk e => by have := h.lt k hk; simp only [Option.some.injEq] at e; omega), hr,
    h.g1.kept hg (fun k e => .inr ⟨_, _, _, _, _, _, h.r2, by rw [hv, e], neVI, neVL⟩),
    h.g2.kept hg (fun k e => .inr ⟨_, _, _, _, _, _, h.r2, by rw [hv, e], neVI, neVL⟩),
    own_kept h.k1 hg (fun k hk e => by have := own_apart h.r2 h.k1 neVK hv hk; simp only [Option.some.injEq] at e; omega),
    own_kept h.k2 hg (fun k hk e => by have := own_apart h.r2 h.k2 neVK hv hk; simp only [Option.some.injEq] at e; omega), h.lt1, h.lt2, h.lt⟩
/-- The moved copy's next vertex is written. -/
theorem KF.step1 (h : KF P C b M F B1 B2 B3 D1 D2 D3 d1 d2 d3 e1 e2 e3 vs fs ks b1 b2 i j wr) {g : Nat} (hv : B1 = some ⟨g, 0, none⟩) (hi : i < vs.length) (p : P3) (hp : vs[i] = p) : KF P C b M F B1 B2 B3 D1 D2 D3 d1 d2 d3 e1 e2 e3 vs fs ks b1 b2 (i + 1) j (((wr.setCell ⟨g, i * 3, none⟩ (.int .i64 (p.x + b.x))).setCell ⟨g, i * 3 + 1, none⟩ (.int .i64 (p.y + b.y))).setCell ⟨g, i * 3 + 2, none⟩ (.int .i64 (p.z + b.z))) := by
  subst hv
  subst hp
  refine h.put1 (g := g) rfl (((set_grown _ g _ _).trans (set_grown _ g _ _)).trans (set_grown _ g _ _)) ?_
  have o := own_put (own_put (own_put h.r1 (g := g) rfl (j := i * 3) (by omega) (.int .i64 (vs[i].x + b.x))) (g := g) rfl (j := i * 3 + 1) (by omega) (.int .i64 (vs[i].y + b.y))) (g := g) rfl (j := i * 3 + 2) (by omega) (.int .i64 (vs[i].z + b.z))
  have e := kC_set3 (rowAt (movP b) i vs) i (movP b vs[i]) (by rw [rowAt_len]; exact hi)
  rw [rowAt_set _ _ _ hi] at e
  rw [← e]
  exact o
/-- The flat copy's next vertex is written. -/
theorem KF.step2 (h : KF P C b M F B1 B2 B3 D1 D2 D3 d1 d2 d3 e1 e2 e3 vs fs ks b1 b2 i j wr) {g : Nat} (hv : D1 = some ⟨g, 0, none⟩) (hj : j < vs.length) : KF P C b M F B1 B2 B3 D1 D2 D3 d1 d2 d3 e1 e2 e3 vs fs ks b1 b2 i (j + 1) (wr.setCell ⟨g, j * 3 + 1, none⟩ (.int .i64 b.y)) := by
  subst hv
  refine h.put2 (g := g) rfl (set_grown _ g _ _) ?_
  have o := own_put h.r2 (g := g) rfl (j := j * 3 + 1) (by omega) (.int .i64 b.y)
  have e := kC_setY (rowAt (flaP b) j vs) j b.y (by rw [rowAt_len]; exact hj)
  rw [rowAt_at _ _ _ hj] at e
  rw [show (⟨vs[j].x, b.y, vs[j].z⟩ : P3) = flaP b vs[j] from rfl, rowAt_set _ _ _ hj] at e
  rw [← e]
  exact o
end
end Go.Proofs.Ytiaikceoodeboaa
namespace Go.Proofs.Ytiaikceoodeboaa
open Go.RowKit
set_option linter.unusedVariables false
set_option linter.unusedSimpArgs false
theorem mov_i3 {vs : List P3} {b : P3} (hv : ∀ p ∈ vs, InP 32768 p) (hb : InP 16384 b) : ∀ p ∈ vs.map (movP b), I3 p := fun p hp => by
  obtain ⟨q, hq, rfl⟩ := List.mem_map.1 hp
  obtain ⟨x, y, z⟩ := hv q hq
  obtain ⟨bx, byy, bz⟩ := hb
  exact ⟨by simp only [movP]; unfold i64B; omega, by simp only [movP]; unfold i64B; omega, by simp only [movP]; unfold i64B; omega⟩
theorem fla_i3 {vs : List P3} {b : P3} (hv : ∀ p ∈ vs, InP 32768 p) (hb : InP 16384 b) : ∀ p ∈ vs.map (flaP b), I3 p := fun p hp => by
  obtain ⟨q, hq, rfl⟩ := List.mem_map.1 hp
  obtain ⟨x, y, z⟩ := hv q hq
  obtain ⟨bx, byy, bz⟩ := hb
  exact ⟨by simp only [flaP]; unfold i64B; omega, by simp only [flaP]; unfold i64B; omega, by simp only [flaP]; unfold i64B; omega⟩
section
variable {P : Nat} {C : Array Value} {b : P3} {M F : Nat} {B1 B2 B3 D1 D2 D3 : Option Addr} {d1 d2 d3 e1 e2 e3 : Nat} {vs : List P3} {fs : List (List Int)} {ks : List P3} {b1 b2 : Nat} {wr : World}
theorem KF.cg1 (h : KF P C b M F B1 B2 B3 D1 D2 D3 d1 d2 d3 e1 e2 e3 vs fs ks b1 b2 vs.length vs.length wr) (hv : ∀ p ∈ vs, InP 32768 p) (hb : InP 16384 b) (hi : ∀ q ∈ fs, ∀ x ∈ q, i64B x) (i3 : ∀ p ∈ ks, I3 p) (few : vs.length + fs.length + tot fs + ks.length ≤ 1000000) : CgV wr ⟨vs.map (movP b), fs, ks⟩ B1 B2 B3 :=
  ⟨mov_i3 hv hb, hi, i3, VL_own (base := b1) (c := d1) (e := 42) (by have := h.r1; rw [rowAt_all] at this; rw [List.length_map]; exact this), h.g1.fl, VL_own h.k1, by simp only [List.length_map]; omega⟩
theorem KF.cg2 (h : KF P C b M F B1 B2 B3 D1 D2 D3 d1 d2 d3 e1 e2 e3 vs fs ks b1 b2 vs.length vs.length wr) (hv : ∀ p ∈ vs, InP 32768 p) (hb : InP 16384 b) (hi : ∀ q ∈ fs, ∀ x ∈ q, i64B x) (i3 : ∀ p ∈ ks, I3 p) (few : vs.length + fs.length + tot fs + ks.length ≤ 1000000) : CgV wr ⟨vs.map (flaP b), fs, ks⟩ D1 D2 D3 :=
  ⟨fla_i3 hv hb, hi, i3, VL_own (base := b2) (c := e1) (e := 42) (by have := h.r2; rw [rowAt_all] at this; rw [List.length_map]; exact this), h.g2.fl, VL_own h.k2, by simp only [List.length_map]; omega⟩
end
end Go.Proofs.Ytiaikceoodeboaa
namespace Go.Proofs.Ytiaikceoodeboaa
open Go.RowKit
set_option linter.unusedVariables false
set_option linter.unusedSimpArgs false
set_option linter.unnecessarySimpa false
set_option maxRecDepth 100000
/-- Rows of numbers, by the values that lead to them. -/
structure OwnV (W : World) (base c : Nat) (A : Option Addr) (fans : List (List Int)) (vals : List Value) : Prop where
  h1 : W.ownsRow base 29 1 (.slice A fans.length c) fans.length vals
  h2 : ∀ i (h : i < fans.length), ∃ B m, vals[i]? = some (.slice B fans[i].length m) ∧ W.ownsRow base 3 1 (.slice B fans[i].length m) fans[i].length (ints fans[i])
def apartV (v u : Value) : Prop := ∀ k, v.ownBlock = some k → u.ownBlock ≠ some k
/-- .. each row in a block of its own. -/
def OwnD (W : World) (base c : Nat) (A : Option Addr) (fans : List (List Int)) : Prop := ∃ vals, OwnV W base c A fans vals ∧ vals.Pairwise apartV
section
variable {W W' : World} {base c : Nat} {A : Option Addr} {fans : List (List Int)} {vals : List Value}
theorem OwnV.toF (h : OwnV W base c A fans vals) : OwnF W base A c fans := ⟨vals, h.h1, h.h2⟩
theorem OwnD.toF (h : OwnD W base c A fans) : OwnF W base A c fans := h.elim fun _ h => h.1.toF
theorem OwnV.len (h : OwnV W base c A fans vals) : vals.length = fans.length := by have := h.h1.1; omega
theorem OwnV.lt (h : OwnV W base c A fans vals) : ∀ v ∈ vals, ∀ k, v.ownBlock = some k → k < W.heap.size := fun v hv k hk => by
  obtain ⟨i, hi, rfl⟩ := List.getElem_of_mem hv
  obtain ⟨B, m, h3, h4⟩ := h.h2 i (by have := h.len; omega)
  rw [List.getElem?_eq_getElem hi] at h3
  rw [Option.some.inj h3] at hk
  exact (own_block h4 k hk).2
theorem OwnV.kept {row : Option Nat} (h : OwnV W base c A fans vals) (hg : W.grownBy W' row) (hne : ∀ k, row = some k → k < base ∨ ∃ base2 e2 size2 v2 n2 xs2, W.ownsRow base2 e2 size2 v2 n2 xs2 ∧ v2.ownBlock = some k ∧ e2 ≠ 3 ∧ e2 ≠ 29) : OwnV W' base c A fans vals := by
  obtain ⟨h1, h2⟩ := h
  refine ⟨own_kept h1 hg (fun k hk e => ?_), fun i hi => ?_⟩
  · rcases hne k e with h3 | ⟨b2, e2, s2, v2, n2, x2, h3, h4, h5, h6⟩
    · have := (own_block h1 k hk).1; omega
    · exact own_type h3 h1 h6 k h4 hk
  · obtain ⟨B, m, h3, h4⟩ := h2 i hi
    refine ⟨B, m, h3, own_kept h4 hg (fun k hk e => ?_)⟩
    rcases hne k e with h5 | ⟨b2, e2, s2, v2, n2, x2, h5, h6, h7, h8⟩
    · have := (own_block h4 k hk).1; omega
    · exact own_type h5 h4 h7 k h6 hk
theorem OwnV.lay (h : OwnV W base c A fans vals) (hb : Below W.heap.size W W') : OwnV W' base c A fans vals := h.kept (row := none) (grown_of hb) (by simp)
theorem OwnD.kept {row : Option Nat} (h : OwnD W base c A fans) (hg : W.grownBy W' row) (hne : ∀ k, row = some k → k < base ∨ ∃ base2 e2 size2 v2 n2 xs2, W.ownsRow base2 e2 size2 v2 n2 xs2 ∧ v2.ownBlock = some k ∧ e2 ≠ 3 ∧ e2 ≠ 29) : OwnD W' base c A fans := by
  obtain ⟨v, h, hp⟩ := h
  exact ⟨v, h.kept hg hne, hp⟩
theorem OwnD.lay (h : OwnD W base c A fans) (hb : Below W.heap.size W W') : OwnD W' base c A fans := h.kept (row := none) (grown_of hb) (by simp)
theorem OwnV.add {c' m hi : Nat} {A' B : Option Addr} {x : List Int} (h2 : ∀ i (h : i < fans.length), ∃ B m, vals[i]? = some (.slice B fans[i].length m) ∧ W.ownsRow base 3 1 (.slice B fans[i].length m) fans[i].length (ints fans[i]))
    (h0 : W.ownsRow base 29 1 (.slice A fans.length c) fans.length vals) (hx : W.ownsRow hi 3 1 (.slice B x.length m) x.length (ints x)) (hbh : base ≤ hi) (hap : vals.Pairwise apartV) (hlt : ∀ v ∈ vals, ∀ k, v.ownBlock = some k → k < hi) (hg : W.grownBy W' (Value.slice A fans.length c).ownBlock) (h1 : W'.ownsRow base 29 1 (.slice A' (fans.length + 1) c') (fans.length + 1) (vals ++ [.slice B x.length m])) : OwnD W' base c' A' (fans ++ [x]) := by
  have hl : vals.length = fans.length := by have := h0.1; omega
  have K : ∀ (v : Value) (n : Nat) (xs : List Value), W.ownsRow base 3 1 v n xs → W'.ownsRow base 3 1 v n xs := fun v n xs h => own_kept h hg (fun k hk e => own_type h0 h (by decide) k e hk)
  refine ⟨vals ++ [.slice B x.length m], ⟨by simpa using h1, fun i hi => ?_⟩, ?_⟩
  · rcases Nat.lt_or_ge i fans.length with h3 | h3
    · obtain ⟨B2, m2, h4, h5⟩ := h2 i h3
      refine ⟨B2, m2, ?_, ?_⟩
      · rw [List.getElem_append_left h3, List.getElem?_append_left (by omega)]; exact h4
      · rw [List.getElem_append_left h3]; exact K _ _ _ h5
    · have e : i = fans.length := by simp at hi; omega
      subst e
      refine ⟨B, m, ?_, ?_⟩
      · rw [List.getElem?_append_right (by omega), List.getElem_append_right (by omega)]; simp [hl]
      · rw [List.getElem_append_right (by omega)]; simpa using K _ _ _ (own_base hx hbh)
  · rw [List.pairwise_append]
    refine ⟨hap, by simp, fun v hv u hu => ?_⟩
    obtain rfl : u = .slice B x.length m := by simpa using hu
    intro k hk e
    have := hlt v hv k hk
    have := (own_block hx k e).1
    omega
end
theorem OwnD.base {W : World} {base base' c : Nat} {A : Option Addr} {fans : List (List Int)} (h : OwnD W base c A fans) (hb : base' ≤ base) : OwnD W base' c A fans := by
  obtain ⟨v, ⟨h1, h2⟩, hp⟩ := h
  exact ⟨v, ⟨own_base h1 hb, fun i hi => by obtain ⟨B, m, h3, h4⟩ := h2 i hi; exact ⟨B, m, h3, own_base h4 hb⟩⟩, hp⟩
set_option maxHeartbeats 1000000 in
theorem copyF_D (W : World) (A : Option Addr) (k : Nat) (fs : List (List Int)) (hA : FL W A fs) (hl : fs.length < 1099511627776) (hx : ∀ x ∈ fs, x.length < 1099511627776) :
    Calls Try.prog 46 #[.slice A fs.length k] W fun e W' => ∃ B d, e = .returned (.slice B fs.length d) ∧ OwnD W' W.heap.size d B fs ∧ Below W.heap.size W W' := by
  obtain ⟨i1, hi1, hy0, hy1, hy2⟩ := info_parts infoIS
  have hown0 := own_empty W W.heap.size 29 (Nat.le_refl _)
  have hb0 : Below W.heap.size W (W.alloc (.cells #[] 29)) := bel_alloc (Below.refl _ _) _
  go_enter Try.func46, Try.ntmps46
  go_upto_region 2 with (fail)
  generalize hWe : W.alloc (.cells #[] 29) = W1 at *
  clear hWe
  go_wp2
  go_loopw [3, 4] (fun bv fv wr => ∃ (f : Nat) (A9 : Option Addr) (c9 : Nat), fv = .int .i64 (f : Int) ∧ f ≤ fs.length ∧ bv = .slice A9 f c9 ∧ OwnD wr W.heap.size c9 A9 (fs.take f) ∧ Below W.heap.size W wr) (fun _ fv _ => fs.length - (intOf fv).toNat)
  case atStart => exact ⟨0, some ⟨W.heap.size, 0, none⟩, 0, rfl, by omega, by simp, ⟨[], ⟨by simpa using hown0, fun i hi => by simp at hi⟩, .nil⟩, hb0⟩
  case round =>
    obtain ⟨f, A9, c9, rfl, hf, rfl, hOF, hbel⟩ := hrel
    clear hown0 hb0
    by_cases hfl : f < fs.length
    · obtain ⟨b, off, Bf, m, rfl, hbl, hcell, hIL⟩ := (hA.below hbel).at_ f hfl
      have htk : fs.take (f + 1) = fs.take f ++ [fs[f]] := List.take_succ_eq_append_getElem hfl
      have hx2 := hx _ (List.getElem_mem hfl)
      have hl9 : (fs.take f).length = f := by simp; omega
      replace hl9 := Lib.hid hl9
      generalize fs[f] = x at *
      replace htk := Lib.hid htk
      have k0 : (0 : Int) ≤ (f : Int) := by omega
      have k1 : (f : Int) < (fs.length : Int) := by omega
      have cC := copyI_any0 wr Bf m x hIL hx2
      obtain ⟨vals, hV, hap⟩ := hOF
      have hlt := hV.lt
      replace hap := Lib.hid hap
      replace hlt := Lib.hid hlt
      have hsz0 := hbel.size
      go_wp2_with (first
        | (go_at_call 65; (with_reducible refine cC.mono ?_); rintro e W2 ⟨A2, c2, rfl, hown, hb2⟩; have hV2 := hV.lay hb2; obtain ⟨hO1b, hO2⟩ := hV2; have hO1 : W2.ownsRow W.heap.size 29 1 (.slice A9 f c9) f vals := (by have h9 := hO1b; rw [hl9.out] at h9; exact h9); replace hO1b := Lib.hid hO1b; have hob := own_block hO1; have hsz2 := hb2.size)
        | (at_builtin; (refine wpList_append_own _ rfl _ _ 23 rfl W.heap.size 29 i1 _ 1 24 Try.underlying23 hi1 hy0 hy1 hy2 rfl (by decide) _ _ _ rfl (hO1.alloc _) ⟨W2.heap.size, 0, none⟩ 1 1 [.slice A2 x.length c2] rfl rfl (cell_one_new _ _ _) (fun x hx => by simp at hx; subst hx; rfl) (by unfold maxLen; omega) (by omega) (by simp; omega) ?_); intro v6 W6 hown6 hg6 hnil; have hg56 : W2.grownBy W6 (Value.slice A9 f c9).ownBlock := (World.grownBy_alloc _ _ _).trans hg6; clear hg6 hnil; obtain ⟨A6b, c6b, rfl⟩ := own_form hown6) | fail)
      have hOF6 : OwnD W6 W.heap.size c6b A6b (fs.take f ++ [x]) := OwnV.add (x := x) hO2 hO1b.out hown hsz0 hap.out hlt.out (by rw [hl9.out]; exact hg56) (by rw [hl9.out]; exact hown6)
      have hb6 := bel_own (bel_trans hbel hb2) hg56 (fun k hk => (hob k hk).1)
      go_roundw
      case rel => exact ⟨f + 1, A6b, c6b, by go_num, by omega, rfl, by rw [htk.out]; exact hOF6, hb6⟩
      case measure => simp [intOf]; omega
    · obtain rfl : f = fs.length := by omega
      simp only [List.take_length] at hOF
      go_wp2
      go_ret
      exact ⟨A9, c9, rfl, hOF, hbel⟩
end Go.Proofs.Ytiaikceoodeboaa
namespace Go.Proofs.Ytiaikceoodeboaa
open Go.RowKit
set_option linter.unusedVariables false
set_option linter.unusedSimpArgs false
def PGd (b : Nat) (fs : List (List Int)) : World → Value → Prop := fun w v => ∃ B d, v = .slice B fs.length d ∧ OwnD w b d B fs
theorem PGd.stays (b : Nat) (fs : List (List Int)) : Stays (PGd b fs) := fun w w' v hB ⟨B, d, e, h⟩ => ⟨B, d, e, h.lay hB⟩
def PQd (b : Nat) (vs : List P3) (fs : List (List Int)) (B3 : Option Addr) (n3 d3 : Nat) : World → Value → Prop := fun w v => ∃ R1 e1 R2 e2, v = .agg #[.slice R1 vs.length e1, .slice R2 fs.length e2, .slice B3 n3 d3] ∧ w.ownsRow b 42 3 (.slice R1 vs.length e1) vs.length (kC vs) ∧ OwnD w b e2 R2 fs
theorem PQd.stays (b : Nat) (vs : List P3) (fs : List (List Int)) (B3 : Option Addr) (n3 d3 : Nat) : Stays (PQd b vs fs B3 n3 d3) := fun w w' v hB ⟨B, d, C, f, e, h, k⟩ => ⟨B, d, C, f, e, own_lay h hB, k.lay hB⟩
set_option maxHeartbeats 4000000 in
theorem copyD_any (W : World) (A1 A2 A3 : Option Addr) (k1 k2 k3 : Nat) (vs : List P3) (fs : List (List Int)) (ks : List P3) (v1 : VL W A1 vs) (v2 : FL W A2 fs) (v3 : VL W A3 ks) (s1 : SL A1 vs.length k1) (s3 : SL A3 ks.length k3) (l1 : vs.length ≤ 1000) (l2 : fs.length ≤ 1000) (l3 : ks.length ≤ 1000) (hx : ∀ x ∈ fs, x.length < 1099511627776) :
    Calls Try.prog 18 #[.agg #[.slice A1 vs.length k1, .slice A2 fs.length k2, .slice A3 ks.length k3]] W fun e W' => ∃ (B1 B2 B3 : Option Addr) (d1 d2 d3 : Nat), e = .returned (.agg #[.slice B1 vs.length d1, .slice B2 fs.length d2, .slice B3 ks.length d3]) ∧ Below W.heap.size W W' ∧ W'.ownsRow W.heap.size 42 3 (.slice B1 vs.length d1) vs.length (kC vs) ∧ OwnD W' W.heap.size d2 B2 fs ∧ W'.ownsRow W.heap.size 51 3 (.slice B3 ks.length d3) ks.length (kC ks) := by
  obtain ⟨W0, hW0⟩ : ∃ W0, W0 = (W.alloc (.cells #[.slice A1 vs.length k1, .slice A2 fs.length k2, .slice A3 ks.length k3] 26)).alloc (.cells #[.slice none 0 0, .slice none 0 0, .slice none 0 0] 26) := ⟨_, rfl⟩
  have hB0 : Below W.heap.size W W0 := by rw [hW0]; exact bel_alloc (bel_alloc (Below.refl _ _) _) _
  have hC0 : Blk W0 W.heap.size 26 #[.slice A1 vs.length k1, .slice A2 fs.length k2, .slice A3 ks.length k3] := by rw [hW0]; exact (Blk.new _ _ _ _ rfl).alloc _
  have hR0 : Blk W0 (W.heap.size + 1) 26 #[.slice none 0 0, .slice none 0 0, .slice none 0 0] := by rw [hW0]; exact Blk.new _ _ _ _ (by simp)
  have hsz : W.heap.size + 1 < W0.heap.size := hR0.lt
  obtain ⟨i0, hi0, hz0, hz1, hz2⟩ := info_parts infoCr9
  have hlit : (W0.alloc (.cells #[] 51)).ownsRow W0.heap.size 51 3 (.slice (some ⟨W0.heap.size, 0, none⟩) 0 0) 0 [] := World.ownsRow_made _ _ _ (Nat.le_refl _) (by unfold maxLen; omega) rfl
  have hB1 : Below W0.heap.size W0 (W0.alloc (.cells #[] 51)) := bel_alloc (Below.refl _ _) _
  have v3b := v3.below (bel_trans hB0 hB1)
  have hC1 := hC0.below hB1
  obtain ⟨t1, t2, t3⟩ := s3
  have rest : ∀ (w1 : World) (v : Value), w1.ownsRow W0.heap.size 51 3 v ks.length (kC ks) → Below W0.heap.size W0 w1 → ∃ (B3 : Option Addr) (d3 : Nat), v = .slice B3 ks.length d3 ∧ w1.ownsRow W0.heap.size 51 3 (.slice B3 ks.length d3) ks.length (kC ks) := fun w1 v ho hb => by
    obtain ⟨A, c, rfl⟩ := own_form ho
    exact ⟨A, c, rfl, ho⟩
  replace rest := Lib.hid rest
  have cV := fun (w1 : World) (hb : Below W0.heap.size W0 w1) => copyVL_any w1 A1 k1 vs (v1.below (bel_trans hB0 hb)) s1 (by omega)
  have cF := fun (w1 : World) (hb : Below W0.heap.size W0 w1) => copyF_D w1 A2 k2 fs (v2.below (bel_trans hB0 hb)) (by omega) hx
  replace cV := Lib.hid cV
  replace cF := Lib.hid cF
  have x0 : (W0.alloc (.cells #[] 51)).cell? ⟨W.heap.size, 2, none⟩ = some (.slice A3 ks.length k3) := hC1.cell 2
  have xl := hC1.lt
  have fin : ∀ (w1 : World) (v : Value), w1.ownsRow W0.heap.size 51 3 v ks.length (kC ks) → Below W0.heap.size W0 w1 → True := fun _ _ _ _ => trivial
  go_enter Try.func18, Try.ntmps18
  go_upto_region 1 with (fail)
  go_upto_region 2 with (fail)
  have hsz2 : W.heap.size + 1 + 1 = W0.heap.size := by rw [hW0]; simp
  simp only [← hW0, hsz2]
  replace hlit := Lib.hid hlit
  have hfix : ∀ (w1 : World) (v1 : Value), w1.ownsRow W0.heap.size 51 3 v1 (0 + ks.length) ([] ++ kC ks) → w1.ownsRow W0.heap.size 51 3 v1 ks.length (kC ks) := fun w1 v1 h => by
    rw [Nat.zero_add, List.nil_append] at h; exact h
  have hbn : ∀ (w1 : World), (W0.alloc (.cells #[] 51)).grownBy w1 (some W0.heap.size) → Below W0.heap.size W0 w1 := fun w1 h2 => (bel_alloc (Below.refl _ _) _).grown h2 (by simp) (fun k hk => by simp at hk; omega)
  clear hW0 hsz2 fin
  cases A3 with
  | none =>
    obtain rfl : k3 = 0 := t3 rfl
    have hk0 : ks.length = 0 := by omega
    have ek : kC ks = [] := by rw [List.eq_nil_of_length_eq_zero hk0]; rfl
    rw [hk0] at x0
    go_upto_region 3 with (fail)
    generalize W0.alloc (.cells #[] 51) = w1 at *
    have hbw := hB1
    have hC2 := hC0.below hbw
    have hR2 := hR0.below hbw
    have cV1 := cV.out w1 hbw
    have hK := hlit.out
    clear rest hC0 hR0 hC1 x0 xl hlit
    have x0 : w1.cell? ⟨W.heap.size, 0, none⟩ = some (.slice A1 vs.length k1) := hC2.cell 0
    have x1 : w1.cell? ⟨W.heap.size, 1, none⟩ = some (.slice A2 fs.length k2) := hC2.cell 1
    have xl := hC2.lt
    clear cV1
    refine wp_region_monoT 8 (RL [PE (.pointer (some ⟨W.heap.size, 0, none⟩)), PE (.slice A1 vs.length k1), PO W0.heap.size vs, PE (.pointer (some ⟨W.heap.size, 1, none⟩)), PE (.slice A2 fs.length k2), PGd W0.heap.size fs, PE (.slice (some ⟨W0.heap.size, 0, none⟩) 0 0), PQd W0.heap.size vs fs (some ⟨W0.heap.size, 0, none⟩) 0 0]) (by kernel_rfl) _ rfl (by kernel_rfl) (by kernel_rfl) (by kernel_rfl) (by kernel_rfl) (by kernel_rfl) (RL.stays ?_) ?_ ?_
    · intro p hp
      simp only [List.mem_cons, List.not_mem_nil, or_false] at hp
      rcases hp with rfl | rfl | rfl | rfl | rfl | rfl | rfl | rfl <;> first | exact PE.stays _ | exact PV.stays _ _ _ | exact PO.stays _ _ | exact PGd.stays _ _ | exact PQd.stays _ _ _ _ _ _
    · simp only [List.take_succ_cons, List.take_zero]
      refine ⟨?_, ?_, ?_, ?_, ?_, ?_, ?_, ?_, ?_⟩
      · refine mono_val rfl (fun a w hB hk hp => ?_)
        have es1 := (hk 1 (keep_of (by kernel_rfl))).trans (show _ = some (.pointer (some ⟨W.heap.size, 0, none⟩)) from rfl)
        exact ⟨.pointer (some ⟨W.heap.size, 0, none⟩), w, by simp [execOp, go_sem, es1], Below.refl _ _, fun _ _ => rfl⟩
      · refine mono_val rfl (fun a w hB hk hp => ?_)
        obtain ⟨x0, ex0, rx0⟩ := hp ⟨0, .data⟩ (by simp) rfl _ _ rfl rfl
        obtain rfl : x0 = _ := rx0
        have fc0 := (hB.cell (p := ⟨W.heap.size, 0, none⟩) xl).trans x0
        exact ⟨.slice A1 vs.length k1, w, by simp [execOp, go_sem, ex0, fc0], Below.refl _ _, fun _ _ => rfl⟩
      · refine mono_call rfl (fun a w hB hk hp => ?_)
        obtain ⟨x1, ex1, rx1⟩ := hp ⟨1, .data⟩ (by simp) rfl _ _ rfl rfl
        obtain rfl : x1 = _ := rx1
        exact ⟨45, #[.slice A1 vs.length k1], by simp [execOp, go_sem, ex1], (cV.out w (bel_trans hbw hB)).mono fun e w' ⟨B, d, h1, h2, h3⟩ => ⟨_, h1, h3, fun _ _ => ⟨B, d, rfl, own_base h2 (bel_trans hbw hB).size⟩⟩⟩
      · refine mono_val rfl (fun a w hB hk hp => ?_)
        have es1 := (hk 1 (keep_of (by kernel_rfl))).trans (show _ = some (.pointer (some ⟨W.heap.size, 0, none⟩)) from rfl)
        exact ⟨.pointer (some ⟨W.heap.size, 1, none⟩), w, by simp [execOp, go_sem, es1], Below.refl _ _, fun _ _ => rfl⟩
      · refine mono_val rfl (fun a w hB hk hp => ?_)
        obtain ⟨x3, ex3, rx3⟩ := hp ⟨3, .data⟩ (by simp) rfl _ _ rfl rfl
        obtain rfl : x3 = _ := rx3
        have fc0 := (hB.cell (p := ⟨W.heap.size, 1, none⟩) xl).trans x1
        exact ⟨.slice A2 fs.length k2, w, by simp [execOp, go_sem, ex3, fc0], Below.refl _ _, fun _ _ => rfl⟩
      · refine mono_call rfl (fun a w hB hk hp => ?_)
        obtain ⟨x4, ex4, rx4⟩ := hp ⟨4, .data⟩ (by simp) rfl _ _ rfl rfl
        obtain rfl : x4 = _ := rx4
        exact ⟨46, #[.slice A2 fs.length k2], by simp [execOp, go_sem, ex4], (cF.out w (bel_trans hbw hB)).mono fun e w' ⟨B, d, h1, h2, h3⟩ => ⟨_, h1, h3, fun _ _ => ⟨B, d, rfl, h2.base (bel_trans hbw hB).size⟩⟩⟩
      · refine mono_val rfl (fun a w hB hk hp => ?_)
        have es3 := (hk 3 (keep_of (by kernel_rfl))).trans (show _ = some (.slice (some ⟨W0.heap.size, 0, none⟩) 0 0) from rfl)
        exact ⟨.slice (some ⟨W0.heap.size, 0, none⟩) 0 0, w, by simp [execOp, go_sem, es3], Below.refl _ _, fun _ _ => rfl⟩
      · refine mono_val rfl (fun a w hB hk hp => ?_)
        obtain ⟨x2, ex2, rx2⟩ := hp ⟨2, .data⟩ (by simp) rfl _ _ rfl rfl
        obtain ⟨R1, e1, rfl, hr1⟩ : PO W0.heap.size vs w x2 := rx2
        obtain ⟨x5, ex5, rx5⟩ := hp ⟨5, .data⟩ (by simp) rfl _ _ rfl rfl
        obtain ⟨R2, e2, rfl, hr2⟩ : PGd W0.heap.size fs w x5 := rx5
        obtain ⟨x6, ex6, rx6⟩ := hp ⟨6, .data⟩ (by simp) rfl _ _ rfl rfl
        obtain rfl : x6 = _ := rx6
        exact ⟨.agg #[.slice R1 vs.length e1, .slice R2 fs.length e2, .slice (some ⟨W0.heap.size, 0, none⟩) 0 0], w, by simp [execOp, go_sem, ex2, ex5, ex6], Below.refl _ _, fun _ _ => ⟨R1, e1, R2, e2, rfl, hr1, hr2⟩⟩
      · trivial
    · intro a w5 hB hsz hdf hk hgot
      obtain ⟨v7, ev7, rv7⟩ := hgot 7 _ 16 rfl rfl
      obtain ⟨R1, e1, R2, e2, rfl, hr1, hr2⟩ : PQd W0.heap.size vs fs (some ⟨W0.heap.size, 0, none⟩) 0 0 w5 v7 := rv7
      obtain ⟨f, hf, rfl⟩ := frame_eq hsz hdf hk [9, 10, 11, 12, 13, 14, 15, 16] (by rfl)
      have f16 := hf 16 _ ev7
      clear hsz hdf hk hgot hf ev7
      simp only [List.drop_succ_cons, List.drop_zero, setAll, List.setIfInBounds_toArray, List.set_cons_succ, List.set_cons_zero, f16]
      clear f16
      generalize f 9 = uu9; generalize f 10 = uu10; generalize f 11 = uu11; generalize f 12 = uu12; generalize f 13 = uu13; generalize f 14 = uu14; generalize f 15 = uu15
      have hB5 := bel_trans hB0 (bel_trans hbw hB)
      have hR5 := hR2.below hB
      have hK5 := own_lay hK hB
      clear x0 x1 xl hC2 hR2 hB hK
      have f0 := hR5.frozen 0
      have f1 := hR5.frozen 1
      have f2 := hR5.frozen 2
      have r0 : w5.cell? ⟨W.heap.size + 1, 0, none⟩ = some (.slice none 0 0) := hR5.cell 0
      have r1 : w5.cell? ⟨W.heap.size + 1, 1, none⟩ = some (.slice none 0 0) := hR5.cell 1
      have r2 : w5.cell? ⟨W.heap.size + 1, 2, none⟩ = some (.slice none 0 0) := hR5.cell 2
      have rl := hR5.lt
      have hE := ((hR5.set 0 (.slice R1 vs.length e1)).set 1 (.slice R2 fs.length e2)).set 2 (.slice (some ⟨W0.heap.size, 0, none⟩) 0 0)
      have hbE := bel_set (bel_set (bel_set hB5 (p := ⟨W.heap.size + 1, 0, none⟩) (by simp) (.slice R1 vs.length e1)) (p := ⟨W.heap.size + 1, 1, none⟩) (by simp) (.slice R2 fs.length e2)) (p := ⟨W.heap.size + 1, 2, none⟩) (by simp) (.slice (some ⟨W0.heap.size, 0, none⟩) 0 0)
      have hgE := ((set_grown w5 (W.heap.size + 1) 0 (.slice R1 vs.length e1)).trans (set_grown _ (W.heap.size + 1) 1 (.slice R2 fs.length e2))).trans (set_grown _ (W.heap.size + 1) 2 (.slice (some ⟨W0.heap.size, 0, none⟩) 0 0))
      have o1 := own_kept hr1 hgE (fun k hk e => by have := (own_block hr1 k hk).1; simp only [Option.some.injEq] at e; omega)
      have o3 := own_kept hK5 hgE (fun k hk e => by have := (own_block hK5 k hk).1; simp only [Option.some.injEq] at e; omega)
      have o2 := hr2.kept hgE (fun k e => by simp only [Option.some.injEq] at e; exact .inl (by omega))
      clear hgE hr1 hr2 hB5 hR5 hK5
      go_wp2
      generalize ((w5.setCell ⟨W.heap.size + 1, 0, none⟩ (.slice R1 vs.length e1)).setCell ⟨W.heap.size + 1, 1, none⟩ (.slice R2 fs.length e2)).setCell ⟨W.heap.size + 1, 2, none⟩ (.slice (some ⟨W0.heap.size, 0, none⟩) 0 0) = WE at *
      have y0 : WE.cell? ⟨W.heap.size + 1, 0, none⟩ = some (.slice R1 vs.length e1) := hE.cell 0
      have y1 : WE.cell? ⟨W.heap.size + 1, 1, none⟩ = some (.slice R2 fs.length e2) := hE.cell 1
      have y2 : WE.cell? ⟨W.heap.size + 1, 2, none⟩ = some (.slice (some ⟨W0.heap.size, 0, none⟩) 0 0) := hE.cell 2
      refine bodyPost_ret (v := .agg #[.slice R1 vs.length e1, .slice R2 fs.length e2, .slice (some ⟨W0.heap.size, 0, none⟩) 0 0]) (by simp [results, Try.results18, go_sem, y0, y1, y2]) rfl ?_
      refine ⟨R1, R2, some ⟨W0.heap.size, 0, none⟩, e1, e2, 0, by first | rfl | rw [hk0], hbE, own_base o1 (by omega), o2.base (by omega), ?_⟩
      first | exact own_base o3 (by omega) | (rw [ek]; exact own_base o3 (by omega)) | (rw [hk0, ek]; exact own_base o3 (by omega))
  | some ad =>
    have hnews : ∀ j u, (kC ks)[j]? = some u → (W0.alloc (.cells #[] 51)).cell? (ad.add j) = some u := by
      rcases Nat.eq_zero_or_pos ks.length with hz | hz
      · obtain rfl := List.eq_nil_of_length_eq_zero hz
        intro j u h; simp [kC] at h
      · have hf := v3b.vf
        obtain ⟨b, off, e, hl, _⟩ := v3b hz
        cases e
        have := hf.news
        rw [newsV_kC] at this
        exact this
    replace hnews := Lib.hid hnews
    go_upto_region 3 with (at_builtin; refine wpList_append_own_at _ rfl (.tmp 5) (.tmp 7) _ rfl W0.heap.size 51 i0 _ 3 24 Try.underlying24 hi0 hz0 hz1 hz2 rfl (by omega) (.slice (some ⟨W0.heap.size, 0, none⟩) 0 0) 0 [] rfl hlit.out ad ks.length k3 (kC ks) rfl (kC_len ks) hnews.out (kC_one ks) (by unfold maxLen; omega) (by omega) (by simp) ?_; intro v1 w1 hown1 hg1 hnil1 hat1)
    have hbw : Below W0.heap.size W0 w1 := hbn w1 hg1
    obtain ⟨B3, d3, rfl, hK⟩ := rest.out w1 v1 (hfix w1 v1 hown1) hbw
    have hC2 := hC0.below hbw
    have hR2 := hR0.below hbw
    have cV1 := cV.out w1 hbw
    clear rest hC0 hR0 hC1 x0 xl
    have x0 : w1.cell? ⟨W.heap.size, 0, none⟩ = some (.slice A1 vs.length k1) := hC2.cell 0
    have x1 : w1.cell? ⟨W.heap.size, 1, none⟩ = some (.slice A2 fs.length k2) := hC2.cell 1
    have xl := hC2.lt
    clear cV1
    refine wp_region_monoT 8 (RL [PE (.pointer (some ⟨W.heap.size, 0, none⟩)), PE (.slice A1 vs.length k1), PO W0.heap.size vs, PE (.pointer (some ⟨W.heap.size, 1, none⟩)), PE (.slice A2 fs.length k2), PGd W0.heap.size fs, PE (.slice B3 ks.length d3), PQd W0.heap.size vs fs B3 ks.length d3]) (by kernel_rfl) _ rfl (by kernel_rfl) (by kernel_rfl) (by kernel_rfl) (by kernel_rfl) (by kernel_rfl) (RL.stays ?_) ?_ ?_
    · intro p hp
      simp only [List.mem_cons, List.not_mem_nil, or_false] at hp
      rcases hp with rfl | rfl | rfl | rfl | rfl | rfl | rfl | rfl <;> first | exact PE.stays _ | exact PV.stays _ _ _ | exact PO.stays _ _ | exact PGd.stays _ _ | exact PQd.stays _ _ _ _ _ _
    · simp only [List.take_succ_cons, List.take_zero]
      refine ⟨?_, ?_, ?_, ?_, ?_, ?_, ?_, ?_, ?_⟩
      · refine mono_val rfl (fun a w hB hk hp => ?_)
        have es1 := (hk 1 (keep_of (by kernel_rfl))).trans (show _ = some (.pointer (some ⟨W.heap.size, 0, none⟩)) from rfl)
        exact ⟨.pointer (some ⟨W.heap.size, 0, none⟩), w, by simp [execOp, go_sem, es1], Below.refl _ _, fun _ _ => rfl⟩
      · refine mono_val rfl (fun a w hB hk hp => ?_)
        obtain ⟨x0, ex0, rx0⟩ := hp ⟨0, .data⟩ (by simp) rfl _ _ rfl rfl
        obtain rfl : x0 = _ := rx0
        have fc0 := (hB.cell (p := ⟨W.heap.size, 0, none⟩) xl).trans x0
        exact ⟨.slice A1 vs.length k1, w, by simp [execOp, go_sem, ex0, fc0], Below.refl _ _, fun _ _ => rfl⟩
      · refine mono_call rfl (fun a w hB hk hp => ?_)
        obtain ⟨x1, ex1, rx1⟩ := hp ⟨1, .data⟩ (by simp) rfl _ _ rfl rfl
        obtain rfl : x1 = _ := rx1
        exact ⟨45, #[.slice A1 vs.length k1], by simp [execOp, go_sem, ex1], (cV.out w (bel_trans hbw hB)).mono fun e w' ⟨B, d, h1, h2, h3⟩ => ⟨_, h1, h3, fun _ _ => ⟨B, d, rfl, own_base h2 (bel_trans hbw hB).size⟩⟩⟩
      · refine mono_val rfl (fun a w hB hk hp => ?_)
        have es1 := (hk 1 (keep_of (by kernel_rfl))).trans (show _ = some (.pointer (some ⟨W.heap.size, 0, none⟩)) from rfl)
        exact ⟨.pointer (some ⟨W.heap.size, 1, none⟩), w, by simp [execOp, go_sem, es1], Below.refl _ _, fun _ _ => rfl⟩
      · refine mono_val rfl (fun a w hB hk hp => ?_)
        obtain ⟨x3, ex3, rx3⟩ := hp ⟨3, .data⟩ (by simp) rfl _ _ rfl rfl
        obtain rfl : x3 = _ := rx3
        have fc0 := (hB.cell (p := ⟨W.heap.size, 1, none⟩) xl).trans x1
        exact ⟨.slice A2 fs.length k2, w, by simp [execOp, go_sem, ex3, fc0], Below.refl _ _, fun _ _ => rfl⟩
      · refine mono_call rfl (fun a w hB hk hp => ?_)
        obtain ⟨x4, ex4, rx4⟩ := hp ⟨4, .data⟩ (by simp) rfl _ _ rfl rfl
        obtain rfl : x4 = _ := rx4
        exact ⟨46, #[.slice A2 fs.length k2], by simp [execOp, go_sem, ex4], (cF.out w (bel_trans hbw hB)).mono fun e w' ⟨B, d, h1, h2, h3⟩ => ⟨_, h1, h3, fun _ _ => ⟨B, d, rfl, h2.base (bel_trans hbw hB).size⟩⟩⟩
      · refine mono_val rfl (fun a w hB hk hp => ?_)
        have es3 := (hk 3 (keep_of (by kernel_rfl))).trans (show _ = some (.slice B3 ks.length d3) from rfl)
        exact ⟨.slice B3 ks.length d3, w, by simp [execOp, go_sem, es3], Below.refl _ _, fun _ _ => rfl⟩
      · refine mono_val rfl (fun a w hB hk hp => ?_)
        obtain ⟨x2, ex2, rx2⟩ := hp ⟨2, .data⟩ (by simp) rfl _ _ rfl rfl
        obtain ⟨R1, e1, rfl, hr1⟩ : PO W0.heap.size vs w x2 := rx2
        obtain ⟨x5, ex5, rx5⟩ := hp ⟨5, .data⟩ (by simp) rfl _ _ rfl rfl
        obtain ⟨R2, e2, rfl, hr2⟩ : PGd W0.heap.size fs w x5 := rx5
        obtain ⟨x6, ex6, rx6⟩ := hp ⟨6, .data⟩ (by simp) rfl _ _ rfl rfl
        obtain rfl : x6 = _ := rx6
        exact ⟨.agg #[.slice R1 vs.length e1, .slice R2 fs.length e2, .slice B3 ks.length d3], w, by simp [execOp, go_sem, ex2, ex5, ex6], Below.refl _ _, fun _ _ => ⟨R1, e1, R2, e2, rfl, hr1, hr2⟩⟩
      · trivial
    · intro a w5 hB hsz hdf hk hgot
      obtain ⟨v7, ev7, rv7⟩ := hgot 7 _ 16 rfl rfl
      obtain ⟨R1, e1, R2, e2, rfl, hr1, hr2⟩ : PQd W0.heap.size vs fs B3 ks.length d3 w5 v7 := rv7
      obtain ⟨f, hf, rfl⟩ := frame_eq hsz hdf hk [9, 10, 11, 12, 13, 14, 15, 16] (by rfl)
      have f16 := hf 16 _ ev7
      clear hsz hdf hk hgot hf ev7
      simp only [List.drop_succ_cons, List.drop_zero, setAll, List.setIfInBounds_toArray, List.set_cons_succ, List.set_cons_zero, f16]
      clear f16
      generalize f 9 = uu9; generalize f 10 = uu10; generalize f 11 = uu11; generalize f 12 = uu12; generalize f 13 = uu13; generalize f 14 = uu14; generalize f 15 = uu15
      have hB5 := bel_trans hB0 (bel_trans hbw hB)
      have hR5 := hR2.below hB
      have hK5 := own_lay hK hB
      clear x0 x1 xl hC2 hR2 hB hK
      have f0 := hR5.frozen 0
      have f1 := hR5.frozen 1
      have f2 := hR5.frozen 2
      have r0 : w5.cell? ⟨W.heap.size + 1, 0, none⟩ = some (.slice none 0 0) := hR5.cell 0
      have r1 : w5.cell? ⟨W.heap.size + 1, 1, none⟩ = some (.slice none 0 0) := hR5.cell 1
      have r2 : w5.cell? ⟨W.heap.size + 1, 2, none⟩ = some (.slice none 0 0) := hR5.cell 2
      have rl := hR5.lt
      have hE := ((hR5.set 0 (.slice R1 vs.length e1)).set 1 (.slice R2 fs.length e2)).set 2 (.slice B3 ks.length d3)
      have hbE := bel_set (bel_set (bel_set hB5 (p := ⟨W.heap.size + 1, 0, none⟩) (by simp) (.slice R1 vs.length e1)) (p := ⟨W.heap.size + 1, 1, none⟩) (by simp) (.slice R2 fs.length e2)) (p := ⟨W.heap.size + 1, 2, none⟩) (by simp) (.slice B3 ks.length d3)
      have hgE := ((set_grown w5 (W.heap.size + 1) 0 (.slice R1 vs.length e1)).trans (set_grown _ (W.heap.size + 1) 1 (.slice R2 fs.length e2))).trans (set_grown _ (W.heap.size + 1) 2 (.slice B3 ks.length d3))
      have o1 := own_kept hr1 hgE (fun k hk e => by have := (own_block hr1 k hk).1; simp only [Option.some.injEq] at e; omega)
      have o3 := own_kept hK5 hgE (fun k hk e => by have := (own_block hK5 k hk).1; simp only [Option.some.injEq] at e; omega)
      have o2 := hr2.kept hgE (fun k e => by simp only [Option.some.injEq] at e; exact .inl (by omega))
      clear hgE hr1 hr2 hK5 hB5 hR5
      go_wp2
      generalize ((w5.setCell ⟨W.heap.size + 1, 0, none⟩ (.slice R1 vs.length e1)).setCell ⟨W.heap.size + 1, 1, none⟩ (.slice R2 fs.length e2)).setCell ⟨W.heap.size + 1, 2, none⟩ (.slice B3 ks.length d3) = WE at *
      have y0 : WE.cell? ⟨W.heap.size + 1, 0, none⟩ = some (.slice R1 vs.length e1) := hE.cell 0
      have y1 : WE.cell? ⟨W.heap.size + 1, 1, none⟩ = some (.slice R2 fs.length e2) := hE.cell 1
      have y2 : WE.cell? ⟨W.heap.size + 1, 2, none⟩ = some (.slice B3 ks.length d3) := hE.cell 2
      refine bodyPost_ret (v := .agg #[.slice R1 vs.length e1, .slice R2 fs.length e2, .slice B3 ks.length d3]) (by simp [results, Try.results18, go_sem, y0, y1, y2]) rfl ?_
      exact ⟨R1, R2, B3, e1, e2, d3, rfl, hbE, own_base o1 (by omega), o2.base (by omega), own_base o3 (by omega)⟩
end Go.Proofs.Ytiaikceoodeboaa
namespace Go.Proofs.Ytiaikceoodeboaa
open Go.RowKit
set_option linter.unusedVariables false
set_option linter.unusedSimpArgs false
set_option linter.unusedSectionVars false
set_option linter.unnecessarySimpa false
theorem foldW (l : List Int) : ∀ s : Int, l.foldl (fun s y => wrap64 (s + y)) (wrap64 s) = wrap64 (s + l.sum) := by
  induction l with
  | nil => intro s; simp
  | cons a r ih =>
    intro s
    rw [List.foldl_cons, show wrap64 (wrap64 s + a) = wrap64 (s + a) by unfold wrap64; omega, ih, List.sum_cons, Int.add_assoc]
theorem sumS_sum (l : List Int) : sumS l = wrap64 l.sum := by
  have := foldW l 0
  rw [show wrap64 0 = 0 by unfold wrap64; omega, Int.zero_add] at this
  exact this
theorem psum {l m : List Int} (h : l.Perm m) : l.sum = m.sum := by
  induction h with
  | nil => rfl
  | cons x _ ih => simp [ih]
  | swap x y l => simp; omega
  | trans _ _ a b => exact a.trans b
theorem sumS_perm {l m : List Int} (h : l.Perm m) : sumS l = sumS m := by rw [sumS_sum, sumS_sum, psum h]
def sw (e : Ed) : Ed := ⟨e.a, e.b, e.g, e.f⟩
theorem mid_back (vs : List P3) (x : List Int) : midP vs x.reverse = midP vs x := by
  unfold midP tri3 midS
  have h : ∀ q : Int → Int, sumS (x.reverse.map q) = sumS (x.map q) := fun q => sumS_perm ((List.reverse_perm x).map q)
  simp only [h, List.length_reverse]
theorem back_len (fs : List (List Int)) : (back fs).length = fs.length := by simp [back]
theorem mids_back (vs : List P3) (fs : List (List Int)) : midsL vs (back fs) = midsL vs fs := by
  unfold midsL
  rw [back_len]
  refine List.map_congr_left fun f hf => ?_
  have h2 : f < fs.length := by simpa using hf
  have e : (back fs).getD f [] = (fs.getD f []).reverse := by
    rw [List.getD_eq_getElem?_getD, List.getD_eq_getElem?_getD, List.getElem?_eq_getElem (by rw [back_len]; exact h2), List.getElem?_eq_getElem h2]
    simp [back]
  rw [e, mid_back]
theorem half_sw (vs ms : List P3) (e : Ed) (s : Int) : halfP vs ms (sw e) s = halfP vs ms e s := by
  unfold halfP tri3 halfS sw
  have h : ∀ a b c d : Int, sumS [a, b, d, c] = sumS [a, b, c, d] := fun a b c d => sumS_perm (((List.Perm.swap c d []).cons b).cons a)
  simp only [h]
theorem halves_sw (vs ms : List P3) (es : List Ed) (sh : List Int) : halvesL vs ms (es.map sw) sh = halvesL vs ms es sh := by
  unfold halvesL
  rw [List.length_map]
  refine List.map_congr_left fun i hi => ?_
  have h2 : i < es.length := by simpa using hi
  have e : (es.map sw).getD i ed0 = sw (es.getD i ed0) := by
    rw [List.getD_eq_getElem?_getD, List.getD_eq_getElem?_getD, List.getElem?_eq_getElem (by simpa using h2), List.getElem?_eq_getElem h2]
    simp
  rw [e, half_sw]
theorem zip_sw (es : List Ed) (sh : List Int) : (es.map sw).zip sh = (es.zip sh).map fun q => (sw q.1, q.2) := by
  rw [List.zip_map_left]; rfl
theorem star_sw (vs ms : List P3) {f1 f2 : List Int} (hp : f1.Perm f2) (L : List (Ed × Int)) (v : Int) : starF vs ms f1 (L.map fun q => (sw q.1, q.2)) v = starF vs ms f2 L v := by
  have e : star0 ms f1 = star0 ms f2 := by
    unfold star0
    rw [fold_sum, fold_sum]
    have h : ∀ q : P3 → Int, sumS ((f1.map (vat ms)).map q) = sumS ((f2.map (vat ms)).map q) := fun q => sumS_perm ((hp.map _).map q)
    simp only [h]
  unfold starF
  rw [List.foldl_map, e]
  rfl
theorem rest_sw (N : Int) : ∀ (L : List (Ed × Int)) (k : Nat), restP N k (L.map fun q => (sw q.1, q.2)) = restP N k L
  | [], _ => rfl
  | p :: r, k => by
    have e : lessS (sw p.1) p.2 = lessS p.1 p.2 := by
      unfold lessS sw
      simp only [bne_comm]
    rw [List.map_cons]
    show (match lessS (sw p.1) p.2 with | some s => [⟨p.1.a, N + k, s⟩, ⟨p.1.b, N + k, s⟩] | none => []) ++ restP N (k + 1) (r.map fun q => (sw q.1, q.2)) = _
    rw [e, rest_sw N r (k + 1)]
    rfl
theorem eix_sw (es : List Ed) (a b : Int) : eix (es.map sw) a b = eix es a b := by
  unfold eix
  rw [List.findIdx_map]
  rfl
theorem sharpK_sw (es : List Ed) : ∀ (ks : List P3) (l : List Int), sharpK (es.map sw) l ks = sharpK es l ks
  | [], _ => rfl
  | k :: r, l => by
    unfold sharpK
    rw [eix_sw, List.length_map]
    split
    · exact sharpK_sw es r _
    · rfl
theorem sharp_sw (es : List Ed) (ks : List P3) : sharpP (es.map sw) ks = sharpP es ks := by
  unfold sharpP
  rw [sharpK_sw, List.map_map]
  congr 1
  refine List.map_congr_left fun e _ => ?_
  unfold base0 sw
  simp only [Function.comp_apply, bne_comm]
theorem froms_nodup {n : Int} {fs : List (List Int)} (ok : WalkOk n fs) (v : Int) : (froms (waysL 0 fs) v).Nodup := by
  rw [List.nodup_iff_pairwise_ne]
  exact (List.Pairwise.filter _ ok.apart).imp fun {x y} h e => h.2 ⟨congrArg Way.a e, congrArg Way.b e⟩
theorem fan_perm {n : Int} {fs : List (List Int)} {t u : TopoT} (h : TopoS n fs t) (k : TopoS n (back fs) u) (v : Nat) (h1 : v < t.fans.length) (h2 : v < u.fans.length) : (u.fans[v]).Perm (t.fans[v]) := by
  have e1 := h.nf
  have e2 := h.nr
  have e3 := k.nf
  have e4 := k.nr
  have one : ∀ {gs : List (List Int)} {s : TopoT} (hs : TopoS n gs s) (g1 : v < s.fans.length), (s.fans[v]).Perm ((froms (waysL 0 gs) v).map Way.f) := fun {gs s} hs g1 => by
    have := hs.nf
    have := hs.nr
    obtain ⟨L, hF, hl, hfe⟩ := hs.fan v g1 (by omega)
    rw [hfe]
    refine List.Perm.map _ ((List.perm_ext_iff_of_nodup (hF.toFanC.nodup hs.walk) (froms_nodup hs.walk v)).2 fun w => ⟨fun hw => mem_froms.2 (hF.mem w hw), fun hw => ?_⟩)
    obtain ⟨a, b⟩ := mem_froms.1 hw
    exact fan_all hs.walk hF hl w a b
  refine (one k h2).trans (List.Perm.trans ?_ (one h h1).symm)
  have hp : ((froms (waysL 0 (back fs)) v).map turnW).Perm (froms (waysL 0 fs) v) := by
    refine (List.perm_ext_iff_of_nodup ?_ (froms_nodup h.walk v)).2 fun w => ⟨fun hw => ?_, fun hw => ?_⟩
    · rw [List.nodup_iff_pairwise_ne, List.pairwise_map]
      refine (List.nodup_iff_pairwise_ne.1 (froms_nodup k.walk v)).imp fun {x y} hne e => hne ?_
      have := congrArg turnW e
      rwa [turnW_turnW, turnW_turnW] at this
    · obtain ⟨x, hx, rfl⟩ := List.mem_map.1 hw
      obtain ⟨a, b⟩ := mem_froms.1 hx
      exact mem_froms.2 ⟨turn_mem h.walk.long a, b⟩
    · obtain ⟨a, b⟩ := mem_froms.1 hw
      refine List.mem_map.2 ⟨turnW w, mem_froms.2 ⟨turn_mem' h.walk.long a, b⟩, turnW_turnW w⟩
  have := hp.map Way.f
  rw [List.map_map] at this
  exact this
theorem lev_turn {vs : List P3} {fs : List (List Int)} {ks : List P3} {t u : TopoT} (h : TopoS (vs.length : Int) fs t) (k : TopoS (vs.length : Int) (back fs) u) (sh : List Int) :
    (levC ⟨vs, back fs, ks⟩ u sh).vs = (levC ⟨vs, fs, ks⟩ t sh).vs ∧ (levC ⟨vs, back fs, ks⟩ u sh).ks = (levC ⟨vs, fs, ks⟩ t sh).ks ∧ (levC ⟨vs, back fs, ks⟩ u sh).fs.length = (levC ⟨vs, fs, ks⟩ t sh).fs.length := by
  obtain ⟨he, _⟩ := topo_back h k
  have he2 : u.es = t.es.map sw := he
  have e1 := h.nf
  have e3 := k.nf
  simp only [levC]
  rw [mids_back, he2, halves_sw, zip_sw, rest_sw, fine_len, fine_len, waysL_len, waysL_len]
  refine ⟨?_, rfl, ?_⟩
  · congr 2
    unfold movedL
    refine List.map_congr_left fun v hv => ?_
    have hv2 : v < vs.length := by simpa using hv
    have v1 : v < t.fans.length := by omega
    have v2 : v < u.fans.length := by omega
    have hp := fan_perm h k v v1 v2
    unfold placeA
    rw [show u.fans.getD v [] = u.fans[v] by rw [List.getD_eq_getElem?_getD, List.getElem?_eq_getElem v2]; rfl, show t.fans.getD v [] = t.fans[v] by rw [List.getD_eq_getElem?_getD, List.getElem?_eq_getElem v1]; rfl, star_sw vs _ hp, hp.length_eq]
  · unfold tot back
    rw [List.map_map]
    congr 1
    exact List.map_congr_left fun x _ => by simp
/-- Both Levels tell the same. -/
theorem turn_eq {vs : List P3} {fs : List (List Int)} {ks : List P3} {r r2 : Cg} {er er2 : Int} (h : LevR ⟨vs, fs, ks⟩ r er) (h2 : LevR ⟨vs, back fs, ks⟩ r2 er2) : er2 = er ∧ r2.vs = r.vs ∧ r2.ks = r.ks ∧ r2.fs.length = r.fs.length := by
  have hno : ∀ {t u : TopoT}, TopoS (vs.length : Int) fs t → TopoS (vs.length : Int) (back fs) u → sharpP u.es ks = sharpP t.es ks := fun hT hU => by
    obtain ⟨he, _⟩ := topo_back hT hU
    rw [show _ = _ from he]
    exact sharp_sw _ ks
  cases h with
  | noSurf hn =>
    cases h2 with
    | noSurf hn2 => exact ⟨rfl, rfl, rfl, rfl⟩
    | noEdge t2 hT2 he2 => exact absurd (surf_back_iff.2 hT2.surf) hn
    | large t2 hT2 sh2 he2 hf2 => exact absurd (surf_back_iff.2 hT2.surf) hn
    | fine t2 hT2 sh2 he2 hf2 => exact absurd (surf_back_iff.2 hT2.surf) hn
  | noEdge t hT he =>
    cases h2 with
    | noSurf hn2 => exact ⟨rfl, rfl, rfl, rfl⟩
    | noEdge t2 hT2 he2 => exact ⟨rfl, rfl, rfl, rfl⟩
    | large t2 hT2 sh2 he2 hf2 => have := hno hT hT2; simp only at he he2; rw [he, he2] at this; cases this
    | fine t2 hT2 sh2 he2 hf2 => have := hno hT hT2; simp only at he he2; rw [he, he2] at this; cases this
  | large t hT sh he hf =>
    cases h2 with
    | noSurf hn2 => exact absurd (surf_back_iff.1 hT.surf) hn2
    | noEdge t2 hT2 he2 => have := hno hT hT2; simp only at he he2; rw [he, he2] at this; cases this
    | large t2 hT2 sh2 he2 hf2 => exact ⟨rfl, rfl, rfl, rfl⟩
    | fine t2 hT2 sh2 he2 hf2 => exact absurd hf2 hf
  | fine t hT sh he hf =>
    cases h2 with
    | noSurf hn2 => exact absurd (surf_back_iff.1 hT.surf) hn2
    | noEdge t2 hT2 he2 => have := hno hT hT2; simp only at he he2; rw [he, he2] at this; cases this
    | large t2 hT2 sh2 he2 hf2 => exact absurd hf hf2
    | fine t2 hT2 sh2 he2 hf2 =>
      have := hno hT hT2
      simp only at he he2 hT hT2
      rw [he, he2] at this
      obtain rfl : sh2 = sh := by simpa using this
      obtain ⟨a, b, c⟩ := lev_turn (ks := ks) hT hT2 sh2
      exact ⟨rfl, a, b, c⟩
end Go.Proofs.Ytiaikceoodeboaa
namespace Go.Proofs.Ytiaikceoodeboaa
open Go.RowKit
set_option linter.unusedVariables false
set_option linter.unusedSimpArgs false
set_option linter.unusedSectionVars false
set_option linter.unnecessarySimpa false
/-- A row, turned as far as k. -/
def mixR (k : Nat) (x : List Int) : List Int := x.reverse.take k ++ x.drop k
theorem mixR_len (k : Nat) (x : List Int) : (mixR k x).length = x.length := by unfold mixR; simp; omega
theorem mixR_zero (x : List Int) : mixR 0 x = x := by simp [mixR]
theorem mixR_all (x : List Int) : mixR x.length x = x.reverse := by
  unfold mixR
  rw [List.drop_length, List.append_nil, List.take_of_length_le (by simp)]
theorem mixR_set (k : Nat) (x : List Int) (h : k < x.length) : (mixR k x).set k (x[x.length - 1 - k]'(by omega)) = mixR (k + 1) x := by
  apply List.ext_getElem?
  intro j
  have hl : (x.reverse.take k).length = k := by simp; omega
  have hl2 : (x.reverse.take (k + 1)).length = k + 1 := by simp; omega
  rw [List.getElem?_set, mixR_len]
  unfold mixR
  by_cases e : k = j
  · subst e
    rw [if_pos rfl, if_pos h, List.getElem?_append_left (by omega), List.getElem?_take_of_lt (by omega), List.getElem?_reverse (by omega), List.getElem?_eq_getElem (by omega)]
  · rw [if_neg e]
    by_cases e2 : j < k
    · rw [List.getElem?_append_left (by omega), List.getElem?_append_left (by omega), List.getElem?_take_of_lt e2, List.getElem?_take_of_lt (by omega)]
    · rw [List.getElem?_append_right (by omega), List.getElem?_append_right (by omega), List.getElem?_drop, List.getElem?_drop, hl, hl2]
      congr 1; omega
/-- Rows, turned as far as i, and row i as far as k. -/
def turnAt (i k : Nat) (fs : List (List Int)) : List (List Int) := (List.range fs.length).map fun j => if j < i then (fs.getD j []).reverse else if j = i then mixR k (fs.getD j []) else fs.getD j []
theorem turnAt_len (i k : Nat) (fs : List (List Int)) : (turnAt i k fs).length = fs.length := by simp [turnAt]
theorem rowD_at {fs : List (List Int)} {j : Nat} (h : j < fs.length) : fs.getD j [] = fs[j] := by rw [List.getD_eq_getElem?_getD, List.getElem?_eq_getElem h]; rfl
theorem turnAt_get (i k : Nat) (fs : List (List Int)) (j : Nat) (h : j < (turnAt i k fs).length) : (turnAt i k fs)[j] = if j < i then (fs.getD j []).reverse else if j = i then mixR k (fs.getD j []) else fs.getD j [] := by simp [turnAt]
theorem turnAt_zero (fs : List (List Int)) : turnAt 0 0 fs = fs := by
  refine List.ext_getElem (turnAt_len _ _ _) fun j h1 h2 => ?_
  rw [turnAt_get, if_neg (by omega), rowD_at h2]
  split
  · exact mixR_zero _
  · rfl
theorem turnAt_next (i : Nat) (fs : List (List Int)) (h : i < fs.length) : turnAt i (fs[i]).length fs = turnAt (i + 1) 0 fs := by
  refine List.ext_getElem (by rw [turnAt_len, turnAt_len]) fun j h1 h2 => ?_
  rw [turnAt_len] at h1
  rw [turnAt_get, turnAt_get]
  by_cases e : j < i
  · rw [if_pos e, if_pos (by omega)]
  · by_cases e2 : j = i
    · subst e2
      rw [if_neg (by omega), if_pos rfl, if_pos (by omega), rowD_at h, mixR_all]
    · rw [if_neg e, if_neg e2, if_neg (by omega)]
      split
      · rw [mixR_zero]
      · rfl
theorem turnAt_all (fs : List (List Int)) : turnAt fs.length 0 fs = back fs := by
  refine List.ext_getElem (by rw [turnAt_len, back_len]) fun j h1 h2 => ?_
  rw [turnAt_len] at h1
  rw [turnAt_get, if_pos h1, rowD_at h1]
  simp [back]
theorem turnAt_at (i k : Nat) (fs : List (List Int)) (h : i < fs.length) : (turnAt i k fs)[i]'(by rw [turnAt_len]; exact h) = mixR k fs[i] := by
  rw [turnAt_get, if_neg (by omega), if_pos rfl, rowD_at h]
theorem turnAt_set (i k : Nat) (fs : List (List Int)) (h : i < fs.length) (x : List Int) (hx : x = mixR (k + 1) fs[i]) : (turnAt i k fs).set i x = turnAt i (k + 1) fs := by
  refine List.ext_getElem (by rw [List.length_set, turnAt_len, turnAt_len]) fun j h1 h2 => ?_
  rw [turnAt_len] at h2
  rw [List.getElem_set]
  by_cases e : i = j
  · subst e
    rw [if_pos rfl, turnAt_get, if_neg (by omega), if_pos rfl, rowD_at h, hx]
  · rw [if_neg e, turnAt_get, turnAt_get]
    split
    · rfl
    · rw [if_neg (by omega), if_neg (by omega)]
theorem ints_set (l : List Int) (k : Nat) (y : Int) : (ints l).set k (.int .i64 y) = ints (l.set k y) := by
  unfold ints
  rw [List.map_set]
/-- A number of a row of one's own is written. -/
theorem OwnD.put {W : World} {base c : Nat} {A : Option Addr} {L : List (List Int)} {vals : List Value} (h : OwnV W base c A L vals) (hp : vals.Pairwise apartV) {i k g m : Nat} (hi : i < L.length) (hv : vals[i]? = some (.slice (some ⟨g, 0, none⟩) L[i].length m)) (hk : k < L[i].length) (y : Int) : OwnD (W.setCell ⟨g, k, none⟩ (.int .i64 y)) base c A (L.set i (L[i].set k y)) := by
  have hl := h.len
  obtain ⟨h1, h2⟩ := h
  have hg := set_grown W g k (.int .i64 y)
  obtain ⟨B, m2, h3, h4⟩ := h2 i hi
  rw [hv] at h3
  simp only [Option.some.injEq, Value.slice.injEq, true_and] at h3
  obtain ⟨rfl, rfl⟩ := h3
  refine ⟨vals, ⟨?_, fun j hj => ?_⟩, hp⟩
  · rw [List.length_set]
    exact own_kept h1 hg (fun b hb e => by simp only [Option.some.injEq] at e; subst e; exact own_type h1 h4 (by decide) _ hb rfl)
  · have hj2 : j < L.length := by simpa using hj
    by_cases e : i = j
    · subst e
      rw [List.getElem_set_self]
      refine ⟨some ⟨g, 0, none⟩, m, by rw [List.length_set]; exact hv, ?_⟩
      have o := own_put h4 (g := g) rfl (j := k) (by omega) (.int .i64 y)
      rw [ints_set] at o
      rw [List.length_set]; exact o
    · rw [List.getElem_set_ne e]
      obtain ⟨B2, m2, h5, h6⟩ := h2 j hj2
      refine ⟨B2, m2, h5, own_kept h6 hg (fun b hb e2 => ?_)⟩
      simp only [Option.some.injEq] at e2
      subst e2
      have hii : i < vals.length := by omega
      have hjj : j < vals.length := by omega
      have ei : vals[i] = .slice (some ⟨g, 0, none⟩) L[i].length m := by rw [List.getElem?_eq_getElem hii] at hv; exact Option.some.inj hv
      have ej : vals[j] = .slice B2 L[j].length m2 := by rw [List.getElem?_eq_getElem hjj] at h5; exact Option.some.inj h5
      rcases Nat.lt_or_ge i j with hij | hij
      · have := (List.pairwise_iff_getElem.1 hp) i j hii hjj hij
        rw [ei, ej] at this
        exact this g rfl hb
      · have := (List.pairwise_iff_getElem.1 hp) j i hjj hii (by omega)
        rw [ei, ej] at this
        exact this g hb rfl
/-- A cage and a copy of it whose faces are turned so far. -/
structure KT (P : Nat) (C : Array Value) (M : Nat) (B1 B2 B3 : Option Addr) (d1 d2 d3 : Nat) (vs : List P3) (fs : List (List Int)) (ks : List P3) (b1 : Nat) (i k : Nat) (wr : World) : Prop where
  c : Blk wr P 26 C
  m : Blk wr M 26 #[.slice B1 vs.length d1, .slice B2 fs.length d2, .slice B3 ks.length d3]
  r1 : wr.ownsRow b1 42 3 (.slice B1 vs.length d1) vs.length (kC vs)
  g1 : OwnD wr b1 d2 B2 (turnAt i k fs)
  k1 : wr.ownsRow b1 51 3 (.slice B3 ks.length d3) ks.length (kC ks)
  lt1 : P < b1
section
variable {P : Nat} {C : Array Value} {M : Nat} {B1 B2 B3 : Option Addr} {d1 d2 d3 : Nat} {vs : List P3} {fs : List (List Int)} {ks : List P3} {b1 i k : Nat} {wr wq : World}
theorem KT.lay (h : KT P C M B1 B2 B3 d1 d2 d3 vs fs ks b1 i k wr) (hb : Below wr.heap.size wr wq) : KT P C M B1 B2 B3 d1 d2 d3 vs fs ks b1 i k wq :=
  ⟨h.c.below hb, h.m.below hb, own_lay h.r1 hb, h.g1.lay hb, own_lay h.k1 hb, h.lt1⟩
theorem neIC : (3 : TypeId) ≠ 26 := by decide
theorem neIK : (3 : TypeId) ≠ 51 := by decide
/-- The next number of the face is written. -/
theorem KT.step (h : KT P C M B1 B2 B3 d1 d2 d3 vs fs ks b1 i k wr) {vals : List Value} (hV : OwnV wr b1 d2 B2 (turnAt i k fs) vals) (hp : vals.Pairwise apartV) {g m : Nat} (hi : i < fs.length) (hv : vals[i]? = some (.slice (some ⟨g, 0, none⟩) fs[i].length m)) (hk : k < fs[i].length) (y : Int) (hy : fs[i][fs[i].length - 1 - k]'(by omega) = y) : KT P C M B1 B2 B3 d1 d2 d3 vs fs ks b1 i (k + 1) (wr.setCell ⟨g, k, none⟩ (.int .i64 y)) := by
  subst hy
  have hi2 : i < (turnAt i k fs).length := by rw [turnAt_len]; exact hi
  have hat := turnAt_at i k fs hi
  have hlen : (turnAt i k fs)[i].length = fs[i].length := by rw [hat, mixR_len]
  have hg := set_grown wr g k (.int .i64 (fs[i][fs[i].length - 1 - k]'(by omega)))
  obtain ⟨B, m2, h3, h4⟩ := hV.h2 i hi2
  rw [hv, hlen] at h3
  simp only [Option.some.injEq, Value.slice.injEq, true_and] at h3
  obtain ⟨rfl, rfl⟩ := h3
  obtain ⟨hb, cur, hB⟩ := own_blk h4 (g := g) rfl
  have nm := Blk.ne_ hB h.m neIC
  have l1 := h.lt1
  refine ⟨h.c.kept hg (by simp only [ne_eq, Option.some.injEq]; omega), h.m.kept hg (by simp only [ne_eq, Option.some.injEq]; omega), own_kept h.r1 hg (fun b hb e => by simp only [Option.some.injEq] at e; subst e; exact own_type h.r1 h4 neVI _ hb rfl), ?_, own_kept h.k1 hg (fun b hb e => by simp only [Option.some.injEq] at e; subst e; exact own_type h.k1 h4 (Ne.symm neIK) _ hb rfl), h.lt1⟩
  have o := OwnD.put hV hp hi2 (k := k) (g := g) (m := m) (by rw [hlen]; exact hv) (by omega) (fs[i][fs[i].length - 1 - k]'(by omega))
  rw [turnAt_set i k fs hi _ (by rw [hat]; exact mixR_set k _ hk)] at o
  exact o
theorem KT.next (h : KT P C M B1 B2 B3 d1 d2 d3 vs fs ks b1 i k wr) (hi : i < fs.length) (hk : k = fs[i].length) : KT P C M B1 B2 B3 d1 d2 d3 vs fs ks b1 (i + 1) 0 wr := by
  subst hk
  have e := turnAt_next i fs hi
  exact ⟨h.c, h.m, h.r1, by rw [← e]; exact h.g1, h.k1, h.lt1⟩
theorem tot_back (fs : List (List Int)) : tot (back fs) = tot fs := by
  unfold tot back
  rw [List.map_map]
  congr 1
  exact List.map_congr_left fun x _ => by simp
theorem KT.cg (h : KT P C M B1 B2 B3 d1 d2 d3 vs fs ks b1 fs.length 0 wr) (i1 : ∀ p ∈ vs, I3 p) (hi : ∀ q ∈ fs, ∀ x ∈ q, i64B x) (i3 : ∀ p ∈ ks, I3 p) (few : vs.length + fs.length + tot fs + ks.length ≤ 1000000) : CgV wr ⟨vs, back fs, ks⟩ B1 B2 B3 := by
  have g := h.g1.toF.fl
  rw [turnAt_all] at g
  refine ⟨i1, fun q hq x hx => ?_, i3, VL_own h.r1, g, VL_own h.k1, by simp only; rw [back_len, tot_back]; exact few⟩
  obtain ⟨z, hz, rfl⟩ := List.mem_map.1 hq
  exact hi z hz x (List.mem_reverse.1 hx)
end
end Go.Proofs.Ytiaikceoodeboaa
