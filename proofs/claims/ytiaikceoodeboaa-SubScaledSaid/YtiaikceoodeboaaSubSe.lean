/- A copy of a cage, made sixteen times as great; cages written over. -/
import Derived.Test.YtiaikceoodeboaaSubSd
namespace Go.Proofs.Ytiaikceoodeboaa
open Go.RowKit
set_option linter.unusedVariables false
set_option linter.unusedSimpArgs false
set_option linter.unusedSectionVars false
theorem FLb.kept {base : Nat} {W W' : World} {A : Option Addr} {fs : List (List Int)} {b : Nat} {t : TypeId} {cs : Array Value} (h : FLb base W A fs) (hg : W.grownBy W' (some b)) (hb : Blk W b t cs) (hs : ∀ (i : Nat) (v : Value), cs[i]? = some v → ∃ a n c, v = .slice a n c) (hlt : b < base) : FLb base W' A fs := ⟨fun hp => by
  obtain ⟨b2, o2, e, hl, hc⟩ := h.1 hp
  have hne : b2 ≠ b := by have := h.2 b2 o2 none e; omega
  refine ⟨b2, o2, e, Nat.lt_of_lt_of_le hl hg.size, fun i hi => ?_⟩
  obtain ⟨B, m, h1, h2⟩ := hc i hi
  refine ⟨B, m, hg.cell h1 (by simp only; intro e; cases e; exact hne rfl), fun hx => ?_⟩
  obtain ⟨b3, o3, e3, hl3, hc3⟩ := h2 hx
  have hne3 : b3 ≠ b := fun hbb => by
    subst hbb
    have h5 := hc3 0 hx
    rw [hb.cell] at h5
    obtain ⟨a, n, c, h6⟩ := hs _ _ h5
    cases h6
  exact ⟨b3, o3, e3, Nat.lt_of_lt_of_le hl3 hg.size, fun j hj => hg.cell (hc3 j hj) (by simp only; intro e; cases e; exact hne3 rfl)⟩, h.2⟩
theorem slices3 (A1 A2 A3 : Option Addr) (n1 n2 n3 c1 c2 c3 : Nat) : ∀ (i : Nat) (v : Value), (#[.slice A1 n1 c1, .slice A2 n2 c2, .slice A3 n3 c3] : Array Value)[i]? = some v → ∃ a n c, v = .slice a n c := fun i v h => by
  have hi : i < 3 := by have := (Array.getElem?_eq_some_iff.1 h).1; simpa using this
  rcases (by omega : i = 0 ∨ i = 1 ∨ i = 2) with rfl | rfl | rfl <;> (simp at h; exact ⟨_, _, _, h.symm⟩)
def scP (p : P3) : P3 := ⟨p.x * 16, p.y * 16, p.z * 16⟩
/-- A cage and a copy of it that is made great as far as i. -/
structure KS (P : Nat) (C : Array Value) (M : Nat) (B1 B2 B3 : Option Addr) (d1 d2 d3 : Nat) (vs : List P3) (fs : List (List Int)) (ks : List P3) (b1 : Nat) (i : Nat) (wr : World) : Prop where
  c : Blk wr P 26 C
  m : Blk wr M 26 #[.slice B1 vs.length d1, .slice B2 fs.length d2, .slice B3 ks.length d3]
  r1 : wr.ownsRow b1 42 3 (.slice B1 vs.length d1) vs.length (kC (rowAt scP i vs))
  g1 : OwnF wr b1 B2 d2 fs
  k1 : wr.ownsRow b1 51 3 (.slice B3 ks.length d3) ks.length (kC ks)
  lt1 : P < b1
section
variable {P : Nat} {C : Array Value} {M : Nat} {B1 B2 B3 : Option Addr} {d1 d2 d3 : Nat} {vs : List P3} {fs : List (List Int)} {ks : List P3} {b1 i : Nat} {wr wq : World}
theorem KS.lay (h : KS P C M B1 B2 B3 d1 d2 d3 vs fs ks b1 i wr) (hb : Below wr.heap.size wr wq) : KS P C M B1 B2 B3 d1 d2 d3 vs fs ks b1 i wq :=
  ⟨h.c.below hb, h.m.below hb, own_lay h.r1 hb, h.g1.lay hb, own_lay h.k1 hb, h.lt1⟩
theorem KS.step (h : KS P C M B1 B2 B3 d1 d2 d3 vs fs ks b1 i wr) {g : Nat} (hv : B1 = some ⟨g, 0, none⟩) (hi : i < vs.length) (p : P3) (hp : scP vs[i] = p) : KS P C M B1 B2 B3 d1 d2 d3 vs fs ks b1 (i + 1) (((wr.setCell ⟨g, i * 3, none⟩ (.int .i64 p.x)).setCell ⟨g, i * 3 + 1, none⟩ (.int .i64 p.y)).setCell ⟨g, i * 3 + 2, none⟩ (.int .i64 p.z)) := by
  subst hv
  subst hp
  have hg : wr.grownBy (((wr.setCell ⟨g, i * 3, none⟩ (.int .i64 (scP vs[i]).x)).setCell ⟨g, i * 3 + 1, none⟩ (.int .i64 (scP vs[i]).y)).setCell ⟨g, i * 3 + 2, none⟩ (.int .i64 (scP vs[i]).z)) (some g) := ((set_grown _ g _ _).trans (set_grown _ g _ _)).trans (set_grown _ g _ _)
  obtain ⟨hb, cur, hB⟩ := own_blk h.r1 (g := g) rfl
  have l1 := h.lt1
  have nm := Blk.ne_ hB h.m neVC
  have o := own_put (own_put (own_put h.r1 (g := g) rfl (j := i * 3) (by omega) (.int .i64 (scP vs[i]).x)) (g := g) rfl (j := i * 3 + 1) (by omega) (.int .i64 (scP vs[i]).y)) (g := g) rfl (j := i * 3 + 2) (by omega) (.int .i64 (scP vs[i]).z)
  have e := kC_set3 (rowAt scP i vs) i (scP vs[i]) (by rw [rowAt_len]; exact hi)
  rw [rowAt_set _ _ _ hi] at e
  rw [e] at o
  exact ⟨h.c.kept hg (by simp only [ne_eq, Option.some.injEq]; omega), h.m.kept hg (by simp only [ne_eq, Option.some.injEq]; omega), o,
    h.g1.kept hg (fun k e => .inr ⟨_, _, _, _, _, _, h.r1, by simp only [Option.some.injEq] at e; subst e; rfl, neVI, neVL⟩),
    own_kept h.k1 hg (fun k hk e => by have := own_apart h.r1 h.k1 neVK (g := g) rfl hk; simp only [Option.some.injEq] at e; omega), h.lt1⟩
theorem KS.pair (hv : ∀ p ∈ vs, InP 4000 p) (hi : ∀ q ∈ fs, ∀ x ∈ q, i64B x) (i3 : ∀ p ∈ ks, I3 p) (few : vs.length + fs.length + tot fs + ks.length ≤ 100) : Pair ⟨vs, fs, ks⟩ ⟨vs.map scP, fs, ks⟩ 0 := by
  refine ⟨by simp, rfl, rfl, hv, fun p hp => ?_, fun i h h2 => ?_, hi, i3, by unfold size9; simp only; omega⟩
  · obtain ⟨q, hq, rfl⟩ := List.mem_map.1 hp
    obtain ⟨x, y, z⟩ := hv q hq
    exact ⟨by simp only [scP]; omega, by simp only [scP]; omega, by simp only [scP]; omega⟩
  · simp only [List.getElem_map]
    exact ⟨by unfold nr scP; simp only; omega, by unfold nr scP; simp only; omega, by unfold nr scP; simp only; omega⟩
end
end Go.Proofs.Ytiaikceoodeboaa
