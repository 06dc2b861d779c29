/- Package topo: Build. -/
import Derived.Test.YtbehobojgeganaaTop7
import Derived.Test.YtbehobojgeganaaTop6
namespace Go.Proofs.Ytbehobojgeganaa
open Go.RowKit
set_option linter.unusedVariables false
set_option linter.unusedSimpArgs false
set_option linter.unnecessarySimpa false
set_option maxRecDepth 100000


/-- A row of edges, a row of truths. -/
def EL (W : World) (A : Option Addr) (es : List Ed) : Prop := 0 < es.length → ∃ b off, A = some ⟨b, off, none⟩ ∧ b < W.heap.size ∧ ∀ i (h : i < es.length), W.cell? ⟨b, off + i * 4, none⟩ = some (.int .i64 es[i].a) ∧ W.cell? ⟨b, off + i * 4 + 1, none⟩ = some (.int .i64 es[i].b) ∧ W.cell? ⟨b, off + i * 4 + 2, none⟩ = some (.int .i64 es[i].f) ∧ W.cell? ⟨b, off + i * 4 + 3, none⟩ = some (.int .i64 es[i].g)
def BL (W : World) (A : Option Addr) (rs : List Bool) : Prop := 0 < rs.length → ∃ b off, A = some ⟨b, off, none⟩ ∧ b < W.heap.size ∧ ∀ i (h : i < rs.length), W.cell? ⟨b, off + i, none⟩ = some (.bool rs[i])
theorem EL.below {W W' : World} {A : Option Addr} {es : List Ed} (h : EL W A es) (hb : Below W.heap.size W W') : EL W' A es := fun hn => by
  obtain ⟨b, off, e, hl, hc⟩ := h hn
  refine ⟨b, off, e, Nat.lt_of_lt_of_le hl hb.size, fun i hi => ?_⟩
  obtain ⟨h1, h2, h3, h4⟩ := hc i hi
  exact ⟨(hb.cell (p := ⟨b, _, none⟩) hl).trans h1, (hb.cell (p := ⟨b, _, none⟩) hl).trans h2, (hb.cell (p := ⟨b, _, none⟩) hl).trans h3, (hb.cell (p := ⟨b, _, none⟩) hl).trans h4⟩
theorem BL.below {W W' : World} {A : Option Addr} {rs : List Bool} (h : BL W A rs) (hb : Below W.heap.size W W') : BL W' A rs := fun hn => by
  obtain ⟨b, off, e, hl, hc⟩ := h hn
  exact ⟨b, off, e, Nat.lt_of_lt_of_le hl hb.size, fun i hi => (hb.cell (p := ⟨b, _, none⟩) hl).trans (hc i hi)⟩
/-- What Build answers reads so. -/
structure TopoV (W : World) (A1 A2 A3 : Option Addr) (t : TopoT) : Prop where
  es : EL W A1 t.es
  fans : FL W A2 t.fans
  rs : BL W A3 t.rs
theorem TopoV.below {W W' : World} {A1 A2 A3 : Option Addr} {t : TopoT} (h : TopoV W A1 A2 A3 t) (hb : Below W.heap.size W W') : TopoV W' A1 A2 A3 t := ⟨h.es.below hb, h.fans.below hb, h.rs.below hb⟩
theorem own_cell {W : World} {base : Nat} {e : TypeId} {size n c : Nat} {A : Option Addr} {xs : List Value} (h : W.ownsRow base e size (.slice A n c) n xs) (hn : 0 < n) : ∃ b, A = some ⟨b, 0, none⟩ ∧ b < W.heap.size ∧ base ≤ b ∧ ∀ j, j < n * size → W.cell? ⟨b, j, none⟩ = xs[j]? := by
  obtain ⟨h0, ⟨h1, h2⟩ | ⟨g, cap, cur, h1, h2, h3, h4, h5, h6, h7⟩⟩ := h
  · omega
  · simp only [Value.slice.injEq] at h1
    refine ⟨g, h1.1, (Array.getElem?_eq_some_iff.1 h3).1, h2, fun j hj => ?_⟩
    rw [← h7, List.getElem?_take_of_lt hj]
    simp [World.cell?, h3]
theorem IL_own {W : World} {base c : Nat} {A : Option Addr} {ns : List Int} (h : W.ownsRow base 3 1 (.slice A ns.length c) ns.length (ints ns)) : IL W A ns := fun hn => by
  obtain ⟨b, e, hb, _, hc⟩ := own_cell h hn
  refine ⟨b, 0, e, hb, fun i hi => ?_⟩
  rw [Nat.zero_add, hc i (by omega)]
  simp [ints, hi]
theorem BL_own {W : World} {base c : Nat} {A : Option Addr} {rs : List Bool} (h : W.ownsRow base 4 1 (.slice A rs.length c) rs.length (rs.map Value.bool)) : BL W A rs := fun hn => by
  obtain ⟨b, e, hb, _, hc⟩ := own_cell h hn
  refine ⟨b, 0, e, hb, fun i hi => ?_⟩
  rw [Nat.zero_add, hc i (by omega)]
  simp [hi]
theorem EL_own {W : World} {base c n : Nat} {A : Option Addr} {al : List Way} {L : List (Int × Int)} (h : W.ownsRow base 38 4 (.slice A n c) n (edCs al L)) (hm : L.length = n) : EL W A (L.map fun p => edOf al p.1 p.2) := fun hn => by
  subst hm
  have hn' : 0 < L.length := by simpa using hn
  obtain ⟨b, e, hb, _, hc⟩ := own_cell h hn'
  refine ⟨b, 0, e, hb, fun i hi => ?_⟩
  have hi' : i < L.length := by simpa using hi
  have g : ∀ k, k < 4 → W.cell? ⟨b, 0 + i * 4 + k, none⟩ = (encE al L[i])[k]? := fun k hk => by
    rw [Nat.zero_add, hc _ (by omega), edCs_get al L i k hi' hk]
  have g0 := g 0 (by omega)
  simp only [Nat.add_zero] at g0
  refine ⟨g0.trans ?_, (g 1 (by omega)).trans ?_, (g 2 (by omega)).trans ?_, (g 3 (by omega)).trans ?_⟩ <;> simp [encE, edOf]
/-- Rows of the call's own behind one another in a row of its own. -/
structure OwnF (W : World) (base : Nat) (A : Option Addr) (c : Nat) (fans : List (List Int)) : Prop where
  row : ∃ vals, W.ownsRow base 41 1 (.slice A fans.length c) fans.length vals ∧ ∀ i (h : i < fans.length), ∃ B m, vals[i]? = some (.slice B fans[i].length m) ∧ W.ownsRow base 3 1 (.slice B fans[i].length m) fans[i].length (ints fans[i])
theorem OwnF.fl {W : World} {base c : Nat} {A : Option Addr} {fans : List (List Int)} (h : OwnF W base A c fans) : FL W A fans := fun hn => by
  obtain ⟨vals, h1, h2⟩ := h.row
  obtain ⟨b, e, hb, _, hc⟩ := own_cell h1 hn
  refine ⟨b, 0, e, hb, fun i hi => ?_⟩
  obtain ⟨B, m, h3, h4⟩ := h2 i hi
  exact ⟨B, m, by rw [Nat.zero_add, hc i (by omega)]; exact h3, IL_own h4⟩
theorem own_type {W : World} {base base2 : Nat} {e e2 : TypeId} {size size2 n n2 : Nat} {v v2 : Value} {xs xs2 : List Value} (h : W.ownsRow base e size v n xs) (h2 : W.ownsRow base2 e2 size2 v2 n2 xs2) (hne : e ≠ e2) : ∀ k, v.ownBlock = some k → v2.ownBlock ≠ some k := by
  intro k hk hk2
  rcases h.2 with ⟨rfl, _⟩ | ⟨g, cap, cur, rfl, _, h3, _⟩
  · cases hk
  · rcases h2.2 with ⟨rfl, _⟩ | ⟨g2, cap2, cur2, rfl, _, h4, _⟩
    · cases hk2
    · cases hk; cases hk2
      rw [h3] at h4
      simp at h4
      exact hne h4.2
/-- The rows stand where a block has changed that is none of theirs. -/
theorem OwnF.kept {W W' : World} {base c : Nat} {A : Option Addr} {fans : List (List Int)} {row : Option Nat} (h : OwnF W base A c fans) (hg : W.grownBy W' row) (hne : ∀ k, row = some k → k < base ∨ ∃ base2 e2 size2 v2 n2 xs2, W.ownsRow base2 e2 size2 v2 n2 xs2 ∧ v2.ownBlock = some k ∧ e2 ≠ 3 ∧ e2 ≠ 41) : OwnF W' base A c fans := by
  obtain ⟨vals, h1, h2⟩ := h.row
  refine ⟨vals, own_kept h1 hg (fun k hk e => ?_), fun i hi => ?_⟩
  · rcases hne k e with h3 | ⟨b2, e2, s2, v2, n2, x2, h3, h4, h5, h6⟩
    · have := (own_block h1 k hk).1; omega
    · exact own_type h3 h1 h6 k h4 hk
  · obtain ⟨B, m, h3, h4⟩ := h2 i hi
    refine ⟨B, m, h3, own_kept h4 hg (fun k hk e => ?_)⟩
    rcases hne k e with h5 | ⟨b2, e2, s2, v2, n2, x2, h5, h6, h7, h8⟩
    · have := (own_block h4 k hk).1; omega
    · exact own_type h5 h4 h7 k h6 hk
theorem OwnF.lay {W W' : World} {base c : Nat} {A : Option Addr} {fans : List (List Int)} (h : OwnF W base A c fans) (hb : Below W.heap.size W W') : OwnF W' base A c fans := h.kept (row := none) (grown_of hb) (by simp)
theorem OwnF.add {W W' : World} {base c c' m : Nat} {A A' B : Option Addr} {fans : List (List Int)} {x : List Int} {vals : List Value} (h2 : ∀ i (h : i < fans.length), ∃ B m, vals[i]? = some (.slice B fans[i].length m) ∧ W.ownsRow base 3 1 (.slice B fans[i].length m) fans[i].length (ints fans[i]))
    (h0 : W.ownsRow base 41 1 (.slice A fans.length c) fans.length vals) (hx : W.ownsRow base 3 1 (.slice B x.length m) x.length (ints x)) (hg : W.grownBy W' (Value.slice A fans.length c).ownBlock) (h1 : W'.ownsRow base 41 1 (.slice A' (fans.length + 1) c') (fans.length + 1) (vals ++ [.slice B x.length m])) : OwnF W' base A' c' (fans ++ [x]) := by
  have hl : vals.length = fans.length := by have := h0.1; omega
  have K : ∀ (v : Value) (n : Nat) (xs : List Value), W.ownsRow base 3 1 v n xs → W'.ownsRow base 3 1 v n xs := fun v n xs h => own_kept h hg (fun k hk e => own_type h0 h (by decide) k e hk)
  refine ⟨vals ++ [.slice B x.length m], by simpa using h1, fun i hi => ?_⟩
  rcases Nat.lt_or_ge i fans.length with h3 | h3
  · obtain ⟨B2, m2, h4, h5⟩ := h2 i h3
    refine ⟨B2, m2, ?_, ?_⟩
    · rw [List.getElem_append_left h3, List.getElem?_append_left (by omega)]; exact h4
    · rw [List.getElem_append_left h3]; exact K _ _ _ h5
  · have e : i = fans.length := by simp at hi; omega
    subst e
    refine ⟨B, m, ?_, ?_⟩
    · rw [List.getElem?_append_right (by omega), List.getElem_append_right (by omega)]; simp [hl]
    · rw [List.getElem_append_right (by omega)]; simpa using K _ _ _ hx
theorem infoIS : (Try.prog.info? 41).map (fun i => (i.zero, i.size, i.bytes)) = some (some (.slice none 0 0), 1, 24) := by kernel_rfl
theorem infoB : (Try.prog.info? 4).map (fun i => (i.zero, i.size, i.bytes)) = some (some (.bool false), 1, 1) := by kernel_rfl
end Go.Proofs.Ytbehobojgeganaa