/- Rows of a call's own, many at once, no two in one block. No program is imported. -/
import Derived.Test.YtdkgbdecmgligaaGreatDoorMRegion
import Derived.Maps.AppendAt
import Derived.Lib.OwnKind
namespace Go.Proofs.YtdkgbdecmgligaaGreatDoor
open Go.RowKit
set_option linter.unusedVariables false
set_option linter.unusedSimpArgs false
/-- A row that is read only: its cells lie from some place of a block on. -/
def roRow (W : World) (base : Nat) (T : TypeId) (v : Value) (n : Nat) (xs : List Value) : Prop :=
  xs.length = n ∧ ((v = .slice none 0 0 ∧ n = 0) ∨ ∃ b off cap cur, v = .slice (some ⟨b, off, none⟩) n cap ∧ base ≤ b ∧ W.heap[b]? = some (.cells cur T (0, 0)) ∧ ∀ i, i < n → cur[off + i]? = xs[i]?)
theorem ro_of_own {W : World} {base : Nat} {T : TypeId} {v : Value} {n : Nat} {xs : List Value} (h : W.ownsRow base T 1 v n xs) : roRow W base T v n xs := by
  refine ⟨by have := h.1; omega, ?_⟩
  rcases h.2 with q | ⟨g, cap, cur, q1, q2, q3, q4, q5, q6, q7⟩
  · exact .inl q
  · refine .inr ⟨g, 0, cap, cur, q1, q2, q3, fun i hi => ?_⟩
    rw [← q7, List.getElem?_take, if_pos (by omega), Nat.zero_add]
    simp
structure Rw where
  ro : Bool
  T : TypeId
  sz : Nat
  v : Value
  n : Nat
  xs : List Value
def Rw.own (r : Rw) (base : Nat) (W : World) : Prop := if r.ro then roRow W base r.T r.v r.n r.xs else W.ownsRow base r.T r.sz r.v r.n r.xs
theorem Rw.own_rw {base : Nat} {W : World} {T : TypeId} {sz n : Nat} {v : Value} {xs : List Value} : (Rw.mk false T sz v n xs).own base W = W.ownsRow base T sz v n xs := rfl
theorem Rw.own_ro {base : Nat} {W : World} {T : TypeId} {sz n : Nat} {v : Value} {xs : List Value} : (Rw.mk true T sz v n xs).own base W = roRow W base T v n xs := rfl
theorem Rw.own.lt {r : Rw} {base : Nat} {W : World} (h : r.own base W) : ∀ k, r.v.ownBlock = some k → base ≤ k ∧ k < W.heap.size := by
  obtain ⟨ro, T, sz, v, n, xs⟩ := r
  cases ro
  · exact World.ownsRow.lt (show W.ownsRow base T sz v n xs from h)
  · intro k hk
    rcases (show roRow W base T v n xs from h).2 with ⟨rfl, _⟩ | ⟨b, off, cap, cur, rfl, hb, hg, _⟩
    · simp [Value.ownBlock] at hk
    · simp [Value.ownBlock] at hk
      subst hk
      exact ⟨hb, (Array.getElem?_eq_some_iff.1 hg).1⟩
theorem Rw.own.kept {r : Rw} {base : Nat} {W W' : World} {row : Option Nat} (h : r.own base W) (hg : W.grownBy W' row) (hne : r.v.ownBlock = none ∨ r.v.ownBlock ≠ row) : r.own base W' := by
  obtain ⟨ro, T, sz, v, n, xs⟩ := r
  cases ro
  · exact World.ownsRow.kept (show W.ownsRow base T sz v n xs from h) hg hne
  · show roRow W' base T v n xs
    have h : roRow W base T v n xs := h
    refine ⟨h.1, ?_⟩
    rcases h.2 with q | ⟨b, off, cap, cur, rfl, hb, hgg, rest⟩
    · exact .inl q
    · refine .inr ⟨b, off, cap, cur, rfl, hb, ?_, rest⟩
      rw [hg.block b (Array.getElem?_eq_some_iff.1 hgg).1 (by simpa [Value.ownBlock] using hne)]
      exact hgg
theorem Rw.own.mono {r : Rw} {base base' : Nat} {W : World} (h : r.own base W) (hb : base' ≤ base) : r.own base' W := by
  obtain ⟨ro, T, sz, v, n, xs⟩ := r
  cases ro
  · have h : W.ownsRow base T sz v n xs := h
    refine ⟨h.1, ?_⟩
    rcases h.2 with q | ⟨a, b, c, q1, q2, q3⟩
    · exact .inl q
    · exact .inr ⟨a, b, c, q1, Nat.le_trans hb q2, q3⟩
  · have h : roRow W base T v n xs := h
    refine ⟨h.1, ?_⟩
    rcases h.2 with q | ⟨a, b, c, d, q1, q2, q3⟩
    · exact .inl q
    · exact .inr ⟨a, b, c, d, q1, Nat.le_trans hb q2, q3⟩
open Classical in
noncomputable def upd {K α : Type} (R : K → α) (k : K) (r : α) : K → α := fun j => if j = k then r else R j
theorem upd_same {K α : Type} (R : K → α) (k : K) (r : α) : upd R k r k = r := by unfold upd; simp
theorem upd_other {K α : Type} (R : K → α) {k j : K} (r : α) (h : j ≠ k) : upd R k r j = R j := by unfold upd; simp [h]
/-- Own rows, by keys, beside a block of their own. -/
structure Owns {K : Type} (base : Nat) (W : World) (g : Nat) (R : K → Rw) : Prop where
  row : ∀ k, (R k).own base W
  apart : ∀ j k, j ≠ k → (R j).v.ownBlock = none ∨ (R j).v.ownBlock ≠ (R k).v.ownBlock
  off : ∀ k, (R k).v.ownBlock ≠ some g
variable {K : Type} {base g : Nat} {W W' : World} {R : K → Rw}
theorem gb_of_below (h : Below W.heap.size W W') (r : Option Nat) : W.grownBy W' r := ⟨h.os, h.tape, h.output, h.size, fun k hk _ => h.block k hk⟩
theorem Owns.below (h : Owns base W g R) (hb : Below W.heap.size W W') : Owns base W' g R :=
  ⟨fun k => (h.row k).kept (gb_of_below hb none) (by cases hv : (R k).v.ownBlock <;> simp), h.apart, h.off⟩
theorem Owns.grow (h : Owns base W g R) (x : More) : Owns base (grow W x) g R := h.below (x.kept W)
/-- The block beside the rows is turned. -/
theorem Owns.beside (h : Owns base W g R) (hg : W.grownBy W' (some g)) : Owns base W' g R :=
  ⟨fun k => (h.row k).kept hg (.inr (h.off k)), h.apart, h.off⟩
/-- One row is turned, in its own place or in a new one. -/
theorem Owns.turn (h : Owns base W g R) (k : K) (r : Rw) (hgr : W.grownBy W' (R k).v.ownBlock) (hr : r.own base W') (hat : r.v.ownBlock = (R k).v.ownBlock ∨ r.v.ownBlock = none ∨ ∃ b, r.v.ownBlock = some b ∧ W.heap.size ≤ b) (hg : g < W.heap.size) : Owns base W' g (upd R k r) := by
  have hne : ∀ j, j ≠ k → (R j).v.ownBlock = none ∨ (R j).v.ownBlock ≠ r.v.ownBlock := fun j hj => by
    rcases hat with e | e | ⟨b, e, hb⟩
    · rw [e]; exact h.apart j k hj
    · rw [e]
      cases hv : (R j).v.ownBlock <;> simp
    · rw [e]
      cases hv : (R j).v.ownBlock with
      | none => exact .inl rfl
      | some c =>
        right
        have := ((h.row j).lt c hv).2
        intro q
        injection q with q
        omega
  refine ⟨fun j => ?_, fun i j hij => ?_, fun j => ?_⟩
  · by_cases e : j = k
    · subst e; rw [upd_same]; exact hr
    · rw [upd_other _ _ e]
      exact (h.row j).kept hgr (h.apart j k e)
  · by_cases e : i = k
    · subst e
      rw [upd_same, upd_other _ _ (Ne.symm hij)]
      rcases hne j (Ne.symm hij) with q | q
      · rw [q]
        cases hv : r.v.ownBlock <;> simp
      · right; exact Ne.symm q
    · rw [upd_other _ _ e]
      by_cases e2 : j = k
      · subst e2; rw [upd_same]; exact hne i e
      · rw [upd_other _ _ e2]; exact h.apart i j hij
  · by_cases e : j = k
    · subst e
      rw [upd_same]
      rcases hat with e | e | ⟨b, e, hb⟩
      · rw [e]; exact h.off j
      · rw [e]; simp
      · rw [e]; intro q; injection q with q; omega
    · rw [upd_other _ _ e]; exact h.off j
/-- A row of nothing takes a row that was made since. -/
theorem Owns.take (h : Owns base W g R) (k : K) (r : Rw) (hb : Below W.heap.size W W') (hr : r.own W.heap.size W') (hbase : base ≤ W.heap.size) (hg : g < W.heap.size) : Owns base W' g (upd R k r) := by
  refine h.turn k r (gb_of_below hb _) (hr.mono hbase) ?_ hg
  right
  cases hv : r.v.ownBlock with
  | none => exact .inl rfl
  | some b => exact .inr ⟨b, rfl, (hr.lt b hv).1⟩
/-- A cell of a block that is of no row is stored. -/
theorem Owns.elsewhere (h : Owns base W g R) {b : Nat} (hb : ∀ k, (R k).v.ownBlock ≠ some b) (i : Nat) (u : Value) : Owns base (W.setCell ⟨b, i, none⟩ u) g R :=
  ⟨fun k => (h.row k).kept ⟨rfl, rfl, rfl, by simp, fun j _ hj => heap_setCell_other W ⟨b, i, none⟩ j u (fun e => hj (by simp [e]))⟩ (.inr (hb k)), h.apart, h.off⟩
/-- A cell of a row is stored. -/
theorem Owns.store (h : Owns base W g R) (k : K) {b n cap : Nat} {T : TypeId} {sz : Nat} {xs : List Value} (hk : R k = ⟨false, T, sz, .slice (some ⟨b, 0, none⟩) n cap, n, xs⟩) (hg : g < W.heap.size) (i : Nat) (u : Value) :
    Owns base (W.setCell ⟨b, i, none⟩ u) g (upd R k ⟨false, T, sz, .slice (some ⟨b, 0, none⟩) n cap, n, xs.set i u⟩) := by
  have h1 := h.row k
  rw [hk] at h1
  have h2 := World.ownsRow.stored (show W.ownsRow base T sz (.slice (some ⟨b, 0, none⟩) n cap) n xs from h1) i u
  refine h.turn k _ ?_ h2.1 (.inl ?_) hg
  · rw [hk]; exact h2.2
  · rw [hk]
end Go.Proofs.YtdkgbdecmgligaaGreatDoor
