/- Rows of lines that a call owns, held against one another. -/
import Derived.Test.YtdkgbdecmgligaaGreatDoorLexA
import Derived.Test.YtdkgbdecmgligaaGreatDoorMLexC
namespace Go.Proofs.YtdkgbdecmgligaaGreatDoor
open Go.RowKit
set_option linter.unusedVariables false
set_option linter.unusedSimpArgs false
def lnAt (ls : List Ln) (i : Nat) : Ln := ls.getD i ⟨0, .slice none 0 0, []⟩
theorem lnAt_get (ls : List Ln) (i : Nat) (h : i < ls.length) : lnAt ls i = ls[i] := by unfold lnAt; simp [List.getD, h]
theorem lnC_get : ∀ (ls : List Ln) (i : Nat) (h : i < ls.length), (lnC ls)[i * 2]? = some (.int .i64 ((ls[i]).no : Int)) ∧ (lnC ls)[i * 2 + 1]? = some (ls[i]).at_
  | [], i, h => by simp at h
  | q :: ls, 0, h => by unfold lnC; simp
  | q :: ls, i + 1, h => by
    have k := lnC_get ls i (by simpa using h)
    unfold lnC at k ⊢
    rw [List.flatMap_cons]
    constructor
    · rw [List.getElem?_append_right (by simp; omega)]
      simp only [List.length_cons, List.length_nil, List.getElem_cons_succ]
      rw [show (i + 1) * 2 - (0 + 1 + 1) = i * 2 by omega]
      exact k.1
    · rw [List.getElem?_append_right (by simp; omega)]
      simp only [List.length_cons, List.length_nil, List.getElem_cons_succ]
      rw [show (i + 1) * 2 + 1 - (0 + 1 + 1) = i * 2 + 1 by omega]
      exact k.2
def wsOf (q : Ln) : Ws := match q.at_ with
  | .slice a n c => ⟨a, n, c, fun j => ⟨(q.words.getD j []).toArray⟩⟩
  | _ => ⟨none, 0, 0, fun _ => ByteArray.empty⟩
theorem LF_of_LNS {W : World} {base : Nat} {A : Option Addr} {n c : Nat} {ls : List Ln} (h : LNS W base (.slice A n c) ls) (hn : n = ls.length) : LF W A n (fun i => ((lnAt ls i).no : Int)) (fun i => wsOf (lnAt ls i)) := fun h0 => by
  subst hn
  obtain ⟨g, cap, hv, hg, hgl⟩ := World.ownsRow.form h.1 h0
  injection hv with hA _ hc
  subst hA hc
  refine ⟨g, 0, rfl, hgl, fun i hi => ?_⟩
  obtain ⟨k1, k2⟩ := lnC_get ls i hi
  obtain ⟨q1, q2, q3, q4⟩ := h.2 ls[i] (List.getElem_mem hi)
  obtain ⟨gw, cw, hqa, _, _⟩ := World.ownsRow.form q4 q1
  simp only [lnAt_get ls i hi]
  have c0 := h.1.cellAt (i * 2) (by omega)
  have c1 := h.1.cellAt (i * 2 + 1) (by omega)
  have sf := q4
  rw [hqa] at sf
  have sf := SF_of_own sf rfl
  refine ⟨by rw [Nat.zero_add, c0, k1], ?_, ?_, ?_⟩
  · rw [Nat.zero_add, c1, k2]
    unfold wsOf
    rw [hqa]
  · unfold wsOf
    rw [hqa]
    exact sf
  · unfold wsOf
    rw [hqa]
    simp only
    omega
theorem eqT_yes (p q : Nat → ByteArray) (n : Nat) (h : ∀ j, j < n → p j = q j) : ∀ k, k ≤ n → eqT p q k = true
  | 0, _ => rfl
  | k + 1, hk => by
    unfold eqT
    rw [eqT_yes p q n h k (by omega), h k (by omega)]
    simp
theorem eqL_yes (no no2 : Nat → Int) (ws ws2 : Nat → Ws) (n : Nat) (h : ∀ j, j < n → lnE no no2 ws ws2 j = true) : ∀ k, k ≤ n → eqL no no2 ws ws2 k = true
  | 0, _ => rfl
  | k + 1, hk => by
    unfold eqL
    rw [eqL_yes no no2 ws ws2 n h k (by omega), h k (by omega)]
    rfl
theorem outOf_inj {a b : List Ln} (h : outOf a = outOf b) : a.length = b.length ∧ ∀ i (h1 : i < a.length) (h2 : i < b.length), (a[i]).no = (b[i]).no ∧ (a[i]).words = (b[i]).words := by
  unfold outOf at h
  have hl : a.length = b.length := by simpa using congrArg List.length h
  refine ⟨hl, fun i h1 h2 => ?_⟩
  have e : (a.map fun q => (q.no, q.words.map nb))[i]? = (b.map fun q => (q.no, q.words.map nb))[i]? := by rw [h]
  simp only [List.getElem?_map, List.getElem?_eq_getElem h1, List.getElem?_eq_getElem h2, Option.map_some, Option.some.injEq, Prod.mk.injEq] at e
  exact ⟨e.1, nbs_inj _ _ e.2⟩
/-- A row of one line. -/
theorem one_line {W : World} {base : Nat} {v : Value} {ls : List Ln} (hL : LNS W base v ls) {no : Nat} {ws : List (List UInt8)} (ho : outOf ls = [(no, ws.map nb)]) :
    ∃ g c gw cw, v = .slice (some ⟨g, 0, none⟩) 1 c ∧ g < W.heap.size ∧ gw < W.heap.size ∧ W.cell? ⟨g, 0, none⟩ = some (.int .i64 (no : Int)) ∧ W.cell? ⟨g, 1, none⟩ = some (.slice (some ⟨gw, 0, none⟩) ws.length cw) ∧ W.ownsRow base 9 1 (.slice (some ⟨gw, 0, none⟩) ws.length cw) ws.length (strs ws) := by
  rcases ls with _ | ⟨q, _ | ⟨q2, t⟩⟩
  · simp [outOf] at ho
  rotate_left
  · simp [outOf] at ho
  · unfold outOf at ho
    simp only [List.map_cons, List.map_nil, List.cons.injEq, Prod.mk.injEq, and_true] at ho
    obtain ⟨h2, hw⟩ := ho
    have hw' : q.words = ws := nbs_inj _ _ hw
    obtain ⟨q1, q2, q3, q4⟩ := hL.2 q (by simp)
    obtain ⟨g, c, rfl, hg, hgl⟩ := World.ownsRow.form hL.1 (by simp)
    obtain ⟨gw, cw, hqa, hgw, hgwl⟩ := World.ownsRow.form q4 q1
    rw [hqa, hw'] at q4
    have c0 := hL.1.cellAt 0 (by simp)
    have c1 := hL.1.cellAt 1 (by simp)
    unfold lnC at c0 c1
    simp only [List.flatMap_cons, List.flatMap_nil, List.append_nil, List.getElem?_cons_zero, List.getElem?_cons_succ] at c0 c1
    rw [h2] at c0
    rw [hqa, hw'] at c1
    exact ⟨g, c, gw, cw, rfl, hgl, hgwl, c0, c1, q4⟩
/-- Both lines agree. -/
theorem lines_run (l : List UInt8) : (∃ n, linesP 1 [] (spl l) = .error n ∧ runL st0 (nb l ++ [10]) = .error n) ∨ ∃ t, linesP 1 [] (spl l) = .ok t.out ∧ runL st0 (nb l ++ [10]) = .ok t := by
  have h := runL_spl l
  cases e : linesP 1 [] (spl l) with
  | error n => rw [e] at h; exact .inl ⟨n, rfl, h⟩
  | ok o => rw [e] at h; exact .inr ⟨_, rfl, h⟩
theorem lineO_len (n : Nat) (O : List (Nat × List (List Nat))) (l : List UInt8) : (lineO n O l).length ≤ O.length + 1 := by
  unfold lineO; split <;> simp
theorem linesP_len : ∀ (P : List (List UInt8)) (n : Nat) (O o : List (Nat × List (List Nat))), linesP n O P = .ok o → o.length ≤ O.length + P.length
  | [], n, O, o, h => by unfold linesP at h; injection h with h; subst h; simp
  | p :: P, n, O, o, h => by
    rw [linesP_cons] at h
    split at h
    · have := linesP_len P _ _ _ h
      have := lineO_len n O p
      simp; omega
    · cases h
end Go.Proofs.YtdkgbdecmgligaaGreatDoor
