/- The law on edges: what its loops keep. -/
import Derived.Test.YtpdnaceggpdleaaWevY2
namespace Go.Proofs.Ytpdnaceggpdleaa
open Go.RowKit
set_option linter.unusedVariables false
set_option linter.unusedSimpArgs false
set_option linter.unnecessarySimpa false
set_option maxRecDepth 100000
theorem wpL_lookY {ops : Array Oper} {rest : List Oper} {o : Oper} {a : Act} {Q : Exit → Act → World → Prop} {w : World} (hg : Region.wanted o (yielded ops a.tmps) = true) (m x : Operand) (ho : o.op = .lookup 32 m x false) (B : Nat) (L : List (Int × Int)) (h : WyM w B L) (s : Int × Int) (hs : rngY s) (hm : a.eval m = .map (some B)) (hx : a.eval x = valY s)
    (v : Int) (hv : (if s ∈ L then (1 : Int) else 0) = v) (K : wpList Try.prog ops Q rest (a.put o.dst (.int .i64 v)) w) : wpList Try.prog ops Q (o :: rest) a w := by
  subst hv
  refine wpList_step fun K' hK' => ?_
  rw [if_pos hg]
  unfold Oper.wp
  have hr := h.look hs
  have : (execOp a.eval o).run Try.prog w = .ok (.value (.int .i64 (if s ∈ L then 1 else 0))) w := by
    simp [execOp, ho, hm, hx, hr, Result.andThen]
  rw [this]
  exact hK' _ _ K
def zE (e : NEd) : Int × Int := ((e.1 : Int), (e.2 : Int))
theorem zE_inj {e f : NEd} (h : zE e = zE f) : e = f := by
  unfold zE at h
  simp only [Prod.mk.injEq] at h
  exact Prod.ext (by omega) (by omega)
theorem mem_zE {e : NEd} {l : List NEd} : zE e ∈ l.map zE ↔ e ∈ l := by
  constructor
  · intro h
    obtain ⟨f, hf, h2⟩ := List.mem_map.1 h
    rw [← zE_inj h2]; exact hf
  · exact fun h => List.mem_map.2 ⟨e, h, rfl⟩
def uC (n : Nat) (L : List NEd) : Array Value := ((List.range n).map fun j => Value.bool (decide (∃ e ∈ L, e.1 = j))).toArray
theorem uC_at {n j : Nat} (L : List NEd) (hj : j < n) : (uC n L)[j]? = some (.bool (decide (∃ e ∈ L, e.1 = j))) := by simp [uC, hj]
theorem uC_set {n : Nat} (L : List NEd) (e : NEd) : (uC n L).setIfInBounds e.1 (.bool true) = uC n (L ++ [e]) := by
  apply Array.ext_getElem?
  intro i
  unfold uC
  rcases Nat.lt_or_ge i n with hi | hi
  · by_cases h : e.1 = i
    · subst h
      have : (∃ f ∈ L ++ [e], f.1 = e.1) := ⟨e, by simp, rfl⟩
      simp [hi]
    · rw [Array.getElem?_setIfInBounds_ne h]
      have : (∃ f ∈ L ++ [e], f.1 = i) ↔ (∃ f ∈ L, f.1 = i) := by
        constructor
        · rintro ⟨f, hf, h2⟩
          rcases List.mem_append.1 hf with hf | hf
          · exact ⟨f, hf, h2⟩
          · rw [List.mem_singleton.1 hf] at h2; exact absurd h2 h
        · rintro ⟨f, hf, h2⟩; exact ⟨f, List.mem_append_left _ hf, h2⟩
      simp [hi]
      exact fun hh => absurd hh h
  · rw [Array.getElem?_eq_none (by simp; exact hi), Array.getElem?_eq_none (by simp; exact hi)]
theorem uC_nil (n : Nat) : (List.replicate n (Value.bool false)).toArray = uC n [] := by
  unfold uC
  congr 1
  apply List.ext_getElem?
  intro i
  by_cases h : i < n <;> simp [h]
/-- The n-th edge of all. -/
theorem eds_at : ∀ (T : List NTri) (i k : Nat) (h : i < T.length), k < 3 → (T.flatMap edsN)[3 * i + k]? = (edsN T[i])[k]?
  | [], i, k, h, _ => by simp at h
  | t :: T, 0, k, _, hk => by
    show (edsN t ++ T.flatMap edsN)[3 * 0 + k]? = (edsN t)[k]?
    rw [List.getElem?_append_left (by show 3 * 0 + k < 3; omega)]
    congr 1; omega
  | t :: T, i + 1, k, h, hk => by
    show (edsN t ++ T.flatMap edsN)[3 * (i + 1) + k]? = _
    rw [List.getElem?_append_right (by show 3 ≤ 3 * (i + 1) + k; omega)]
    have := eds_at T i k (by simpa using h) hk
    rw [show 3 * (i + 1) + k - (edsN t).length = 3 * i + k by show 3 * (i + 1) + k - 3 = _; omega, this]
    rfl
theorem eds_len (T : List NTri) : (T.flatMap edsN).length = 3 * T.length := by
  induction T with
  | nil => rfl
  | cons t T ih =>
    show (edsN t ++ T.flatMap edsN).length = _
    rw [List.length_append, ih]
    show 3 + 3 * T.length = 3 * (T.length + 1)
    omega
theorem take_next {α : Type} {l : List α} {m : Nat} {e : α} (h : l[m]? = some e) : l.take (m + 1) = l.take m ++ [e] := by
  obtain ⟨hm, he⟩ := List.getElem?_eq_some_iff.1 h
  rw [List.take_succ_eq_append_getElem hm, he]
theorem not_before {α : Type} {l : List α} (hn : l.Nodup) {m : Nat} {e : α} (h : l[m]? = some e) : e ∉ l.take m := fun hm => by
  obtain ⟨hl, he⟩ := List.getElem?_eq_some_iff.1 h
  have h2 : (l.take m ++ l.drop m).Nodup := by rw [List.take_append_drop]; exact hn
  rw [List.nodup_append] at h2
  have h3 : e ∈ l.drop m := by
    rw [List.drop_eq_getElem_cons hl, he]; simp
  exact h2.2.2 e hm e h3 rfl
theorem made_blkW {W1 : World} {base g n size : Nat} {e : TypeId} {z : Array Value} (own1 : W1.ownsRow base e size (.slice (some ⟨g, 0, none⟩) n n) n (madeCells z (n * size)).toList) : Blk W1 g e (madeCells z (n * size)) := by
  obtain ⟨_, h | ⟨g2, cap, cur, h1, h2, h3, h4, h5, h6, h7⟩⟩ := own1
  · simp at h
  · simp only [Value.slice.injEq, Option.some.injEq, Addr.mk.injEq, and_true] at h1
    obtain ⟨rfl, rfl⟩ : g = g2 ∧ n = cap := by
      refine ⟨h1.1, ?_⟩
      have := h1.2
      omega
    unfold Blk
    rw [h3]
    have e : cur = madeCells z (n * size) := by
      apply Array.ext'
      rw [List.take_of_length_le (by simp [h6])] at h7
      exact h7
    rw [e]
theorem uC_made (n : Nat) : madeCells (Value.bool false).cells (n * 1) = uC n [] := by
  unfold uC
  apply Array.ext'
  simp [madeCells, Nat.mod_one, Value.cells]
theorem WyM.below {W W' : World} {B : Nat} {L : List (Int × Int)} (h : WyM W B L) (hb : Below W.heap.size W W') : WyM W' B L := h.kept (row := none) ⟨hb.os, hb.tape, hb.output, hb.size, fun k hk _ => hb.block k hk⟩ (by simp)
def pS (r : Nat → Nat) (S : List Spt) (e : NEd) : Bool := partB r (S.getD e.1 (0, 0, 0), S.getD e.2 (0, 0, 0))
theorem count_next {r : Nat → Nat} {S : List Spt} {EN : List NEd} {m : Nat} {e : NEd} (h : EN[m]? = some e) : (EN.take (m + 1)).countP (pS r S) = (EN.take m).countP (pS r S) + (if pS r S e then 1 else 0) := by
  rw [take_next h, List.countP_append, List.countP_cons, List.countP_nil, Nat.zero_add]
theorem count_le (r : Nat → Nat) (S : List Spt) (EN : List NEd) (m : Nat) : (EN.take m).countP (pS r S) ≤ m := Nat.le_trans List.countP_le_length (by rw [List.length_take]; omega)
/-- What the first loops keep. -/
structure TgI (w2 wr : World) (B g n : Nat) (L : List NEd) : Prop where
  bel : Below w2.heap.size w2 wr
  mp : WyM wr B (L.map zE)
  us : Blk wr g 4 (uC n L)
  lo : w2.heap.size ≤ B ∧ w2.heap.size ≤ g ∧ B ≠ g
theorem TgI.next {w2 wr u2 : World} {B g n : Nat} {L : List NEd} (h : TgI w2 wr B g n L) (e : NEd) (hg : wr.grownBy u2 (some B)) (hm : WyM u2 B (L.map zE ++ [zE e])) : TgI w2 (u2.setCell ⟨g, e.1, none⟩ (.bool true)) B g n (L ++ [e]) := by
  have hu : Blk u2 g 4 (uC n L) := (hg.block g h.us.lt (by intro x; cases x; exact h.lo.2.2 rfl)).trans h.us
  refine ⟨bel_set (bel_ownW h.bel hg (fun k hk => by cases hk; exact h.lo.1)) (by exact h.lo.2.1) _, ?_, ?_, h.lo⟩
  · rw [List.map_append]
    exact hm.kept (setW_grown _ _ _ _) (by intro x; cases x; exact h.lo.2.2 rfl)
  · rw [← uC_set]; exact hu.set _ _
theorem TgI.used {w2 wr u2 : World} {B g n : Nat} {L : List NEd} (h : TgI w2 wr B g n L) (hg : wr.grownBy u2 (some B)) {x : Nat} (hx : x < n) : u2.cell? ⟨g, x, none⟩ = some (.bool (decide (∃ e ∈ L, e.1 = x))) ∧ u2.frozen? ⟨g, x, none⟩ = false ∧ g < u2.heap.size := by
  have hu : Blk u2 g 4 (uC n L) := (hg.block g h.us.lt (by intro x; cases x; exact h.lo.2.2 rfl)).trans h.us
  exact ⟨by rw [hu.cell, uC_at _ hx], hu.frozen _, hu.lt⟩
end Go.Proofs.Ytpdnaceggpdleaa
