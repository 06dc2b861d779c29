/- What the law of nearness keeps in its loops. -/
import Derived.Test.YtiaikceoodeboaaSubNs
import Derived.Test.YtiaikceoodeboaaC13
namespace Go.Proofs.Ytiaikceoodeboaa
open Go.RowKit
set_option linter.unusedVariables false
set_option linter.unusedSimpArgs false
set_option linter.unnecessarySimpa false
set_option maxRecDepth 100000
structure NK (C T X : Nat) (A1 A2 A3 R1 R2 R3 B1 B2 B3 : Option Addr) (k1 k2 k3 c1 c2 c3 d1 d2 d3 rl2 rl3 kl : Nat) (vs rv : List P3) (fs : List (List Int)) (t : TopoT) (G : Option Addr) (sh : List Int) (w : World) : Prop where
  c : Blk w C 26 #[.slice A1 vs.length k1, .slice A2 fs.length k2, .slice A3 kl k3]
  a : Blk w T 26 #[.slice R1 rv.length c1, .slice R2 rl2 c2, .slice R3 rl3 c3]
  x : Blk w X 36 #[.slice B1 t.es.length d1, .slice B2 t.fans.length d2, .slice B3 t.rs.length d3]
  v1 : VL w A1 vs
  v2 : FL w A2 fs
  r1 : VL w R1 rv
  tv : TopoV w B1 B2 B3 t
  g : IL w G sh
theorem NK.below {C T X : Nat} {A1 A2 A3 R1 R2 R3 B1 B2 B3 : Option Addr} {k1 k2 k3 c1 c2 c3 d1 d2 d3 rl2 rl3 kl : Nat} {vs rv : List P3} {fs : List (List Int)} {t : TopoT} {G : Option Addr} {sh : List Int} {w w' : World} (h : NK C T X A1 A2 A3 R1 R2 R3 B1 B2 B3 k1 k2 k3 c1 c2 c3 d1 d2 d3 rl2 rl3 kl vs rv fs t G sh w) (hb : Below w.heap.size w w') : NK C T X A1 A2 A3 R1 R2 R3 B1 B2 B3 k1 k2 k3 c1 c2 c3 d1 d2 d3 rl2 rl3 kl vs rv fs t G sh w' :=
  ⟨h.c.below hb, h.a.below hb, h.x.below hb, h.v1.below hb, h.v2.below hb, h.r1.below hb, h.tv.below hb, h.g.below hb⟩
theorem own_empty3 (W : World) (base : Nat) (e : TypeId) (hb : base ≤ W.heap.size) : (W.alloc (.cells #[] e)).ownsRow base e 3 (.slice (some ⟨W.heap.size, 0, none⟩) 0 0) 0 [] :=
  ⟨rfl, .inr ⟨W.heap.size, 0, #[], rfl, hb, Blk.new _ _ _ _ rfl, Nat.le_refl _, by unfold maxLen; omega, rfl, rfl⟩⟩
theorem sums_next (vs : List P3) (fs : List (List Int)) (i : Nat) (h : i < fs.length) : (sumsL vs fs).take (i + 1) = (sumsL vs fs).take i ++ [sumP vs fs[i]] := by
  have h2 : i < (sumsL vs fs).length := by simpa [sumsL] using h
  rw [List.take_succ_eq_append_getElem h2]
  simp [sumsL]
theorem sums_len (vs : List P3) (fs : List (List Int)) (i : Nat) (h : i ≤ fs.length) : ((sumsL vs fs).take i).length = i := by simp [sumsL]; omega
theorem sP_next (vs : List P3) (x : List Int) (k : Nat) (h : k < x.length) : adW (sP vs (x.take k)) (vat vs x[k]) = sP vs (x.take (k + 1)) := by
  unfold sP
  rw [List.take_succ_eq_append_getElem h, List.map_append, List.map_singleton, foldP_snoc]
theorem VL_cells1 {w : World} {bb : Nat} {p : P3} (h : VL w (some ⟨bb, 0, none⟩) [p]) : ∀ (j : Nat) (u : Value), [Value.int .i64 p.x, Value.int .i64 p.y, Value.int .i64 p.z][j]? = some u → w.cell? ((⟨bb, 0, none⟩ : Addr).add j) = some u := by
  intro j u hu
  obtain ⟨b, off, e, hl, c0, c1, c2⟩ := h.at_ 0 (by simp)
  obtain ⟨rfl, rfl⟩ : bb = b ∧ 0 = off := by simpa using e
  rw [Addr.add_mid]
  match j, hu with
  | 0, hu => simp at hu; subst hu; simpa using c0
  | 1, hu => simp at hu; subst hu; simpa using c1
  | 2, hu => simp at hu; subst hu; simpa using c2
  | j + 3, hu => simp at hu
theorem div840 {n : Nat} (h : 3 ≤ n ∧ n ≤ 8) : IntKind.i64.wrap (Int.tdiv 840 (n : Int)) = 840 / (n : Int) := by
  rcases (by omega : n = 3 ∨ n = 4 ∨ n = 5 ∨ n = 6 ∨ n = 7 ∨ n = 8) with rfl | rfl | rfl | rfl | rfl | rfl <;> rfl
theorem alloc_V9 (a : Act) (o : Oper) (ho : o.op = .alloc 42) (w : World) : (execOp a.eval o).run Try.prog w = .ok (.value (.pointer (some ⟨w.heap.size, 0, none⟩))) (w.alloc (.cells #[.int .i64 0, .int .i64 0, .int .i64 0] 42)) := by
  unfold execOp
  rw [ho]
  kernel_rfl
theorem sumsL_len (vs : List P3) (fs : List (List Int)) : (sumsL vs fs).length = fs.length := by simp [sumsL]
theorem VL_sums {w : World} {base c : Nat} {e : TypeId} {A : Option Addr} {vs : List P3} {fs : List (List Int)} (h : w.ownsRow base e 3 (.slice A fs.length c) fs.length (kC ((sumsL vs fs).take fs.length))) : VL w A (sumsL vs fs) := by
  rw [List.take_of_length_le (by rw [sumsL_len]; exact Nat.le_refl _)] at h
  exact VL_own (c := c) (by rw [sumsL_len]; exact h)
theorem getD_ed {l : List Ed} {i : Nat} (h : i < l.length) : l.getD i ed0 = l[i] := by rw [List.getD_eq_getElem?_getD, List.getElem?_eq_getElem h]; rfl
theorem getD_int {l : List Int} {i : Nat} (h : i < l.length) : l.getD i 0 = l[i] := by rw [List.getD_eq_getElem?_getD, List.getElem?_eq_getElem h]; rfl
theorem oth_next (v : Int) (es : List Ed) (sh : List Int) (i : Nat) (h1 : i < es.length) (h2 : i < sh.length) : othE v ((es.zip sh).take (i + 1)) = othE v ((es.zip sh).take i) ++ (other v es[i]).toList ∧ othS v ((es.zip sh).take (i + 1)) = othS v ((es.zip sh).take i) ++ (if sh[i] = 0 then none else other v es[i]).toList := by
  have hz : i < (es.zip sh).length := by simp; omega
  unfold othE othS
  rw [List.take_succ_eq_append_getElem hz, List.filterMap_append, List.filterMap_append]
  simp only [List.getElem_zip]
  constructor
  · cases h : other v es[i] <;> simp [h]
  · by_cases h0 : sh[i] = 0
    · simp [h0]
    · cases h : other v es[i] <;> simp [h, h0]
theorem n840 {n : Nat} (h : n ≤ 300) (h1 : 1 ≤ n) : -840 ≤ 840 * (n : Int) * ((n : Int) - 2) ∧ 840 * (n : Int) * ((n : Int) - 2) ≤ 75600000 ∧ 0 ≤ 840 * (n : Int) * (n : Int) ∧ 840 * (n : Int) * (n : Int) ≤ 75600000 := by
  have e1 : 840 * (n : Int) * ((n : Int) - 2) = 840 * ((n : Int) * (n : Int)) - 1680 * (n : Int) := by grind
  have e2 : 840 * (n : Int) * (n : Int) = 840 * ((n : Int) * (n : Int)) := by grind
  have h2 := Int.mul_le_mul_of_nonneg_left (show (n : Int) ≤ 300 by omega) (show 0 ≤ (n : Int) by omega)
  have h3 := Int.mul_le_mul_of_nonneg_left (show (1 : Int) ≤ n by omega) (show 0 ≤ (n : Int) by omega)
  have h4 : (0 : Int) ≤ ((n : Int) - 1) * ((n : Int) - 1) := by
    apply Int.mul_nonneg <;> omega
  have e4 : ((n : Int) - 1) * ((n : Int) - 1) = (n : Int) * (n : Int) - 2 * (n : Int) + 1 := by grind
  rw [e1, e2]
  generalize (n : Int) * (n : Int) = N at *
  omega
/-- Both Builds tell the same. -/
theorem near_two {vs : List P3} {fs : List (List Int)} {ks : List P3} {r : Cg} {er ee : Int} {t : TopoT} (h : LevR ⟨vs, fs, ks⟩ r er) (hB : (ee = 0 ∧ Surf (vs.length : Int) fs ∧ TopoS (vs.length : Int) fs t) ∨ ee = 14) : (er = 14 ∨ er = 21) ∨ er = 0 ∧ (ee = 14 ∨ ee = 0 ∧ ∃ sh, TopoS (vs.length : Int) fs t ∧ sharpP t.es ks = some sh ∧ (∀ p ∈ vs, InP 65536 p) ∧ r = levC ⟨vs, fs, ks⟩ t sh) := by
  cases h with
  | noSurf hn => exact .inl (.inl rfl)
  | noEdge u hT he => exact .inl (.inl rfl)
  | large u hT sh he hf => exact .inl (.inr rfl)
  | fine u hT sh he hf =>
    refine .inr ⟨rfl, ?_⟩
    rcases hB with ⟨rfl, _, hT2⟩ | rfl
    · have e := topo_one9 hT2 hT
      subst e
      exact .inr ⟨rfl, sh, hT2, he, hf, rfl⟩
    · exact .inl rfl
end Go.Proofs.Ytiaikceoodeboaa
