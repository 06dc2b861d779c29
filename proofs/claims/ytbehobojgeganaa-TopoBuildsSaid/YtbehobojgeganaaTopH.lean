/- Find of the program and of the document. -/
import Derived.Test.YtbehobojgeganaaTopG
namespace Go.Proofs.Ytbehobojgeganaa
open Go.RowKit
set_option linter.unusedVariables false
set_option linter.unusedSimpArgs false
set_option linter.unnecessarySimpa false
set_option maxRecDepth 100000
open Go.Sort


/-- What Find answers: the place of the edge between two vertices, if there is one. -/
def FindP (es : List Ed) (a b : Int) (k : Nat) (ok : Bool) : Prop := (ok = true ∧ ∃ h : k < es.length, es[k].a = min a b ∧ es[k].b = max a b) ∨ (ok = false ∧ k = 0 ∧ ∀ e ∈ es, ¬(e.a = min a b ∧ e.b = max a b))
theorem FindP.one {es : List Ed} (hs : es.Pairwise ltE) {a b : Int} {k l : Nat} {p q : Bool} (h : FindP es a b k p) (g : FindP es a b l q) : k = l ∧ p = q := by
  rcases h with ⟨rfl, hk, h1, h2⟩ | ⟨rfl, rfl, h3⟩ <;> rcases g with ⟨rfl, hl, g1, g2⟩ | ⟨rfl, rfl, g3⟩
  · refine ⟨?_, rfl⟩
    apply Classical.byContradiction
    intro hne
    rcases Nat.lt_or_ge k l with hkl | hkl
    · have := List.pairwise_iff_getElem.1 hs k l hk hl hkl
      unfold ltE at this; omega
    · have := List.pairwise_iff_getElem.1 hs l k hl hk (by omega)
      unfold ltE at this; omega
  · exact absurd ⟨h1, h2⟩ (g3 _ (List.getElem_mem hk))
  · exact absurd ⟨g1, g2⟩ (h3 _ (List.getElem_mem hl))
  · exact ⟨rfl, rfl⟩
set_option maxHeartbeats 1000000 in
theorem find_any (W : World) (A1 A2 A3 : Option Addr) (n2 n3 c1 c2 c3 : Nat) (es : List Ed) (a b : Int) (hE : EL W A1 es) (hn : es.length < 1099511627776) (hs : es.Pairwise ltE) :
    Calls Try.prog 21 #[.agg #[.slice A1 es.length c1, .slice A2 n2 c2, .slice A3 n3 c3], .int .i64 a, .int .i64 b] W fun e W' => ∃ (k : Nat) (ok : Bool), e = .returned (.tuple #[.int .i64 (k : Int), .bool ok]) ∧ FindP es a b k ok ∧ Below W.heap.size W W' := by
  have hb0 : Below W.heap.size W (W.alloc (.cells #[.slice A1 es.length c1, .slice A2 n2 c2, .slice A3 n3 c3] 29)) := bel_alloc (Below.refl _ _) _
  have hbx : Blk (W.alloc (.cells #[.slice A1 es.length c1, .slice A2 n2 c2, .slice A3 n3 c3] 29)) W.heap.size 29 #[.slice A1 es.length c1, .slice A2 n2 c2, .slice A3 n3 c3] := Blk.new _ _ _ _ rfl
  go_enter Try.func21, Try.ntmps21
  go_upto_region 1 with (fail)
  generalize W.alloc (.cells #[.slice A1 es.length c1, .slice A2 n2 c2, .slice A3 n3 c3] 29) = W1 at *
  have x0 : W1.cell? ⟨W.heap.size, 0, none⟩ = some (.slice A1 es.length c1) := hbx.cell 0
  have xl := hbx.lt
  have cB := bsearch_any W1 A1 c1 es (min a b) (max a b) (hE.below hb0) hn hs
  replace cB := Lib.hid cB
  go_wp2_with (first | (go_at_call 47; (with_reducible refine cB.out.mono ?_); rintro e W2 ⟨i, hi, hlo, hhi, rfl, hb2⟩; replace hlo := Lib.hid hlo; replace hhi := Lib.hid hhi; obtain ⟨bb, hbb⟩ : ∃ bb, decide (i < es.length ∧ atE es i (min a b) (max a b) = 0) = bb := ⟨_, rfl⟩; rw [hbb]; replace hbb := Lib.hid hbb; cases bb) | fail)
  rotate_left
  · go_ret2
    obtain ⟨h1, h2⟩ := of_decide_eq_true hbb.out
    have h3 : cf2 es[i].a es[i].b (min a b) (max a b) = 0 := by simpa [atE, h1] using h2
    exact ⟨i, true, rfl, .inl ⟨rfl, h1, (cf2_zero _ _ _ _).1 h3⟩, bel_trans hb0 hb2⟩
  · go_ret2
    have hd := of_decide_eq_false hbb.out
    refine ⟨0, false, rfl, .inr ⟨rfl, rfl, fun e he hh => ?_⟩, bel_trans hb0 hb2⟩
    obtain ⟨k, hk, rfl⟩ := List.getElem_of_mem he
    have hz := (cf2_zero es[k].a es[k].b (min a b) (max a b)).2 hh
    rcases Nat.lt_or_ge k i with h1 | h1
    · have := hlo.out k hk h1; omega
    · by_cases e : k = i
      · subst e
        exact hd ⟨hk, by simpa [atE, hk] using hz⟩
      · have h2 := hhi.out i (by omega) (Nat.le_refl _)
        have h3 := List.pairwise_iff_getElem.1 hs i k (by omega) hk (by omega)
        have h4 : cf2 (es[i]'(by omega)).a (es[i]'(by omega)).b (min a b) (max a b) < 0 := by
          rw [cf2_neg]
          unfold ltE at h3
          omega
        omega
set_option maxHeartbeats 2000000 in
theorem rfind_any (W : World) (A1 A2 A3 : Option Addr) (n2 n3 c1 c2 c3 : Nat) (es : List Ed) (a b : Int) (hE : EL W A1 es) (hn : es.length < 1099511627776) :
    Calls Try.prog 22 #[.agg #[.slice A1 es.length c1, .slice A2 n2 c2, .slice A3 n3 c3], .int .i64 a, .int .i64 b] W fun e W' => ∃ (k : Nat) (ok : Bool), e = .returned (.tuple #[.int .i64 (k : Int), .bool ok]) ∧ FindP es a b k ok ∧ Below W.heap.size W W' := by
  have hb0 : Below W.heap.size W (W.alloc (.cells #[.slice A1 es.length c1, .slice A2 n2 c2, .slice A3 n3 c3] 29)) := bel_alloc (Below.refl _ _) _
  have hbx : Blk (W.alloc (.cells #[.slice A1 es.length c1, .slice A2 n2 c2, .slice A3 n3 c3] 29)) W.heap.size 29 #[.slice A1 es.length c1, .slice A2 n2 c2, .slice A3 n3 c3] := Blk.new _ _ _ _ rfl
  go_enter Try.func22, Try.ntmps22
  go_upto_region 1 with (fail)
  generalize W.alloc (.cells #[.slice A1 es.length c1, .slice A2 n2 c2, .slice A3 n3 c3] 29) = W1 at *
  have x0 : W1.cell? ⟨W.heap.size, 0, none⟩ = some (.slice A1 es.length c1) := hbx.cell 0
  have xl := hbx.lt
  go_wp2
  go_loopw [8] (fun iv wr => wr = W1 ∧ ∃ i : Nat, iv = .int .i64 (i : Int) ∧ i ≤ es.length ∧ ∀ k (h : k < es.length), k < i → ¬(es[k].a = min a b ∧ es[k].b = max a b)) (fun iv _ => es.length - (intOf iv).toNat)
  case atStart => exact ⟨rfl, 0, rfl, by omega, fun k _ h => by omega⟩
  case round =>
    obtain ⟨rfl, i, rfl, hi, hlo⟩ := hrel
    replace hlo := Lib.hid hlo
    by_cases hil : i < es.length
    · obtain ⟨b9, off, rfl, hbl, hc⟩ := (hE.below hb0) (by omega)
      obtain ⟨g0, g1, _, _⟩ := hc i hil
      clear hc
      have k0 : (0 : Int) ≤ (i : Int) := by omega
      have k1 : (i : Int) < (es.length : Int) := by omega
      have hyes : es[i].a = min a b → es[i].b = max a b → FindP es a b i true := fun h1 h2 => .inl ⟨rfl, hil, h1, h2⟩
      have hno : ¬(es[i].a = min a b ∧ es[i].b = max a b) → ∀ k (h : k < es.length), k < i + 1 → ¬(es[k].a = min a b ∧ es[k].b = max a b) := fun h1 k hk hk2 => by
        by_cases e : k = i
        · subst e; exact h1
        · exact hlo.out k hk (by omega)
      replace hyes := Lib.hid hyes
      replace hno := Lib.hid hno
      generalize es[i].a = ea at *
      generalize es[i].b = eb at *
      by_cases d1 : ea = min a b
      · have d1b : (ea == min a b) = true := by simpa using d1
        by_cases d2 : eb = max a b
        · have d2b : (eb == max a b) = true := by simpa using d2
          have hy := Lib.hid (hyes.out d1 d2)
          clear d1 d2
          go_wp2
          go_ret2
          exact ⟨i, true, rfl, hy.out, hb0⟩
        · have d2b : (eb == max a b) = false := by simpa using d2
          have hy := Lib.hid (hno.out (fun h => d2 h.2))
          clear d1 d2
          go_wp2
          go_roundw
          case rel => exact ⟨trivial, i + 1, by go_num, by omega, hy.out⟩
          case measure => simp [intOf]; omega
      · have d1b : (ea == min a b) = false := by simpa using d1
        have hy := Lib.hid (hno.out (fun h => d1 h.1))
        clear d1
        go_wp2
        go_roundw
        case rel => exact ⟨trivial, i + 1, by go_num, by omega, hy.out⟩
        case measure => simp [intOf]; omega
    · obtain rfl : i = es.length := by omega
      go_wp2
      go_ret2
      exact ⟨0, false, rfl, .inr ⟨rfl, rfl, fun e he => by obtain ⟨k, hk, rfl⟩ := List.getElem_of_mem he; exact hlo.out k hk hk⟩, hb0⟩
end Go.Proofs.Ytbehobojgeganaa