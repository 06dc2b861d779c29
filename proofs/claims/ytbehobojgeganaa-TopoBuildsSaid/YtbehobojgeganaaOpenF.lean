/- Faces that are handed in, opened. -/
import Derived.Test.YtbehobojgeganaaLeafW
import Derived.Test.YtbehobojgeganaaTop1
import Derived.Test.YtbehobojgeganaaPost
namespace Go.Proofs.Ytbehobojgeganaa
open Go.ChangeShapes Go.WideShapes Go.ChangeAt Go.RowKit
set_option linter.unusedVariables false
set_option linter.unusedSimpArgs false
set_option maxRecDepth 100000
theorem reach_num : reachBytes = 140737488351232 := rfl
section
variable {H : Type} {enc : TypeId × Value → H} {w : World} {base : Nat} {spare : Nat → Bool} {held : Bool}
theorem row_ints {t : TypeId} {k : Nat} {r : List Value} (hl : leavesAt Try.prog 10 0 t = (List.range k).map fun i => (i, 3)) (hk : r.length = k) (h : TW enc Try.prog w base spare held t r) :
    ∃ l : List Int, l.length = k ∧ (∀ y ∈ l, i64B y) ∧ ∀ i, i < k → r[i]? = some (.int .i64 (l.getD i 0)) := by
  obtain ⟨fu, x, hx, _⟩ := h
  obtain ⟨g, hg, hb⟩ := ints_trod hl Try.underlying3 hk hx
  refine ⟨(List.range k).map g, by simp, fun y hy => ?_, fun i hi => ?_⟩
  · obtain ⟨i, hi, rfl⟩ := List.mem_map.1 hy
    exact hb i (by simpa using hi)
  · rw [hg]
    simp [hi]
theorem ext_k {r s : List Value} {k : Nat} (hr : r.length = k) (hs : s.length = k) (h : ∀ i, i < k → r[i]? = s[i]?) : r = s := by
  apply List.ext_getElem?
  intro i
  by_cases hi : i < k
  · exact h i hi
  · rw [List.getElem?_eq_none (by omega), List.getElem?_eq_none (by omega)]
theorem len_rows {sz : Nat} {A : Option Addr} {n : Nat} {rows : List (List Value)} (hn : rows.length = n) (h : 0 < n → ∃ b off, A = some ⟨b, off, none⟩ ∧ b < w.heap.size ∧ ∀ i (hi : i < rows.length), rows[i].length = sz ∧ ∀ j, j < sz → w.cell? ⟨b, off + i * sz + j, none⟩ = rows[i][j]?) : ∀ r ∈ rows, r.length = sz := fun r hr => by
  obtain ⟨i, hi, rfl⟩ := List.getElem_of_mem hr
  obtain ⟨b, off, _, _, hc⟩ := h (by omega)
  exact (hc i hi).1
theorem szV : Try.prog.cellsOf 53 = 3 := by kernel_rfl
theorem szCr : Try.prog.cellsOf 69 = 3 := by kernel_rfl
theorem szCg : Try.prog.cellsOf 48 = 3 := by kernel_rfl
theorem szIn : Try.prog.cellsOf 3 = 1 := by kernel_rfl
theorem szIs : Try.prog.cellsOf 41 = 1 := by kernel_rfl
theorem byV : Try.prog.bytesOf 53 = 24 := by kernel_rfl
theorem byCr : Try.prog.bytesOf 69 = 24 := by kernel_rfl
theorem byIn : Try.prog.bytesOf 3 = 8 := by kernel_rfl
theorem byIs : Try.prog.bytesOf 41 = 24 := by kernel_rfl
theorem lvI : leavesAt Try.prog 10 0 3 = (List.range 1).map fun i => (i, 3) := by kernel_rfl
theorem lvV : leavesAt Try.prog 10 0 53 = (List.range 3).map fun i => (i, 3) := by kernel_rfl
theorem lvCr : leavesAt Try.prog 10 0 69 = (List.range 3).map fun i => (i, 3) := by kernel_rfl
theorem lvCg : leavesAt Try.prog 10 0 48 = [(0, 45), (1, 22), (2, 46)] := by kernel_rfl
theorem tw_intsF {c : Value} (h : TW enc Try.prog w base spare held 41 [c]) : ∃ (A : Option Addr) (k : Nat) (l : List Int), c = .slice A l.length k ∧ l.length ≤ reachBytes ∧ (∀ x ∈ l, i64B x) ∧ IL w A l := by
  obtain ⟨A, n, k, rows, rfl, hn, hb, hr, ht⟩ := tw_slice Try.underlying41 szIn byIn (by omega) h
  have hl := len_rows hn hr
  obtain ⟨ps, rfl, hps⟩ := list_of (fun x : Int => [Value.int .i64 x]) (fun x => -9223372036854775808 ≤ x ∧ x ≤ 9223372036854775807) rows (fun r hr => by
    obtain ⟨l, h1, h2, h3⟩ := row_ints lvI (hl r hr) (ht r hr)
    obtain ⟨x, rfl⟩ : ∃ x, l = [x] := by
      match l, h1 with
      | [x], _ => exact ⟨x, rfl⟩
    exact ⟨x, ext_k (hl r hr) rfl (fun i hi => by obtain rfl : i = 0 := by omega
                                                  rw [h3 0 (by omega)]; rfl), h2 x (by simp)⟩)
  have hn2 : ps.length = n := by simpa using hn
  refine ⟨A, k, ps, by rw [hn2], by omega, hps, fun h0 => ?_⟩
  obtain ⟨b, off, e, hb, hc⟩ := hr (by omega)
  refine ⟨b, off, e, hb, fun i hi => ?_⟩
  have := (hc i (by simpa using hi)).2 0 (by omega)
  rw [Nat.add_zero, Nat.mul_one] at this
  rw [this, List.getElem_map]; rfl
theorem tw_rowsF {t e : TypeId} {sz bz : Nat} {c : Value} {β : Type} (F : List Value → β → Prop) (hu : Try.prog.underlying t = some (.slice e)) (hsz : Try.prog.cellsOf e = sz) (hbz : Try.prog.bytesOf e = bz) (h1 : 1 ≤ bz) (h0 : 0 < sz) (hF : ∀ r : List Value, r.length = sz → TW enc Try.prog w base spare held e r → ∃ q, F r q) (h : TW enc Try.prog w base spare held t [c]) :
    ∃ (A : Option Addr) (kk : Nat) (ps : List β), c = .slice A ps.length kk ∧ ps.length ≤ reachBytes ∧ (∀ q ∈ ps, ∃ r, F r q) ∧ (0 < ps.length → ∃ b off, A = some ⟨b, off, none⟩ ∧ b < w.heap.size ∧ ∀ i (hi : i < ps.length), ∃ r, F r ps[i] ∧ ∀ j, j < sz → w.cell? ⟨b, off + i * sz + j, none⟩ = r[j]?) := by
  obtain ⟨A, n, kk, rows, rfl, hn, hb, hr, ht⟩ := tw_slice hu hsz hbz h0 h
  have hln := len_rows hn hr
  have hm : ∀ rows : List (List Value), (∀ r ∈ rows, ∃ q, F r q) → ∃ ps : List β, ps.length = rows.length ∧ ∀ i (h1 : i < rows.length) (h2 : i < ps.length), F rows[i] ps[i] := by
    intro rows
    induction rows with
    | nil => exact fun _ => ⟨[], rfl, fun i h1 _ => absurd h1 (by simp)⟩
    | cons a l ih =>
      intro h
      obtain ⟨q, hq⟩ := h a (by simp)
      obtain ⟨ps, hl, hps⟩ := ih (fun r hr => h r (by simp [hr]))
      refine ⟨q :: ps, by simp [hl], fun i h1 h2 => ?_⟩
      cases i with
      | zero => exact hq
      | succ i => exact hps i (by simpa using h1) (by simpa using h2)
  obtain ⟨ps, hl, hps⟩ := hm rows (fun r hr => hF r (hln r hr) (ht r hr))
  refine ⟨A, kk, ps, by rw [hl, hn], by have := Nat.mul_le_mul_left n h1; omega, fun q hq => ?_, fun hp => ?_⟩
  · obtain ⟨i, hi, rfl⟩ := List.getElem_of_mem hq
    exact ⟨_, hps i (by omega) hi⟩
  · obtain ⟨b, off, e, hb2, hc⟩ := hr (by omega)
    exact ⟨b, off, e, hb2, fun i hi => ⟨_, hps i (by omega) hi, (hc i (by omega)).2⟩⟩
theorem tw_facesF {c : Value} (h : TW enc Try.prog w base spare held 22 [c]) : ∃ (A : Option Addr) (kk : Nat) (ps : List (List Int)), c = .slice A ps.length kk ∧ ps.length ≤ reachBytes ∧ (∀ q ∈ ps, q.length ≤ reachBytes ∧ (∀ x ∈ q, i64B x)) ∧ FL w A ps := by
  obtain ⟨A, kk, ps, e, hl, hq, hr⟩ := tw_rowsF (β := List Int) (fun r q => ∃ B m, r = [.slice B q.length m] ∧ q.length ≤ reachBytes ∧ (∀ x ∈ q, i64B x) ∧ IL w B q) Try.underlying22 szIs byIs (by omega) (by omega) (fun r hr1 ht => by
    obtain ⟨_, c0, hc0, ht0⟩ := tw_leaf 10 41 0 0 41 (by rw [show leavesAt Try.prog 10 0 41 = [(0, 41)] by kernel_rfl]; simp) r ht
    obtain ⟨B, m, l, rfl, h2, h3, h4⟩ := tw_intsF ht0
    exact ⟨l, B, m, ext_k hr1 rfl (fun i hi => by obtain rfl : i = 0 := by omega
                                                  simpa using hc0), h2, h3, h4⟩) h
  refine ⟨A, kk, ps, e, hl, fun q hq' => ?_, fun h0 => ?_⟩
  · obtain ⟨r, B, m, _, h2, h3, _⟩ := hq q hq'
    exact ⟨h2, h3⟩
  · obtain ⟨b, off, e, hk, hc⟩ := hr h0
    refine ⟨b, off, e, hk, fun i hi => ?_⟩
    obtain ⟨r, ⟨B, m, rfl, _, _, h4⟩, h5⟩ := hc i hi
    have := h5 0 (by omega)
    rw [Nat.add_zero, Nat.mul_one] at this
    exact ⟨B, m, this, h4⟩
theorem row_lens {ps : List (List Int)} (h : ∀ q ∈ ps, q.length ≤ reachBytes ∧ (∀ x ∈ q, i64B x)) : (∀ x ∈ ps, x.length < 1099511627776000) ∧ (∀ x ∈ ps, ∀ y ∈ x, i64B y) :=
  ⟨fun x hx => by have := (h x hx).1; rw [reach_num] at this; omega, fun x hx => (h x hx).2⟩
end
end Go.Proofs.Ytbehobojgeganaa
