/- A row of points opened, beside the openers of the later stages. -/
import Derived.Test.YtpdnaceggpdleabProg
import Derived.Test.YtpdnaceggpdleabC0
import Derived.Test.YtpdnaceggpdleabC7
import Derived.Test.YtpdnaceggpdleabC13
namespace Go.Proofs.Ytpdnaceggpdleab
open Go.ChangeShapes Go.WideShapes Go.ChangeAt Go.RowKit
set_option linter.unusedVariables false
set_option linter.unusedSimpArgs false
set_option maxRecDepth 100000
/-- What a slice's value is like. -/
def SL (A : Option Addr) (n c : Nat) : Prop := n ≤ c ∧ c ≤ maxLen ∧ (A = none → c = 0)
section
variable {H : Type} {enc : TypeId × Value → H} {w : World} {base b0 : Nat} {spare : Nat → Bool} {held : Bool} {v : Value} {d : DataW H} {p : List MemPlace} {r : Reach}
theorem cellsVv : Try.prog.cellsOf 30 = 3 := by kernel_rfl
theorem leavesVv : leavesAt Try.prog 10 0 30 = (List.range 3).map fun i => (i, 3) := by kernel_rfl
def In64v (a : Int) : Prop := -9223372036854775808 ≤ a ∧ a ≤ 9223372036854775807
theorem lt_of_cellv {W : World} {b o : Nat} {s : Option Nat} {u : Value} (h : W.cell? ⟨b, o, s⟩ = some u) : b < W.heap.size ∧ s = none := by
  unfold World.cell? at h
  rcases Nat.lt_or_ge b W.heap.size with hb | hb
  · refine ⟨hb, ?_⟩
    cases s with
    | none => rfl
    | some k =>
      simp only [Option.isSome_some, if_true] at h
      split at h <;> cases h
  · simp only [Array.getElem?_eq_none hb] at h; cases h
theorem open_Vs (hv : Value.okWide Try.prog w r b0 22 v) (h : DataW.Trod enc Try.prog w base spare held 22 v d p) :
    ∃ (A : Option Addr) (n c : Nat) (q : Nat → Int × Int × Int), v = .slice A n c ∧ SL A n c ∧ VF w A n q ∧ ∀ i, i < n → In64v (q i).1 ∧ In64v (q i).2.1 ∧ In64v (q i).2.2 := by
  obtain ⟨fuel, hf⟩ := h
  have hcells : v.cells.toList = [v] := by
    simp only [Value.okWide, Try.underlying22, Cell.okWide] at hv
    cases v <;> simp_all [Cell.ok, Value.cells]
  rw [hcells] at hf
  rcases Go.Deep.open_slice Try.underlying22 hf with ⟨h0, _⟩ | ⟨a, len, cap, m, n, D, Pl, hcs, hb, hl, hm, hmm, _, hi⟩
  · simp only [List.cons.injEq, and_true] at h0
    exact ⟨none, 0, 0, fun _ => (0, 0, 0), h0, ⟨Nat.le_refl _, by unfold maxLen; omega, fun _ => rfl⟩, VF.zero _ _ _, fun i h => absurd h (by omega)⟩
  · simp only [List.cons.injEq, and_true] at hcs
    have hlm : len ≤ m := by rw [hmm]; split <;> omega
    have each : ∀ i, i < len → ∃ q : Int × Int × Int, (w.cell? (a.add (i * 3)) = some (.int .i64 q.1) ∧ w.cell? ((a.add (i * 3)).add 1) = some (.int .i64 q.2.1) ∧ w.cell? ((a.add (i * 3)).add 2) = some (.int .i64 q.2.2)) ∧ In64v q.1 ∧ In64v q.2.1 ∧ In64v q.2.2 := fun i hlt => by
      obtain ⟨cs', hc, ht⟩ := hi i (by omega)
      rw [cellsVv] at hc
      obtain ⟨_, hlen, hat⟩ := World.cells?_some hc
      obtain ⟨g, hg, hbd⟩ := ints_trod leavesVv Try.underlying3 hlen ht
      subst hg
      refine ⟨(g 0, g 1, g 2), ⟨?_, ?_, ?_⟩, hbd 0 (by omega), hbd 1 (by omega), hbd 2 (by omega)⟩
      · have := hat 0 (by omega); simpa [Addr.add] using this
      · have := hat 1 (by omega); simpa using this
      · have := hat 2 (by omega); simpa using this
    obtain ⟨q, hq⟩ : ∃ q : Nat → Int × Int × Int, ∀ i, i < len → (w.cell? (a.add (i * 3)) = some (.int .i64 (q i).1) ∧ w.cell? ((a.add (i * 3)).add 1) = some (.int .i64 (q i).2.1) ∧ w.cell? ((a.add (i * 3)).add 2) = some (.int .i64 (q i).2.2)) ∧ In64v (q i).1 ∧ In64v (q i).2.1 ∧ In64v (q i).2.2 :=
      ⟨fun i => if h : i < len then Classical.choose (each i h) else (0, 0, 0), fun i hi => by simp only [hi, dif_pos]; exact Classical.choose_spec (each i hi)⟩
    refine ⟨some a, len, cap, q, hcs, ⟨hl, hm, fun h => by cases h⟩, fun hn => ?_, fun i hlt => (hq i hlt).2⟩
    obtain ⟨b, o, s⟩ := a
    have h0 := (hq 0 hn).1.1
    simp only [Nat.zero_mul] at h0
    obtain ⟨hlt, rfl⟩ := lt_of_cellv (o := o) (by simpa [Addr.add] using h0)
    refine ⟨b, o, rfl, hlt, fun i hi => ?_⟩
    have hs := (hq i hi).1
    simp only [add_lit] at hs
    exact hs
end
end Go.Proofs.Ytpdnaceggpdleab
