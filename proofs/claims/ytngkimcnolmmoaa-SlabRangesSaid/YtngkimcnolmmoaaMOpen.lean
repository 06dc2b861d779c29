/- Arguments opened: points, boxes, rows of points. -/
import Derived.Test.YtngkimcnolmmoaaProg
import Derived.Test.YtngkimcnolmmoaaLeaf
import Derived.Test.YtngkimcnolmmoaaMVecB
import Derived.Test.YtngkimcnolmmoaaSideM
namespace Go.Proofs.Ytngkimcnolmmoaa
open Go.ChangeShapes Go.WideShapes Go.ChangeAt Go.RowKit
set_option linter.unusedVariables false
set_option linter.unusedSimpArgs false
section
variable {H : Type} {enc : TypeId × Value → H} {w : World} {base b0 : Nat} {spare : Nat → Bool} {held : Bool} {v : Value} {d : DataW H} {p : List MemPlace} {r : Reach}
theorem cellsV : Try.prog.cellsOf 23 = 3 := by kernel_rfl
theorem cellsBox : Try.prog.cellsOf 25 = 6 := by kernel_rfl
theorem leavesV : leavesAt Try.prog 10 0 23 = (List.range 3).map fun i => (i, 3) := by kernel_rfl
theorem leavesBox : leavesAt Try.prog 10 0 25 = (List.range 6).map fun i => (i, 3) := by kernel_rfl
def In64 (a : Int) : Prop := -9223372036854775808 ≤ a ∧ a ≤ 9223372036854775807
theorem open_int64 (hv : Value.okWide Try.prog w r b0 3 v) (h : DataW.Trod enc Try.prog w base spare held 3 v d p) : ∃ a : Int, v = .int .i64 a ∧ In64 a := by
  obtain ⟨a, rfl, _, _, wa⟩ := open_int Try.underlying3 hv h
  exact ⟨a, rfl, bounds_i64 wa⟩
theorem open_V (hv : Value.okWide Try.prog w r b0 23 v) (h : DataW.Trod enc Try.prog w base spare held 23 v d p) :
    ∃ x y z : Int, v = .agg #[.int .i64 x, .int .i64 y, .int .i64 z] ∧ In64 x ∧ In64 y ∧ In64 z := by
  obtain ⟨g, rfl, hb⟩ := open_ints_agg Try.underlying23 cellsV leavesV Try.underlying3 hv h
  exact ⟨g 0, g 1, g 2, rfl, hb 0 (by omega), hb 1 (by omega), hb 2 (by omega)⟩
theorem open_Box (hv : Value.okWide Try.prog w r b0 25 v) (h : DataW.Trod enc Try.prog w base spare held 25 v d p) :
    ∃ lx ly lz hx hy hz : Int, v = .agg #[.int .i64 lx, .int .i64 ly, .int .i64 lz, .int .i64 hx, .int .i64 hy, .int .i64 hz] ∧ (In64 lx ∧ In64 ly ∧ In64 lz) ∧ In64 hx ∧ In64 hy ∧ In64 hz := by
  obtain ⟨g, rfl, hb⟩ := open_ints_agg Try.underlying25 cellsBox leavesBox Try.underlying3 hv h
  exact ⟨g 0, g 1, g 2, g 3, g 4, g 5, rfl, ⟨hb 0 (by omega), hb 1 (by omega), hb 2 (by omega)⟩, hb 3 (by omega), hb 4 (by omega), hb 5 (by omega)⟩
theorem lt_of_cell {W : World} {b o : Nat} {s : Option Nat} {u : Value} (h : W.cell? ⟨b, o, s⟩ = some u) : b < W.heap.size ∧ s = none := by
  unfold World.cell? at h
  rcases Nat.lt_or_ge b W.heap.size with hb | hb
  · refine ⟨hb, ?_⟩
    cases s with
    | none => rfl
    | some k =>
      simp only [Option.isSome_some, if_true] at h
      split at h <;> cases h
  · simp only [Array.getElem?_eq_none hb] at h; cases h
theorem open_Vs (hv : Value.okWide Try.prog w r b0 41 v) (h : DataW.Trod enc Try.prog w base spare held 41 v d p) :
    ∃ (A : Option Addr) (n c : Nat) (q : Nat → Int × Int × Int), v = .slice A n c ∧ SL A n c ∧ VF w A n q ∧ ∀ i, i < n → In64 (q i).1 ∧ In64 (q i).2.1 ∧ In64 (q i).2.2 := by
  obtain ⟨fuel, hf⟩ := h
  have hcells : v.cells.toList = [v] := by
    simp only [Value.okWide, Try.underlying41, Cell.okWide] at hv
    cases v <;> simp_all [Cell.ok, Value.cells]
  rw [hcells] at hf
  rcases Go.Deep.open_slice Try.underlying41 hf with ⟨h0, _⟩ | ⟨a, len, cap, m, n, D, Pl, hcs, hb, hl, hm, hmm, _, hi⟩
  · simp only [List.cons.injEq, and_true] at h0
    exact ⟨none, 0, 0, fun _ => (0, 0, 0), h0, ⟨Nat.le_refl _, by unfold maxLen; omega, fun _ => rfl⟩, VF.zero _ _ _, fun i h => absurd h (by omega)⟩
  · simp only [List.cons.injEq, and_true] at hcs
    have hlm : len ≤ m := by rw [hmm]; split <;> omega
    have each : ∀ i, i < len → ∃ q : Int × Int × Int, (w.cell? (a.add (i * 3)) = some (.int .i64 q.1) ∧ w.cell? ((a.add (i * 3)).add 1) = some (.int .i64 q.2.1) ∧ w.cell? ((a.add (i * 3)).add 2) = some (.int .i64 q.2.2)) ∧ In64 q.1 ∧ In64 q.2.1 ∧ In64 q.2.2 := fun i hlt => by
      obtain ⟨cs', hc, ht⟩ := hi i (by omega)
      rw [cellsV] at hc
      obtain ⟨_, hlen, hat⟩ := World.cells?_some hc
      obtain ⟨g, hg, hbd⟩ := ints_trod leavesV Try.underlying3 hlen ht
      subst hg
      refine ⟨(g 0, g 1, g 2), ⟨?_, ?_, ?_⟩, hbd 0 (by omega), hbd 1 (by omega), hbd 2 (by omega)⟩
      · have := hat 0 (by omega); simpa [Addr.add] using this
      · have := hat 1 (by omega); simpa using this
      · have := hat 2 (by omega); simpa using this
    obtain ⟨q, hq⟩ : ∃ q : Nat → Int × Int × Int, ∀ i, i < len → (w.cell? (a.add (i * 3)) = some (.int .i64 (q i).1) ∧ w.cell? ((a.add (i * 3)).add 1) = some (.int .i64 (q i).2.1) ∧ w.cell? ((a.add (i * 3)).add 2) = some (.int .i64 (q i).2.2)) ∧ In64 (q i).1 ∧ In64 (q i).2.1 ∧ In64 (q i).2.2 :=
      ⟨fun i => if h : i < len then Classical.choose (each i h) else (0, 0, 0), fun i hi => by simp only [hi, dif_pos]; exact Classical.choose_spec (each i hi)⟩
    refine ⟨some a, len, cap, q, hcs, ⟨hl, hm, fun h => by cases h⟩, fun hn => ?_, fun i hlt => (hq i hlt).2⟩
    obtain ⟨b, o, s⟩ := a
    have h0 := (hq 0 hn).1.1
    simp only [Nat.zero_mul] at h0
    obtain ⟨hlt, rfl⟩ := lt_of_cell (o := o) (by simpa [Addr.add] using h0)
    refine ⟨b, o, rfl, hlt, fun i hi => ?_⟩
    have hs := (hq i hi).1
    simp only [add_lit] at hs
    exact hs
end
end Go.Proofs.Ytngkimcnolmmoaa

/- Arguments opened: points and triangles. -/
namespace Go.Proofs.Ytngkimcnolmmoaa
open Go.ChangeShapes Go.WideShapes Go.ChangeAt Go.RowKit
set_option linter.unusedVariables false
set_option linter.unusedSimpArgs false
section
variable {H : Type} {enc : TypeId × Value → H} {w : World} {base b0 : Nat} {spare : Nat → Bool} {held : Bool} {v : Value} {d : DataW H} {p : List MemPlace} {r : Reach}
def In3 (a : P3) : Prop := In64 a.x ∧ In64 a.y ∧ In64 a.z
theorem open_V3 (hv : Value.okWide Try.prog w r b0 23 v) (h : DataW.Trod enc Try.prog w base spare held 23 v d p) :
    ∃ a : P3, v = .agg #[.int .i64 a.x, .int .i64 a.y, .int .i64 a.z] ∧ In3 a := by
  obtain ⟨x, y, z, rfl, hx, hy, hz⟩ := open_V hv h
  exact ⟨⟨x, y, z⟩, rfl, hx, hy, hz⟩
theorem cellsTri : Try.prog.cellsOf 34 = 9 := by kernel_rfl
theorem leavesTri : leavesAt Try.prog 10 0 34 = (List.range 9).map fun i => (i, 3) := by kernel_rfl
theorem open_T3 (hv : Value.okWide Try.prog w r b0 34 v) (h : DataW.Trod enc Try.prog w base spare held 34 v d p) :
    ∃ a b c : P3, v = .agg #[.int .i64 a.x, .int .i64 a.y, .int .i64 a.z, .int .i64 b.x, .int .i64 b.y, .int .i64 b.z, .int .i64 c.x, .int .i64 c.y, .int .i64 c.z] ∧ In3 a ∧ In3 b ∧ In3 c := by
  obtain ⟨g, rfl, hb⟩ := open_ints_agg Try.underlying34 cellsTri leavesTri Try.underlying3 hv h
  exact ⟨⟨g 0, g 1, g 2⟩, ⟨g 3, g 4, g 5⟩, ⟨g 6, g 7, g 8⟩, rfl, ⟨hb 0 (by omega), hb 1 (by omega), hb 2 (by omega)⟩, ⟨hb 3 (by omega), hb 4 (by omega), hb 5 (by omega)⟩, hb 6 (by omega), hb 7 (by omega), hb 8 (by omega)⟩
end
end Go.Proofs.Ytngkimcnolmmoaa
