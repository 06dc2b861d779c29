/- Arguments opened: a patch, a skin, a row of textures. -/
import Derived.Test.YtpaehkjnefgaiaaC8
import Derived.Test.YtpaehkjnefgaiaaC10
import Derived.Test.YtpaehkjnefgaiaaC16
namespace Go.Proofs.Ytpaehkjnefgaiaa
open Go.ChangeShapes Go.WideShapes Go.ChangeAt Go.RowKit
set_option linter.unusedVariables false
set_option linter.unusedSimpArgs false
set_option maxRecDepth 100000
section
variable {H : Type} {enc : TypeId × Value → H} {w : World} {base b0 : Nat} {spare : Nat → Bool} {held : Bool} {v : Value} {d : DataW H} {p : List MemPlace} {r : Reach}
theorem cellsPch : Try.prog.cellsOf 28 = 65 := by kernel_rfl
theorem leavesPch : leavesAt Try.prog 10 0 28 = (List.range 65).map fun i => (i, 3) := by kernel_rfl
def PchI (P : Pch) : Prop := (∀ k, k < 16 → In3 (P.pt k)) ∧ (∀ k, k < 4 → In64 (P.co k)) ∧ ∀ k, k < 4 → In3 (P.nm k)
theorem open_Pch (hv : Value.okWide Try.prog w r b0 28 v) (h : DataW.Trod enc Try.prog w base spare held 28 v d p) :
    ∃ P : Pch, v = .agg P.row ∧ PchI P := by
  obtain ⟨cs, rfl, hsz⟩ := okWide_struct Try.underlying28 hv
  obtain ⟨n, hn⟩ := h
  obtain ⟨g, hg, hb⟩ := ints_trod leavesPch Try.underlying3 (by simpa [Value.cells] using hsz.trans cellsPch) hn
  refine ⟨⟨fun k => ⟨g (k * 3), g (k * 3 + 1), g (k * 3 + 2)⟩, fun k => g (48 + k), fun k => ⟨g (52 + k * 3), g (52 + k * 3 + 1), g (52 + k * 3 + 2)⟩, g 64⟩, ?_, fun k hk => ⟨hb _ (by omega), hb _ (by omega), hb _ (by omega)⟩, fun k hk => hb _ (by omega), fun k hk => ⟨hb _ (by omega), hb _ (by omega), hb _ (by omega)⟩⟩
  simp only [Value.cells] at hg
  have e : cs = ((List.range 65).map fun i => Value.int .i64 (g i)).toArray := Array.ext' (by simpa using hg)
  rw [e]
  congr 1
end
end Go.Proofs.Ytpaehkjnefgaiaa
