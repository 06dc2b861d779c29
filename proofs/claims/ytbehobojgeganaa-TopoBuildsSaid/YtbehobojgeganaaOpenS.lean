/- An argument that is a text. -/
import Derived.Test.YtbehobojgeganaaLeaf
import Derived.Test.YtbehobojgeganaaProg
import Derived.ChangeMaps5
namespace Go.Proofs.Ytbehobojgeganaa
open Go.RowKit Go.ChangeShapes Go.WideShapes Go.ChangeAt Go.ChangeMaps
set_option linter.unusedVariables false
set_option linter.unusedSimpArgs false
section
variable {H : Type} {enc : TypeId × Value → H} {w : World} {base b0 : Nat} {spare : Nat → Bool} {held : Bool} {v : Value} {d : DataW H} {p : List MemPlace} {r : Reach}
set_option maxRecDepth 100000 in
theorem open_Str (hv : Value.okWide Try.prog w r b0 9 v) (h : DataW.Trod enc Try.prog w base spare held 9 v d p) : ∃ s : ByteArray, v = .string s ∧ s.size ≤ maxLen := by
  obtain ⟨s, e, _, _, hs⟩ := open_string Try.underlying9 hv h
  exact ⟨s, e, hs⟩
end
end Go.Proofs.Ytbehobojgeganaa
