/-
  No cell of these rows narrows 'for every input' (looked for: loops, veiled, ifaces, maps, wideKeys, modest, calm, conditions, laid).
  DERIVED. THE GIVEN ROWS OF THIS SEAT. 10 by the template 'for every input the law returns true; each argument reads behind the call as it read before'; 0 by the template 'total and deterministic' (their statements: YtlfdjnmigfdjbaaTotals.lean).
  GIVEN WITH THE SEED: the statements are not yours to turn. If you find one false, say at which input.
  Laid BY PROGRAM, IN A SANDBOX (cutbox-rows.mjs): the forced cells as the released guide's own fill.sh prints them over the translation 95410062ee5a55fc… (all of the seat's roots in one cut). By AI agents, Wed Nov 11 2026. No macro, syntax, notation, axiom, sorry.
-/
import Derived.Test.YtlfdjnmigfdjbaaChecked
import GoSem.Claim
import GoSem.ClaimJoined
import GoSem.ClaimMapViews
import Derived.JoinedTies
import Derived.KernelRfl
namespace Go.Proofs.Ytlfdjnmigfdjbaa
/- THE CELL 'sum', in the pinned program and in every row, IS THE sha256 OF THE DUMP (.gsa) THAT YtlfdjnmigfdjbaaProg.lean LOADS. Nothing in Lean hashes anything: it is a label: what it is worth is what the hold of that sum in a sandbox is worth. -/
noncomputable def Try.pinned : Pinned := { name := "ytlfdjnmigfdjbaa", sum := "95410062ee5a55fc0a6926df19541adb7f5ba0ac5ba69c274deecd34491e6c51", checked := Try.checked }
namespace Rows
def none {H : Type} : Left H := { results := [], args := [] }

/-- 'relievolaw01.WideSums': WHATEVER THE INPUT: true; the input reads as it did. -/
def wideSumsSpec : ChangeSpec := { name := "wideSums", fn := fun _ => fun
  | [d1, d2, d3] => { results := [.lit (.bool true)], args := [d1, d2, d3] }
  | _ => none }
def wideSumsRow : OpenClaim := { program := "ytlfdjnmigfdjbaa", sum := "95410062ee5a55fc0a6926df19541adb7f5ba0ac5ba69c274deecd34491e6c51", func := "relievo/relievolaw01.WideSums", spec := "wideSums", inPlace := ["math/bits.Add64", "math/bits.Sub64"], named := ["math/bits.divideError", "math/bits.overflowError"], apart := false }
def WideSumsSaid : Prop := wideSumsRow.holds Try.pinned (OpenSpec.ofChange wideSumsSpec)

/-- ITS FALSE NEIGHBOUR: 'it returns false'. Refute it at one input. -/
def wideSumsWrong : ChangeSpec := { name := "wideSums", fn := fun _ => fun
  | [d1, d2, d3] => { results := [.lit (.bool false)], args := [d1, d2, d3] }
  | _ => none }
def WideSumsWrongFalsely : Prop := wideSumsRow.holds Try.pinned (OpenSpec.ofChange wideSumsWrong)

/-- 'relievolaw01.WideProducts': WHATEVER THE INPUT: true; the input reads as it did. -/
def wideProductsSpec : ChangeSpec := { name := "wideProducts", fn := fun _ => fun
  | [d1, d2, d3, d4, d5] => { results := [.lit (.bool true)], args := [d1, d2, d3, d4, d5] }
  | _ => none }
def wideProductsRow : OpenClaim := { program := "ytlfdjnmigfdjbaa", sum := "95410062ee5a55fc0a6926df19541adb7f5ba0ac5ba69c274deecd34491e6c51", func := "relievo/relievolaw01.WideProducts", spec := "wideProducts", named := ["math/bits.divideError", "math/bits.overflowError"], apart := false }
def WideProductsSaid : Prop := wideProductsRow.holds Try.pinned (OpenSpec.ofChange wideProductsSpec)

/-- ITS FALSE NEIGHBOUR: 'it returns false'. Refute it at one input. -/
def wideProductsWrong : ChangeSpec := { name := "wideProducts", fn := fun _ => fun
  | [d1, d2, d3, d4, d5] => { results := [.lit (.bool false)], args := [d1, d2, d3, d4, d5] }
  | _ => none }
def WideProductsWrongFalsely : Prop := wideProductsRow.holds Try.pinned (OpenSpec.ofChange wideProductsWrong)

/-- 'relievolaw02.VecSums': WHATEVER THE INPUT: true; the input reads as it did. -/
def vecSumsSpec : ChangeSpec := { name := "vecSums", fn := fun _ => fun
  | [d1, d2, d3, d4] => { results := [.lit (.bool true)], args := [d1, d2, d3, d4] }
  | _ => none }
def vecSumsRow : OpenClaim := { program := "ytlfdjnmigfdjbaa", sum := "95410062ee5a55fc0a6926df19541adb7f5ba0ac5ba69c274deecd34491e6c51", func := "relievo/relievolaw02.VecSums", spec := "vecSums", apart := false }
def VecSumsSaid : Prop := vecSumsRow.holds Try.pinned (OpenSpec.ofChange vecSumsSpec)

/-- ITS FALSE NEIGHBOUR: 'it returns false'. Refute it at one input. -/
def vecSumsWrong : ChangeSpec := { name := "vecSums", fn := fun _ => fun
  | [d1, d2, d3, d4] => { results := [.lit (.bool false)], args := [d1, d2, d3, d4] }
  | _ => none }
def VecSumsWrongFalsely : Prop := vecSumsRow.holds Try.pinned (OpenSpec.ofChange vecSumsWrong)

/-- 'relievolaw02.VecBoxes': WHATEVER THE INPUT: true; the input reads as it did. -/
def vecBoxesSpec : ChangeSpec := { name := "vecBoxes", fn := fun _ => fun
  | [d1, d2, d3, d4] => { results := [.lit (.bool true)], args := [d1, d2, d3, d4] }
  | _ => none }
def vecBoxesRow : OpenClaim := { program := "ytlfdjnmigfdjbaa", sum := "95410062ee5a55fc0a6926df19541adb7f5ba0ac5ba69c274deecd34491e6c51", func := "relievo/relievolaw02.VecBoxes", spec := "vecBoxes", apart := false }
def VecBoxesSaid : Prop := vecBoxesRow.holds Try.pinned (OpenSpec.ofChange vecBoxesSpec)

/-- ITS FALSE NEIGHBOUR: 'it returns false'. Refute it at one input. -/
def vecBoxesWrong : ChangeSpec := { name := "vecBoxes", fn := fun _ => fun
  | [d1, d2, d3, d4] => { results := [.lit (.bool false)], args := [d1, d2, d3, d4] }
  | _ => none }
def VecBoxesWrongFalsely : Prop := vecBoxesRow.holds Try.pinned (OpenSpec.ofChange vecBoxesWrong)

/-- 'relievolaw02.VecCross': WHATEVER THE INPUT: true; the input reads as it did. -/
def vecCrossSpec : ChangeSpec := { name := "vecCross", fn := fun _ => fun
  | [d1, d2] => { results := [.lit (.bool true)], args := [d1, d2] }
  | _ => none }
def vecCrossRow : OpenClaim := { program := "ytlfdjnmigfdjbaa", sum := "95410062ee5a55fc0a6926df19541adb7f5ba0ac5ba69c274deecd34491e6c51", func := "relievo/relievolaw02.VecCross", spec := "vecCross", apart := false }
def VecCrossSaid : Prop := vecCrossRow.holds Try.pinned (OpenSpec.ofChange vecCrossSpec)

/-- ITS FALSE NEIGHBOUR: 'it returns false'. Refute it at one input. -/
def vecCrossWrong : ChangeSpec := { name := "vecCross", fn := fun _ => fun
  | [d1, d2] => { results := [.lit (.bool false)], args := [d1, d2] }
  | _ => none }
def VecCrossWrongFalsely : Prop := vecCrossRow.holds Try.pinned (OpenSpec.ofChange vecCrossWrong)

/-- 'relievolaw02.VecRound': WHATEVER THE INPUT: true; the input reads as it did. -/
def vecRoundSpec : ChangeSpec := { name := "vecRound", fn := fun _ => fun
  | [d1, d2, d3] => { results := [.lit (.bool true)], args := [d1, d2, d3] }
  | _ => none }
def vecRoundRow : OpenClaim := { program := "ytlfdjnmigfdjbaa", sum := "95410062ee5a55fc0a6926df19541adb7f5ba0ac5ba69c274deecd34491e6c51", func := "relievo/relievolaw02.VecRound", spec := "vecRound", apart := false }
def VecRoundSaid : Prop := vecRoundRow.holds Try.pinned (OpenSpec.ofChange vecRoundSpec)

/-- ITS FALSE NEIGHBOUR: 'it returns false'. Refute it at one input. -/
def vecRoundWrong : ChangeSpec := { name := "vecRound", fn := fun _ => fun
  | [d1, d2, d3] => { results := [.lit (.bool false)], args := [d1, d2, d3] }
  | _ => none }
def VecRoundWrongFalsely : Prop := vecRoundRow.holds Try.pinned (OpenSpec.ofChange vecRoundWrong)

/-- 'relievolaw02.VecCut': WHATEVER THE INPUT: true; the input reads as it did. -/
def vecCutSpec : ChangeSpec := { name := "vecCut", fn := fun _ => fun
  | [d1, d2] => { results := [.lit (.bool true)], args := [d1, d2] }
  | _ => none }
def vecCutRow : OpenClaim := { program := "ytlfdjnmigfdjbaa", sum := "95410062ee5a55fc0a6926df19541adb7f5ba0ac5ba69c274deecd34491e6c51", func := "relievo/relievolaw02.VecCut", spec := "vecCut", apart := false }
def VecCutSaid : Prop := vecCutRow.holds Try.pinned (OpenSpec.ofChange vecCutSpec)

/-- ITS FALSE NEIGHBOUR: 'it returns false'. Refute it at one input. -/
def vecCutWrong : ChangeSpec := { name := "vecCut", fn := fun _ => fun
  | [d1, d2] => { results := [.lit (.bool false)], args := [d1, d2] }
  | _ => none }
def VecCutWrongFalsely : Prop := vecCutRow.holds Try.pinned (OpenSpec.ofChange vecCutWrong)

/-- 'relievolaw02.VecBound': WHATEVER THE INPUT: true; the input reads as it did. -/
def vecBoundSpec : ChangeSpec := { name := "vecBound", fn := fun _ => fun
  | [d] => { results := [.lit (.bool true)], args := [d] }
  | _ => none }
def vecBoundRow : OpenClaim := { program := "ytlfdjnmigfdjbaa", sum := "95410062ee5a55fc0a6926df19541adb7f5ba0ac5ba69c274deecd34491e6c51", func := "relievo/relievolaw02.VecBound", spec := "vecBound", apart := false }
def VecBoundSaid : Prop := vecBoundRow.holds Try.pinned (OpenSpec.ofChange vecBoundSpec)

/-- ITS FALSE NEIGHBOUR: 'it returns false'. Refute it at one input. -/
def vecBoundWrong : ChangeSpec := { name := "vecBound", fn := fun _ => fun
  | [d] => { results := [.lit (.bool false)], args := [d] }
  | _ => none }
def VecBoundWrongFalsely : Prop := vecBoundRow.holds Try.pinned (OpenSpec.ofChange vecBoundWrong)

/-- 'relievolaw02.VecJoin': WHATEVER THE INPUT: true; the input reads as it did. -/
def vecJoinSpec : ChangeSpec := { name := "vecJoin", fn := fun _ => fun
  | [d1, d2, d3] => { results := [.lit (.bool true)], args := [d1, d2, d3] }
  | _ => none }
def vecJoinRow : OpenClaim := { program := "ytlfdjnmigfdjbaa", sum := "95410062ee5a55fc0a6926df19541adb7f5ba0ac5ba69c274deecd34491e6c51", func := "relievo/relievolaw02.VecJoin", spec := "vecJoin", apart := false }
def VecJoinSaid : Prop := vecJoinRow.holds Try.pinned (OpenSpec.ofChange vecJoinSpec)

/-- ITS FALSE NEIGHBOUR: 'it returns false'. Refute it at one input. -/
def vecJoinWrong : ChangeSpec := { name := "vecJoin", fn := fun _ => fun
  | [d1, d2, d3] => { results := [.lit (.bool false)], args := [d1, d2, d3] }
  | _ => none }
def VecJoinWrongFalsely : Prop := vecJoinRow.holds Try.pinned (OpenSpec.ofChange vecJoinWrong)

/-- 'relievolaw02.VecSpreads': WHATEVER THE INPUT: true; the input reads as it did. -/
def vecSpreadsSpec : ChangeSpec := { name := "vecSpreads", fn := fun _ => fun
  | [d1, d2, d3] => { results := [.lit (.bool true)], args := [d1, d2, d3] }
  | _ => none }
def vecSpreadsRow : OpenClaim := { program := "ytlfdjnmigfdjbaa", sum := "95410062ee5a55fc0a6926df19541adb7f5ba0ac5ba69c274deecd34491e6c51", func := "relievo/relievolaw02.VecSpreads", spec := "vecSpreads", apart := false }
def VecSpreadsSaid : Prop := vecSpreadsRow.holds Try.pinned (OpenSpec.ofChange vecSpreadsSpec)

/-- ITS FALSE NEIGHBOUR: 'it returns false'. Refute it at one input. -/
def vecSpreadsWrong : ChangeSpec := { name := "vecSpreads", fn := fun _ => fun
  | [d1, d2, d3] => { results := [.lit (.bool false)], args := [d1, d2, d3] }
  | _ => none }
def VecSpreadsWrongFalsely : Prop := vecSpreadsRow.holds Try.pinned (OpenSpec.ofChange vecSpreadsWrong)

/- THE SECOND FORM. 'bulk': how many values and letters a reading holds, each counted each time it is reached (what is shared counts as often as it is met; a slice's spare places count too). A statement '..UptoSaid' is the law's where the arguments, and the package variables that the reading takes, are together of bulk at most 1048576: NARROWER than '..Said'. Prove '..Said' where nothing that the law and all that it calls make is longer than what came in: it says more and counts as full. Else prove '..UptoSaid'. A law counts once. -/
mutual
def uptoBulk {H : Type} : DataW H → Nat
  | .lit (.string bytes) => bytes.length + 1
  | .lit _ => 1
  | .nil => 1
  | .ptr d => uptoBulk d + 1
  | .slice elems spare => uptoBulkAll elems + uptoBulkAll spare + 1
  | .agg parts => uptoBulkAll parts + 1
  | .iface _ d => uptoBulk d + 1
  | .map entries => uptoBulkEntries entries + 1
  | .held _ => 1
def uptoBulkAll {H : Type} : List (DataW H) → Nat
  | [] => 0
  | d :: r => uptoBulk d + uptoBulkAll r
def uptoBulkEntries {H : Type} : List (Lit × DataW H) → Nat
  | [] => 0
  | x :: r => uptoBulkEntry x + uptoBulkEntries r
def uptoBulkEntry {H : Type} : Lit × DataW H → Nat
  | (.string bytes, d) => bytes.length + uptoBulk d + 1
  | (_, d) => uptoBulk d + 1
 end
def uptoSmall : (H : Type) → List (DataW H) → Bool := fun _ ds => decide (uptoBulkAll ds ≤ 1048576)
def OpenSpec.upto (s : _root_.Go.ChangeSpec) : _root_.Go.OpenSpec := { _root_.Go.OpenSpec.ofChange s with cond := some uptoSmall }

/-- 'relievolaw01.WideSums', WHERE WHAT IT READS IS OF BULK AT MOST 1048576: true; the input reads as it did. -/
def wideSumsUptoRow : OpenClaim := { program := "ytlfdjnmigfdjbaa", sum := "95410062ee5a55fc0a6926df19541adb7f5ba0ac5ba69c274deecd34491e6c51", func := "relievo/relievolaw01.WideSums", spec := "wideSums", inPlace := ["math/bits.Add64", "math/bits.Sub64"], named := ["math/bits.divideError", "math/bits.overflowError"], apart := false, narrowed := true }
def WideSumsUptoSaid : Prop := wideSumsUptoRow.holds Try.pinned (OpenSpec.upto wideSumsSpec)

/-- 'relievolaw01.WideProducts', WHERE WHAT IT READS IS OF BULK AT MOST 1048576: true; the input reads as it did. -/
def wideProductsUptoRow : OpenClaim := { program := "ytlfdjnmigfdjbaa", sum := "95410062ee5a55fc0a6926df19541adb7f5ba0ac5ba69c274deecd34491e6c51", func := "relievo/relievolaw01.WideProducts", spec := "wideProducts", named := ["math/bits.divideError", "math/bits.overflowError"], apart := false, narrowed := true }
def WideProductsUptoSaid : Prop := wideProductsUptoRow.holds Try.pinned (OpenSpec.upto wideProductsSpec)

/-- 'relievolaw02.VecSums', WHERE WHAT IT READS IS OF BULK AT MOST 1048576: true; the input reads as it did. -/
def vecSumsUptoRow : OpenClaim := { program := "ytlfdjnmigfdjbaa", sum := "95410062ee5a55fc0a6926df19541adb7f5ba0ac5ba69c274deecd34491e6c51", func := "relievo/relievolaw02.VecSums", spec := "vecSums", apart := false, narrowed := true }
def VecSumsUptoSaid : Prop := vecSumsUptoRow.holds Try.pinned (OpenSpec.upto vecSumsSpec)

/-- 'relievolaw02.VecBoxes', WHERE WHAT IT READS IS OF BULK AT MOST 1048576: true; the input reads as it did. -/
def vecBoxesUptoRow : OpenClaim := { program := "ytlfdjnmigfdjbaa", sum := "95410062ee5a55fc0a6926df19541adb7f5ba0ac5ba69c274deecd34491e6c51", func := "relievo/relievolaw02.VecBoxes", spec := "vecBoxes", apart := false, narrowed := true }
def VecBoxesUptoSaid : Prop := vecBoxesUptoRow.holds Try.pinned (OpenSpec.upto vecBoxesSpec)

/-- 'relievolaw02.VecCross', WHERE WHAT IT READS IS OF BULK AT MOST 1048576: true; the input reads as it did. -/
def vecCrossUptoRow : OpenClaim := { program := "ytlfdjnmigfdjbaa", sum := "95410062ee5a55fc0a6926df19541adb7f5ba0ac5ba69c274deecd34491e6c51", func := "relievo/relievolaw02.VecCross", spec := "vecCross", apart := false, narrowed := true }
def VecCrossUptoSaid : Prop := vecCrossUptoRow.holds Try.pinned (OpenSpec.upto vecCrossSpec)

/-- 'relievolaw02.VecRound', WHERE WHAT IT READS IS OF BULK AT MOST 1048576: true; the input reads as it did. -/
def vecRoundUptoRow : OpenClaim := { program := "ytlfdjnmigfdjbaa", sum := "95410062ee5a55fc0a6926df19541adb7f5ba0ac5ba69c274deecd34491e6c51", func := "relievo/relievolaw02.VecRound", spec := "vecRound", apart := false, narrowed := true }
def VecRoundUptoSaid : Prop := vecRoundUptoRow.holds Try.pinned (OpenSpec.upto vecRoundSpec)

/-- 'relievolaw02.VecCut', WHERE WHAT IT READS IS OF BULK AT MOST 1048576: true; the input reads as it did. -/
def vecCutUptoRow : OpenClaim := { program := "ytlfdjnmigfdjbaa", sum := "95410062ee5a55fc0a6926df19541adb7f5ba0ac5ba69c274deecd34491e6c51", func := "relievo/relievolaw02.VecCut", spec := "vecCut", apart := false, narrowed := true }
def VecCutUptoSaid : Prop := vecCutUptoRow.holds Try.pinned (OpenSpec.upto vecCutSpec)

/-- 'relievolaw02.VecBound', WHERE WHAT IT READS IS OF BULK AT MOST 1048576: true; the input reads as it did. -/
def vecBoundUptoRow : OpenClaim := { program := "ytlfdjnmigfdjbaa", sum := "95410062ee5a55fc0a6926df19541adb7f5ba0ac5ba69c274deecd34491e6c51", func := "relievo/relievolaw02.VecBound", spec := "vecBound", apart := false, narrowed := true }
def VecBoundUptoSaid : Prop := vecBoundUptoRow.holds Try.pinned (OpenSpec.upto vecBoundSpec)

/-- 'relievolaw02.VecJoin', WHERE WHAT IT READS IS OF BULK AT MOST 1048576: true; the input reads as it did. -/
def vecJoinUptoRow : OpenClaim := { program := "ytlfdjnmigfdjbaa", sum := "95410062ee5a55fc0a6926df19541adb7f5ba0ac5ba69c274deecd34491e6c51", func := "relievo/relievolaw02.VecJoin", spec := "vecJoin", apart := false, narrowed := true }
def VecJoinUptoSaid : Prop := vecJoinUptoRow.holds Try.pinned (OpenSpec.upto vecJoinSpec)

/-- 'relievolaw02.VecSpreads', WHERE WHAT IT READS IS OF BULK AT MOST 1048576: true; the input reads as it did. -/
def vecSpreadsUptoRow : OpenClaim := { program := "ytlfdjnmigfdjbaa", sum := "95410062ee5a55fc0a6926df19541adb7f5ba0ac5ba69c274deecd34491e6c51", func := "relievo/relievolaw02.VecSpreads", spec := "vecSpreads", apart := false, narrowed := true }
def VecSpreadsUptoSaid : Prop := vecSpreadsUptoRow.holds Try.pinned (OpenSpec.upto vecSpreadsSpec)

end Rows
end Go.Proofs.Ytlfdjnmigfdjbaa
