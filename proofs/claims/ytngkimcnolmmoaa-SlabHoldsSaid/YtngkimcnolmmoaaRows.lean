/-
  No cell of these rows narrows 'for every input' (looked for: loops, veiled, ifaces, maps, wideKeys, modest, calm, conditions, laid).
  DERIVED. THE GIVEN ROWS OF THIS SEAT. 7 by the template 'for every input the law returns true; each argument reads behind the call as it read before'; 0 by the template 'total and deterministic' (their statements: YtngkimcnolmmoaaTotals.lean).
  GIVEN WITH THE SEED: the statements are not yours to turn. If you find one false, say at which input.
  Laid BY PROGRAM, IN A SANDBOX (cutbox-rows.mjs): the forced cells as the released guide's own fill.sh prints them over the translation 77064b3ea482eb07… (all of the seat's roots in one cut). By AI agents, Wed Nov 11 2026. No macro, syntax, notation, axiom, sorry.
-/
import Derived.Test.YtngkimcnolmmoaaChecked
import GoSem.Claim
import GoSem.ClaimJoined
import GoSem.ClaimMapViews
import Derived.JoinedTies
import Derived.KernelRfl
namespace Go.Proofs.Ytngkimcnolmmoaa
/- THE CELL 'sum', in the pinned program and in every row, IS THE sha256 OF THE DUMP (.gsa) THAT YtngkimcnolmmoaaProg.lean LOADS. Nothing in Lean hashes anything: it is a label: what it is worth is what the hold of that sum in a sandbox is worth. -/
noncomputable def Try.pinned : Pinned := { name := "ytngkimcnolmmoaa", sum := "77064b3ea482eb073b9552b79cf5df7973d264ab951c3923e899379ed0f2801c", checked := Try.checked }
namespace Rows
def none {H : Type} : Left H := { results := [], args := [] }

/-- 'relievolaw04.SlabRanges': WHATEVER THE INPUT: true; the input reads as it did. -/
def slabRangesSpec : ChangeSpec := { name := "slabRanges", fn := fun _ => fun
  | [d1, d2, d3] => { results := [.lit (.bool true)], args := [d1, d2, d3] }
  | _ => none }
def slabRangesRow : OpenClaim := { program := "ytngkimcnolmmoaa", sum := "77064b3ea482eb073b9552b79cf5df7973d264ab951c3923e899379ed0f2801c", func := "relievo/relievolaw04.SlabRanges", spec := "slabRanges", apart := false }
def SlabRangesSaid : Prop := slabRangesRow.holds Try.pinned (OpenSpec.ofChange slabRangesSpec)

/-- ITS FALSE NEIGHBOUR: 'it returns false'. Refute it at one input. -/
def slabRangesWrong : ChangeSpec := { name := "slabRanges", fn := fun _ => fun
  | [d1, d2, d3] => { results := [.lit (.bool false)], args := [d1, d2, d3] }
  | _ => none }
def SlabRangesWrongFalsely : Prop := slabRangesRow.holds Try.pinned (OpenSpec.ofChange slabRangesWrong)

/-- 'relievolaw04.SlabHolds': WHATEVER THE INPUT: true; the input reads as it did. -/
def slabHoldsSpec : ChangeSpec := { name := "slabHolds", fn := fun _ => fun
  | [d1, d2, d3, d4] => { results := [.lit (.bool true)], args := [d1, d2, d3, d4] }
  | _ => none }
def slabHoldsRow : OpenClaim := { program := "ytngkimcnolmmoaa", sum := "77064b3ea482eb073b9552b79cf5df7973d264ab951c3923e899379ed0f2801c", func := "relievo/relievolaw04.SlabHolds", spec := "slabHolds", apart := false }
def SlabHoldsSaid : Prop := slabHoldsRow.holds Try.pinned (OpenSpec.ofChange slabHoldsSpec)

/-- ITS FALSE NEIGHBOUR: 'it returns false'. Refute it at one input. -/
def slabHoldsWrong : ChangeSpec := { name := "slabHolds", fn := fun _ => fun
  | [d1, d2, d3, d4] => { results := [.lit (.bool false)], args := [d1, d2, d3, d4] }
  | _ => none }
def SlabHoldsWrongFalsely : Prop := slabHoldsRow.holds Try.pinned (OpenSpec.ofChange slabHoldsWrong)

/-- 'relievolaw04.SlabWider': WHATEVER THE INPUT: true; the input reads as it did. -/
def slabWiderSpec : ChangeSpec := { name := "slabWider", fn := fun _ => fun
  | [d1, d2, d3, d4] => { results := [.lit (.bool true)], args := [d1, d2, d3, d4] }
  | _ => none }
def slabWiderRow : OpenClaim := { program := "ytngkimcnolmmoaa", sum := "77064b3ea482eb073b9552b79cf5df7973d264ab951c3923e899379ed0f2801c", func := "relievo/relievolaw04.SlabWider", spec := "slabWider", apart := false }
def SlabWiderSaid : Prop := slabWiderRow.holds Try.pinned (OpenSpec.ofChange slabWiderSpec)

/-- ITS FALSE NEIGHBOUR: 'it returns false'. Refute it at one input. -/
def slabWiderWrong : ChangeSpec := { name := "slabWider", fn := fun _ => fun
  | [d1, d2, d3, d4] => { results := [.lit (.bool false)], args := [d1, d2, d3, d4] }
  | _ => none }
def SlabWiderWrongFalsely : Prop := slabWiderRow.holds Try.pinned (OpenSpec.ofChange slabWiderWrong)

/-- 'relievolaw04.SlabInside': WHATEVER THE INPUT: true; the input reads as it did. -/
def slabInsideSpec : ChangeSpec := { name := "slabInside", fn := fun _ => fun
  | [d1, d2, d3] => { results := [.lit (.bool true)], args := [d1, d2, d3] }
  | _ => none }
def slabInsideRow : OpenClaim := { program := "ytngkimcnolmmoaa", sum := "77064b3ea482eb073b9552b79cf5df7973d264ab951c3923e899379ed0f2801c", func := "relievo/relievolaw04.SlabInside", spec := "slabInside", apart := false }
def SlabInsideSaid : Prop := slabInsideRow.holds Try.pinned (OpenSpec.ofChange slabInsideSpec)

/-- ITS FALSE NEIGHBOUR: 'it returns false'. Refute it at one input. -/
def slabInsideWrong : ChangeSpec := { name := "slabInside", fn := fun _ => fun
  | [d1, d2, d3] => { results := [.lit (.bool false)], args := [d1, d2, d3] }
  | _ => none }
def SlabInsideWrongFalsely : Prop := slabInsideRow.holds Try.pinned (OpenSpec.ofChange slabInsideWrong)

/-- 'relievolaw04.SlabMoved': WHATEVER THE INPUT: true; the input reads as it did. -/
def slabMovedSpec : ChangeSpec := { name := "slabMoved", fn := fun _ => fun
  | [d1, d2, d3, d4] => { results := [.lit (.bool true)], args := [d1, d2, d3, d4] }
  | _ => none }
def slabMovedRow : OpenClaim := { program := "ytngkimcnolmmoaa", sum := "77064b3ea482eb073b9552b79cf5df7973d264ab951c3923e899379ed0f2801c", func := "relievo/relievolaw04.SlabMoved", spec := "slabMoved", apart := false }
def SlabMovedSaid : Prop := slabMovedRow.holds Try.pinned (OpenSpec.ofChange slabMovedSpec)

/-- ITS FALSE NEIGHBOUR: 'it returns false'. Refute it at one input. -/
def slabMovedWrong : ChangeSpec := { name := "slabMoved", fn := fun _ => fun
  | [d1, d2, d3, d4] => { results := [.lit (.bool false)], args := [d1, d2, d3, d4] }
  | _ => none }
def SlabMovedWrongFalsely : Prop := slabMovedRow.holds Try.pinned (OpenSpec.ofChange slabMovedWrong)

/-- 'relievolaw04.SlabFaster': WHATEVER THE INPUT: true; the input reads as it did. -/
def slabFasterSpec : ChangeSpec := { name := "slabFaster", fn := fun _ => fun
  | [d1, d2, d3, d4] => { results := [.lit (.bool true)], args := [d1, d2, d3, d4] }
  | _ => none }
def slabFasterRow : OpenClaim := { program := "ytngkimcnolmmoaa", sum := "77064b3ea482eb073b9552b79cf5df7973d264ab951c3923e899379ed0f2801c", func := "relievo/relievolaw04.SlabFaster", spec := "slabFaster", apart := false }
def SlabFasterSaid : Prop := slabFasterRow.holds Try.pinned (OpenSpec.ofChange slabFasterSpec)

/-- ITS FALSE NEIGHBOUR: 'it returns false'. Refute it at one input. -/
def slabFasterWrong : ChangeSpec := { name := "slabFaster", fn := fun _ => fun
  | [d1, d2, d3, d4] => { results := [.lit (.bool false)], args := [d1, d2, d3, d4] }
  | _ => none }
def SlabFasterWrongFalsely : Prop := slabFasterRow.holds Try.pinned (OpenSpec.ofChange slabFasterWrong)

/-- 'relievolaw04.SlabMirror': WHATEVER THE INPUT: true; the input reads as it did. -/
def slabMirrorSpec : ChangeSpec := { name := "slabMirror", fn := fun _ => fun
  | [d1, d2, d3] => { results := [.lit (.bool true)], args := [d1, d2, d3] }
  | _ => none }
def slabMirrorRow : OpenClaim := { program := "ytngkimcnolmmoaa", sum := "77064b3ea482eb073b9552b79cf5df7973d264ab951c3923e899379ed0f2801c", func := "relievo/relievolaw04.SlabMirror", spec := "slabMirror", apart := false }
def SlabMirrorSaid : Prop := slabMirrorRow.holds Try.pinned (OpenSpec.ofChange slabMirrorSpec)

/-- ITS FALSE NEIGHBOUR: 'it returns false'. Refute it at one input. -/
def slabMirrorWrong : ChangeSpec := { name := "slabMirror", fn := fun _ => fun
  | [d1, d2, d3] => { results := [.lit (.bool false)], args := [d1, d2, d3] }
  | _ => none }
def SlabMirrorWrongFalsely : Prop := slabMirrorRow.holds Try.pinned (OpenSpec.ofChange slabMirrorWrong)

/- THE SECOND FORM. 'bulk': how many values and letters a reading holds, each counted each time it is reached (what is shared counts as often as it is met; a slice's spare places count too). A statement '..UptoSaid' is the law's where the arguments, and the package variables that the reading takes, are together of bulk at most 1048576: NARROWER than '..Said'. Prove '..Said' where nothing that the law and all that it calls make is longer than what came in: it says more and counts as full. Else prove '..UptoSaid'. A law counts once. -/
mutual
def uptoBulk {H : Type} : DataW H → Nat
  | .lit (.string bytes) => bytes.length + 1
  | .lit _ => 1
  | .nil => 1
  | .ptr d => uptoBulk d + 1
  | .slice elems spare => uptoBulkAll elems + uptoBulkAll spare + 1
  | .agg parts => uptoBulkAll parts + 1
  | .iface _ d => uptoBulk d + 1
  | .map entries => uptoBulkEntries entries + 1
  | .held _ => 1
def uptoBulkAll {H : Type} : List (DataW H) → Nat
  | [] => 0
  | d :: r => uptoBulk d + uptoBulkAll r
def uptoBulkEntries {H : Type} : List (Lit × DataW H) → Nat
  | [] => 0
  | x :: r => uptoBulkEntry x + uptoBulkEntries r
def uptoBulkEntry {H : Type} : Lit × DataW H → Nat
  | (.string bytes, d) => bytes.length + uptoBulk d + 1
  | (_, d) => uptoBulk d + 1
 end
def uptoSmall : (H : Type) → List (DataW H) → Bool := fun _ ds => decide (uptoBulkAll ds ≤ 1048576)
def OpenSpec.upto (s : _root_.Go.ChangeSpec) : _root_.Go.OpenSpec := { _root_.Go.OpenSpec.ofChange s with cond := some uptoSmall }

/-- 'relievolaw04.SlabRanges', WHERE WHAT IT READS IS OF BULK AT MOST 1048576: true; the input reads as it did. -/
def slabRangesUptoRow : OpenClaim := { program := "ytngkimcnolmmoaa", sum := "77064b3ea482eb073b9552b79cf5df7973d264ab951c3923e899379ed0f2801c", func := "relievo/relievolaw04.SlabRanges", spec := "slabRanges", apart := false, narrowed := true }
def SlabRangesUptoSaid : Prop := slabRangesUptoRow.holds Try.pinned (OpenSpec.upto slabRangesSpec)

/-- 'relievolaw04.SlabHolds', WHERE WHAT IT READS IS OF BULK AT MOST 1048576: true; the input reads as it did. -/
def slabHoldsUptoRow : OpenClaim := { program := "ytngkimcnolmmoaa", sum := "77064b3ea482eb073b9552b79cf5df7973d264ab951c3923e899379ed0f2801c", func := "relievo/relievolaw04.SlabHolds", spec := "slabHolds", apart := false, narrowed := true }
def SlabHoldsUptoSaid : Prop := slabHoldsUptoRow.holds Try.pinned (OpenSpec.upto slabHoldsSpec)

/-- 'relievolaw04.SlabWider', WHERE WHAT IT READS IS OF BULK AT MOST 1048576: true; the input reads as it did. -/
def slabWiderUptoRow : OpenClaim := { program := "ytngkimcnolmmoaa", sum := "77064b3ea482eb073b9552b79cf5df7973d264ab951c3923e899379ed0f2801c", func := "relievo/relievolaw04.SlabWider", spec := "slabWider", apart := false, narrowed := true }
def SlabWiderUptoSaid : Prop := slabWiderUptoRow.holds Try.pinned (OpenSpec.upto slabWiderSpec)

/-- 'relievolaw04.SlabInside', WHERE WHAT IT READS IS OF BULK AT MOST 1048576: true; the input reads as it did. -/
def slabInsideUptoRow : OpenClaim := { program := "ytngkimcnolmmoaa", sum := "77064b3ea482eb073b9552b79cf5df7973d264ab951c3923e899379ed0f2801c", func := "relievo/relievolaw04.SlabInside", spec := "slabInside", apart := false, narrowed := true }
def SlabInsideUptoSaid : Prop := slabInsideUptoRow.holds Try.pinned (OpenSpec.upto slabInsideSpec)

/-- 'relievolaw04.SlabMoved', WHERE WHAT IT READS IS OF BULK AT MOST 1048576: true; the input reads as it did. -/
def slabMovedUptoRow : OpenClaim := { program := "ytngkimcnolmmoaa", sum := "77064b3ea482eb073b9552b79cf5df7973d264ab951c3923e899379ed0f2801c", func := "relievo/relievolaw04.SlabMoved", spec := "slabMoved", apart := false, narrowed := true }
def SlabMovedUptoSaid : Prop := slabMovedUptoRow.holds Try.pinned (OpenSpec.upto slabMovedSpec)

/-- 'relievolaw04.SlabFaster', WHERE WHAT IT READS IS OF BULK AT MOST 1048576: true; the input reads as it did. -/
def slabFasterUptoRow : OpenClaim := { program := "ytngkimcnolmmoaa", sum := "77064b3ea482eb073b9552b79cf5df7973d264ab951c3923e899379ed0f2801c", func := "relievo/relievolaw04.SlabFaster", spec := "slabFaster", apart := false, narrowed := true }
def SlabFasterUptoSaid : Prop := slabFasterUptoRow.holds Try.pinned (OpenSpec.upto slabFasterSpec)

/-- 'relievolaw04.SlabMirror', WHERE WHAT IT READS IS OF BULK AT MOST 1048576: true; the input reads as it did. -/
def slabMirrorUptoRow : OpenClaim := { program := "ytngkimcnolmmoaa", sum := "77064b3ea482eb073b9552b79cf5df7973d264ab951c3923e899379ed0f2801c", func := "relievo/relievolaw04.SlabMirror", spec := "slabMirror", apart := false, narrowed := true }
def SlabMirrorUptoSaid : Prop := slabMirrorUptoRow.holds Try.pinned (OpenSpec.upto slabMirrorSpec)

end Rows
end Go.Proofs.Ytngkimcnolmmoaa
