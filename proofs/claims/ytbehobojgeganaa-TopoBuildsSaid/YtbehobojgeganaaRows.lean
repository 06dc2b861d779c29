/-
  No cell of these rows narrows 'for every input' (looked for: loops, veiled, ifaces, maps, wideKeys, modest, calm, conditions, laid).
  DERIVED. THE GIVEN ROWS OF THIS SEAT. 11 by the template 'for every input the law returns true; each argument reads behind the call as it read before'; 0 by the template 'total and deterministic' (their statements: YtbehobojgeganaaTotals.lean).
  GIVEN WITH THE SEED: the statements are not yours to turn. If you find one false, say at which input.
  Laid BY PROGRAM, IN A SANDBOX (cutbox-rows.mjs): the forced cells as the released guide's own fill.sh prints them over the translation a18cb823c10ebead… (all of the seat's roots in one cut). By AI agents, Wed Nov 11 2026. No macro, syntax, notation, axiom, sorry.
-/
import Derived.Test.YtbehobojgeganaaChecked
import GoSem.Claim
import GoSem.ClaimJoined
import GoSem.ClaimMapViews
import Derived.JoinedTies
import Derived.KernelRfl
namespace Go.Proofs.Ytbehobojgeganaa
/- THE CELL 'sum', in the pinned program and in every row, IS THE sha256 OF THE DUMP (.gsa) THAT YtbehobojgeganaaProg.lean LOADS. Nothing in Lean hashes anything: it is a label: what it is worth is what the hold of that sum in a sandbox is worth. -/
noncomputable def Try.pinned : Pinned := { name := "ytbehobojgeganaa", sum := "a18cb823c10ebead8a7b297599bf1689a289b3158ee1eb47a921184753858761", checked := Try.checked }
namespace Rows
def none {H : Type} : Left H := { results := [], args := [] }

/-- 'relievolaw08.TopoBuilds': WHATEVER THE INPUT: true; the input reads as it did. -/
def topoBuildsSpec : ChangeSpec := { name := "topoBuilds", fn := fun _ => fun
  | [d1, d2] => { results := [.lit (.bool true)], args := [d1, d2] }
  | _ => none }
def topoBuildsRow : OpenClaim := { program := "ytbehobojgeganaa", sum := "a18cb823c10ebead8a7b297599bf1689a289b3158ee1eb47a921184753858761", func := "relievo/relievolaw08.TopoBuilds", spec := "topoBuilds", unfollowed := true, recurses := true, plainKeys := false, apart := false }
def TopoBuildsSaid : Prop := topoBuildsRow.holds Try.pinned (OpenSpec.ofChange topoBuildsSpec)

/-- ITS FALSE NEIGHBOUR: 'it returns false'. Refute it at one input. -/
def topoBuildsWrong : ChangeSpec := { name := "topoBuilds", fn := fun _ => fun
  | [d1, d2] => { results := [.lit (.bool false)], args := [d1, d2] }
  | _ => none }
def TopoBuildsWrongFalsely : Prop := topoBuildsRow.holds Try.pinned (OpenSpec.ofChange topoBuildsWrong)

/-- 'relievolaw08.TopoFinds': WHATEVER THE INPUT: true; the input reads as it did. -/
def topoFindsSpec : ChangeSpec := { name := "topoFinds", fn := fun _ => fun
  | [d1, d2, d3, d4] => { results := [.lit (.bool true)], args := [d1, d2, d3, d4] }
  | _ => none }
def topoFindsRow : OpenClaim := { program := "ytbehobojgeganaa", sum := "a18cb823c10ebead8a7b297599bf1689a289b3158ee1eb47a921184753858761", func := "relievo/relievolaw08.TopoFinds", spec := "topoFinds", unfollowed := true, recurses := true, plainKeys := false, apart := false }
def TopoFindsSaid : Prop := topoFindsRow.holds Try.pinned (OpenSpec.ofChange topoFindsSpec)

/-- ITS FALSE NEIGHBOUR: 'it returns false'. Refute it at one input. -/
def topoFindsWrong : ChangeSpec := { name := "topoFinds", fn := fun _ => fun
  | [d1, d2, d3, d4] => { results := [.lit (.bool false)], args := [d1, d2, d3, d4] }
  | _ => none }
def TopoFindsWrongFalsely : Prop := topoFindsRow.holds Try.pinned (OpenSpec.ofChange topoFindsWrong)

/-- 'relievolaw08.TopoCounts': WHATEVER THE INPUT: true; the input reads as it did. -/
def topoCountsSpec : ChangeSpec := { name := "topoCounts", fn := fun _ => fun
  | [d1, d2] => { results := [.lit (.bool true)], args := [d1, d2] }
  | _ => none }
def topoCountsRow : OpenClaim := { program := "ytbehobojgeganaa", sum := "a18cb823c10ebead8a7b297599bf1689a289b3158ee1eb47a921184753858761", func := "relievo/relievolaw08.TopoCounts", spec := "topoCounts", unfollowed := true, recurses := true, plainKeys := false, apart := false }
def TopoCountsSaid : Prop := topoCountsRow.holds Try.pinned (OpenSpec.ofChange topoCountsSpec)

/-- ITS FALSE NEIGHBOUR: 'it returns false'. Refute it at one input. -/
def topoCountsWrong : ChangeSpec := { name := "topoCounts", fn := fun _ => fun
  | [d1, d2] => { results := [.lit (.bool false)], args := [d1, d2] }
  | _ => none }
def TopoCountsWrongFalsely : Prop := topoCountsRow.holds Try.pinned (OpenSpec.ofChange topoCountsWrong)

/-- 'relievolaw08.TopoTurned': WHATEVER THE INPUT: true; the input reads as it did. -/
def topoTurnedSpec : ChangeSpec := { name := "topoTurned", fn := fun _ => fun
  | [d1, d2] => { results := [.lit (.bool true)], args := [d1, d2] }
  | _ => none }
def topoTurnedRow : OpenClaim := { program := "ytbehobojgeganaa", sum := "a18cb823c10ebead8a7b297599bf1689a289b3158ee1eb47a921184753858761", func := "relievo/relievolaw08.TopoTurned", spec := "topoTurned", unfollowed := true, recurses := true, plainKeys := false, apart := false }
def TopoTurnedSaid : Prop := topoTurnedRow.holds Try.pinned (OpenSpec.ofChange topoTurnedSpec)

/-- ITS FALSE NEIGHBOUR: 'it returns false'. Refute it at one input. -/
def topoTurnedWrong : ChangeSpec := { name := "topoTurned", fn := fun _ => fun
  | [d1, d2] => { results := [.lit (.bool false)], args := [d1, d2] }
  | _ => none }
def TopoTurnedWrongFalsely : Prop := topoTurnedRow.holds Try.pinned (OpenSpec.ofChange topoTurnedWrong)

/-- 'relievolaw08.TopoFewer': WHATEVER THE INPUT: true; the input reads as it did. -/
def topoFewerSpec : ChangeSpec := { name := "topoFewer", fn := fun _ => fun
  | [d1, d2] => { results := [.lit (.bool true)], args := [d1, d2] }
  | _ => none }
def topoFewerRow : OpenClaim := { program := "ytbehobojgeganaa", sum := "a18cb823c10ebead8a7b297599bf1689a289b3158ee1eb47a921184753858761", func := "relievo/relievolaw08.TopoFewer", spec := "topoFewer", unfollowed := true, recurses := true, plainKeys := false, apart := false }
def TopoFewerSaid : Prop := topoFewerRow.holds Try.pinned (OpenSpec.ofChange topoFewerSpec)

/-- ITS FALSE NEIGHBOUR: 'it returns false'. Refute it at one input. -/
def topoFewerWrong : ChangeSpec := { name := "topoFewer", fn := fun _ => fun
  | [d1, d2] => { results := [.lit (.bool false)], args := [d1, d2] }
  | _ => none }
def TopoFewerWrongFalsely : Prop := topoFewerRow.holds Try.pinned (OpenSpec.ofChange topoFewerWrong)

/-- 'relievolaw08.TopoApart': WHATEVER THE INPUT: true; the input reads as it did. -/
def topoApartSpec : ChangeSpec := { name := "topoApart", fn := fun _ => fun
  | [d1, d2, d3, d4] => { results := [.lit (.bool true)], args := [d1, d2, d3, d4] }
  | _ => none }
def topoApartRow : OpenClaim := { program := "ytbehobojgeganaa", sum := "a18cb823c10ebead8a7b297599bf1689a289b3158ee1eb47a921184753858761", func := "relievo/relievolaw08.TopoApart", spec := "topoApart", unfollowed := true, recurses := true, plainKeys := false, apart := false }
def TopoApartSaid : Prop := topoApartRow.holds Try.pinned (OpenSpec.ofChange topoApartSpec)

/-- ITS FALSE NEIGHBOUR: 'it returns false'. Refute it at one input. -/
def topoApartWrong : ChangeSpec := { name := "topoApart", fn := fun _ => fun
  | [d1, d2, d3, d4] => { results := [.lit (.bool false)], args := [d1, d2, d3, d4] }
  | _ => none }
def TopoApartWrongFalsely : Prop := topoApartRow.holds Try.pinned (OpenSpec.ofChange topoApartWrong)

/-- 'relievolaw09.SubQuads': WHATEVER THE INPUT: true; the input reads as it did. -/
def subQuadsSpec : ChangeSpec := { name := "subQuads", fn := fun _ => fun
  | [d] => { results := [.lit (.bool true)], args := [d] }
  | _ => none }
def subQuadsRow : OpenClaim := { program := "ytbehobojgeganaa", sum := "a18cb823c10ebead8a7b297599bf1689a289b3158ee1eb47a921184753858761", func := "relievo/relievolaw09.SubQuads", spec := "subQuads", unfollowed := true, recurses := true, plainKeys := false, apart := false }
def SubQuadsSaid : Prop := subQuadsRow.holds Try.pinned (OpenSpec.ofChange subQuadsSpec)

/-- ITS FALSE NEIGHBOUR: 'it returns false'. Refute it at one input. -/
def subQuadsWrong : ChangeSpec := { name := "subQuads", fn := fun _ => fun
  | [d] => { results := [.lit (.bool false)], args := [d] }
  | _ => none }
def SubQuadsWrongFalsely : Prop := subQuadsRow.holds Try.pinned (OpenSpec.ofChange subQuadsWrong)

/-- 'relievolaw09.SubInside': WHATEVER THE INPUT: true; the input reads as it did. -/
def subInsideSpec : ChangeSpec := { name := "subInside", fn := fun _ => fun
  | [d] => { results := [.lit (.bool true)], args := [d] }
  | _ => none }
def subInsideRow : OpenClaim := { program := "ytbehobojgeganaa", sum := "a18cb823c10ebead8a7b297599bf1689a289b3158ee1eb47a921184753858761", func := "relievo/relievolaw09.SubInside", spec := "subInside", unfollowed := true, recurses := true, plainKeys := false, apart := false }
def SubInsideSaid : Prop := subInsideRow.holds Try.pinned (OpenSpec.ofChange subInsideSpec)

/-- ITS FALSE NEIGHBOUR: 'it returns false'. Refute it at one input. -/
def subInsideWrong : ChangeSpec := { name := "subInside", fn := fun _ => fun
  | [d] => { results := [.lit (.bool false)], args := [d] }
  | _ => none }
def SubInsideWrongFalsely : Prop := subInsideRow.holds Try.pinned (OpenSpec.ofChange subInsideWrong)

/-- 'relievolaw09.SubNear': WHATEVER THE INPUT: true; the input reads as it did. -/
def subNearSpec : ChangeSpec := { name := "subNear", fn := fun _ => fun
  | [d] => { results := [.lit (.bool true)], args := [d] }
  | _ => none }
def subNearRow : OpenClaim := { program := "ytbehobojgeganaa", sum := "a18cb823c10ebead8a7b297599bf1689a289b3158ee1eb47a921184753858761", func := "relievo/relievolaw09.SubNear", spec := "subNear", unfollowed := true, recurses := true, plainKeys := false, apart := false }
def SubNearSaid : Prop := subNearRow.holds Try.pinned (OpenSpec.ofChange subNearSpec)

/-- ITS FALSE NEIGHBOUR: 'it returns false'. Refute it at one input. -/
def subNearWrong : ChangeSpec := { name := "subNear", fn := fun _ => fun
  | [d] => { results := [.lit (.bool false)], args := [d] }
  | _ => none }
def SubNearWrongFalsely : Prop := subNearRow.holds Try.pinned (OpenSpec.ofChange subNearWrong)

/-- 'relievolaw09.SubFlat': WHATEVER THE INPUT: true; the input reads as it did. -/
def subFlatSpec : ChangeSpec := { name := "subFlat", fn := fun _ => fun
  | [d1, d2] => { results := [.lit (.bool true)], args := [d1, d2] }
  | _ => none }
def subFlatRow : OpenClaim := { program := "ytbehobojgeganaa", sum := "a18cb823c10ebead8a7b297599bf1689a289b3158ee1eb47a921184753858761", func := "relievo/relievolaw09.SubFlat", spec := "subFlat", unfollowed := true, recurses := true, plainKeys := false, apart := false }
def SubFlatSaid : Prop := subFlatRow.holds Try.pinned (OpenSpec.ofChange subFlatSpec)

/-- ITS FALSE NEIGHBOUR: 'it returns false'. Refute it at one input. -/
def subFlatWrong : ChangeSpec := { name := "subFlat", fn := fun _ => fun
  | [d1, d2] => { results := [.lit (.bool false)], args := [d1, d2] }
  | _ => none }
def SubFlatWrongFalsely : Prop := subFlatRow.holds Try.pinned (OpenSpec.ofChange subFlatWrong)

/-- 'relievolaw09.SubTurned': WHATEVER THE INPUT: true; the input reads as it did. -/
def subTurnedSpec : ChangeSpec := { name := "subTurned", fn := fun _ => fun
  | [d] => { results := [.lit (.bool true)], args := [d] }
  | _ => none }
def subTurnedRow : OpenClaim := { program := "ytbehobojgeganaa", sum := "a18cb823c10ebead8a7b297599bf1689a289b3158ee1eb47a921184753858761", func := "relievo/relievolaw09.SubTurned", spec := "subTurned", unfollowed := true, recurses := true, plainKeys := false, apart := false }
def SubTurnedSaid : Prop := subTurnedRow.holds Try.pinned (OpenSpec.ofChange subTurnedSpec)

/-- ITS FALSE NEIGHBOUR: 'it returns false'. Refute it at one input. -/
def subTurnedWrong : ChangeSpec := { name := "subTurned", fn := fun _ => fun
  | [d] => { results := [.lit (.bool false)], args := [d] }
  | _ => none }
def SubTurnedWrongFalsely : Prop := subTurnedRow.holds Try.pinned (OpenSpec.ofChange subTurnedWrong)

/- THE SECOND FORM. 'bulk': how many values and letters a reading holds, each counted each time it is reached (what is shared counts as often as it is met; a slice's spare places count too). A statement '..UptoSaid' is the law's where the arguments, and the package variables that the reading takes, are together of bulk at most 1048576: NARROWER than '..Said'. Prove '..Said' where nothing that the law and all that it calls make is longer than what came in: it says more and counts as full. Else prove '..UptoSaid'. A law counts once. -/
mutual
def uptoBulk {H : Type} : DataW H → Nat
  | .lit (.string bytes) => bytes.length + 1
  | .lit _ => 1
  | .nil => 1
  | .ptr d => uptoBulk d + 1
  | .slice elems spare => uptoBulkAll elems + uptoBulkAll spare + 1
  | .agg parts => uptoBulkAll parts + 1
  | .iface _ d => uptoBulk d + 1
  | .map entries => uptoBulkEntries entries + 1
  | .held _ => 1
def uptoBulkAll {H : Type} : List (DataW H) → Nat
  | [] => 0
  | d :: r => uptoBulk d + uptoBulkAll r
def uptoBulkEntries {H : Type} : List (Lit × DataW H) → Nat
  | [] => 0
  | x :: r => uptoBulkEntry x + uptoBulkEntries r
def uptoBulkEntry {H : Type} : Lit × DataW H → Nat
  | (.string bytes, d) => bytes.length + uptoBulk d + 1
  | (_, d) => uptoBulk d + 1
 end
def uptoSmall : (H : Type) → List (DataW H) → Bool := fun _ ds => decide (uptoBulkAll ds ≤ 1048576)
def OpenSpec.upto (s : _root_.Go.ChangeSpec) : _root_.Go.OpenSpec := { _root_.Go.OpenSpec.ofChange s with cond := some uptoSmall }

/-- 'relievolaw08.TopoBuilds', WHERE WHAT IT READS IS OF BULK AT MOST 1048576: true; the input reads as it did. -/
def topoBuildsUptoRow : OpenClaim := { program := "ytbehobojgeganaa", sum := "a18cb823c10ebead8a7b297599bf1689a289b3158ee1eb47a921184753858761", func := "relievo/relievolaw08.TopoBuilds", spec := "topoBuilds", unfollowed := true, recurses := true, plainKeys := false, apart := false, narrowed := true }
def TopoBuildsUptoSaid : Prop := topoBuildsUptoRow.holds Try.pinned (OpenSpec.upto topoBuildsSpec)

/-- 'relievolaw08.TopoFinds', WHERE WHAT IT READS IS OF BULK AT MOST 1048576: true; the input reads as it did. -/
def topoFindsUptoRow : OpenClaim := { program := "ytbehobojgeganaa", sum := "a18cb823c10ebead8a7b297599bf1689a289b3158ee1eb47a921184753858761", func := "relievo/relievolaw08.TopoFinds", spec := "topoFinds", unfollowed := true, recurses := true, plainKeys := false, apart := false, narrowed := true }
def TopoFindsUptoSaid : Prop := topoFindsUptoRow.holds Try.pinned (OpenSpec.upto topoFindsSpec)

/-- 'relievolaw08.TopoCounts', WHERE WHAT IT READS IS OF BULK AT MOST 1048576: true; the input reads as it did. -/
def topoCountsUptoRow : OpenClaim := { program := "ytbehobojgeganaa", sum := "a18cb823c10ebead8a7b297599bf1689a289b3158ee1eb47a921184753858761", func := "relievo/relievolaw08.TopoCounts", spec := "topoCounts", unfollowed := true, recurses := true, plainKeys := false, apart := false, narrowed := true }
def TopoCountsUptoSaid : Prop := topoCountsUptoRow.holds Try.pinned (OpenSpec.upto topoCountsSpec)

/-- 'relievolaw08.TopoTurned', WHERE WHAT IT READS IS OF BULK AT MOST 1048576: true; the input reads as it did. -/
def topoTurnedUptoRow : OpenClaim := { program := "ytbehobojgeganaa", sum := "a18cb823c10ebead8a7b297599bf1689a289b3158ee1eb47a921184753858761", func := "relievo/relievolaw08.TopoTurned", spec := "topoTurned", unfollowed := true, recurses := true, plainKeys := false, apart := false, narrowed := true }
def TopoTurnedUptoSaid : Prop := topoTurnedUptoRow.holds Try.pinned (OpenSpec.upto topoTurnedSpec)

/-- 'relievolaw08.TopoFewer', WHERE WHAT IT READS IS OF BULK AT MOST 1048576: true; the input reads as it did. -/
def topoFewerUptoRow : OpenClaim := { program := "ytbehobojgeganaa", sum := "a18cb823c10ebead8a7b297599bf1689a289b3158ee1eb47a921184753858761", func := "relievo/relievolaw08.TopoFewer", spec := "topoFewer", unfollowed := true, recurses := true, plainKeys := false, apart := false, narrowed := true }
def TopoFewerUptoSaid : Prop := topoFewerUptoRow.holds Try.pinned (OpenSpec.upto topoFewerSpec)

/-- 'relievolaw08.TopoApart', WHERE WHAT IT READS IS OF BULK AT MOST 1048576: true; the input reads as it did. -/
def topoApartUptoRow : OpenClaim := { program := "ytbehobojgeganaa", sum := "a18cb823c10ebead8a7b297599bf1689a289b3158ee1eb47a921184753858761", func := "relievo/relievolaw08.TopoApart", spec := "topoApart", unfollowed := true, recurses := true, plainKeys := false, apart := false, narrowed := true }
def TopoApartUptoSaid : Prop := topoApartUptoRow.holds Try.pinned (OpenSpec.upto topoApartSpec)

/-- 'relievolaw09.SubQuads', WHERE WHAT IT READS IS OF BULK AT MOST 1048576: true; the input reads as it did. -/
def subQuadsUptoRow : OpenClaim := { program := "ytbehobojgeganaa", sum := "a18cb823c10ebead8a7b297599bf1689a289b3158ee1eb47a921184753858761", func := "relievo/relievolaw09.SubQuads", spec := "subQuads", unfollowed := true, recurses := true, plainKeys := false, apart := false, narrowed := true }
def SubQuadsUptoSaid : Prop := subQuadsUptoRow.holds Try.pinned (OpenSpec.upto subQuadsSpec)

/-- 'relievolaw09.SubInside', WHERE WHAT IT READS IS OF BULK AT MOST 1048576: true; the input reads as it did. -/
def subInsideUptoRow : OpenClaim := { program := "ytbehobojgeganaa", sum := "a18cb823c10ebead8a7b297599bf1689a289b3158ee1eb47a921184753858761", func := "relievo/relievolaw09.SubInside", spec := "subInside", unfollowed := true, recurses := true, plainKeys := false, apart := false, narrowed := true }
def SubInsideUptoSaid : Prop := subInsideUptoRow.holds Try.pinned (OpenSpec.upto subInsideSpec)

/-- 'relievolaw09.SubNear', WHERE WHAT IT READS IS OF BULK AT MOST 1048576: true; the input reads as it did. -/
def subNearUptoRow : OpenClaim := { program := "ytbehobojgeganaa", sum := "a18cb823c10ebead8a7b297599bf1689a289b3158ee1eb47a921184753858761", func := "relievo/relievolaw09.SubNear", spec := "subNear", unfollowed := true, recurses := true, plainKeys := false, apart := false, narrowed := true }
def SubNearUptoSaid : Prop := subNearUptoRow.holds Try.pinned (OpenSpec.upto subNearSpec)

/-- 'relievolaw09.SubFlat', WHERE WHAT IT READS IS OF BULK AT MOST 1048576: true; the input reads as it did. -/
def subFlatUptoRow : OpenClaim := { program := "ytbehobojgeganaa", sum := "a18cb823c10ebead8a7b297599bf1689a289b3158ee1eb47a921184753858761", func := "relievo/relievolaw09.SubFlat", spec := "subFlat", unfollowed := true, recurses := true, plainKeys := false, apart := false, narrowed := true }
def SubFlatUptoSaid : Prop := subFlatUptoRow.holds Try.pinned (OpenSpec.upto subFlatSpec)

/-- 'relievolaw09.SubTurned', WHERE WHAT IT READS IS OF BULK AT MOST 1048576: true; the input reads as it did. -/
def subTurnedUptoRow : OpenClaim := { program := "ytbehobojgeganaa", sum := "a18cb823c10ebead8a7b297599bf1689a289b3158ee1eb47a921184753858761", func := "relievo/relievolaw09.SubTurned", spec := "subTurned", unfollowed := true, recurses := true, plainKeys := false, apart := false, narrowed := true }
def SubTurnedUptoSaid : Prop := subTurnedUptoRow.holds Try.pinned (OpenSpec.upto subTurnedSpec)

end Rows
end Go.Proofs.Ytbehobojgeganaa
