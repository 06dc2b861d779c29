/- A row's length within its room, all that a copy asks: of a cage's vertices and creases. An argument that is a texture, opened. Arguments opened: points, boxes, rows of points. Arguments opened: points and triangles. Arguments opened: arrays of four and of sixteen points. A region in any order: reads and quiet calls, one block made, one store into it, and then a forced tail; operations that only read what the store leaves alone may fall behind it. No program is imported. -/
import Derived.Deep.WholeRow
import Derived.Test.YteigionfaodafabProg
import Derived.Test.YteigionfaodafabC0
import Derived.Test.YteigionfaodafabC1
import Derived.Test.YteigionfaodafabC2
import Derived.Test.YteigionfaodafabC3
import Derived.Test.YteigionfaodafabC4
import Derived.Test.YteigionfaodafabC5
import Derived.Test.YteigionfaodafabC6
namespace Go.Proofs.Yteigionfaodafab
open Go.RowKit
set_option linter.unusedVariables false
set_option linter.unusedSimpArgs false
section
variable {H : Type} {enc : TypeId × Value → H} {w : World} {base : Nat} {spare : Nat → Bool} {held : Bool}
set_option maxRecDepth 100000 in
theorem open_P {r : Reach} {b0 : Nat} {v : Value} {d : DataW H} {p : List MemPlace} (hv : Value.okWide Try.prog w r b0 23 v) (h : DataW.Trod enc Try.prog w base spare held 23 v d p) : ∃ a : P3, v = .agg #[.int .i64 a.x, .int .i64 a.y, .int .i64 a.z] ∧ I3 a := by
  obtain ⟨g, rfl, hb⟩ := open_ints_agg Try.underlying23 szV lvV Try.underlying3 hv h
  have h0 := hb 0 (by omega)
  have h1 := hb 1 (by omega)
  have h2 := hb 2 (by omega)
  exact ⟨⟨g 0, g 1, g 2⟩, rfl, h0, h1, h2⟩
end
end Go.Proofs.Yteigionfaodafab
namespace Go.Proofs.Yteigionfaodafab
open Go.ChangeShapes Go.WideShapes Go.ChangeAt Go.RowKit
set_option linter.unusedVariables false
set_option linter.unusedSimpArgs false
set_option maxRecDepth 100000
section
variable {H : Type} {enc : TypeId × Value → H} {w : World} {base : Nat} {spare : Nat → Bool} {held : Bool}
end
end Go.Proofs.Yteigionfaodafab
namespace Go.Proofs.Yteigionfaodafab
open Go.ChangeShapes Go.WideShapes Go.ChangeAt Go.RowKit
set_option linter.unusedVariables false
set_option linter.unusedSimpArgs false
set_option maxRecDepth 100000
section
variable {H : Type} {enc : TypeId × Value → H} {w : World} {base b0 : Nat} {spare : Nat → Bool} {held : Bool} {v : Value} {d : DataW H} {p : List MemPlace} {r : Reach}
def In64 (a : Int) : Prop := -9223372036854775808 ≤ a ∧ a ≤ 9223372036854775807
theorem open_int64 (hv : Value.okWide Try.prog w r b0 3 v) (h : DataW.Trod enc Try.prog w base spare held 3 v d p) : ∃ a : Int, v = .int .i64 a ∧ In64 a := by
  obtain ⟨a, rfl, _, _, wa⟩ := open_int Try.underlying3 hv h
  exact ⟨a, rfl, bounds_i64 wa⟩
end
end Go.Proofs.Yteigionfaodafab
namespace Go.Proofs.Yteigionfaodafab
open Go.ChangeShapes Go.WideShapes Go.ChangeAt Go.RowKit
set_option linter.unusedVariables false
set_option linter.unusedSimpArgs false
variable {H : Type} {enc : TypeId × Value → H} {w : World} {base b0 : Nat} {spare : Nat → Bool} {held : Bool} {v : Value} {d : DataW H} {p : List MemPlace} {r : Reach}
end Go.Proofs.Yteigionfaodafab
namespace Go.Proofs.Yteigionfaodafab
open Go.ChangeShapes Go.WideShapes Go.ChangeAt Go.RowKit
set_option linter.unusedVariables false
set_option linter.unusedSimpArgs false
section
variable {H : Type} {enc : TypeId × Value → H} {w : World} {base b0 : Nat} {spare : Nat → Bool} {held : Bool} {v : Value} {d : DataW H} {p : List MemPlace} {r : Reach}
end
end Go.Proofs.Yteigionfaodafab
namespace Go.Proofs.Yteigionfaodafab
open Go.RowKit
set_option linter.unusedVariables false
set_option linter.unusedSimpArgs false
section
variable {P : Program} {ops : Array Oper} {w : World} {md : Region.Mode}
inductive Ph where
  | no
  | made (x : More)
  | kept (x : More)
def At2 (w : World) (obj obj' : Obj) : Ph → World → Prop
  | .no, u => ∃ x, u = grow w x
  | .made x, u => ∃ y, u = grow ((grow w x).alloc obj) y
  | .kept x, u => ∃ y, u = grow ((grow w x).alloc obj') y
theorem At2.grows {obj obj' : Obj} {s : Ph} {u : World} (h : At2 w obj obj' s u) : ∃ x, u = grow w x := by
  cases s with
  | no => exact h
  | made x =>
    obtain ⟨y, rfl⟩ := h
    exact grow_of (bel_grow (bel_alloc (bel_grow (Below.refl _ _) x) obj) y)
  | kept x =>
    obtain ⟨y, rfl⟩ := h
    exact grow_of (bel_grow (bel_alloc (bel_grow (Below.refl _ _) x) obj') y)
theorem At2.on {obj obj' : Obj} {s : Ph} {u : World} (h : At2 w obj obj' s u) (y : More) : At2 w obj obj' s (grow u y) := by
  cases s with
  | no => obtain ⟨x, rfl⟩ := h; exact ⟨x.then y, rfl⟩
  | made x => obtain ⟨z, rfl⟩ := h; exact ⟨z.then y, rfl⟩
  | kept x => obtain ⟨z, rfl⟩ := h; exact ⟨z.then y, rfl⟩
variable {n N : Nat} {alc : Tmp} {obj obj' : Obj} {L : Ph → Array Bool → Act → Prop}
/-- The store, from wherever the region has come behind the block's making. -/
def StoreAt (P : Program) (o : Oper) (a : Act) (w : World) (x : More) (obj obj' : Obj) : Prop :=
  o.guard = none ∧ o.dst = none ∧ ∀ y : More, ∃ y' : More, ∃ nx, (nx = .skip ∨ nx = .value undef) ∧ (execOp a.eval o).run P (grow ((grow w x).alloc obj) y) = .ok nx (grow ((grow w x).alloc obj') y')
theorem StoreAt.of_same {o : Oper} {a a' : Act} {x : More} (h : StoreAt P o a w x obj obj') (he : execOp a'.eval o = execOp a.eval o) : StoreAt P o a' w x obj obj' := by
  unfold StoreAt at *
  rw [he]
  exact h
end
section
variable {P : Program} {w : World}
end
theorem storeAt_row {P : Program} {w : World} (t : TypeId) (c c' : Array Value) {o : Oper} {a : Act} {x : More} (p v : Operand) (ho : o.op = .store t p v) (hg : o.guard = none) (hd : o.dst = none) (hp : a.eval p = .pointer (some ⟨(grow w x).heap.size, 0, none⟩)) (hv : a.eval v = .agg c') (hi : (P.info? t).map (·.size) = some c'.size) (hs : c.size = c'.size) (h1 : c'.all (·.oneCell') = true) : StoreAt P o a w x (.cells c t) (.cells c' t) := by
  refine ⟨hg, hd, fun y => ⟨More.setR y ((grow w x).alloc (.cells c t)) (grow w x).heap.size c', .skip, .inl rfl, ?_⟩⟩
  have hlt : (grow w x).heap.size < ((grow w x).alloc (.cells c t)).heap.size := by rw [World.size_alloc]; omega
  have hh : (grow ((grow w x).alloc (.cells c t)) y).heap[(grow w x).heap.size]? = some (.cells c t) := by
    rw [grow_heap, if_pos hlt]
    exact heap_alloc_new _ _
  unfold execOp
  rw [ho]
  simp only [hp, hv, Instr.storeAt, Instr.sureAddr, Sem.run_bind, Sem.run_pure, Result.andThen]
  rw [run_storeVar_row _ _ t t c c' hh hi hs h1, grow_setRow _ _ _ _ hlt, World.setRow_alloc_new]
end Go.Proofs.Yteigionfaodafab
