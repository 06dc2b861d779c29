/- Calls that answer a value and leave what was there as it was: one word for their contracts, and what a region of such calls comes to. No program is imported. -/
import Derived.Below
import Derived.Deep.Draws
import Derived.Deep.QuietTactic
import Derived.BigQuiet
import Derived.WalkKit
import Derived.WalkLawsBesides
import Derived.Lib.Hide
namespace Go.Proofs.Ytjhkbdbhikkchaa
open Go.RowKit
set_option linter.unusedVariables false
set_option linter.unusedSimpArgs false
variable {P : Program}
/-! what a call leaves as it was, step by step -/
theorem bel_alloc {a w : World} (h : Below a.heap.size a w) (o : Obj) : Below a.heap.size a (w.alloc o) := h.alloc h.size o
theorem bel_trans {a w w' : World} (h : Below a.heap.size a w) (k : Below w.heap.size w w') : Below a.heap.size a w' := h.trans (k.mono h.size)
theorem bel_set {a w : World} (h : Below a.heap.size a w) {p : Addr} (hp : a.heap.size ≤ p.block) (u : Value) : Below a.heap.size a (w.setCell p u) := h.setCell hp u
theorem bel_drewN {a w : World} (h : Below a.heap.size a w) (n : Nat) : Below a.heap.size a (w.drewN n) := ⟨h.os, h.tape, h.output, h.size, h.block⟩
theorem bel_drew {a w : World} (h : Below a.heap.size a w) : Below a.heap.size a w.drew := ⟨h.os, h.tape, h.output, h.size, h.block⟩
/-- A world behind w in which all that w had is as it was. -/
structure More (w : World) where
  world : World
  kept : Below w.heap.size w world
instance more_some (w : World) : Nonempty (More w) := ⟨⟨w, Below.refl _ _⟩⟩
def grow (w : World) (x : More w) : World := x.world
theorem bel_grow {a w : World} (h : Below a.heap.size a w) (x : More w) : Below a.heap.size a (grow w x) := bel_trans h x.kept
/-- What is behind the blocks that w had: of that nothing is said. -/
def More.top {w : World} (x : More w) : Nat := x.world.heap.size
def More.cellAt {w : World} (x : More w) (n i : Nat) : Option Value := x.world.cell? ⟨n, i, none⟩
def More.frozenAt {w : World} (x : More w) (n i : Nat) : Bool := x.world.frozen? ⟨n, i, none⟩
theorem grow_cell (w : World) (x : More w) (n i : Nat) : (grow w x).cell? ⟨n, i, none⟩ = if n < w.heap.size then w.cell? ⟨n, i, none⟩ else x.cellAt n i := by
  split
  · rename_i h; exact x.kept.cell (p := ⟨n, i, none⟩) h
  · rfl
theorem grow_frozen (w : World) (x : More w) (n i : Nat) : (grow w x).frozen? ⟨n, i, none⟩ = if n < w.heap.size then w.frozen? ⟨n, i, none⟩ else x.frozenAt n i := by
  split
  · rename_i h; exact x.kept.frozen (p := ⟨n, i, none⟩) h
  · rfl
theorem grow_lt (w : World) (x : More w) (n : Nat) : (n < (grow w x).heap.size) = (n < w.heap.size ∨ n < x.top) := by
  have h : w.heap.size ≤ x.world.heap.size := x.kept.size
  have e : (grow w x).heap.size = x.world.heap.size := rfl
  have e2 : x.top = x.world.heap.size := rfl
  rw [e, e2]
  exact propext ⟨fun h => .inr h, fun h => by omega⟩
theorem grow_le (w : World) (x : More w) (n : Nat) : (n ≤ (grow w x).heap.size) = (n ≤ w.heap.size ∨ n ≤ x.top) := by
  have h : w.heap.size ≤ x.world.heap.size := x.kept.size
  have e : (grow w x).heap.size = x.world.heap.size := rfl
  have e2 : x.top = x.world.heap.size := rfl
  rw [e, e2]
  exact propext ⟨fun h => .inr h, fun h => by omega⟩
theorem grow_lt1 (w : World) (x : More w) (n : Nat) : (n < (grow w x).heap.size + 1) = (n < w.heap.size ∨ n < x.top + 1) := by
  have h : w.heap.size ≤ x.world.heap.size := x.kept.size
  have e : (grow w x).heap.size = x.world.heap.size := rfl
  have e2 : x.top = x.world.heap.size := rfl
  rw [e, e2]
  exact propext ⟨fun h => .inr h, fun h => by omega⟩
theorem grow_lt2 (w : World) (x : More w) (n : Nat) : (n < (grow w x).heap.size + 1 + 1) = (n < w.heap.size ∨ n < x.top + 1 + 1) := by
  have h : w.heap.size ≤ x.world.heap.size := x.kept.size
  have e : (grow w x).heap.size = x.world.heap.size := rfl
  have e2 : x.top = x.world.heap.size := rfl
  rw [e, e2]
  exact propext ⟨fun h => .inr h, fun h => by omega⟩
theorem grow_lt3 (w : World) (x : More w) (n : Nat) : (n < (grow w x).heap.size + 1 + 1 + 1) = (n < w.heap.size ∨ n < x.top + 1 + 1 + 1) := by
  have h : w.heap.size ≤ x.world.heap.size := x.kept.size
  have e : (grow w x).heap.size = x.world.heap.size := rfl
  have e2 : x.top = x.world.heap.size := rfl
  rw [e, e2]
  exact propext ⟨fun h => .inr h, fun h => by omega⟩
theorem grow_lt4 (w : World) (x : More w) (n : Nat) : (n < (grow w x).heap.size + 1 + 1 + 1 + 1) = (n < w.heap.size ∨ n < x.top + 1 + 1 + 1 + 1) := by
  have h : w.heap.size ≤ x.world.heap.size := x.kept.size
  have e : (grow w x).heap.size = x.world.heap.size := rfl
  have e2 : x.top = x.world.heap.size := rfl
  rw [e, e2]
  exact propext ⟨fun h => .inr h, fun h => by omega⟩
theorem grow_lt5 (w : World) (x : More w) (n : Nat) : (n < (grow w x).heap.size + 1 + 1 + 1 + 1 + 1) = (n < w.heap.size ∨ n < x.top + 1 + 1 + 1 + 1 + 1) := by
  have h : w.heap.size ≤ x.world.heap.size := x.kept.size
  have e : (grow w x).heap.size = x.world.heap.size := rfl
  have e2 : x.top = x.world.heap.size := rfl
  rw [e, e2]
  exact propext ⟨fun h => .inr h, fun h => by omega⟩
theorem grow_lt6 (w : World) (x : More w) (n : Nat) : (n < (grow w x).heap.size + 1 + 1 + 1 + 1 + 1 + 1) = (n < w.heap.size ∨ n < x.top + 1 + 1 + 1 + 1 + 1 + 1) := by
  have h : w.heap.size ≤ x.world.heap.size := x.kept.size
  have e : (grow w x).heap.size = x.world.heap.size := rfl
  have e2 : x.top = x.world.heap.size := rfl
  rw [e, e2]
  exact propext ⟨fun h => .inr h, fun h => by omega⟩
theorem grow_lt7 (w : World) (x : More w) (n : Nat) : (n < (grow w x).heap.size + 1 + 1 + 1 + 1 + 1 + 1 + 1) = (n < w.heap.size ∨ n < x.top + 1 + 1 + 1 + 1 + 1 + 1 + 1) := by
  have h : w.heap.size ≤ x.world.heap.size := x.kept.size
  have e : (grow w x).heap.size = x.world.heap.size := rfl
  have e2 : x.top = x.world.heap.size := rfl
  rw [e, e2]
  exact propext ⟨fun h => .inr h, fun h => by omega⟩
theorem grow_lt8 (w : World) (x : More w) (n : Nat) : (n < (grow w x).heap.size + 1 + 1 + 1 + 1 + 1 + 1 + 1 + 1) = (n < w.heap.size ∨ n < x.top + 1 + 1 + 1 + 1 + 1 + 1 + 1 + 1) := by
  have h : w.heap.size ≤ x.world.heap.size := x.kept.size
  have e : (grow w x).heap.size = x.world.heap.size := rfl
  have e2 : x.top = x.world.heap.size := rfl
  rw [e, e2]
  exact propext ⟨fun h => .inr h, fun h => by omega⟩
theorem grow_of {w w' : World} (h : Below w.heap.size w w') : ∃ x, w' = grow w x := ⟨⟨w', h⟩, rfl⟩
attribute [go_sem] grow_cell grow_frozen grow_lt grow_le grow_lt1 grow_lt2 grow_lt3 grow_lt4 grow_lt5 grow_lt6 grow_lt7 grow_lt8
/-- In every world the call answers v, and all that was there is as it was. -/
def Gives (P : Program) (f : FuncId) (args : Array Value) (v : Value) : Prop := ∀ w : World, Calls P f args w fun e w' => e = .returned v ∧ ∃ x, w' = grow w x
theorem Gives.at_ {f : FuncId} {args : Array Value} {v : Value} (h : Gives P f args v) (w : World) : Calls P f args w fun e w' => e = .returned v ∧ ∃ x, w' = grow w x := h w
theorem Gives.mk {f : FuncId} {args : Array Value} {v : Value} (h : ∀ w : World, Calls P f args w fun e w' => e = .returned v ∧ Below w.heap.size w w') : Gives P f args v :=
  fun w => (h w).mono fun _ _ ⟨he, hb⟩ => ⟨he, grow_of hb⟩
theorem Gives.bel {f : FuncId} {args : Array Value} {v : Value} (h : Gives P f args v) (w : World) : Calls P f args w fun e w' => e = .returned v ∧ Below w.heap.size w w' :=
  (h w).mono fun _ _ ⟨he, x, hx⟩ => ⟨he, hx ▸ x.kept⟩
theorem Gives.quiet {f : FuncId} {args : Array Value} {v : Value} (h : Gives P f args v) {w : World} (x : More w) :
    Calls P f args (grow w x) fun e w'' => e = .returned v ∧ ∃ y, w'' = grow w y :=
  (h (grow w x)).mono fun _ _ ⟨he, y, hy⟩ => ⟨he, grow_of (hy ▸ bel_grow x.kept y)⟩
/-- A region whose operations only read or are such calls: one walk in the order of the text. -/
theorem wp_region_grow {id : Nat} {Q : Exit → Act → World → Prop} {a : Act} {w : World} {l : List Oper} (hm : P.follows .mixedOrders = true) (hB : Region.lexB .any l.toArray = true)
    (h : wpQuiet P l.toArray (fun w' => ∃ x, w' = grow w x) (fun a' => ∀ w', (∃ x, w' = grow w x) → Q .normal a' w') l a) : (Code.region id l.toArray true).wp P Q a w :=
  wp_region_quiet (C := fun w' => ∃ x, w' = grow w x) hm hB (grow_of (bel_drew (Below.refl _ _))) (by simpa using h)
end Go.Proofs.Ytjhkbdbhikkchaa
