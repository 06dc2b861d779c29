/- Calls that answer a value and leave what was there as it was: one word for their contracts, and what a region of such calls comes to. No program is imported. -/
import Derived.Below
import Derived.Deep.Draws
import Derived.Deep.QuietTactic
import Derived.BigQuiet
import Derived.WalkKit
import Derived.WalkLawsBesides
import Derived.Lib.Hide
import Derived.Laws.Rows
namespace Go.Proofs.Ytbehobojgeganaa
open Go.RowKit
set_option linter.unusedVariables false
set_option linter.unusedSimpArgs false
variable {P : Program}
/-! what a call leaves as it was, step by step -/
theorem bel_alloc {a w : World} (h : Below a.heap.size a w) (o : Obj) : Below a.heap.size a (w.alloc o) := h.alloc h.size o
theorem bel_trans {a w w' : World} (h : Below a.heap.size a w) (k : Below w.heap.size w w') : Below a.heap.size a w' := h.trans (k.mono h.size)
theorem bel_set {a w : World} (h : Below a.heap.size a w) {p : Addr} (hp : a.heap.size ≤ p.block) (u : Value) : Below a.heap.size a (w.setCell p u) := h.setCell hp u
theorem bel_drewN {a w : World} (h : Below a.heap.size a w) (n : Nat) : Below a.heap.size a (w.drewN n) := ⟨h.os, h.tape, h.output, h.size, h.block⟩
theorem bel_drew {a w : World} (h : Below a.heap.size a w) : Below a.heap.size a w.drew := ⟨h.os, h.tape, h.output, h.size, h.block⟩
/-- A step to a world in which all that was there is as it was. -/
structure More where
  to : World → World
  kept : ∀ w, Below w.heap.size w (to w)
instance more_some : Nonempty More := ⟨⟨fun w => w, fun w => Below.refl _ _⟩⟩
def grow (w : World) (x : More) : World := x.to w
theorem bel_grow {a w : World} (h : Below a.heap.size a w) (x : More) : Below a.heap.size a (grow w x) := bel_trans h (x.kept w)
open Classical in
noncomputable def More.of (w w' : World) (h : Below w.heap.size w w') : More := ⟨fun v => if v = w then w' else v, fun v => by
  by_cases e : v = w
  · rw [if_pos e, e]; exact h
  · rw [if_neg e]; exact Below.refl _ _⟩
theorem grow_mk (w w' : World) (h : Below w.heap.size w w') : grow w (More.of w w' h) = w' := by unfold grow More.of; simp
theorem grow_of {w w' : World} (h : Below w.heap.size w w') : ∃ x, w' = grow w x := ⟨More.of w w' h, (grow_mk w w' h).symm⟩
def More.then (x y : More) : More := ⟨fun w => y.to (x.to w), fun w => bel_trans (x.kept w) (y.kept _)⟩
theorem bel_then {a w : World} {x : More} (h : Below a.heap.size a (grow w x)) (y : More) : Below a.heap.size a (grow w (x.then y)) := bel_grow h y
theorem grow_grow (w : World) (x y : More) : grow (grow w x) y = grow w (x.then y) := rfl
/-- What is behind the blocks that w had: of that nothing is said. -/
def More.top (x : More) (w : World) : Nat := (x.to w).heap.size
def More.cellAt (x : More) (w : World) (n i : Nat) : Option Value := (x.to w).cell? ⟨n, i, none⟩
def More.frozenAt (x : More) (w : World) (n i : Nat) : Bool := (x.to w).frozen? ⟨n, i, none⟩
def More.heapAt (x : More) (w : World) (n : Nat) : Option Obj := (x.to w).heap[n]?
theorem grow_cell (w : World) (x : More) (n i : Nat) : (grow w x).cell? ⟨n, i, none⟩ = if n < w.heap.size then w.cell? ⟨n, i, none⟩ else x.cellAt w n i := by
  split
  · rename_i h; exact (x.kept w).cell (p := ⟨n, i, none⟩) h
  · rfl
theorem grow_frozen (w : World) (x : More) (n i : Nat) : (grow w x).frozen? ⟨n, i, none⟩ = if n < w.heap.size then w.frozen? ⟨n, i, none⟩ else x.frozenAt w n i := by
  split
  · rename_i h; exact (x.kept w).frozen (p := ⟨n, i, none⟩) h
  · rfl
theorem grow_heap (w : World) (x : More) (n : Nat) : (grow w x).heap[n]? = if n < w.heap.size then w.heap[n]? else x.heapAt w n := by
  split
  · rename_i h; exact (x.kept w).block n h
  · rfl
theorem grow_size (w : World) (x : More) : (grow w x).heap.size = x.top w := rfl
theorem top_le (w : World) (x : More) : w.heap.size ≤ x.top w := (x.kept w).size
theorem grow_lt (w : World) (x : More) (n : Nat) : (n < (grow w x).heap.size) = (n < w.heap.size ∨ n < x.top w) := by
  have h : w.heap.size ≤ (x.to w).heap.size := (x.kept w).size
  have e : (grow w x).heap.size = (x.to w).heap.size := rfl
  have e2 : x.top w = (x.to w).heap.size := rfl
  rw [e, e2]
  exact propext ⟨fun h => .inr h, fun h => by omega⟩
theorem grow_lt1 (w : World) (x : More) (n : Nat) : (n < (grow w x).heap.size + 1) = (n < w.heap.size ∨ n < x.top w + 1) := by
  have h : w.heap.size ≤ (x.to w).heap.size := (x.kept w).size
  have e : (grow w x).heap.size = (x.to w).heap.size := rfl
  have e2 : x.top w = (x.to w).heap.size := rfl
  rw [e, e2]
  exact propext ⟨fun h => .inr h, fun h => by omega⟩
theorem grow_lt2 (w : World) (x : More) (n : Nat) : (n < (grow w x).heap.size + 1 + 1) = (n < w.heap.size ∨ n < x.top w + 1 + 1) := by
  have h : w.heap.size ≤ (x.to w).heap.size := (x.kept w).size
  have e : (grow w x).heap.size = (x.to w).heap.size := rfl
  have e2 : x.top w = (x.to w).heap.size := rfl
  rw [e, e2]
  exact propext ⟨fun h => .inr h, fun h => by omega⟩
theorem grow_lt3 (w : World) (x : More) (n : Nat) : (n < (grow w x).heap.size + 1 + 1 + 1) = (n < w.heap.size ∨ n < x.top w + 1 + 1 + 1) := by
  have h : w.heap.size ≤ (x.to w).heap.size := (x.kept w).size
  have e : (grow w x).heap.size = (x.to w).heap.size := rfl
  have e2 : x.top w = (x.to w).heap.size := rfl
  rw [e, e2]
  exact propext ⟨fun h => .inr h, fun h => by omega⟩
theorem grow_lt4 (w : World) (x : More) (n : Nat) : (n < (grow w x).heap.size + 1 + 1 + 1 + 1) = (n < w.heap.size ∨ n < x.top w + 1 + 1 + 1 + 1) := by
  have h : w.heap.size ≤ (x.to w).heap.size := (x.kept w).size
  have e : (grow w x).heap.size = (x.to w).heap.size := rfl
  have e2 : x.top w = (x.to w).heap.size := rfl
  rw [e, e2]
  exact propext ⟨fun h => .inr h, fun h => by omega⟩
theorem grow_lt5 (w : World) (x : More) (n : Nat) : (n < (grow w x).heap.size + 1 + 1 + 1 + 1 + 1) = (n < w.heap.size ∨ n < x.top w + 1 + 1 + 1 + 1 + 1) := by
  have h : w.heap.size ≤ (x.to w).heap.size := (x.kept w).size
  have e : (grow w x).heap.size = (x.to w).heap.size := rfl
  have e2 : x.top w = (x.to w).heap.size := rfl
  rw [e, e2]
  exact propext ⟨fun h => .inr h, fun h => by omega⟩
theorem grow_lt6 (w : World) (x : More) (n : Nat) : (n < (grow w x).heap.size + 1 + 1 + 1 + 1 + 1 + 1) = (n < w.heap.size ∨ n < x.top w + 1 + 1 + 1 + 1 + 1 + 1) := by
  have h : w.heap.size ≤ (x.to w).heap.size := (x.kept w).size
  have e : (grow w x).heap.size = (x.to w).heap.size := rfl
  have e2 : x.top w = (x.to w).heap.size := rfl
  rw [e, e2]
  exact propext ⟨fun h => .inr h, fun h => by omega⟩
theorem grow_lt7 (w : World) (x : More) (n : Nat) : (n < (grow w x).heap.size + 1 + 1 + 1 + 1 + 1 + 1 + 1) = (n < w.heap.size ∨ n < x.top w + 1 + 1 + 1 + 1 + 1 + 1 + 1) := by
  have h : w.heap.size ≤ (x.to w).heap.size := (x.kept w).size
  have e : (grow w x).heap.size = (x.to w).heap.size := rfl
  have e2 : x.top w = (x.to w).heap.size := rfl
  rw [e, e2]
  exact propext ⟨fun h => .inr h, fun h => by omega⟩
theorem grow_lt8 (w : World) (x : More) (n : Nat) : (n < (grow w x).heap.size + 1 + 1 + 1 + 1 + 1 + 1 + 1 + 1) = (n < w.heap.size ∨ n < x.top w + 1 + 1 + 1 + 1 + 1 + 1 + 1 + 1) := by
  have h : w.heap.size ≤ (x.to w).heap.size := (x.kept w).size
  have e : (grow w x).heap.size = (x.to w).heap.size := rfl
  have e2 : x.top w = (x.to w).heap.size := rfl
  rw [e, e2]
  exact propext ⟨fun h => .inr h, fun h => by omega⟩
theorem grow_le (w : World) (x : More) (n : Nat) : (n ≤ (grow w x).heap.size) = (n ≤ w.heap.size ∨ n ≤ x.top w) := by
  have h : w.heap.size ≤ (x.to w).heap.size := (x.kept w).size
  have e : (grow w x).heap.size = (x.to w).heap.size := rfl
  have e2 : x.top w = (x.to w).heap.size := rfl
  rw [e, e2]
  exact propext ⟨fun h => .inr h, fun h => by omega⟩
theorem grow_self1 (w : World) (x : More) : ((grow w x).heap.size < x.top w + 1) = True := eq_true (Nat.lt_succ_self _)
theorem grow_self2 (w : World) (x : More) : ((grow w x).heap.size < x.top w + 1 + 1) = True := eq_true (Nat.lt_succ_of_lt (Nat.lt_succ_self _))
theorem grow_self3 (w : World) (x : More) : ((grow w x).heap.size < x.top w + 1 + 1 + 1) = True := eq_true (Nat.lt_succ_of_lt (Nat.lt_succ_of_lt (Nat.lt_succ_self _)))
attribute [go_sem] grow_self1 grow_self2 grow_self3
attribute [go_sem] grow_grow grow_cell grow_frozen grow_lt grow_le grow_lt1 grow_lt2 grow_lt3 grow_lt4 grow_lt5 grow_lt6 grow_lt7 grow_lt8
/-! a store into a block that was there goes through what grew behind it -/
theorem below_setCell {w v : World} (h : Below w.heap.size w v) (n i : Nat) (u : Value) (hn : n < w.heap.size) : Below (w.setCell ⟨n, i, none⟩ u).heap.size (w.setCell ⟨n, i, none⟩ u) (v.setCell ⟨n, i, none⟩ u) := by
  refine ⟨h.os, h.tape, h.output, by simpa [World.setCell] using h.size, fun k hk => ?_⟩
  have hk' : k < w.heap.size := by simpa [World.setCell] using hk
  simp only [World.setCell, Array.getElem?_modify]
  rw [h.block k hk']
open Classical in
noncomputable def More.setC (x : More) (w : World) (n i : Nat) (u : Value) : More :=
  if h : n < w.heap.size then More.of (w.setCell ⟨n, i, none⟩ u) ((x.to w).setCell ⟨n, i, none⟩ u) (below_setCell (x.kept w) n i u h) else x
theorem grow_setCell (w : World) (x : More) (n i : Nat) (u : Value) (hn : n < w.heap.size) : (grow w x).setCell ⟨n, i, none⟩ u = grow (w.setCell ⟨n, i, none⟩ u) (x.setC w n i u) := by
  unfold More.setC; rw [dif_pos hn, grow_mk]; rfl
theorem below_setRow {w v : World} (h : Below w.heap.size w v) (n : Nat) (cs : Array Value) (hn : n < w.heap.size) : Below (w.setRow n cs).heap.size (w.setRow n cs) (v.setRow n cs) := by
  refine ⟨h.os, h.tape, h.output, by simpa using h.size, fun k hk => ?_⟩
  have hk' : k < w.heap.size := by simpa using hk
  simp only [World.setRow, Array.getElem?_modify]
  rw [h.block k hk']
open Classical in
noncomputable def More.setR (x : More) (w : World) (n : Nat) (cs : Array Value) : More :=
  if h : n < w.heap.size then More.of (w.setRow n cs) ((x.to w).setRow n cs) (below_setRow (x.kept w) n cs h) else x
theorem grow_setRow (w : World) (x : More) (n : Nat) (cs : Array Value) (hn : n < w.heap.size) : (grow w x).setRow n cs = grow (w.setRow n cs) (x.setR w n cs) := by
  unfold More.setR; rw [dif_pos hn, grow_mk]; rfl
attribute [go_sem] grow_setCell grow_setRow
/-- In every world the call answers v, and all that was there is as it was. -/
def Gives (P : Program) (f : FuncId) (args : Array Value) (v : Value) : Prop := ∀ w : World, Calls P f args w fun e w' => e = .returned v ∧ ∃ x, w' = grow w x
theorem Gives.at_ {f : FuncId} {args : Array Value} {v : Value} (h : Gives P f args v) (w : World) : Calls P f args w fun e w' => e = .returned v ∧ ∃ x, w' = grow w x := h w
theorem Gives.mk {f : FuncId} {args : Array Value} {v : Value} (h : ∀ w : World, Calls P f args w fun e w' => e = .returned v ∧ Below w.heap.size w w') : Gives P f args v :=
  fun w => (h w).mono fun _ _ ⟨he, hb⟩ => ⟨he, grow_of hb⟩
theorem Gives.bel {f : FuncId} {args : Array Value} {v : Value} (h : Gives P f args v) (w : World) : Calls P f args w fun e w' => e = .returned v ∧ Below w.heap.size w w' :=
  (h w).mono fun _ _ ⟨he, x, hx⟩ => ⟨he, hx ▸ x.kept w⟩
theorem Gives.quiet {f : FuncId} {args : Array Value} {v : Value} (h : Gives P f args v) {w : World} (x : More) :
    Calls P f args (grow w x) fun e w'' => e = .returned v ∧ ∃ y, w'' = grow w y :=
  (h (grow w x)).mono fun _ _ ⟨he, y, hy⟩ => ⟨he, x.then y, hy⟩
theorem Gives.quiet2 {f : FuncId} {args : Array Value} {v : Value} (h : Gives P f args v) {w : World} (x y : More) :
    Calls P f args (grow w (x.then y)) fun e w'' => e = .returned v ∧ ∃ z, w'' = grow w (x.then z) :=
  (h (grow w (x.then y))).mono fun _ _ ⟨he, z, hz⟩ => ⟨he, y.then z, hz⟩
/-- A region whose operations only read or are such calls: one walk in the order of the text. -/
theorem wp_region_grow {id : Nat} {Q : Exit → Act → World → Prop} {a : Act} {w : World} {l : List Oper} (hm : P.follows .mixedOrders = true) (hB : Region.lexB .any l.toArray = true)
    (h : wpQuiet P l.toArray (fun w' => ∃ x, w' = grow w x) (fun a' => ∀ w', (∃ x, w' = grow w x) → Q .normal a' w') l a) : (Code.region id l.toArray true).wp P Q a w :=
  wp_region_quiet (C := fun w' => ∃ x, w' = grow w x) hm hB (grow_of (bel_drew (Below.refl _ _))) (by simpa using h)
end Go.Proofs.Ytbehobojgeganaa
