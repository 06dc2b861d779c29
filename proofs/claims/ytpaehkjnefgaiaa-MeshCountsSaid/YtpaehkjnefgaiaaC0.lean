/- Calls that answer a value and leave what was there as it was: one word for their contracts, and what a region of such calls comes to. No program is imported. Layer 13, in numbers: the spots and the triangles over a square, as lists. Layer 13, in numbers: the edges of the triangles, each gone along once. Layer 13, in numbers: all edges of a square's triangles. A region that draws its order: its operations read, or are calls that answer a value and leave what was there; one of them may make a block; the last ones, in one forced order, store. One walk in the order of the text serves every order. No program is imported. Blocks of the call's own under calls that leave them: stores go through to the block that they write. No program is imported. -/
import Derived.Below
import Derived.Deep.Draws
import Derived.Deep.QuietTactic
import Derived.BigQuiet
import Derived.WalkKit
import Derived.WalkLawsBesides
import Derived.Lib.Hide
import Derived.Laws.Rows
import Derived.StillTail
import Derived.Laws.Tables
import Derived.Deep.WholeRow
import Derived.LoopN
import Derived.Deep.DeepCutAuto
namespace Go.Proofs.Ytpaehkjnefgaiaa
open Go.RowKit
set_option linter.unusedVariables false
set_option linter.unusedSimpArgs false
variable {P : Program}
/-! what a call leaves as it was, step by step -/
theorem bel_alloc {a w : World} (h : Below a.heap.size a w) (o : Obj) : Below a.heap.size a (w.alloc o) := h.alloc h.size o
theorem bel_trans {a w w' : World} (h : Below a.heap.size a w) (k : Below w.heap.size w w') : Below a.heap.size a w' := h.trans (k.mono h.size)
theorem bel_set {a w : World} (h : Below a.heap.size a w) {p : Addr} (hp : a.heap.size ≤ p.block) (u : Value) : Below a.heap.size a (w.setCell p u) := h.setCell hp u
theorem bel_drew {a w : World} (h : Below a.heap.size a w) : Below a.heap.size a w.drew := ⟨h.os, h.tape, h.output, h.size, h.block⟩
/-- A step to a world in which all that was there is as it was. -/
structure More where
  «to» : World → World
  kept : ∀ w, Below w.heap.size w («to» w)
instance more_some : Nonempty More := ⟨⟨fun w => w, fun w => Below.refl _ _⟩⟩
def grow (w : World) (x : More) : World := x.to w
theorem bel_grow {a w : World} (h : Below a.heap.size a w) (x : More) : Below a.heap.size a (grow w x) := bel_trans h (x.kept w)
open Classical in
noncomputable def More.of (w w' : World) (h : Below w.heap.size w w') : More := ⟨fun v => if v = w then w' else v, fun v => by
  by_cases e : v = w
  · rw [if_pos e, e]; exact h
  · rw [if_neg e]; exact Below.refl _ _⟩
theorem grow_mk (w w' : World) (h : Below w.heap.size w w') : grow w (More.of w w' h) = w' := by unfold grow More.of; simp
theorem grow_of {w w' : World} (h : Below w.heap.size w w') : ∃ x, w' = grow w x := ⟨More.of w w' h, (grow_mk w w' h).symm⟩
def More.then (x y : More) : More := ⟨fun w => y.to (x.to w), fun w => bel_trans (x.kept w) (y.kept _)⟩
theorem bel_then {a w : World} {x : More} (h : Below a.heap.size a (grow w x)) (y : More) : Below a.heap.size a (grow w (x.then y)) := bel_grow h y
theorem grow_grow (w : World) (x y : More) : grow (grow w x) y = grow w (x.then y) := rfl
/-- What is behind the blocks that w had: of that nothing is said. -/
def More.top (x : More) (w : World) : Nat := (x.to w).heap.size
def More.cellAt (x : More) (w : World) (n i : Nat) : Option Value := (x.to w).cell? ⟨n, i, none⟩
def More.frozenAt (x : More) (w : World) (n i : Nat) : Bool := (x.to w).frozen? ⟨n, i, none⟩
theorem grow_cell (w : World) (x : More) (n i : Nat) : (grow w x).cell? ⟨n, i, none⟩ = if n < w.heap.size then w.cell? ⟨n, i, none⟩ else x.cellAt w n i := by
  split
  · rename_i h; exact (x.kept w).cell (p := ⟨n, i, none⟩) h
  · rfl
theorem grow_frozen (w : World) (x : More) (n i : Nat) : (grow w x).frozen? ⟨n, i, none⟩ = if n < w.heap.size then w.frozen? ⟨n, i, none⟩ else x.frozenAt w n i := by
  split
  · rename_i h; exact (x.kept w).frozen (p := ⟨n, i, none⟩) h
  · rfl
theorem top_le (w : World) (x : More) : w.heap.size ≤ x.top w := (x.kept w).size
theorem grow_lt (w : World) (x : More) (n : Nat) : (n < (grow w x).heap.size) = (n < w.heap.size ∨ n < x.top w) := by
  have h : w.heap.size ≤ (x.to w).heap.size := (x.kept w).size
  have e : (grow w x).heap.size = (x.to w).heap.size := rfl
  have e2 : x.top w = (x.to w).heap.size := rfl
  rw [e, e2]
  exact propext ⟨fun h => .inr h, fun h => by omega⟩
theorem grow_lt1 (w : World) (x : More) (n : Nat) : (n < (grow w x).heap.size + 1) = (n < w.heap.size ∨ n < x.top w + 1) := by
  have h : w.heap.size ≤ (x.to w).heap.size := (x.kept w).size
  have e : (grow w x).heap.size = (x.to w).heap.size := rfl
  have e2 : x.top w = (x.to w).heap.size := rfl
  rw [e, e2]
  exact propext ⟨fun h => .inr h, fun h => by omega⟩
theorem grow_lt2 (w : World) (x : More) (n : Nat) : (n < (grow w x).heap.size + 1 + 1) = (n < w.heap.size ∨ n < x.top w + 1 + 1) := by
  have h : w.heap.size ≤ (x.to w).heap.size := (x.kept w).size
  have e : (grow w x).heap.size = (x.to w).heap.size := rfl
  have e2 : x.top w = (x.to w).heap.size := rfl
  rw [e, e2]
  exact propext ⟨fun h => .inr h, fun h => by omega⟩
theorem grow_lt3 (w : World) (x : More) (n : Nat) : (n < (grow w x).heap.size + 1 + 1 + 1) = (n < w.heap.size ∨ n < x.top w + 1 + 1 + 1) := by
  have h : w.heap.size ≤ (x.to w).heap.size := (x.kept w).size
  have e : (grow w x).heap.size = (x.to w).heap.size := rfl
  have e2 : x.top w = (x.to w).heap.size := rfl
  rw [e, e2]
  exact propext ⟨fun h => .inr h, fun h => by omega⟩
theorem grow_lt4 (w : World) (x : More) (n : Nat) : (n < (grow w x).heap.size + 1 + 1 + 1 + 1) = (n < w.heap.size ∨ n < x.top w + 1 + 1 + 1 + 1) := by
  have h : w.heap.size ≤ (x.to w).heap.size := (x.kept w).size
  have e : (grow w x).heap.size = (x.to w).heap.size := rfl
  have e2 : x.top w = (x.to w).heap.size := rfl
  rw [e, e2]
  exact propext ⟨fun h => .inr h, fun h => by omega⟩
theorem grow_lt5 (w : World) (x : More) (n : Nat) : (n < (grow w x).heap.size + 1 + 1 + 1 + 1 + 1) = (n < w.heap.size ∨ n < x.top w + 1 + 1 + 1 + 1 + 1) := by
  have h : w.heap.size ≤ (x.to w).heap.size := (x.kept w).size
  have e : (grow w x).heap.size = (x.to w).heap.size := rfl
  have e2 : x.top w = (x.to w).heap.size := rfl
  rw [e, e2]
  exact propext ⟨fun h => .inr h, fun h => by omega⟩
theorem grow_lt6 (w : World) (x : More) (n : Nat) : (n < (grow w x).heap.size + 1 + 1 + 1 + 1 + 1 + 1) = (n < w.heap.size ∨ n < x.top w + 1 + 1 + 1 + 1 + 1 + 1) := by
  have h : w.heap.size ≤ (x.to w).heap.size := (x.kept w).size
  have e : (grow w x).heap.size = (x.to w).heap.size := rfl
  have e2 : x.top w = (x.to w).heap.size := rfl
  rw [e, e2]
  exact propext ⟨fun h => .inr h, fun h => by omega⟩
theorem grow_lt7 (w : World) (x : More) (n : Nat) : (n < (grow w x).heap.size + 1 + 1 + 1 + 1 + 1 + 1 + 1) = (n < w.heap.size ∨ n < x.top w + 1 + 1 + 1 + 1 + 1 + 1 + 1) := by
  have h : w.heap.size ≤ (x.to w).heap.size := (x.kept w).size
  have e : (grow w x).heap.size = (x.to w).heap.size := rfl
  have e2 : x.top w = (x.to w).heap.size := rfl
  rw [e, e2]
  exact propext ⟨fun h => .inr h, fun h => by omega⟩
theorem grow_lt8 (w : World) (x : More) (n : Nat) : (n < (grow w x).heap.size + 1 + 1 + 1 + 1 + 1 + 1 + 1 + 1) = (n < w.heap.size ∨ n < x.top w + 1 + 1 + 1 + 1 + 1 + 1 + 1 + 1) := by
  have h : w.heap.size ≤ (x.to w).heap.size := (x.kept w).size
  have e : (grow w x).heap.size = (x.to w).heap.size := rfl
  have e2 : x.top w = (x.to w).heap.size := rfl
  rw [e, e2]
  exact propext ⟨fun h => .inr h, fun h => by omega⟩
theorem grow_le (w : World) (x : More) (n : Nat) : (n ≤ (grow w x).heap.size) = (n ≤ w.heap.size ∨ n ≤ x.top w) := by
  have h : w.heap.size ≤ (x.to w).heap.size := (x.kept w).size
  have e : (grow w x).heap.size = (x.to w).heap.size := rfl
  have e2 : x.top w = (x.to w).heap.size := rfl
  rw [e, e2]
  exact propext ⟨fun h => .inr h, fun h => by omega⟩
theorem grow_self1 (w : World) (x : More) : ((grow w x).heap.size < x.top w + 1) = True := eq_true (Nat.lt_succ_self _)
theorem grow_self2 (w : World) (x : More) : ((grow w x).heap.size < x.top w + 1 + 1) = True := eq_true (Nat.lt_succ_of_lt (Nat.lt_succ_self _))
theorem grow_self3 (w : World) (x : More) : ((grow w x).heap.size < x.top w + 1 + 1 + 1) = True := eq_true (Nat.lt_succ_of_lt (Nat.lt_succ_of_lt (Nat.lt_succ_self _)))
attribute [go_sem] grow_self1 grow_self2 grow_self3
attribute [go_sem] grow_grow grow_cell grow_frozen grow_lt grow_le grow_lt1 grow_lt2 grow_lt3 grow_lt4 grow_lt5 grow_lt6 grow_lt7 grow_lt8
/-! a store into a block that was there goes through what grew behind it -/
theorem below_setCell {w v : World} (h : Below w.heap.size w v) (n i : Nat) (u : Value) (hn : n < w.heap.size) : Below (w.setCell ⟨n, i, none⟩ u).heap.size (w.setCell ⟨n, i, none⟩ u) (v.setCell ⟨n, i, none⟩ u) := by
  refine ⟨h.os, h.tape, h.output, by simpa [World.setCell] using h.size, fun k hk => ?_⟩
  have hk' : k < w.heap.size := by simpa [World.setCell] using hk
  simp only [World.setCell, Array.getElem?_modify]
  rw [h.block k hk']
open Classical in
noncomputable def More.setC (x : More) (w : World) (n i : Nat) (u : Value) : More :=
  if h : n < w.heap.size then More.of (w.setCell ⟨n, i, none⟩ u) ((x.to w).setCell ⟨n, i, none⟩ u) (below_setCell (x.kept w) n i u h) else x
theorem grow_setCell (w : World) (x : More) (n i : Nat) (u : Value) (hn : n < w.heap.size) : (grow w x).setCell ⟨n, i, none⟩ u = grow (w.setCell ⟨n, i, none⟩ u) (x.setC w n i u) := by
  unfold More.setC; rw [dif_pos hn, grow_mk]; rfl
theorem below_setRow {w v : World} (h : Below w.heap.size w v) (n : Nat) (cs : Array Value) (hn : n < w.heap.size) : Below (w.setRow n cs).heap.size (w.setRow n cs) (v.setRow n cs) := by
  refine ⟨h.os, h.tape, h.output, by simpa using h.size, fun k hk => ?_⟩
  have hk' : k < w.heap.size := by simpa using hk
  simp only [World.setRow, Array.getElem?_modify]
  rw [h.block k hk']
open Classical in
noncomputable def More.setR (x : More) (w : World) (n : Nat) (cs : Array Value) : More :=
  if h : n < w.heap.size then More.of (w.setRow n cs) ((x.to w).setRow n cs) (below_setRow (x.kept w) n cs h) else x
theorem grow_setRow (w : World) (x : More) (n : Nat) (cs : Array Value) (hn : n < w.heap.size) : (grow w x).setRow n cs = grow (w.setRow n cs) (x.setR w n cs) := by
  unfold More.setR; rw [dif_pos hn, grow_mk]; rfl
attribute [go_sem] grow_setCell grow_setRow
/-- In every world the call answers v, and all that was there is as it was. -/
def Gives (P : Program) (f : FuncId) (args : Array Value) (v : Value) : Prop := ∀ w : World, Calls P f args w fun e w' => e = .returned v ∧ ∃ x, w' = grow w x
theorem Gives.at_ {f : FuncId} {args : Array Value} {v : Value} (h : Gives P f args v) (w : World) : Calls P f args w fun e w' => e = .returned v ∧ ∃ x, w' = grow w x := h w
theorem Gives.mk {f : FuncId} {args : Array Value} {v : Value} (h : ∀ w : World, Calls P f args w fun e w' => e = .returned v ∧ Below w.heap.size w w') : Gives P f args v :=
  fun w => (h w).mono fun _ _ ⟨he, hb⟩ => ⟨he, grow_of hb⟩
theorem Gives.bel {f : FuncId} {args : Array Value} {v : Value} (h : Gives P f args v) (w : World) : Calls P f args w fun e w' => e = .returned v ∧ Below w.heap.size w w' :=
  (h w).mono fun _ _ ⟨he, x, hx⟩ => ⟨he, hx ▸ x.kept w⟩
theorem Gives.quiet {f : FuncId} {args : Array Value} {v : Value} (h : Gives P f args v) {w : World} (x : More) :
    Calls P f args (grow w x) fun e w'' => e = .returned v ∧ ∃ y, w'' = grow w y :=
  (h (grow w x)).mono fun _ _ ⟨he, y, hy⟩ => ⟨he, x.then y, hy⟩
theorem Gives.quiet2 {f : FuncId} {args : Array Value} {v : Value} (h : Gives P f args v) {w : World} (x y : More) :
    Calls P f args (grow w (x.then y)) fun e w'' => e = .returned v ∧ ∃ z, w'' = grow w (x.then z) :=
  (h (grow w (x.then y))).mono fun _ _ ⟨he, z, hz⟩ => ⟨he, y.then z, hz⟩
/-- A region whose operations only read or are such calls: one walk in the order of the text. -/
theorem wp_region_grow {id : Nat} {Q : Exit → Act → World → Prop} {a : Act} {w : World} {l : List Oper} (hm : P.follows .mixedOrders = true) (hB : Region.lexB .any l.toArray = true)
    (h : wpQuiet P l.toArray (fun w' => ∃ x, w' = grow w x) (fun a' => ∀ w', (∃ x, w' = grow w x) → Q .normal a' w') l a) : (Code.region id l.toArray true).wp P Q a w :=
  wp_region_quiet (C := fun w' => ∃ x, w' = grow w x) hm hB (grow_of (bel_drew (Below.refl _ _))) (by simpa using h)
end Go.Proofs.Ytpaehkjnefgaiaa
namespace Go.Proofs.Ytpaehkjnefgaiaa
set_option linter.unusedVariables false
set_option linter.unusedSimpArgs false
set_option linter.unnecessarySimpa false
abbrev Spt := Int × Int × Int
abbrev Tri := Spt × Spt × Spt
def corS (k : Nat) : Spt := (1, (k : Int), 0)
def edgS (k i : Nat) : Spt := (2, (k : Int), (i : Int))
def innS (a b : Nat) : Spt := (3, (a : Int), (b : Int))
def outS (k r i : Nat) : Spt := if i = 0 then corS k else if i = r then corS ((k + 1) % 4) else edgS k i
def besS (k t R : Nat) : Spt := if k = 0 then innS t 1 else if k = 1 then innS (R - 1) t else if k = 2 then innS (R - t) (R - 1) else innS 1 (R - t)
/-- What a loop makes, in n rounds. -/
def upTo {α : Type} (f : Nat → List α) : Nat → List α
  | 0 => []
  | n + 1 => upTo f n ++ f n
def mxR (r : Nat → Nat) : Nat → Nat
  | 0 => 0
  | k + 1 => max (mxR r k) (r k)
def corsS (n : Nat) : List Spt := upTo (fun k => [corS k]) n
def edgeS (k m : Nat) : List Spt := upTo (fun i => [edgS k (i + 1)]) m
def edgesS (r : Nat → Nat) (n : Nat) : List Spt := upTo (fun k => edgeS k (r k - 1)) n
def rowS (b m : Nat) : List Spt := upTo (fun a => [innS (a + 1) (b + 1)]) m
def rowsS (R n : Nat) : List Spt := upTo (fun b => rowS b (R - 1)) n
def spotsR (r : Nat → Nat) (R : Nat) : List Spt := corsS 4 ++ edgesS r 4 ++ rowsS R (R - 1)
def sqS (p q x y : Spt) : List Tri := [(p, q, x), (p, x, y)]
def sqA (a b : Nat) : List Tri := sqS (innS a b) (innS (a + 1) b) (innS (a + 1) (b + 1)) (innS a (b + 1))
def sqRow (b m : Nat) : List Tri := upTo (fun a => sqA (a + 1) (b + 1)) m
def sqRows (R n : Nat) : List Tri := upTo (fun b => sqRow b (R - 2)) n
def goA (r R i t : Nat) : Prop := i < r ∧ (t = R - 1 ∨ (2 * i + 1) * R ≤ (2 * t + 1) * r)
instance (r R i t : Nat) : Decidable (goA r R i t) := by unfold goA; infer_instance
def stpS (k r R : Nat) : Nat → Nat → Nat → List Tri
  | 0, _, _ => []
  | n + 1, i, t => if goA r R i t then (outS k r i, outS k r (i + 1), besS k t R) :: stpS k r R n (i + 1) t
      else (outS k r i, besS k (t + 1) R, besS k t R) :: stpS k r R n i (t + 1)
def leftS (r R i t : Nat) : Nat := (r - i) + (R - 1 - t)
def stripS (k r R : Nat) : List Tri := stpS k r R (leftS r R 0 1) 0 1
def stripsS (r : Nat → Nat) (R n : Nat) : List Tri := upTo (fun k => stripS k (r k) R) n
def trisR (r : Nat → Nat) (R : Nat) : List Tri := if R = 1 then sqS (corS 0) (corS 1) (corS 2) (corS 3) else sqRows R (R - 2) ++ stripsS r R 4
theorem stp_A {k r R i t : Nat} (h : goA r R i t) : stpS k r R (leftS r R i t) i t = (outS k r i, outS k r (i + 1), besS k t R) :: stpS k r R (leftS r R (i + 1) t) (i + 1) t := by
  have e : leftS r R i t = leftS r R (i + 1) t + 1 := by have := h.1; unfold leftS; omega
  rw [e]
  exact if_pos h
theorem stp_B {k r R i t : Nat} (h : ¬ goA r R i t) (ht : t < R - 1) : stpS k r R (leftS r R i t) i t = (outS k r i, besS k (t + 1) R, besS k t R) :: stpS k r R (leftS r R i (t + 1)) i (t + 1) := by
  have e : leftS r R i t = leftS r R i (t + 1) + 1 := by unfold leftS; omega
  rw [e]
  exact if_neg h
/-- Without the last of the loop's test: where neither goes on, both are at their ends. -/
theorem goA_end {r R i t : Nat} (h : ¬ goA r R i t) (hl : i < r ∨ t < R - 1) (ht : t ≤ R - 1) : t < R - 1 := by
  unfold goA at h
  omega
theorem mem_upTo {α : Type} {f : Nat → List α} {x : α} : ∀ {n : Nat}, x ∈ upTo f n ↔ ∃ i, i < n ∧ x ∈ f i
  | 0 => by simp [upTo]
  | n + 1 => by
    simp only [upTo, List.mem_append, mem_upTo]
    constructor
    · rintro (⟨i, h1, h2⟩ | h)
      · exact ⟨i, by omega, h2⟩
      · exact ⟨n, by omega, h⟩
    · rintro ⟨i, h1, h2⟩
      by_cases e : i = n
      · subst e; exact .inr h2
      · exact .inl ⟨i, by omega, h2⟩
theorem upTo_map {α β : Type} {f : Nat → List α} {g : α → List β} : ∀ n : Nat, (upTo f n).flatMap g = upTo (fun i => (f i).flatMap g) n
  | 0 => rfl
  | n + 1 => by simp only [upTo, List.flatMap_append, upTo_map n]
theorem upTo_nodup {α : Type} {f : Nat → List α} : ∀ {n : Nat}, (∀ i, i < n → (f i).Nodup) → (∀ i j, i < j → j < n → ∀ x, x ∈ f i → x ∈ f j → False) → (upTo f n).Nodup
  | 0, _, _ => List.nodup_nil
  | n + 1, h1, h2 => by
    show (upTo f n ++ f n).Nodup
    rw [List.nodup_append]
    refine ⟨upTo_nodup (fun i hi => h1 i (by omega)) (fun i j hi hj => h2 i j hi (by omega)), h1 n (by omega), fun x hx y hy e => ?_⟩
    subst e
    obtain ⟨i, hi, hm⟩ := mem_upTo.1 hx
    exact h2 i n hi (by omega) x hm hy
theorem upTo_len {α : Type} {f : Nat → List α} {c : Nat} : ∀ n : Nat, (∀ i, i < n → (f i).length = c) → (upTo f n).length = n * c
  | 0, _ => by simp [upTo]
  | n + 1, h => by
    show (upTo f n ++ f n).length = _
    rw [List.length_append, upTo_len n (fun i hi => h i (by omega)), h n (by omega), Nat.add_mul, Nat.one_mul]
/-! Where a spot is in a list. -/
def nof : List Spt → Spt → Nat
  | [], _ => 0
  | q :: l, s => if q = s then 0 else nof l s + 1
theorem nof_lt : ∀ {l : List Spt} {s : Spt}, s ∈ l → nof l s < l.length
  | q :: l, s, h => by
    unfold nof
    split
    · simp
    · rename_i e
      have : s ∈ l := by
        rcases List.mem_cons.1 h with h | h
        · exact absurd h.symm e
        · exact h
      have := nof_lt this
      simpa using this
theorem nof_get : ∀ {l : List Spt} {s : Spt}, s ∈ l → l[nof l s]? = some s
  | q :: l, s, h => by
    unfold nof
    split
    · rename_i e; simp [e]
    · rename_i e
      have : s ∈ l := by
        rcases List.mem_cons.1 h with h | h
        · exact absurd h.symm e
        · exact h
      simpa using nof_get this
theorem nof_inj {l : List Spt} {s u : Spt} (hs : s ∈ l) (hu : u ∈ l) (h : nof l s = nof l u) : s = u := by
  have h1 := nof_get hs
  rw [h, nof_get hu] at h1
  exact (Option.some.inj h1).symm
theorem nof_app : ∀ {l m : List Spt} {s : Spt}, s ∈ l → nof (l ++ m) s = nof l s
  | q :: l, m, s, h => by
    show nof (q :: (l ++ m)) s = _
    unfold nof
    split
    · rfl
    · rename_i e
      have : s ∈ l := by
        rcases List.mem_cons.1 h with h | h
        · exact absurd h.symm e
        · exact h
      rw [nof_app this]
theorem nof_snoc : ∀ {l : List Spt} {s : Spt}, s ∉ l → nof (l ++ [s]) s = l.length
  | [], s, _ => by simp [nof]
  | q :: l, s, h => by
    show nof (q :: (l ++ [s])) s = _
    unfold nof
    rw [if_neg (by rintro rfl; exact h List.mem_cons_self), nof_snoc (fun h2 => h (List.mem_cons_of_mem _ h2))]
    simp
theorem nof_at : ∀ {l : List Spt} {i : Nat} {s : Spt}, l.Nodup → l[i]? = some s → nof l s = i
  | [], i, s, _, h => by simp at h
  | q :: l, 0, s, _, h => by
    simp at h; simp [nof, h]
  | q :: l, i + 1, s, hn, h => by
    rw [List.nodup_cons] at hn
    have h : l[i]? = some s := by simpa using h
    unfold nof
    rw [if_neg, nof_at hn.2 h]
    rintro rfl
    exact hn.1 (List.mem_of_getElem? h)
/-! The spots: each once. -/
theorem mem_spots {r : Nat → Nat} {R : Nat} {s : Spt} : s ∈ spotsR r R ↔ (∃ k, k < 4 ∧ s = corS k) ∨ (∃ k i, k < 4 ∧ 1 ≤ i ∧ i < r k ∧ s = edgS k i) ∨ (∃ a b, 1 ≤ a ∧ a < R ∧ 1 ≤ b ∧ b < R ∧ s = innS a b) := by
  unfold spotsR corsS edgesS edgeS rowsS rowS
  simp only [List.mem_append, mem_upTo, List.mem_singleton]
  constructor
  · rintro ((⟨k, h1, h2⟩ | ⟨k, h1, i, h2, h3⟩) | ⟨b, h1, a, h2, h3⟩)
    · exact .inl ⟨k, h1, h2⟩
    · exact .inr (.inl ⟨k, i + 1, h1, by omega, by omega, h3⟩)
    · exact .inr (.inr ⟨a + 1, b + 1, by omega, by omega, by omega, by omega, h3⟩)
  · rintro (⟨k, h1, h2⟩ | ⟨k, i, h1, h2, h3, h4⟩ | ⟨a, b, h1, h2, h3, h4, h5⟩)
    · exact .inl (.inl ⟨k, h1, h2⟩)
    · exact .inl (.inr ⟨k, h1, i - 1, by omega, by rw [show i - 1 + 1 = i by omega]; exact h4⟩)
    · exact .inr ⟨b - 1, by omega, a - 1, by omega, by rw [show a - 1 + 1 = a by omega, show b - 1 + 1 = b by omega]; exact h5⟩
theorem corS_inj {j k : Nat} (h : corS j = corS k) : j = k := by
  unfold corS at h; simp only [Prod.mk.injEq] at h; omega
theorem edgS_inj {j k i l : Nat} (h : edgS j i = edgS k l) : j = k ∧ i = l := by
  unfold edgS at h; simp only [Prod.mk.injEq] at h; omega
theorem innS_inj {j k i l : Nat} (h : innS j i = innS k l) : j = k ∧ i = l := by
  unfold innS at h; simp only [Prod.mk.injEq] at h; omega
theorem one_nodup {α : Type} (x : α) : [x].Nodup := by simp
theorem cors_nodup (n : Nat) : (corsS n).Nodup := upTo_nodup (fun i _ => one_nodup _) (fun i j h _ x hx hy => by
  rw [List.mem_singleton] at hx hy
  rw [hx] at hy
  have := corS_inj hy
  omega)
theorem edge_nodup (k m : Nat) : (edgeS k m).Nodup := upTo_nodup (fun i _ => one_nodup _) (fun i j h _ x hx hy => by
  rw [List.mem_singleton] at hx hy
  rw [hx] at hy
  have := edgS_inj hy
  omega)
theorem edges_nodup (r : Nat → Nat) (n : Nat) : (edgesS r n).Nodup := upTo_nodup (fun i _ => edge_nodup _ _) (fun i j h _ x hx hy => by
  unfold edgeS at hx hy
  obtain ⟨u, _, hx⟩ := mem_upTo.1 hx
  obtain ⟨v, _, hy⟩ := mem_upTo.1 hy
  rw [List.mem_singleton] at hx hy
  rw [hx] at hy
  have := edgS_inj hy
  omega)
theorem row_nodup (b m : Nat) : (rowS b m).Nodup := upTo_nodup (fun i _ => one_nodup _) (fun i j h _ x hx hy => by
  rw [List.mem_singleton] at hx hy
  rw [hx] at hy
  have := innS_inj hy
  omega)
theorem rows_nodup (R n : Nat) : (rowsS R n).Nodup := upTo_nodup (fun i _ => row_nodup _ _) (fun i j h _ x hx hy => by
  unfold rowS at hx hy
  obtain ⟨u, _, hx⟩ := mem_upTo.1 hx
  obtain ⟨v, _, hy⟩ := mem_upTo.1 hy
  rw [List.mem_singleton] at hx hy
  rw [hx] at hy
  have := innS_inj hy
  omega)
theorem spots_nodup (r : Nat → Nat) (R : Nat) : (spotsR r R).Nodup := by
  unfold spotsR
  rw [List.nodup_append, List.nodup_append]
  refine ⟨⟨cors_nodup 4, edges_nodup r 4, fun x hx y hy e => ?_⟩, rows_nodup R _, fun x hx y hy e => ?_⟩
  · subst e
    unfold corsS at hx
    unfold edgesS edgeS at hy
    obtain ⟨u, _, hx⟩ := mem_upTo.1 hx
    obtain ⟨v, _, hy⟩ := mem_upTo.1 hy
    obtain ⟨z, _, hy⟩ := mem_upTo.1 hy
    rw [List.mem_singleton] at hx hy
    rw [hx] at hy
    unfold corS edgS at hy
    simp at hy
  · subst e
    unfold rowsS rowS at hy
    obtain ⟨v, _, hy⟩ := mem_upTo.1 hy
    obtain ⟨z, _, hy⟩ := mem_upTo.1 hy
    rw [List.mem_singleton] at hy
    subst hy
    rcases List.mem_append.1 hx with hx | hx
    · unfold corsS at hx
      obtain ⟨u, _, hx⟩ := mem_upTo.1 hx
      rw [List.mem_singleton] at hx
      unfold corS innS at hx
      simp at hx
    · unfold edgesS edgeS at hx
      obtain ⟨u, _, hx⟩ := mem_upTo.1 hx
      obtain ⟨z, _, hx⟩ := mem_upTo.1 hx
      rw [List.mem_singleton] at hx
      unfold edgS innS at hx
      simp at hx
theorem cors_len (n : Nat) : (corsS n).length = n := by
  have := upTo_len (f := fun k => [corS k]) (c := 1) n (fun i _ => rfl)
  unfold corsS; omega
theorem edge_len (k m : Nat) : (edgeS k m).length = m := by
  have := upTo_len (f := fun i => [edgS k (i + 1)]) (c := 1) m (fun i _ => rfl)
  unfold edgeS; omega
theorem row_len (b m : Nat) : (rowS b m).length = m := by
  have := upTo_len (f := fun a => [innS (a + 1) (b + 1)]) (c := 1) m (fun i _ => rfl)
  unfold rowS; omega
theorem rows_len (R n : Nat) : (rowsS R n).length = n * (R - 1) := upTo_len n (fun i _ => row_len i _)
theorem spots_len (r : Nat → Nat) (R : Nat) (h : ∀ k, k < 4 → 1 ≤ r k) : (spotsR r R).length = r 0 + r 1 + r 2 + r 3 + (R - 1) * (R - 1) := by
  unfold spotsR
  rw [List.length_append, List.length_append, cors_len, rows_len]
  unfold edgesS upTo upTo upTo upTo upTo
  simp only [List.length_append, edge_len, List.length_nil]
  have := h 0 (by omega)
  have := h 1 (by omega)
  have := h 2 (by omega)
  have := h 3 (by omega)
  omega
theorem stp_len (k r R : Nat) : ∀ n i t, (stpS k r R n i t).length = n
  | 0, i, t => rfl
  | n + 1, i, t => by
    unfold stpS
    split
    · simp [stp_len k r R n]
    · simp [stp_len k r R n]
theorem strip_len (k r R : Nat) : (stripS k r R).length = r + (R - 2) := by
  unfold stripS
  rw [stp_len]
  unfold leftS
  omega
theorem sqRow_len (b m : Nat) : (sqRow b m).length = m * 2 := upTo_len m (fun i _ => rfl)
theorem sqRows_len (R n : Nat) : (sqRows R n).length = n * ((R - 2) * 2) := upTo_len n (fun i _ => sqRow_len i _)
theorem tris_len (r : Nat → Nat) (R : Nat) (h1 : 2 ≤ R) : (trisR r R).length = (R - 2) * ((R - 2) * 2) + (r 0 + r 1 + r 2 + r 3 + 4 * (R - 2)) := by
  unfold trisR
  rw [if_neg (by omega), List.length_append, sqRows_len]
  unfold stripsS upTo upTo upTo upTo upTo
  simp only [List.length_append, strip_len, List.length_nil]
  omega
end Go.Proofs.Ytpaehkjnefgaiaa
namespace Go.Proofs.Ytpaehkjnefgaiaa
set_option linter.unusedVariables false
set_option linter.unusedSimpArgs false
set_option linter.unnecessarySimpa false
abbrev Edg := Spt × Spt
def edsS (t : Tri) : List Edg := [(t.1, t.2.1), (t.2.1, t.2.2), (t.2.2, t.1)]
theorem out_end {k r : Nat} (hr : 1 ≤ r) : outS k r r = corS ((k + 1) % 4) := by
  unfold outS; rw [if_neg (by omega), if_pos rfl]
theorem out_mid {k r i : Nat} (h1 : 1 ≤ i) (h2 : i < r) : outS k r i = edgS k i := by
  unfold outS; rw [if_neg (by omega), if_neg (by omega)]
/-- A side's spots as triples of numbers: each of three cases. -/
theorem out_cases {k r i : Nat} (hr : 1 ≤ r) (hi : i ≤ r) : (i = 0 ∧ outS k r i = (1, (k : Int), 0)) ∨ (i = r ∧ outS k r i = (1, (((k + 1) % 4 : Nat) : Int), 0)) ∨ (1 ≤ i ∧ i < r ∧ outS k r i = (2, (k : Int), (i : Int))) := by
  by_cases h : i = 0
  · subst h; exact .inl ⟨rfl, rfl⟩
  · by_cases h2 : i = r
    · subst h2; exact .inr (.inl ⟨rfl, out_end hr⟩)
    · exact .inr (.inr ⟨by omega, by omega, out_mid (by omega) (by omega)⟩)
theorem out_ne_inn {k r i a b : Nat} : outS k r i ≠ innS a b := by
  unfold outS corS edgS innS
  split
  · simp
  · split <;> simp
theorem bes_inn (k t R : Nat) : ∃ a b, besS k t R = innS a b := by
  unfold besS
  split
  · exact ⟨_, _, rfl⟩
  · split
    · exact ⟨_, _, rfl⟩
    · split <;> exact ⟨_, _, rfl⟩
theorem out_ne_bes {k r i j t R : Nat} : outS k r i ≠ besS j t R := by
  obtain ⟨a, b, e⟩ := bes_inn j t R
  rw [e]; exact out_ne_inn
theorem bes_ne_out {k r i j t R : Nat} : besS j t R ≠ outS k r i := fun h => out_ne_bes h.symm
theorem out_inj {k r i j : Nat} (hr : 1 ≤ r) (hk : k < 4) (hi : i ≤ r) (hj : j ≤ r) (h : outS k r i = outS k r j) : i = j := by
  rcases out_cases (k := k) hr hi with ⟨h1, e1⟩ | ⟨h1, e1⟩ | ⟨h1, h1', e1⟩ <;> rcases out_cases (k := k) hr hj with ⟨h2, e2⟩ | ⟨h2, e2⟩ | ⟨h2, h2', e2⟩ <;> rw [e1, e2] at h <;> simp only [Prod.mk.injEq] at h <;> omega
theorem bes_inj {k t u R : Nat} (ht : t ≤ R) (hu : u ≤ R) (h : besS k t R = besS k u R) : t = u := by
  unfold besS innS at h
  split at h
  · simp only [Prod.mk.injEq] at h; omega
  · split at h
    · simp only [Prod.mk.injEq] at h; omega
    · split at h
      · simp only [Prod.mk.injEq] at h; omega
      · simp only [Prod.mk.injEq] at h; omega
theorem fst_ob {k r i j t R : Nat} {x y : Spt} (h : (outS k r i, x) = (besS j t R, y)) : False := out_ne_bes (congrArg Prod.fst h)
theorem snd_ob {k r i j t R : Nat} {x y : Spt} (h : (x, outS k r i) = (y, besS j t R)) : False := out_ne_bes (congrArg Prod.snd h)
theorem fst_bo {k r i j t R : Nat} {x y : Spt} (h : (besS j t R, x) = (outS k r i, y)) : False := bes_ne_out (congrArg Prod.fst h)
theorem snd_bo {k r i j t R : Nat} {x y : Spt} (h : (x, besS j t R) = (y, outS k r i)) : False := bes_ne_out (congrArg Prod.snd h)
/-- The edges of a strip from the state i, t on. -/
def InO (k r i : Nat) (e : Edg) : Prop := ∃ j, i ≤ j ∧ j < r ∧ e = (outS k r j, outS k r (j + 1))
def InI (k R t : Nat) (e : Edg) : Prop := ∃ u, t ≤ u ∧ u < R - 1 ∧ e = (besS k (u + 1) R, besS k u R)
def InU (k r R i t : Nat) (e : Edg) : Prop := ∃ j u, i ≤ j ∧ t ≤ u ∧ j ≤ r ∧ u ≤ R - 1 ∧ j + u < r + (R - 1) ∧ e = (besS k u R, outS k r j)
def InD (k r R i t : Nat) (e : Edg) : Prop := ∃ j u, i ≤ j ∧ t ≤ u ∧ j ≤ r ∧ u ≤ R - 1 ∧ i + t < j + u ∧ e = (outS k r j, besS k u R)
def InS (k r R i t : Nat) (e : Edg) : Prop := InO k r i e ∨ InI k R t e ∨ InU k r R i t e ∨ InD k r R i t e
def bck (e : Edg) : Edg := (e.2, e.1)
theorem not_goA {r R i t : Nat} (h : ¬ goA r R i t) (hi : i ≤ r) (ht : t ≤ R - 1) {n : Nat} (hn : leftS r R i t = n + 1) : t < R - 1 := by
  unfold leftS at hn
  exact goA_end h (by omega) ht
theorem left_A {r R i t n : Nat} (h : goA r R i t) (hn : leftS r R i t = n + 1) : leftS r R (i + 1) t = n ∧ i + 1 ≤ r := by
  have := h.1; unfold leftS at *; omega
theorem left_B {r R i t n : Nat} (h : t < R - 1) (hn : leftS r R i t = n + 1) : leftS r R i (t + 1) = n ∧ t + 1 ≤ R - 1 := by
  unfold leftS at *; omega
theorem eds_A (k r R i t : Nat) (l : List Tri) : ((outS k r i, outS k r (i + 1), besS k t R) :: l).flatMap edsS = (outS k r i, outS k r (i + 1)) :: (outS k r (i + 1), besS k t R) :: (besS k t R, outS k r i) :: l.flatMap edsS := rfl
theorem eds_B (k r R i t : Nat) (l : List Tri) : ((outS k r i, besS k (t + 1) R, besS k t R) :: l).flatMap edsS = (outS k r i, besS k (t + 1) R) :: (besS k (t + 1) R, besS k t R) :: (besS k t R, outS k r i) :: l.flatMap edsS := rfl
theorem stp_in (k r R : Nat) (hr : 1 ≤ r) (hk : k < 4) : ∀ n i t, i ≤ r → t ≤ R - 1 → leftS r R i t = n → ∀ e, e ∈ (stpS k r R n i t).flatMap edsS → InS k r R i t e
  | 0, i, t, _, _, _, e, he => by simp [stpS] at he
  | n + 1, i, t, hi, ht, hn, e, he => by
    unfold stpS at he
    by_cases hg : goA r R i t
    · rw [if_pos hg, eds_A] at he
      obtain ⟨h1, h2⟩ := left_A hg hn
      simp only [List.mem_cons] at he
      rcases he with he | he | he | he
      · exact .inl ⟨i, by omega, by omega, he⟩
      · exact .inr (.inr (.inr ⟨i + 1, t, by omega, by omega, by omega, by omega, by omega, he⟩))
      · exact .inr (.inr (.inl ⟨i, t, by omega, by omega, by omega, by omega, by omega, he⟩))
      · rcases stp_in k r R hr hk n (i + 1) t h2 ht h1 e he with ⟨j, a1, a2, a3⟩ | ⟨u, a1, a2, a3⟩ | ⟨j, u, a1, a2, a3, a4, a5, a6⟩ | ⟨j, u, a1, a2, a3, a4, a5, a6⟩
        · exact .inl ⟨j, by omega, a2, a3⟩
        · exact .inr (.inl ⟨u, by omega, a2, a3⟩)
        · exact .inr (.inr (.inl ⟨j, u, by omega, by omega, a3, a4, a5, a6⟩))
        · exact .inr (.inr (.inr ⟨j, u, by omega, by omega, a3, a4, by omega, a6⟩))
    · rw [if_neg hg, eds_B] at he
      have hlt := not_goA hg hi ht hn
      obtain ⟨h1, h2⟩ := left_B hlt hn
      simp only [List.mem_cons] at he
      rcases he with he | he | he | he
      · exact .inr (.inr (.inr ⟨i, t + 1, by omega, by omega, by omega, by omega, by omega, he⟩))
      · exact .inr (.inl ⟨t, by omega, by omega, he⟩)
      · exact .inr (.inr (.inl ⟨i, t, by omega, by omega, by omega, by omega, by omega, he⟩))
      · rcases stp_in k r R hr hk n i (t + 1) hi h2 h1 e he with ⟨j, a1, a2, a3⟩ | ⟨u, a1, a2, a3⟩ | ⟨j, u, a1, a2, a3, a4, a5, a6⟩ | ⟨j, u, a1, a2, a3, a4, a5, a6⟩
        · exact .inl ⟨j, by omega, a2, a3⟩
        · exact .inr (.inl ⟨u, by omega, a2, a3⟩)
        · exact .inr (.inr (.inl ⟨j, u, by omega, by omega, a3, a4, a5, a6⟩))
        · exact .inr (.inr (.inr ⟨j, u, by omega, by omega, a3, a4, by omega, a6⟩))
theorem stp_nodup (k r R : Nat) (hr : 1 ≤ r) (hk : k < 4) : ∀ n i t, i ≤ r → t ≤ R - 1 → leftS r R i t = n → ((stpS k r R n i t).flatMap edsS).Nodup
  | 0, i, t, _, _, _ => by simp [stpS]
  | n + 1, i, t, hi, ht, hn => by
    unfold stpS
    by_cases hg : goA r R i t
    · rw [if_pos hg, eds_A]
      obtain ⟨h1, h2⟩ := left_A hg hn
      have hin := stp_in k r R hr hk n (i + 1) t h2 ht h1
      refine List.nodup_cons.2 ⟨?_, List.nodup_cons.2 ⟨?_, List.nodup_cons.2 ⟨?_, stp_nodup k r R hr hk n (i + 1) t h2 ht h1⟩⟩⟩
      · intro hm
        simp only [List.mem_cons, Prod.mk.injEq] at hm
        rcases hm with ⟨_, h⟩ | ⟨h, _⟩ | hm
        · exact out_ne_bes h
        · exact out_ne_bes h
        · rcases hin _ hm with ⟨j, a1, a2, a3⟩ | ⟨u, a1, a2, a3⟩ | ⟨j, u, a1, a2, a3, a4, a5, a6⟩ | ⟨j, u, a1, a2, a3, a4, a5, a6⟩
          · have := out_inj hr hk hi (by omega) (congrArg Prod.fst a3); omega
          · exact fst_ob a3
          · exact fst_ob a6
          · exact snd_ob a6
      · intro hm
        simp only [List.mem_cons, Prod.mk.injEq] at hm
        rcases hm with ⟨h, _⟩ | hm
        · exact out_ne_bes h
        · rcases hin _ hm with ⟨j, a1, a2, a3⟩ | ⟨u, a1, a2, a3⟩ | ⟨j, u, a1, a2, a3, a4, a5, a6⟩ | ⟨j, u, a1, a2, a3, a4, a5, a6⟩
          · exact snd_bo a3
          · exact fst_ob a3
          · exact fst_ob a6
          · have e1 := out_inj hr hk h2 (by omega) (congrArg Prod.fst a6)
            have e2 := bes_inj (by omega) (by omega) (congrArg Prod.snd a6)
            omega
      · intro hm
        rcases hin _ hm with ⟨j, a1, a2, a3⟩ | ⟨u, a1, a2, a3⟩ | ⟨j, u, a1, a2, a3, a4, a5, a6⟩ | ⟨j, u, a1, a2, a3, a4, a5, a6⟩
        · exact fst_bo a3
        · exact snd_ob a3
        · have e1 := out_inj hr hk hi (by omega) (congrArg Prod.snd a6); omega
        · exact fst_bo a6
    · rw [if_neg hg, eds_B]
      have hlt := not_goA hg hi ht hn
      obtain ⟨h1, h2⟩ := left_B hlt hn
      have hin := stp_in k r R hr hk n i (t + 1) hi h2 h1
      refine List.nodup_cons.2 ⟨?_, List.nodup_cons.2 ⟨?_, List.nodup_cons.2 ⟨?_, stp_nodup k r R hr hk n i (t + 1) hi h2 h1⟩⟩⟩
      · intro hm
        simp only [List.mem_cons, Prod.mk.injEq] at hm
        rcases hm with ⟨h, _⟩ | ⟨h, _⟩ | hm
        · exact out_ne_bes h
        · exact out_ne_bes h
        · rcases hin _ hm with ⟨j, a1, a2, a3⟩ | ⟨u, a1, a2, a3⟩ | ⟨j, u, a1, a2, a3, a4, a5, a6⟩ | ⟨j, u, a1, a2, a3, a4, a5, a6⟩
          · exact snd_bo a3
          · exact fst_ob a3
          · exact fst_ob a6
          · have e1 := out_inj hr hk hi (by omega) (congrArg Prod.fst a6)
            have e2 := bes_inj (by omega) (by omega) (congrArg Prod.snd a6)
            omega
      · intro hm
        simp only [List.mem_cons, Prod.mk.injEq] at hm
        rcases hm with ⟨_, h⟩ | hm
        · exact bes_ne_out h
        · rcases hin _ hm with ⟨j, a1, a2, a3⟩ | ⟨u, a1, a2, a3⟩ | ⟨j, u, a1, a2, a3, a4, a5, a6⟩ | ⟨j, u, a1, a2, a3, a4, a5, a6⟩
          · exact fst_bo a3
          · have e2 := bes_inj (by omega) (by omega) (congrArg Prod.snd a3); omega
          · exact snd_bo a6
          · exact fst_bo a6
      · intro hm
        rcases hin _ hm with ⟨j, a1, a2, a3⟩ | ⟨u, a1, a2, a3⟩ | ⟨j, u, a1, a2, a3, a4, a5, a6⟩ | ⟨j, u, a1, a2, a3, a4, a5, a6⟩
        · exact fst_bo a3
        · exact snd_ob a3
        · have e1 := bes_inj (by omega) (by omega) (congrArg Prod.fst a6); omega
        · exact fst_bo a6
/-- The first edge up, and the last one down. -/
theorem stp_first (k r R : Nat) : ∀ n i t, (besS k t R, outS k r i) ∈ (stpS k r R (n + 1) i t).flatMap edsS := fun n i t => by
  unfold stpS
  split
  · rw [eds_A]; simp
  · rw [eds_B]; simp
theorem stp_last (k r R : Nat) : ∀ n i t, i ≤ r → t ≤ R - 1 → leftS r R i t = n + 1 → (outS k r r, besS k (R - 1) R) ∈ (stpS k r R (n + 1) i t).flatMap edsS
  | 0, i, t, hi, ht, hn => by
    unfold stpS
    by_cases hg : goA r R i t
    · rw [if_pos hg, eds_A]
      have := hg.1
      have e1 : i + 1 = r := by unfold leftS at hn; omega
      have e2 : t = R - 1 := by unfold leftS at hn; omega
      rw [e1, e2]; simp
    · rw [if_neg hg, eds_B]
      have := not_goA hg hi ht hn
      have e1 : t + 1 = R - 1 := by unfold leftS at hn; omega
      have e2 : i = r := by unfold leftS at hn; omega
      rw [e1, e2]; simp
  | n + 1, i, t, hi, ht, hn => by
    unfold stpS
    by_cases hg : goA r R i t
    · rw [if_pos hg, eds_A]
      obtain ⟨h1, h2⟩ := left_A hg hn
      simp [stp_last k r R n (i + 1) t h2 ht h1]
    · rw [if_neg hg, eds_B]
      obtain ⟨h1, h2⟩ := left_B (not_goA hg hi ht hn) hn
      simp [stp_last k r R n i (t + 1) hi h2 h1]
theorem stp_O (k r R : Nat) : ∀ n i t, i ≤ r → t ≤ R - 1 → leftS r R i t = n → ∀ j, i ≤ j → j < r → (outS k r j, outS k r (j + 1)) ∈ (stpS k r R n i t).flatMap edsS
  | 0, i, t, hi, ht, hn, j, h1, h2 => by unfold leftS at hn; omega
  | n + 1, i, t, hi, ht, hn, j, hj1, hj2 => by
    unfold stpS
    by_cases hg : goA r R i t
    · rw [if_pos hg, eds_A]
      obtain ⟨h1, h2⟩ := left_A hg hn
      by_cases e : j = i
      · subst e; simp
      · simp [stp_O k r R n (i + 1) t h2 ht h1 j (by omega) hj2]
    · rw [if_neg hg, eds_B]
      obtain ⟨h1, h2⟩ := left_B (not_goA hg hi ht hn) hn
      simp [stp_O k r R n i (t + 1) hi h2 h1 j hj1 hj2]
theorem stp_I (k r R : Nat) : ∀ n i t, i ≤ r → t ≤ R - 1 → leftS r R i t = n → ∀ u, t ≤ u → u < R - 1 → (besS k (u + 1) R, besS k u R) ∈ (stpS k r R n i t).flatMap edsS
  | 0, i, t, hi, ht, hn, j, h1, h2 => by unfold leftS at hn; omega
  | n + 1, i, t, hi, ht, hn, j, hj1, hj2 => by
    unfold stpS
    by_cases hg : goA r R i t
    · rw [if_pos hg, eds_A]
      obtain ⟨h1, h2⟩ := left_A hg hn
      simp [stp_I k r R n (i + 1) t h2 ht h1 j hj1 hj2]
    · rw [if_neg hg, eds_B]
      obtain ⟨h1, h2⟩ := left_B (not_goA hg hi ht hn) hn
      by_cases e : j = t
      · subst e; simp
      · simp [stp_I k r R n i (t + 1) hi h2 h1 j (by omega) hj2]
/-- Each edge between a side's spot and an inner one is gone along back as well, but for the first up and the last down. -/
theorem stp_back (k r R : Nat) (hr : 1 ≤ r) (hk : k < 4) : ∀ n i t, i ≤ r → t ≤ R - 1 → leftS r R i t = n → ∀ e, e ∈ (stpS k r R n i t).flatMap edsS → InO k r i e ∨ InI k R t e ∨ e = (besS k t R, outS k r i) ∨ e = (outS k r r, besS k (R - 1) R) ∨ bck e ∈ (stpS k r R n i t).flatMap edsS
  | 0, i, t, _, _, _, e, he => by simp [stpS] at he
  | n + 1, i, t, hi, ht, hn, e, he => by
    unfold stpS at he ⊢
    by_cases hg : goA r R i t
    · rw [if_pos hg, eds_A] at he ⊢
      obtain ⟨h1, h2⟩ := left_A hg hn
      simp only [List.mem_cons] at he
      rcases he with he | he | he | he
      · exact .inl ⟨i, by omega, by omega, he⟩
      · cases n with
        | zero =>
          have e1 : i + 1 = r := by unfold leftS at h1; omega
          have e2 : t = R - 1 := by unfold leftS at h1; omega
          rw [e1, e2] at he
          exact .inr (.inr (.inr (.inl he)))
        | succ m =>
          refine .inr (.inr (.inr (.inr ?_)))
          rw [he]
          simp [bck, stp_first k r R m (i + 1) t]
      · exact .inr (.inr (.inl he))
      · rcases stp_back k r R hr hk n (i + 1) t h2 ht h1 e he with ⟨j, a1, a2, a3⟩ | ⟨u, a1, a2, a3⟩ | h | h | h
        · exact .inl ⟨j, by omega, a2, a3⟩
        · exact .inr (.inl ⟨u, by omega, a2, a3⟩)
        · refine .inr (.inr (.inr (.inr ?_)))
          rw [h]
          simp [bck]
        · exact .inr (.inr (.inr (.inl h)))
        · exact .inr (.inr (.inr (.inr (by simp [h]))))
    · rw [if_neg hg, eds_B] at he ⊢
      obtain ⟨h1, h2⟩ := left_B (not_goA hg hi ht hn) hn
      simp only [List.mem_cons] at he
      rcases he with he | he | he | he
      · cases n with
        | zero =>
          have e1 : t + 1 = R - 1 := by unfold leftS at h1; omega
          have e2 : i = r := by unfold leftS at h1; omega
          rw [e1, e2] at he
          exact .inr (.inr (.inr (.inl he)))
        | succ m =>
          refine .inr (.inr (.inr (.inr ?_)))
          rw [he]
          simp [bck, stp_first k r R m i (t + 1)]
      · exact .inr (.inl ⟨t, by omega, by omega, he⟩)
      · exact .inr (.inr (.inl he))
      · rcases stp_back k r R hr hk n i (t + 1) hi h2 h1 e he with ⟨j, a1, a2, a3⟩ | ⟨u, a1, a2, a3⟩ | h | h | h
        · exact .inl ⟨j, by omega, a2, a3⟩
        · exact .inr (.inl ⟨u, by omega, a2, a3⟩)
        · refine .inr (.inr (.inr (.inr ?_)))
          rw [h]
          simp [bck]
        · exact .inr (.inr (.inr (.inl h)))
        · exact .inr (.inr (.inr (.inr (by simp [h]))))
end Go.Proofs.Ytpaehkjnefgaiaa
namespace Go.Proofs.Ytpaehkjnefgaiaa
set_option linter.unusedVariables false
set_option linter.unusedSimpArgs false
set_option linter.unnecessarySimpa false
/-- The edges of the two triangles of an inner square. -/
def InQ1 (a b : Nat) (e : Edg) : Prop :=
  e = (innS a b, innS (a + 1) b) ∨ e = (innS (a + 1) b, innS (a + 1) (b + 1)) ∨ e = (innS (a + 1) (b + 1), innS a b) ∨
  e = (innS a b, innS (a + 1) (b + 1)) ∨ e = (innS (a + 1) (b + 1), innS a (b + 1)) ∨ e = (innS a (b + 1), innS a b)
theorem sqA_eds (a b : Nat) : (sqA a b).flatMap edsS = [(innS a b, innS (a + 1) b), (innS (a + 1) b, innS (a + 1) (b + 1)), (innS (a + 1) (b + 1), innS a b), (innS a b, innS (a + 1) (b + 1)), (innS (a + 1) (b + 1), innS a (b + 1)), (innS a (b + 1), innS a b)] := rfl
theorem mem_sqA {a b : Nat} {e : Edg} : e ∈ (sqA a b).flatMap edsS ↔ InQ1 a b e := by
  rw [sqA_eds]
  unfold InQ1
  simp only [List.mem_cons, List.not_mem_nil, or_false]
def InQ (R : Nat) (e : Edg) : Prop := ∃ a b, 1 ≤ a ∧ a + 1 < R ∧ 1 ≤ b ∧ b + 1 < R ∧ InQ1 a b e
theorem mem_sqRow {b m : Nat} {e : Edg} : e ∈ (sqRow b m).flatMap edsS ↔ ∃ a, 1 ≤ a ∧ a ≤ m ∧ InQ1 a (b + 1) e := by
  unfold sqRow
  rw [upTo_map, mem_upTo]
  constructor
  · rintro ⟨i, h1, h2⟩; exact ⟨i + 1, by omega, by omega, mem_sqA.1 h2⟩
  · rintro ⟨a, h1, h2, h3⟩; exact ⟨a - 1, by omega, mem_sqA.2 (by rw [show a - 1 + 1 = a by omega]; exact h3)⟩
theorem mem_sqRows {R : Nat} {e : Edg} : e ∈ (sqRows R (R - 2)).flatMap edsS ↔ InQ R e := by
  unfold sqRows
  rw [upTo_map, mem_upTo]
  constructor
  · rintro ⟨i, h1, h2⟩
    obtain ⟨a, h3, h4, h5⟩ := mem_sqRow.1 h2
    exact ⟨a, i + 1, by omega, by omega, by omega, by omega, h5⟩
  · rintro ⟨a, b, h1, h2, h3, h4, h5⟩
    exact ⟨b - 1, by omega, mem_sqRow.2 ⟨a, by omega, by omega, by rw [show b - 1 + 1 = b by omega]; exact h5⟩⟩
theorem InQ1_inj {a b c d : Nat} {e : Edg} (h1 : InQ1 a b e) (h2 : InQ1 c d e) : a = c ∧ b = d := by
  unfold InQ1 innS at h1 h2
  rcases h1 with rfl | rfl | rfl | rfl | rfl | rfl <;> simp only [Prod.mk.injEq] at h2 <;> omega
theorem sqA_nodup (a b : Nat) : ((sqA a b).flatMap edsS).Nodup := by
  rw [sqA_eds]
  unfold innS
  simp
  omega
theorem sqRows_nodup (R : Nat) : ((sqRows R (R - 2)).flatMap edsS).Nodup := by
  unfold sqRows
  rw [upTo_map]
  refine upTo_nodup (fun i _ => ?_) (fun i j h _ x hx hy => ?_)
  · unfold sqRow
    rw [upTo_map]
    refine upTo_nodup (fun u _ => sqA_nodup _ _) (fun u v h _ x hx hy => ?_)
    have := InQ1_inj (mem_sqA.1 hx) (mem_sqA.1 hy)
    omega
  · obtain ⟨a, _, _, h1⟩ := mem_sqRow.1 hx
    obtain ⟨c, _, _, h2⟩ := mem_sqRow.1 hy
    have := InQ1_inj h1 h2
    omega
/-! Strips beside one another. -/
theorem four {j k : Nat} (h : j < k) (hk : k < 4) : (j = 0 ∧ k = 1) ∨ (j = 0 ∧ k = 2) ∨ (j = 0 ∧ k = 3) ∨ (j = 1 ∧ k = 2) ∨ (j = 1 ∧ k = 3) ∨ (j = 2 ∧ k = 3) := by omega
theorem four1 {k : Nat} (hk : k < 4) : k = 0 ∨ k = 1 ∨ k = 2 ∨ k = 3 := by omega
theorem OO_apart {j k rj rk R : Nat} (h : j < k) (hk : k < 4) (h1 : 1 ≤ rj) (h2 : 1 ≤ rk) {e : Edg} (a : InO j rj 0 e) (b : InO k rk 0 e) : False := by
  obtain ⟨i, _, hi, e1⟩ := a
  obtain ⟨u, _, hu, e2⟩ := b
  have e3 := congrArg Prod.fst (e1.symm.trans e2)
  simp only at e3
  rcases out_cases (k := j) h1 (Nat.le_of_lt hi) with ⟨h3, e4⟩ | ⟨h3, e4⟩ | ⟨h3, h3', e4⟩ <;> rcases out_cases (k := k) h2 (Nat.le_of_lt hu) with ⟨h5, e5⟩ | ⟨h5, e5⟩ | ⟨h5, h5', e5⟩ <;> rw [e4, e5] at e3 <;> simp only [Prod.mk.injEq] at e3 <;> omega
theorem II_apart {j k R : Nat} (h : j < k) (hk : k < 4) (hR : 2 ≤ R) {e : Edg} (a : InI j R 1 e) (b : InI k R 1 e) : False := by
  obtain ⟨i, hi1, hi, e1⟩ := a
  obtain ⟨u, hu1, hu, e2⟩ := b
  have e3 := e1.symm.trans e2
  rcases four h hk with ⟨rfl, rfl⟩ | ⟨rfl, rfl⟩ | ⟨rfl, rfl⟩ | ⟨rfl, rfl⟩ | ⟨rfl, rfl⟩ | ⟨rfl, rfl⟩ <;> simp [besS, innS, Prod.mk.injEq] at e3 <;> omega
theorem UU_apart {j k rj rk R i i' u u' : Nat} (h : j < k) (hk : k < 4) (hR : 2 ≤ R) (h1 : 1 ≤ rj) (h2 : 1 ≤ rk) (hi : i ≤ rj) (hi' : i' ≤ rk) (hu : u ≤ R - 1) (hu1 : 1 ≤ u) (hu' : u' ≤ R - 1) (hu1' : 1 ≤ u')
    (hs : (i + u < rj + (R - 1) ∧ i' + u' < rk + (R - 1)) ∨ (1 < i + u ∧ 1 < i' + u')) (e1 : besS j u R = besS k u' R) (e2 : outS j rj i = outS k rk i') : False := by
  have key : (i = 0 ∧ i' = rk ∧ j = (k + 1) % 4) ∨ (i = rj ∧ i' = 0 ∧ k = (j + 1) % 4) := by
    rcases out_cases (k := j) h1 hi with ⟨h3, e4⟩ | ⟨h3, e4⟩ | ⟨h3, h3', e4⟩ <;> rcases out_cases (k := k) h2 hi' with ⟨h5, e5⟩ | ⟨h5, e5⟩ | ⟨h5, h5', e5⟩ <;> rw [e4, e5] at e2 <;> simp only [Prod.mk.injEq] at e2 <;> omega
  rcases four h hk with ⟨rfl, rfl⟩ | ⟨rfl, rfl⟩ | ⟨rfl, rfl⟩ | ⟨rfl, rfl⟩ | ⟨rfl, rfl⟩ | ⟨rfl, rfl⟩ <;> simp [besS, innS, Prod.mk.injEq] at e1 <;> omega
theorem strips_apart {j k rj rk R : Nat} (h : j < k) (hk : k < 4) (h1 : 1 ≤ rj) (h2 : 1 ≤ rk) (hR : 2 ≤ R) {e : Edg} (a : InS j rj R 0 1 e) (b : InS k rk R 0 1 e) : False := by
  rcases a with a | a | ⟨i, u, a1, a2, a3, a4, a5, a6⟩ | ⟨i, u, a1, a2, a3, a4, a5, a6⟩ <;> rcases b with b | b | ⟨i', u', b1, b2, b3, b4, b5, b6⟩ | ⟨i', u', b1, b2, b3, b4, b5, b6⟩
  · exact OO_apart (R := R) h hk h1 h2 a b
  · obtain ⟨_, _, _, ea⟩ := a; obtain ⟨_, _, _, eb⟩ := b; exact fst_ob (ea.symm.trans eb)
  · obtain ⟨_, _, _, ea⟩ := a; exact fst_ob (ea.symm.trans b6)
  · obtain ⟨_, _, _, ea⟩ := a; exact snd_ob (ea.symm.trans b6)
  · obtain ⟨_, _, _, ea⟩ := a; obtain ⟨_, _, _, eb⟩ := b; exact fst_bo (ea.symm.trans eb)
  · exact II_apart h hk hR a b
  · obtain ⟨_, _, _, ea⟩ := a; exact snd_bo (ea.symm.trans b6)
  · obtain ⟨_, _, _, ea⟩ := a; exact fst_bo (ea.symm.trans b6)
  · obtain ⟨_, _, _, eb⟩ := b; exact fst_bo (a6.symm.trans eb)
  · obtain ⟨_, _, _, eb⟩ := b; exact snd_ob (a6.symm.trans eb)
  · exact UU_apart h hk hR h1 h2 a3 b3 a4 (by omega) b4 (by omega) (.inl ⟨a5, b5⟩) (congrArg Prod.fst (a6.symm.trans b6)) (congrArg Prod.snd (a6.symm.trans b6))
  · exact fst_bo (a6.symm.trans b6)
  · obtain ⟨_, _, _, eb⟩ := b; exact snd_bo (a6.symm.trans eb)
  · obtain ⟨_, _, _, eb⟩ := b; exact fst_ob (a6.symm.trans eb)
  · exact fst_ob (a6.symm.trans b6)
  · exact UU_apart h hk hR h1 h2 a3 b3 a4 (by omega) b4 (by omega) (.inr ⟨by omega, by omega⟩) (congrArg Prod.snd (a6.symm.trans b6)) (congrArg Prod.fst (a6.symm.trans b6))
theorem InQ_inn {R : Nat} {e : Edg} (h : InQ R e) : (∃ a b, e.1 = innS a b) ∧ ∃ a b, e.2 = innS a b := by
  obtain ⟨a, b, _, _, _, _, h⟩ := h
  rcases h with rfl | rfl | rfl | rfl | rfl | rfl <;> exact ⟨⟨_, _, rfl⟩, ⟨_, _, rfl⟩⟩
theorem QI_apart {k R : Nat} (hk : k < 4) {e : Edg} (h : InQ R e) (b : InI k R 1 e) : False := by
  obtain ⟨a, c, h1, h2, h3, h4, h5⟩ := h
  obtain ⟨u, hu1, hu, e2⟩ := b
  unfold InQ1 at h5
  rw [e2] at h5
  rcases four1 hk with rfl | rfl | rfl | rfl <;> simp [besS, innS, Prod.mk.injEq] at h5 <;> omega
theorem QS_apart {k rk R : Nat} (hk : k < 4) {e : Edg} (h : InQ R e) (b : InS k rk R 0 1 e) : False := by
  obtain ⟨⟨a1, a2, ha⟩, ⟨a3, a4, hb⟩⟩ := InQ_inn h
  rcases b with ⟨j, _, _, e2⟩ | b | ⟨i', u', b1, b2, b3, b4, b5, e2⟩ | ⟨i', u', b1, b2, b3, b4, b5, e2⟩
  · rw [e2] at ha; exact out_ne_inn ha
  · exact QI_apart hk h b
  · rw [e2] at hb; exact out_ne_inn hb
  · rw [e2] at ha; exact out_ne_inn ha
theorem mem_strip_in {k r R : Nat} (hr : 1 ≤ r) (hk : k < 4) (hR : 2 ≤ R) {e : Edg} (h : e ∈ (stripS k r R).flatMap edsS) : InS k r R 0 1 e :=
  stp_in k r R hr hk _ 0 1 (by omega) (by omega) rfl e h
def edR (r : Nat → Nat) (R : Nat) : List Edg := (trisR r R).flatMap edsS
theorem edR_two {r : Nat → Nat} {R : Nat} (hR : 2 ≤ R) : edR r R = (sqRows R (R - 2)).flatMap edsS ++ upTo (fun k => (stripS k (r k) R).flatMap edsS) 4 := by
  unfold edR trisR
  rw [if_neg (by omega), List.flatMap_append]
  unfold stripsS
  rw [upTo_map]
theorem mem_edR {r : Nat → Nat} {R : Nat} (hR : 2 ≤ R) {e : Edg} : e ∈ edR r R ↔ InQ R e ∨ ∃ k, k < 4 ∧ e ∈ (stripS k (r k) R).flatMap edsS := by
  rw [edR_two hR, List.mem_append, mem_sqRows, mem_upTo]
theorem edR_nodup {r : Nat → Nat} {R : Nat} (hR : 2 ≤ R) (hr : ∀ k, k < 4 → 1 ≤ r k) : (edR r R).Nodup := by
  rw [edR_two hR, List.nodup_append]
  refine ⟨sqRows_nodup R, upTo_nodup (fun k hk => ?_) (fun j k h hk e h1 h2 => ?_), fun x hx y hy e => ?_⟩
  · exact stp_nodup k (r k) R (hr k hk) hk _ 0 1 (by omega) (by omega) rfl
  · exact strips_apart h hk (hr j (by omega)) (hr k hk) hR (mem_strip_in (hr j (by omega)) (by omega) hR h1) (mem_strip_in (hr k hk) hk hR h2)
  · subst e
    obtain ⟨k, hk, h2⟩ := mem_upTo.1 hy
    exact QS_apart hk (mem_sqRows.1 hx) (mem_strip_in (hr k hk) hk hR h2)
/-! Back. -/
theorem strip_some {k r R : Nat} (hr : 1 ≤ r) (hR : 2 ≤ R) : ∃ n, leftS r R 0 1 = n + 1 := ⟨leftS r R 0 1 - 1, by unfold leftS; omega⟩
theorem strip_first {k r R : Nat} (hr : 1 ≤ r) (hR : 2 ≤ R) : (besS k 1 R, outS k r 0) ∈ (stripS k r R).flatMap edsS := by
  obtain ⟨n, e⟩ := strip_some (k := k) hr hR
  unfold stripS; rw [e]; exact stp_first k r R n 0 1
theorem strip_last {k r R : Nat} (hr : 1 ≤ r) (hR : 2 ≤ R) : (outS k r r, besS k (R - 1) R) ∈ (stripS k r R).flatMap edsS := by
  obtain ⟨n, e⟩ := strip_some (k := k) hr hR
  unfold stripS; rw [e]; exact stp_last k r R n 0 1 (by omega) (by omega) e
theorem strip_O {k r R j : Nat} (hR : 2 ≤ R) (hj : j < r) : (outS k r j, outS k r (j + 1)) ∈ (stripS k r R).flatMap edsS :=
  stp_O k r R _ 0 1 (by omega) (by omega) rfl j (by omega) hj
theorem strip_I {k r R u : Nat} (hR : 2 ≤ R) (h1 : 1 ≤ u) (h2 : u < R - 1) : (besS k (u + 1) R, besS k u R) ∈ (stripS k r R).flatMap edsS :=
  stp_I k r R _ 0 1 (by omega) (by omega) rfl u h1 h2
theorem bes_turn {k R : Nat} (hk : k < 4) (hR : 2 ≤ R) : besS k (R - 1) R = besS ((k + 1) % 4) 1 R := by
  rcases four1 hk with rfl | rfl | rfl | rfl <;> simp [besS, innS] <;> omega
theorem Q_back {r : Nat → Nat} {R : Nat} (hR : 2 ≤ R) {e : Edg} (h : InQ R e) : InQ R (bck e) ∨ ∃ k, k < 4 ∧ InI k R 1 (bck e) := by
  obtain ⟨a, b, h1, h2, h3, h4, h5⟩ := h
  rcases h5 with rfl | rfl | rfl | rfl | rfl | rfl
  · by_cases h : b = 1
    · subst h
      exact .inr ⟨0, by omega, a, h1, by omega, rfl⟩
    · exact .inl ⟨a, b - 1, h1, h2, by omega, by omega, .inr (.inr (.inr (.inr (.inl (by unfold bck; rw [show b - 1 + 1 = b by omega])))))⟩
  · by_cases h : a + 1 = R - 1
    · exact .inr ⟨1, by omega, b, h3, by omega, by unfold bck besS; simp [h]⟩
    · exact .inl ⟨a + 1, b, by omega, by omega, h3, h4, .inr (.inr (.inr (.inr (.inr rfl))))⟩
  · exact .inl ⟨a, b, h1, h2, h3, h4, .inr (.inr (.inr (.inl rfl)))⟩
  · exact .inl ⟨a, b, h1, h2, h3, h4, .inr (.inr (.inl rfl))⟩
  · by_cases h : b + 1 = R - 1
    · exact .inr ⟨2, by omega, R - (a + 1), by omega, by omega, by
        unfold bck besS
        simp only [h, show R - (R - (a + 1)) = a + 1 by omega, show R - (R - (a + 1) + 1) = a by omega]
        rfl⟩
    · exact .inl ⟨a, b + 1, h1, h2, by omega, by omega, .inl rfl⟩
  · by_cases h : a = 1
    · subst h
      exact .inr ⟨3, by omega, R - (b + 1), by omega, by omega, by
        unfold bck besS
        simp only [show R - (R - (b + 1)) = b + 1 by omega, show R - (R - (b + 1) + 1) = b by omega]
        rfl⟩
    · exact .inl ⟨a - 1, b, by omega, by omega, h3, h4, .inr (.inl (by unfold bck; rw [show a - 1 + 1 = a by omega]))⟩
theorem I_back {k R : Nat} (hk : k < 4) (hR : 2 ≤ R) {e : Edg} (h : InI k R 1 e) : InQ R (bck e) := by
  obtain ⟨u, h1, h2, rfl⟩ := h
  rcases four1 hk with rfl | rfl | rfl | rfl
  · exact ⟨u, 1, h1, by omega, by omega, by omega, .inl rfl⟩
  · exact ⟨R - 2, u, by omega, by omega, h1, by omega, .inr (.inl (by unfold bck besS; rw [show R - 2 + 1 = R - 1 by omega]; rfl))⟩
  · exact ⟨R - u - 1, R - 2, by omega, by omega, by omega, by omega, .inr (.inr (.inr (.inr (.inl (by unfold bck besS; rw [show R - 2 + 1 = R - 1 by omega, show R - u - 1 + 1 = R - u by omega, show R - (u + 1) = R - u - 1 by omega]; rfl)))))⟩
  · exact ⟨1, R - u - 1, by omega, by omega, by omega, by omega, .inr (.inr (.inr (.inr (.inr (by unfold bck besS; rw [show R - u - 1 + 1 = R - u by omega, show R - (u + 1) = R - u - 1 by omega]; rfl)))))⟩
theorem edR_back {r : Nat → Nat} {R : Nat} (hR : 2 ≤ R) (hr : ∀ k, k < 4 → 1 ≤ r k) {e : Edg} (h : e ∈ edR r R) : (∃ k, k < 4 ∧ InO k (r k) 0 e) ∨ bck e ∈ edR r R := by
  rcases (mem_edR hR).1 h with h | ⟨k, hk, h⟩
  · rcases Q_back (r := r) hR h with h | ⟨k, hk, u, h1, h2, h3⟩
    · exact .inr ((mem_edR hR).2 (.inl h))
    · exact .inr ((mem_edR hR).2 (.inr ⟨k, hk, by rw [h3]; exact strip_I hR h1 h2⟩))
  · rcases stp_back k (r k) R (hr k hk) hk _ 0 1 (by omega) (by omega) rfl e h with h | h | h | h | h
    · exact .inl ⟨k, hk, h⟩
    · exact .inr ((mem_edR hR).2 (.inl (I_back hk hR h)))
    · refine .inr ((mem_edR hR).2 (.inr ⟨(k + 3) % 4, by omega, ?_⟩))
      have h1 := strip_last (k := (k + 3) % 4) (hr ((k + 3) % 4) (by omega)) hR
      rw [bes_turn (by omega) hR, out_end (hr _ (by omega)), show ((k + 3) % 4 + 1) % 4 = k by omega] at h1
      rw [h]
      exact h1
    · refine .inr ((mem_edR hR).2 (.inr ⟨(k + 1) % 4, by omega, ?_⟩))
      have h1 := strip_first (k := (k + 1) % 4) (hr ((k + 1) % 4) (by omega)) hR
      rw [h, bes_turn hk hR, out_end (hr k hk)]
      exact h1
    · exact .inr ((mem_edR hR).2 (.inr ⟨k, hk, h⟩))
theorem O_once {r : Nat → Nat} {R : Nat} (hR : 2 ≤ R) (hr : ∀ k, k < 4 → 1 ≤ r k) {e : Edg} {k : Nat} (hk : k < 4) (h : InO k (r k) 0 e) : bck e ∉ edR r R := by
  obtain ⟨i, _, hi, rfl⟩ := h
  intro hm
  rcases (mem_edR hR).1 hm with h | ⟨j, hj, h⟩
  · obtain ⟨⟨a, b, h⟩, _⟩ := InQ_inn h
    exact out_ne_inn (show outS k (r k) (i + 1) = innS a b from h)
  · rcases mem_strip_in (hr j hj) hj hR h with ⟨u, _, hu, e⟩ | ⟨u, _, _, e⟩ | ⟨_, _, _, _, _, _, _, e⟩ | ⟨_, _, _, _, _, _, _, e⟩
    · have e1 := congrArg Prod.fst e
      have e2 := congrArg Prod.snd e
      simp only [bck] at e1 e2
      have h1 := hr k hk
      have h2 := hr j hj
      rcases out_cases (k := k) h1 (show i + 1 ≤ r k by omega) with ⟨h3, e4⟩ | ⟨h3, e4⟩ | ⟨h3, h3', e4⟩ <;> rcases out_cases (k := j) h2 (Nat.le_of_lt hu) with ⟨h5, e5⟩ | ⟨h5, e5⟩ | ⟨h5, h5', e5⟩ <;> rw [e4, e5] at e1 <;> simp only [Prod.mk.injEq] at e1 <;> (try omega)
      · rcases out_cases (k := k) h1 (Nat.le_of_lt hi) with ⟨h6, e6⟩ | ⟨h6, e6⟩ | ⟨h6, h6', e6⟩ <;> rcases out_cases (k := j) h2 (show u + 1 ≤ r j by omega) with ⟨h7, e7⟩ | ⟨h7, e7⟩ | ⟨h7, h7', e7⟩ <;> rw [e6, e7] at e2 <;> simp only [Prod.mk.injEq] at e2 <;> omega
      · obtain rfl : k = j := by omega
        have := out_inj h1 hk (by omega) (by omega) e2
        omega
    · exact fst_ob (show (outS k (r k) (i + 1), outS k (r k) i) = _ from e)
    · exact fst_ob (show (outS k (r k) (i + 1), outS k (r k) i) = _ from e)
    · exact snd_ob e
end Go.Proofs.Ytpaehkjnefgaiaa
namespace Go.Proofs.Ytpaehkjnefgaiaa
open Go.RowKit
set_option linter.unusedVariables false
set_option linter.unusedSimpArgs false
def More.none_ : More := ⟨fun w => w, fun w => Below.refl _ _⟩
section
variable {P : Program} {ops : Array Oper} {w : World} {md : Region.Mode}
/-- From wherever the region has come, the operation answers v and leaves what was there. -/
def SureAt (P : Program) (o : Oper) (a : Act) (w : World) (v : Value) : Prop := ∀ x : More, o.quietAt P a (fun u => ∃ y, u = grow (grow w x) y) (grow w x) v
def Sure (P : Program) (ops : Array Oper) (w : World) (o : Oper) (v : Value) (a : Act) : Prop :=
  (Region.wanted o (yielded ops a.tmps) = true ∧ SureAt P o a w v) ∨ (Region.wanted o (yielded ops a.tmps) = false ∧ v = undef)
theorem Sure.of_same {o : Oper} {v : Value} {a a' : Act} (h : Sure P ops w o v a) (he : execOp a'.eval o = execOp a.eval o) (hw : Region.wanted o (yielded ops a'.tmps) = Region.wanted o (yielded ops a.tmps)) : Sure P ops w o v a' := by
  unfold Sure SureAt Oper.quietAt at *
  rw [he, hw]
  exact h
/-- What another operation, apart from it, has left makes no difference. -/
theorem Sure.put {o oj : Oper} {v u : Value} {a : Act} (h : Sure P ops w o v a) (hs : ∀ cs b, o.op ≠ .select cs b) (hd : ∀ d, oj.dst = some d → d ∉ o.looksAt ops) : Sure P ops w o v (a.put oj.dst u) :=
  h.of_same (execOp_put o hs a oj.dst u hd) (wanted_put o a oj.dst u hd)
theorem Sure.unput {o oj : Oper} {v u : Value} {a : Act} (h : Sure P ops w o v (a.put oj.dst u)) (hs : ∀ cs b, o.op ≠ .select cs b) (hd : ∀ d, oj.dst = some d → d ∉ o.looksAt ops) : Sure P ops w o v a :=
  h.of_same (execOp_put o hs a oj.dst u hd).symm (wanted_put o a oj.dst u hd).symm
def sureOp (P : Program) (ops : Array Oper) (w : World) (i : Nat) (K : Act → Prop) (a : Act) : Prop := ∃ o v, ops[i]? = some o ∧ Sure P ops w o v a ∧ K (a.put o.dst v)
/-- The one block that the region makes: its place in the region, its slot. -/
def pt (w : World) (x : More) : Value := .pointer (some ⟨(grow w x).heap.size, 0, none⟩)
/-- Where the region may be: nothing made yet; or the block made behind what x tells. -/
def At (w : World) (obj : Obj) : Option More → World → Prop
  | none, u => ∃ x, u = grow w x
  | some x, u => ∃ y, u = grow ((grow w x).alloc obj) y
theorem At.grows {obj : Obj} {s : Option More} {u : World} (h : At w obj s u) : ∃ x, u = grow w x := by
  cases s with
  | none => exact h
  | some x =>
    obtain ⟨y, rfl⟩ := h
    exact grow_of (bel_grow (bel_alloc (bel_grow (Below.refl _ _) x) obj) y)
theorem At.on {obj : Obj} {s : Option More} {u : World} (h : At w obj s u) (y : More) : At w obj s (grow u y) := by
  cases s with
  | none => obtain ⟨x, rfl⟩ := h; exact ⟨x.then y, rfl⟩
  | some x => obtain ⟨z, rfl⟩ := h; exact ⟨z.then y, rfl⟩
variable {n N : Nat} {alc : Option Tmp} {obj : Obj} {L : Option More → Array Bool → Act → Prop}
def anyU (P : Program) (md : Region.Mode) (ops : Array Oper) (w : World) (n : Nat) (alc : Option Tmp) (L : Option More → Array Bool → Act → Prop) : Nat → Option More → Array Bool → Act → Prop
  | 0, s, listed, a => L s listed a
  | f + 1, s, listed, a => Region.ready md ops listed ≠ [] ∧ ∀ i ∈ Region.ready md ops listed,
      (i < n ∧ sureOp P ops w i (anyU P md ops w n alc L f s (listed.setIfInBounds i true)) a) ∨
      (i = n ∧ s = none ∧ ∃ d, alc = some d ∧ ∀ x, anyU P md ops w n alc L f (some x) (listed.setIfInBounds i true) (a.put (some d) (pt w x)))
/-- What the block's making does. -/
def Makes (P : Program) (ops : Array Oper) (n : Nat) (alc : Option Tmp) (obj : Obj) : Prop :=
  ∀ d, alc = some d → ∃ o, ops[n]? = some o ∧ o.dst = some d ∧ o.guard = none ∧ ∀ (a : Act) (u : World), (execOp a.eval o).run P u = .ok (.value (.pointer (some ⟨u.heap.size, 0, none⟩))) (u.alloc obj)
theorem any_sound {g : Nat} {Q' : Exit → Act → World → Prop} (hm : Makes P ops n alc obj) (hL : ∀ s listed a u, At w obj s u → L s listed a → wpAny P md ops Q' g listed a u) :
    ∀ (f : Nat) (s : Option More) (listed : Array Bool) (a : Act) (u : World), At w obj s u → anyU P md ops w n alc L f s listed a → wpAny P md ops Q' (f + g) listed a u
  | 0, s, listed, a, u, hu, h => by rw [Nat.zero_add]; exact hL _ _ _ _ hu h
  | f + 1, s, listed, a, u, hu, h => by
    rw [show f + 1 + g = (f + g) + 1 by omega]
    refine ⟨fun h0 => absurd h0 h.1, fun i hi => ?_⟩
    rcases h.2 i hi with ⟨_, o, v, ho, hy, hk⟩ | ⟨hin, hsn, d, hd, hk⟩
    · unfold wpOp
      simp only [ho]
      rcases hy with ⟨hw, hv⟩ | ⟨hw, rfl⟩
      · rw [if_pos hw]
        left
        obtain ⟨x, rfl⟩ := hu.grows
        have h3 := hv x
        unfold Oper.quietAt at h3
        unfold Oper.wp
        generalize (execOp a.eval o).run P (grow w x) = r at *
        cases r with
        | ok nx w' =>
          cases nx <;> simp only [Oper.quietUpon] at h3 <;> simp only [Oper.upon]
          case value u' =>
            obtain ⟨e1, e2⟩ := h3
            rw [e1, e2]
            exact any_sound hm hL f _ _ _ _ hu hk
          case skip =>
            obtain ⟨e1, e2⟩ := h3
            rw [e1, ← e2]
            exact any_sound hm hL f _ _ _ _ hu hk
          case enter fn args =>
            obtain ⟨e1, hc⟩ := h3
            rw [e1]
            exact hc.mono fun e w'' ⟨he, y, hy⟩ => by
              subst he hy
              exact any_sound hm hL f _ _ _ _ (hu.on y) hk
        | halt x w' => simp only [Oper.quietUpon] at h3
      · rw [if_neg (by rw [hw]; exact Bool.false_ne_true)]
        exact any_sound hm hL f _ _ _ _ hu hk
    · obtain ⟨o, ho, hdst, hg, hrun⟩ := hm d hd
      rw [hsn] at hu
      obtain ⟨x, hux⟩ := hu
      unfold wpOp
      rw [hin] at hk ⊢
      simp only [ho]
      rw [if_pos (by simp [Region.wanted, hg])]
      left
      unfold Oper.wp
      rw [hrun]
      simp only [Oper.upon, hdst]
      rw [hux]
      exact any_sound hm hL f (some x) _ _ _ ⟨More.none_, rfl⟩ (hk x)
theorem any_first {i : Nat} {oi : Oper} {v : Value} (hm : Makes P ops n alc obj) (hi : ops[i]? = some oi) (hsel : ∀ (j : Nat) (o : Oper) cs b, ops[j]? = some o → o.op ≠ .select cs b) (hin : i < n) (hnN : n ≤ N) (hN : ∀ d, alc = some d → N = n + 1)
    (hs : Region.sinkB md ops N = true) (hc : Region.chainB md ops N = true) (hNs : N < ops.size) (hdone : ∀ s listed a, L s listed a → ∀ j ∈ Region.ready md ops listed, N ≤ j) :
    ∀ (f : Nat) (s : Option More) (listed : Array Bool) (a : Act), HeadInv md ops N listed →
      (∀ j oj, ops[j]? = some oj → j ≠ i → listed.getD j true = false → (∀ e ∈ oj.after, Region.binds md e = true → e.on ≠ i) → oi.apart ops oj = true) →
      i ∈ Region.ready md ops listed → Sure P ops w oi v a →
      anyU P md ops w n alc L f s (listed.setIfInBounds i true) (a.put oi.dst v) → anyU P md ops w n alc L (f + 1) s listed a := by
  intro f
  induction f with
  | zero =>
    intro s listed a inv _ hr hy H
    have hun := (mem_ready.1 hr).1
    refine ⟨fun h => (by rw [h] at hr; cases hr), fun j hj => ?_⟩
    have hjn : j < N := by
      rcases Nat.lt_or_ge j N with h | h
      · exact h
      · exact absurd hj (tail_waits hs hc hNs inv _ i rfl (by omega) hun j h)
    by_cases hji : j = i
    · subst hji; exact .inl ⟨hin, oi, v, hi, hy, H⟩
    · have := hdone _ _ _ H j (ready_mono hj hji)
      omega
  | succ f ih =>
    intro s listed a inv hfree hr hy H
    have hun := (mem_ready.1 hr).1
    refine ⟨fun h => (by rw [h] at hr; cases hr), fun j hj => ?_⟩
    have hjn : j < N := by
      rcases Nat.lt_or_ge j N with h | h
      · exact h
      · exact absurd hj (tail_waits hs hc hNs inv _ i rfl (by omega) hun j h)
    by_cases hji : j = i
    · subst hji; exact .inl ⟨hin, oi, v, hi, hy, H⟩
    · obtain ⟨hjun, oj, hoj, hall⟩ := mem_ready.1 hj
      have hnot : ∀ e ∈ oj.after, Region.binds md e = true → e.on ≠ i := fun e he hb heq => by
        have h1 := hall e he hb
        rw [heq, getD_both hun] at h1
        cases h1
      obtain ⟨p1, p2, p3⟩ := Oper.apart_spec (hfree j oj hoj hji hjun hnot)
      have hfree' : ∀ k ok, ops[k]? = some ok → k ≠ i → (listed.setIfInBounds j true).getD k true = false →
          (∀ e ∈ ok.after, Region.binds md e = true → e.on ≠ i) → oi.apart ops ok = true := fun k ok hk hki hun' hno => by
        refine hfree k ok hk hki ?_ hno
        by_cases hjk : j = k
        · subst hjk; exact hjun
        · rw [getD_set_ne true hjk] at hun'; exact hun'
      have go : ∀ (s' : Option More) (u : Value), anyU P md ops w n alc L f s' ((listed.setIfInBounds i true).setIfInBounds j true) ((a.put oi.dst v).put oj.dst u) →
          anyU P md ops w n alc L (f + 1) s' (listed.setIfInBounds j true) (a.put oj.dst u) := fun s' u h => by
        refine ih s' (listed.setIfInBounds j true) (a.put oj.dst u) (inv.set hj hjn) hfree' (ready_mono hr (Ne.symm hji)) (hy.put (fun cs b => hsel i oi cs b hi) p3) ?_
        rw [Array.setIfInBounds_comm _ _ hji, ← Act.put_comm a v u p2]
        exact h
      rcases H.2 j (ready_mono hj hji) with ⟨hj2, oj', u, hoj', hyj, hk⟩ | ⟨hj2, hs2, d, hd, hk⟩
      · obtain rfl : oj = oj' := Option.some.inj (hoj.symm.trans hoj')
        exact .inl ⟨hj2, oj, u, hoj, hyj.unput (fun cs b => hsel j oj cs b hoj) p1, go s u hk⟩
      · obtain ⟨o, ho, hdst, _, _⟩ := hm d hd
        subst hj2
        obtain rfl : oj = o := Option.some.inj (hoj.symm.trans ho)
        refine .inr ⟨rfl, hs2, d, hd, fun x => ?_⟩
        have := go (some x) (pt w x)
        rw [hdst] at this
        exact this (hk x)
/-! the order of the text -/
def lexH (md : Region.Mode) (ops : Array Oper) (fin : Array Bool → Bool) : Nat → Nat → Array Bool → Bool
  | 0, _, listed => fin listed
  | f + 1, k, listed => (Region.ready md ops listed).contains k && Region.free md ops listed k && lexH md ops fin f (k + 1) (listed.setIfInBounds k true)
/-- The walk with one value for each operation. -/
def sureL (P : Program) (ops : Array Oper) (w : World) (Q : Act → Prop) : List Oper → Act → Prop
  | [], a => Q a
  | o :: rest, a => ∃ v, Sure P ops w o v a ∧ sureL P ops w Q rest (a.put o.dst v)
theorem any_lex {F : Nat} {fin : Array Bool → Bool} {Q : Act → Prop} (hm : Makes P ops n alc obj) (hsel : Region.noSelect ops = true) (hnN : n ≤ N) (hN : ∀ d, alc = some d → N = n + 1)
    (hs : Region.sinkB md ops N = true) (hc : Region.chainB md ops N = true) (hNs : N < ops.size) (hdone : ∀ s listed a, L s listed a → ∀ j ∈ Region.ready md ops listed, N ≤ j)
    (hfin : ∀ listed a, HeadInv md ops N listed → fin listed = true → Q a → anyU P md ops w n alc L F none listed a) :
    ∀ (l : List Oper) (k : Nat) (listed : Array Bool) (a : Act), (∀ j, j < l.length → l[j]? = ops[k + j]?) → k + l.length = n → HeadInv md ops N listed →
    lexH md ops fin l.length k listed = true → sureL P ops w Q l a → anyU P md ops w n alc L (l.length + F) none listed a
  | [], k, listed, a, _, hk, inv, hB, h => by
    simp only [List.length_nil, Nat.zero_add]
    exact hfin listed a inv (by simpa [lexH] using hB) h
  | o :: l, k, listed, a, hl, hk, inv, hB, h => by
    have h0 : ops[k]? = some o := by simpa using (hl 0 (by simp)).symm
    simp only [List.length_cons, lexH, Bool.and_eq_true] at hB
    obtain ⟨⟨hr, hf⟩, hB'⟩ := hB
    have hkn : k < n := by simp only [List.length_cons] at hk; omega
    have hr' : k ∈ Region.ready md ops listed := by simpa using hr
    obtain ⟨v, hy, hK⟩ := h
    rw [show (o :: l).length + F = (l.length + F) + 1 by simp only [List.length_cons]; omega]
    exact any_first hm h0 (Region.noSelect_spec hsel) hkn hnN hN hs hc hNs hdone (l.length + F) none listed a inv (Region.free_spec h0 hf) hr' hy
      (any_lex hm hsel hnN hN hs hc hNs hdone hfin l (k + 1) _ _ (fun j hj => by have := hl (j + 1) (by simp; omega); simpa [Nat.add_assoc, Nat.add_comm 1 j] using this) (by simp only [List.length_cons] at hk; omega) (inv.set hr' (by omega)) hB' hK)
/-! one value, out of walks from wherever the region has come -/
def dstsB (t : Nat) : List Oper → Bool
  | [] => true
  | o :: l => (match o.dst with | some d => decide (d < t) && l.all (fun o' => o'.dst != some d) | none => false) && dstsB t l
theorem put_size (a : Act) (d : Option Tmp) (v : Value) : (a.put d v).tmps.size = a.tmps.size := by cases d <;> simp [Act.put]
theorem quiet_keeps {C : World → Prop} {A : Act} {d : Tmp} : ∀ (l : List Oper) (a : Act), (l.all fun o' => o'.dst != some d) = true → wpQuiet P ops C (fun a' => a' = A) l a → A.tmps[d]? = a.tmps[d]?
  | [], a, _, h => by rw [← (h : a = A)]
  | o :: l, a, hd, h => by
    simp only [List.all_cons, Bool.and_eq_true, bne_iff_ne, ne_eq] at hd
    have key : ∀ v, (a.put o.dst v).tmps[d]? = a.tmps[d]? := fun v => by
      cases ho : o.dst with
      | none => rfl
      | some e =>
        have : e ≠ d := fun he => hd.1 (by rw [ho, he])
        simp [Act.put, Array.getElem?_setIfInBounds_ne this]
    unfold wpQuiet at h
    split at h
    · obtain ⟨v, _, h2⟩ := h
      rw [quiet_keeps l _ hd.2 h2, key]
    · rw [quiet_keeps l _ hd.2 h, key]
theorem sure_of_quiet {A : Act} {Q : Act → Prop} (hQ : Q A) : ∀ (l : List Oper) (a : Act), dstsB a.tmps.size l = true → (∀ x : More, wpQuiet P ops (fun u => ∃ y, u = grow (grow w x) y) (fun a' => a' = A) l a) → sureL P ops w Q l a
  | [], a, _, h => by have := h More.none_; unfold wpQuiet at this; subst this; exact hQ
  | o :: l, a, hd, h => by
    simp only [dstsB, Bool.and_eq_true] at hd
    obtain ⟨hd1, hd2⟩ := hd
    cases ho : o.dst with
    | none => rw [ho] at hd1; cases hd1
    | some d =>
      rw [ho] at hd1
      simp only [Bool.and_eq_true, decide_eq_true_eq] at hd1
      have fixed : ∀ v, wpQuiet P ops (fun u => ∃ y, u = grow (grow w More.none_) y) (fun a' => a' = A) l (a.put o.dst v) → A.tmps[d]? = some v := fun v hv => by
        rw [quiet_keeps l _ hd1.2 hv, ho]
        simp [Act.put, hd1.1]
      have fixed' : ∀ (x : More) v, wpQuiet P ops (fun u => ∃ y, u = grow (grow w x) y) (fun a' => a' = A) l (a.put o.dst v) → A.tmps[d]? = some v := fun x v hv => by
        rw [quiet_keeps l _ hd1.2 hv, ho]
        simp [Act.put, hd1.1]
      by_cases hw : Region.wanted o (yielded ops a.tmps) = true
      · have h0 := h More.none_
        unfold wpQuiet at h0
        rw [if_pos hw] at h0
        obtain ⟨v, _, h2⟩ := h0
        have hv := fixed v h2
        have each : ∀ x : More, (∀ u, (∃ y, u = grow (grow w x) y) → o.quietAt P a (fun u => ∃ y, u = grow (grow w x) y) u v) ∧ wpQuiet P ops (fun u => ∃ y, u = grow (grow w x) y) (fun a' => a' = A) l (a.put o.dst v) := fun x => by
          have hx := h x
          unfold wpQuiet at hx
          rw [if_pos hw] at hx
          obtain ⟨v', h1', h2'⟩ := hx
          have hv' := fixed' x v' h2'
          rw [hv] at hv'
          cases hv'
          exact ⟨h1', h2'⟩
        refine ⟨v, .inl ⟨hw, fun x => (each x).1 _ ⟨More.none_, rfl⟩⟩, ?_⟩
        exact sure_of_quiet hQ l _ (by rw [put_size]; exact hd2) fun x => (each x).2
      · refine ⟨undef, .inr ⟨by simpa using hw, rfl⟩, ?_⟩
        refine sure_of_quiet hQ l _ (by rw [put_size]; exact hd2) fun x => ?_
        have hx := h x
        unfold wpQuiet at hx
        rw [if_neg hw] at hx
        exact hx
end
section
variable {P : Program} {w : World}
def tailB (l : List Oper) (n : Nat) : Bool :=
  Region.noSelect l.toArray && decide (n < l.length) && Region.sinkB .any l.toArray n && Region.chainB .any l.toArray n && lexH .any l.toArray (fun listed => Region.seqB .any l.toArray (l.length - n) n listed) n 0 (Array.replicate l.length false)
theorem inv0 (l : List Oper) (N : Nat) : HeadInv .any l.toArray N (Array.replicate l.length false) :=
  ⟨by simp, fun j oj _ hl => (by rw [getD_replicate_false] at hl; cases hl), fun t _ ht => getD_in (by simpa using ht) (getD_replicate_false _ _)⟩
/-- The region's first n operations read or are such calls; the rest goes in one order. A: the frame behind the first n. -/
theorem wp_region_tail {id : Nat} {Q : Exit → Act → World → Prop} {a : Act} {l : List Oper} (n : Nat) (A : Act) (hm : P.follows .mixedOrders = true) (hB : tailB l n = true) (hd : dstsB a.tmps.size (l.take n) = true)
    (h : ∀ x : More, wpQuiet P l.toArray (fun u => ∃ y, u = grow (grow w x) y) (fun a' => a' = A) (l.take n) a)
    (ht : ∀ x : More, wpList P l.toArray Q (l.drop n) A (grow w x)) : (Code.region id l.toArray true).wp P Q a w := by
  simp only [tailB, Bool.and_eq_true, decide_eq_true_eq] at hB
  obtain ⟨⟨⟨⟨hsel, hn⟩, hs⟩, hc⟩, hlex⟩ := hB
  have htl : (l.take n).length = n := by simp; omega
  refine wp_region_any hm ?_
  have hmk : Makes P l.toArray n none (.cells #[] 0) := fun d hd => by cases hd
  have hu : At w (.cells #[] 0) none { w with drawn := w.drawn + 1 } := grow_of (bel_drew (Below.refl _ _))
  have H := any_lex (P := P) (w := w) (md := .any) (ops := l.toArray) (n := n) (N := n) (alc := none) (obj := .cells #[] 0) (L := fun s listed a => s = none ∧ Region.seqB .any l.toArray (l.length - n) n listed = true ∧ a = A) (F := 0)
    (fin := fun listed => Region.seqB .any l.toArray (l.length - n) n listed) (Q := fun a => a = A) hmk hsel (Nat.le_refl _) (fun d hd => by cases hd) hs hc (by simpa using hn) (fun s listed a h => seqB_ready h.2.1)
    (fun listed a _ hf hq => ⟨rfl, hf, hq⟩) (l.take n) 0 (Array.replicate l.length false) a (fun j hj => by
      rw [htl] at hj
      simp [hj]) (by simpa using htl) (inv0 l n) (by rw [htl]; exact hlex) (sure_of_quiet (Q := fun a => a = A) rfl _ _ hd h)
  have S := any_sound (P := P) (Q' := Q) (g := l.length - n) hmk (fun s listed a u hu hl => by
    obtain ⟨rfl, hq, rfl⟩ := hl
    obtain ⟨x, rfl⟩ := hu
    have := wpAny_of_seq (md := .any) (Q' := Q) (ops := l.toArray) (l.drop n) n listed a (grow w x) (fun j => by simp [List.getElem?_drop]) (by simpa using hq) (ht x)
    simpa using this) _ _ _ _ _ hu H
  rw [htl, show n + 0 + (l.length - n) = l.length by omega] at S
  simpa using S
end
end Go.Proofs.Ytpaehkjnefgaiaa
namespace Go.Proofs.Ytpaehkjnefgaiaa
open Go.RowKit
set_option linter.unusedVariables false
set_option linter.unusedSimpArgs false
theorem setRow_alloc_past (w : World) (o : Obj) (n : Nat) (cs : Array Value) (hn : n < w.heap.size) : (w.alloc o).setRow n cs = (w.setRow n cs).alloc o := by
  unfold World.setRow World.alloc
  congr 1
  apply Array.ext_getElem?
  intro k
  simp only [Array.getElem?_modify, Array.getElem?_push, Array.size_modify]
  by_cases hk : k = w.heap.size
  · subst hk; simp [Nat.ne_of_lt hn]
  · by_cases hn' : n = k <;> simp [hk, hn']
theorem setRow_alloc_at (w : World) (c cs : Array Value) (t : TypeId) (n : Nat) (hn : n = w.heap.size) : (w.alloc (.cells c t)).setRow n cs = w.alloc (.cells cs t) := by
  subst hn; exact World.setRow_alloc_new w c cs t
attribute [go_sem] setRow_alloc_past setRow_alloc_at
/-! what a block holds -/
theorem bel_setRow {a w : World} (h : Below a.heap.size a w) {n : Nat} (hn : a.heap.size ≤ n) (cs : Array Value) : Below a.heap.size a (w.setRow n cs) :=
  h.trans ⟨rfl, rfl, rfl, by simp, fun k hk => setRow_other w n k cs (by omega)⟩
/-- One operation by an equation of its own. -/
theorem wpList_val {P : Program} {ops : Array Oper} {rest : List Oper} {o : Oper} {a : Act} {w : World} {Q : Exit → Act → World → Prop} (hg : o.guard = none) (v : Value) (w' : World)
    (hrun : (execOp a.eval o).run P w = .ok (.value v) w') (h : wpList P ops Q rest (a.put o.dst v) w') : wpList P ops Q (o :: rest) a w :=
  wpList_plain hg fun _ hK => by
    unfold Oper.wp
    rw [hrun]
    exact hK _ _ h
end Go.Proofs.Ytpaehkjnefgaiaa
