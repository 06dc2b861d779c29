/- Arguments opened down to their single cells, whatever their structs and arrays. No program is imported. An argument that is a text. An argument that is an int. Calls that answer a value and leave what was there as it was: one word for their contracts, and what a region of such calls comes to. No program is imported. Layer 13, in numbers: the spots and the triangles over a square, as lists. Layer 13, in numbers: the edges of the triangles, each gone along once. -/
import Derived.ProofKit
import Derived.OpenShut
import Derived.Deep.Slices
import Derived.ChangeMaps5
import Derived.Below
import Derived.Deep.Draws
import Derived.Deep.QuietTactic
import Derived.BigQuiet
import Derived.WalkKit
import Derived.WalkLawsBesides
import Derived.Lib.Hide
import Derived.Laws.Rows
import Derived.Test.YtpdnaceggpdleaaProg
namespace Go.Proofs.Ytpdnaceggpdleaa
open Go.ChangeShapes Go.WideShapes Go.ChangeAt Go.RowKit
set_option linter.unusedVariables false
set_option linter.unusedSimpArgs false
/-- The single cells of a type: where each lies, and its type. -/
def leavesAt (P : Program) : Nat → Nat → TypeId → List (Nat × TypeId)
  | 0, _, _ => []
  | f + 1, off, t => match P.underlying t with
    | some (.struct fs) => fs.toList.flatMap fun fd => leavesAt P f (off + fd.offset) fd.type
    | some (.array n e) => (List.range n).flatMap fun i => leavesAt P f (off + i * P.cellsOf e) e
    | _ => [(off, t)]
section
variable {H : Type} {enc : TypeId × Value → H} {P : Program} {w : World} {base : Nat} {spare : Nat → Bool} {held : Bool}
theorem trod_single {fuel : Nat} {t : TypeId} {cs : List Value} {x : DataW H × List MemPlace} (h : DataW.trod enc P w base spare held fuel t cs = some x) (hs : ∀ fs, P.underlying t ≠ some (.struct fs)) (ha : ∀ n e, P.underlying t ≠ some (.array n e)) : ∃ c, cs = [c] := by
  cases fuel with
  | zero => simp [DataW.trod] at h
  | succ n =>
    unfold DataW.trod at h
    split at h <;> first | exact ⟨_, rfl⟩ | (rename_i hu; first | exact absurd hu (hs _) | exact absurd hu (ha _ _)) | cases h
theorem leaf_trod : ∀ (f : Nat) (t : TypeId) (off0 o : Nat) (lt : TypeId), (o, lt) ∈ leavesAt P f off0 t → ∀ (n : Nat) (cs : List Value) (x : DataW H × List MemPlace), DataW.trod enc P w base spare held n t cs = some x →
    off0 ≤ o ∧ ∃ c m y, cs[o - off0]? = some c ∧ DataW.trod enc P w base spare held m lt [c] = some y
  | 0, _, _, _, _, h, _, _, _, _ => by simp [leavesAt] at h
  | f + 1, t, off0, o, lt, h, n, cs, x, hx => by
    unfold leavesAt at h
    split at h
    · rename_i fs hu
      obtain ⟨fd, hfd, hm⟩ := List.mem_flatMap.1 h
      obtain ⟨ys, n', _, _, hlen, hyl, hf⟩ := DataW.trod_struct hu hx
      obtain ⟨j, hj⟩ := List.getElem?_of_mem hfd
      have hj' : fs[j]? = some fd := by simpa using hj
      have h1 := hf j fd hj'
      have hjl : j < ys.length := by rw [hyl]; exact (Array.getElem?_eq_some_iff.1 hj').1
      rw [List.getElem?_eq_getElem hjl] at h1
      obtain ⟨hle, c, m, y, hc, hy⟩ := leaf_trod f fd.type (off0 + fd.offset) o lt hm _ _ _ h1
      refine ⟨by omega, c, m, y, ?_, hy⟩
      rw [List.getElem?_take] at hc
      split at hc
      · rw [List.getElem?_drop] at hc
        rw [← hc]; congr 1; omega
      · cases hc
    · rename_i k e hu
      obtain ⟨i, hi, hm⟩ := List.mem_flatMap.1 h
      rw [List.mem_range] at hi
      obtain ⟨ys, n', _, _, hlen, hyl, hf⟩ := DataW.trod_array hu hx
      have h1 := hf i hi
      have hjl : i < ys.length := by rw [hyl]; exact hi
      rw [List.getElem?_eq_getElem hjl] at h1
      obtain ⟨hle, c, m, y, hc, hy⟩ := leaf_trod f e (off0 + i * P.cellsOf e) o lt hm _ _ _ h1
      refine ⟨by omega, c, m, y, ?_, hy⟩
      rw [List.getElem?_take] at hc
      split at hc
      · rw [List.getElem?_drop] at hc
        rw [← hc]; congr 1; omega
      · cases hc
    · rename_i hs ha
      simp only [List.mem_singleton, Prod.mk.injEq] at h
      obtain ⟨rfl, rfl⟩ := h
      obtain ⟨c, rfl⟩ := trod_single hx (fun fs hu => hs fs hu) (fun k e hu => ha k e hu)
      exact ⟨Nat.le_refl _, c, n, x, by simp, hx⟩
/-- All cells whole numbers of 64 bits. -/
theorem ints_trod {t ti : TypeId} {f k n : Nat} {cs : List Value} {x : DataW H × List MemPlace} (hl : leavesAt P f 0 t = (List.range k).map fun i => (i, ti)) (hti : P.underlying ti = some (.int .i64)) (hk : cs.length = k)
    (h : DataW.trod enc P w base spare held n t cs = some x) : ∃ g : Nat → Int, cs = (List.range k).map (fun i => .int .i64 (g i)) ∧ ∀ i, i < k → -9223372036854775808 ≤ g i ∧ g i ≤ 9223372036854775807 := by
  have each : ∀ i, i < k → ∃ a : Int, cs[i]? = some (.int .i64 a) ∧ (-9223372036854775808 ≤ a ∧ a ≤ 9223372036854775807) := fun i hi => by
    obtain ⟨_, c, m, y, hc, hy⟩ := leaf_trod f t 0 i ti (by rw [hl]; exact List.mem_map.2 ⟨i, List.mem_range.2 hi, rfl⟩) n cs x h
    obtain ⟨a, e0, _, wa⟩ := DataW.trod_int hti hy
    simp at e0
    subst e0
    exact ⟨a, by simpa using hc, bounds_i64 wa⟩
  refine ⟨fun i => if h : i < k then Classical.choose (each i h) else 0, ?_, fun i hi => by simp only [hi, dif_pos]; exact (Classical.choose_spec (each i hi)).2⟩
  apply List.ext_getElem?
  intro i
  by_cases hi : i < k
  · rw [(Classical.choose_spec (each i hi)).1]
    simp [hi]
  · rw [List.getElem?_eq_none (by omega), List.getElem?_eq_none (by simp; omega)]
theorem open_ints_agg {r : Reach} {b0 : Nat} {t ti : TypeId} {fs : Array Field} {f k : Nat} {v : Value} {d : DataW H} {p : List MemPlace} (hs : P.underlying t = some (.struct fs)) (hC : P.cellsOf t = k) (hl : leavesAt P f 0 t = (List.range k).map fun i => (i, ti)) (hti : P.underlying ti = some (.int .i64))
    (hv : Value.okWide P w r b0 t v) (h : DataW.Trod enc P w base spare held t v d p) : ∃ g : Nat → Int, v = .agg ((List.range k).map fun i => .int .i64 (g i)).toArray ∧ ∀ i, i < k → -9223372036854775808 ≤ g i ∧ g i ≤ 9223372036854775807 := by
  obtain ⟨cs, rfl, hsz⟩ := okWide_struct hs hv
  obtain ⟨n, hn⟩ := h
  obtain ⟨g, hg, hb⟩ := ints_trod hl hti (by simpa [Value.cells] using hsz.trans hC) hn
  refine ⟨g, ?_, hb⟩
  simp only [Value.cells] at hg
  rw [← hg]
end
end Go.Proofs.Ytpdnaceggpdleaa
namespace Go.Proofs.Ytpdnaceggpdleaa
open Go.RowKit Go.ChangeShapes Go.WideShapes Go.ChangeAt Go.ChangeMaps
set_option linter.unusedVariables false
set_option linter.unusedSimpArgs false
section
variable {H : Type} {enc : TypeId × Value → H} {w : World} {base b0 : Nat} {spare : Nat → Bool} {held : Bool} {v : Value} {d : DataW H} {p : List MemPlace} {r : Reach}
set_option maxRecDepth 100000 in
theorem open_Str (hv : Value.okWide Try.prog w r b0 9 v) (h : DataW.Trod enc Try.prog w base spare held 9 v d p) : ∃ s : ByteArray, v = .string s ∧ s.size ≤ maxLen := by
  obtain ⟨s, e, _, _, hs⟩ := open_string Try.underlying9 hv h
  exact ⟨s, e, hs⟩
end
end Go.Proofs.Ytpdnaceggpdleaa
namespace Go.Proofs.Ytpdnaceggpdleaa
open Go.ChangeShapes Go.WideShapes Go.ChangeAt Go.RowKit
set_option maxRecDepth 100000
set_option linter.unusedVariables false
set_option linter.unusedSimpArgs false
section
variable {H : Type} {enc : TypeId × Value → H} {w : World} {base b0 : Nat} {spare : Nat → Bool} {held : Bool} {v : Value} {d : DataW H} {p : List MemPlace} {r : Reach}
theorem open_int64 (hv : Value.okWide Try.prog w r b0 3 v) (h : DataW.Trod enc Try.prog w base spare held 3 v d p) : ∃ a : Int, v = .int .i64 a ∧ (-9223372036854775808 ≤ a ∧ a ≤ 9223372036854775807) := by
  obtain ⟨a, rfl, _, _, wa⟩ := open_int Try.underlying3 hv h
  exact ⟨a, rfl, bounds_i64 wa⟩
end
end Go.Proofs.Ytpdnaceggpdleaa
namespace Go.Proofs.Ytpdnaceggpdleaa
open Go.RowKit
set_option linter.unusedVariables false
set_option linter.unusedSimpArgs false
variable {P : Program}
/-! what a call leaves as it was, step by step -/
theorem bel_alloc {a w : World} (h : Below a.heap.size a w) (o : Obj) : Below a.heap.size a (w.alloc o) := h.alloc h.size o
theorem bel_trans {a w w' : World} (h : Below a.heap.size a w) (k : Below w.heap.size w w') : Below a.heap.size a w' := h.trans (k.mono h.size)
theorem bel_set {a w : World} (h : Below a.heap.size a w) {p : Addr} (hp : a.heap.size ≤ p.block) (u : Value) : Below a.heap.size a (w.setCell p u) := h.setCell hp u
theorem bel_drewN {a w : World} (h : Below a.heap.size a w) (n : Nat) : Below a.heap.size a (w.drewN n) := ⟨h.os, h.tape, h.output, h.size, h.block⟩
theorem bel_drew {a w : World} (h : Below a.heap.size a w) : Below a.heap.size a w.drew := ⟨h.os, h.tape, h.output, h.size, h.block⟩
/-- A step to a world in which all that was there is as it was. -/
structure More where
  «to» : World → World
  kept : ∀ w, Below w.heap.size w («to» w)
instance more_some : Nonempty More := ⟨⟨fun w => w, fun w => Below.refl _ _⟩⟩
def grow (w : World) (x : More) : World := x.to w
theorem bel_grow {a w : World} (h : Below a.heap.size a w) (x : More) : Below a.heap.size a (grow w x) := bel_trans h (x.kept w)
open Classical in
noncomputable def More.of (w w' : World) (h : Below w.heap.size w w') : More := ⟨fun v => if v = w then w' else v, fun v => by
  by_cases e : v = w
  · rw [if_pos e, e]; exact h
  · rw [if_neg e]; exact Below.refl _ _⟩
theorem grow_mk (w w' : World) (h : Below w.heap.size w w') : grow w (More.of w w' h) = w' := by unfold grow More.of; simp
theorem grow_of {w w' : World} (h : Below w.heap.size w w') : ∃ x, w' = grow w x := ⟨More.of w w' h, (grow_mk w w' h).symm⟩
def More.then (x y : More) : More := ⟨fun w => y.to (x.to w), fun w => bel_trans (x.kept w) (y.kept _)⟩
theorem bel_then {a w : World} {x : More} (h : Below a.heap.size a (grow w x)) (y : More) : Below a.heap.size a (grow w (x.then y)) := bel_grow h y
theorem grow_grow (w : World) (x y : More) : grow (grow w x) y = grow w (x.then y) := rfl
/-- What is behind the blocks that w had: of that nothing is said. -/
def More.top (x : More) (w : World) : Nat := (x.to w).heap.size
def More.cellAt (x : More) (w : World) (n i : Nat) : Option Value := (x.to w).cell? ⟨n, i, none⟩
def More.frozenAt (x : More) (w : World) (n i : Nat) : Bool := (x.to w).frozen? ⟨n, i, none⟩
def More.heapAt (x : More) (w : World) (n : Nat) : Option Obj := (x.to w).heap[n]?
theorem grow_cell (w : World) (x : More) (n i : Nat) : (grow w x).cell? ⟨n, i, none⟩ = if n < w.heap.size then w.cell? ⟨n, i, none⟩ else x.cellAt w n i := by
  split
  · rename_i h; exact (x.kept w).cell (p := ⟨n, i, none⟩) h
  · rfl
theorem grow_frozen (w : World) (x : More) (n i : Nat) : (grow w x).frozen? ⟨n, i, none⟩ = if n < w.heap.size then w.frozen? ⟨n, i, none⟩ else x.frozenAt w n i := by
  split
  · rename_i h; exact (x.kept w).frozen (p := ⟨n, i, none⟩) h
  · rfl
theorem grow_heap (w : World) (x : More) (n : Nat) : (grow w x).heap[n]? = if n < w.heap.size then w.heap[n]? else x.heapAt w n := by
  split
  · rename_i h; exact (x.kept w).block n h
  · rfl
theorem grow_size (w : World) (x : More) : (grow w x).heap.size = x.top w := rfl
theorem top_le (w : World) (x : More) : w.heap.size ≤ x.top w := (x.kept w).size
theorem grow_lt (w : World) (x : More) (n : Nat) : (n < (grow w x).heap.size) = (n < w.heap.size ∨ n < x.top w) := by
  have h : w.heap.size ≤ (x.to w).heap.size := (x.kept w).size
  have e : (grow w x).heap.size = (x.to w).heap.size := rfl
  have e2 : x.top w = (x.to w).heap.size := rfl
  rw [e, e2]
  exact propext ⟨fun h => .inr h, fun h => by omega⟩
theorem grow_lt1 (w : World) (x : More) (n : Nat) : (n < (grow w x).heap.size + 1) = (n < w.heap.size ∨ n < x.top w + 1) := by
  have h : w.heap.size ≤ (x.to w).heap.size := (x.kept w).size
  have e : (grow w x).heap.size = (x.to w).heap.size := rfl
  have e2 : x.top w = (x.to w).heap.size := rfl
  rw [e, e2]
  exact propext ⟨fun h => .inr h, fun h => by omega⟩
theorem grow_lt2 (w : World) (x : More) (n : Nat) : (n < (grow w x).heap.size + 1 + 1) = (n < w.heap.size ∨ n < x.top w + 1 + 1) := by
  have h : w.heap.size ≤ (x.to w).heap.size := (x.kept w).size
  have e : (grow w x).heap.size = (x.to w).heap.size := rfl
  have e2 : x.top w = (x.to w).heap.size := rfl
  rw [e, e2]
  exact propext ⟨fun h => .inr h, fun h => by omega⟩
theorem grow_lt3 (w : World) (x : More) (n : Nat) : (n < (grow w x).heap.size + 1 + 1 + 1) = (n < w.heap.size ∨ n < x.top w + 1 + 1 + 1) := by
  have h : w.heap.size ≤ (x.to w).heap.size := (x.kept w).size
  have e : (grow w x).heap.size = (x.to w).heap.size := rfl
  have e2 : x.top w = (x.to w).heap.size := rfl
  rw [e, e2]
  exact propext ⟨fun h => .inr h, fun h => by omega⟩
theorem grow_lt4 (w : World) (x : More) (n : Nat) : (n < (grow w x).heap.size + 1 + 1 + 1 + 1) = (n < w.heap.size ∨ n < x.top w + 1 + 1 + 1 + 1) := by
  have h : w.heap.size ≤ (x.to w).heap.size := (x.kept w).size
  have e : (grow w x).heap.size = (x.to w).heap.size := rfl
  have e2 : x.top w = (x.to w).heap.size := rfl
  rw [e, e2]
  exact propext ⟨fun h => .inr h, fun h => by omega⟩
theorem grow_lt5 (w : World) (x : More) (n : Nat) : (n < (grow w x).heap.size + 1 + 1 + 1 + 1 + 1) = (n < w.heap.size ∨ n < x.top w + 1 + 1 + 1 + 1 + 1) := by
  have h : w.heap.size ≤ (x.to w).heap.size := (x.kept w).size
  have e : (grow w x).heap.size = (x.to w).heap.size := rfl
  have e2 : x.top w = (x.to w).heap.size := rfl
  rw [e, e2]
  exact propext ⟨fun h => .inr h, fun h => by omega⟩
theorem grow_lt6 (w : World) (x : More) (n : Nat) : (n < (grow w x).heap.size + 1 + 1 + 1 + 1 + 1 + 1) = (n < w.heap.size ∨ n < x.top w + 1 + 1 + 1 + 1 + 1 + 1) := by
  have h : w.heap.size ≤ (x.to w).heap.size := (x.kept w).size
  have e : (grow w x).heap.size = (x.to w).heap.size := rfl
  have e2 : x.top w = (x.to w).heap.size := rfl
  rw [e, e2]
  exact propext ⟨fun h => .inr h, fun h => by omega⟩
theorem grow_lt7 (w : World) (x : More) (n : Nat) : (n < (grow w x).heap.size + 1 + 1 + 1 + 1 + 1 + 1 + 1) = (n < w.heap.size ∨ n < x.top w + 1 + 1 + 1 + 1 + 1 + 1 + 1) := by
  have h : w.heap.size ≤ (x.to w).heap.size := (x.kept w).size
  have e : (grow w x).heap.size = (x.to w).heap.size := rfl
  have e2 : x.top w = (x.to w).heap.size := rfl
  rw [e, e2]
  exact propext ⟨fun h => .inr h, fun h => by omega⟩
theorem grow_lt8 (w : World) (x : More) (n : Nat) : (n < (grow w x).heap.size + 1 + 1 + 1 + 1 + 1 + 1 + 1 + 1) = (n < w.heap.size ∨ n < x.top w + 1 + 1 + 1 + 1 + 1 + 1 + 1 + 1) := by
  have h : w.heap.size ≤ (x.to w).heap.size := (x.kept w).size
  have e : (grow w x).heap.size = (x.to w).heap.size := rfl
  have e2 : x.top w = (x.to w).heap.size := rfl
  rw [e, e2]
  exact propext ⟨fun h => .inr h, fun h => by omega⟩
theorem grow_le (w : World) (x : More) (n : Nat) : (n ≤ (grow w x).heap.size) = (n ≤ w.heap.size ∨ n ≤ x.top w) := by
  have h : w.heap.size ≤ (x.to w).heap.size := (x.kept w).size
  have e : (grow w x).heap.size = (x.to w).heap.size := rfl
  have e2 : x.top w = (x.to w).heap.size := rfl
  rw [e, e2]
  exact propext ⟨fun h => .inr h, fun h => by omega⟩
theorem grow_self1 (w : World) (x : More) : ((grow w x).heap.size < x.top w + 1) = True := eq_true (Nat.lt_succ_self _)
theorem grow_self2 (w : World) (x : More) : ((grow w x).heap.size < x.top w + 1 + 1) = True := eq_true (Nat.lt_succ_of_lt (Nat.lt_succ_self _))
theorem grow_self3 (w : World) (x : More) : ((grow w x).heap.size < x.top w + 1 + 1 + 1) = True := eq_true (Nat.lt_succ_of_lt (Nat.lt_succ_of_lt (Nat.lt_succ_self _)))
attribute [go_sem] grow_self1 grow_self2 grow_self3
attribute [go_sem] grow_grow grow_cell grow_frozen grow_lt grow_le grow_lt1 grow_lt2 grow_lt3 grow_lt4 grow_lt5 grow_lt6 grow_lt7 grow_lt8
/-! a store into a block that was there goes through what grew behind it -/
theorem below_setCell {w v : World} (h : Below w.heap.size w v) (n i : Nat) (u : Value) (hn : n < w.heap.size) : Below (w.setCell ⟨n, i, none⟩ u).heap.size (w.setCell ⟨n, i, none⟩ u) (v.setCell ⟨n, i, none⟩ u) := by
  refine ⟨h.os, h.tape, h.output, by simpa [World.setCell] using h.size, fun k hk => ?_⟩
  have hk' : k < w.heap.size := by simpa [World.setCell] using hk
  simp only [World.setCell, Array.getElem?_modify]
  rw [h.block k hk']
open Classical in
noncomputable def More.setC (x : More) (w : World) (n i : Nat) (u : Value) : More :=
  if h : n < w.heap.size then More.of (w.setCell ⟨n, i, none⟩ u) ((x.to w).setCell ⟨n, i, none⟩ u) (below_setCell (x.kept w) n i u h) else x
theorem grow_setCell (w : World) (x : More) (n i : Nat) (u : Value) (hn : n < w.heap.size) : (grow w x).setCell ⟨n, i, none⟩ u = grow (w.setCell ⟨n, i, none⟩ u) (x.setC w n i u) := by
  unfold More.setC; rw [dif_pos hn, grow_mk]; rfl
theorem below_setRow {w v : World} (h : Below w.heap.size w v) (n : Nat) (cs : Array Value) (hn : n < w.heap.size) : Below (w.setRow n cs).heap.size (w.setRow n cs) (v.setRow n cs) := by
  refine ⟨h.os, h.tape, h.output, by simpa using h.size, fun k hk => ?_⟩
  have hk' : k < w.heap.size := by simpa using hk
  simp only [World.setRow, Array.getElem?_modify]
  rw [h.block k hk']
open Classical in
noncomputable def More.setR (x : More) (w : World) (n : Nat) (cs : Array Value) : More :=
  if h : n < w.heap.size then More.of (w.setRow n cs) ((x.to w).setRow n cs) (below_setRow (x.kept w) n cs h) else x
theorem grow_setRow (w : World) (x : More) (n : Nat) (cs : Array Value) (hn : n < w.heap.size) : (grow w x).setRow n cs = grow (w.setRow n cs) (x.setR w n cs) := by
  unfold More.setR; rw [dif_pos hn, grow_mk]; rfl
attribute [go_sem] grow_setCell grow_setRow
/-- In every world the call answers v, and all that was there is as it was. -/
def Gives (P : Program) (f : FuncId) (args : Array Value) (v : Value) : Prop := ∀ w : World, Calls P f args w fun e w' => e = .returned v ∧ ∃ x, w' = grow w x
theorem Gives.at_ {f : FuncId} {args : Array Value} {v : Value} (h : Gives P f args v) (w : World) : Calls P f args w fun e w' => e = .returned v ∧ ∃ x, w' = grow w x := h w
theorem Gives.mk {f : FuncId} {args : Array Value} {v : Value} (h : ∀ w : World, Calls P f args w fun e w' => e = .returned v ∧ Below w.heap.size w w') : Gives P f args v :=
  fun w => (h w).mono fun _ _ ⟨he, hb⟩ => ⟨he, grow_of hb⟩
theorem Gives.bel {f : FuncId} {args : Array Value} {v : Value} (h : Gives P f args v) (w : World) : Calls P f args w fun e w' => e = .returned v ∧ Below w.heap.size w w' :=
  (h w).mono fun _ _ ⟨he, x, hx⟩ => ⟨he, hx ▸ x.kept w⟩
theorem Gives.quiet {f : FuncId} {args : Array Value} {v : Value} (h : Gives P f args v) {w : World} (x : More) :
    Calls P f args (grow w x) fun e w'' => e = .returned v ∧ ∃ y, w'' = grow w y :=
  (h (grow w x)).mono fun _ _ ⟨he, y, hy⟩ => ⟨he, x.then y, hy⟩
theorem Gives.quiet2 {f : FuncId} {args : Array Value} {v : Value} (h : Gives P f args v) {w : World} (x y : More) :
    Calls P f args (grow w (x.then y)) fun e w'' => e = .returned v ∧ ∃ z, w'' = grow w (x.then z) :=
  (h (grow w (x.then y))).mono fun _ _ ⟨he, z, hz⟩ => ⟨he, y.then z, hz⟩
/-- A region whose operations only read or are such calls: one walk in the order of the text. -/
theorem wp_region_grow {id : Nat} {Q : Exit → Act → World → Prop} {a : Act} {w : World} {l : List Oper} (hm : P.follows .mixedOrders = true) (hB : Region.lexB .any l.toArray = true)
    (h : wpQuiet P l.toArray (fun w' => ∃ x, w' = grow w x) (fun a' => ∀ w', (∃ x, w' = grow w x) → Q .normal a' w') l a) : (Code.region id l.toArray true).wp P Q a w :=
  wp_region_quiet (C := fun w' => ∃ x, w' = grow w x) hm hB (grow_of (bel_drew (Below.refl _ _))) (by simpa using h)
end Go.Proofs.Ytpdnaceggpdleaa
namespace Go.Proofs.Ytpdnaceggpdleaa
set_option linter.unusedVariables false
set_option linter.unusedSimpArgs false
set_option linter.unnecessarySimpa false
abbrev Spt := Int × Int × Int
abbrev Tri := Spt × Spt × Spt
def corS (k : Nat) : Spt := (1, (k : Int), 0)
def edgS (k i : Nat) : Spt := (2, (k : Int), (i : Int))
def innS (a b : Nat) : Spt := (3, (a : Int), (b : Int))
def outS (k r i : Nat) : Spt := if i = 0 then corS k else if i = r then corS ((k + 1) % 4) else edgS k i
def besS (k t R : Nat) : Spt := if k = 0 then innS t 1 else if k = 1 then innS (R - 1) t else if k = 2 then innS (R - t) (R - 1) else innS 1 (R - t)
/-- What a loop makes, in n rounds. -/
def upTo {α : Type} (f : Nat → List α) : Nat → List α
  | 0 => []
  | n + 1 => upTo f n ++ f n
def mxR (r : Nat → Nat) : Nat → Nat
  | 0 => 0
  | k + 1 => max (mxR r k) (r k)
def corsS (n : Nat) : List Spt := upTo (fun k => [corS k]) n
def edgeS (k m : Nat) : List Spt := upTo (fun i => [edgS k (i + 1)]) m
def edgesS (r : Nat → Nat) (n : Nat) : List Spt := upTo (fun k => edgeS k (r k - 1)) n
def rowS (b m : Nat) : List Spt := upTo (fun a => [innS (a + 1) (b + 1)]) m
def rowsS (R n : Nat) : List Spt := upTo (fun b => rowS b (R - 1)) n
def spotsR (r : Nat → Nat) (R : Nat) : List Spt := corsS 4 ++ edgesS r 4 ++ rowsS R (R - 1)
def sqS (p q x y : Spt) : List Tri := [(p, q, x), (p, x, y)]
def sqA (a b : Nat) : List Tri := sqS (innS a b) (innS (a + 1) b) (innS (a + 1) (b + 1)) (innS a (b + 1))
def sqRow (b m : Nat) : List Tri := upTo (fun a => sqA (a + 1) (b + 1)) m
def sqRows (R n : Nat) : List Tri := upTo (fun b => sqRow b (R - 2)) n
def goA (r R i t : Nat) : Prop := i < r ∧ (t = R - 1 ∨ (2 * i + 1) * R ≤ (2 * t + 1) * r)
instance (r R i t : Nat) : Decidable (goA r R i t) := by unfold goA; infer_instance
def stpS (k r R : Nat) : Nat → Nat → Nat → List Tri
  | 0, _, _ => []
  | n + 1, i, t => if goA r R i t then (outS k r i, outS k r (i + 1), besS k t R) :: stpS k r R n (i + 1) t
      else (outS k r i, besS k (t + 1) R, besS k t R) :: stpS k r R n i (t + 1)
def leftS (r R i t : Nat) : Nat := (r - i) + (R - 1 - t)
def stripS (k r R : Nat) : List Tri := stpS k r R (leftS r R 0 1) 0 1
def stripsS (r : Nat → Nat) (R n : Nat) : List Tri := upTo (fun k => stripS k (r k) R) n
def trisR (r : Nat → Nat) (R : Nat) : List Tri := if R = 1 then sqS (corS 0) (corS 1) (corS 2) (corS 3) else sqRows R (R - 2) ++ stripsS r R 4
theorem stp_A {k r R i t : Nat} (h : goA r R i t) : stpS k r R (leftS r R i t) i t = (outS k r i, outS k r (i + 1), besS k t R) :: stpS k r R (leftS r R (i + 1) t) (i + 1) t := by
  have e : leftS r R i t = leftS r R (i + 1) t + 1 := by have := h.1; unfold leftS; omega
  rw [e]
  exact if_pos h
theorem stp_B {k r R i t : Nat} (h : ¬ goA r R i t) (ht : t < R - 1) : stpS k r R (leftS r R i t) i t = (outS k r i, besS k (t + 1) R, besS k t R) :: stpS k r R (leftS r R i (t + 1)) i (t + 1) := by
  have e : leftS r R i t = leftS r R i (t + 1) + 1 := by unfold leftS; omega
  rw [e]
  exact if_neg h
/-- Without the last of the loop's test: where neither goes on, both are at their ends. -/
theorem goA_end {r R i t : Nat} (h : ¬ goA r R i t) (hl : i < r ∨ t < R - 1) (ht : t ≤ R - 1) : t < R - 1 := by
  unfold goA at h
  omega
theorem mem_upTo {α : Type} {f : Nat → List α} {x : α} : ∀ {n : Nat}, x ∈ upTo f n ↔ ∃ i, i < n ∧ x ∈ f i
  | 0 => by simp [upTo]
  | n + 1 => by
    simp only [upTo, List.mem_append, mem_upTo]
    constructor
    · rintro (⟨i, h1, h2⟩ | h)
      · exact ⟨i, by omega, h2⟩
      · exact ⟨n, by omega, h⟩
    · rintro ⟨i, h1, h2⟩
      by_cases e : i = n
      · subst e; exact .inr h2
      · exact .inl ⟨i, by omega, h2⟩
theorem upTo_map {α β : Type} {f : Nat → List α} {g : α → List β} : ∀ n : Nat, (upTo f n).flatMap g = upTo (fun i => (f i).flatMap g) n
  | 0 => rfl
  | n + 1 => by simp only [upTo, List.flatMap_append, upTo_map n]
theorem upTo_nodup {α : Type} {f : Nat → List α} : ∀ {n : Nat}, (∀ i, i < n → (f i).Nodup) → (∀ i j, i < j → j < n → ∀ x, x ∈ f i → x ∈ f j → False) → (upTo f n).Nodup
  | 0, _, _ => List.nodup_nil
  | n + 1, h1, h2 => by
    show (upTo f n ++ f n).Nodup
    rw [List.nodup_append]
    refine ⟨upTo_nodup (fun i hi => h1 i (by omega)) (fun i j hi hj => h2 i j hi (by omega)), h1 n (by omega), fun x hx y hy e => ?_⟩
    subst e
    obtain ⟨i, hi, hm⟩ := mem_upTo.1 hx
    exact h2 i n hi (by omega) x hm hy
theorem upTo_len {α : Type} {f : Nat → List α} {c : Nat} : ∀ n : Nat, (∀ i, i < n → (f i).length = c) → (upTo f n).length = n * c
  | 0, _ => by simp [upTo]
  | n + 1, h => by
    show (upTo f n ++ f n).length = _
    rw [List.length_append, upTo_len n (fun i hi => h i (by omega)), h n (by omega), Nat.add_mul, Nat.one_mul]
/-! Where a spot is in a list. -/
def nof : List Spt → Spt → Nat
  | [], _ => 0
  | q :: l, s => if q = s then 0 else nof l s + 1
theorem nof_lt : ∀ {l : List Spt} {s : Spt}, s ∈ l → nof l s < l.length
  | q :: l, s, h => by
    unfold nof
    split
    · simp
    · rename_i e
      have : s ∈ l := by
        rcases List.mem_cons.1 h with h | h
        · exact absurd h.symm e
        · exact h
      have := nof_lt this
      simpa using this
theorem nof_get : ∀ {l : List Spt} {s : Spt}, s ∈ l → l[nof l s]? = some s
  | q :: l, s, h => by
    unfold nof
    split
    · rename_i e; simp [e]
    · rename_i e
      have : s ∈ l := by
        rcases List.mem_cons.1 h with h | h
        · exact absurd h.symm e
        · exact h
      simpa using nof_get this
theorem nof_inj {l : List Spt} {s u : Spt} (hs : s ∈ l) (hu : u ∈ l) (h : nof l s = nof l u) : s = u := by
  have h1 := nof_get hs
  rw [h, nof_get hu] at h1
  exact (Option.some.inj h1).symm
theorem nof_app : ∀ {l m : List Spt} {s : Spt}, s ∈ l → nof (l ++ m) s = nof l s
  | q :: l, m, s, h => by
    show nof (q :: (l ++ m)) s = _
    unfold nof
    split
    · rfl
    · rename_i e
      have : s ∈ l := by
        rcases List.mem_cons.1 h with h | h
        · exact absurd h.symm e
        · exact h
      rw [nof_app this]
theorem nof_snoc : ∀ {l : List Spt} {s : Spt}, s ∉ l → nof (l ++ [s]) s = l.length
  | [], s, _ => by simp [nof]
  | q :: l, s, h => by
    show nof (q :: (l ++ [s])) s = _
    unfold nof
    rw [if_neg (by rintro rfl; exact h List.mem_cons_self), nof_snoc (fun h2 => h (List.mem_cons_of_mem _ h2))]
    simp
theorem nof_at : ∀ {l : List Spt} {i : Nat} {s : Spt}, l.Nodup → l[i]? = some s → nof l s = i
  | [], i, s, _, h => by simp at h
  | q :: l, 0, s, _, h => by
    simp at h; simp [nof, h]
  | q :: l, i + 1, s, hn, h => by
    rw [List.nodup_cons] at hn
    have h : l[i]? = some s := by simpa using h
    unfold nof
    rw [if_neg, nof_at hn.2 h]
    rintro rfl
    exact hn.1 (List.mem_of_getElem? h)
/-! The spots: each once. -/
theorem mem_spots {r : Nat → Nat} {R : Nat} {s : Spt} : s ∈ spotsR r R ↔ (∃ k, k < 4 ∧ s = corS k) ∨ (∃ k i, k < 4 ∧ 1 ≤ i ∧ i < r k ∧ s = edgS k i) ∨ (∃ a b, 1 ≤ a ∧ a < R ∧ 1 ≤ b ∧ b < R ∧ s = innS a b) := by
  unfold spotsR corsS edgesS edgeS rowsS rowS
  simp only [List.mem_append, mem_upTo, List.mem_singleton]
  constructor
  · rintro ((⟨k, h1, h2⟩ | ⟨k, h1, i, h2, h3⟩) | ⟨b, h1, a, h2, h3⟩)
    · exact .inl ⟨k, h1, h2⟩
    · exact .inr (.inl ⟨k, i + 1, h1, by omega, by omega, h3⟩)
    · exact .inr (.inr ⟨a + 1, b + 1, by omega, by omega, by omega, by omega, h3⟩)
  · rintro (⟨k, h1, h2⟩ | ⟨k, i, h1, h2, h3, h4⟩ | ⟨a, b, h1, h2, h3, h4, h5⟩)
    · exact .inl (.inl ⟨k, h1, h2⟩)
    · exact .inl (.inr ⟨k, h1, i - 1, by omega, by rw [show i - 1 + 1 = i by omega]; exact h4⟩)
    · exact .inr ⟨b - 1, by omega, a - 1, by omega, by rw [show a - 1 + 1 = a by omega, show b - 1 + 1 = b by omega]; exact h5⟩
theorem corS_inj {j k : Nat} (h : corS j = corS k) : j = k := by
  unfold corS at h; simp only [Prod.mk.injEq] at h; omega
theorem edgS_inj {j k i l : Nat} (h : edgS j i = edgS k l) : j = k ∧ i = l := by
  unfold edgS at h; simp only [Prod.mk.injEq] at h; omega
theorem innS_inj {j k i l : Nat} (h : innS j i = innS k l) : j = k ∧ i = l := by
  unfold innS at h; simp only [Prod.mk.injEq] at h; omega
theorem one_nodup {α : Type} (x : α) : [x].Nodup := by simp
theorem cors_nodup (n : Nat) : (corsS n).Nodup := upTo_nodup (fun i _ => one_nodup _) (fun i j h _ x hx hy => by
  rw [List.mem_singleton] at hx hy
  rw [hx] at hy
  have := corS_inj hy
  omega)
theorem edge_nodup (k m : Nat) : (edgeS k m).Nodup := upTo_nodup (fun i _ => one_nodup _) (fun i j h _ x hx hy => by
  rw [List.mem_singleton] at hx hy
  rw [hx] at hy
  have := edgS_inj hy
  omega)
theorem edges_nodup (r : Nat → Nat) (n : Nat) : (edgesS r n).Nodup := upTo_nodup (fun i _ => edge_nodup _ _) (fun i j h _ x hx hy => by
  unfold edgeS at hx hy
  obtain ⟨u, _, hx⟩ := mem_upTo.1 hx
  obtain ⟨v, _, hy⟩ := mem_upTo.1 hy
  rw [List.mem_singleton] at hx hy
  rw [hx] at hy
  have := edgS_inj hy
  omega)
theorem row_nodup (b m : Nat) : (rowS b m).Nodup := upTo_nodup (fun i _ => one_nodup _) (fun i j h _ x hx hy => by
  rw [List.mem_singleton] at hx hy
  rw [hx] at hy
  have := innS_inj hy
  omega)
theorem rows_nodup (R n : Nat) : (rowsS R n).Nodup := upTo_nodup (fun i _ => row_nodup _ _) (fun i j h _ x hx hy => by
  unfold rowS at hx hy
  obtain ⟨u, _, hx⟩ := mem_upTo.1 hx
  obtain ⟨v, _, hy⟩ := mem_upTo.1 hy
  rw [List.mem_singleton] at hx hy
  rw [hx] at hy
  have := innS_inj hy
  omega)
theorem spots_nodup (r : Nat → Nat) (R : Nat) : (spotsR r R).Nodup := by
  unfold spotsR
  rw [List.nodup_append, List.nodup_append]
  refine ⟨⟨cors_nodup 4, edges_nodup r 4, fun x hx y hy e => ?_⟩, rows_nodup R _, fun x hx y hy e => ?_⟩
  · subst e
    unfold corsS at hx
    unfold edgesS edgeS at hy
    obtain ⟨u, _, hx⟩ := mem_upTo.1 hx
    obtain ⟨v, _, hy⟩ := mem_upTo.1 hy
    obtain ⟨z, _, hy⟩ := mem_upTo.1 hy
    rw [List.mem_singleton] at hx hy
    rw [hx] at hy
    unfold corS edgS at hy
    simp at hy
  · subst e
    unfold rowsS rowS at hy
    obtain ⟨v, _, hy⟩ := mem_upTo.1 hy
    obtain ⟨z, _, hy⟩ := mem_upTo.1 hy
    rw [List.mem_singleton] at hy
    subst hy
    rcases List.mem_append.1 hx with hx | hx
    · unfold corsS at hx
      obtain ⟨u, _, hx⟩ := mem_upTo.1 hx
      rw [List.mem_singleton] at hx
      unfold corS innS at hx
      simp at hx
    · unfold edgesS edgeS at hx
      obtain ⟨u, _, hx⟩ := mem_upTo.1 hx
      obtain ⟨z, _, hx⟩ := mem_upTo.1 hx
      rw [List.mem_singleton] at hx
      unfold edgS innS at hx
      simp at hx
theorem cors_len (n : Nat) : (corsS n).length = n := by
  have := upTo_len (f := fun k => [corS k]) (c := 1) n (fun i _ => rfl)
  unfold corsS; omega
theorem edge_len (k m : Nat) : (edgeS k m).length = m := by
  have := upTo_len (f := fun i => [edgS k (i + 1)]) (c := 1) m (fun i _ => rfl)
  unfold edgeS; omega
theorem row_len (b m : Nat) : (rowS b m).length = m := by
  have := upTo_len (f := fun a => [innS (a + 1) (b + 1)]) (c := 1) m (fun i _ => rfl)
  unfold rowS; omega
theorem rows_len (R n : Nat) : (rowsS R n).length = n * (R - 1) := upTo_len n (fun i _ => row_len i _)
theorem spots_len (r : Nat → Nat) (R : Nat) (h : ∀ k, k < 4 → 1 ≤ r k) : (spotsR r R).length = r 0 + r 1 + r 2 + r 3 + (R - 1) * (R - 1) := by
  unfold spotsR
  rw [List.length_append, List.length_append, cors_len, rows_len]
  unfold edgesS upTo upTo upTo upTo upTo
  simp only [List.length_append, edge_len, List.length_nil]
  have := h 0 (by omega)
  have := h 1 (by omega)
  have := h 2 (by omega)
  have := h 3 (by omega)
  omega
theorem stp_len (k r R : Nat) : ∀ n i t, (stpS k r R n i t).length = n
  | 0, i, t => rfl
  | n + 1, i, t => by
    unfold stpS
    split
    · simp [stp_len k r R n]
    · simp [stp_len k r R n]
theorem strip_len (k r R : Nat) : (stripS k r R).length = r + (R - 2) := by
  unfold stripS
  rw [stp_len]
  unfold leftS
  omega
theorem sqRow_len (b m : Nat) : (sqRow b m).length = m * 2 := upTo_len m (fun i _ => rfl)
theorem sqRows_len (R n : Nat) : (sqRows R n).length = n * ((R - 2) * 2) := upTo_len n (fun i _ => sqRow_len i _)
theorem tris_len (r : Nat → Nat) (R : Nat) (h1 : 2 ≤ R) : (trisR r R).length = (R - 2) * ((R - 2) * 2) + (r 0 + r 1 + r 2 + r 3 + 4 * (R - 2)) := by
  unfold trisR
  rw [if_neg (by omega), List.length_append, sqRows_len]
  unfold stripsS upTo upTo upTo upTo upTo
  simp only [List.length_append, strip_len, List.length_nil]
  omega
end Go.Proofs.Ytpdnaceggpdleaa
namespace Go.Proofs.Ytpdnaceggpdleaa
set_option linter.unusedVariables false
set_option linter.unusedSimpArgs false
set_option linter.unnecessarySimpa false
abbrev Edg := Spt × Spt
def edsS (t : Tri) : List Edg := [(t.1, t.2.1), (t.2.1, t.2.2), (t.2.2, t.1)]
theorem cor_out0 (k r : Nat) : outS k r 0 = corS k := rfl
theorem out_end {k r : Nat} (hr : 1 ≤ r) : outS k r r = corS ((k + 1) % 4) := by
  unfold outS; rw [if_neg (by omega), if_pos rfl]
theorem out_mid {k r i : Nat} (h1 : 1 ≤ i) (h2 : i < r) : outS k r i = edgS k i := by
  unfold outS; rw [if_neg (by omega), if_neg (by omega)]
/-- A side's spots as triples of numbers: each of three cases. -/
theorem out_cases {k r i : Nat} (hr : 1 ≤ r) (hi : i ≤ r) : (i = 0 ∧ outS k r i = (1, (k : Int), 0)) ∨ (i = r ∧ outS k r i = (1, (((k + 1) % 4 : Nat) : Int), 0)) ∨ (1 ≤ i ∧ i < r ∧ outS k r i = (2, (k : Int), (i : Int))) := by
  by_cases h : i = 0
  · subst h; exact .inl ⟨rfl, rfl⟩
  · by_cases h2 : i = r
    · subst h2; exact .inr (.inl ⟨rfl, out_end hr⟩)
    · exact .inr (.inr ⟨by omega, by omega, out_mid (by omega) (by omega)⟩)
theorem out_ne_inn {k r i a b : Nat} : outS k r i ≠ innS a b := by
  unfold outS corS edgS innS
  split
  · simp
  · split <;> simp
theorem bes_inn (k t R : Nat) : ∃ a b, besS k t R = innS a b := by
  unfold besS
  split
  · exact ⟨_, _, rfl⟩
  · split
    · exact ⟨_, _, rfl⟩
    · split <;> exact ⟨_, _, rfl⟩
theorem out_ne_bes {k r i j t R : Nat} : outS k r i ≠ besS j t R := by
  obtain ⟨a, b, e⟩ := bes_inn j t R
  rw [e]; exact out_ne_inn
theorem bes_ne_out {k r i j t R : Nat} : besS j t R ≠ outS k r i := fun h => out_ne_bes h.symm
theorem out_inj {k r i j : Nat} (hr : 1 ≤ r) (hk : k < 4) (hi : i ≤ r) (hj : j ≤ r) (h : outS k r i = outS k r j) : i = j := by
  rcases out_cases (k := k) hr hi with ⟨h1, e1⟩ | ⟨h1, e1⟩ | ⟨h1, h1', e1⟩ <;> rcases out_cases (k := k) hr hj with ⟨h2, e2⟩ | ⟨h2, e2⟩ | ⟨h2, h2', e2⟩ <;> rw [e1, e2] at h <;> simp only [Prod.mk.injEq] at h <;> omega
theorem bes_inj {k t u R : Nat} (ht : t ≤ R) (hu : u ≤ R) (h : besS k t R = besS k u R) : t = u := by
  unfold besS innS at h
  split at h
  · simp only [Prod.mk.injEq] at h; omega
  · split at h
    · simp only [Prod.mk.injEq] at h; omega
    · split at h
      · simp only [Prod.mk.injEq] at h; omega
      · simp only [Prod.mk.injEq] at h; omega
theorem fst_ob {k r i j t R : Nat} {x y : Spt} (h : (outS k r i, x) = (besS j t R, y)) : False := out_ne_bes (congrArg Prod.fst h)
theorem snd_ob {k r i j t R : Nat} {x y : Spt} (h : (x, outS k r i) = (y, besS j t R)) : False := out_ne_bes (congrArg Prod.snd h)
theorem fst_bo {k r i j t R : Nat} {x y : Spt} (h : (besS j t R, x) = (outS k r i, y)) : False := bes_ne_out (congrArg Prod.fst h)
theorem snd_bo {k r i j t R : Nat} {x y : Spt} (h : (x, besS j t R) = (y, outS k r i)) : False := bes_ne_out (congrArg Prod.snd h)
/-- The edges of a strip from the state i, t on. -/
def InO (k r i : Nat) (e : Edg) : Prop := ∃ j, i ≤ j ∧ j < r ∧ e = (outS k r j, outS k r (j + 1))
def InI (k R t : Nat) (e : Edg) : Prop := ∃ u, t ≤ u ∧ u < R - 1 ∧ e = (besS k (u + 1) R, besS k u R)
def InU (k r R i t : Nat) (e : Edg) : Prop := ∃ j u, i ≤ j ∧ t ≤ u ∧ j ≤ r ∧ u ≤ R - 1 ∧ j + u < r + (R - 1) ∧ e = (besS k u R, outS k r j)
def InD (k r R i t : Nat) (e : Edg) : Prop := ∃ j u, i ≤ j ∧ t ≤ u ∧ j ≤ r ∧ u ≤ R - 1 ∧ i + t < j + u ∧ e = (outS k r j, besS k u R)
def InS (k r R i t : Nat) (e : Edg) : Prop := InO k r i e ∨ InI k R t e ∨ InU k r R i t e ∨ InD k r R i t e
def bck (e : Edg) : Edg := (e.2, e.1)
theorem not_goA {r R i t : Nat} (h : ¬ goA r R i t) (hi : i ≤ r) (ht : t ≤ R - 1) {n : Nat} (hn : leftS r R i t = n + 1) : t < R - 1 := by
  unfold leftS at hn
  exact goA_end h (by omega) ht
theorem left_A {r R i t n : Nat} (h : goA r R i t) (hn : leftS r R i t = n + 1) : leftS r R (i + 1) t = n ∧ i + 1 ≤ r := by
  have := h.1; unfold leftS at *; omega
theorem left_B {r R i t n : Nat} (h : t < R - 1) (hn : leftS r R i t = n + 1) : leftS r R i (t + 1) = n ∧ t + 1 ≤ R - 1 := by
  unfold leftS at *; omega
theorem eds_A (k r R i t : Nat) (l : List Tri) : ((outS k r i, outS k r (i + 1), besS k t R) :: l).flatMap edsS = (outS k r i, outS k r (i + 1)) :: (outS k r (i + 1), besS k t R) :: (besS k t R, outS k r i) :: l.flatMap edsS := rfl
theorem eds_B (k r R i t : Nat) (l : List Tri) : ((outS k r i, besS k (t + 1) R, besS k t R) :: l).flatMap edsS = (outS k r i, besS k (t + 1) R) :: (besS k (t + 1) R, besS k t R) :: (besS k t R, outS k r i) :: l.flatMap edsS := rfl
theorem stp_in (k r R : Nat) (hr : 1 ≤ r) (hk : k < 4) : ∀ n i t, i ≤ r → t ≤ R - 1 → leftS r R i t = n → ∀ e, e ∈ (stpS k r R n i t).flatMap edsS → InS k r R i t e
  | 0, i, t, _, _, _, e, he => by simp [stpS] at he
  | n + 1, i, t, hi, ht, hn, e, he => by
    unfold stpS at he
    by_cases hg : goA r R i t
    · rw [if_pos hg, eds_A] at he
      obtain ⟨h1, h2⟩ := left_A hg hn
      simp only [List.mem_cons] at he
      rcases he with he | he | he | he
      · exact .inl ⟨i, by omega, by omega, he⟩
      · exact .inr (.inr (.inr ⟨i + 1, t, by omega, by omega, by omega, by omega, by omega, he⟩))
      · exact .inr (.inr (.inl ⟨i, t, by omega, by omega, by omega, by omega, by omega, he⟩))
      · rcases stp_in k r R hr hk n (i + 1) t h2 ht h1 e he with ⟨j, a1, a2, a3⟩ | ⟨u, a1, a2, a3⟩ | ⟨j, u, a1, a2, a3, a4, a5, a6⟩ | ⟨j, u, a1, a2, a3, a4, a5, a6⟩
        · exact .inl ⟨j, by omega, a2, a3⟩
        · exact .inr (.inl ⟨u, by omega, a2, a3⟩)
        · exact .inr (.inr (.inl ⟨j, u, by omega, by omega, a3, a4, a5, a6⟩))
        · exact .inr (.inr (.inr ⟨j, u, by omega, by omega, a3, a4, by omega, a6⟩))
    · rw [if_neg hg, eds_B] at he
      have hlt := not_goA hg hi ht hn
      obtain ⟨h1, h2⟩ := left_B hlt hn
      simp only [List.mem_cons] at he
      rcases he with he | he | he | he
      · exact .inr (.inr (.inr ⟨i, t + 1, by omega, by omega, by omega, by omega, by omega, he⟩))
      · exact .inr (.inl ⟨t, by omega, by omega, he⟩)
      · exact .inr (.inr (.inl ⟨i, t, by omega, by omega, by omega, by omega, by omega, he⟩))
      · rcases stp_in k r R hr hk n i (t + 1) hi h2 h1 e he with ⟨j, a1, a2, a3⟩ | ⟨u, a1, a2, a3⟩ | ⟨j, u, a1, a2, a3, a4, a5, a6⟩ | ⟨j, u, a1, a2, a3, a4, a5, a6⟩
        · exact .inl ⟨j, by omega, a2, a3⟩
        · exact .inr (.inl ⟨u, by omega, a2, a3⟩)
        · exact .inr (.inr (.inl ⟨j, u, by omega, by omega, a3, a4, a5, a6⟩))
        · exact .inr (.inr (.inr ⟨j, u, by omega, by omega, a3, a4, by omega, a6⟩))
theorem stp_nodup (k r R : Nat) (hr : 1 ≤ r) (hk : k < 4) : ∀ n i t, i ≤ r → t ≤ R - 1 → leftS r R i t = n → ((stpS k r R n i t).flatMap edsS).Nodup
  | 0, i, t, _, _, _ => by simp [stpS]
  | n + 1, i, t, hi, ht, hn => by
    unfold stpS
    by_cases hg : goA r R i t
    · rw [if_pos hg, eds_A]
      obtain ⟨h1, h2⟩ := left_A hg hn
      have hin := stp_in k r R hr hk n (i + 1) t h2 ht h1
      refine List.nodup_cons.2 ⟨?_, List.nodup_cons.2 ⟨?_, List.nodup_cons.2 ⟨?_, stp_nodup k r R hr hk n (i + 1) t h2 ht h1⟩⟩⟩
      · intro hm
        simp only [List.mem_cons, Prod.mk.injEq] at hm
        rcases hm with ⟨_, h⟩ | ⟨h, _⟩ | hm
        · exact out_ne_bes h
        · exact out_ne_bes h
        · rcases hin _ hm with ⟨j, a1, a2, a3⟩ | ⟨u, a1, a2, a3⟩ | ⟨j, u, a1, a2, a3, a4, a5, a6⟩ | ⟨j, u, a1, a2, a3, a4, a5, a6⟩
          · have := out_inj hr hk hi (by omega) (congrArg Prod.fst a3); omega
          · exact fst_ob a3
          · exact fst_ob a6
          · exact snd_ob a6
      · intro hm
        simp only [List.mem_cons, Prod.mk.injEq] at hm
        rcases hm with ⟨h, _⟩ | hm
        · exact out_ne_bes h
        · rcases hin _ hm with ⟨j, a1, a2, a3⟩ | ⟨u, a1, a2, a3⟩ | ⟨j, u, a1, a2, a3, a4, a5, a6⟩ | ⟨j, u, a1, a2, a3, a4, a5, a6⟩
          · exact snd_bo a3
          · exact fst_ob a3
          · exact fst_ob a6
          · have e1 := out_inj hr hk h2 (by omega) (congrArg Prod.fst a6)
            have e2 := bes_inj (by omega) (by omega) (congrArg Prod.snd a6)
            omega
      · intro hm
        rcases hin _ hm with ⟨j, a1, a2, a3⟩ | ⟨u, a1, a2, a3⟩ | ⟨j, u, a1, a2, a3, a4, a5, a6⟩ | ⟨j, u, a1, a2, a3, a4, a5, a6⟩
        · exact fst_bo a3
        · exact snd_ob a3
        · have e1 := out_inj hr hk hi (by omega) (congrArg Prod.snd a6); omega
        · exact fst_bo a6
    · rw [if_neg hg, eds_B]
      have hlt := not_goA hg hi ht hn
      obtain ⟨h1, h2⟩ := left_B hlt hn
      have hin := stp_in k r R hr hk n i (t + 1) hi h2 h1
      refine List.nodup_cons.2 ⟨?_, List.nodup_cons.2 ⟨?_, List.nodup_cons.2 ⟨?_, stp_nodup k r R hr hk n i (t + 1) hi h2 h1⟩⟩⟩
      · intro hm
        simp only [List.mem_cons, Prod.mk.injEq] at hm
        rcases hm with ⟨h, _⟩ | ⟨h, _⟩ | hm
        · exact out_ne_bes h
        · exact out_ne_bes h
        · rcases hin _ hm with ⟨j, a1, a2, a3⟩ | ⟨u, a1, a2, a3⟩ | ⟨j, u, a1, a2, a3, a4, a5, a6⟩ | ⟨j, u, a1, a2, a3, a4, a5, a6⟩
          · exact snd_bo a3
          · exact fst_ob a3
          · exact fst_ob a6
          · have e1 := out_inj hr hk hi (by omega) (congrArg Prod.fst a6)
            have e2 := bes_inj (by omega) (by omega) (congrArg Prod.snd a6)
            omega
      · intro hm
        simp only [List.mem_cons, Prod.mk.injEq] at hm
        rcases hm with ⟨_, h⟩ | hm
        · exact bes_ne_out h
        · rcases hin _ hm with ⟨j, a1, a2, a3⟩ | ⟨u, a1, a2, a3⟩ | ⟨j, u, a1, a2, a3, a4, a5, a6⟩ | ⟨j, u, a1, a2, a3, a4, a5, a6⟩
          · exact fst_bo a3
          · have e2 := bes_inj (by omega) (by omega) (congrArg Prod.snd a3); omega
          · exact snd_bo a6
          · exact fst_bo a6
      · intro hm
        rcases hin _ hm with ⟨j, a1, a2, a3⟩ | ⟨u, a1, a2, a3⟩ | ⟨j, u, a1, a2, a3, a4, a5, a6⟩ | ⟨j, u, a1, a2, a3, a4, a5, a6⟩
        · exact fst_bo a3
        · exact snd_ob a3
        · have e1 := bes_inj (by omega) (by omega) (congrArg Prod.fst a6); omega
        · exact fst_bo a6
/-- The first edge up, and the last one down. -/
theorem stp_first (k r R : Nat) : ∀ n i t, (besS k t R, outS k r i) ∈ (stpS k r R (n + 1) i t).flatMap edsS := fun n i t => by
  unfold stpS
  split
  · rw [eds_A]; simp
  · rw [eds_B]; simp
theorem stp_last (k r R : Nat) : ∀ n i t, i ≤ r → t ≤ R - 1 → leftS r R i t = n + 1 → (outS k r r, besS k (R - 1) R) ∈ (stpS k r R (n + 1) i t).flatMap edsS
  | 0, i, t, hi, ht, hn => by
    unfold stpS
    by_cases hg : goA r R i t
    · rw [if_pos hg, eds_A]
      have := hg.1
      have e1 : i + 1 = r := by unfold leftS at hn; omega
      have e2 : t = R - 1 := by unfold leftS at hn; omega
      rw [e1, e2]; simp
    · rw [if_neg hg, eds_B]
      have := not_goA hg hi ht hn
      have e1 : t + 1 = R - 1 := by unfold leftS at hn; omega
      have e2 : i = r := by unfold leftS at hn; omega
      rw [e1, e2]; simp
  | n + 1, i, t, hi, ht, hn => by
    unfold stpS
    by_cases hg : goA r R i t
    · rw [if_pos hg, eds_A]
      obtain ⟨h1, h2⟩ := left_A hg hn
      simp [stp_last k r R n (i + 1) t h2 ht h1]
    · rw [if_neg hg, eds_B]
      obtain ⟨h1, h2⟩ := left_B (not_goA hg hi ht hn) hn
      simp [stp_last k r R n i (t + 1) hi h2 h1]
theorem stp_O (k r R : Nat) : ∀ n i t, i ≤ r → t ≤ R - 1 → leftS r R i t = n → ∀ j, i ≤ j → j < r → (outS k r j, outS k r (j + 1)) ∈ (stpS k r R n i t).flatMap edsS
  | 0, i, t, hi, ht, hn, j, h1, h2 => by unfold leftS at hn; omega
  | n + 1, i, t, hi, ht, hn, j, hj1, hj2 => by
    unfold stpS
    by_cases hg : goA r R i t
    · rw [if_pos hg, eds_A]
      obtain ⟨h1, h2⟩ := left_A hg hn
      by_cases e : j = i
      · subst e; simp
      · simp [stp_O k r R n (i + 1) t h2 ht h1 j (by omega) hj2]
    · rw [if_neg hg, eds_B]
      obtain ⟨h1, h2⟩ := left_B (not_goA hg hi ht hn) hn
      simp [stp_O k r R n i (t + 1) hi h2 h1 j hj1 hj2]
theorem stp_I (k r R : Nat) : ∀ n i t, i ≤ r → t ≤ R - 1 → leftS r R i t = n → ∀ u, t ≤ u → u < R - 1 → (besS k (u + 1) R, besS k u R) ∈ (stpS k r R n i t).flatMap edsS
  | 0, i, t, hi, ht, hn, j, h1, h2 => by unfold leftS at hn; omega
  | n + 1, i, t, hi, ht, hn, j, hj1, hj2 => by
    unfold stpS
    by_cases hg : goA r R i t
    · rw [if_pos hg, eds_A]
      obtain ⟨h1, h2⟩ := left_A hg hn
      simp [stp_I k r R n (i + 1) t h2 ht h1 j hj1 hj2]
    · rw [if_neg hg, eds_B]
      obtain ⟨h1, h2⟩ := left_B (not_goA hg hi ht hn) hn
      by_cases e : j = t
      · subst e; simp
      · simp [stp_I k r R n i (t + 1) hi h2 h1 j (by omega) hj2]
/-- Each edge between a side's spot and an inner one is gone along back as well, but for the first up and the last down. -/
theorem stp_back (k r R : Nat) (hr : 1 ≤ r) (hk : k < 4) : ∀ n i t, i ≤ r → t ≤ R - 1 → leftS r R i t = n → ∀ e, e ∈ (stpS k r R n i t).flatMap edsS → InO k r i e ∨ InI k R t e ∨ e = (besS k t R, outS k r i) ∨ e = (outS k r r, besS k (R - 1) R) ∨ bck e ∈ (stpS k r R n i t).flatMap edsS
  | 0, i, t, _, _, _, e, he => by simp [stpS] at he
  | n + 1, i, t, hi, ht, hn, e, he => by
    unfold stpS at he ⊢
    by_cases hg : goA r R i t
    · rw [if_pos hg, eds_A] at he ⊢
      obtain ⟨h1, h2⟩ := left_A hg hn
      simp only [List.mem_cons] at he
      rcases he with he | he | he | he
      · exact .inl ⟨i, by omega, by omega, he⟩
      · cases n with
        | zero =>
          have e1 : i + 1 = r := by unfold leftS at h1; omega
          have e2 : t = R - 1 := by unfold leftS at h1; omega
          rw [e1, e2] at he
          exact .inr (.inr (.inr (.inl he)))
        | succ m =>
          refine .inr (.inr (.inr (.inr ?_)))
          rw [he]
          simp [bck, stp_first k r R m (i + 1) t]
      · exact .inr (.inr (.inl he))
      · rcases stp_back k r R hr hk n (i + 1) t h2 ht h1 e he with ⟨j, a1, a2, a3⟩ | ⟨u, a1, a2, a3⟩ | h | h | h
        · exact .inl ⟨j, by omega, a2, a3⟩
        · exact .inr (.inl ⟨u, by omega, a2, a3⟩)
        · refine .inr (.inr (.inr (.inr ?_)))
          rw [h]
          simp [bck]
        · exact .inr (.inr (.inr (.inl h)))
        · exact .inr (.inr (.inr (.inr (by simp [h]))))
    · rw [if_neg hg, eds_B] at he ⊢
      obtain ⟨h1, h2⟩ := left_B (not_goA hg hi ht hn) hn
      simp only [List.mem_cons] at he
      rcases he with he | he | he | he
      · cases n with
        | zero =>
          have e1 : t + 1 = R - 1 := by unfold leftS at h1; omega
          have e2 : i = r := by unfold leftS at h1; omega
          rw [e1, e2] at he
          exact .inr (.inr (.inr (.inl he)))
        | succ m =>
          refine .inr (.inr (.inr (.inr ?_)))
          rw [he]
          simp [bck, stp_first k r R m i (t + 1)]
      · exact .inr (.inl ⟨t, by omega, by omega, he⟩)
      · exact .inr (.inr (.inl he))
      · rcases stp_back k r R hr hk n i (t + 1) hi h2 h1 e he with ⟨j, a1, a2, a3⟩ | ⟨u, a1, a2, a3⟩ | h | h | h
        · exact .inl ⟨j, by omega, a2, a3⟩
        · exact .inr (.inl ⟨u, by omega, a2, a3⟩)
        · refine .inr (.inr (.inr (.inr ?_)))
          rw [h]
          simp [bck]
        · exact .inr (.inr (.inr (.inl h)))
        · exact .inr (.inr (.inr (.inr (by simp [h]))))
end Go.Proofs.Ytpdnaceggpdleaa
