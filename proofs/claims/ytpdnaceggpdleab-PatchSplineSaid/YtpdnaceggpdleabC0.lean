/- Calls that answer a value and leave what was there as it was: one word for their contracts, and what a region of such calls comes to. No program is imported. Contracts of vec's calls and the document's own, part 1: sums and products. Contracts of vec's calls and the document's own, part 2: boxes, bounds, rounding. Contracts of vec's calls and the document's own, part 3: bounds and rounding. Arguments opened down to their single cells, whatever their structs and arrays. No program is imported. Arguments opened down to their single cells, with what each slice and string weighs. No program is imported. -/
import Derived.Below
import Derived.Deep.Draws
import Derived.Deep.QuietTactic
import Derived.BigQuiet
import Derived.WalkKit
import Derived.WalkLawsBesides
import Derived.Lib.Hide
import Derived.Laws.Rows
import Derived.Outline
import Derived.ProofKit
import Derived.OpenShut
import Derived.Deep.Slices
import Derived.SizedLaws
import Derived.Test.YtpdnaceggpdleabProg
namespace Go.Proofs.Ytpdnaceggpdleab
open Go.RowKit
set_option linter.unusedVariables false
set_option linter.unusedSimpArgs false
variable {P : Program}
/-! what a call leaves as it was, step by step -/
theorem bel_alloc {a w : World} (h : Below a.heap.size a w) (o : Obj) : Below a.heap.size a (w.alloc o) := h.alloc h.size o
theorem bel_trans {a w w' : World} (h : Below a.heap.size a w) (k : Below w.heap.size w w') : Below a.heap.size a w' := h.trans (k.mono h.size)
theorem bel_set {a w : World} (h : Below a.heap.size a w) {p : Addr} (hp : a.heap.size ≤ p.block) (u : Value) : Below a.heap.size a (w.setCell p u) := h.setCell hp u
theorem bel_drewN {a w : World} (h : Below a.heap.size a w) (n : Nat) : Below a.heap.size a (w.drewN n) := ⟨h.os, h.tape, h.output, h.size, h.block⟩
theorem bel_drew {a w : World} (h : Below a.heap.size a w) : Below a.heap.size a w.drew := ⟨h.os, h.tape, h.output, h.size, h.block⟩
/-- A step to a world in which all that was there is as it was. -/
structure More where
  «to» : World → World
  kept : ∀ w, Below w.heap.size w («to» w)
instance more_some : Nonempty More := ⟨⟨fun w => w, fun w => Below.refl _ _⟩⟩
def grow (w : World) (x : More) : World := x.to w
theorem bel_grow {a w : World} (h : Below a.heap.size a w) (x : More) : Below a.heap.size a (grow w x) := bel_trans h (x.kept w)
open Classical in
noncomputable def More.of (w w' : World) (h : Below w.heap.size w w') : More := ⟨fun v => if v = w then w' else v, fun v => by
  by_cases e : v = w
  · rw [if_pos e, e]; exact h
  · rw [if_neg e]; exact Below.refl _ _⟩
theorem grow_mk (w w' : World) (h : Below w.heap.size w w') : grow w (More.of w w' h) = w' := by unfold grow More.of; simp
theorem grow_of {w w' : World} (h : Below w.heap.size w w') : ∃ x, w' = grow w x := ⟨More.of w w' h, (grow_mk w w' h).symm⟩
def More.then (x y : More) : More := ⟨fun w => y.to (x.to w), fun w => bel_trans (x.kept w) (y.kept _)⟩
theorem bel_then {a w : World} {x : More} (h : Below a.heap.size a (grow w x)) (y : More) : Below a.heap.size a (grow w (x.then y)) := bel_grow h y
theorem grow_grow (w : World) (x y : More) : grow (grow w x) y = grow w (x.then y) := rfl
/-- What is behind the blocks that w had: of that nothing is said. -/
def More.top (x : More) (w : World) : Nat := (x.to w).heap.size
def More.cellAt (x : More) (w : World) (n i : Nat) : Option Value := (x.to w).cell? ⟨n, i, none⟩
def More.frozenAt (x : More) (w : World) (n i : Nat) : Bool := (x.to w).frozen? ⟨n, i, none⟩
theorem grow_cell (w : World) (x : More) (n i : Nat) : (grow w x).cell? ⟨n, i, none⟩ = if n < w.heap.size then w.cell? ⟨n, i, none⟩ else x.cellAt w n i := by
  split
  · rename_i h; exact (x.kept w).cell (p := ⟨n, i, none⟩) h
  · rfl
theorem grow_frozen (w : World) (x : More) (n i : Nat) : (grow w x).frozen? ⟨n, i, none⟩ = if n < w.heap.size then w.frozen? ⟨n, i, none⟩ else x.frozenAt w n i := by
  split
  · rename_i h; exact (x.kept w).frozen (p := ⟨n, i, none⟩) h
  · rfl
theorem grow_size (w : World) (x : More) : (grow w x).heap.size = x.top w := rfl
theorem top_le (w : World) (x : More) : w.heap.size ≤ x.top w := (x.kept w).size
theorem grow_lt (w : World) (x : More) (n : Nat) : (n < (grow w x).heap.size) = (n < w.heap.size ∨ n < x.top w) := by
  have h : w.heap.size ≤ (x.to w).heap.size := (x.kept w).size
  have e : (grow w x).heap.size = (x.to w).heap.size := rfl
  have e2 : x.top w = (x.to w).heap.size := rfl
  rw [e, e2]
  exact propext ⟨fun h => .inr h, fun h => by omega⟩
theorem grow_lt1 (w : World) (x : More) (n : Nat) : (n < (grow w x).heap.size + 1) = (n < w.heap.size ∨ n < x.top w + 1) := by
  have h : w.heap.size ≤ (x.to w).heap.size := (x.kept w).size
  have e : (grow w x).heap.size = (x.to w).heap.size := rfl
  have e2 : x.top w = (x.to w).heap.size := rfl
  rw [e, e2]
  exact propext ⟨fun h => .inr h, fun h => by omega⟩
theorem grow_lt2 (w : World) (x : More) (n : Nat) : (n < (grow w x).heap.size + 1 + 1) = (n < w.heap.size ∨ n < x.top w + 1 + 1) := by
  have h : w.heap.size ≤ (x.to w).heap.size := (x.kept w).size
  have e : (grow w x).heap.size = (x.to w).heap.size := rfl
  have e2 : x.top w = (x.to w).heap.size := rfl
  rw [e, e2]
  exact propext ⟨fun h => .inr h, fun h => by omega⟩
theorem grow_lt3 (w : World) (x : More) (n : Nat) : (n < (grow w x).heap.size + 1 + 1 + 1) = (n < w.heap.size ∨ n < x.top w + 1 + 1 + 1) := by
  have h : w.heap.size ≤ (x.to w).heap.size := (x.kept w).size
  have e : (grow w x).heap.size = (x.to w).heap.size := rfl
  have e2 : x.top w = (x.to w).heap.size := rfl
  rw [e, e2]
  exact propext ⟨fun h => .inr h, fun h => by omega⟩
theorem grow_lt4 (w : World) (x : More) (n : Nat) : (n < (grow w x).heap.size + 1 + 1 + 1 + 1) = (n < w.heap.size ∨ n < x.top w + 1 + 1 + 1 + 1) := by
  have h : w.heap.size ≤ (x.to w).heap.size := (x.kept w).size
  have e : (grow w x).heap.size = (x.to w).heap.size := rfl
  have e2 : x.top w = (x.to w).heap.size := rfl
  rw [e, e2]
  exact propext ⟨fun h => .inr h, fun h => by omega⟩
theorem grow_lt5 (w : World) (x : More) (n : Nat) : (n < (grow w x).heap.size + 1 + 1 + 1 + 1 + 1) = (n < w.heap.size ∨ n < x.top w + 1 + 1 + 1 + 1 + 1) := by
  have h : w.heap.size ≤ (x.to w).heap.size := (x.kept w).size
  have e : (grow w x).heap.size = (x.to w).heap.size := rfl
  have e2 : x.top w = (x.to w).heap.size := rfl
  rw [e, e2]
  exact propext ⟨fun h => .inr h, fun h => by omega⟩
theorem grow_lt6 (w : World) (x : More) (n : Nat) : (n < (grow w x).heap.size + 1 + 1 + 1 + 1 + 1 + 1) = (n < w.heap.size ∨ n < x.top w + 1 + 1 + 1 + 1 + 1 + 1) := by
  have h : w.heap.size ≤ (x.to w).heap.size := (x.kept w).size
  have e : (grow w x).heap.size = (x.to w).heap.size := rfl
  have e2 : x.top w = (x.to w).heap.size := rfl
  rw [e, e2]
  exact propext ⟨fun h => .inr h, fun h => by omega⟩
theorem grow_lt7 (w : World) (x : More) (n : Nat) : (n < (grow w x).heap.size + 1 + 1 + 1 + 1 + 1 + 1 + 1) = (n < w.heap.size ∨ n < x.top w + 1 + 1 + 1 + 1 + 1 + 1 + 1) := by
  have h : w.heap.size ≤ (x.to w).heap.size := (x.kept w).size
  have e : (grow w x).heap.size = (x.to w).heap.size := rfl
  have e2 : x.top w = (x.to w).heap.size := rfl
  rw [e, e2]
  exact propext ⟨fun h => .inr h, fun h => by omega⟩
theorem grow_lt8 (w : World) (x : More) (n : Nat) : (n < (grow w x).heap.size + 1 + 1 + 1 + 1 + 1 + 1 + 1 + 1) = (n < w.heap.size ∨ n < x.top w + 1 + 1 + 1 + 1 + 1 + 1 + 1 + 1) := by
  have h : w.heap.size ≤ (x.to w).heap.size := (x.kept w).size
  have e : (grow w x).heap.size = (x.to w).heap.size := rfl
  have e2 : x.top w = (x.to w).heap.size := rfl
  rw [e, e2]
  exact propext ⟨fun h => .inr h, fun h => by omega⟩
theorem grow_le (w : World) (x : More) (n : Nat) : (n ≤ (grow w x).heap.size) = (n ≤ w.heap.size ∨ n ≤ x.top w) := by
  have h : w.heap.size ≤ (x.to w).heap.size := (x.kept w).size
  have e : (grow w x).heap.size = (x.to w).heap.size := rfl
  have e2 : x.top w = (x.to w).heap.size := rfl
  rw [e, e2]
  exact propext ⟨fun h => .inr h, fun h => by omega⟩
theorem grow_self1 (w : World) (x : More) : ((grow w x).heap.size < x.top w + 1) = True := eq_true (Nat.lt_succ_self _)
theorem grow_self2 (w : World) (x : More) : ((grow w x).heap.size < x.top w + 1 + 1) = True := eq_true (Nat.lt_succ_of_lt (Nat.lt_succ_self _))
theorem grow_self3 (w : World) (x : More) : ((grow w x).heap.size < x.top w + 1 + 1 + 1) = True := eq_true (Nat.lt_succ_of_lt (Nat.lt_succ_of_lt (Nat.lt_succ_self _)))
attribute [go_sem] grow_self1 grow_self2 grow_self3
attribute [go_sem] grow_grow grow_cell grow_frozen grow_lt grow_le grow_lt1 grow_lt2 grow_lt3 grow_lt4 grow_lt5 grow_lt6 grow_lt7 grow_lt8
/-! a store into a block that was there goes through what grew behind it -/
theorem below_setCell {w v : World} (h : Below w.heap.size w v) (n i : Nat) (u : Value) (hn : n < w.heap.size) : Below (w.setCell ⟨n, i, none⟩ u).heap.size (w.setCell ⟨n, i, none⟩ u) (v.setCell ⟨n, i, none⟩ u) := by
  refine ⟨h.os, h.tape, h.output, by simpa [World.setCell] using h.size, fun k hk => ?_⟩
  have hk' : k < w.heap.size := by simpa [World.setCell] using hk
  simp only [World.setCell, Array.getElem?_modify]
  rw [h.block k hk']
open Classical in
noncomputable def More.setC (x : More) (w : World) (n i : Nat) (u : Value) : More :=
  if h : n < w.heap.size then More.of (w.setCell ⟨n, i, none⟩ u) ((x.to w).setCell ⟨n, i, none⟩ u) (below_setCell (x.kept w) n i u h) else x
theorem grow_setCell (w : World) (x : More) (n i : Nat) (u : Value) (hn : n < w.heap.size) : (grow w x).setCell ⟨n, i, none⟩ u = grow (w.setCell ⟨n, i, none⟩ u) (x.setC w n i u) := by
  unfold More.setC; rw [dif_pos hn, grow_mk]; rfl
theorem below_setRow {w v : World} (h : Below w.heap.size w v) (n : Nat) (cs : Array Value) (hn : n < w.heap.size) : Below (w.setRow n cs).heap.size (w.setRow n cs) (v.setRow n cs) := by
  refine ⟨h.os, h.tape, h.output, by simpa using h.size, fun k hk => ?_⟩
  have hk' : k < w.heap.size := by simpa using hk
  simp only [World.setRow, Array.getElem?_modify]
  rw [h.block k hk']
open Classical in
noncomputable def More.setR (x : More) (w : World) (n : Nat) (cs : Array Value) : More :=
  if h : n < w.heap.size then More.of (w.setRow n cs) ((x.to w).setRow n cs) (below_setRow (x.kept w) n cs h) else x
theorem grow_setRow (w : World) (x : More) (n : Nat) (cs : Array Value) (hn : n < w.heap.size) : (grow w x).setRow n cs = grow (w.setRow n cs) (x.setR w n cs) := by
  unfold More.setR; rw [dif_pos hn, grow_mk]; rfl
attribute [go_sem] grow_setCell grow_setRow
/-- In every world the call answers v, and all that was there is as it was. -/
def Gives (P : Program) (f : FuncId) (args : Array Value) (v : Value) : Prop := ∀ w : World, Calls P f args w fun e w' => e = .returned v ∧ ∃ x, w' = grow w x
theorem Gives.at_ {f : FuncId} {args : Array Value} {v : Value} (h : Gives P f args v) (w : World) : Calls P f args w fun e w' => e = .returned v ∧ ∃ x, w' = grow w x := h w
theorem Gives.mk {f : FuncId} {args : Array Value} {v : Value} (h : ∀ w : World, Calls P f args w fun e w' => e = .returned v ∧ Below w.heap.size w w') : Gives P f args v :=
  fun w => (h w).mono fun _ _ ⟨he, hb⟩ => ⟨he, grow_of hb⟩
theorem Gives.bel {f : FuncId} {args : Array Value} {v : Value} (h : Gives P f args v) (w : World) : Calls P f args w fun e w' => e = .returned v ∧ Below w.heap.size w w' :=
  (h w).mono fun _ _ ⟨he, x, hx⟩ => ⟨he, hx ▸ x.kept w⟩
theorem Gives.quiet {f : FuncId} {args : Array Value} {v : Value} (h : Gives P f args v) {w : World} (x : More) :
    Calls P f args (grow w x) fun e w'' => e = .returned v ∧ ∃ y, w'' = grow w y :=
  (h (grow w x)).mono fun _ _ ⟨he, y, hy⟩ => ⟨he, x.then y, hy⟩
theorem Gives.quiet2 {f : FuncId} {args : Array Value} {v : Value} (h : Gives P f args v) {w : World} (x y : More) :
    Calls P f args (grow w (x.then y)) fun e w'' => e = .returned v ∧ ∃ z, w'' = grow w (x.then z) :=
  (h (grow w (x.then y))).mono fun _ _ ⟨he, z, hz⟩ => ⟨he, y.then z, hz⟩
/-- A region whose operations only read or are such calls: one walk in the order of the text. -/
theorem wp_region_grow {id : Nat} {Q : Exit → Act → World → Prop} {a : Act} {w : World} {l : List Oper} (hm : P.follows .mixedOrders = true) (hB : Region.lexB .any l.toArray = true)
    (h : wpQuiet P l.toArray (fun w' => ∃ x, w' = grow w x) (fun a' => ∀ w', (∃ x, w' = grow w x) → Q .normal a' w') l a) : (Code.region id l.toArray true).wp P Q a w :=
  wp_region_quiet (C := fun w' => ∃ x, w' = grow w x) hm hB (grow_of (bel_drew (Below.refl _ _))) (by simpa using h)
end Go.Proofs.Ytpdnaceggpdleab
namespace Go.Proofs.Ytpdnaceggpdleab
open Go.RowKit
set_option linter.unusedVariables false
set_option linter.unusedSimpArgs false

theorem vAdd_any (ax : Int) (ay : Int) (az : Int) (bx : Int) (by_ : Int) (bz : Int) :
    Gives Try.prog 32 #[.agg #[.int .i64 ax, .int .i64 ay, .int .i64 az], .agg #[.int .i64 bx, .int .i64 by_, .int .i64 bz]] (.agg #[.int .i64 (wrap64 (ax + bx)), .int .i64 (wrap64 (ay + by_)), .int .i64 (wrap64 (az + bz))]) := by
  refine Gives.mk fun w => ?_
  go_enter Try.func32, Try.ntmps32
  go_wp2
  refine bodyPost_ret (v := .agg #[.int .i64 (wrap64 (ax + bx)), .int .i64 (wrap64 (ay + by_)), .int .i64 (wrap64 (az + bz))]) (by simp [results, Try.results32, go_sem]) rfl ⟨rfl, (by repeat (first | exact Below.refl _ _ | refine bel_grow ?_ _ | refine bel_alloc ?_ _ | refine bel_set ?_ (by simp) _))⟩

theorem rAdd_any (ax : Int) (ay : Int) (az : Int) (bx : Int) (by_ : Int) (bz : Int) :
    Gives Try.prog 8 #[.agg #[.int .i64 ax, .int .i64 ay, .int .i64 az], .agg #[.int .i64 bx, .int .i64 by_, .int .i64 bz]] (.agg #[.int .i64 (wrap64 (ax + bx)), .int .i64 (wrap64 (ay + by_)), .int .i64 (wrap64 (az + bz))]) := by
  refine Gives.mk fun w => ?_
  go_enter Try.func8, Try.ntmps8
  go_wp2
  refine bodyPost_ret (v := .agg #[.int .i64 (wrap64 (ax + bx)), .int .i64 (wrap64 (ay + by_)), .int .i64 (wrap64 (az + bz))]) (by simp [results, Try.results8, go_sem]) rfl ⟨rfl, (by repeat (first | exact Below.refl _ _ | refine bel_grow ?_ _ | refine bel_alloc ?_ _ | refine bel_set ?_ (by simp) _))⟩

theorem vSub_any (ax : Int) (ay : Int) (az : Int) (bx : Int) (by_ : Int) (bz : Int) :
    Gives Try.prog 30 #[.agg #[.int .i64 ax, .int .i64 ay, .int .i64 az], .agg #[.int .i64 bx, .int .i64 by_, .int .i64 bz]] (.agg #[.int .i64 (wrap64 (ax - bx)), .int .i64 (wrap64 (ay - by_)), .int .i64 (wrap64 (az - bz))]) := by
  refine Gives.mk fun w => ?_
  go_enter Try.func30, Try.ntmps30
  go_wp2
  refine bodyPost_ret (v := .agg #[.int .i64 (wrap64 (ax - bx)), .int .i64 (wrap64 (ay - by_)), .int .i64 (wrap64 (az - bz))]) (by simp [results, Try.results30, go_sem]) rfl ⟨rfl, (by repeat (first | exact Below.refl _ _ | refine bel_grow ?_ _ | refine bel_alloc ?_ _ | refine bel_set ?_ (by simp) _))⟩

theorem vScale_any (ax : Int) (ay : Int) (az : Int) (k : Int) :
    Gives Try.prog 52 #[.agg #[.int .i64 ax, .int .i64 ay, .int .i64 az], .int .i64 k] (.agg #[.int .i64 (wrap64 (ax * k)), .int .i64 (wrap64 (ay * k)), .int .i64 (wrap64 (az * k))]) := by
  refine Gives.mk fun w => ?_
  go_enter Try.func52, Try.ntmps52
  go_wp2
  refine bodyPost_ret (v := .agg #[.int .i64 (wrap64 (ax * k)), .int .i64 (wrap64 (ay * k)), .int .i64 (wrap64 (az * k))]) (by simp [results, Try.results52, go_sem]) rfl ⟨rfl, (by repeat (first | exact Below.refl _ _ | refine bel_grow ?_ _ | refine bel_alloc ?_ _ | refine bel_set ?_ (by simp) _))⟩

theorem vCross_any (ax : Int) (ay : Int) (az : Int) (bx : Int) (by_ : Int) (bz : Int) :
    Gives Try.prog 31 #[.agg #[.int .i64 ax, .int .i64 ay, .int .i64 az], .agg #[.int .i64 bx, .int .i64 by_, .int .i64 bz]] (.agg #[.int .i64 (wrap64 ((wrap64 (ay * bz)) - (wrap64 (az * by_)))), .int .i64 (wrap64 ((wrap64 (az * bx)) - (wrap64 (ax * bz)))), .int .i64 (wrap64 ((wrap64 (ax * by_)) - (wrap64 (ay * bx))))]) := by
  refine Gives.mk fun w => ?_
  go_enter Try.func31, Try.ntmps31
  go_wp2
  refine bodyPost_ret (v := .agg #[.int .i64 (wrap64 ((wrap64 (ay * bz)) - (wrap64 (az * by_)))), .int .i64 (wrap64 ((wrap64 (az * bx)) - (wrap64 (ax * bz)))), .int .i64 (wrap64 ((wrap64 (ax * by_)) - (wrap64 (ay * bx))))]) (by simp [results, Try.results31, go_sem]) rfl ⟨rfl, (by repeat (first | exact Below.refl _ _ | refine bel_grow ?_ _ | refine bel_alloc ?_ _ | refine bel_set ?_ (by simp) _))⟩

end Go.Proofs.Ytpdnaceggpdleab
namespace Go.Proofs.Ytpdnaceggpdleab
open Go.RowKit
set_option linter.unusedVariables false
set_option linter.unusedSimpArgs false
/-- Is a point within a box? -/
def inB (lx ly lz hx hy hz x y z : Int) : Bool := decide (lx ≤ x) && decide (x ≤ hx) && (decide (ly ≤ y) && decide (y ≤ hy)) && (decide (lz ≤ z) && decide (z ≤ hz))
theorem inB_iff (lx ly lz hx hy hz x y z : Int) : inB lx ly lz hx hy hz x y z = true ↔ (lx ≤ x ∧ x ≤ hx) ∧ (ly ≤ y ∧ y ≤ hy) ∧ lz ≤ z ∧ z ≤ hz := by
  unfold inB; simp; omega
theorem inB_no (lx ly lz hx hy hz x y z : Int) (h : ¬ ((lx ≤ x ∧ x ≤ hx) ∧ (ly ≤ y ∧ y ≤ hy) ∧ lz ≤ z ∧ z ≤ hz)) : inB lx ly lz hx hy hz x y z = false := by
  rw [← inB_iff] at h; simpa using h
theorem if_min (x y : Int) : (if y < x then y else x) = min x y := by rw [Int.min_def]; split <;> split <;> omega
theorem if_max (x y : Int) : (if x < y then y else x) = max x y := by rw [Int.max_def]; split <;> split <;> omega
attribute [go_sem] if_min if_max
theorem ret_bool {a b : Bool} (h : a = b) : Ending.returned (.bool a) = .returned (.bool b) := by rw [h]

theorem vHas_any (lx : Int) (ly : Int) (lz : Int) (hx : Int) (hy : Int) (hz : Int) (x : Int) (y : Int) (z : Int) :
    Gives Try.prog 13 #[.agg #[.int .i64 lx, .int .i64 ly, .int .i64 lz, .int .i64 hx, .int .i64 hy, .int .i64 hz], .agg #[.int .i64 x, .int .i64 y, .int .i64 z]] (.bool (inB lx ly lz hx hy hz x y z)) := by
  refine Gives.mk fun w => ?_
  go_enter Try.func13, Try.ntmps13
  go_wp2
  all_goals
    go_ret
    refine ⟨ret_bool ?_, (by repeat (first | exact Below.refl _ _ | refine bel_grow ?_ _ | refine bel_alloc ?_ _ | refine bel_set ?_ (by simp) _))⟩
    first | (symm; rw [inB_iff]; omega) | (symm; apply inB_no; omega) | (unfold inB; simp [*])

end Go.Proofs.Ytpdnaceggpdleab
namespace Go.Proofs.Ytpdnaceggpdleab
open Go.RowKit
set_option linter.unusedVariables false
set_option linter.unusedSimpArgs false
/-- Is each part within a bound? -/
def wiB (x y z m : Int) : Bool := decide (0 ≤ m) && inB (-m) (-m) (-m) m m m x y z
theorem wiB_iff (x y z m : Int) : wiB x y z m = true ↔ 0 ≤ m ∧ (-m ≤ x ∧ x ≤ m) ∧ (-m ≤ y ∧ y ≤ m) ∧ -m ≤ z ∧ z ≤ m := by
  unfold wiB; simp [inB_iff]
theorem wiB_no (x y z m : Int) (h : ¬ (0 ≤ m ∧ (-m ≤ x ∧ x ≤ m) ∧ (-m ≤ y ∧ y ≤ m) ∧ -m ≤ z ∧ z ≤ m)) : wiB x y z m = false := by
  rw [← wiB_iff] at h; simpa using h
theorem wiB_in (x y z m : Int) (h : 0 ≤ m) : inB (-m) (-m) (-m) m m m x y z = wiB x y z m := by
  unfold wiB; simp [h]
theorem vWithin_any (x y z m : Int) (m1 : m ≤ 9223372036854775807) :
    Gives Try.prog 6 #[.agg #[.int .i64 x, .int .i64 y, .int .i64 z], .int .i64 m] (.bool (wiB x y z m)) := by
  refine Gives.mk fun w => ?_
  by_cases h : m < 0
  · have e : Ending.returned (.bool (wiB x y z m)) = .returned (.bool false) := ret_bool (wiB_no _ _ _ _ (by omega))
    rw [e]
    clear e
    go_enter Try.func6, Try.ntmps6
    go_wp2
    go_ret
    exact ⟨rfl, (by repeat (first | exact Below.refl _ _ | refine bel_grow ?_ _ | refine bel_alloc ?_ _ | refine bel_set ?_ (by simp) _))⟩
  · have h0 : 0 ≤ m := by omega
    have k := vHas_any (-m) (-m) (-m) m m m x y z
    rw [wiB_in x y z m h0] at k
    clear h
    go_enter Try.func6, Try.ntmps6
    go_wp2_with (go_at_call 13; ((with_reducible refine (k.at_ _).mono ?_); rintro e w' ⟨rfl, xg, rfl⟩))
    go_ret
    exact ⟨rfl, (by repeat (first | exact Below.refl _ _ | refine bel_grow ?_ _ | refine bel_alloc ?_ _ | refine bel_set ?_ (by simp) _))⟩
/-- The whole number nearest to n/d, the greater one of two; 0 outside the bounds. -/
def rnd (n d : Int) : Int := if n < -2305843009213693952 ∨ 2305843009213693952 < n ∨ d < 1 ∨ 2305843009213693952 < d then 0 else (2 * n + d) / (2 * d)
theorem rnd_out {n d : Int} (h : n < -2305843009213693952 ∨ 2305843009213693952 < n ∨ d < 1 ∨ 2305843009213693952 < d) : rnd n d = 0 := by unfold rnd; rw [if_pos h]
theorem rnd_in {n d : Int} (h : ¬ (n < -2305843009213693952 ∨ 2305843009213693952 < n ∨ d < 1 ∨ 2305843009213693952 < d)) : rnd n d = (2 * n + d) / (2 * d) := by unfold rnd; rw [if_neg h]
theorem floor_mk {a b q r : Int} (hb : 0 < b) (h0 : 0 ≤ r) (h1 : r < b) (e : a = q * b + r) : a / b = q := by
  subst e
  rw [Int.add_comm, Int.add_mul_ediv_right _ _ (by omega), Int.ediv_eq_zero_of_lt h0 h1]; omega
/-- The quotient toward 0 and what is left. -/
theorem tq (a b : Int) (hb : 0 < b) : ∃ q r : Int, a.tdiv b = q ∧ a.tmod b = r ∧ a = q * b + r ∧ -b < r ∧ r < b ∧ (0 ≤ a → 0 ≤ r) ∧ (a ≤ 0 → r ≤ 0) ∧ (0 ≤ a → 0 ≤ q ∧ q ≤ a) ∧ (a ≤ 0 → a ≤ q ∧ q ≤ 0) := by
  refine ⟨a.tdiv b, a.tmod b, rfl, rfl, ?_, ?_, ?_, ?_, ?_, ?_, ?_⟩
  · have := Int.tmod_add_mul_tdiv a b; rw [Int.mul_comm] at this; omega
  · have := Int.lt_tmod_of_pos a hb; omega
  · exact Int.tmod_lt_of_pos a hb
  · intro h; exact Int.tmod_nonneg b h
  · intro h; have := Int.tmod_nonneg b (a := -a) (by omega); rw [Int.neg_tmod] at this; omega
  · intro h
    refine ⟨Int.tdiv_nonneg h (by omega), ?_⟩
    rw [Int.tdiv_eq_ediv_of_nonneg h]; exact Int.ediv_le_self b h
  · intro h
    have h1 := Int.tdiv_nonneg (a := -a) (b := b) (by omega) (by omega)
    have h2 : (-a).tdiv b ≤ -a := by rw [Int.tdiv_eq_ediv_of_nonneg (by omega)]; exact Int.ediv_le_self b (by omega)
    rw [Int.neg_tdiv] at h1 h2
    omega
theorem ret_i64 {a b : Int} (h : a = b) : Ending.returned (.int .i64 a) = .returned (.int .i64 b) := by rw [h]
theorem vRound_any (n d : Int) (n0 : -9223372036854775808 ≤ n) (n1 : n ≤ 9223372036854775807) (d0 : -9223372036854775808 ≤ d) (d1 : d ≤ 9223372036854775807) :
    Gives Try.prog 53 #[.int .i64 n, .int .i64 d] (.int .i64 (rnd n d)) := by
  refine Gives.mk fun w => ?_
  by_cases h : n < -2305843009213693952 ∨ 2305843009213693952 < n ∨ d < 1 ∨ 2305843009213693952 < d
  · rw [rnd_out h]
    go_enter Try.func53, Try.ntmps53
    go_wp2
    all_goals first | (go_ret; exact ⟨rfl, (by repeat (first | exact Below.refl _ _ | refine bel_grow ?_ _ | refine bel_alloc ?_ _ | refine bel_set ?_ (by simp) _))⟩) | (exfalso; omega)
  · rw [rnd_in h]
    have a1 : -2305843009213693952 ≤ n := by omega
    have a2 : n ≤ 2305843009213693952 := by omega
    have a3 : 1 ≤ d := by omega
    have a4 : d ≤ 2305843009213693952 := by omega
    obtain ⟨q, r, e1, e2, e3, b1, b2, b3, b4, b5, b6⟩ := tq (2 * n + d) (2 * d) (by omega)
    have fin : Hid (∀ u, (r < 0 → u = q - 1) → (¬ r < 0 → u = q) → u = (2 * n + d) / (2 * d)) := by
      intro u h1 h2
      symm
      by_cases hr : r < 0
      · rw [h1 hr]; exact floor_mk (r := r + 2 * d) (by omega) (by omega) (by omega) (by rw [Int.sub_mul]; omega)
      · rw [h2 hr]; exact floor_mk (r := r) (by omega) (by omega) (by omega) e3
    have q0 : -9223372036854775808 < q ∧ q ≤ 9223372036854775807 := by rcases Int.le_total 0 (2 * n + d) with h | h <;> omega
    clear h e3 b3 b4 b5 b6 b1 b2 n0 n1 d0 d1
    go_enter Try.func53, Try.ntmps53
    go_wp2
    all_goals
      go_ret
      refine ⟨ret_i64 (fin.out _ ?_ ?_), (by repeat (first | exact Below.refl _ _ | refine bel_grow ?_ _ | refine bel_alloc ?_ _ | refine bel_set ?_ (by simp) _))⟩ <;> intro _ <;> omega

end Go.Proofs.Ytpdnaceggpdleab
namespace Go.Proofs.Ytpdnaceggpdleab
open Go.ChangeShapes Go.WideShapes Go.ChangeAt Go.RowKit
set_option linter.unusedVariables false
set_option linter.unusedSimpArgs false
/-- The single cells of a type: where each lies, and its type. -/
def leavesAt (P : Program) : Nat → Nat → TypeId → List (Nat × TypeId)
  | 0, _, _ => []
  | f + 1, off, t => match P.underlying t with
    | some (.struct fs) => fs.toList.flatMap fun fd => leavesAt P f (off + fd.offset) fd.type
    | some (.array n e) => (List.range n).flatMap fun i => leavesAt P f (off + i * P.cellsOf e) e
    | _ => [(off, t)]
section
variable {H : Type} {enc : TypeId × Value → H} {P : Program} {w : World} {base : Nat} {spare : Nat → Bool} {held : Bool}
theorem trod_single {fuel : Nat} {t : TypeId} {cs : List Value} {x : DataW H × List MemPlace} (h : DataW.trod enc P w base spare held fuel t cs = some x) (hs : ∀ fs, P.underlying t ≠ some (.struct fs)) (ha : ∀ n e, P.underlying t ≠ some (.array n e)) : ∃ c, cs = [c] := by
  cases fuel with
  | zero => simp [DataW.trod] at h
  | succ n =>
    unfold DataW.trod at h
    split at h <;> first | exact ⟨_, rfl⟩ | (rename_i hu; first | exact absurd hu (hs _) | exact absurd hu (ha _ _)) | cases h
theorem leaf_trod : ∀ (f : Nat) (t : TypeId) (off0 o : Nat) (lt : TypeId), (o, lt) ∈ leavesAt P f off0 t → ∀ (n : Nat) (cs : List Value) (x : DataW H × List MemPlace), DataW.trod enc P w base spare held n t cs = some x →
    off0 ≤ o ∧ ∃ c m y, cs[o - off0]? = some c ∧ DataW.trod enc P w base spare held m lt [c] = some y
  | 0, _, _, _, _, h, _, _, _, _ => by simp [leavesAt] at h
  | f + 1, t, off0, o, lt, h, n, cs, x, hx => by
    unfold leavesAt at h
    split at h
    · rename_i fs hu
      obtain ⟨fd, hfd, hm⟩ := List.mem_flatMap.1 h
      obtain ⟨ys, n', _, _, hlen, hyl, hf⟩ := DataW.trod_struct hu hx
      obtain ⟨j, hj⟩ := List.getElem?_of_mem hfd
      have hj' : fs[j]? = some fd := by simpa using hj
      have h1 := hf j fd hj'
      have hjl : j < ys.length := by rw [hyl]; exact (Array.getElem?_eq_some_iff.1 hj').1
      rw [List.getElem?_eq_getElem hjl] at h1
      obtain ⟨hle, c, m, y, hc, hy⟩ := leaf_trod f fd.type (off0 + fd.offset) o lt hm _ _ _ h1
      refine ⟨by omega, c, m, y, ?_, hy⟩
      rw [List.getElem?_take] at hc
      split at hc
      · rw [List.getElem?_drop] at hc
        rw [← hc]; congr 1; omega
      · cases hc
    · rename_i k e hu
      obtain ⟨i, hi, hm⟩ := List.mem_flatMap.1 h
      rw [List.mem_range] at hi
      obtain ⟨ys, n', _, _, hlen, hyl, hf⟩ := DataW.trod_array hu hx
      have h1 := hf i hi
      have hjl : i < ys.length := by rw [hyl]; exact hi
      rw [List.getElem?_eq_getElem hjl] at h1
      obtain ⟨hle, c, m, y, hc, hy⟩ := leaf_trod f e (off0 + i * P.cellsOf e) o lt hm _ _ _ h1
      refine ⟨by omega, c, m, y, ?_, hy⟩
      rw [List.getElem?_take] at hc
      split at hc
      · rw [List.getElem?_drop] at hc
        rw [← hc]; congr 1; omega
      · cases hc
    · rename_i hs ha
      simp only [List.mem_singleton, Prod.mk.injEq] at h
      obtain ⟨rfl, rfl⟩ := h
      obtain ⟨c, rfl⟩ := trod_single hx (fun fs hu => hs fs hu) (fun k e hu => ha k e hu)
      exact ⟨Nat.le_refl _, c, n, x, by simp, hx⟩
/-- All cells whole numbers of 64 bits. -/
theorem ints_trod {t ti : TypeId} {f k n : Nat} {cs : List Value} {x : DataW H × List MemPlace} (hl : leavesAt P f 0 t = (List.range k).map fun i => (i, ti)) (hti : P.underlying ti = some (.int .i64)) (hk : cs.length = k)
    (h : DataW.trod enc P w base spare held n t cs = some x) : ∃ g : Nat → Int, cs = (List.range k).map (fun i => .int .i64 (g i)) ∧ ∀ i, i < k → -9223372036854775808 ≤ g i ∧ g i ≤ 9223372036854775807 := by
  have each : ∀ i, i < k → ∃ a : Int, cs[i]? = some (.int .i64 a) ∧ (-9223372036854775808 ≤ a ∧ a ≤ 9223372036854775807) := fun i hi => by
    obtain ⟨_, c, m, y, hc, hy⟩ := leaf_trod f t 0 i ti (by rw [hl]; exact List.mem_map.2 ⟨i, List.mem_range.2 hi, rfl⟩) n cs x h
    obtain ⟨a, e0, _, wa⟩ := DataW.trod_int hti hy
    simp at e0
    subst e0
    exact ⟨a, by simpa using hc, bounds_i64 wa⟩
  refine ⟨fun i => if h : i < k then Classical.choose (each i h) else 0, ?_, fun i hi => by simp only [hi, dif_pos]; exact (Classical.choose_spec (each i hi)).2⟩
  apply List.ext_getElem?
  intro i
  by_cases hi : i < k
  · rw [(Classical.choose_spec (each i hi)).1]
    simp [hi]
  · rw [List.getElem?_eq_none (by omega), List.getElem?_eq_none (by simp; omega)]
theorem open_ints_agg {r : Reach} {b0 : Nat} {t ti : TypeId} {fs : Array Field} {f k : Nat} {v : Value} {d : DataW H} {p : List MemPlace} (hs : P.underlying t = some (.struct fs)) (hC : P.cellsOf t = k) (hl : leavesAt P f 0 t = (List.range k).map fun i => (i, ti)) (hti : P.underlying ti = some (.int .i64))
    (hv : Value.okWide P w r b0 t v) (h : DataW.Trod enc P w base spare held t v d p) : ∃ g : Nat → Int, v = .agg ((List.range k).map fun i => .int .i64 (g i)).toArray ∧ ∀ i, i < k → -9223372036854775808 ≤ g i ∧ g i ≤ 9223372036854775807 := by
  obtain ⟨cs, rfl, hsz⟩ := okWide_struct hs hv
  obtain ⟨n, hn⟩ := h
  obtain ⟨g, hg, hb⟩ := ints_trod hl hti (by simpa [Value.cells] using hsz.trans hC) hn
  refine ⟨g, ?_, hb⟩
  simp only [Value.cells] at hg
  rw [← hg]
end
end Go.Proofs.Ytpdnaceggpdleab
namespace Go.Proofs.Ytpdnaceggpdleab
open Go.ChangeShapes Go.WideShapes Go.ChangeAt Go.RowKit
set_option linter.unusedVariables false
set_option linter.unusedSimpArgs false
section
variable {H : Type}
theorem addr_addN (b off k : Nat) : (⟨b, off, none⟩ : Addr).add k = ⟨b, off + k, none⟩ := by
  unfold Addr.add
  split <;> simp_all
theorem weights_mem_all {P : Program} {e : TypeId} : ∀ {ds : List (DataW H)} {d : DataW H}, d ∈ ds → ∀ n ∈ d.weights P e, n ∈ DataW.weightsAll P e ds
  | [], _, h, _, _ => by cases h
  | d0 :: ds, d, h, n, hn => by
    simp only [DataW.weightsAll, List.mem_append]
    rcases List.mem_cons.1 h with rfl | h
    · exact .inl hn
    · exact .inr (weights_mem_all h n hn)
/-- Cells that read as data of a type, no slice or string of which weighs more than the form's reach. -/
def TW (enc : TypeId × Value → H) (P : Program) (w : World) (base : Nat) (spare : Nat → Bool) (held : Bool) (t : TypeId) (cs : List Value) : Prop :=
  ∃ (fuel : Nat) (x : DataW H × List MemPlace), DataW.trod enc P w base spare held fuel t cs = some x ∧ ∀ n ∈ x.1.weights P t, n ≤ reachBytes
variable {enc : TypeId × Value → H} {P : Program} {w : World} {base : Nat} {spare : Nat → Bool} {held : Bool}
theorem tw_leaf : ∀ (f : Nat) (t : TypeId) (off0 o : Nat) (lt : TypeId), (o, lt) ∈ leavesAt P f off0 t → ∀ (cs : List Value), TW enc P w base spare held t cs →
    off0 ≤ o ∧ ∃ c, cs[o - off0]? = some c ∧ TW enc P w base spare held lt [c]
  | 0, _, _, _, _, h, _, _ => by simp [leavesAt] at h
  | f + 1, t, off0, o, lt, h, cs, ⟨fu, x, hx, hw⟩ => by
    unfold leavesAt at h
    split at h
    · rename_i fs hu
      obtain ⟨fd, hfd, hm⟩ := List.mem_flatMap.1 h
      obtain ⟨ys, n', _, hxe, hlen, hyl, hf⟩ := DataW.trod_struct hu hx
      obtain ⟨j, hj⟩ := List.getElem?_of_mem hfd
      have hj' : fs[j]? = some fd := by simpa using hj
      have h1 := hf j fd hj'
      have hjl : j < ys.length := by rw [hyl]; exact (Array.getElem?_eq_some_iff.1 hj').1
      rw [List.getElem?_eq_getElem hjl] at h1
      have hwj : ∀ n ∈ (ys[j]).1.weights P fd.type, n ≤ reachBytes := fun n hn => hw n (by
        rw [hxe]
        simp only [DataW.weights, hu]
        exact DataW.weights_mem_each (j := j) (t := fd.type) (d := ys[j].1) (by simp [hj']) (by simp [hjl]) n hn)
      obtain ⟨hle, c, hc, hy⟩ := tw_leaf f fd.type (off0 + fd.offset) o lt hm _ ⟨_, _, h1, hwj⟩
      refine ⟨by omega, c, ?_, hy⟩
      rw [List.getElem?_take] at hc
      split at hc
      · rw [List.getElem?_drop] at hc
        rw [← hc]; congr 1; omega
      · cases hc
    · rename_i k e hu
      obtain ⟨i, hi, hm⟩ := List.mem_flatMap.1 h
      rw [List.mem_range] at hi
      obtain ⟨ys, n', _, hxe, hlen, hyl, hf⟩ := DataW.trod_array hu hx
      have h1 := hf i hi
      have hjl : i < ys.length := by rw [hyl]; exact hi
      rw [List.getElem?_eq_getElem hjl] at h1
      have hwj : ∀ n ∈ (ys[i]).1.weights P e, n ≤ reachBytes := fun n hn => hw n (by
        rw [hxe]
        simp only [DataW.weights, hu]
        exact weights_mem_all (List.mem_map.2 ⟨ys[i], List.getElem_mem hjl, rfl⟩) n hn)
      obtain ⟨hle, c, hc, hy⟩ := tw_leaf f e (off0 + i * P.cellsOf e) o lt hm _ ⟨_, _, h1, hwj⟩
      refine ⟨by omega, c, ?_, hy⟩
      rw [List.getElem?_take] at hc
      split at hc
      · rw [List.getElem?_drop] at hc
        rw [← hc]; congr 1; omega
      · cases hc
    · rename_i hs ha
      simp only [List.mem_singleton, Prod.mk.injEq] at h
      obtain ⟨rfl, rfl⟩ := h
      obtain ⟨c, rfl⟩ := trod_single hx (fun fs hu => hs fs hu) (fun k e hu => ha k e hu)
      exact ⟨Nat.le_refl _, c, by simp, ⟨_, _, hx, hw⟩⟩
theorem tw_slice {t e : TypeId} {c : Value} {sz bz : Nat} (hu : P.underlying t = some (.slice e)) (hsz : P.cellsOf e = sz) (hbz : P.bytesOf e = bz) (h0 : 0 < sz) (h : TW enc P w base spare held t [c]) :
    ∃ (A : Option Addr) (n k : Nat) (rows : List (List Value)), c = .slice A n k ∧ rows.length = n ∧ n * bz ≤ reachBytes ∧
      (0 < n → ∃ b off, A = some ⟨b, off, none⟩ ∧ b < w.heap.size ∧ ∀ i (hi : i < rows.length), rows[i].length = sz ∧ ∀ j, j < sz → w.cell? ⟨b, off + i * sz + j, none⟩ = rows[i][j]?) ∧
      ∀ r ∈ rows, TW enc P w base spare held e r := by
  obtain ⟨fu, x, hx, hw⟩ := h
  rcases DataW.trod_slice hu hx with ⟨e0, _⟩ | ⟨a, len, cap, elems, rest, n, _, e0, hxe, hb, hl, hm, hlen, hel, _, _⟩
  · simp at e0
    exact ⟨none, 0, 0, [], e0, rfl, by simp, fun h => absurd h (by omega), fun r hr => by cases hr⟩
  · simp only [List.cons.injEq, and_true] at e0
    rw [hsz] at hel
    have each : ∀ i, i < len → ∃ cs', w.cells? base (a.add (i * sz)) sz = some cs' ∧ TW enc P w base spare held e cs' := fun i hi => by
      have h1 := hel i hi
      have hil : i < elems.length := by omega
      rw [List.getElem?_eq_getElem hil] at h1
      obtain ⟨cs', h2, h3⟩ := Option.bind_eq_some_iff.1 h1
      refine ⟨cs', h2, _, _, h3, fun n hn => hw n ?_⟩
      rw [hxe]
      simp only [DataW.weights, hu]
      exact List.mem_cons.2 (.inr (List.mem_append.2 (.inl (weights_mem_all (List.mem_map.2 ⟨elems[i], List.getElem_mem hil, rfl⟩) n hn))))
    obtain ⟨g, hg⟩ : ∃ g : Nat → List Value, ∀ i, i < len → w.cells? base (a.add (i * sz)) sz = some (g i) ∧ TW enc P w base spare held e (g i) :=
      ⟨fun i => if h : i < len then Classical.choose (each i h) else [], fun i hi => by simp only [hi, dif_pos]; exact Classical.choose_spec (each i hi)⟩
    refine ⟨some a, len, cap, (List.range len).map g, e0, by simp, ?_, fun hn => ?_, fun r hr => ?_⟩
    · have : (elems.length + rest.length) * bz ≤ reachBytes := hw _ (by
        rw [hxe]
        simp only [DataW.weights, hu, hbz, List.length_map]
        exact List.mem_cons_self)
      exact Nat.le_trans (Nat.mul_le_mul_right _ (by omega)) this
    · obtain ⟨b, o, s⟩ := a
      obtain ⟨_, hlen0, hat0⟩ := World.cells?_some (hg 0 hn).1
      have q0 := hat0 0 h0
      have hb0 : (⟨b, o, s⟩ : Addr).add (0 * sz) = ⟨b, o, s⟩ := by
        cases s <;> simp [Addr.add]
      rw [hb0] at q0
      have q1 : ∃ u, w.cell? ((⟨b, o, s⟩ : Addr).add 0) = some u := by
        rw [q0]
        exact ⟨(g 0)[0]'(by omega), List.getElem?_eq_getElem (by omega)⟩
      obtain ⟨u, hu0⟩ := q1
      have hs : b < w.heap.size ∧ s = none := by
        have : w.cell? ⟨b, (⟨b, o, s⟩ : Addr).add 0 |>.off, s⟩ = some u := by
          rw [← hu0]
          cases s <;> simp [Addr.add]
        unfold World.cell? at this
        rcases Nat.lt_or_ge b w.heap.size with hb | hb
        · refine ⟨hb, ?_⟩
          cases s with
          | none => rfl
          | some k =>
            simp only [Option.isSome_some, if_true] at this
            split at this <;> cases this
        · simp only [Array.getElem?_eq_none hb] at this; cases this
      obtain ⟨hlt, rfl⟩ := hs
      refine ⟨b, o, rfl, hlt, fun i hi => ?_⟩
      have hi' : i < len := by simpa using hi
      obtain ⟨_, hl2, hat⟩ := World.cells?_some (hg i hi').1
      simp only [List.getElem_map, List.getElem_range]
      refine ⟨hl2, fun j hj => ?_⟩
      have := hat j hj
      rw [addr_addN, addr_addN] at this
      exact this
    · obtain ⟨i, hi, rfl⟩ := List.mem_map.1 hr
      exact (hg i (by simpa using hi)).2
theorem list_of {α β : Type} (f : β → α) (Q : β → Prop) : ∀ (l : List α), (∀ r ∈ l, ∃ q, r = f q ∧ Q q) → ∃ ps : List β, l = ps.map f ∧ ∀ q ∈ ps, Q q
  | [], _ => ⟨[], rfl, fun q hq => by cases hq⟩
  | a :: l, h => by
    obtain ⟨q, rfl, hq⟩ := h a (by simp)
    obtain ⟨ps, hl, hps⟩ := list_of f Q l (fun r hr => h r (by simp [hr]))
    refine ⟨q :: ps, by rw [hl]; rfl, fun p hp => ?_⟩
    rcases List.mem_cons.1 hp with rfl | hp
    · exact hq
    · exact hps p hp
end
end Go.Proofs.Ytpdnaceggpdleab
