/- The numbers that the document fixes for layer 2: alive answers true; facts on wrapped sums. A block whose cells are all known, in worlds that go on. No program is imported. Rows of structs of k cells, cell by cell. No program is imported. Package curve: what lies within bounds, weights, and points together; the closures that tell weights. Package curve: are all points within bounds? A cubic's weights, and the closures that tell them. Package curve: points together, each as often as its weight. -/
import Derived.Laws.Rows
import Derived.RegionTactic
import Derived.BigRegion
import Derived.Test.YteigionfaodafaaC0
import Derived.Test.YteigionfaodafaaC1
namespace Go.Proofs.Yteigionfaodafaa
open Go.RowKit
set_option linter.unusedVariables false
set_option linter.unusedSimpArgs false
theorem wrap_id {x : Int} (h0 : -9223372036854775808 ≤ x) (h1 : x ≤ 9223372036854775807) : wrap64 x = x := by unfold wrap64; omega
end Go.Proofs.Yteigionfaodafaa
namespace Go.Proofs.Yteigionfaodafaa
open Go.RowKit
set_option linter.unusedVariables false
set_option linter.unusedSimpArgs false
def Blk (W : World) (g : Nat) (t : TypeId) (cs : Array Value) : Prop := W.heap[g]? = some (.cells cs t (0, 0))
section
variable {W W' : World} {g : Nat} {t : TypeId} {cs : Array Value}
theorem Blk.lt (h : Blk W g t cs) : g < W.heap.size := (Array.getElem?_eq_some_iff.1 h).1
theorem Blk.cell (h : Blk W g t cs) (i : Nat) : W.cell? ⟨g, i, none⟩ = cs[i]? := cell_of_row W g i cs t (0, 0) h
theorem Blk.frozen (h : Blk W g t cs) (i : Nat) : W.frozen? ⟨g, i, none⟩ = false := by
  unfold Blk at h; simp [World.frozen?, h]
theorem Blk.new (W : World) (t : TypeId) (cs : Array Value) (g : Nat) (hg : g = W.heap.size) : Blk (W.alloc (.cells cs t)) g t cs := by
  subst hg; exact heap_alloc_new W _
theorem Blk.below (h : Blk W g t cs) (hb : Below W.heap.size W W') : Blk W' g t cs := (hb.block g h.lt).trans h
theorem Blk.alloc (h : Blk W g t cs) (o : Obj) : Blk (W.alloc o) g t cs := h.below (bel_alloc (Below.refl _ _) o)
theorem Blk.grow (h : Blk W g t cs) (x : More) : Blk (grow W x) g t cs := h.below (x.kept W)
theorem Blk.then (x y : More) (h : Blk (Go.Proofs.Yteigionfaodafaa.grow W x) g t cs) : Blk (Go.Proofs.Yteigionfaodafaa.grow W (x.then y)) g t cs := Blk.grow h y
theorem Blk.drew (h : Blk W g t cs) : Blk W.drew g t cs := h
theorem Blk.set (h : Blk W g t cs) (i : Nat) (u : Value) : Blk (W.setCell ⟨g, i, none⟩ u) g t (cs.setIfInBounds i u) := by
  unfold Blk at h ⊢
  simp [World.setCell, Array.getElem?_modify, h]
theorem Blk.setRow (h : Blk W g t cs) (cs' : Array Value) : Blk (W.setRow g cs') g t cs' := setRow_heap W g cs cs' t (0, 0) h
end
end Go.Proofs.Yteigionfaodafaa
namespace Go.Proofs.Yteigionfaodafaa
open Go.RowKit
set_option linter.unusedVariables false
set_option linter.unusedSimpArgs false
/-- The cells of n structs of k cells each. -/
def rowCs (k n : Nat) (h : Nat → Nat → Value) : Array Value := ((List.range (n * k)).map fun j => h (j / k) (j % k)).toArray
def setC (h : Nat → Nat → Value) (v j : Nat) (u : Value) : Nat → Nat → Value := fun a b => if a = v ∧ b = j then u else h a b
end Go.Proofs.Yteigionfaodafaa
namespace Go.Proofs.Yteigionfaodafaa
open Go.RowKit
set_option linter.unusedVariables false
set_option linter.unusedSimpArgs false
set_option linter.unnecessarySimpa false
set_option maxRecDepth 100000
/-- The cells of n points in a row. -/
def qC (f : Nat → P3) : Nat → Nat → Value := fun v j => .int .i64 (if j = 0 then (f v).x else if j = 1 then (f v).y else (f v).z)
def ptsC (n : Nat) (p : Nat → P3) : Array Value := rowCs 3 n (qC p)
def wi (q : P3) : Bool := wiB q.x q.y q.z 65536
end Go.Proofs.Yteigionfaodafaa
namespace Go.Proofs.Yteigionfaodafaa
open Go.RowKit
set_option linter.unusedVariables false
set_option linter.unusedSimpArgs false
set_option linter.unnecessarySimpa false
set_option maxRecDepth 100000
/-- Four weights in a block. -/
def WtB (W : World) (b : Nat) (u : Nat → Int) : Prop := b < W.heap.size ∧ ∀ k, k < 4 → W.cell? ⟨b, k, none⟩ = some (.int .i64 (u k))
theorem WtB.below {W W' : World} {b : Nat} {u : Nat → Int} (h : WtB W b u) (hb : Below W.heap.size W W') : WtB W' b u :=
  ⟨Nat.lt_of_lt_of_le h.1 hb.size, fun k hk => (hb.cell (p := ⟨b, k, none⟩) h.1).trans (h.2 k hk)⟩
theorem WtB.of {W : World} {b : Nat} {t : TypeId} {i n : Int} (h : Blk W b t #[.int .i64 (wt i n 0), .int .i64 (wt i n 1), .int .i64 (wt i n 2), .int .i64 (wt i n 3)]) : WtB W b (wt i n) := ⟨h.lt, fun k hk => by
  rw [h.cell]
  rcases (by omega : k = 0 ∨ k = 1 ∨ k = 2 ∨ k = 3) with rfl | rfl | rfl | rfl <;> rfl⟩
end Go.Proofs.Yteigionfaodafaa
namespace Go.Proofs.Yteigionfaodafaa
open Go.RowKit
set_option linter.unusedVariables false
set_option linter.unusedSimpArgs false
set_option linter.unnecessarySimpa false
set_option maxRecDepth 100000
def rnP (s : P3) (d : Int) : P3 := ⟨rnd s.x d, rnd s.y d, rnd s.z d⟩
end Go.Proofs.Yteigionfaodafaa
