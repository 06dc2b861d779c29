/- The document's own numbers, as digits: contracts of its calls, part 7: to wide numbers. A block whose cells are all known, in worlds that go on. No program is imported. The document's own numbers, as digits: contracts of its calls, part 8: from wide numbers. The document's own numbers, as digits: contracts of its calls, part 9: sums. The document's own numbers, as digits: contracts of its calls, part 10: differences. Plain facts on products of digits. No program is imported. -/
import Derived.Laws.Rows
import Derived.Test.YthadlpkdfnonjaaC0
import Derived.Test.YthadlpkdfnonjaaC1
import Derived.Test.YthadlpkdfnonjaaC2
namespace Go.Proofs.Ythadlpkdfnonjaa
open Go.RowKit
set_option linter.unusedVariables false
set_option linter.unusedSimpArgs false
end Go.Proofs.Ythadlpkdfnonjaa
namespace Go.Proofs.Ythadlpkdfnonjaa
open Go.RowKit
set_option linter.unusedVariables false
set_option linter.unusedSimpArgs false
def Blk (W : World) (g : Nat) (t : TypeId) (cs : Array Value) : Prop := W.heap[g]? = some (.cells cs t (0, 0))
section
variable {W W' : World} {g : Nat} {t : TypeId} {cs : Array Value}
theorem Blk.lt (h : Blk W g t cs) : g < W.heap.size := (Array.getElem?_eq_some_iff.1 h).1
theorem Blk.cell (h : Blk W g t cs) (i : Nat) : W.cell? ⟨g, i, none⟩ = cs[i]? := cell_of_row W g i cs t (0, 0) h
theorem Blk.frozen (h : Blk W g t cs) (i : Nat) : W.frozen? ⟨g, i, none⟩ = false := by
  unfold Blk at h; simp [World.frozen?, h]
theorem Blk.new (W : World) (t : TypeId) (cs : Array Value) (g : Nat) (hg : g = W.heap.size) : Blk (W.alloc (.cells cs t)) g t cs := by
  subst hg; exact heap_alloc_new W _
theorem Blk.below (h : Blk W g t cs) (hb : Below W.heap.size W W') : Blk W' g t cs := (hb.block g h.lt).trans h
theorem Blk.alloc (h : Blk W g t cs) (o : Obj) : Blk (W.alloc o) g t cs := h.below (bel_alloc (Below.refl _ _) o)
theorem Blk.grow (h : Blk W g t cs) (x : More) : Blk (grow W x) g t cs := h.below (x.kept W)
theorem Blk.then (x y : More) (h : Blk (Go.Proofs.Ythadlpkdfnonjaa.grow W x) g t cs) : Blk (Go.Proofs.Ythadlpkdfnonjaa.grow W (x.then y)) g t cs := Blk.grow h y
theorem Blk.drew (h : Blk W g t cs) : Blk W.drew g t cs := h
theorem Blk.set (h : Blk W g t cs) (i : Nat) (u : Value) : Blk (W.setCell ⟨g, i, none⟩ u) g t (cs.setIfInBounds i u) := by
  unfold Blk at h ⊢
  simp [World.setCell, Array.getElem?_modify, h]
theorem Blk.far (h : Blk W g t cs) {b : Nat} (i : Nat) (u : Value) (hb : b ≠ g) : Blk (W.setCell ⟨b, i, none⟩ u) g t cs := by
  unfold Blk at h ⊢
  simp [World.setCell, Array.getElem?_modify, h, hb]
theorem Blk.setRow (h : Blk W g t cs) (cs' : Array Value) : Blk (W.setRow g cs') g t cs' := setRow_heap W g cs cs' t (0, 0) h
theorem Blk.farRow (h : Blk W g t cs) {b : Nat} (cs' : Array Value) (hb : b ≠ g) : Blk (W.setRow b cs') g t cs := (setRow_other W b g cs' (Ne.symm hb)).trans h
theorem Blk.ne_ {g' : Nat} {t' : TypeId} {cs' : Array Value} (h : Blk W g t cs) (h' : Blk W g' t' cs') (hne : t ≠ t') : g ≠ g' := by
  rintro rfl
  unfold Blk at h h'
  rw [h] at h'
  injection h' with h'
  injection h' with _ ht
  exact hne ht
end
end Go.Proofs.Ythadlpkdfnonjaa
namespace Go.Proofs.Ythadlpkdfnonjaa
open Go.RowKit
set_option linter.unusedVariables false
set_option linter.unusedSimpArgs false
end Go.Proofs.Ythadlpkdfnonjaa
namespace Go.Proofs.Ythadlpkdfnonjaa
open Go.RowKit
set_option linter.unusedVariables false
set_option linter.unusedSimpArgs false
end Go.Proofs.Ythadlpkdfnonjaa
namespace Go.Proofs.Ythadlpkdfnonjaa
open Go.RowKit
set_option linter.unusedVariables false
set_option linter.unusedSimpArgs false
end Go.Proofs.Ythadlpkdfnonjaa
namespace Go.Proofs.Ythadlpkdfnonjaa
set_option linter.unusedVariables false
set_option linter.unusedSimpArgs false
/-- Ahead of the inner round number k of the outer one number i: what is laid and what is carried come to the product of the lower digits. -/
structure TimesInv (A B : Nat) (i k : Nat) (D : Nat → Nat) (c : Nat) : Prop where
  dig : ∀ j, D j < 65536
  sum : valD D 18 + c * 65536 ^ (i + k) = A % 65536 ^ i * B + dN A i * 65536 ^ i * (B % 65536 ^ k)
  car : c < 65536
end Go.Proofs.Ythadlpkdfnonjaa
