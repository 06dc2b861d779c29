/- Rows of points, and contracts of Bound. -/
import Derived.Test.YtgfgaaecpdbgeaaVec4
import Derived.Test.YtgfgaaecpdbgeaaRegion
import Derived.RegionTactic
import Derived.BigRegion
import Derived.Deep.RegionHeld3
namespace Go.Proofs.Ytgfgaaecpdbgeaa
open Go.RowKit
set_option linter.unusedVariables false
set_option linter.unusedSimpArgs false
/-- A row of n points lies from an address on. -/
def VF (W : World) (A : Option Addr) (n : Nat) (p : Nat → Int × Int × Int) : Prop :=
  0 < n → ∃ b off, A = some ⟨b, off, none⟩ ∧ b < W.heap.size ∧ ∀ i, i < n → W.cell? ⟨b, off + i * 3, none⟩ = some (.int .i64 (p i).1) ∧ W.cell? ⟨b, off + i * 3 + 1, none⟩ = some (.int .i64 (p i).2.1) ∧ W.cell? ⟨b, off + i * 3 + 2, none⟩ = some (.int .i64 (p i).2.2)
theorem VF.below {W W' : World} {A : Option Addr} {n : Nat} {p : Nat → Int × Int × Int} (h : VF W A n p) (hb : Below W.heap.size W W') : VF W' A n p := fun hn => by
  obtain ⟨b, off, e, hl, hc⟩ := h hn
  refine ⟨b, off, e, Nat.lt_of_lt_of_le hl hb.size, fun i hi => ?_⟩
  obtain ⟨h1, h2, h3⟩ := hc i hi
  exact ⟨(hb.cell (p := ⟨b, _, none⟩) hl).trans h1, (hb.cell (p := ⟨b, _, none⟩) hl).trans h2, (hb.cell (p := ⟨b, _, none⟩) hl).trans h3⟩
def joinP (b : (Int × Int × Int) × (Int × Int × Int)) (q : Int × Int × Int) : (Int × Int × Int) × (Int × Int × Int) :=
  ((min b.1.1 q.1, min b.1.2.1 q.2.1, min b.1.2.2 q.2.2), (max b.2.1 q.1, max b.2.2.1 q.2.1, max b.2.2.2 q.2.2))
/-- The least box of the points up to number k. -/
def boxF (p : Nat → Int × Int × Int) : Nat → (Int × Int × Int) × (Int × Int × Int)
  | 0 => (p 0, p 0)
  | k + 1 => joinP (boxF p k) (p (k + 1))
/-- The same, as the document's own goes on. -/
def boxG (p : Nat → Int × Int × Int) : Nat → (Int × Int × Int) × (Int × Int × Int)
  | 0 => (p 0, p 0)
  | k + 1 => joinP (boxG p k) (p k)
theorem boxG_eq (p : Nat → Int × Int × Int) : ∀ k, boxG p (k + 1) = boxF p k
  | 0 => by
    show joinP (p 0, p 0) (p 0) = (p 0, p 0)
    unfold joinP
    simp [Int.min_self, Int.max_self]
  | k + 1 => by
    show joinP (boxG p (k + 1)) (p (k + 1)) = joinP (boxF p k) (p (k + 1))
    rw [boxG_eq p k]

end Go.Proofs.Ytgfgaaecpdbgeaa
