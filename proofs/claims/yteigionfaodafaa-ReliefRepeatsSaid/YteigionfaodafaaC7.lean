/- An argument that is a texture, opened. Arguments opened: points, boxes, rows of points. Arguments opened: points and triangles. Arguments opened: arrays of four and of sixteen points. -/
import Derived.Test.YteigionfaodafaaProg
import Derived.Test.YteigionfaodafaaC0
import Derived.Test.YteigionfaodafaaC1
import Derived.Test.YteigionfaodafaaC3
import Derived.Test.YteigionfaodafaaC4
import Derived.Test.YteigionfaodafaaC5
import Derived.Test.YteigionfaodafaaC6
namespace Go.Proofs.Yteigionfaodafaa
open Go.ChangeShapes Go.WideShapes Go.ChangeAt Go.RowKit
set_option linter.unusedVariables false
set_option linter.unusedSimpArgs false
set_option maxRecDepth 100000
section
variable {H : Type} {enc : TypeId × Value → H} {w : World} {base : Nat} {spare : Nat → Bool} {held : Bool}
theorem szTx : Try.prog.cellsOf 24 = 4 := by kernel_rfl
theorem lvTx : leavesAt Try.prog 10 0 24 = [(0, 9), (1, 3), (2, 3), (3, 22)] := by kernel_rfl
theorem open_Tex {cs : List Value} (hlen : cs.length = 4) (h : TW enc Try.prog w base spare held 24 cs) : ∃ (nm : ByteArray) (tw th : Int) (A : Option Addr) (k : Nat) (rows : List Int), cs = [.string nm, .int .i64 tw, .int .i64 th, .slice A rows.length k] ∧ (i64B tw ∧ i64B th) ∧ rows.length ≤ reachBytes ∧ IL w A rows := by
  obtain ⟨_, c0, hc0, ht0⟩ := tw_leaf 10 24 0 0 9 (by rw [lvTx]; simp) cs h
  obtain ⟨_, c1, hc1, ht1⟩ := tw_leaf 10 24 0 1 3 (by rw [lvTx]; simp) cs h
  obtain ⟨_, c2, hc2, ht2⟩ := tw_leaf 10 24 0 2 3 (by rw [lvTx]; simp) cs h
  obtain ⟨_, c3, hc3, ht3⟩ := tw_leaf 10 24 0 3 22 (by rw [lvTx]; simp) cs h
  obtain ⟨nm, rfl, hnm⟩ := tw_str Try.underlying9 ht0
  obtain ⟨x, rfl, hx⟩ := tw_int Try.underlying3 ht1
  obtain ⟨y, rfl, hy⟩ := tw_int Try.underlying3 ht2
  obtain ⟨A, k, l, rfl, h2, h3, h4⟩ := tw_intsF ht3
  refine ⟨⟨nm.toArray⟩, x, y, A, k, l, ext_k hlen rfl (fun i hi => ?_), ⟨hx, hy⟩, h2, h4⟩
  rcases (by omega : i = 0 ∨ i = 1 ∨ i = 2 ∨ i = 3) with rfl | rfl | rfl | rfl
  · simpa using hc0
  · simpa using hc1
  · simpa using hc2
  · simpa using hc3
end
end Go.Proofs.Yteigionfaodafaa
namespace Go.Proofs.Yteigionfaodafaa
open Go.ChangeShapes Go.WideShapes Go.ChangeAt Go.RowKit
set_option linter.unusedVariables false
set_option linter.unusedSimpArgs false
set_option maxRecDepth 100000
section
variable {H : Type} {enc : TypeId × Value → H} {w : World} {base b0 : Nat} {spare : Nat → Bool} {held : Bool} {v : Value} {d : DataW H} {p : List MemPlace} {r : Reach}
def In64 (a : Int) : Prop := -9223372036854775808 ≤ a ∧ a ≤ 9223372036854775807
theorem open_int64 (hv : Value.okWide Try.prog w r b0 3 v) (h : DataW.Trod enc Try.prog w base spare held 3 v d p) : ∃ a : Int, v = .int .i64 a ∧ In64 a := by
  obtain ⟨a, rfl, _, _, wa⟩ := open_int Try.underlying3 hv h
  exact ⟨a, rfl, bounds_i64 wa⟩
end
end Go.Proofs.Yteigionfaodafaa
namespace Go.Proofs.Yteigionfaodafaa
open Go.ChangeShapes Go.WideShapes Go.ChangeAt Go.RowKit
set_option linter.unusedVariables false
set_option linter.unusedSimpArgs false
variable {H : Type} {enc : TypeId × Value → H} {w : World} {base b0 : Nat} {spare : Nat → Bool} {held : Bool} {v : Value} {d : DataW H} {p : List MemPlace} {r : Reach}
end Go.Proofs.Yteigionfaodafaa
namespace Go.Proofs.Yteigionfaodafaa
open Go.ChangeShapes Go.WideShapes Go.ChangeAt Go.RowKit
set_option linter.unusedVariables false
set_option linter.unusedSimpArgs false
section
variable {H : Type} {enc : TypeId × Value → H} {w : World} {base b0 : Nat} {spare : Nat → Bool} {held : Bool} {v : Value} {d : DataW H} {p : List MemPlace} {r : Reach}
end
end Go.Proofs.Yteigionfaodafaa
