/- An argument that is a texture, opened. Arguments opened: points, boxes, rows of points. Arguments opened: points and triangles. Arguments opened: arrays of four and of sixteen points. -/
import Derived.Test.YteigionfaodafaaProg
import Derived.Test.YteigionfaodafaaC0
import Derived.Test.YteigionfaodafaaC1
import Derived.Test.YteigionfaodafaaC3
import Derived.Test.YteigionfaodafaaC4
import Derived.Test.YteigionfaodafaaC5
import Derived.Test.YteigionfaodafaaC6
namespace Go.Proofs.Yteigionfaodafaa
open Go.ChangeShapes Go.WideShapes Go.ChangeAt Go.RowKit
set_option linter.unusedVariables false
set_option linter.unusedSimpArgs false
set_option maxRecDepth 100000
section
variable {H : Type} {enc : TypeId × Value → H} {w : World} {base : Nat} {spare : Nat → Bool} {held : Bool}
theorem szTx : Try.prog.cellsOf 24 = 4 := by kernel_rfl
theorem lvTx : leavesAt Try.prog 10 0 24 = [(0, 9), (1, 3), (2, 3), (3, 22)] := by kernel_rfl
theorem open_Tex {cs : List Value} (hlen : cs.length = 4) (h : TW enc Try.prog w base spare held 24 cs) : ∃ (nm : ByteArray) (tw th : Int) (A : Option Addr) (k : Nat) (rows : List Int), cs = [.string nm, .int .i64 tw, .int .i64 th, .slice A rows.length k] ∧ (i64B tw ∧ i64B th) ∧ rows.length ≤ reachBytes ∧ IL w A rows := by
  obtain ⟨_, c0, hc0, ht0⟩ := tw_leaf 10 24 0 0 9 (by rw [lvTx]; simp) cs h
  obtain ⟨_, c1, hc1, ht1⟩ := tw_leaf 10 24 0 1 3 (by rw [lvTx]; simp) cs h
  obtain ⟨_, c2, hc2, ht2⟩ := tw_leaf 10 24 0 2 3 (by rw [lvTx]; simp) cs h
  obtain ⟨_, c3, hc3, ht3⟩ := tw_leaf 10 24 0 3 22 (by rw [lvTx]; simp) cs h
  obtain ⟨nm, rfl, hnm⟩ := tw_str Try.underlying9 ht0
  obtain ⟨x, rfl, hx⟩ := tw_int Try.underlying3 ht1
  obtain ⟨y, rfl, hy⟩ := tw_int Try.underlying3 ht2
  obtain ⟨A, k, l, rfl, h2, h3, h4⟩ := tw_intsF ht3
  refine ⟨⟨nm.toArray⟩, x, y, A, k, l, ext_k hlen rfl (fun i hi => ?_), ⟨hx, hy⟩, h2, h4⟩
  rcases (by omega : i = 0 ∨ i = 1 ∨ i = 2 ∨ i = 3) with rfl | rfl | rfl | rfl
  · simpa using hc0
  · simpa using hc1
  · simpa using hc2
  · simpa using hc3
end
end Go.Proofs.Yteigionfaodafaa
namespace Go.Proofs.Yteigionfaodafaa
open Go.ChangeShapes Go.WideShapes Go.ChangeAt Go.RowKit
set_option linter.unusedVariables false
set_option linter.unusedSimpArgs false
set_option maxRecDepth 100000
section
variable {H : Type} {enc : TypeId × Value → H} {w : World} {base b0 : Nat} {spare : Nat → Bool} {held : Bool} {v : Value} {d : DataW H} {p : List MemPlace} {r : Reach}
def In64 (a : Int) : Prop := -9223372036854775808 ≤ a ∧ a ≤ 9223372036854775807
theorem open_int64 (hv : Value.okWide Try.prog w r b0 3 v) (h : DataW.Trod enc Try.prog w base spare held 3 v d p) : ∃ a : Int, v = .int .i64 a ∧ In64 a := by
  obtain ⟨a, rfl, _, _, wa⟩ := open_int Try.underlying3 hv h
  exact ⟨a, rfl, bounds_i64 wa⟩
end
end Go.Proofs.Yteigionfaodafaa
namespace Go.Proofs.Yteigionfaodafaa
open Go.ChangeShapes Go.WideShapes Go.ChangeAt Go.RowKit
set_option linter.unusedVariables false
set_option linter.unusedSimpArgs false
variable {H : Type} {enc : TypeId × Value → H} {w : World} {base b0 : Nat} {spare : Nat → Bool} {held : Bool} {v : Value} {d : DataW H} {p : List MemPlace} {r : Reach}
def In3 (a : P3) : Prop := In64 a.x ∧ In64 a.y ∧ In64 a.z
end Go.Proofs.Yteigionfaodafaa
namespace Go.Proofs.Yteigionfaodafaa
open Go.ChangeShapes Go.WideShapes Go.ChangeAt Go.RowKit
set_option linter.unusedVariables false
set_option linter.unusedSimpArgs false
section
variable {H : Type} {enc : TypeId × Value → H} {w : World} {base b0 : Nat} {spare : Nat → Bool} {held : Bool} {v : Value} {d : DataW H} {p : List MemPlace} {r : Reach}
theorem okWide_array {P : Program} {t e : TypeId} {n : Nat} (ht : P.underlying t = some (.array n e)) (h : Value.okWide P w r b0 t v) : ∃ cs, v = .agg cs ∧ cs.size = P.cellsOf t := by
  unfold Value.okWide at h
  rw [ht] at h
  obtain ⟨cs, h1, h2, _⟩ := h
  exact ⟨cs, h1, h2⟩
theorem open_ints_arr {P : Program} {t ti e : TypeId} {m f k : Nat} (hs : P.underlying t = some (.array m e)) (hC : P.cellsOf t = k) (hl : leavesAt P f 0 t = (List.range k).map fun i => (i, ti)) (hti : P.underlying ti = some (.int .i64))
    (hv : Value.okWide P w r b0 t v) (h : DataW.Trod enc P w base spare held t v d p) : ∃ g : Nat → Int, v = .agg ((List.range k).map fun i => .int .i64 (g i)).toArray ∧ ∀ i, i < k → -9223372036854775808 ≤ g i ∧ g i ≤ 9223372036854775807 := by
  obtain ⟨cs, rfl, hsz⟩ := okWide_array hs hv
  obtain ⟨n, hn⟩ := h
  obtain ⟨g, hg, hb⟩ := ints_trod hl hti (by simpa [Value.cells] using hsz.trans hC) hn
  refine ⟨g, ?_, hb⟩
  simp only [Value.cells] at hg
  rw [← hg]
theorem ptsC_of (n : Nat) (g : Nat → Int) : ((List.range (n * 3)).map fun i => Value.int .i64 (g i)).toArray = ptsC n fun k => ⟨g (k * 3), g (k * 3 + 1), g (k * 3 + 2)⟩ := by
  unfold ptsC rowCs
  congr 1
  apply List.map_congr_left
  intro j _
  unfold qC
  rcases (by omega : j % 3 = 0 ∨ j % 3 = 1 ∨ j % 3 = 2) with e | e | e
  · rw [if_pos e]; simp only []; rw [show j / 3 * 3 = j by omega]
  · rw [if_neg (by omega), if_pos e]; simp only []; rw [show j / 3 * 3 + 1 = j by omega]
  · rw [if_neg (by omega), if_neg (by omega)]; simp only []; rw [show j / 3 * 3 + 2 = j by omega]
theorem cellsA4 : Try.prog.cellsOf 27 = 12 := by kernel_rfl
theorem leavesA4 : leavesAt Try.prog 10 0 27 = (List.range 12).map fun i => (i, 3) := by kernel_rfl
theorem open_A4 (hv : Value.okWide Try.prog w r b0 27 v) (h : DataW.Trod enc Try.prog w base spare held 27 v d p) :
    ∃ q : Nat → P3, v = .agg (ptsC 4 q) ∧ ∀ k, k < 4 → In3 (q k) := by
  obtain ⟨g, rfl, hb⟩ := open_ints_arr Try.underlying27 cellsA4 leavesA4 Try.underlying3 hv h
  exact ⟨fun k => ⟨g (k * 3), g (k * 3 + 1), g (k * 3 + 2)⟩, by rw [← ptsC_of 4 g], fun k hk => ⟨hb _ (by omega), hb _ (by omega), hb _ (by omega)⟩⟩
end
end Go.Proofs.Yteigionfaodafaa
