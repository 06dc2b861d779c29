/- What a row's condition on the library's tables gives the walks. -/
import Derived.Test.YtdkgbdecmgligaaGreatDoorRows
import Derived.Test.YtdkgbdecmgligaaGreatDoorMLexQ
import Derived.Lib.LaidU8
import Derived.Shelf.Vars
import Derived.LaidMore
import Derived.Lay
namespace Go.Proofs.YtdkgbdecmgligaaGreatDoor
open Go.RowKit
set_option linter.unusedVariables false
set_option linter.unusedSimpArgs false
set_option maxRecDepth 100000
theorem tab_datum : (Rows.laid_strings_asciiSpace : DataW Unit) = Lib.tabData .u8 Lib.asciiSpaceTab := by kernel_rfl
theorem lt_of_var {P : Program} {w : World} {n : String} {g : Nat} {cs : Array Value} (hg : P.globalNamed n = some g) (h : w.var? P n = some cs) : g < w.heap.size := by
  unfold World.var? at h
  rw [hg] at h
  simp only [Option.bind_some, Option.bind_eq_bind] at h
  rcases Nat.lt_or_ge g w.heap.size with q | q
  · exact q
  · rw [Array.getElem?_eq_none q] at h; cases h
theorem tabs_of {W : World} {laid : List (String × DataW Unit)} (hm : ("strings.asciiSpace", Rows.laid_strings_asciiSpace) ∈ laid) (hL : laidMet Tryz.prog laid W) (hS : W.ShapedOpen Tryz.prog) : Tabs W := by
  obtain ⟨g, t, cs, fuel, p, hg, ht, hv, hd⟩ := Lib.laidMet.reads hL hm
  obtain rfl := Option.some.inj (gTab.symm.trans hg)
  have ty : (Tryz.prog.globals[0]?).map (·.type) = some 145 := by kernel_rfl
  obtain rfl := Option.some.inj (ty.symm.trans ht)
  have htab : Lib.TabIs Tryz.prog W "strings.asciiSpace" .u8 Lib.asciiSpaceTab := by
    unfold Lib.TabIs
    rw [tab_datum] at hd
    rw [hv, ← Lib.cells_of_tab Tryz.underlying145 Tryz.underlying5 (by kernel_rfl) (by kernel_rfl) hd]
  have hmax : ∃ m, W.cell? ⟨2, 0, none⟩ = some (.int .i64 m) :=
    cell_of_shapedOpen_int (t := 3) (zero := #[.int .i64 0]) hS (of_decide_eq_true (by kernel_rfl)) (by kernel_rfl) rfl (by kernel_rfl) (by kernel_rfl) Tryz.underlying3
  refine ⟨?_, lt_of_var gTab hv, hmax, htab⟩
  obtain ⟨m, h⟩ := hmax
  exact World.block_lt_of_cell? W ⟨2, 0, none⟩ h
end Go.Proofs.YtdkgbdecmgligaaGreatDoor
