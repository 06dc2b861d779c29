/- The laws of patch: a patch read out of a row; four points compared. -/
import Derived.DeepKeys
import Derived.Test.YtpdnaceggpdleabPatW
namespace Go.Proofs.Ytpdnaceggpdleab
open Go.RowKit
set_option linter.unusedVariables false
set_option linter.unusedSimpArgs false
set_option linter.unnecessarySimpa false
set_option maxRecDepth 100000
theorem rng_patch {W : World} {g n : Nat} {q : Nat → PtD} {t : TypeId} (h : Blk W g t (patC n q)) {v : Nat} (hv : v < n) : W.rangeAt g (v * 65) (q v).row.toList := fun j u hu => by
  have hj : j < 65 := by have := (List.getElem?_eq_some_iff.1 hu).1; rw [Array.length_toList, PtD.row_size] at this; exact this
  rw [cell_patch h hv hj, ← (q v).at_ hj]
  simpa using hu
theorem wfR {a : Int} (h : i64B a) : (Lit.int .i64 a).wf = true := by
  unfold i64B at h
  show (decide (IntKind.i64.min ≤ a) && decide (a ≤ IntKind.i64.max)) = true
  rw [show IntKind.i64.min = -9223372036854775808 by rfl, show IntKind.i64.max = 9223372036854775807 by rfl]
  simp only [Bool.and_eq_true, decide_eq_true_eq]
  exact h
theorem cellsVR : Try.prog.cellsOf 30 = 3 := by kernel_rfl
theorem cellsAR : Try.prog.cellsOf 41 = 12 := by kernel_rfl
theorem litR1 (n : Nat) {a : Int} (h : i64B a) : Try.prog.keyLits (n + 1) 3 [.int .i64 a] = some [.int .i64 a] := by
  unfold Program.keyLits
  rw [Try.underlying3]
  simp [wfR h]
theorem litR3 (n : Nat) {q : P3} (h : I3 q) : Try.prog.keyLits (n + 2) 30 [.int .i64 q.x, .int .i64 q.y, .int .i64 q.z] = some [.int .i64 q.x, .int .i64 q.y, .int .i64 q.z] := by
  unfold Program.keyLits
  rw [Try.underlying30]
  have c1 := litR1 n h.1
  have c2 := litR1 n h.2.1
  have c3 := litR1 n h.2.2
  have ci : Try.prog.cellsOf 3 = 1 := by kernel_rfl
  simp [cellsVR, ci, c1, c2, c3]
end Go.Proofs.Ytpdnaceggpdleab
