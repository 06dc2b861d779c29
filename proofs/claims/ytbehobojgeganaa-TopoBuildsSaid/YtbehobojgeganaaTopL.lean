/- What all laws of layer 8 ask of a Build: its answer as one form. -/
import Derived.Test.YtbehobojgeganaaTopB
import Derived.Test.YtbehobojgeganaaOpenF
import Derived.Test.YtbehobojgeganaaOpenI
namespace Go.Proofs.Ytbehobojgeganaa
open Go.RowKit
set_option linter.unusedVariables false
set_option linter.unusedSimpArgs false
set_option maxRecDepth 100000
theorem len_tot {fs : List (List Int)} {x : List Int} (h : x ∈ fs) : x.length ≤ tot fs := by
  unfold tot
  induction fs with
  | nil => cases h
  | cons y r ih =>
    simp only [List.map_cons, List.sum_cons]
    rcases List.mem_cons.1 h with rfl | h
    · omega
    · have := ih h; omega
theorem tot_le (fs : List (List Int)) (f : Nat) : tot (fs.take f) ≤ tot fs := by
  have : tot fs = tot (fs.take f) + tot (fs.drop f) := by
    unfold tot
    rw [← List.sum_append, ← List.map_append, List.take_append_drop]
  omega
/-- Build's answer, as one value with its error. -/
structure BuiltP (W W' : World) (V : Int) (fs : List (List Int)) (A1 A2 A3 : Option Addr) (t : TopoT) (c1 c2 c3 : Nat) (ee : Int) : Prop where
  bel : Below W.heap.size W W'
  isV : TopoV W' A1 A2 A3 t
  good : (ee = 0 ∧ Surf V fs ∧ TopoS V fs t) ∨ (ee = 14 ∧ ¬ Surf V fs ∧ t = ⟨[], [], []⟩ ∧ A1 = none ∧ A2 = none ∧ A3 = none ∧ c1 = 0 ∧ c2 = 0 ∧ c3 = 0)
theorem built_any (W : World) (V : Int) (k : Nat) (fs : List (List Int)) (A : Option Addr) (hA : FL W A fs) (hV : i64B V) (hi : ∀ x ∈ fs, ∀ y ∈ x, i64B y) (hg : V ≤ 1099511627 ∧ fs.length + tot fs ≤ 1099511627) :
    Calls Try.prog 17 #[.int .i64 V, .slice A fs.length k] W fun e W' => ∃ A1 A2 A3 t c1 c2 c3 ee, e = .returned (.tuple #[.agg #[.slice A1 t.es.length c1, .slice A2 t.fans.length c2, .slice A3 t.rs.length c3], .int .i64 ee]) ∧ BuiltP W W' V fs A1 A2 A3 t c1 c2 c3 ee := by
  refine (build_any W V k fs A hA hV hi (by rw [waysL_len]; omega) (by omega) (fun x hx2 => by have := len_tot hx2; omega) (by omega)).mono ?_
  rintro e W' ⟨hb, ⟨hn, rfl⟩ | ⟨hs, t, A1, A2, A3, c1, c2, c3, hS, hV, rfl⟩⟩
  · exact ⟨none, none, none, ⟨[], [], []⟩, 0, 0, 0, 14, rfl, hb, ⟨fun h => by simp at h, fun h => by simp at h, fun h => by simp at h⟩, .inr ⟨rfl, hn, rfl, rfl, rfl, rfl, rfl, rfl, rfl⟩⟩
  · exact ⟨A1, A2, A3, t, c1, c2, c3, 0, rfl, hb, hV, .inl ⟨rfl, hs, hS⟩⟩
end Go.Proofs.Ytbehobojgeganaa
