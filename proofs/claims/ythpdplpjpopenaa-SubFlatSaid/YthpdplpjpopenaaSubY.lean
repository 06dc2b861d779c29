/- The box of a cage's vertices, called; what it holds. -/
import Derived.Test.YthpdplpjpopenaaSubX
import Derived.Test.YthpdplpjpopenaaC4
namespace Go.Proofs.Ythpdplpjpopenaa
open Go.RowKit
set_option linter.unusedVariables false
set_option linter.unusedSimpArgs false
theorem bound_any (w : World) (A : Option Addr) (k : Nat) (vs : List P3) (fs : List (List Int)) (ks : List P3) (hV : VL w A vs) (hk : vs.length ≤ k) (few : vs.length + fs.length + tot fs ≤ 1000000) :
    Calls Try.prog 17 #[.slice A vs.length k] w fun e w' => ∃ (lx ly lz hx hy hz : Int) (ok : Bool), e = .returned (.tuple #[.agg #[.int .i64 lx, .int .i64 ly, .int .i64 lz, .int .i64 hx, .int .i64 hy, .int .i64 hz], .bool ok]) ∧ (∃ x, w' = grow w x) ∧ (ok = true → ∀ (t : TopoT) (sh : List Int), TopoS (vs.length : Int) fs t → sharpP t.es ks = some sh → (∀ p ∈ vs, InP 65536 p) → ∀ p ∈ (levC ⟨vs, fs, ks⟩ t sh).vs, inB lx ly lz hx hy hz p.x p.y p.z = true) := by
  by_cases h0 : vs.length = 0
  · rw [h0]
    refine ((vBound_none A k).at_ w).mono ?_
    rintro e w' ⟨rfl, x, rfl⟩
    exact ⟨0, 0, 0, 0, 0, 0, false, rfl, ⟨x, rfl⟩, fun h => by cases h⟩
  · obtain ⟨n, hn⟩ : ∃ n, vs.length = n + 1 := ⟨vs.length - 1, by omega⟩
    have hF := hV.vf
    rw [hn] at hF ⊢
    refine (vBound_some w A n k (ptF vs) hF (by omega) (by omega)).mono ?_
    rintro e w' ⟨rfl, x, rfl⟩
    refine ⟨_, _, _, _, _, _, true, rfl, ⟨x, rfl⟩, fun _ t sh hT hs hf => ?_⟩
    rw [← hn] at hT
    exact lev_has (c := ⟨vs, fs, ks⟩) hT hs hf few n hn
end Go.Proofs.Ythpdplpjpopenaa
