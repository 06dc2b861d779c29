/- A row's length within its room, all that a copy asks: of a cage's vertices and creases. -/
import Derived.Test.YthpdplpjpopenaaC0
import Derived.Test.YthpdplpjpopenaaC2
import Derived.Test.YthpdplpjpopenaaC7
namespace Go.Proofs.Ythpdplpjpopenaa
open Go.RowKit
set_option linter.unusedVariables false
set_option linter.unusedSimpArgs false
section
variable {H : Type} {enc : TypeId × Value → H} {w : World} {base : Nat} {spare : Nat → Bool} {held : Bool}
theorem tw_sl {t e : TypeId} {A : Option Addr} {n k : Nat} (hu : Try.prog.underlying t = some (.slice e)) (h : TW enc Try.prog w base spare held t [.slice A n k]) : SL A n k := by
  obtain ⟨fu, x, hx, hw⟩ := h
  rcases DataW.trod_slice hu hx with ⟨e0, _⟩ | ⟨a, len, cap, elems, rest, m, _, e0, hxe, hb, hl, hm, hlen, hel, _, _⟩
  · simp at e0
    obtain ⟨rfl, rfl, rfl⟩ := e0
    exact ⟨Nat.le_refl _, by unfold maxLen; omega, fun _ => rfl⟩
  · simp at e0
    obtain ⟨rfl, rfl, rfl⟩ := e0
    exact ⟨hl, hm, fun h => by cases h⟩
theorem cage_sl {A1 A2 A3 : Option Addr} {n1 n2 n3 k1 k2 k3 : Nat} (h : TW enc Try.prog w base spare held 26 [.slice A1 n1 k1, .slice A2 n2 k2, .slice A3 n3 k3]) : SL A1 n1 k1 ∧ SL A3 n3 k3 := by
  obtain ⟨_, d0, hc0, ht0⟩ := tw_leaf 10 26 0 0 22 (by rw [lvCg]; simp) _ h
  obtain ⟨_, d2, hc2, ht2⟩ := tw_leaf 10 26 0 2 24 (by rw [lvCg]; simp) _ h
  obtain rfl : d0 = .slice A1 n1 k1 := by simpa [eq_comm] using hc0
  obtain rfl : d2 = .slice A3 n3 k3 := by simpa [eq_comm] using hc2
  exact ⟨tw_sl Try.underlying22 ht0, tw_sl Try.underlying24 ht2⟩
set_option maxRecDepth 100000 in
theorem open_P {r : Reach} {b0 : Nat} {v : Value} {d : DataW H} {p : List MemPlace} (hv : Value.okWide Try.prog w r b0 40 v) (h : DataW.Trod enc Try.prog w base spare held 40 v d p) : ∃ a : P3, v = .agg #[.int .i64 a.x, .int .i64 a.y, .int .i64 a.z] ∧ I3 a := by
  obtain ⟨g, rfl, hb⟩ := open_ints_agg Try.underlying40 szV lvV Try.underlying3 hv h
  have h0 := hb 0 (by omega)
  have h1 := hb 1 (by omega)
  have h2 := hb 2 (by omega)
  exact ⟨⟨g 0, g 1, g 2⟩, rfl, h0, h1, h2⟩
end
end Go.Proofs.Ythpdplpjpopenaa
