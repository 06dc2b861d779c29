/- A row's length is within its room: of a cage's vertices. -/
import Derived.Test.YthpdplpjpopenaaC2
namespace Go.Proofs.Ythpdplpjpopenaa
open Go.RowKit
set_option linter.unusedVariables false
set_option linter.unusedSimpArgs false
section
variable {H : Type} {enc : TypeId × Value → H} {w : World} {base : Nat} {spare : Nat → Bool} {held : Bool}
theorem tw_cap {t e : TypeId} {A : Option Addr} {n k : Nat} (hu : Try.prog.underlying t = some (.slice e)) (h : TW enc Try.prog w base spare held t [.slice A n k]) : n ≤ k := by
  obtain ⟨fu, x, hx, hw⟩ := h
  rcases DataW.trod_slice hu hx with ⟨e0, _⟩ | ⟨a, len, cap, elems, rest, m, _, e0, hxe, hb, hl, hm, hlen, hel, _, _⟩
  · simp at e0; omega
  · simp at e0; omega
theorem cage_cap {A1 A2 A3 : Option Addr} {n1 n2 n3 k1 k2 k3 : Nat} (h : TW enc Try.prog w base spare held 26 [.slice A1 n1 k1, .slice A2 n2 k2, .slice A3 n3 k3]) : n1 ≤ k1 := by
  obtain ⟨_, d0, hc0, ht0⟩ := tw_leaf 10 26 0 0 22 (by rw [lvCg]; simp) _ h
  obtain rfl : d0 = .slice A1 n1 k1 := by simpa [eq_comm] using hc0
  exact tw_cap Try.underlying22 ht0
end
end Go.Proofs.Ythpdplpjpopenaa
