/- The copies, all changed, as Level takes them. -/
import Derived.Test.YthpdplpjpopenaaFlatK
import Derived.Test.YthpdplpjpopenaaC13
namespace Go.Proofs.Ythpdplpjpopenaa
open Go.RowKit
set_option linter.unusedVariables false
set_option linter.unusedSimpArgs false
theorem mov_i3 {vs : List P3} {b : P3} (hv : ∀ p ∈ vs, InP 32768 p) (hb : InP 16384 b) : ∀ p ∈ vs.map (movP b), I3 p := fun p hp => by
  obtain ⟨q, hq, rfl⟩ := List.mem_map.1 hp
  obtain ⟨x, y, z⟩ := hv q hq
  obtain ⟨bx, byy, bz⟩ := hb
  exact ⟨by simp only [movP]; unfold i64B; omega, by simp only [movP]; unfold i64B; omega, by simp only [movP]; unfold i64B; omega⟩
theorem fla_i3 {vs : List P3} {b : P3} (hv : ∀ p ∈ vs, InP 32768 p) (hb : InP 16384 b) : ∀ p ∈ vs.map (flaP b), I3 p := fun p hp => by
  obtain ⟨q, hq, rfl⟩ := List.mem_map.1 hp
  obtain ⟨x, y, z⟩ := hv q hq
  obtain ⟨bx, byy, bz⟩ := hb
  exact ⟨by simp only [flaP]; unfold i64B; omega, by simp only [flaP]; unfold i64B; omega, by simp only [flaP]; unfold i64B; omega⟩
section
variable {P : Nat} {C : Array Value} {b : P3} {M F : Nat} {B1 B2 B3 D1 D2 D3 : Option Addr} {d1 d2 d3 e1 e2 e3 : Nat} {vs : List P3} {fs : List (List Int)} {ks : List P3} {b1 b2 : Nat} {wr : World}
theorem KF.cg1 (h : KF P C b M F B1 B2 B3 D1 D2 D3 d1 d2 d3 e1 e2 e3 vs fs ks b1 b2 vs.length vs.length wr) (hv : ∀ p ∈ vs, InP 32768 p) (hb : InP 16384 b) (hi : ∀ q ∈ fs, ∀ x ∈ q, i64B x) (i3 : ∀ p ∈ ks, I3 p) (few : vs.length + fs.length + tot fs + ks.length ≤ 1000000) : CgV wr ⟨vs.map (movP b), fs, ks⟩ B1 B2 B3 :=
  ⟨mov_i3 hv hb, hi, i3, VL_own (base := b1) (c := d1) (e := 40) (by have := h.r1; rw [rowAt_all] at this; rw [List.length_map]; exact this), h.g1.fl, VL_own h.k1, by simp only [List.length_map]; omega⟩
theorem KF.cg2 (h : KF P C b M F B1 B2 B3 D1 D2 D3 d1 d2 d3 e1 e2 e3 vs fs ks b1 b2 vs.length vs.length wr) (hv : ∀ p ∈ vs, InP 32768 p) (hb : InP 16384 b) (hi : ∀ q ∈ fs, ∀ x ∈ q, i64B x) (i3 : ∀ p ∈ ks, I3 p) (few : vs.length + fs.length + tot fs + ks.length ≤ 1000000) : CgV wr ⟨vs.map (flaP b), fs, ks⟩ D1 D2 D3 :=
  ⟨fla_i3 hv hb, hi, i3, VL_own (base := b2) (c := e1) (e := 40) (by have := h.r2; rw [rowAt_all] at this; rw [List.length_map]; exact this), h.g2.fl, VL_own h.k2, by simp only [List.length_map]; omega⟩
end
end Go.Proofs.Ythpdplpjpopenaa
