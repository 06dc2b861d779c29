/- The document's next. -/
import Derived.Test.YtbehobojgeganaaTopU
namespace Go.Proofs.Ytbehobojgeganaa
open Go.RowKit
set_option linter.unusedVariables false
set_option linter.unusedSimpArgs false
set_option linter.unnecessarySimpa false
set_option maxRecDepth 100000

/-- The vertex behind (by 1) or ahead of (by -1) v in a face; -1: it isn't there. -/
def nextV (x : List Int) (v d : Int) : Int := match (List.range x.length).find? (fun i => x.getD i 0 == v) with
  | some i => x.getD (((i : Int) + (x.length : Int) + d) % (x.length : Int)).toNat 0
  | none => -1
theorem find_range {n i : Nat} {p : Nat → Bool} (hi : i < n) (hp : p i = true) (hb : ∀ j, j < i → p j = false) : (List.range n).find? p = some i := by
  have e : List.range n = List.range' 0 i ++ i :: List.range' (i + 1) (n - i - 1) := by
    rw [List.range_eq_range', show n = i + (1 + (n - i - 1)) by omega, ← List.range'_append_1, ← List.range'_append_1]
    simp [show i + (1 + (n - i - 1)) - i - 1 = n - i - 1 by omega]
  rw [e, List.find?_append]
  have : (List.range' 0 i).find? p = none := by
    rw [List.find?_eq_none]
    intro j hj
    simp only [List.mem_range'_1] at hj
    rw [hb j (by omega)]; simp
  rw [this]
  simp [hp]
theorem nextV_at {x : List Int} {v d : Int} {i : Nat} (hi : i < x.length) (hv : x.getD i 0 = v) (hb : ∀ j, j < i → x.getD j 0 ≠ v) : nextV x v d = x.getD (((i : Int) + (x.length : Int) + d) % (x.length : Int)).toNat 0 := by
  unfold nextV
  rw [find_range (i := i) hi (by simp only [hv]; simp) (fun j hj => by simpa using hb j hj)]
theorem nextV_no {x : List Int} {v d : Int} (hb : ∀ j, j < x.length → x.getD j 0 ≠ v) : nextV x v d = -1 := by
  unfold nextV
  have : (List.range x.length).find? (fun i => x.getD i 0 == v) = none := by
    rw [List.find?_eq_none]
    intro j hj
    simpa using hb j (by simpa using hj)
  rw [this]

set_option maxHeartbeats 4000000 in
theorem next_any (W : World) (A : Option Addr) (k : Nat) (x : List Int) (v d : Int) (hA : IL W A x) (hd : d = 1 ∨ d = -1) (hf : x.length < 1099511627776000) :
    Calls Try.prog 63 #[.slice A x.length k, .int .i64 v, .int .i64 d] W fun e W' => e = .returned (.int .i64 (nextV x v d)) ∧ Below W.heap.size W W' := by
  go_enter Try.func63, Try.ntmps63
  go_wp2
  go_loopw [7] (fun iv wr => ∃ i : Nat, iv = .int .i64 (i : Int) ∧ i ≤ x.length ∧ (∀ j, j < i → x.getD j 0 ≠ v) ∧ Below W.heap.size W wr) (fun iv _ => x.length - (intOf iv).toNat)
  case atStart => exact ⟨0, rfl, by omega, fun j h => absurd h (by omega), Below.refl _ _⟩
  case round =>
    obtain ⟨i, rfl, hil, hno, hbr⟩ := hrel
    by_cases hlt : i < x.length
    · obtain ⟨b2, off2, rfl, hb2, hc2⟩ := (hA.below hbr) (by omega)
      have m0 : 0 ≤ ((i : Int) + (x.length : Int) + d) % (x.length : Int) := Int.emod_nonneg _ (by omega)
      have m1 : ((i : Int) + (x.length : Int) + d) % (x.length : Int) < (x.length : Int) := Int.emod_lt_of_pos _ (by omega)
      have hat := @nextV_at x v d i hlt
      have hnn : 0 ≤ (i : Int) + (x.length : Int) + d := by omega
      have htm : ((i : Int) + (x.length : Int) + d).tmod (x.length : Int) = ((i : Int) + (x.length : Int) + d) % (x.length : Int) := Int.tmod_eq_emod_of_nonneg hnn
      obtain ⟨m, hm⟩ := Int.eq_ofNat_of_zero_le m0
      have hml : m < x.length := by omega
      have g1 := hc2 i hlt
      have g2 := hc2 m hml
      have e1 : x.getD i 0 = x[i] := by rw [List.getD_eq_getElem?_getD, List.getElem?_eq_getElem hlt]; rfl
      have e2 : x.getD m 0 = x[m] := by rw [List.getD_eq_getElem?_getD, List.getElem?_eq_getElem hml]; rfl
      rw [hm, Int.toNat_natCast, e2, e1] at hat
      rw [hm] at htm
      have hst : x[i] ≠ v → ∀ j, j < i + 1 → x.getD j 0 ≠ v := fun h j hj => by
        rcases Nat.lt_or_ge j i with hj2 | hj2
        · exact hno j hj2
        · obtain rfl : j = i := by omega
          rw [e1]; exact h
      clear hc2 e1 e2
      generalize x[i] = xa at *
      generalize x[m] = xb at *
      have k2 : (0 : Int) ≤ (i : Int) := by omega
      have k3 : (i : Int) < (x.length : Int) := by omega
      have k4 : (0 : Int) ≤ (m : Int) := by omega
      have k5 : (m : Int) < (x.length : Int) := by omega
      replace hat := Lib.hid hat
      replace hm := Lib.hid hm
      replace hst := Lib.hid hst
      by_cases d1 : xa = v
      · subst d1
        have r1 := hat.out rfl hno
        replace r1 := Lib.hid r1
        go_wp2
        go_ret
        exact ⟨by rw [r1.out]; rfl, by first | assumption | (repeat (first | with_reducible exact Below.refl _ _ | with_reducible assumption | with_reducible refine bel_then ?_ _ | with_reducible refine bel_grow ?_ _ | with_reducible refine bel_alloc ?_ _ | with_reducible refine bel_drew ?_ | with_reducible refine bel_drewN ?_ _))⟩
      · have d1b : (xa == v) = false := by simp [d1]
        have r1 := hst.out d1
        go_wp2
        go_roundw
        case rel => exact ⟨i + 1, by go_num, by omega, r1, by first | assumption | (repeat (first | with_reducible exact Below.refl _ _ | with_reducible assumption | with_reducible refine bel_then ?_ _ | with_reducible refine bel_grow ?_ _ | with_reducible refine bel_alloc ?_ _ | with_reducible refine bel_drew ?_ | with_reducible refine bel_drewN ?_ _))⟩
        case measure => simp [intOf]; omega
    · obtain rfl : i = x.length := by omega
      have r1 := nextV_no (d := d) hno
      replace r1 := Lib.hid r1
      go_wp2
      go_ret
      exact ⟨by rw [r1.out]; rfl, hbr⟩
end Go.Proofs.Ytbehobojgeganaa
