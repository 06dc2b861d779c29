/- Contracts of Normal, of the side of all three edges, and of Side. Contracts of the document's own Bound, of copies and of sameness. Rows of points that a call makes: contracts of copies and of sameness. Calls in drawn regions by contracts at a world; what least boxes are like. Contracts of Meet. What triangles that are told otherwise come to. -/
import Derived.Maps.AppendAt
import Derived.Laws.AppendOwnNone
import Derived.Laws.OwnMore
import Derived.OwnWalk
import Derived.Test.YthadlpkdfnonjaaC2
import Derived.Test.YthadlpkdfnonjaaC5
namespace Go.Proofs.Ythadlpkdfnonjaa
open Go.RowKit
set_option linter.unusedVariables false
set_option linter.unusedSimpArgs false
/-- A line and a triangle within their bounds. -/
def bdB (o d a b c : P3) : Bool := lnB o d && (inB3 a && inB3 b && inB3 c)
/-- The side of all three edges; 0, if there is none. -/
def sd3 (s0 s1 s2 : Int) : Int := if s1 = s0 ∧ s2 = s0 then s0 else 0
def allS (o d a b c : P3) : Int := sd3 (pS o d c a) (pS o d a b) (pS o d b c)
end Go.Proofs.Ythadlpkdfnonjaa
namespace Go.Proofs.Ythadlpkdfnonjaa
open Go.RowKit
set_option linter.unusedVariables false
set_option linter.unusedSimpArgs false

end Go.Proofs.Ythadlpkdfnonjaa
namespace Go.Proofs.Ythadlpkdfnonjaa
open Go.RowKit
set_option linter.unusedVariables false
set_option linter.unusedSimpArgs false
/-- What a slice's value is like. -/
def SL (A : Option Addr) (n c : Nat) : Prop := n ≤ c ∧ c ≤ maxLen ∧ (A = none → c = 0)
def part (q : Int × Int × Int) (k : Nat) : Int := if k = 0 then q.1 else if k = 1 then q.2.1 else q.2.2
theorem add_lit (b off k : Nat) : (⟨b, off, none⟩ : Addr).add k = ⟨b, off + k, none⟩ := by
  unfold Addr.add; split <;> simp_all
theorem VF.cellAt {W : World} {b off n : Nat} {p : Nat → Int × Int × Int} (h : VF W (some ⟨b, off, none⟩) n p) (j : Nat) (hj : j < n * 3) : W.cell? ⟨b, off + j, none⟩ = some (.int .i64 (part (p (j / 3)) (j % 3))) := by
  obtain ⟨b', off', e, hl, hc⟩ := h (by omega)
  simp only [Option.some.injEq, Addr.mk.injEq, and_true] at e
  obtain ⟨rfl, rfl⟩ := e
  obtain ⟨h1, h2, h3⟩ := hc (j / 3) (by omega)
  have hm := Nat.mod_lt j (by omega : 0 < 3)
  have hd : j = j / 3 * 3 + j % 3 := by omega
  unfold part
  by_cases e0 : j % 3 = 0
  · rw [if_pos e0, ← h1]; congr 2; omega
  · by_cases e1 : j % 3 = 1
    · rw [if_neg e0, if_pos e1, ← h2]; congr 2; omega
    · rw [if_neg e0, if_neg e1, ← h3]; congr 2; omega
theorem VF.zero (W : World) (A : Option Addr) (p : Nat → Int × Int × Int) : VF W A 0 p := fun h => absurd h (by omega)
end Go.Proofs.Ythadlpkdfnonjaa
namespace Go.Proofs.Ythadlpkdfnonjaa
open Go.RowKit
set_option linter.unusedVariables false
set_option linter.unusedSimpArgs false
section
variable {P : Program} {f : FuncId} {args : Array Value} {v : Value} {w : World}
theorem q1 {y : More} (h : Calls P f args (grow w y) fun e w'' => e = .returned v ∧ ∃ z, w'' = grow (grow w y) z) : Calls P f args (grow w y) fun e w'' => e = .returned v ∧ ∃ z, w'' = grow w z :=
  h.mono fun _ _ ⟨he, z, hz⟩ => ⟨he, y.then z, hz⟩
theorem q2 {x y : More} (h : Calls P f args (grow w (x.then y)) fun e w'' => e = .returned v ∧ ∃ z, w'' = grow (grow w (x.then y)) z) : Calls P f args (grow w (x.then y)) fun e w'' => e = .returned v ∧ ∃ z, w'' = grow w (x.then z) :=
  h.mono fun _ _ ⟨he, z, hz⟩ => ⟨he, y.then z, hz⟩
end
/-! least boxes -/
/-! two rows one behind the other -/
end Go.Proofs.Ythadlpkdfnonjaa
namespace Go.Proofs.Ythadlpkdfnonjaa
open Go.RowKit
set_option linter.unusedVariables false
set_option linter.unusedSimpArgs false
/-! what Meet answers, out of the three numbers -/
def mK (st sd : Int) : Bool := decide (st ≠ 0 ∧ sd ≠ 0)
def mN (fa st sd : Int) : Int := if st ≠ 0 ∧ sd ≠ 0 then (if st < 0 then -fa else fa) else 0
def mD (st sd : Int) : Int := if st ≠ 0 ∧ sd ≠ 0 then (if st < 0 then -st else st) else 0
def mF (st sd : Int) : Bool := decide (st ≠ 0 ∧ sd ≠ 0 ∧ sd < 0)
def far (o a b c : P3) : Int := dt (nrm a b c) (sb a o)
def stp (d a b c : P3) : Int := dt (nrm a b c) d
/-- The numbers of a hit; noughts, where the line or a point is out of the bounds. -/
def hN (o d a b c : P3) : Int := if bdB o d a b c then mN (far o a b c) (stp d a b c) (allS o d a b c) else 0
def hD (o d a b c : P3) : Int := if bdB o d a b c then mD (stp d a b c) (allS o d a b c) else 0
def hF (o d a b c : P3) : Bool := bdB o d a b c && mF (stp d a b c) (allS o d a b c)
def hK (o d a b c : P3) : Bool := bdB o d a b c && mK (stp d a b c) (allS o d a b c)
def hE (o d a b c : P3) : Int := if bdB o d a b c then 0 else 21
end Go.Proofs.Ythadlpkdfnonjaa
namespace Go.Proofs.Ythadlpkdfnonjaa
set_option linter.unusedVariables false
set_option linter.unusedSimpArgs false
/-! the other way round -/
/-! from another corner -/
/-! moved -/
def ad (a b : P3) : P3 := ⟨a.x + b.x, a.y + b.y, a.z + b.z⟩
end Go.Proofs.Ythadlpkdfnonjaa
