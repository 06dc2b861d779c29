/- Arguments opened: points and triangles. What laws on layer 4 have in common: the range's answer in four letters; boxes as two points; alive. The document's own range: the loop. Long division of 128 bits by 64, two digits of 32 bits: the plain facts. No program is imported. The contract of math/bits.Div64. The contract of math/bits.Div64, whole. -/
import Derived.Deep.RegionHeld3
import Derived.Lib.Hide
import Derived.Deep.DeepCutAuto
import Derived.Deep.CutBlock
import Derived.Laws.Bits64b
import Derived.Lib.BitFns
import Derived.Test.YthadlpkdfnonjaaProg
import Derived.Test.YthadlpkdfnonjaaC0
import Derived.Test.YthadlpkdfnonjaaC1
import Derived.Test.YthadlpkdfnonjaaC7
namespace Go.Proofs.Ythadlpkdfnonjaa
open Go.ChangeShapes Go.WideShapes Go.ChangeAt Go.RowKit
set_option linter.unusedVariables false
set_option linter.unusedSimpArgs false
set_option maxRecDepth 100000
variable {H : Type} {enc : TypeId × Value → H} {w : World} {base b0 : Nat} {spare : Nat → Bool} {held : Bool} {v : Value} {d : DataW H} {p : List MemPlace} {r : Reach}
end Go.Proofs.Ythadlpkdfnonjaa
namespace Go.Proofs.Ythadlpkdfnonjaa
open Go.RowKit
set_option linter.unusedVariables false
set_option linter.unusedSimpArgs false
/-- What Range answers. -/
structure Rg where
  a : Fr
  b : Fr
  k : Bool
  e : Int
def rgV (o d l h : P3) : Rg := if rbB o d l h then (match rangeM o d l h with | none => ⟨⟨0, 0⟩, ⟨0, 0⟩, false, 0⟩ | some (a, b) => ⟨a, b, true, 0⟩) else ⟨⟨0, 0⟩, ⟨0, 0⟩, false, 21⟩
theorem slRange_any (o d l h : P3) : Gives Try.prog 26 #[.agg #[.int .i64 o.x, .int .i64 o.y, .int .i64 o.z], .agg #[.int .i64 d.x, .int .i64 d.y, .int .i64 d.z], .agg #[.int .i64 l.x, .int .i64 l.y, .int .i64 l.z, .int .i64 h.x, .int .i64 h.y, .int .i64 h.z]] (.tuple #[.agg #[.int .i64 (rgV o d l h).a.n, .int .i64 (rgV o d l h).a.d], .agg #[.int .i64 (rgV o d l h).b.n, .int .i64 (rgV o d l h).b.d], .bool (rgV o d l h).k, .int .i64 (rgV o d l h).e]) := by
  unfold rgV
  cases hb : rbB o d l h
  · exact slRange_no o d l h hb
  · cases hr : rangeM o d l h with
    | none => exact slRange_yes o d l h hb ⟨0, 0⟩ ⟨0, 0⟩ false (by rw [hr]; rfl)
    | some r => exact slRange_yes o d l h hb r.1 r.2 true (by rw [hr]; rfl)
theorem rg_no {o d l h : P3} (hb : rbB o d l h = false) : rgV o d l h = ⟨⟨0, 0⟩, ⟨0, 0⟩, false, 21⟩ := by unfold rgV; rw [hb]; rfl
theorem rg_none {o d l h : P3} (hb : rbB o d l h = true) (hr : rangeM o d l h = none) : rgV o d l h = ⟨⟨0, 0⟩, ⟨0, 0⟩, false, 0⟩ := by unfold rgV; rw [hb, hr]; rfl
theorem rg_some {o d l h : P3} {r : Fr × Fr} (hb : rbB o d l h = true) (hr : rangeM o d l h = some r) : rgV o d l h = ⟨r.1, r.2, true, 0⟩ := by unfold rgV; rw [hb, hr]; rfl
section
variable {H : Type} {enc : TypeId × Value → H} {w : World} {base b0 : Nat} {spare : Nat → Bool} {held : Bool} {v : Value} {d : DataW H} {p : List MemPlace} {r : Reach}
end
end Go.Proofs.Ythadlpkdfnonjaa
namespace Go.Proofs.Ythadlpkdfnonjaa
open Go.RowKit
set_option linter.unusedVariables false
set_option linter.unusedSimpArgs false
end Go.Proofs.Ythadlpkdfnonjaa
namespace Go.Proofs.Ythadlpkdfnonjaa
open Go.RowKit
set_option linter.unusedVariables false
set_option linter.unusedSimpArgs false
def digit (A b U v : Int) : Int := (U * 4294967296 + v) / (A * 4294967296 + b)
section
variable {A b U v q r : Int}
end
end Go.Proofs.Ythadlpkdfnonjaa
namespace Go.Proofs.Ythadlpkdfnonjaa
open Go.RowKit
set_option linter.unusedVariables false
set_option linter.unusedSimpArgs false

end Go.Proofs.Ythadlpkdfnonjaa
namespace Go.Proofs.Ythadlpkdfnonjaa
open Go.RowKit
set_option linter.unusedVariables false
set_option linter.unusedSimpArgs false

end Go.Proofs.Ythadlpkdfnonjaa
