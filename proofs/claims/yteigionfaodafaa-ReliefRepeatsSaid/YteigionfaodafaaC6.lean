/- The document's blends, lifted points, directions among four. Package topo: fan. Rows copied and compared; a point that the document fixes. Blends: told backwards, of one, at the ends, and where they lie. Rows of points that are read; cages that are handed in, opened. A row's length within its room, all that a copy asks: of a cage's vertices and creases. -/
import Derived.OwnWalk
import Derived.Maps.AppendAt
import Derived.Deep.Upon
import Derived.Deep.MidRow
import Derived.Test.YteigionfaodafaaC0
import Derived.Test.YteigionfaodafaaC1
import Derived.Test.YteigionfaodafaaC3
import Derived.Test.YteigionfaodafaaC4
import Derived.Test.YteigionfaodafaaC5
namespace Go.Proofs.Yteigionfaodafaa
open Go.RowKit
set_option linter.unusedVariables false
set_option linter.unusedSimpArgs false
set_option linter.unnecessarySimpa false
set_option maxRecDepth 100000
end Go.Proofs.Yteigionfaodafaa
namespace Go.Proofs.Yteigionfaodafaa
open Go.RowKit
set_option linter.unusedVariables false
set_option linter.unusedSimpArgs false
set_option linter.unnecessarySimpa false
set_option maxRecDepth 100000


end Go.Proofs.Yteigionfaodafaa
namespace Go.Proofs.Yteigionfaodafaa
open Go.RowKit
set_option linter.unusedVariables false
set_option linter.unusedSimpArgs false
set_option linter.unnecessarySimpa false
set_option maxRecDepth 100000
theorem cqr1 {P : Program} {f : FuncId} {args : Array Value} {v : Value} {w : World} (x : More) (h : Calls P f args (grow w x) fun e w' => e = .returned v ∧ ∃ y, w' = grow (grow w x) y) : Calls P f args (grow w x) fun e w'' => e = .returned v ∧ ∃ y, w'' = grow w y :=
  h.mono fun _ _ ⟨he, y, hy⟩ => ⟨he, x.then y, hy⟩
theorem cqr2 {P : Program} {f : FuncId} {args : Array Value} {v : Value} {w : World} (x y : More) (h : Calls P f args (grow w (x.then y)) fun e w' => e = .returned v ∧ ∃ z, w' = grow (grow w (x.then y)) z) : Calls P f args (grow w (x.then y)) fun e w'' => e = .returned v ∧ ∃ z, w'' = grow w (x.then z) :=
  h.mono fun _ _ ⟨he, z, hz⟩ => ⟨he, y.then z, hz⟩
theorem ilR_grow {W : World} {A : Option Addr} {l : List Int} (h : IL W A l) (x : More) : IL (grow W x) A l := h.below (x.kept W)
theorem il2 {W : World} {g : Nat} {t : TypeId} {a b : Int} (h : Blk W g t #[.int .i64 a, .int .i64 b]) : IL W (some ⟨g, 0, none⟩) [a, b] := fun _ => ⟨g, 0, rfl, h.lt, fun i hi => by
  rcases (by simp at hi; omega : i = 0 ∨ i = 1) with rfl | rfl
  · exact h.cell 0
  · exact h.cell 1⟩
theorem alive14_any : Gives Try.prog 8 #[] (.bool true) := by
  have k1 := lift_any ⟨5, 5, 5⟩ ⟨0, 0, 1023⟩ 255 10 (by omega) (by omega)
  rw [show lfP ⟨5, 5, 5⟩ ⟨0, 0, 1023⟩ 255 10 = ⟨5, 5, 15⟩ by kernel_rfl, show lfK ⟨5, 5, 5⟩ ⟨0, 0, 1023⟩ 255 10 = true by kernel_rfl] at k1
  have k2 : ∀ W' g, Blk W' g 3 #[.int .i64 7, .int .i64 9] → Calls Try.prog 10 #[.agg #[.string ⟨#[]⟩, .int .i64 2, .int .i64 1, .slice (some ⟨g, 0, none⟩) 2 2], .agg #[.int .i64 (-1), .int .i64 0, .int .i64 0]] W' fun e w' => e = .returned (.tuple #[.int .i64 9, .bool true]) ∧ ∃ x, w' = grow W' x := fun W' g h => by
    have := texel_any W' ⟨#[]⟩ 2 1 (some ⟨g, 0, none⟩) 2 [7, 9] (il2 h) (by simp) ⟨-1, 0, 0⟩
    rw [show texV 2 1 [7, 9] ⟨-1, 0, 0⟩ = 9 by kernel_rfl, show texK 2 1 [7, 9] ⟨-1, 0, 0⟩ = true by kernel_rfl] at this
    exact this
  refine Gives.mk fun w => ?_
  go_enter Try.func8, Try.ntmps8
  go_upto_region 2 with (first | (go_at_call 16; (with_reducible refine (k1.at_ _).mono ?_); rintro e w' ⟨rfl, xg, rfl⟩) | fail)
  have hB : Below w.heap.size w ((grow w xg).alloc (.cells #[.int .i64 5, .int .i64 5, .int .i64 15] 26)) := bel_alloc (bel_grow (Below.refl _ _) xg) _
  have hP : Blk ((grow w xg).alloc (.cells #[.int .i64 5, .int .i64 5, .int .i64 15] 26)) (grow w xg).heap.size 26 #[.int .i64 5, .int .i64 5, .int .i64 15] := Blk.new _ _ _ _ rfl
  generalize ((grow w xg).alloc (.cells #[.int .i64 5, .int .i64 5, .int .i64 15] 26)) = W1 at *
  generalize (grow w xg).heap.size = n at *
  have pl := hP.lt
  have c0 := hP.cell 0
  have c1 := hP.cell 1
  have c2 := hP.cell 2
  go_wp2_with (first | (go_at_call 10; (with_reducible refine (k2 _ _ (Blk.new _ _ _ _ rfl)).mono ?_); rintro e w' ⟨rfl, xh, rfl⟩) | fail)
  go_ret
  exact ⟨rfl, bel_trans hB (by repeat (first | exact Below.refl _ _ | refine bel_then ?_ _ | refine bel_grow ?_ _ | refine bel_alloc ?_ _ | refine bel_drew ?_ | refine bel_set ?_ (by simp) _ | refine bel_setRow ?_ (by first | omega | (simp; done) | (refine Nat.le_trans ?_ (top_le _ _); simp; done) | (refine Nat.le_succ_of_le (Nat.le_trans ?_ (top_le _ _)); simp; done) | (refine Nat.le_trans ?_ (top_le _ _); simp only [World.size_alloc]; refine Nat.le_succ_of_le (Nat.le_trans ?_ (top_le _ _)); simp; done)) _))⟩
end Go.Proofs.Yteigionfaodafaa
namespace Go.Proofs.Yteigionfaodafaa
open Go.RowKit
set_option linter.unusedVariables false
set_option linter.unusedSimpArgs false
end Go.Proofs.Yteigionfaodafaa
namespace Go.Proofs.Yteigionfaodafaa
open Go.ChangeShapes Go.WideShapes Go.ChangeAt Go.RowKit
set_option linter.unusedVariables false
set_option linter.unusedSimpArgs false
set_option maxRecDepth 100000
/-- A row of structs of three numbers that lies somewhere. -/
def VL (W : World) (A : Option Addr) (ps : List P3) : Prop := 0 < ps.length → ∃ b off, A = some ⟨b, off, none⟩ ∧ b < W.heap.size ∧ ∀ i (h : i < ps.length), W.cell? ⟨b, off + i * 3, none⟩ = some (.int .i64 ps[i].x) ∧ W.cell? ⟨b, off + i * 3 + 1, none⟩ = some (.int .i64 ps[i].y) ∧ W.cell? ⟨b, off + i * 3 + 2, none⟩ = some (.int .i64 ps[i].z)
theorem VL.below {W W' : World} {A : Option Addr} {ps : List P3} (h : VL W A ps) (hb : Below W.heap.size W W') : VL W' A ps := fun hn => by
  obtain ⟨b, off, e, hl, hc⟩ := h hn
  refine ⟨b, off, e, Nat.lt_of_lt_of_le hl hb.size, fun i hi => ?_⟩
  obtain ⟨h1, h2, h3⟩ := hc i hi
  exact ⟨(hb.cell (p := ⟨b, _, none⟩) hl).trans h1, (hb.cell (p := ⟨b, _, none⟩) hl).trans h2, (hb.cell (p := ⟨b, _, none⟩) hl).trans h3⟩
theorem VL.nil (W : World) (A : Option Addr) : VL W A [] := fun h => by simp at h
theorem VL.at_ {W : World} {A : Option Addr} {ps : List P3} (h : VL W A ps) (i : Nat) (hi : i < ps.length) : ∃ b off, A = some ⟨b, off, none⟩ ∧ b < W.heap.size ∧ W.cell? ⟨b, off + i * 3, none⟩ = some (.int .i64 ps[i].x) ∧ W.cell? ⟨b, off + i * 3 + 1, none⟩ = some (.int .i64 ps[i].y) ∧ W.cell? ⟨b, off + i * 3 + 2, none⟩ = some (.int .i64 ps[i].z) := by
  obtain ⟨b, off, e, hl, hc⟩ := h (by omega)
  exact ⟨b, off, e, hl, hc i hi⟩
/-- A point of machine numbers. -/
def I3 (p : P3) : Prop := i64B p.x ∧ i64B p.y ∧ i64B p.z
structure Cg where
  vs : List P3
  fs : List (List Int)
  ks : List P3
/-- What a cage that is handed in keeps. -/
structure RawC (W : World) (c : Cg) (A1 A2 A3 : Option Addr) : Prop where
  l1 : c.vs.length ≤ reachBytes
  l2 : c.fs.length ≤ reachBytes
  l3 : c.ks.length ≤ reachBytes
  i1 : ∀ p ∈ c.vs, I3 p
  i2 : ∀ q ∈ c.fs, q.length ≤ reachBytes ∧ (∀ x ∈ q, i64B x)
  i3 : ∀ p ∈ c.ks, I3 p
  v1 : VL W A1 c.vs
  v2 : FL W A2 c.fs
  v3 : VL W A3 c.ks
section
variable {H : Type} {enc : TypeId × Value → H} {w : World} {base : Nat} {spare : Nat → Bool} {held : Bool}
end
end Go.Proofs.Yteigionfaodafaa
namespace Go.Proofs.Yteigionfaodafaa
open Go.RowKit
set_option linter.unusedVariables false
set_option linter.unusedSimpArgs false
section
variable {H : Type} {enc : TypeId × Value → H} {w : World} {base : Nat} {spare : Nat → Bool} {held : Bool}
set_option maxRecDepth 100000 in
theorem open_P {r : Reach} {b0 : Nat} {v : Value} {d : DataW H} {p : List MemPlace} (hv : Value.okWide Try.prog w r b0 26 v) (h : DataW.Trod enc Try.prog w base spare held 26 v d p) : ∃ a : P3, v = .agg #[.int .i64 a.x, .int .i64 a.y, .int .i64 a.z] ∧ I3 a := by
  obtain ⟨g, rfl, hb⟩ := open_ints_agg Try.underlying26 szV lvV Try.underlying3 hv h
  have h0 := hb 0 (by omega)
  have h1 := hb 1 (by omega)
  have h2 := hb 2 (by omega)
  exact ⟨⟨g 0, g 1, g 2⟩, rfl, h0, h1, h2⟩
end
end Go.Proofs.Yteigionfaodafaa
