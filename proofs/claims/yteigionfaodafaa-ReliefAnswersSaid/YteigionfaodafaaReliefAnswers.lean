/- ReliefAnswers holds for every input: the row, out of the walk. No condition. -/
import Derived.SizedLaws
import Derived.Test.YteigionfaodafaaRows
import Derived.Test.YteigionfaodafaaC4
import Derived.Test.YteigionfaodafaaC6
import Derived.Test.YteigionfaodafaaC7
namespace Go.Proofs.Yteigionfaodafaa.reliefAnswers
open Go.ChangeShapes Go.WideShapes Go.ChangeAt Go.RowKit
set_option linter.unusedVariables false
set_option linter.unusedSimpArgs false
set_option maxRecDepth 100000 in
set_option maxHeartbeats 8000000 in
theorem core (W : World) (nm : ByteArray) (tw th : Int) (A : Option Addr) (c : Nat) (rows : List Int) (hA : IL W A rows) (p : P3) (n : Nat → P3) (i k j m t h : Int) (hl : rows.length ≤ 2000)
    (v : Int) (x y z : P3) (o1 o2 o3 o4 : Bool)
    (kT : ∀ (W' : World) (B : Option Addr) (d : Nat), IL W' B rows → Calls Try.prog 10 #[.agg #[.string nm, .int .i64 tw, .int .i64 th, .slice B rows.length d], .agg #[.int .i64 p.x, .int .i64 p.y, .int .i64 p.z]] W' fun e w' => e = .returned (.tuple #[.int .i64 v, .bool o1]) ∧ ∃ x, w' = grow W' x)
    (kR : ∀ (W' : World) (B : Option Addr) (d : Nat), IL W' B rows → Calls Try.prog 11 #[.agg #[.string nm, .int .i64 tw, .int .i64 th, .slice B rows.length d], .agg #[.int .i64 p.x, .int .i64 p.y, .int .i64 p.z]] W' fun e w' => e = .returned (.tuple #[.int .i64 v, .bool o1]) ∧ ∃ x, w' = grow W' x)
    (k1 : Gives Try.prog 12 #[.agg #[.int .i64 (n 0).x, .int .i64 (n 0).y, .int .i64 (n 0).z], .agg #[.int .i64 (n 1).x, .int .i64 (n 1).y, .int .i64 (n 1).z], .int .i64 i, .int .i64 k] (.tuple #[.agg #[.int .i64 x.x, .int .i64 x.y, .int .i64 x.z], .bool o2]))
    (k2 : Gives Try.prog 13 #[.agg #[.int .i64 (n 0).x, .int .i64 (n 0).y, .int .i64 (n 0).z], .agg #[.int .i64 (n 1).x, .int .i64 (n 1).y, .int .i64 (n 1).z], .int .i64 i, .int .i64 k] (.tuple #[.agg #[.int .i64 x.x, .int .i64 x.y, .int .i64 x.z], .bool o2]))
    (k3 : Gives Try.prog 14 #[.agg (ptsC 4 n), .int .i64 i, .int .i64 k, .int .i64 j, .int .i64 m] (.tuple #[.agg #[.int .i64 y.x, .int .i64 y.y, .int .i64 y.z], .bool o3]))
    (k4 : Gives Try.prog 15 #[.agg (ptsC 4 n), .int .i64 i, .int .i64 k, .int .i64 j, .int .i64 m] (.tuple #[.agg #[.int .i64 y.x, .int .i64 y.y, .int .i64 y.z], .bool o3]))
    (k5 : Gives Try.prog 16 #[.agg #[.int .i64 p.x, .int .i64 p.y, .int .i64 p.z], .agg #[.int .i64 (n 0).x, .int .i64 (n 0).y, .int .i64 (n 0).z], .int .i64 t, .int .i64 h] (.tuple #[.agg #[.int .i64 z.x, .int .i64 z.y, .int .i64 z.z], .bool o4]))
    (k6 : Gives Try.prog 17 #[.agg #[.int .i64 p.x, .int .i64 p.y, .int .i64 p.z], .agg #[.int .i64 (n 0).x, .int .i64 (n 0).y, .int .i64 (n 0).z], .int .i64 t, .int .i64 h] (.tuple #[.agg #[.int .i64 z.x, .int .i64 z.y, .int .i64 z.z], .bool o4])) :
    Calls Try.prog 3 #[.agg #[.string nm, .int .i64 tw, .int .i64 th, .slice A rows.length c], .agg #[.int .i64 p.x, .int .i64 p.y, .int .i64 p.z], .agg (ptsC 4 n), .int .i64 i, .int .i64 k, .int .i64 j, .int .i64 m, .int .i64 t, .int .i64 h] W fun e w' => e = .returned (.bool true) ∧ Below W.heap.size W w' := by
  have al := alive14_any
  rw [ptsC4] at *
  generalize n 0 = p0 at *
  generalize n 1 = p1 at *
  generalize n 2 = p2 at *
  generalize n 3 = p3 at *
  --BEGIN core
  have hg : ¬ ((rows.length : Int) > 2000) := by omega
  go_enter Try.func3, Try.ntmps3
  go_upto_region 1 with (fail)
  have hB : Below W.heap.size W (((W.alloc (.cells #[.string nm, .int .i64 tw, .int .i64 th, .slice A rows.length c] 24)).alloc (.cells #[.int .i64 p.x, .int .i64 p.y, .int .i64 p.z] 26)).alloc (.cells #[.int .i64 p0.x, .int .i64 p0.y, .int .i64 p0.z, .int .i64 p1.x, .int .i64 p1.y, .int .i64 p1.z, .int .i64 p2.x, .int .i64 p2.y, .int .i64 p2.z, .int .i64 p3.x, .int .i64 p3.y, .int .i64 p3.z] 27)) := bel_alloc (bel_alloc (bel_alloc (Below.refl _ _) _) _) _
  have pt : Blk (((W.alloc (.cells #[.string nm, .int .i64 tw, .int .i64 th, .slice A rows.length c] 24)).alloc (.cells #[.int .i64 p.x, .int .i64 p.y, .int .i64 p.z] 26)).alloc (.cells #[.int .i64 p0.x, .int .i64 p0.y, .int .i64 p0.z, .int .i64 p1.x, .int .i64 p1.y, .int .i64 p1.z, .int .i64 p2.x, .int .i64 p2.y, .int .i64 p2.z, .int .i64 p3.x, .int .i64 p3.y, .int .i64 p3.z] 27)) (W.heap.size) 24 #[.string nm, .int .i64 tw, .int .i64 th, .slice A rows.length c] := ((Blk.new _ _ _ _ rfl).alloc _).alloc _
  have pp : Blk (((W.alloc (.cells #[.string nm, .int .i64 tw, .int .i64 th, .slice A rows.length c] 24)).alloc (.cells #[.int .i64 p.x, .int .i64 p.y, .int .i64 p.z] 26)).alloc (.cells #[.int .i64 p0.x, .int .i64 p0.y, .int .i64 p0.z, .int .i64 p1.x, .int .i64 p1.y, .int .i64 p1.z, .int .i64 p2.x, .int .i64 p2.y, .int .i64 p2.z, .int .i64 p3.x, .int .i64 p3.y, .int .i64 p3.z] 27)) (W.heap.size + 1) 26 #[.int .i64 p.x, .int .i64 p.y, .int .i64 p.z] := (Blk.new _ _ _ _ (by simp)).alloc _
  have pn : Blk (((W.alloc (.cells #[.string nm, .int .i64 tw, .int .i64 th, .slice A rows.length c] 24)).alloc (.cells #[.int .i64 p.x, .int .i64 p.y, .int .i64 p.z] 26)).alloc (.cells #[.int .i64 p0.x, .int .i64 p0.y, .int .i64 p0.z, .int .i64 p1.x, .int .i64 p1.y, .int .i64 p1.z, .int .i64 p2.x, .int .i64 p2.y, .int .i64 p2.z, .int .i64 p3.x, .int .i64 p3.y, .int .i64 p3.z] 27)) (W.heap.size + 1 + 1) 27 #[.int .i64 p0.x, .int .i64 p0.y, .int .i64 p0.z, .int .i64 p1.x, .int .i64 p1.y, .int .i64 p1.z, .int .i64 p2.x, .int .i64 p2.y, .int .i64 p2.z, .int .i64 p3.x, .int .i64 p3.y, .int .i64 p3.z] := Blk.new _ _ _ _ (by simp)
  replace hA := hA.below hB
  generalize (((W.alloc (.cells #[.string nm, .int .i64 tw, .int .i64 th, .slice A rows.length c] 24)).alloc (.cells #[.int .i64 p.x, .int .i64 p.y, .int .i64 p.z] 26)).alloc (.cells #[.int .i64 p0.x, .int .i64 p0.y, .int .i64 p0.z, .int .i64 p1.x, .int .i64 p1.y, .int .i64 p1.z, .int .i64 p2.x, .int .i64 p2.y, .int .i64 p2.z, .int .i64 p3.x, .int .i64 p3.y, .int .i64 p3.z] 27)) = W0 at *
  have ptl := pt.lt
  have ptc0 := pt.cell 0
  have ptc1 := pt.cell 1
  have ptc2 := pt.cell 2
  have ptc3 := pt.cell 3
  have ppl := pp.lt
  have ppc0 := pp.cell 0
  have ppc1 := pp.cell 1
  have ppc2 := pp.cell 2
  have pnl := pn.lt
  have pnc0 := pn.cell 0
  have pnc1 := pn.cell 1
  have pnc2 := pn.cell 2
  have pnc3 := pn.cell 3
  have pnc4 := pn.cell 4
  have pnc5 := pn.cell 5
  have pnc6 := pn.cell 6
  have pnc7 := pn.cell 7
  have pnc8 := pn.cell 8
  have pnc9 := pn.cell 9
  have pnc10 := pn.cell 10
  have pnc11 := pn.cell 11
  go_upto_region 5 with (first | (go_at_call 8; first | ((with_reducible refine (al.at_ _).mono ?_); rintro e w' ⟨rfl, xa, rfl⟩)) | fail)
  replace hB := bel_grow hB xa
  replace hA := ilR_grow hA xa
  replace pt := pt.grow xa
  replace pp := pp.grow xa
  replace pn := pn.grow xa
  clear ptl ptc0 ptc1 ptc2 ptc3 ppl ppc0 ppc1 ppc2 pnl pnc0 pnc1 pnc2 pnc3 pnc4 pnc5 pnc6 pnc7 pnc8 pnc9 pnc10 pnc11
  generalize grow W0 xa = W1 at *
  have ptl := pt.lt
  have ptc0 := pt.cell 0
  have ptc1 := pt.cell 1
  have ptc2 := pt.cell 2
  have ptc3 := pt.cell 3
  have ppl := pp.lt
  have ppc0 := pp.cell 0
  have ppc1 := pp.cell 1
  have ppc2 := pp.cell 2
  have pnl := pn.lt
  have pnc0 := pn.cell 0
  have pnc1 := pn.cell 1
  have pnc2 := pn.cell 2
  have pnc3 := pn.cell 3
  have pnc4 := pn.cell 4
  have pnc5 := pn.cell 5
  have pnc6 := pn.cell 6
  have pnc7 := pn.cell 7
  have pnc8 := pn.cell 8
  have pnc9 := pn.cell 9
  have pnc10 := pn.cell 10
  have pnc11 := pn.cell 11
  have kC := copyR_any0 W1 A c rows hA (by omega)
  go_upto_region 6 with (first | (go_at_call 9; (with_reducible refine kC.mono ?_); rintro e W2 ⟨B, d, rfl, hown, hb2⟩) | fail)
  have hO := ilR_own hown
  clear hown kC
  replace hB := bel_trans hB hb2
  replace hA := hA.below hb2
  replace pt := pt.below hb2
  replace pp := pp.below hb2
  replace pn := pn.below hb2
  clear ptl ptc0 ptc1 ptc2 ptc3 ppl ppc0 ppc1 ppc2 pnl pnc0 pnc1 pnc2 pnc3 pnc4 pnc5 pnc6 pnc7 pnc8 pnc9 pnc10 pnc11 hb2
  have ptl := pt.lt
  have ptc0 := pt.cell 0
  have ptc1 := pt.cell 1
  have ptc2 := pt.cell 2
  have ptc3 := pt.cell 3
  have ppl := pp.lt
  have ppc0 := pp.cell 0
  have ppc1 := pp.cell 1
  have ppc2 := pp.cell 2
  have pnl := pn.lt
  have pnc0 := pn.cell 0
  have pnc1 := pn.cell 1
  have pnc2 := pn.cell 2
  have pnc3 := pn.cell 3
  have pnc4 := pn.cell 4
  have pnc5 := pn.cell 5
  have pnc6 := pn.cell 6
  have pnc7 := pn.cell 7
  have pnc8 := pn.cell 8
  have pnc9 := pn.cell 9
  have pnc10 := pn.cell 10
  have pnc11 := pn.cell 11
  go_upto_region 7 with (first | (go_at_call 10; (with_reducible refine (kT _ _ _ hO).mono ?_); rintro e w' ⟨rfl, xb, rfl⟩) | fail)
  have hA1 := ilR_grow hA xb
  go_upto_region 8 with (first | (go_at_call 11; (with_reducible refine (kR _ _ _ hA1).mono ?_); rintro e w' ⟨rfl, xc, rfl⟩) | fail)
  clear hA1
  go_upto_region 9 with (first | (go_at_call 12; first | ((with_reducible refine (k1.at_ _).mono ?_); rintro e w' ⟨rfl, xd, rfl⟩)) | fail)
  replace hA := ilR_alloc (ilR_grow hA ((xb.then xc).then xd)) (.cells #[.int .i64 x.x, .int .i64 x.y, .int .i64 x.z] 26)
  replace hO := ilR_alloc (ilR_grow hO ((xb.then xc).then xd)) (.cells #[.int .i64 x.x, .int .i64 x.y, .int .i64 x.z] 26)
  have hB_ : Below W.heap.size W ((grow W2 ((xb.then xc).then xd)).alloc (.cells #[.int .i64 x.x, .int .i64 x.y, .int .i64 x.z] 26)) := bel_alloc (bel_grow hB ((xb.then xc).then xd)) _
  have q0 : Blk ((grow W2 ((xb.then xc).then xd)).alloc (.cells #[.int .i64 x.x, .int .i64 x.y, .int .i64 x.z] 26)) (grow W2 ((xb.then xc).then xd)).heap.size 26 #[.int .i64 x.x, .int .i64 x.y, .int .i64 x.z] := Blk.new _ _ _ _ rfl
  replace pt := (pt.grow ((xb.then xc).then xd)).alloc (.cells #[.int .i64 x.x, .int .i64 x.y, .int .i64 x.z] 26)
  replace pp := (pp.grow ((xb.then xc).then xd)).alloc (.cells #[.int .i64 x.x, .int .i64 x.y, .int .i64 x.z] 26)
  replace pn := (pn.grow ((xb.then xc).then xd)).alloc (.cells #[.int .i64 x.x, .int .i64 x.y, .int .i64 x.z] 26)
  clear ptl ptc0 ptc1 ptc2 ptc3 ppl ppc0 ppc1 ppc2 pnl pnc0 pnc1 pnc2 pnc3 pnc4 pnc5 pnc6 pnc7 pnc8 pnc9 pnc10 pnc11
  replace hB := hB_
  clear hB_
  generalize ((grow W2 ((xb.then xc).then xd)).alloc (.cells #[.int .i64 x.x, .int .i64 x.y, .int .i64 x.z] 26)) = W3 at *
  generalize (grow W2 ((xb.then xc).then xd)).heap.size = n3 at *
  have ptl := pt.lt
  have ptc0 := pt.cell 0
  have ptc1 := pt.cell 1
  have ptc2 := pt.cell 2
  have ptc3 := pt.cell 3
  have ppl := pp.lt
  have ppc0 := pp.cell 0
  have ppc1 := pp.cell 1
  have ppc2 := pp.cell 2
  have pnl := pn.lt
  have pnc0 := pn.cell 0
  have pnc1 := pn.cell 1
  have pnc2 := pn.cell 2
  have pnc3 := pn.cell 3
  have pnc4 := pn.cell 4
  have pnc5 := pn.cell 5
  have pnc6 := pn.cell 6
  have pnc7 := pn.cell 7
  have pnc8 := pn.cell 8
  have pnc9 := pn.cell 9
  have pnc10 := pn.cell 10
  have pnc11 := pn.cell 11
  have q0l := q0.lt
  have q0c0 := q0.cell 0
  have q0c1 := q0.cell 1
  have q0c2 := q0.cell 2
  go_upto_region 10 with (first | (go_at_call 13; first | ((with_reducible refine (k2.at_ _).mono ?_); rintro e w' ⟨rfl, xd, rfl⟩)) | fail)
  replace hA := ilR_alloc (ilR_grow hA xd) (.cells #[.int .i64 x.x, .int .i64 x.y, .int .i64 x.z] 26)
  replace hO := ilR_alloc (ilR_grow hO xd) (.cells #[.int .i64 x.x, .int .i64 x.y, .int .i64 x.z] 26)
  have hB_ : Below W.heap.size W ((grow W3 xd).alloc (.cells #[.int .i64 x.x, .int .i64 x.y, .int .i64 x.z] 26)) := bel_alloc (bel_grow hB xd) _
  have q1 : Blk ((grow W3 xd).alloc (.cells #[.int .i64 x.x, .int .i64 x.y, .int .i64 x.z] 26)) (grow W3 xd).heap.size 26 #[.int .i64 x.x, .int .i64 x.y, .int .i64 x.z] := Blk.new _ _ _ _ rfl
  replace pt := (pt.grow xd).alloc (.cells #[.int .i64 x.x, .int .i64 x.y, .int .i64 x.z] 26)
  replace pp := (pp.grow xd).alloc (.cells #[.int .i64 x.x, .int .i64 x.y, .int .i64 x.z] 26)
  replace pn := (pn.grow xd).alloc (.cells #[.int .i64 x.x, .int .i64 x.y, .int .i64 x.z] 26)
  replace q0 := (q0.grow xd).alloc (.cells #[.int .i64 x.x, .int .i64 x.y, .int .i64 x.z] 26)
  clear ptl ptc0 ptc1 ptc2 ptc3 ppl ppc0 ppc1 ppc2 pnl pnc0 pnc1 pnc2 pnc3 pnc4 pnc5 pnc6 pnc7 pnc8 pnc9 pnc10 pnc11 q0l q0c0 q0c1 q0c2
  replace hB := hB_
  clear hB_
  generalize ((grow W3 xd).alloc (.cells #[.int .i64 x.x, .int .i64 x.y, .int .i64 x.z] 26)) = W4 at *
  generalize (grow W3 xd).heap.size = n4 at *
  have ptl := pt.lt
  have ptc0 := pt.cell 0
  have ptc1 := pt.cell 1
  have ptc2 := pt.cell 2
  have ptc3 := pt.cell 3
  have ppl := pp.lt
  have ppc0 := pp.cell 0
  have ppc1 := pp.cell 1
  have ppc2 := pp.cell 2
  have pnl := pn.lt
  have pnc0 := pn.cell 0
  have pnc1 := pn.cell 1
  have pnc2 := pn.cell 2
  have pnc3 := pn.cell 3
  have pnc4 := pn.cell 4
  have pnc5 := pn.cell 5
  have pnc6 := pn.cell 6
  have pnc7 := pn.cell 7
  have pnc8 := pn.cell 8
  have pnc9 := pn.cell 9
  have pnc10 := pn.cell 10
  have pnc11 := pn.cell 11
  have q0l := q0.lt
  have q0c0 := q0.cell 0
  have q0c1 := q0.cell 1
  have q0c2 := q0.cell 2
  have q1l := q1.lt
  have q1c0 := q1.cell 0
  have q1c1 := q1.cell 1
  have q1c2 := q1.cell 2
  go_upto_region 11 with (first | (go_at_call 14; first | ((with_reducible refine (k3.at_ _).mono ?_); rintro e w' ⟨rfl, xd, rfl⟩)) | fail)
  replace hA := ilR_alloc (ilR_grow hA xd) (.cells #[.int .i64 y.x, .int .i64 y.y, .int .i64 y.z] 26)
  replace hO := ilR_alloc (ilR_grow hO xd) (.cells #[.int .i64 y.x, .int .i64 y.y, .int .i64 y.z] 26)
  have hB_ : Below W.heap.size W ((grow W4 xd).alloc (.cells #[.int .i64 y.x, .int .i64 y.y, .int .i64 y.z] 26)) := bel_alloc (bel_grow hB xd) _
  have q2 : Blk ((grow W4 xd).alloc (.cells #[.int .i64 y.x, .int .i64 y.y, .int .i64 y.z] 26)) (grow W4 xd).heap.size 26 #[.int .i64 y.x, .int .i64 y.y, .int .i64 y.z] := Blk.new _ _ _ _ rfl
  replace pt := (pt.grow xd).alloc (.cells #[.int .i64 y.x, .int .i64 y.y, .int .i64 y.z] 26)
  replace pp := (pp.grow xd).alloc (.cells #[.int .i64 y.x, .int .i64 y.y, .int .i64 y.z] 26)
  replace pn := (pn.grow xd).alloc (.cells #[.int .i64 y.x, .int .i64 y.y, .int .i64 y.z] 26)
  replace q0 := (q0.grow xd).alloc (.cells #[.int .i64 y.x, .int .i64 y.y, .int .i64 y.z] 26)
  replace q1 := (q1.grow xd).alloc (.cells #[.int .i64 y.x, .int .i64 y.y, .int .i64 y.z] 26)
  clear ptl ptc0 ptc1 ptc2 ptc3 ppl ppc0 ppc1 ppc2 pnl pnc0 pnc1 pnc2 pnc3 pnc4 pnc5 pnc6 pnc7 pnc8 pnc9 pnc10 pnc11 q0l q0c0 q0c1 q0c2 q1l q1c0 q1c1 q1c2
  replace hB := hB_
  clear hB_
  generalize ((grow W4 xd).alloc (.cells #[.int .i64 y.x, .int .i64 y.y, .int .i64 y.z] 26)) = W5 at *
  generalize (grow W4 xd).heap.size = n5 at *
  have ptl := pt.lt
  have ptc0 := pt.cell 0
  have ptc1 := pt.cell 1
  have ptc2 := pt.cell 2
  have ptc3 := pt.cell 3
  have ppl := pp.lt
  have ppc0 := pp.cell 0
  have ppc1 := pp.cell 1
  have ppc2 := pp.cell 2
  have pnl := pn.lt
  have pnc0 := pn.cell 0
  have pnc1 := pn.cell 1
  have pnc2 := pn.cell 2
  have pnc3 := pn.cell 3
  have pnc4 := pn.cell 4
  have pnc5 := pn.cell 5
  have pnc6 := pn.cell 6
  have pnc7 := pn.cell 7
  have pnc8 := pn.cell 8
  have pnc9 := pn.cell 9
  have pnc10 := pn.cell 10
  have pnc11 := pn.cell 11
  have q0l := q0.lt
  have q0c0 := q0.cell 0
  have q0c1 := q0.cell 1
  have q0c2 := q0.cell 2
  have q1l := q1.lt
  have q1c0 := q1.cell 0
  have q1c1 := q1.cell 1
  have q1c2 := q1.cell 2
  have q2l := q2.lt
  have q2c0 := q2.cell 0
  have q2c1 := q2.cell 1
  have q2c2 := q2.cell 2
  go_upto_region 12 with (first | (go_at_call 15; first | ((with_reducible refine (k4.at_ _).mono ?_); rintro e w' ⟨rfl, xd, rfl⟩)) | fail)
  replace hA := ilR_alloc (ilR_grow hA xd) (.cells #[.int .i64 y.x, .int .i64 y.y, .int .i64 y.z] 26)
  replace hO := ilR_alloc (ilR_grow hO xd) (.cells #[.int .i64 y.x, .int .i64 y.y, .int .i64 y.z] 26)
  have hB_ : Below W.heap.size W ((grow W5 xd).alloc (.cells #[.int .i64 y.x, .int .i64 y.y, .int .i64 y.z] 26)) := bel_alloc (bel_grow hB xd) _
  have q3 : Blk ((grow W5 xd).alloc (.cells #[.int .i64 y.x, .int .i64 y.y, .int .i64 y.z] 26)) (grow W5 xd).heap.size 26 #[.int .i64 y.x, .int .i64 y.y, .int .i64 y.z] := Blk.new _ _ _ _ rfl
  replace pt := (pt.grow xd).alloc (.cells #[.int .i64 y.x, .int .i64 y.y, .int .i64 y.z] 26)
  replace pp := (pp.grow xd).alloc (.cells #[.int .i64 y.x, .int .i64 y.y, .int .i64 y.z] 26)
  replace pn := (pn.grow xd).alloc (.cells #[.int .i64 y.x, .int .i64 y.y, .int .i64 y.z] 26)
  replace q0 := (q0.grow xd).alloc (.cells #[.int .i64 y.x, .int .i64 y.y, .int .i64 y.z] 26)
  replace q1 := (q1.grow xd).alloc (.cells #[.int .i64 y.x, .int .i64 y.y, .int .i64 y.z] 26)
  replace q2 := (q2.grow xd).alloc (.cells #[.int .i64 y.x, .int .i64 y.y, .int .i64 y.z] 26)
  clear ptl ptc0 ptc1 ptc2 ptc3 ppl ppc0 ppc1 ppc2 pnl pnc0 pnc1 pnc2 pnc3 pnc4 pnc5 pnc6 pnc7 pnc8 pnc9 pnc10 pnc11 q0l q0c0 q0c1 q0c2 q1l q1c0 q1c1 q1c2 q2l q2c0 q2c1 q2c2
  replace hB := hB_
  clear hB_
  generalize ((grow W5 xd).alloc (.cells #[.int .i64 y.x, .int .i64 y.y, .int .i64 y.z] 26)) = W6 at *
  generalize (grow W5 xd).heap.size = n6 at *
  have ptl := pt.lt
  have ptc0 := pt.cell 0
  have ptc1 := pt.cell 1
  have ptc2 := pt.cell 2
  have ptc3 := pt.cell 3
  have ppl := pp.lt
  have ppc0 := pp.cell 0
  have ppc1 := pp.cell 1
  have ppc2 := pp.cell 2
  have pnl := pn.lt
  have pnc0 := pn.cell 0
  have pnc1 := pn.cell 1
  have pnc2 := pn.cell 2
  have pnc3 := pn.cell 3
  have pnc4 := pn.cell 4
  have pnc5 := pn.cell 5
  have pnc6 := pn.cell 6
  have pnc7 := pn.cell 7
  have pnc8 := pn.cell 8
  have pnc9 := pn.cell 9
  have pnc10 := pn.cell 10
  have pnc11 := pn.cell 11
  have q0l := q0.lt
  have q0c0 := q0.cell 0
  have q0c1 := q0.cell 1
  have q0c2 := q0.cell 2
  have q1l := q1.lt
  have q1c0 := q1.cell 0
  have q1c1 := q1.cell 1
  have q1c2 := q1.cell 2
  have q2l := q2.lt
  have q2c0 := q2.cell 0
  have q2c1 := q2.cell 1
  have q2c2 := q2.cell 2
  have q3l := q3.lt
  have q3c0 := q3.cell 0
  have q3c1 := q3.cell 1
  have q3c2 := q3.cell 2
  go_upto_region 13 with (first | (go_at_call 16; first | ((with_reducible refine (k5.at_ _).mono ?_); rintro e w' ⟨rfl, xd, rfl⟩)) | fail)
  replace hA := ilR_alloc (ilR_grow hA xd) (.cells #[.int .i64 z.x, .int .i64 z.y, .int .i64 z.z] 26)
  replace hO := ilR_alloc (ilR_grow hO xd) (.cells #[.int .i64 z.x, .int .i64 z.y, .int .i64 z.z] 26)
  have hB_ : Below W.heap.size W ((grow W6 xd).alloc (.cells #[.int .i64 z.x, .int .i64 z.y, .int .i64 z.z] 26)) := bel_alloc (bel_grow hB xd) _
  have q4 : Blk ((grow W6 xd).alloc (.cells #[.int .i64 z.x, .int .i64 z.y, .int .i64 z.z] 26)) (grow W6 xd).heap.size 26 #[.int .i64 z.x, .int .i64 z.y, .int .i64 z.z] := Blk.new _ _ _ _ rfl
  replace pt := (pt.grow xd).alloc (.cells #[.int .i64 z.x, .int .i64 z.y, .int .i64 z.z] 26)
  replace pp := (pp.grow xd).alloc (.cells #[.int .i64 z.x, .int .i64 z.y, .int .i64 z.z] 26)
  replace pn := (pn.grow xd).alloc (.cells #[.int .i64 z.x, .int .i64 z.y, .int .i64 z.z] 26)
  replace q0 := (q0.grow xd).alloc (.cells #[.int .i64 z.x, .int .i64 z.y, .int .i64 z.z] 26)
  replace q1 := (q1.grow xd).alloc (.cells #[.int .i64 z.x, .int .i64 z.y, .int .i64 z.z] 26)
  replace q2 := (q2.grow xd).alloc (.cells #[.int .i64 z.x, .int .i64 z.y, .int .i64 z.z] 26)
  replace q3 := (q3.grow xd).alloc (.cells #[.int .i64 z.x, .int .i64 z.y, .int .i64 z.z] 26)
  clear ptl ptc0 ptc1 ptc2 ptc3 ppl ppc0 ppc1 ppc2 pnl pnc0 pnc1 pnc2 pnc3 pnc4 pnc5 pnc6 pnc7 pnc8 pnc9 pnc10 pnc11 q0l q0c0 q0c1 q0c2 q1l q1c0 q1c1 q1c2 q2l q2c0 q2c1 q2c2 q3l q3c0 q3c1 q3c2
  replace hB := hB_
  clear hB_
  generalize ((grow W6 xd).alloc (.cells #[.int .i64 z.x, .int .i64 z.y, .int .i64 z.z] 26)) = W7 at *
  generalize (grow W6 xd).heap.size = n7 at *
  have ptl := pt.lt
  have ptc0 := pt.cell 0
  have ptc1 := pt.cell 1
  have ptc2 := pt.cell 2
  have ptc3 := pt.cell 3
  have ppl := pp.lt
  have ppc0 := pp.cell 0
  have ppc1 := pp.cell 1
  have ppc2 := pp.cell 2
  have pnl := pn.lt
  have pnc0 := pn.cell 0
  have pnc1 := pn.cell 1
  have pnc2 := pn.cell 2
  have pnc3 := pn.cell 3
  have pnc4 := pn.cell 4
  have pnc5 := pn.cell 5
  have pnc6 := pn.cell 6
  have pnc7 := pn.cell 7
  have pnc8 := pn.cell 8
  have pnc9 := pn.cell 9
  have pnc10 := pn.cell 10
  have pnc11 := pn.cell 11
  have q0l := q0.lt
  have q0c0 := q0.cell 0
  have q0c1 := q0.cell 1
  have q0c2 := q0.cell 2
  have q1l := q1.lt
  have q1c0 := q1.cell 0
  have q1c1 := q1.cell 1
  have q1c2 := q1.cell 2
  have q2l := q2.lt
  have q2c0 := q2.cell 0
  have q2c1 := q2.cell 1
  have q2c2 := q2.cell 2
  have q3l := q3.lt
  have q3c0 := q3.cell 0
  have q3c1 := q3.cell 1
  have q3c2 := q3.cell 2
  have q4l := q4.lt
  have q4c0 := q4.cell 0
  have q4c1 := q4.cell 1
  have q4c2 := q4.cell 2
  go_upto_region 14 with (first | (go_at_call 17; first | ((with_reducible refine (k6.at_ _).mono ?_); rintro e w' ⟨rfl, xd, rfl⟩)) | fail)
  replace hA := ilR_alloc (ilR_grow hA xd) (.cells #[.int .i64 z.x, .int .i64 z.y, .int .i64 z.z] 26)
  replace hO := ilR_alloc (ilR_grow hO xd) (.cells #[.int .i64 z.x, .int .i64 z.y, .int .i64 z.z] 26)
  have hB_ : Below W.heap.size W ((grow W7 xd).alloc (.cells #[.int .i64 z.x, .int .i64 z.y, .int .i64 z.z] 26)) := bel_alloc (bel_grow hB xd) _
  have q5 : Blk ((grow W7 xd).alloc (.cells #[.int .i64 z.x, .int .i64 z.y, .int .i64 z.z] 26)) (grow W7 xd).heap.size 26 #[.int .i64 z.x, .int .i64 z.y, .int .i64 z.z] := Blk.new _ _ _ _ rfl
  replace pt := (pt.grow xd).alloc (.cells #[.int .i64 z.x, .int .i64 z.y, .int .i64 z.z] 26)
  replace pp := (pp.grow xd).alloc (.cells #[.int .i64 z.x, .int .i64 z.y, .int .i64 z.z] 26)
  replace pn := (pn.grow xd).alloc (.cells #[.int .i64 z.x, .int .i64 z.y, .int .i64 z.z] 26)
  replace q0 := (q0.grow xd).alloc (.cells #[.int .i64 z.x, .int .i64 z.y, .int .i64 z.z] 26)
  replace q1 := (q1.grow xd).alloc (.cells #[.int .i64 z.x, .int .i64 z.y, .int .i64 z.z] 26)
  replace q2 := (q2.grow xd).alloc (.cells #[.int .i64 z.x, .int .i64 z.y, .int .i64 z.z] 26)
  replace q3 := (q3.grow xd).alloc (.cells #[.int .i64 z.x, .int .i64 z.y, .int .i64 z.z] 26)
  replace q4 := (q4.grow xd).alloc (.cells #[.int .i64 z.x, .int .i64 z.y, .int .i64 z.z] 26)
  clear ptl ptc0 ptc1 ptc2 ptc3 ppl ppc0 ppc1 ppc2 pnl pnc0 pnc1 pnc2 pnc3 pnc4 pnc5 pnc6 pnc7 pnc8 pnc9 pnc10 pnc11 q0l q0c0 q0c1 q0c2 q1l q1c0 q1c1 q1c2 q2l q2c0 q2c1 q2c2 q3l q3c0 q3c1 q3c2 q4l q4c0 q4c1 q4c2
  replace hB := hB_
  clear hB_
  generalize ((grow W7 xd).alloc (.cells #[.int .i64 z.x, .int .i64 z.y, .int .i64 z.z] 26)) = W8 at *
  generalize (grow W7 xd).heap.size = n8 at *
  have ptl := pt.lt
  have ptc0 := pt.cell 0
  have ptc1 := pt.cell 1
  have ptc2 := pt.cell 2
  have ptc3 := pt.cell 3
  have ppl := pp.lt
  have ppc0 := pp.cell 0
  have ppc1 := pp.cell 1
  have ppc2 := pp.cell 2
  have pnl := pn.lt
  have pnc0 := pn.cell 0
  have pnc1 := pn.cell 1
  have pnc2 := pn.cell 2
  have pnc3 := pn.cell 3
  have pnc4 := pn.cell 4
  have pnc5 := pn.cell 5
  have pnc6 := pn.cell 6
  have pnc7 := pn.cell 7
  have pnc8 := pn.cell 8
  have pnc9 := pn.cell 9
  have pnc10 := pn.cell 10
  have pnc11 := pn.cell 11
  have q0l := q0.lt
  have q0c0 := q0.cell 0
  have q0c1 := q0.cell 1
  have q0c2 := q0.cell 2
  have q1l := q1.lt
  have q1c0 := q1.cell 0
  have q1c1 := q1.cell 1
  have q1c2 := q1.cell 2
  have q2l := q2.lt
  have q2c0 := q2.cell 0
  have q2c1 := q2.cell 1
  have q2c2 := q2.cell 2
  have q3l := q3.lt
  have q3c0 := q3.cell 0
  have q3c1 := q3.cell 1
  have q3c2 := q3.cell 2
  have q4l := q4.lt
  have q4c0 := q4.cell 0
  have q4c1 := q4.cell 1
  have q4c2 := q4.cell 2
  have q5l := q5.lt
  have q5c0 := q5.cell 0
  have q5c1 := q5.cell 1
  have q5c2 := q5.cell 2
  have kS := sameR_yes W8 B A d c rows hO hA (by omega)
  go_wp2_with (first | (go_at_call 18; (with_reducible refine kS.mono ?_); rintro e w' ⟨rfl, hb9⟩) | fail)
  go_ret
  exact ⟨rfl, bel_trans hB hb9⟩
  --END core
set_option maxRecDepth 100000 in
set_option maxHeartbeats 4000000 in
theorem walk (W : World) (nm : ByteArray) (tw th : Int) (A : Option Addr) (c : Nat) (rows : List Int) (ht : i64B tw ∧ i64B th) (hr : rows.length ≤ reachBytes) (hA : IL W A rows) (p : P3) (kp : I3 p) (n : Nat → P3) (kn : ∀ k, k < 4 → In3 (n k)) (i : Int) (hi : -9223372036854775808 ≤ i ∧ i ≤ 9223372036854775807) (k : Int) (hk : -9223372036854775808 ≤ k ∧ k ≤ 9223372036854775807) (j : Int) (hj : -9223372036854775808 ≤ j ∧ j ≤ 9223372036854775807) (m : Int) (hm : -9223372036854775808 ≤ m ∧ m ≤ 9223372036854775807) (t : Int) (ht' : -9223372036854775808 ≤ t ∧ t ≤ 9223372036854775807) (h : Int) (hh : -9223372036854775808 ≤ h ∧ h ≤ 9223372036854775807) :
    Calls Try.prog 3 #[.agg #[.string nm, .int .i64 tw, .int .i64 th, .slice A rows.length c], .agg #[.int .i64 p.x, .int .i64 p.y, .int .i64 p.z], .agg (ptsC 4 n), .int .i64 i, .int .i64 k, .int .i64 j, .int .i64 m, .int .i64 t, .int .i64 h] W fun e w' => e = .returned (.bool true) ∧ Below W.heap.size W w' := by
  by_cases hl : rows.length ≤ 2000
  · exact core W nm tw th A c rows hA p n i k j m t h hl _ _ _ _ _ _ _ _ (fun W' B d hB => texel_any W' nm tw th B d rows hB (by omega) p) (fun W' B d hB => rTexel_any W' nm tw th B d rows hB (by omega) p) (blend_any (n 0) (n 1) i k hi hk) (rBlend_any (n 0) (n 1) i k hi hk) (mix_any n i k j m hi hk hj hm) (rMix_any n i k j m hi hk hj hm) (lift_any p (n 0) t h ht' hh) (rLift_any p (n 0) t h ht' hh)
  · have al := alive14_any
    have hg : ((rows.length : Int)) > 2000 := by omega
    rw [ptsC4]
    go_enter Try.func3, Try.ntmps3
    go_wp2_with (first | (go_at_call 8; (with_reducible refine (al.at_ _).mono ?_); rintro e w' ⟨rfl, xa, rfl⟩) | fail)
    go_ret
    exact ⟨rfl, (by repeat (first | exact Below.refl _ _ | refine bel_then ?_ _ | refine bel_grow ?_ _ | refine bel_alloc ?_ _ | refine bel_drew ?_ | refine bel_set ?_ (by simp) _ | refine bel_setRow ?_ (by first | omega | (simp; done) | (refine Nat.le_trans ?_ (top_le _ _); simp; done) | (refine Nat.le_succ_of_le (Nat.le_trans ?_ (top_le _ _)); simp; done) | (refine Nat.le_trans ?_ (top_le _ _); simp only [World.size_alloc]; refine Nat.le_succ_of_le (Nat.le_trans ?_ (top_le _ _)); simp; done)) _))⟩

theorem own : ownKnob Try.prog.godebug = none := by kernel_rfl
set_option maxRecDepth 100000 in
theorem lifted (os : Os) (started : os.Started) (H : Type) (enc : TypeId × Value → H) :
    ReturnsInHanded {} Try.checked os 3 .any (Rows.reliefAnswersSpec.pre6 enc Try.prog Try.f3 Rows.reliefAnswersRow.domain false) (Rows.reliefAnswersSpec.post enc Try.prog Try.f3 false true false false) := by
  refine returnsInHanded_of_change_sized (C := Try.checked) own started (by kernel_rfl) Try.func3
    (ChangeSpec.witness6 (enc := enc) (C := Try.checked) false ⟨#[], #[.agg #[.string ByteArray.empty, .int .i64 0, .int .i64 0, .slice none 0 0], .agg #[.int .i64 0, .int .i64 0, .int .i64 0], .agg #[.int .i64 0, .int .i64 0, .int .i64 0, .int .i64 0, .int .i64 0, .int .i64 0, .int .i64 0, .int .i64 0, .int .i64 0, .int .i64 0, .int .i64 0, .int .i64 0], .int .i64 0, .int .i64 0, .int .i64 0, .int .i64 0, .int .i64 0, .int .i64 0], []⟩ 12 (by kernel_rfl) (by kernel_rfl) (by kernel_rfl) (by kernel_rfl)) ?_
  intro W base args ds gs before hval0 hW hcnd hwt _
  have hval : ∀ (j : Nat) t v, Try.f3.params[j]? = some t → args[j]? = some v → Value.okWide Try.prog W .any base t v := hval0
  have hW' := hW
  obtain ⟨p, q, hA0, hV, rfl, hfz, hnd⟩ := hW
  have hA : DataW.TrodAll enc Try.prog W 0 (fun _ => true) true Try.f3.params.toList args.toList ds p := hA0
  rw [Try.params3] at hA hval
  obtain ⟨v0, vs0, d0, ds0, p0, q0, hargs, rfl, rfl, h0, r0⟩ := trodAll_cons hA
  obtain ⟨v1, vs1, d1, ds1, p1, q1, rfl, rfl, rfl, h1, r1⟩ := trodAll_cons r0
  obtain ⟨v2, vs2, d2, ds2, p2, q2, rfl, rfl, rfl, h2, r2⟩ := trodAll_cons r1
  obtain ⟨v3, vs3, d3, ds3, p3, q3, rfl, rfl, rfl, h3, r3⟩ := trodAll_cons r2
  obtain ⟨v4, vs4, d4, ds4, p4, q4, rfl, rfl, rfl, h4, r4⟩ := trodAll_cons r3
  obtain ⟨v5, vs5, d5, ds5, p5, q5, rfl, rfl, rfl, h5, r5⟩ := trodAll_cons r4
  obtain ⟨v6, vs6, d6, ds6, p6, q6, rfl, rfl, rfl, h6, r6⟩ := trodAll_cons r5
  obtain ⟨v7, vs7, d7, ds7, p7, q7, rfl, rfl, rfl, h7, r7⟩ := trodAll_cons r6
  obtain ⟨v8, vs8, d8, ds8, p8, q8, rfl, rfl, rfl, h8, r8⟩ := trodAll_cons r7
  obtain ⟨rfl, rfl, rfl⟩ := trodAll_nil r8
  obtain rfl : args = #[v0, v1, v2, v3, v4, v5, v6, v7, v8] := by cases args; simp_all
  obtain ⟨cs0, rfl, hsz0⟩ := okWide_struct Try.underlying24 (hval 0 24 v0 rfl rfl)
  rw [szTx] at hsz0
  have hTW0 : TW enc Try.prog W 0 (fun _ => true) true 24 cs0.toList := by
    obtain ⟨fu, hfu⟩ := h0
    refine ⟨fu, _, hfu, fun n hn => ?_⟩
    have := List.all_eq_true.1 hwt n (DataW.weights_mem_each (j := 0) (t := 24) (d := d0) (by rw [Try.params3]; rfl) (by rfl) n hn)
    simpa using this
  obtain ⟨nm0, tw0, th0, A0, k0, rows0, ecs0, hb0, hl0, hIL0⟩ := open_Tex (by simpa using hsz0) hTW0
  obtain rfl : cs0 = #[.string nm0, .int .i64 tw0, .int .i64 th0, .slice A0 rows0.length k0] := Array.ext' ecs0
  clear hTW0
  obtain ⟨a1, rfl, k1⟩ := open_P (hval 1 26 v1 rfl rfl) h1
  obtain ⟨p2, rfl, k2⟩ := open_A4 (hval 2 27 v2 rfl rfl) h2
  obtain ⟨a3, rfl, b3⟩ := open_int64 (hval 3 3 v3 rfl rfl) h3
  obtain ⟨a4, rfl, b4⟩ := open_int64 (hval 4 3 v4 rfl rfl) h4
  obtain ⟨a5, rfl, b5⟩ := open_int64 (hval 5 3 v5 rfl rfl) h5
  obtain ⟨a6, rfl, b6⟩ := open_int64 (hval 6 3 v6 rfl rfl) h6
  obtain ⟨a7, rfl, b7⟩ := open_int64 (hval 7 3 v7 rfl rfl) h7
  obtain ⟨a8, rfl, b8⟩ := open_int64 (hval 8 3 v8 rfl rfl) h8
  refine (walk W nm0 tw0 th0 A0 k0 rows0 hb0 hl0 hIL0 a1 k1 p2 k2 a3 b3 a4 b4 a5 b5 a6 b6 a7 b7 a8 b8).mono fun e W' ⟨he, hb⟩ => ?_
  subst he
  exact ⟨_, rfl, law_post (tb := 4) (by kernel_rfl) (by kernel_rfl) rfl rfl Try.underlying4 rfl rfl rfl hW' hb⟩

theorem over : Rows.reliefAnswersRow.holds Try.pinned (OpenSpec.ofChange Rows.reliefAnswersSpec) :=
  OpenClaim.holds_of_wide 3 Try.f3 rfl rfl rfl rfl rfl rfl rfl ⟨rfl, rfl, rfl, rfl, rfl⟩ rfl rfl rfl rfl rfl (by kernel_rfl) Try.func3 (by kernel_rfl)
    (of_decide_eq_true (by kernel_rfl)) (by unfold Func.isWrapper; first | (rw [if_pos (by decide +kernel)]; kernel_rfl) | (rw [if_neg (by decide +kernel)]; exact ⟨rfl, rfl⟩))
    (fun os started H enc _ => lifted os started H enc)

theorem proved : Rows.ReliefAnswersSaid :=
  over
#print axioms proved
end Go.Proofs.Yteigionfaodafaa.reliefAnswers
