/- ReliefSides holds for every input: the row, out of the walk. No condition. -/
import Derived.SizedLaws
import Derived.Test.YteigionfaodafaaRows
import Derived.Test.YteigionfaodafaaC4
import Derived.Test.YteigionfaodafaaC6
import Derived.Test.YteigionfaodafaaC7
namespace Go.Proofs.Yteigionfaodafaa.reliefSides
open Go.ChangeShapes Go.WideShapes Go.ChangeAt Go.RowKit
set_option linter.unusedVariables false
set_option linter.unusedSimpArgs false
theorem mxK_parts {n : Nat → P3} {i k j m : Int} (h : mxK n i k j m = true) : blK (n 0) (n 1) i k = true ∧ blK (n 3) (n 2) i k = true ∧ blK (blP (n 0) (n 1) i k) (blP (n 3) (n 2) i k) j m = true ∧ mxP n i k j m = blP (blP (n 0) (n 1) i k) (blP (n 3) (n 2) i k) j m := by
  have h' := h
  unfold mxK at h
  rw [Bool.and_eq_true, Bool.and_eq_true] at h
  exact ⟨h.1.1, h.1.2, h.2, by unfold mxP; rw [if_pos h']⟩
theorem side0 {n : Nat → P3} {i k : Int} (h : mxK n i k 0 1 = true) : mxP n i k 0 1 = blP (n 0) (n 1) i k := by
  obtain ⟨h0, h1, h2, e⟩ := mxK_parts h
  rw [e, blP_first h2]
theorem side1 {n : Nat → P3} {i k : Int} (h : mxK n 1 1 i k = true) : mxP n 1 1 i k = blP (n 1) (n 2) i k := by
  obtain ⟨h0, h1, h2, e⟩ := mxK_parts h
  rw [e, blP_last h0, blP_last h1]
theorem side2 {n : Nat → P3} {i k : Int} (hi : -9223372036854775808 ≤ i ∧ i ≤ 9223372036854775807) (h : mxK n (wrap64 (k - i)) k 1 1 = true) : mxP n (wrap64 (k - i)) k 1 1 = blP (n 2) (n 3) i k := by
  obtain ⟨h0, h1, h2, e⟩ := mxK_parts h
  rw [e, blP_last h2]
  have hp := (blK_yes h1).1
  have hw : wrap64 (k - i) = k - i := by
    unfold wrap64 at hp ⊢
    omega
  rw [hw] at h1 ⊢
  have := blP_turn h1
  rw [show k - (k - i) = i by omega] at this
  exact this.symm
set_option maxRecDepth 100000 in
set_option maxHeartbeats 8000000 in
theorem core (W : World) (n : Nat → P3) (i k : Int) (a b c d e f : P3) (o1 o2 o3 o4 o5 o6 : Bool) (h1 : o1 = true → a = b) (h2 : o3 = true → c = d) (h3 : o5 = true → e = f)
    (k1 : Gives Try.prog 14 #[.agg (ptsC 4 n), .int .i64 i, .int .i64 k, .int .i64 0, .int .i64 1] (.tuple #[.agg #[.int .i64 a.x, .int .i64 a.y, .int .i64 a.z], .bool o1]))
    (k2 : Gives Try.prog 12 #[.agg #[.int .i64 (n 0).x, .int .i64 (n 0).y, .int .i64 (n 0).z], .agg #[.int .i64 (n 1).x, .int .i64 (n 1).y, .int .i64 (n 1).z], .int .i64 i, .int .i64 k] (.tuple #[.agg #[.int .i64 b.x, .int .i64 b.y, .int .i64 b.z], .bool o2]))
    (k3 : Gives Try.prog 14 #[.agg (ptsC 4 n), .int .i64 1, .int .i64 1, .int .i64 i, .int .i64 k] (.tuple #[.agg #[.int .i64 c.x, .int .i64 c.y, .int .i64 c.z], .bool o3]))
    (k4 : Gives Try.prog 12 #[.agg #[.int .i64 (n 1).x, .int .i64 (n 1).y, .int .i64 (n 1).z], .agg #[.int .i64 (n 2).x, .int .i64 (n 2).y, .int .i64 (n 2).z], .int .i64 i, .int .i64 k] (.tuple #[.agg #[.int .i64 d.x, .int .i64 d.y, .int .i64 d.z], .bool o4]))
    (k5 : Gives Try.prog 14 #[.agg (ptsC 4 n), .int .i64 (wrap64 (k - i)), .int .i64 k, .int .i64 1, .int .i64 1] (.tuple #[.agg #[.int .i64 e.x, .int .i64 e.y, .int .i64 e.z], .bool o5]))
    (k6 : Gives Try.prog 12 #[.agg #[.int .i64 (n 2).x, .int .i64 (n 2).y, .int .i64 (n 2).z], .agg #[.int .i64 (n 3).x, .int .i64 (n 3).y, .int .i64 (n 3).z], .int .i64 i, .int .i64 k] (.tuple #[.agg #[.int .i64 f.x, .int .i64 f.y, .int .i64 f.z], .bool o6])) :
    Calls Try.prog 6 #[.agg (ptsC 4 n), .int .i64 i, .int .i64 k] W fun e w' => e = .returned (.bool true) ∧ Below W.heap.size W w' := by
  have al := alive14_any
  rw [ptsC4] at *
  generalize n 0 = p0 at *
  generalize n 1 = p1 at *
  generalize n 2 = p2 at *
  generalize n 3 = p3 at *
  --BEGIN core
  go_enter Try.func6, Try.ntmps6
  go_upto_region 1 with (fail)
  have hB : Below W.heap.size W (W.alloc (.cells #[.int .i64 p0.x, .int .i64 p0.y, .int .i64 p0.z, .int .i64 p1.x, .int .i64 p1.y, .int .i64 p1.z, .int .i64 p2.x, .int .i64 p2.y, .int .i64 p2.z, .int .i64 p3.x, .int .i64 p3.y, .int .i64 p3.z] 27)) := bel_alloc (Below.refl _ _) _
  have pn : Blk (W.alloc (.cells #[.int .i64 p0.x, .int .i64 p0.y, .int .i64 p0.z, .int .i64 p1.x, .int .i64 p1.y, .int .i64 p1.z, .int .i64 p2.x, .int .i64 p2.y, .int .i64 p2.z, .int .i64 p3.x, .int .i64 p3.y, .int .i64 p3.z] 27)) (W.heap.size) 27 #[.int .i64 p0.x, .int .i64 p0.y, .int .i64 p0.z, .int .i64 p1.x, .int .i64 p1.y, .int .i64 p1.z, .int .i64 p2.x, .int .i64 p2.y, .int .i64 p2.z, .int .i64 p3.x, .int .i64 p3.y, .int .i64 p3.z] := Blk.new _ _ _ _ rfl
  generalize (W.alloc (.cells #[.int .i64 p0.x, .int .i64 p0.y, .int .i64 p0.z, .int .i64 p1.x, .int .i64 p1.y, .int .i64 p1.z, .int .i64 p2.x, .int .i64 p2.y, .int .i64 p2.z, .int .i64 p3.x, .int .i64 p3.y, .int .i64 p3.z] 27)) = W0 at *
  have pnl := pn.lt
  have pnc0 := pn.cell 0
  have pnc1 := pn.cell 1
  have pnc2 := pn.cell 2
  have pnc3 := pn.cell 3
  have pnc4 := pn.cell 4
  have pnc5 := pn.cell 5
  have pnc6 := pn.cell 6
  have pnc7 := pn.cell 7
  have pnc8 := pn.cell 8
  have pnc9 := pn.cell 9
  have pnc10 := pn.cell 10
  have pnc11 := pn.cell 11
  go_upto_region 4 with (first | (go_at_call 8; first | ((with_reducible refine (al.at_ _).mono ?_); rintro e w' ⟨rfl, xa, rfl⟩)) | (go_at_call 14; first | ((with_reducible refine (k1.at_ _).mono ?_); rintro e w' ⟨rfl, xb, rfl⟩)) | fail)
  have hB_ : Below W.heap.size W ((grow W0 (xa.then xb)).alloc (.cells #[.int .i64 a.x, .int .i64 a.y, .int .i64 a.z] 26)) := bel_alloc (bel_grow hB (xa.then xb)) _
  have qa : Blk ((grow W0 (xa.then xb)).alloc (.cells #[.int .i64 a.x, .int .i64 a.y, .int .i64 a.z] 26)) (grow W0 (xa.then xb)).heap.size 26 #[.int .i64 a.x, .int .i64 a.y, .int .i64 a.z] := Blk.new _ _ _ _ rfl
  replace pn := (pn.grow (xa.then xb)).alloc (.cells #[.int .i64 a.x, .int .i64 a.y, .int .i64 a.z] 26)
  clear pnl pnc0 pnc1 pnc2 pnc3 pnc4 pnc5 pnc6 pnc7 pnc8 pnc9 pnc10 pnc11
  replace hB := hB_
  clear hB_
  generalize ((grow W0 (xa.then xb)).alloc (.cells #[.int .i64 a.x, .int .i64 a.y, .int .i64 a.z] 26)) = W1 at *
  generalize (grow W0 (xa.then xb)).heap.size = n1 at *
  have pnl := pn.lt
  have pnc0 := pn.cell 0
  have pnc1 := pn.cell 1
  have pnc2 := pn.cell 2
  have pnc3 := pn.cell 3
  have pnc4 := pn.cell 4
  have pnc5 := pn.cell 5
  have pnc6 := pn.cell 6
  have pnc7 := pn.cell 7
  have pnc8 := pn.cell 8
  have pnc9 := pn.cell 9
  have pnc10 := pn.cell 10
  have pnc11 := pn.cell 11
  have qal := qa.lt
  have qac0 := qa.cell 0
  have qac1 := qa.cell 1
  have qac2 := qa.cell 2
  go_upto_region 5 with (first | (go_at_call 12; first | ((with_reducible refine (k2.at_ _).mono ?_); rintro e w' ⟨rfl, xb, rfl⟩)) | fail)
  have hB_ : Below W.heap.size W ((grow W1 xb).alloc (.cells #[.int .i64 b.x, .int .i64 b.y, .int .i64 b.z] 26)) := bel_alloc (bel_grow hB xb) _
  have qb : Blk ((grow W1 xb).alloc (.cells #[.int .i64 b.x, .int .i64 b.y, .int .i64 b.z] 26)) (grow W1 xb).heap.size 26 #[.int .i64 b.x, .int .i64 b.y, .int .i64 b.z] := Blk.new _ _ _ _ rfl
  replace pn := (pn.grow xb).alloc (.cells #[.int .i64 b.x, .int .i64 b.y, .int .i64 b.z] 26)
  replace qa := (qa.grow xb).alloc (.cells #[.int .i64 b.x, .int .i64 b.y, .int .i64 b.z] 26)
  clear pnl pnc0 pnc1 pnc2 pnc3 pnc4 pnc5 pnc6 pnc7 pnc8 pnc9 pnc10 pnc11 qal qac0 qac1 qac2
  replace hB := hB_
  clear hB_
  generalize ((grow W1 xb).alloc (.cells #[.int .i64 b.x, .int .i64 b.y, .int .i64 b.z] 26)) = W2 at *
  generalize (grow W1 xb).heap.size = n2 at *
  have pnl := pn.lt
  have pnc0 := pn.cell 0
  have pnc1 := pn.cell 1
  have pnc2 := pn.cell 2
  have pnc3 := pn.cell 3
  have pnc4 := pn.cell 4
  have pnc5 := pn.cell 5
  have pnc6 := pn.cell 6
  have pnc7 := pn.cell 7
  have pnc8 := pn.cell 8
  have pnc9 := pn.cell 9
  have pnc10 := pn.cell 10
  have pnc11 := pn.cell 11
  have qal := qa.lt
  have qac0 := qa.cell 0
  have qac1 := qa.cell 1
  have qac2 := qa.cell 2
  have qbl := qb.lt
  have qbc0 := qb.cell 0
  have qbc1 := qb.cell 1
  have qbc2 := qb.cell 2
  go_upto_region 6 with (first | (go_at_call 14; first | ((with_reducible refine (k3.at_ _).mono ?_); rintro e w' ⟨rfl, xb, rfl⟩)) | fail)
  have hB_ : Below W.heap.size W ((grow W2 xb).alloc (.cells #[.int .i64 c.x, .int .i64 c.y, .int .i64 c.z] 26)) := bel_alloc (bel_grow hB xb) _
  have qc : Blk ((grow W2 xb).alloc (.cells #[.int .i64 c.x, .int .i64 c.y, .int .i64 c.z] 26)) (grow W2 xb).heap.size 26 #[.int .i64 c.x, .int .i64 c.y, .int .i64 c.z] := Blk.new _ _ _ _ rfl
  replace pn := (pn.grow xb).alloc (.cells #[.int .i64 c.x, .int .i64 c.y, .int .i64 c.z] 26)
  replace qa := (qa.grow xb).alloc (.cells #[.int .i64 c.x, .int .i64 c.y, .int .i64 c.z] 26)
  replace qb := (qb.grow xb).alloc (.cells #[.int .i64 c.x, .int .i64 c.y, .int .i64 c.z] 26)
  clear pnl pnc0 pnc1 pnc2 pnc3 pnc4 pnc5 pnc6 pnc7 pnc8 pnc9 pnc10 pnc11 qal qac0 qac1 qac2 qbl qbc0 qbc1 qbc2
  replace hB := hB_
  clear hB_
  generalize ((grow W2 xb).alloc (.cells #[.int .i64 c.x, .int .i64 c.y, .int .i64 c.z] 26)) = W3 at *
  generalize (grow W2 xb).heap.size = n3 at *
  have pnl := pn.lt
  have pnc0 := pn.cell 0
  have pnc1 := pn.cell 1
  have pnc2 := pn.cell 2
  have pnc3 := pn.cell 3
  have pnc4 := pn.cell 4
  have pnc5 := pn.cell 5
  have pnc6 := pn.cell 6
  have pnc7 := pn.cell 7
  have pnc8 := pn.cell 8
  have pnc9 := pn.cell 9
  have pnc10 := pn.cell 10
  have pnc11 := pn.cell 11
  have qal := qa.lt
  have qac0 := qa.cell 0
  have qac1 := qa.cell 1
  have qac2 := qa.cell 2
  have qbl := qb.lt
  have qbc0 := qb.cell 0
  have qbc1 := qb.cell 1
  have qbc2 := qb.cell 2
  have qcl := qc.lt
  have qcc0 := qc.cell 0
  have qcc1 := qc.cell 1
  have qcc2 := qc.cell 2
  go_upto_region 7 with (first | (go_at_call 12; first | ((with_reducible refine (k4.at_ _).mono ?_); rintro e w' ⟨rfl, xb, rfl⟩)) | fail)
  have hB_ : Below W.heap.size W ((grow W3 xb).alloc (.cells #[.int .i64 d.x, .int .i64 d.y, .int .i64 d.z] 26)) := bel_alloc (bel_grow hB xb) _
  have qd : Blk ((grow W3 xb).alloc (.cells #[.int .i64 d.x, .int .i64 d.y, .int .i64 d.z] 26)) (grow W3 xb).heap.size 26 #[.int .i64 d.x, .int .i64 d.y, .int .i64 d.z] := Blk.new _ _ _ _ rfl
  replace pn := (pn.grow xb).alloc (.cells #[.int .i64 d.x, .int .i64 d.y, .int .i64 d.z] 26)
  replace qa := (qa.grow xb).alloc (.cells #[.int .i64 d.x, .int .i64 d.y, .int .i64 d.z] 26)
  replace qb := (qb.grow xb).alloc (.cells #[.int .i64 d.x, .int .i64 d.y, .int .i64 d.z] 26)
  replace qc := (qc.grow xb).alloc (.cells #[.int .i64 d.x, .int .i64 d.y, .int .i64 d.z] 26)
  clear pnl pnc0 pnc1 pnc2 pnc3 pnc4 pnc5 pnc6 pnc7 pnc8 pnc9 pnc10 pnc11 qal qac0 qac1 qac2 qbl qbc0 qbc1 qbc2 qcl qcc0 qcc1 qcc2
  replace hB := hB_
  clear hB_
  generalize ((grow W3 xb).alloc (.cells #[.int .i64 d.x, .int .i64 d.y, .int .i64 d.z] 26)) = W4 at *
  generalize (grow W3 xb).heap.size = n4 at *
  have pnl := pn.lt
  have pnc0 := pn.cell 0
  have pnc1 := pn.cell 1
  have pnc2 := pn.cell 2
  have pnc3 := pn.cell 3
  have pnc4 := pn.cell 4
  have pnc5 := pn.cell 5
  have pnc6 := pn.cell 6
  have pnc7 := pn.cell 7
  have pnc8 := pn.cell 8
  have pnc9 := pn.cell 9
  have pnc10 := pn.cell 10
  have pnc11 := pn.cell 11
  have qal := qa.lt
  have qac0 := qa.cell 0
  have qac1 := qa.cell 1
  have qac2 := qa.cell 2
  have qbl := qb.lt
  have qbc0 := qb.cell 0
  have qbc1 := qb.cell 1
  have qbc2 := qb.cell 2
  have qcl := qc.lt
  have qcc0 := qc.cell 0
  have qcc1 := qc.cell 1
  have qcc2 := qc.cell 2
  have qdl := qd.lt
  have qdc0 := qd.cell 0
  have qdc1 := qd.cell 1
  have qdc2 := qd.cell 2
  go_upto_region 8 with (first | (go_at_call 14; first | ((with_reducible refine (k5.at_ _).mono ?_); rintro e w' ⟨rfl, xb, rfl⟩)) | fail)
  have hB_ : Below W.heap.size W ((grow W4 xb).alloc (.cells #[.int .i64 e.x, .int .i64 e.y, .int .i64 e.z] 26)) := bel_alloc (bel_grow hB xb) _
  have qe : Blk ((grow W4 xb).alloc (.cells #[.int .i64 e.x, .int .i64 e.y, .int .i64 e.z] 26)) (grow W4 xb).heap.size 26 #[.int .i64 e.x, .int .i64 e.y, .int .i64 e.z] := Blk.new _ _ _ _ rfl
  replace pn := (pn.grow xb).alloc (.cells #[.int .i64 e.x, .int .i64 e.y, .int .i64 e.z] 26)
  replace qa := (qa.grow xb).alloc (.cells #[.int .i64 e.x, .int .i64 e.y, .int .i64 e.z] 26)
  replace qb := (qb.grow xb).alloc (.cells #[.int .i64 e.x, .int .i64 e.y, .int .i64 e.z] 26)
  replace qc := (qc.grow xb).alloc (.cells #[.int .i64 e.x, .int .i64 e.y, .int .i64 e.z] 26)
  replace qd := (qd.grow xb).alloc (.cells #[.int .i64 e.x, .int .i64 e.y, .int .i64 e.z] 26)
  clear pnl pnc0 pnc1 pnc2 pnc3 pnc4 pnc5 pnc6 pnc7 pnc8 pnc9 pnc10 pnc11 qal qac0 qac1 qac2 qbl qbc0 qbc1 qbc2 qcl qcc0 qcc1 qcc2 qdl qdc0 qdc1 qdc2
  replace hB := hB_
  clear hB_
  generalize ((grow W4 xb).alloc (.cells #[.int .i64 e.x, .int .i64 e.y, .int .i64 e.z] 26)) = W5 at *
  generalize (grow W4 xb).heap.size = n5 at *
  have pnl := pn.lt
  have pnc0 := pn.cell 0
  have pnc1 := pn.cell 1
  have pnc2 := pn.cell 2
  have pnc3 := pn.cell 3
  have pnc4 := pn.cell 4
  have pnc5 := pn.cell 5
  have pnc6 := pn.cell 6
  have pnc7 := pn.cell 7
  have pnc8 := pn.cell 8
  have pnc9 := pn.cell 9
  have pnc10 := pn.cell 10
  have pnc11 := pn.cell 11
  have qal := qa.lt
  have qac0 := qa.cell 0
  have qac1 := qa.cell 1
  have qac2 := qa.cell 2
  have qbl := qb.lt
  have qbc0 := qb.cell 0
  have qbc1 := qb.cell 1
  have qbc2 := qb.cell 2
  have qcl := qc.lt
  have qcc0 := qc.cell 0
  have qcc1 := qc.cell 1
  have qcc2 := qc.cell 2
  have qdl := qd.lt
  have qdc0 := qd.cell 0
  have qdc1 := qd.cell 1
  have qdc2 := qd.cell 2
  have qel := qe.lt
  have qec0 := qe.cell 0
  have qec1 := qe.cell 1
  have qec2 := qe.cell 2
  go_upto_region 9 with (first | (go_at_call 12; first | ((with_reducible refine (k6.at_ _).mono ?_); rintro e w' ⟨rfl, xb, rfl⟩)) | fail)
  have hB_ : Below W.heap.size W ((grow W5 xb).alloc (.cells #[.int .i64 f.x, .int .i64 f.y, .int .i64 f.z] 26)) := bel_alloc (bel_grow hB xb) _
  have qf : Blk ((grow W5 xb).alloc (.cells #[.int .i64 f.x, .int .i64 f.y, .int .i64 f.z] 26)) (grow W5 xb).heap.size 26 #[.int .i64 f.x, .int .i64 f.y, .int .i64 f.z] := Blk.new _ _ _ _ rfl
  replace pn := (pn.grow xb).alloc (.cells #[.int .i64 f.x, .int .i64 f.y, .int .i64 f.z] 26)
  replace qa := (qa.grow xb).alloc (.cells #[.int .i64 f.x, .int .i64 f.y, .int .i64 f.z] 26)
  replace qb := (qb.grow xb).alloc (.cells #[.int .i64 f.x, .int .i64 f.y, .int .i64 f.z] 26)
  replace qc := (qc.grow xb).alloc (.cells #[.int .i64 f.x, .int .i64 f.y, .int .i64 f.z] 26)
  replace qd := (qd.grow xb).alloc (.cells #[.int .i64 f.x, .int .i64 f.y, .int .i64 f.z] 26)
  replace qe := (qe.grow xb).alloc (.cells #[.int .i64 f.x, .int .i64 f.y, .int .i64 f.z] 26)
  clear pnl pnc0 pnc1 pnc2 pnc3 pnc4 pnc5 pnc6 pnc7 pnc8 pnc9 pnc10 pnc11 qal qac0 qac1 qac2 qbl qbc0 qbc1 qbc2 qcl qcc0 qcc1 qcc2 qdl qdc0 qdc1 qdc2 qel qec0 qec1 qec2
  replace hB := hB_
  clear hB_
  generalize ((grow W5 xb).alloc (.cells #[.int .i64 f.x, .int .i64 f.y, .int .i64 f.z] 26)) = W6 at *
  generalize (grow W5 xb).heap.size = n6 at *
  have pnl := pn.lt
  have pnc0 := pn.cell 0
  have pnc1 := pn.cell 1
  have pnc2 := pn.cell 2
  have pnc3 := pn.cell 3
  have pnc4 := pn.cell 4
  have pnc5 := pn.cell 5
  have pnc6 := pn.cell 6
  have pnc7 := pn.cell 7
  have pnc8 := pn.cell 8
  have pnc9 := pn.cell 9
  have pnc10 := pn.cell 10
  have pnc11 := pn.cell 11
  have qal := qa.lt
  have qac0 := qa.cell 0
  have qac1 := qa.cell 1
  have qac2 := qa.cell 2
  have qbl := qb.lt
  have qbc0 := qb.cell 0
  have qbc1 := qb.cell 1
  have qbc2 := qb.cell 2
  have qcl := qc.lt
  have qcc0 := qc.cell 0
  have qcc1 := qc.cell 1
  have qcc2 := qc.cell 2
  have qdl := qd.lt
  have qdc0 := qd.cell 0
  have qdc1 := qd.cell 1
  have qdc2 := qd.cell 2
  have qel := qe.lt
  have qec0 := qe.cell 0
  have qec1 := qe.cell 1
  have qec2 := qe.cell 2
  have qfl := qf.lt
  have qfc0 := qf.cell 0
  have qfc1 := qf.cell 1
  have qfc2 := qf.cell 2
  cases o1 <;> cases o3 <;> cases o5
  all_goals
    try (obtain rfl := h1 rfl)
    try (obtain rfl := h2 rfl)
    try (obtain rfl := h3 rfl)
    go_wp2_with fail
    go_ret
    exact ⟨rfl, bel_trans hB (by repeat (first | exact Below.refl _ _ | refine bel_then ?_ _ | refine bel_grow ?_ _ | refine bel_alloc ?_ _ | refine bel_drew ?_ | refine bel_set ?_ (by simp) _ | refine bel_setRow ?_ (by first | omega | (simp; done) | (refine Nat.le_trans ?_ (top_le _ _); simp; done) | (refine Nat.le_succ_of_le (Nat.le_trans ?_ (top_le _ _)); simp; done) | (refine Nat.le_trans ?_ (top_le _ _); simp only [World.size_alloc]; refine Nat.le_succ_of_le (Nat.le_trans ?_ (top_le _ _)); simp; done)) _))⟩
  --END core
set_option maxRecDepth 100000 in
set_option maxHeartbeats 4000000 in
theorem walk (W : World) (n : Nat → P3) (kn : ∀ k, k < 4 → In3 (n k)) (i : Int) (hi : -9223372036854775808 ≤ i ∧ i ≤ 9223372036854775807) (k : Int) (hk : -9223372036854775808 ≤ k ∧ k ≤ 9223372036854775807) : Calls Try.prog 6 #[.agg (ptsC 4 n), .int .i64 i, .int .i64 k] W fun e w' => e = .returned (.bool true) ∧ Below W.heap.size W w' := by
  have hw : -9223372036854775808 ≤ wrap64 (k - i) ∧ wrap64 (k - i) ≤ 9223372036854775807 := by unfold wrap64; omega
  exact core W n i k _ _ _ _ _ _ _ _ _ _ _ _ side0 side1 (side2 hi) (mix_any n i k 0 1 hi hk (by omega) (by omega)) (blend_any (n 0) (n 1) i k hi hk) (mix_any n 1 1 i k (by omega) (by omega) hi hk) (blend_any (n 1) (n 2) i k hi hk) (mix_any n _ k 1 1 hw hk (by omega) (by omega)) (blend_any (n 2) (n 3) i k hi hk)

theorem own : ownKnob Try.prog.godebug = none := by kernel_rfl
set_option maxRecDepth 100000 in
theorem lifted (os : Os) (started : os.Started) (H : Type) (enc : TypeId × Value → H) :
    ReturnsInHanded {} Try.checked os 6 .any (Rows.reliefSidesSpec.pre6 enc Try.prog Try.f6 Rows.reliefSidesRow.domain false) (Rows.reliefSidesSpec.post enc Try.prog Try.f6 false true false false) := by
  refine returnsInHanded_of_change_sized (C := Try.checked) own started (by kernel_rfl) Try.func6
    (ChangeSpec.witness6 (enc := enc) (C := Try.checked) false ⟨#[], #[.agg #[.int .i64 0, .int .i64 0, .int .i64 0, .int .i64 0, .int .i64 0, .int .i64 0, .int .i64 0, .int .i64 0, .int .i64 0, .int .i64 0, .int .i64 0, .int .i64 0], .int .i64 0, .int .i64 0], []⟩ 12 (by kernel_rfl) (by kernel_rfl) (by kernel_rfl) (by kernel_rfl)) ?_
  intro W base args ds gs before hval0 hW hcnd hwt _
  have hval : ∀ (j : Nat) t v, Try.f6.params[j]? = some t → args[j]? = some v → Value.okWide Try.prog W .any base t v := hval0
  have hW' := hW
  obtain ⟨p, q, hA0, hV, rfl, hfz, hnd⟩ := hW
  have hA : DataW.TrodAll enc Try.prog W 0 (fun _ => true) true Try.f6.params.toList args.toList ds p := hA0
  rw [Try.params6] at hA hval
  obtain ⟨v0, vs0, d0, ds0, p0, q0, hargs, rfl, rfl, h0, r0⟩ := trodAll_cons hA
  obtain ⟨v1, vs1, d1, ds1, p1, q1, rfl, rfl, rfl, h1, r1⟩ := trodAll_cons r0
  obtain ⟨v2, vs2, d2, ds2, p2, q2, rfl, rfl, rfl, h2, r2⟩ := trodAll_cons r1
  obtain ⟨rfl, rfl, rfl⟩ := trodAll_nil r2
  obtain rfl : args = #[v0, v1, v2] := by cases args; simp_all
  obtain ⟨p0, rfl, k0⟩ := open_A4 (hval 0 27 v0 rfl rfl) h0
  obtain ⟨a1, rfl, b1⟩ := open_int64 (hval 1 3 v1 rfl rfl) h1
  obtain ⟨a2, rfl, b2⟩ := open_int64 (hval 2 3 v2 rfl rfl) h2
  refine (walk W p0 k0 a1 b1 a2 b2).mono fun e W' ⟨he, hb⟩ => ?_
  subst he
  exact ⟨_, rfl, law_post (tb := 4) (by kernel_rfl) (by kernel_rfl) rfl rfl Try.underlying4 rfl rfl rfl hW' hb⟩

theorem over : Rows.reliefSidesRow.holds Try.pinned (OpenSpec.ofChange Rows.reliefSidesSpec) :=
  OpenClaim.holds_of_wide 6 Try.f6 rfl rfl rfl rfl rfl rfl rfl ⟨rfl, rfl, rfl, rfl, rfl⟩ rfl rfl rfl rfl rfl (by kernel_rfl) Try.func6 (by kernel_rfl)
    (of_decide_eq_true (by kernel_rfl)) (by unfold Func.isWrapper; first | (rw [if_pos (by decide +kernel)]; kernel_rfl) | (rw [if_neg (by decide +kernel)]; exact ⟨rfl, rfl⟩))
    (fun os started H enc _ => lifted os started H enc)

theorem proved : Rows.ReliefSidesSaid :=
  over
#print axioms proved
end Go.Proofs.Yteigionfaodafaa.reliefSides
