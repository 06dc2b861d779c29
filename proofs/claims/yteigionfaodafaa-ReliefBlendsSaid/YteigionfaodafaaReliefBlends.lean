/- ReliefBlends holds for every input: the row, out of the walk. No condition. -/
import Derived.SizedLaws
import Derived.Test.YteigionfaodafaaRows
import Derived.Test.YteigionfaodafaaC4
import Derived.Test.YteigionfaodafaaC6
import Derived.Test.YteigionfaodafaaC7
namespace Go.Proofs.Yteigionfaodafaa.reliefBlends
open Go.ChangeShapes Go.WideShapes Go.ChangeAt Go.RowKit
set_option linter.unusedVariables false
set_option linter.unusedSimpArgs false
theorem bound2 (a b : P3) (W' : World) (g : Nat) (t : TypeId) (h : Blk W' g t #[.int .i64 a.x, .int .i64 a.y, .int .i64 a.z, .int .i64 b.x, .int .i64 b.y, .int .i64 b.z]) :
    Calls Try.prog 21 #[.slice (some ⟨g, 0, none⟩) 2 2] W' fun e w' => e = .returned (.tuple #[.agg #[.int .i64 (min a.x b.x), .int .i64 (min a.y b.y), .int .i64 (min a.z b.z), .int .i64 (max a.x b.x), .int .i64 (max a.y b.y), .int .i64 (max a.z b.z)], .bool true]) ∧ ∃ z, w' = grow W' z :=
  vBound_some W' _ 1 2 (fun k => if k = 0 then (a.x, a.y, a.z) else (b.x, b.y, b.z)) (fun _ => ⟨g, 0, rfl, h.lt, fun i hi => by
    rcases (by omega : i = 0 ∨ i = 1) with rfl | rfl
    · exact ⟨h.cell 0, h.cell 1, h.cell 2⟩
    · exact ⟨h.cell 3, h.cell 4, h.cell 5⟩⟩) (by omega) (by omega)
set_option maxRecDepth 100000 in
set_option maxHeartbeats 4000000 in
theorem core (W : World) (a b q : P3) (i n : Int) (hi : 0 ≤ i ∧ i ≤ n) (hn : 1 ≤ n ∧ n ≤ 16) (h0 : i = 0 → q = a) (h1 : i = n → q = b)
    (k1 : Gives Try.prog 12 #[.agg #[.int .i64 a.x, .int .i64 a.y, .int .i64 a.z], .agg #[.int .i64 b.x, .int .i64 b.y, .int .i64 b.z], .int .i64 i, .int .i64 n] (.tuple #[.agg #[.int .i64 q.x, .int .i64 q.y, .int .i64 q.z], .bool true]))
    (k2 : Gives Try.prog 12 #[.agg #[.int .i64 b.x, .int .i64 b.y, .int .i64 b.z], .agg #[.int .i64 a.x, .int .i64 a.y, .int .i64 a.z], .int .i64 (n - i), .int .i64 n] (.tuple #[.agg #[.int .i64 q.x, .int .i64 q.y, .int .i64 q.z], .bool true]))
    (k3 : Gives Try.prog 12 #[.agg #[.int .i64 a.x, .int .i64 a.y, .int .i64 a.z], .agg #[.int .i64 a.x, .int .i64 a.y, .int .i64 a.z], .int .i64 i, .int .i64 n] (.tuple #[.agg #[.int .i64 a.x, .int .i64 a.y, .int .i64 a.z], .bool true]))
    (lx ly lz hx hy hz : Int)
    (k4 : ∀ W' g t, Blk W' g t #[.int .i64 a.x, .int .i64 a.y, .int .i64 a.z, .int .i64 b.x, .int .i64 b.y, .int .i64 b.z] → Calls Try.prog 21 #[.slice (some ⟨g, 0, none⟩) 2 2] W' fun e w' => e = .returned (.tuple #[.agg #[.int .i64 lx, .int .i64 ly, .int .i64 lz, .int .i64 hx, .int .i64 hy, .int .i64 hz], .bool true]) ∧ ∃ z, w' = grow W' z)
    (k5 : Gives Try.prog 22 #[.agg #[.int .i64 lx, .int .i64 ly, .int .i64 lz, .int .i64 hx, .int .i64 hy, .int .i64 hz], .agg #[.int .i64 q.x, .int .i64 q.y, .int .i64 q.z]] (.bool true)) :
    Calls Try.prog 5 #[.agg #[.int .i64 a.x, .int .i64 a.y, .int .i64 a.z], .agg #[.int .i64 b.x, .int .i64 b.y, .int .i64 b.z], .int .i64 i, .int .i64 n] W fun e w' => e = .returned (.bool true) ∧ Below W.heap.size W w' := by
  have al := alive14_any
  obtain ⟨i1, i2⟩ := hi
  obtain ⟨n1, n2⟩ := hn
  have bl : True := trivial
  --BEGIN core
  go_enter Try.func5, Try.ntmps5
  go_upto_region 1 with (fail)
  have hB : Below W.heap.size W ((W.alloc (.cells #[.int .i64 a.x, .int .i64 a.y, .int .i64 a.z] 26)).alloc (.cells #[.int .i64 b.x, .int .i64 b.y, .int .i64 b.z] 26)) := bel_alloc (bel_alloc (Below.refl _ _) _) _
  have pa : Blk ((W.alloc (.cells #[.int .i64 a.x, .int .i64 a.y, .int .i64 a.z] 26)).alloc (.cells #[.int .i64 b.x, .int .i64 b.y, .int .i64 b.z] 26)) (W.heap.size) 26 #[.int .i64 a.x, .int .i64 a.y, .int .i64 a.z] := (Blk.new _ _ _ _ rfl).alloc _
  have pb : Blk ((W.alloc (.cells #[.int .i64 a.x, .int .i64 a.y, .int .i64 a.z] 26)).alloc (.cells #[.int .i64 b.x, .int .i64 b.y, .int .i64 b.z] 26)) (W.heap.size + 1) 26 #[.int .i64 b.x, .int .i64 b.y, .int .i64 b.z] := Blk.new _ _ _ _ (by simp)
  generalize ((W.alloc (.cells #[.int .i64 a.x, .int .i64 a.y, .int .i64 a.z] 26)).alloc (.cells #[.int .i64 b.x, .int .i64 b.y, .int .i64 b.z] 26)) = W0 at *
  have pal := pa.lt
  have pac0 := pa.cell 0
  have pac1 := pa.cell 1
  have pac2 := pa.cell 2
  have pbl := pb.lt
  have pbc0 := pb.cell 0
  have pbc1 := pb.cell 1
  have pbc2 := pb.cell 2
  go_upto_region 4 with (first | (go_at_call 8; first | ((with_reducible refine (al.at_ _).mono ?_); rintro e w' ⟨rfl, xa, rfl⟩)) | (go_at_call 12; first | ((with_reducible refine (k1.at_ _).mono ?_); rintro e w' ⟨rfl, xb, rfl⟩)) | fail)
  have hB_ : Below W.heap.size W ((grow W0 (xa.then xb)).alloc (.cells #[.int .i64 q.x, .int .i64 q.y, .int .i64 q.z] 26)) := bel_alloc (bel_grow hB (xa.then xb)) _
  have px : Blk ((grow W0 (xa.then xb)).alloc (.cells #[.int .i64 q.x, .int .i64 q.y, .int .i64 q.z] 26)) (grow W0 (xa.then xb)).heap.size 26 #[.int .i64 q.x, .int .i64 q.y, .int .i64 q.z] := Blk.new _ _ _ _ rfl
  replace pa := (pa.grow (xa.then xb)).alloc (.cells #[.int .i64 q.x, .int .i64 q.y, .int .i64 q.z] 26)
  replace pb := (pb.grow (xa.then xb)).alloc (.cells #[.int .i64 q.x, .int .i64 q.y, .int .i64 q.z] 26)
  clear pal pac0 pac1 pac2 pbl pbc0 pbc1 pbc2
  replace hB := hB_
  clear hB_
  generalize ((grow W0 (xa.then xb)).alloc (.cells #[.int .i64 q.x, .int .i64 q.y, .int .i64 q.z] 26)) = W1 at *
  generalize (grow W0 (xa.then xb)).heap.size = n1 at *
  have pal := pa.lt
  have pac0 := pa.cell 0
  have pac1 := pa.cell 1
  have pac2 := pa.cell 2
  have pbl := pb.lt
  have pbc0 := pb.cell 0
  have pbc1 := pb.cell 1
  have pbc2 := pb.cell 2
  have pxl := px.lt
  have pxc0 := px.cell 0
  have pxc1 := px.cell 1
  have pxc2 := px.cell 2
  go_upto_region 7 with (first | (go_at_call 12; first | ((with_reducible refine (k2.at_ _).mono ?_); rintro e w' ⟨rfl, xc, rfl⟩)) | fail)
  have hB_ : Below W.heap.size W ((grow W1 xc).alloc (.cells #[.int .i64 q.x, .int .i64 q.y, .int .i64 q.z] 26)) := bel_alloc (bel_grow hB xc) _
  have py : Blk ((grow W1 xc).alloc (.cells #[.int .i64 q.x, .int .i64 q.y, .int .i64 q.z] 26)) (grow W1 xc).heap.size 26 #[.int .i64 q.x, .int .i64 q.y, .int .i64 q.z] := Blk.new _ _ _ _ rfl
  replace pa := (pa.grow xc).alloc (.cells #[.int .i64 q.x, .int .i64 q.y, .int .i64 q.z] 26)
  replace pb := (pb.grow xc).alloc (.cells #[.int .i64 q.x, .int .i64 q.y, .int .i64 q.z] 26)
  replace px := (px.grow xc).alloc (.cells #[.int .i64 q.x, .int .i64 q.y, .int .i64 q.z] 26)
  clear pal pac0 pac1 pac2 pbl pbc0 pbc1 pbc2 pxl pxc0 pxc1 pxc2
  replace hB := hB_
  clear hB_
  generalize ((grow W1 xc).alloc (.cells #[.int .i64 q.x, .int .i64 q.y, .int .i64 q.z] 26)) = W2 at *
  generalize (grow W1 xc).heap.size = n2 at *
  have pal := pa.lt
  have pac0 := pa.cell 0
  have pac1 := pa.cell 1
  have pac2 := pa.cell 2
  have pbl := pb.lt
  have pbc0 := pb.cell 0
  have pbc1 := pb.cell 1
  have pbc2 := pb.cell 2
  have pxl := px.lt
  have pxc0 := px.cell 0
  have pxc1 := px.cell 1
  have pxc2 := px.cell 2
  have pyl := py.lt
  have pyc0 := py.cell 0
  have pyc1 := py.cell 1
  have pyc2 := py.cell 2
  go_upto_region 8 with (first | (go_at_call 12; first | ((with_reducible refine (k3.at_ _).mono ?_); rintro e w' ⟨rfl, xd, rfl⟩)) | fail)
  have hB_ : Below W.heap.size W ((grow W2 xd).alloc (.cells #[.int .i64 a.x, .int .i64 a.y, .int .i64 a.z] 26)) := bel_alloc (bel_grow hB xd) _
  have pz : Blk ((grow W2 xd).alloc (.cells #[.int .i64 a.x, .int .i64 a.y, .int .i64 a.z] 26)) (grow W2 xd).heap.size 26 #[.int .i64 a.x, .int .i64 a.y, .int .i64 a.z] := Blk.new _ _ _ _ rfl
  replace pa := (pa.grow xd).alloc (.cells #[.int .i64 a.x, .int .i64 a.y, .int .i64 a.z] 26)
  replace pb := (pb.grow xd).alloc (.cells #[.int .i64 a.x, .int .i64 a.y, .int .i64 a.z] 26)
  replace px := (px.grow xd).alloc (.cells #[.int .i64 a.x, .int .i64 a.y, .int .i64 a.z] 26)
  replace py := (py.grow xd).alloc (.cells #[.int .i64 a.x, .int .i64 a.y, .int .i64 a.z] 26)
  clear pal pac0 pac1 pac2 pbl pbc0 pbc1 pbc2 pxl pxc0 pxc1 pxc2 pyl pyc0 pyc1 pyc2
  replace hB := hB_
  clear hB_
  generalize ((grow W2 xd).alloc (.cells #[.int .i64 a.x, .int .i64 a.y, .int .i64 a.z] 26)) = W3 at *
  generalize (grow W2 xd).heap.size = n3 at *
  have pal := pa.lt
  have pac0 := pa.cell 0
  have pac1 := pa.cell 1
  have pac2 := pa.cell 2
  have pbl := pb.lt
  have pbc0 := pb.cell 0
  have pbc1 := pb.cell 1
  have pbc2 := pb.cell 2
  have pxl := px.lt
  have pxc0 := px.cell 0
  have pxc1 := px.cell 1
  have pxc2 := px.cell 2
  have pyl := py.lt
  have pyc0 := py.cell 0
  have pyc1 := py.cell 1
  have pyc2 := py.cell 2
  have pzl := pz.lt
  have pzc0 := pz.cell 0
  have pzc1 := pz.cell 1
  have pzc2 := pz.cell 2
  go_upto_region 9 with (first | (go_at_call 21; first | ((with_reducible refine (k4 _ _ _ (Blk.new _ _ _ _ rfl)).mono ?_); rintro e w' ⟨rfl, xe, rfl⟩)) | fail)
  replace hB := bel_alloc hB (.cells #[.int .i64 a.x, .int .i64 a.y, .int .i64 a.z, .int .i64 b.x, .int .i64 b.y, .int .i64 b.z] 26)
  replace pa := pa.alloc (.cells #[.int .i64 a.x, .int .i64 a.y, .int .i64 a.z, .int .i64 b.x, .int .i64 b.y, .int .i64 b.z] 26)
  replace pb := pb.alloc (.cells #[.int .i64 a.x, .int .i64 a.y, .int .i64 a.z, .int .i64 b.x, .int .i64 b.y, .int .i64 b.z] 26)
  replace px := px.alloc (.cells #[.int .i64 a.x, .int .i64 a.y, .int .i64 a.z, .int .i64 b.x, .int .i64 b.y, .int .i64 b.z] 26)
  replace py := py.alloc (.cells #[.int .i64 a.x, .int .i64 a.y, .int .i64 a.z, .int .i64 b.x, .int .i64 b.y, .int .i64 b.z] 26)
  replace pz := pz.alloc (.cells #[.int .i64 a.x, .int .i64 a.y, .int .i64 a.z, .int .i64 b.x, .int .i64 b.y, .int .i64 b.z] 26)
  have hB_ : Below W.heap.size W ((grow (W3.alloc (.cells #[.int .i64 a.x, .int .i64 a.y, .int .i64 a.z, .int .i64 b.x, .int .i64 b.y, .int .i64 b.z] 26)) xe).alloc (.cells #[.int .i64 lx, .int .i64 ly, .int .i64 lz, .int .i64 hx, .int .i64 hy, .int .i64 hz] 41)) := bel_alloc (bel_grow hB xe) _
  have pw : Blk ((grow (W3.alloc (.cells #[.int .i64 a.x, .int .i64 a.y, .int .i64 a.z, .int .i64 b.x, .int .i64 b.y, .int .i64 b.z] 26)) xe).alloc (.cells #[.int .i64 lx, .int .i64 ly, .int .i64 lz, .int .i64 hx, .int .i64 hy, .int .i64 hz] 41)) (grow (W3.alloc (.cells #[.int .i64 a.x, .int .i64 a.y, .int .i64 a.z, .int .i64 b.x, .int .i64 b.y, .int .i64 b.z] 26)) xe).heap.size 41 #[.int .i64 lx, .int .i64 ly, .int .i64 lz, .int .i64 hx, .int .i64 hy, .int .i64 hz] := Blk.new _ _ _ _ rfl
  replace pa := (pa.grow xe).alloc (.cells #[.int .i64 lx, .int .i64 ly, .int .i64 lz, .int .i64 hx, .int .i64 hy, .int .i64 hz] 41)
  replace pb := (pb.grow xe).alloc (.cells #[.int .i64 lx, .int .i64 ly, .int .i64 lz, .int .i64 hx, .int .i64 hy, .int .i64 hz] 41)
  replace px := (px.grow xe).alloc (.cells #[.int .i64 lx, .int .i64 ly, .int .i64 lz, .int .i64 hx, .int .i64 hy, .int .i64 hz] 41)
  replace py := (py.grow xe).alloc (.cells #[.int .i64 lx, .int .i64 ly, .int .i64 lz, .int .i64 hx, .int .i64 hy, .int .i64 hz] 41)
  replace pz := (pz.grow xe).alloc (.cells #[.int .i64 lx, .int .i64 ly, .int .i64 lz, .int .i64 hx, .int .i64 hy, .int .i64 hz] 41)
  clear pal pac0 pac1 pac2 pbl pbc0 pbc1 pbc2 pxl pxc0 pxc1 pxc2 pyl pyc0 pyc1 pyc2 pzl pzc0 pzc1 pzc2
  replace hB := hB_
  clear hB_
  generalize ((grow (W3.alloc (.cells #[.int .i64 a.x, .int .i64 a.y, .int .i64 a.z, .int .i64 b.x, .int .i64 b.y, .int .i64 b.z] 26)) xe).alloc (.cells #[.int .i64 lx, .int .i64 ly, .int .i64 lz, .int .i64 hx, .int .i64 hy, .int .i64 hz] 41)) = W4 at *
  generalize (grow (W3.alloc (.cells #[.int .i64 a.x, .int .i64 a.y, .int .i64 a.z, .int .i64 b.x, .int .i64 b.y, .int .i64 b.z] 26)) xe).heap.size = n4 at *
  have pal := pa.lt
  have pac0 := pa.cell 0
  have pac1 := pa.cell 1
  have pac2 := pa.cell 2
  have pbl := pb.lt
  have pbc0 := pb.cell 0
  have pbc1 := pb.cell 1
  have pbc2 := pb.cell 2
  have pxl := px.lt
  have pxc0 := px.cell 0
  have pxc1 := px.cell 1
  have pxc2 := px.cell 2
  have pyl := py.lt
  have pyc0 := py.cell 0
  have pyc1 := py.cell 1
  have pyc2 := py.cell 2
  have pzl := pz.lt
  have pzc0 := pz.cell 0
  have pzc1 := pz.cell 1
  have pzc2 := pz.cell 2
  have pwl := pw.lt
  have pwc0 := pw.cell 0
  have pwc1 := pw.cell 1
  have pwc2 := pw.cell 2
  have pwc3 := pw.cell 3
  have pwc4 := pw.cell 4
  have pwc5 := pw.cell 5
  by_cases e0 : i = 0
  · have q0 := h0 e0
    subst q0
    subst e0
    have hne : ((0 : Int) != n) = true := by simp; omega
    go_wp2_with (first | (go_at_call 22; first | ((with_reducible refine (k5.at_ _).mono ?_); rintro e w' ⟨rfl, xf, rfl⟩)) | fail)
    go_ret
    exact ⟨rfl, bel_trans hB (by repeat (first | exact Below.refl _ _ | refine bel_then ?_ _ | refine bel_grow ?_ _ | refine bel_alloc ?_ _ | refine bel_drew ?_ | refine bel_set ?_ (by simp) _ | refine bel_setRow ?_ (by first | omega | (simp; done) | (refine Nat.le_trans ?_ (top_le _ _); simp; done) | (refine Nat.le_succ_of_le (Nat.le_trans ?_ (top_le _ _)); simp; done) | (refine Nat.le_trans ?_ (top_le _ _); simp only [World.size_alloc]; refine Nat.le_succ_of_le (Nat.le_trans ?_ (top_le _ _)); simp; done)) _))⟩
  · have hne0 : (i != 0) = true := by simpa using e0
    by_cases e1 : i = n
    · have q1 := h1 e1
      subst q1
      subst e1
      go_wp2_with (first | (go_at_call 22; first | ((with_reducible refine (k5.at_ _).mono ?_); rintro e w' ⟨rfl, xf, rfl⟩)) | fail)
      go_ret
      exact ⟨rfl, bel_trans hB (by repeat (first | exact Below.refl _ _ | refine bel_then ?_ _ | refine bel_grow ?_ _ | refine bel_alloc ?_ _ | refine bel_drew ?_ | refine bel_set ?_ (by simp) _ | refine bel_setRow ?_ (by first | omega | (simp; done) | (refine Nat.le_trans ?_ (top_le _ _); simp; done) | (refine Nat.le_succ_of_le (Nat.le_trans ?_ (top_le _ _)); simp; done) | (refine Nat.le_trans ?_ (top_le _ _); simp only [World.size_alloc]; refine Nat.le_succ_of_le (Nat.le_trans ?_ (top_le _ _)); simp; done)) _))⟩
    · have hne1 : (i != n) = true := by simpa using e1
      go_wp2_with (first | (go_at_call 22; first | ((with_reducible refine (k5.at_ _).mono ?_); rintro e w' ⟨rfl, xf, rfl⟩)) | fail)
      go_ret
      exact ⟨rfl, bel_trans hB (by repeat (first | exact Below.refl _ _ | refine bel_then ?_ _ | refine bel_grow ?_ _ | refine bel_alloc ?_ _ | refine bel_drew ?_ | refine bel_set ?_ (by simp) _ | refine bel_setRow ?_ (by first | omega | (simp; done) | (refine Nat.le_trans ?_ (top_le _ _); simp; done) | (refine Nat.le_succ_of_le (Nat.le_trans ?_ (top_le _ _)); simp; done) | (refine Nat.le_trans ?_ (top_le _ _); simp only [World.size_alloc]; refine Nat.le_succ_of_le (Nat.le_trans ?_ (top_le _ _)); simp; done)) _))⟩
  --END core
set_option maxRecDepth 100000 in
set_option maxHeartbeats 4000000 in
theorem walk (W : World) (a : P3) (ka : I3 a) (b : P3) (kb : I3 b) (i : Int) (hi : -9223372036854775808 ≤ i ∧ i ≤ 9223372036854775807) (n : Int) (hn : -9223372036854775808 ≤ n ∧ n ≤ 9223372036854775807) : Calls Try.prog 5 #[.agg #[.int .i64 a.x, .int .i64 a.y, .int .i64 a.z], .agg #[.int .i64 b.x, .int .i64 b.y, .int .i64 b.z], .int .i64 i, .int .i64 n] W fun e w' => e = .returned (.bool true) ∧ Below W.heap.size W w' := by
  have k1 := blend_any a b i n hi hn
  cases hk : blK a b i n
  · have al := alive14_any
    rw [hk, blP_no hk, show N3 = ⟨0, 0, 0⟩ from rfl] at k1
    simp only [] at k1
    clear hk ka kb hi hn
    go_enter Try.func5, Try.ntmps5
    go_wp2_with (first | (go_at_call 8; (with_reducible refine (al.at_ _).mono ?_); rintro e w' ⟨rfl, xg, rfl⟩) | (go_at_call 12; (with_reducible refine (k1.at_ _).mono ?_); rintro e w' ⟨rfl, xh, rfl⟩) | fail)
    go_ret
    exact ⟨rfl, (by repeat (first | exact Below.refl _ _ | refine bel_then ?_ _ | refine bel_grow ?_ _ | refine bel_alloc ?_ _ | refine bel_drew ?_ | refine bel_set ?_ (by simp) _ | refine bel_setRow ?_ (by first | omega | (simp; done) | (refine Nat.le_trans ?_ (top_le _ _); simp; done) | (refine Nat.le_succ_of_le (Nat.le_trans ?_ (top_le _ _)); simp; done) | (refine Nat.le_trans ?_ (top_le _ _); simp only [World.size_alloc]; refine Nat.le_succ_of_le (Nat.le_trans ?_ (top_le _ _)); simp; done)) _))⟩
  · obtain ⟨h1, _, _⟩ := blK_yes hk
    have k2 := blend_any b a (n - i) n (by omega) hn
    have k3 := blend_any a a i n hi hn
    rw [hk] at k1
    rw [blP_turn hk, blK_turn hk] at k2
    rw [blP_self hk, blK_self hk] at k3
    have k5 := vHas_any (min a.x b.x) (min a.y b.y) (min a.z b.z) (max a.x b.x) (max a.y b.y) (max a.z b.z) (blP a b i n).x (blP a b i n).y (blP a b i n).z
    rw [blP_box hk] at k5
    exact core W a b (blP a b i n) i n (by omega) (by omega) (fun e => by subst e; exact blP_first hk) (fun e => by subst e; exact blP_last hk) k1 k2 k3 _ _ _ _ _ _ (bound2 a b) k5

theorem own : ownKnob Try.prog.godebug = none := by kernel_rfl
set_option maxRecDepth 100000 in
theorem lifted (os : Os) (started : os.Started) (H : Type) (enc : TypeId × Value → H) :
    ReturnsInHanded {} Try.checked os 5 .any (Rows.reliefBlendsSpec.pre6 enc Try.prog Try.f5 Rows.reliefBlendsRow.domain false) (Rows.reliefBlendsSpec.post enc Try.prog Try.f5 false true false false) := by
  refine returnsInHanded_of_change_sized (C := Try.checked) own started (by kernel_rfl) Try.func5
    (ChangeSpec.witness6 (enc := enc) (C := Try.checked) false ⟨#[], #[.agg #[.int .i64 0, .int .i64 0, .int .i64 0], .agg #[.int .i64 0, .int .i64 0, .int .i64 0], .int .i64 0, .int .i64 0], []⟩ 12 (by kernel_rfl) (by kernel_rfl) (by kernel_rfl) (by kernel_rfl)) ?_
  intro W base args ds gs before hval0 hW hcnd hwt _
  have hval : ∀ (j : Nat) t v, Try.f5.params[j]? = some t → args[j]? = some v → Value.okWide Try.prog W .any base t v := hval0
  have hW' := hW
  obtain ⟨p, q, hA0, hV, rfl, hfz, hnd⟩ := hW
  have hA : DataW.TrodAll enc Try.prog W 0 (fun _ => true) true Try.f5.params.toList args.toList ds p := hA0
  rw [Try.params5] at hA hval
  obtain ⟨v0, vs0, d0, ds0, p0, q0, hargs, rfl, rfl, h0, r0⟩ := trodAll_cons hA
  obtain ⟨v1, vs1, d1, ds1, p1, q1, rfl, rfl, rfl, h1, r1⟩ := trodAll_cons r0
  obtain ⟨v2, vs2, d2, ds2, p2, q2, rfl, rfl, rfl, h2, r2⟩ := trodAll_cons r1
  obtain ⟨v3, vs3, d3, ds3, p3, q3, rfl, rfl, rfl, h3, r3⟩ := trodAll_cons r2
  obtain ⟨rfl, rfl, rfl⟩ := trodAll_nil r3
  obtain rfl : args = #[v0, v1, v2, v3] := by cases args; simp_all
  obtain ⟨a0, rfl, k0⟩ := open_P (hval 0 26 v0 rfl rfl) h0
  obtain ⟨a1, rfl, k1⟩ := open_P (hval 1 26 v1 rfl rfl) h1
  obtain ⟨a2, rfl, b2⟩ := open_int64 (hval 2 3 v2 rfl rfl) h2
  obtain ⟨a3, rfl, b3⟩ := open_int64 (hval 3 3 v3 rfl rfl) h3
  refine (walk W a0 k0 a1 k1 a2 b2 a3 b3).mono fun e W' ⟨he, hb⟩ => ?_
  subst he
  exact ⟨_, rfl, law_post (tb := 4) (by kernel_rfl) (by kernel_rfl) rfl rfl Try.underlying4 rfl rfl rfl hW' hb⟩

theorem over : Rows.reliefBlendsRow.holds Try.pinned (OpenSpec.ofChange Rows.reliefBlendsSpec) :=
  OpenClaim.holds_of_wide 5 Try.f5 rfl rfl rfl rfl rfl rfl rfl ⟨rfl, rfl, rfl, rfl, rfl⟩ rfl rfl rfl rfl rfl (by kernel_rfl) Try.func5 (by kernel_rfl)
    (of_decide_eq_true (by kernel_rfl)) (by unfold Func.isWrapper; first | (rw [if_pos (by decide +kernel)]; kernel_rfl) | (rw [if_neg (by decide +kernel)]; exact ⟨rfl, rfl⟩))
    (fun os started H enc _ => lifted os started H enc)

theorem proved : Rows.ReliefBlendsSaid :=
  over
#print axioms proved
end Go.Proofs.Yteigionfaodafaa.reliefBlends
