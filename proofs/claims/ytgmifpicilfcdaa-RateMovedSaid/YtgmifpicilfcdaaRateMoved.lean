/- RateMoved holds for every input: the row, out of the walk. No condition. -/
import Derived.Test.YtgmifpicilfcdaaRows
import Derived.Test.YtgmifpicilfcdaaC4
import Derived.Test.YtgmifpicilfcdaaC5
namespace Go.Proofs.Ytgmifpicilfcdaa.rateMoved
open Go.ChangeShapes Go.WideShapes Go.ChangeAt Go.RowKit
set_option linter.unusedVariables false
set_option linter.unusedSimpArgs false
def mvR (p : Nat → P3) (v : P3) (k : Nat) : P3 := ⟨(p k).x + v.x, (p k).y + v.y, (p k).z + v.z⟩
def ngR (p : Nat → P3) (k : Nat) : P3 := ⟨(p k).x * -1, (p k).y * -1, (p k).z * -1⟩
theorem mvR_fin {p : Nat → P3} {v : P3} (hv : wiB v.x v.y v.z 16384 = true) (hp : ∀ k, k < 4 → wiB (p k).x (p k).y (p k).z 32768 = true) :
    okB p 4 = true ∧ okB (mvR p v) 4 = true ∧ okB (ngR p) 4 = true ∧ lenK (mvR p v) = lenK p ∧ lenK (ngR p) = lenK p := by
  have bv := (wiB_iff _ _ _ _).1 hv
  have bp := fun k hk => (wiB_iff _ _ _ _).1 (hp k hk)
  have o1 : okB p 4 = true := okB_all.2 fun k hk => (wiB_iff _ _ _ _).2 (by have := bp k hk; omega)
  have o2 : okB (mvR p v) 4 = true := okB_all.2 fun k hk => (wiB_iff _ _ _ _).2 (by have := bp k hk; unfold mvR; simp only []; omega)
  have o3 : okB (ngR p) 4 = true := okB_all.2 fun k hk => (wiB_iff _ _ _ _).2 (by have := bp k hk; unfold ngR; simp only []; omega)
  refine ⟨o1, o2, o3, ?_, ?_⟩
  · unfold lenK
    rw [if_pos o1, if_pos o2, lenF_eq, lenF_eq]
    have e : ∀ a b, stp (sb (mvR p v a) (mvR p v b)) = stp (sb (p a) (p b)) := fun a b => by
      congr 1
      unfold sb mvR
      simp only [P3.mk.injEq]
      omega
    rw [e, e, e]
  · unfold lenK
    rw [if_pos o1, if_pos o3, lenF_eq, lenF_eq]
    have e : ∀ a b, stp (sb (ngR p a) (ngR p b)) = stp (sb (p a) (p b)) := fun a b => by
      rw [stp_neg (p a) (p b)]
      congr 1
      unfold sb ngR
      simp only [P3.mk.injEq]
      omega
    rw [e, e, e]
theorem mvR_add {q v : P3} (hv : wiB v.x v.y v.z 16384 = true) (hp : wiB q.x q.y q.z 32768 = true) : (wrap64 (q.x + v.x) = q.x + v.x ∧ wrap64 (q.y + v.y) = q.y + v.y ∧ wrap64 (q.z + v.z) = q.z + v.z) ∧ wrap64 (q.x * -1) = q.x * -1 ∧ wrap64 (q.y * -1) = q.y * -1 ∧ wrap64 (q.z * -1) = q.z * -1 := by
  have bv := (wiB_iff _ _ _ _).1 hv
  have bp := (wiB_iff _ _ _ _).1 hp
  exact ⟨⟨wrap_id (by omega) (by omega), wrap_id (by omega) (by omega), wrap_id (by omega) (by omega)⟩, wrap_id (by omega) (by omega), wrap_id (by omega) (by omega), wrap_id (by omega) (by omega)⟩
set_option maxRecDepth 100000 in
set_option maxHeartbeats 4000000 in
theorem walk (w : World) (p : Nat → P3) (kp : ∀ k, k < 4 → In3 (p k)) (v : P3) (kv : In3 v) : Calls Try.prog 6 #[.agg (ptsC 4 p), .agg #[.int .i64 v.x, .int .i64 v.y, .int .i64 v.z]] w fun e w' => e = .returned (.bool true) ∧ Below w.heap.size w w' := by
  have al := alive12_any
  have wr0 : wrap64 0 = 0 := wrap_id (by omega) (by omega)
  rw [ptsC4]
  generalize p 0 = a at *
  generalize p 1 = b at *
  generalize p 2 = c at *
  generalize p 3 = d at *
  have kv1 := vWithin_any v.x v.y v.z 16384 (by omega)
  have hP0 : Blk ((w.alloc (.cells #[.int .i64 a.x, .int .i64 a.y, .int .i64 a.z, .int .i64 b.x, .int .i64 b.y, .int .i64 b.z, .int .i64 c.x, .int .i64 c.y, .int .i64 c.z, .int .i64 d.x, .int .i64 d.y, .int .i64 d.z] 26)).alloc (.cells #[.int .i64 v.x, .int .i64 v.y, .int .i64 v.z] 23)) w.heap.size 26 #[.int .i64 a.x, .int .i64 a.y, .int .i64 a.z, .int .i64 b.x, .int .i64 b.y, .int .i64 b.z, .int .i64 c.x, .int .i64 c.y, .int .i64 c.z, .int .i64 d.x, .int .i64 d.y, .int .i64 d.z] := (Blk.new _ _ _ _ rfl).alloc _
  have hV0 : Blk ((w.alloc (.cells #[.int .i64 a.x, .int .i64 a.y, .int .i64 a.z, .int .i64 b.x, .int .i64 b.y, .int .i64 b.z, .int .i64 c.x, .int .i64 c.y, .int .i64 c.z, .int .i64 d.x, .int .i64 d.y, .int .i64 d.z] 26)).alloc (.cells #[.int .i64 v.x, .int .i64 v.y, .int .i64 v.z] 23)) (w.heap.size + 1) 23 #[.int .i64 v.x, .int .i64 v.y, .int .i64 v.z] := Blk.new _ _ _ _ (by simp)
  have hB0 : Below w.heap.size w ((w.alloc (.cells #[.int .i64 a.x, .int .i64 a.y, .int .i64 a.z, .int .i64 b.x, .int .i64 b.y, .int .i64 b.z, .int .i64 c.x, .int .i64 c.y, .int .i64 c.z, .int .i64 d.x, .int .i64 d.y, .int .i64 d.z] 26)).alloc (.cells #[.int .i64 v.x, .int .i64 v.y, .int .i64 v.z] 23)) := bel_alloc (bel_alloc (Below.refl _ _) _) _
  go_enter Try.func6, Try.ntmps6
  go_upto_region 1 with (fail)
  generalize ((w.alloc (.cells #[.int .i64 a.x, .int .i64 a.y, .int .i64 a.z, .int .i64 b.x, .int .i64 b.y, .int .i64 b.z, .int .i64 c.x, .int .i64 c.y, .int .i64 c.z, .int .i64 d.x, .int .i64 d.y, .int .i64 d.z] 26)).alloc (.cells #[.int .i64 v.x, .int .i64 v.y, .int .i64 v.z] 23)) = W0 at *
  go_upto_region 3 with (first | (go_at_call 7; first | ((with_reducible refine (al.at_ _).mono ?_); rintro e w' ⟨rfl, xa, rfl⟩)) | fail)
  have hP1 := hP0.grow xa
  have hV1 := hV0.grow xa
  have hB1 := bel_grow hB0 xa
  clear hP0 hV0 hB0 al
  generalize grow W0 xa = W1 at *
  have v0 := hV1.cell 0
  have v1 := hV1.cell 1
  have v2 := hV1.cell 2
  have vl := hV1.lt
  cases hv : wiB v.x v.y v.z 16384
  · rw [hv] at kv1
    replace hv := trivial
    go_wp2_with (first | (go_at_call 14; first | ((with_reducible refine (kv1.at_ _).mono ?_); rintro e w' ⟨rfl, xg, rfl⟩)) | fail)
    go_ret
    exact ⟨rfl, bel_trans hB1 (by repeat (first | exact Below.refl _ _ | refine bel_then ?_ _ | refine bel_grow ?_ _ | refine bel_alloc ?_ _ | refine bel_drew ?_ | refine bel_set ?_ (by simp) _ | refine bel_setRow ?_ (by first | omega | (simp; done) | (refine Nat.le_trans ?_ (top_le _ _); simp; done) | (refine Nat.le_succ_of_le (Nat.le_trans ?_ (top_le _ _)); simp; done) | (refine Nat.le_trans ?_ (top_le _ _); simp only [World.size_alloc]; refine Nat.le_succ_of_le (Nat.le_trans ?_ (top_le _ _)); simp; done)) _))⟩
  rw [hv] at kv1
  replace hv := Lib.hid hv
  go_upto_region 5 with (first | (go_at_call 14; first | ((with_reducible refine (kv1.at_ _).mono ?_); rintro e w' ⟨rfl, xg, rfl⟩)) | fail)
  have hP2 := hP1.grow xg
  have hV2 := hV1.grow xg
  have hB2 := bel_grow hB1 xg
  clear hP1 hV1 hB1 v0 v1 v2 vl kv1
  generalize grow W1 xg = W2 at *
  have c0 := hP2.cell 0
  have c1 := hP2.cell 1
  have c2 := hP2.cell 2
  have c3 := hP2.cell 3
  have c4 := hP2.cell 4
  have c5 := hP2.cell 5
  have c6 := hP2.cell 6
  have c7 := hP2.cell 7
  have c8 := hP2.cell 8
  have c9 := hP2.cell 9
  have c10 := hP2.cell 10
  have c11 := hP2.cell 11
  have pl := hP2.lt
  go_upto_region 6 with (fail)
  have hP3 : Blk (W2.alloc (.cells #[.int .i64 a.x, .int .i64 a.y, .int .i64 a.z, .int .i64 b.x, .int .i64 b.y, .int .i64 b.z, .int .i64 c.x, .int .i64 c.y, .int .i64 c.z, .int .i64 d.x, .int .i64 d.y, .int .i64 d.z] 26)) w.heap.size 26 #[.int .i64 a.x, .int .i64 a.y, .int .i64 a.z, .int .i64 b.x, .int .i64 b.y, .int .i64 b.z, .int .i64 c.x, .int .i64 c.y, .int .i64 c.z, .int .i64 d.x, .int .i64 d.y, .int .i64 d.z] := hP2.alloc _
  have hV3 : Blk (W2.alloc (.cells #[.int .i64 a.x, .int .i64 a.y, .int .i64 a.z, .int .i64 b.x, .int .i64 b.y, .int .i64 b.z, .int .i64 c.x, .int .i64 c.y, .int .i64 c.z, .int .i64 d.x, .int .i64 d.y, .int .i64 d.z] 26)) (w.heap.size + 1) 23 #[.int .i64 v.x, .int .i64 v.y, .int .i64 v.z] := hV2.alloc _
  have hQ3 : Blk (W2.alloc (.cells #[.int .i64 a.x, .int .i64 a.y, .int .i64 a.z, .int .i64 b.x, .int .i64 b.y, .int .i64 b.z, .int .i64 c.x, .int .i64 c.y, .int .i64 c.z, .int .i64 d.x, .int .i64 d.y, .int .i64 d.z] 26)) W2.heap.size 26 #[.int .i64 a.x, .int .i64 a.y, .int .i64 a.z, .int .i64 b.x, .int .i64 b.y, .int .i64 b.z, .int .i64 c.x, .int .i64 c.y, .int .i64 c.z, .int .i64 d.x, .int .i64 d.y, .int .i64 d.z] := Blk.new _ _ _ _ rfl
  have hB3 : Below w.heap.size w (W2.alloc (.cells #[.int .i64 a.x, .int .i64 a.y, .int .i64 a.z, .int .i64 b.x, .int .i64 b.y, .int .i64 b.z, .int .i64 c.x, .int .i64 c.y, .int .i64 c.z, .int .i64 d.x, .int .i64 d.y, .int .i64 d.z] 26)) := bel_alloc hB2 _
  have hne : w.heap.size + 1 < W2.heap.size := hV2.lt
  clear hP2 hV2 hB2 c0 c1 c2 c3 c4 c5 c6 c7 c8 c9 c10 c11 pl
  generalize W2.alloc (.cells #[.int .i64 a.x, .int .i64 a.y, .int .i64 a.z, .int .i64 b.x, .int .i64 b.y, .int .i64 b.z, .int .i64 c.x, .int .i64 c.y, .int .i64 c.z, .int .i64 d.x, .int .i64 d.y, .int .i64 d.z] 26) = W3 at *
  generalize W2.heap.size = gq at *
  have c0 := hP3.cell 0
  have c1 := hP3.cell 1
  have c2 := hP3.cell 2
  have c3 := hP3.cell 3
  have c4 := hP3.cell 4
  have c5 := hP3.cell 5
  have c6 := hP3.cell 6
  have c7 := hP3.cell 7
  have c8 := hP3.cell 8
  have c9 := hP3.cell 9
  have c10 := hP3.cell 10
  have c11 := hP3.cell 11
  have pl := hP3.lt
  go_upto_region 7 with (fail)
  have hP4 : Blk (W3.alloc (.cells #[.int .i64 a.x, .int .i64 a.y, .int .i64 a.z, .int .i64 b.x, .int .i64 b.y, .int .i64 b.z, .int .i64 c.x, .int .i64 c.y, .int .i64 c.z, .int .i64 d.x, .int .i64 d.y, .int .i64 d.z] 26)) w.heap.size 26 #[.int .i64 a.x, .int .i64 a.y, .int .i64 a.z, .int .i64 b.x, .int .i64 b.y, .int .i64 b.z, .int .i64 c.x, .int .i64 c.y, .int .i64 c.z, .int .i64 d.x, .int .i64 d.y, .int .i64 d.z] := hP3.alloc _
  have hV4 : Blk (W3.alloc (.cells #[.int .i64 a.x, .int .i64 a.y, .int .i64 a.z, .int .i64 b.x, .int .i64 b.y, .int .i64 b.z, .int .i64 c.x, .int .i64 c.y, .int .i64 c.z, .int .i64 d.x, .int .i64 d.y, .int .i64 d.z] 26)) (w.heap.size + 1) 23 #[.int .i64 v.x, .int .i64 v.y, .int .i64 v.z] := hV3.alloc _
  have hQ4 : Blk (W3.alloc (.cells #[.int .i64 a.x, .int .i64 a.y, .int .i64 a.z, .int .i64 b.x, .int .i64 b.y, .int .i64 b.z, .int .i64 c.x, .int .i64 c.y, .int .i64 c.z, .int .i64 d.x, .int .i64 d.y, .int .i64 d.z] 26)) gq 26 #[.int .i64 a.x, .int .i64 a.y, .int .i64 a.z, .int .i64 b.x, .int .i64 b.y, .int .i64 b.z, .int .i64 c.x, .int .i64 c.y, .int .i64 c.z, .int .i64 d.x, .int .i64 d.y, .int .i64 d.z] := hQ3.alloc _
  have hM4 : Blk (W3.alloc (.cells #[.int .i64 a.x, .int .i64 a.y, .int .i64 a.z, .int .i64 b.x, .int .i64 b.y, .int .i64 b.z, .int .i64 c.x, .int .i64 c.y, .int .i64 c.z, .int .i64 d.x, .int .i64 d.y, .int .i64 d.z] 26)) W3.heap.size 26 #[.int .i64 a.x, .int .i64 a.y, .int .i64 a.z, .int .i64 b.x, .int .i64 b.y, .int .i64 b.z, .int .i64 c.x, .int .i64 c.y, .int .i64 c.z, .int .i64 d.x, .int .i64 d.y, .int .i64 d.z] := Blk.new _ _ _ _ rfl
  have hB4 : Below w.heap.size w (W3.alloc (.cells #[.int .i64 a.x, .int .i64 a.y, .int .i64 a.z, .int .i64 b.x, .int .i64 b.y, .int .i64 b.z, .int .i64 c.x, .int .i64 c.y, .int .i64 c.z, .int .i64 d.x, .int .i64 d.y, .int .i64 d.z] 26)) := bel_alloc hB3 _
  have hnm : gq < W3.heap.size := hQ3.lt
  clear hP3 hV3 hB3 hQ3 c0 c1 c2 c3 c4 c5 c6 c7 c8 c9 c10 c11 pl
  generalize W3.alloc (.cells #[.int .i64 a.x, .int .i64 a.y, .int .i64 a.z, .int .i64 b.x, .int .i64 b.y, .int .i64 b.z, .int .i64 c.x, .int .i64 c.y, .int .i64 c.z, .int .i64 d.x, .int .i64 d.y, .int .i64 d.z] 26) = W4 at *
  generalize W3.heap.size = gm at *
  obtain ⟨ma, hma⟩ : ∃ q : P3, q = ⟨a.x + v.x, a.y + v.y, a.z + v.z⟩ := ⟨_, rfl⟩
  obtain ⟨na, hna⟩ : ∃ q : P3, q = ⟨a.x * -1, a.y * -1, a.z * -1⟩ := ⟨_, rfl⟩
  replace hma := Lib.hid hma
  replace hna := Lib.hid hna
  obtain ⟨mb, hmb⟩ : ∃ q : P3, q = ⟨b.x + v.x, b.y + v.y, b.z + v.z⟩ := ⟨_, rfl⟩
  obtain ⟨nb, hnb⟩ : ∃ q : P3, q = ⟨b.x * -1, b.y * -1, b.z * -1⟩ := ⟨_, rfl⟩
  replace hmb := Lib.hid hmb
  replace hnb := Lib.hid hnb
  obtain ⟨mc, hmc⟩ : ∃ q : P3, q = ⟨c.x + v.x, c.y + v.y, c.z + v.z⟩ := ⟨_, rfl⟩
  obtain ⟨nc, hnc⟩ : ∃ q : P3, q = ⟨c.x * -1, c.y * -1, c.z * -1⟩ := ⟨_, rfl⟩
  replace hmc := Lib.hid hmc
  replace hnc := Lib.hid hnc
  obtain ⟨md, hmd⟩ : ∃ q : P3, q = ⟨d.x + v.x, d.y + v.y, d.z + v.z⟩ := ⟨_, rfl⟩
  obtain ⟨nd, hnd⟩ : ∃ q : P3, q = ⟨d.x * -1, d.y * -1, d.z * -1⟩ := ⟨_, rfl⟩
  replace hmd := Lib.hid hmd
  replace hnd := Lib.hid hnd
  go_wp2
  go_loopw [7] (fun iv wr => Below w.heap.size w wr ∧ Blk wr w.heap.size 26 #[.int .i64 a.x, .int .i64 a.y, .int .i64 a.z, .int .i64 b.x, .int .i64 b.y, .int .i64 b.z, .int .i64 c.x, .int .i64 c.y, .int .i64 c.z, .int .i64 d.x, .int .i64 d.y, .int .i64 d.z] ∧ Blk wr (w.heap.size + 1) 23 #[.int .i64 v.x, .int .i64 v.y, .int .i64 v.z] ∧ ((iv = .int .i64 0 ∧ Blk wr gq 26 #[.int .i64 a.x, .int .i64 a.y, .int .i64 a.z, .int .i64 b.x, .int .i64 b.y, .int .i64 b.z, .int .i64 c.x, .int .i64 c.y, .int .i64 c.z, .int .i64 d.x, .int .i64 d.y, .int .i64 d.z] ∧ Blk wr gm 26 #[.int .i64 a.x, .int .i64 a.y, .int .i64 a.z, .int .i64 b.x, .int .i64 b.y, .int .i64 b.z, .int .i64 c.x, .int .i64 c.y, .int .i64 c.z, .int .i64 d.x, .int .i64 d.y, .int .i64 d.z]) ∨ (iv = .int .i64 1 ∧ (wiB a.x a.y a.z 32768 = true) ∧ Blk wr gq 26 #[.int .i64 ma.x, .int .i64 ma.y, .int .i64 ma.z, .int .i64 b.x, .int .i64 b.y, .int .i64 b.z, .int .i64 c.x, .int .i64 c.y, .int .i64 c.z, .int .i64 d.x, .int .i64 d.y, .int .i64 d.z] ∧ Blk wr gm 26 #[.int .i64 na.x, .int .i64 na.y, .int .i64 na.z, .int .i64 b.x, .int .i64 b.y, .int .i64 b.z, .int .i64 c.x, .int .i64 c.y, .int .i64 c.z, .int .i64 d.x, .int .i64 d.y, .int .i64 d.z]) ∨ (iv = .int .i64 2 ∧ (wiB a.x a.y a.z 32768 = true ∧ wiB b.x b.y b.z 32768 = true) ∧ Blk wr gq 26 #[.int .i64 ma.x, .int .i64 ma.y, .int .i64 ma.z, .int .i64 mb.x, .int .i64 mb.y, .int .i64 mb.z, .int .i64 c.x, .int .i64 c.y, .int .i64 c.z, .int .i64 d.x, .int .i64 d.y, .int .i64 d.z] ∧ Blk wr gm 26 #[.int .i64 na.x, .int .i64 na.y, .int .i64 na.z, .int .i64 nb.x, .int .i64 nb.y, .int .i64 nb.z, .int .i64 c.x, .int .i64 c.y, .int .i64 c.z, .int .i64 d.x, .int .i64 d.y, .int .i64 d.z]) ∨ (iv = .int .i64 3 ∧ (wiB a.x a.y a.z 32768 = true ∧ wiB b.x b.y b.z 32768 = true ∧ wiB c.x c.y c.z 32768 = true) ∧ Blk wr gq 26 #[.int .i64 ma.x, .int .i64 ma.y, .int .i64 ma.z, .int .i64 mb.x, .int .i64 mb.y, .int .i64 mb.z, .int .i64 mc.x, .int .i64 mc.y, .int .i64 mc.z, .int .i64 d.x, .int .i64 d.y, .int .i64 d.z] ∧ Blk wr gm 26 #[.int .i64 na.x, .int .i64 na.y, .int .i64 na.z, .int .i64 nb.x, .int .i64 nb.y, .int .i64 nb.z, .int .i64 nc.x, .int .i64 nc.y, .int .i64 nc.z, .int .i64 d.x, .int .i64 d.y, .int .i64 d.z]) ∨ (iv = .int .i64 4 ∧ (wiB a.x a.y a.z 32768 = true ∧ wiB b.x b.y b.z 32768 = true ∧ wiB c.x c.y c.z 32768 = true ∧ wiB d.x d.y d.z 32768 = true) ∧ Blk wr gq 26 #[.int .i64 ma.x, .int .i64 ma.y, .int .i64 ma.z, .int .i64 mb.x, .int .i64 mb.y, .int .i64 mb.z, .int .i64 mc.x, .int .i64 mc.y, .int .i64 mc.z, .int .i64 md.x, .int .i64 md.y, .int .i64 md.z] ∧ Blk wr gm 26 #[.int .i64 na.x, .int .i64 na.y, .int .i64 na.z, .int .i64 nb.x, .int .i64 nb.y, .int .i64 nb.z, .int .i64 nc.x, .int .i64 nc.y, .int .i64 nc.z, .int .i64 nd.x, .int .i64 nd.y, .int .i64 nd.z]))) (fun iv _ => 4 - (intOf iv).toNat)
  case atStart => exact ⟨hB4, hP4, hV4, .inl ⟨rfl, hQ4, hM4⟩⟩
  case round =>
    obtain ⟨hBr, hPr, hVr, hi⟩ := hrel
    clear hB4 hP4 hV4 hQ4 hM4
    rename World => wr
    rcases hi with ⟨rfl, hQr, hMr⟩ | ⟨rfl, w0, hQr, hMr⟩ | ⟨rfl, ⟨w0, w1⟩, hQr, hMr⟩ | ⟨rfl, ⟨w0, w1, w2⟩, hQr, hMr⟩ | ⟨rfl, ⟨w0, w1, w2, w3⟩, hQr, hMr⟩
    · have pl := hPr.lt
      have c0 : wr.cell? ⟨w.heap.size, 0, none⟩ = some (.int .i64 a.x) := hPr.cell 0
      have c1 : wr.cell? ⟨w.heap.size, 1, none⟩ = some (.int .i64 a.y) := hPr.cell 1
      have c2 : wr.cell? ⟨w.heap.size, 2, none⟩ = some (.int .i64 a.z) := hPr.cell 2
      have kq := vWithin_any a.x a.y a.z 32768 (by omega)
      rcases Bool.eq_false_or_eq_true (wiB a.x a.y a.z 32768) with hw | hw
      rotate_left
      · rw [hw] at kq
        replace hw := trivial
        go_wp2_with (first | (go_at_call 14; first | ((with_reducible refine (kq.at_ _).mono ?_); rintro e w' ⟨rfl, xg, rfl⟩)) | fail)
        go_ret
        exact ⟨rfl, bel_trans hBr (by repeat (first | exact Below.refl _ _ | refine bel_then ?_ _ | refine bel_grow ?_ _ | refine bel_alloc ?_ _ | refine bel_drew ?_ | refine bel_set ?_ (by simp) _ | refine bel_setRow ?_ (by first | omega | (simp; done) | (refine Nat.le_trans ?_ (top_le _ _); simp; done) | (refine Nat.le_succ_of_le (Nat.le_trans ?_ (top_le _ _)); simp; done) | (refine Nat.le_trans ?_ (top_le _ _); simp only [World.size_alloc]; refine Nat.le_succ_of_le (Nat.le_trans ?_ (top_le _ _)); simp; done)) _))⟩
      · obtain ⟨⟨e1, e2, e3⟩, e4, e5, e6⟩ := mvR_add hv.out hw
        have kA := rAdd_any a.x a.y a.z v.x v.y v.z
        rw [e1, e2, e3, show a.x + v.x = ma.x by rw [hma.out], show a.y + v.y = ma.y by rw [hma.out], show a.z + v.z = ma.z by rw [hma.out]] at kA
        have kS := rScale_any a.x a.y a.z (-1)
        rw [e4, e5, e6, show a.x * -1 = na.x by rw [hna.out], show a.y * -1 = na.y by rw [hna.out], show a.z * -1 = na.z by rw [hna.out]] at kS
        rw [hw] at kq
        replace hw := Lib.hid hw
        clear e1 e2 e3 e4 e5 e6
        go_upto_region 12 with (first | (go_at_call 14; first | ((with_reducible refine (kq.at_ _).mono ?_); rintro e w' ⟨rfl, xg, rfl⟩)) | fail)
        have hP4 := hPr.grow xg
        have hV4 := hVr.grow xg
        have hQ4 := hQr.grow xg
        have hM4 := hMr.grow xg
        have hB4 := bel_grow hBr xg
        clear hPr hVr hQr hMr hBr c0 c1 c2 pl kq
        generalize grow wr xg = W4 at *
        have pl := hP4.lt
        have vl := hV4.lt
        have ql := hQ4.lt
        have c0 : W4.cell? ⟨w.heap.size, 0, none⟩ = some (.int .i64 a.x) := hP4.cell 0
        have c1 : W4.cell? ⟨w.heap.size, 1, none⟩ = some (.int .i64 a.y) := hP4.cell 1
        have c2 : W4.cell? ⟨w.heap.size, 2, none⟩ = some (.int .i64 a.z) := hP4.cell 2
        have v0 := hV4.cell 0
        have v1 := hV4.cell 1
        have v2 := hV4.cell 2
        refine wp_region_tail 7 ?_ (by kernel_rfl) (by kernel_rfl) (by kernel_rfl) (fun x => ?_) (fun x => ?_)
        rotate_left
        · simp only [List.take_succ_cons, List.take_zero]
          repeat (go_big_quiet_step (((first | with_reducible exact kA.quiet _ | with_reducible exact kA.quiet2 _ _))))
          refine wpQuiet_nil ?_
          exact rfl
        simp only [List.drop_succ_cons, List.drop_zero]
        try simp only [Act.put, List.setIfInBounds_toArray, List.set_cons_succ, List.set_cons_zero]
        have hP5 := hP4.grow x
        have hV5 := hV4.grow x
        have hQ5 := hQ4.grow x
        have hM5 := hM4.grow x
        have hB5 := bel_grow hB4 x
        clear hP4 hV4 hQ4 hM4 hB4 c0 c1 c2 v0 v1 v2 pl vl ql kA
        generalize grow W4 x = W5 at *
        have ql := hQ5.lt
        have f0 := hQ5.frozen 0
        have f1 := hQ5.frozen 1
        have f2 := hQ5.frozen 2
        have o0 := hQ5.cell 0
        have o1 := hQ5.cell 1
        have o2 := hQ5.cell 2
        go_upto_region 13 with (fail)
        have hQ6 := (((hQ5.set 0 (.int .i64 ma.x)).set 1 (.int .i64 ma.y)).set 2 (.int .i64 ma.z))
        have hP6 := (((hP5.far (b := gq) 0 (.int .i64 ma.x) (by omega)).far (b := gq) 1 (.int .i64 ma.y) (by omega)).far (b := gq) 2 (.int .i64 ma.z) (by omega))
        have hV6 := (((hV5.far (b := gq) 0 (.int .i64 ma.x) (by omega)).far (b := gq) 1 (.int .i64 ma.y) (by omega)).far (b := gq) 2 (.int .i64 ma.z) (by omega))
        have hM6 := (((hM5.far (b := gq) 0 (.int .i64 ma.x) (by omega)).far (b := gq) 1 (.int .i64 ma.y) (by omega)).far (b := gq) 2 (.int .i64 ma.z) (by omega))
        have hB6 : Below w.heap.size w (((W5.setCell ⟨gq, 0, none⟩ (.int .i64 ma.x)).setCell ⟨gq, 1, none⟩ (.int .i64 ma.y)).setCell ⟨gq, 2, none⟩ (.int .i64 ma.z)) := (bel_set (bel_set (bel_set hB5 (p := ⟨gq, 0, none⟩) (by show _ ≤ gq; omega) _) (p := ⟨gq, 1, none⟩) (by show _ ≤ gq; omega) _) (p := ⟨gq, 2, none⟩) (by show _ ≤ gq; omega) _)
        clear hQ5 hP5 hV5 hM5 hB5 ql f0 f1 f2 o0 o1 o2
        generalize (((W5.setCell ⟨gq, 0, none⟩ (.int .i64 ma.x)).setCell ⟨gq, 1, none⟩ (.int .i64 ma.y)).setCell ⟨gq, 2, none⟩ (.int .i64 ma.z)) = W6 at *
        have pl := hP6.lt
        have c0 : W6.cell? ⟨w.heap.size, 0, none⟩ = some (.int .i64 a.x) := hP6.cell 0
        have c1 : W6.cell? ⟨w.heap.size, 1, none⟩ = some (.int .i64 a.y) := hP6.cell 1
        have c2 : W6.cell? ⟨w.heap.size, 2, none⟩ = some (.int .i64 a.z) := hP6.cell 2
        go_wp2_with (first | (go_at_call 16; (with_reducible refine (kS.at_ _).mono ?_); rintro e W7 ⟨rfl, xs, hW7⟩; have hP7 := hW7 ▸ hP6.grow xs; have hV7 := hW7 ▸ hV6.grow xs; have hQ7 := hW7 ▸ hQ6.grow xs; have hM7 := hW7 ▸ hM6.grow xs; have hB7 : Below w.heap.size w W7 := hW7 ▸ bel_grow hB6 xs; clear hW7 hP6 hV6 hQ6 hM6 hB6 c0 c1 c2 pl; have ml := hM7.lt; have f0 := hM7.frozen 0; have f1 := hM7.frozen 1; have f2 := hM7.frozen 2; have o0 := hM7.cell 0; have o1 := hM7.cell 1; have o2 := hM7.cell 2; replace hP7 := Lib.hid hP7; replace hV7 := Lib.hid hV7; replace hQ7 := Lib.hid hQ7; replace hM7 := Lib.hid hM7; replace hB7 := Lib.hid hB7) | fail)
        go_roundw
        case rel => exact ⟨(bel_set (bel_set (bel_set hB7.out (p := ⟨gm, 0, none⟩) (by show _ ≤ gm; omega) _) (p := ⟨gm, 1, none⟩) (by show _ ≤ gm; omega) _) (p := ⟨gm, 2, none⟩) (by show _ ≤ gm; omega) _), (((hP7.out.far (b := gm) 0 (.int .i64 na.x) (by omega)).far (b := gm) 1 (.int .i64 na.y) (by omega)).far (b := gm) 2 (.int .i64 na.z) (by omega)), (((hV7.out.far (b := gm) 0 (.int .i64 na.x) (by omega)).far (b := gm) 1 (.int .i64 na.y) (by omega)).far (b := gm) 2 (.int .i64 na.z) (by omega)), .inr (.inl ⟨rfl, hw.out, (((hQ7.out.far (b := gm) 0 (.int .i64 na.x) (by omega)).far (b := gm) 1 (.int .i64 na.y) (by omega)).far (b := gm) 2 (.int .i64 na.z) (by omega)), (((hM7.out.set 0 (.int .i64 na.x)).set 1 (.int .i64 na.y)).set 2 (.int .i64 na.z))⟩)⟩
        case measure => simp [intOf]
    · have pl := hPr.lt
      replace w0 := Lib.hid w0
      have c0 : wr.cell? ⟨w.heap.size, 3, none⟩ = some (.int .i64 b.x) := hPr.cell 3
      have c1 : wr.cell? ⟨w.heap.size, 4, none⟩ = some (.int .i64 b.y) := hPr.cell 4
      have c2 : wr.cell? ⟨w.heap.size, 5, none⟩ = some (.int .i64 b.z) := hPr.cell 5
      have kq := vWithin_any b.x b.y b.z 32768 (by omega)
      rcases Bool.eq_false_or_eq_true (wiB b.x b.y b.z 32768) with hw | hw
      rotate_left
      · rw [hw] at kq
        replace hw := trivial
        go_wp2_with (first | (go_at_call 14; first | ((with_reducible refine (kq.at_ _).mono ?_); rintro e w' ⟨rfl, xg, rfl⟩)) | fail)
        go_ret
        exact ⟨rfl, bel_trans hBr (by repeat (first | exact Below.refl _ _ | refine bel_then ?_ _ | refine bel_grow ?_ _ | refine bel_alloc ?_ _ | refine bel_drew ?_ | refine bel_set ?_ (by simp) _ | refine bel_setRow ?_ (by first | omega | (simp; done) | (refine Nat.le_trans ?_ (top_le _ _); simp; done) | (refine Nat.le_succ_of_le (Nat.le_trans ?_ (top_le _ _)); simp; done) | (refine Nat.le_trans ?_ (top_le _ _); simp only [World.size_alloc]; refine Nat.le_succ_of_le (Nat.le_trans ?_ (top_le _ _)); simp; done)) _))⟩
      · obtain ⟨⟨e1, e2, e3⟩, e4, e5, e6⟩ := mvR_add hv.out hw
        have kA := rAdd_any b.x b.y b.z v.x v.y v.z
        rw [e1, e2, e3, show b.x + v.x = mb.x by rw [hmb.out], show b.y + v.y = mb.y by rw [hmb.out], show b.z + v.z = mb.z by rw [hmb.out]] at kA
        have kS := rScale_any b.x b.y b.z (-1)
        rw [e4, e5, e6, show b.x * -1 = nb.x by rw [hnb.out], show b.y * -1 = nb.y by rw [hnb.out], show b.z * -1 = nb.z by rw [hnb.out]] at kS
        rw [hw] at kq
        replace hw := Lib.hid hw
        clear e1 e2 e3 e4 e5 e6
        go_upto_region 12 with (first | (go_at_call 14; first | ((with_reducible refine (kq.at_ _).mono ?_); rintro e w' ⟨rfl, xg, rfl⟩)) | fail)
        have hP4 := hPr.grow xg
        have hV4 := hVr.grow xg
        have hQ4 := hQr.grow xg
        have hM4 := hMr.grow xg
        have hB4 := bel_grow hBr xg
        clear hPr hVr hQr hMr hBr c0 c1 c2 pl kq
        generalize grow wr xg = W4 at *
        have pl := hP4.lt
        have vl := hV4.lt
        have ql := hQ4.lt
        have c0 : W4.cell? ⟨w.heap.size, 3, none⟩ = some (.int .i64 b.x) := hP4.cell 3
        have c1 : W4.cell? ⟨w.heap.size, 4, none⟩ = some (.int .i64 b.y) := hP4.cell 4
        have c2 : W4.cell? ⟨w.heap.size, 5, none⟩ = some (.int .i64 b.z) := hP4.cell 5
        have v0 := hV4.cell 0
        have v1 := hV4.cell 1
        have v2 := hV4.cell 2
        refine wp_region_tail 7 ?_ (by kernel_rfl) (by kernel_rfl) (by kernel_rfl) (fun x => ?_) (fun x => ?_)
        rotate_left
        · simp only [List.take_succ_cons, List.take_zero]
          repeat (go_big_quiet_step (((first | with_reducible exact kA.quiet _ | with_reducible exact kA.quiet2 _ _))))
          refine wpQuiet_nil ?_
          exact rfl
        simp only [List.drop_succ_cons, List.drop_zero]
        try simp only [Act.put, List.setIfInBounds_toArray, List.set_cons_succ, List.set_cons_zero]
        have hP5 := hP4.grow x
        have hV5 := hV4.grow x
        have hQ5 := hQ4.grow x
        have hM5 := hM4.grow x
        have hB5 := bel_grow hB4 x
        clear hP4 hV4 hQ4 hM4 hB4 c0 c1 c2 v0 v1 v2 pl vl ql kA
        generalize grow W4 x = W5 at *
        have ql := hQ5.lt
        have f0 := hQ5.frozen 3
        have f1 := hQ5.frozen 4
        have f2 := hQ5.frozen 5
        have o0 := hQ5.cell 3
        have o1 := hQ5.cell 4
        have o2 := hQ5.cell 5
        go_upto_region 13 with (fail)
        have hQ6 := (((hQ5.set 3 (.int .i64 mb.x)).set 4 (.int .i64 mb.y)).set 5 (.int .i64 mb.z))
        have hP6 := (((hP5.far (b := gq) 3 (.int .i64 mb.x) (by omega)).far (b := gq) 4 (.int .i64 mb.y) (by omega)).far (b := gq) 5 (.int .i64 mb.z) (by omega))
        have hV6 := (((hV5.far (b := gq) 3 (.int .i64 mb.x) (by omega)).far (b := gq) 4 (.int .i64 mb.y) (by omega)).far (b := gq) 5 (.int .i64 mb.z) (by omega))
        have hM6 := (((hM5.far (b := gq) 3 (.int .i64 mb.x) (by omega)).far (b := gq) 4 (.int .i64 mb.y) (by omega)).far (b := gq) 5 (.int .i64 mb.z) (by omega))
        have hB6 : Below w.heap.size w (((W5.setCell ⟨gq, 3, none⟩ (.int .i64 mb.x)).setCell ⟨gq, 4, none⟩ (.int .i64 mb.y)).setCell ⟨gq, 5, none⟩ (.int .i64 mb.z)) := (bel_set (bel_set (bel_set hB5 (p := ⟨gq, 3, none⟩) (by show _ ≤ gq; omega) _) (p := ⟨gq, 4, none⟩) (by show _ ≤ gq; omega) _) (p := ⟨gq, 5, none⟩) (by show _ ≤ gq; omega) _)
        clear hQ5 hP5 hV5 hM5 hB5 ql f0 f1 f2 o0 o1 o2
        generalize (((W5.setCell ⟨gq, 3, none⟩ (.int .i64 mb.x)).setCell ⟨gq, 4, none⟩ (.int .i64 mb.y)).setCell ⟨gq, 5, none⟩ (.int .i64 mb.z)) = W6 at *
        have pl := hP6.lt
        have c0 : W6.cell? ⟨w.heap.size, 3, none⟩ = some (.int .i64 b.x) := hP6.cell 3
        have c1 : W6.cell? ⟨w.heap.size, 4, none⟩ = some (.int .i64 b.y) := hP6.cell 4
        have c2 : W6.cell? ⟨w.heap.size, 5, none⟩ = some (.int .i64 b.z) := hP6.cell 5
        go_wp2_with (first | (go_at_call 16; (with_reducible refine (kS.at_ _).mono ?_); rintro e W7 ⟨rfl, xs, hW7⟩; have hP7 := hW7 ▸ hP6.grow xs; have hV7 := hW7 ▸ hV6.grow xs; have hQ7 := hW7 ▸ hQ6.grow xs; have hM7 := hW7 ▸ hM6.grow xs; have hB7 : Below w.heap.size w W7 := hW7 ▸ bel_grow hB6 xs; clear hW7 hP6 hV6 hQ6 hM6 hB6 c0 c1 c2 pl; have ml := hM7.lt; have f0 := hM7.frozen 3; have f1 := hM7.frozen 4; have f2 := hM7.frozen 5; have o0 := hM7.cell 3; have o1 := hM7.cell 4; have o2 := hM7.cell 5; replace hP7 := Lib.hid hP7; replace hV7 := Lib.hid hV7; replace hQ7 := Lib.hid hQ7; replace hM7 := Lib.hid hM7; replace hB7 := Lib.hid hB7) | fail)
        go_roundw
        case rel => exact ⟨(bel_set (bel_set (bel_set hB7.out (p := ⟨gm, 3, none⟩) (by show _ ≤ gm; omega) _) (p := ⟨gm, 4, none⟩) (by show _ ≤ gm; omega) _) (p := ⟨gm, 5, none⟩) (by show _ ≤ gm; omega) _), (((hP7.out.far (b := gm) 3 (.int .i64 nb.x) (by omega)).far (b := gm) 4 (.int .i64 nb.y) (by omega)).far (b := gm) 5 (.int .i64 nb.z) (by omega)), (((hV7.out.far (b := gm) 3 (.int .i64 nb.x) (by omega)).far (b := gm) 4 (.int .i64 nb.y) (by omega)).far (b := gm) 5 (.int .i64 nb.z) (by omega)), .inr (.inr (.inl ⟨rfl, ⟨w0.out, hw.out⟩, (((hQ7.out.far (b := gm) 3 (.int .i64 nb.x) (by omega)).far (b := gm) 4 (.int .i64 nb.y) (by omega)).far (b := gm) 5 (.int .i64 nb.z) (by omega)), (((hM7.out.set 3 (.int .i64 nb.x)).set 4 (.int .i64 nb.y)).set 5 (.int .i64 nb.z))⟩))⟩
        case measure => simp [intOf]
    · have pl := hPr.lt
      replace w0 := Lib.hid w0
      replace w1 := Lib.hid w1
      have c0 : wr.cell? ⟨w.heap.size, 6, none⟩ = some (.int .i64 c.x) := hPr.cell 6
      have c1 : wr.cell? ⟨w.heap.size, 7, none⟩ = some (.int .i64 c.y) := hPr.cell 7
      have c2 : wr.cell? ⟨w.heap.size, 8, none⟩ = some (.int .i64 c.z) := hPr.cell 8
      have kq := vWithin_any c.x c.y c.z 32768 (by omega)
      rcases Bool.eq_false_or_eq_true (wiB c.x c.y c.z 32768) with hw | hw
      rotate_left
      · rw [hw] at kq
        replace hw := trivial
        go_wp2_with (first | (go_at_call 14; first | ((with_reducible refine (kq.at_ _).mono ?_); rintro e w' ⟨rfl, xg, rfl⟩)) | fail)
        go_ret
        exact ⟨rfl, bel_trans hBr (by repeat (first | exact Below.refl _ _ | refine bel_then ?_ _ | refine bel_grow ?_ _ | refine bel_alloc ?_ _ | refine bel_drew ?_ | refine bel_set ?_ (by simp) _ | refine bel_setRow ?_ (by first | omega | (simp; done) | (refine Nat.le_trans ?_ (top_le _ _); simp; done) | (refine Nat.le_succ_of_le (Nat.le_trans ?_ (top_le _ _)); simp; done) | (refine Nat.le_trans ?_ (top_le _ _); simp only [World.size_alloc]; refine Nat.le_succ_of_le (Nat.le_trans ?_ (top_le _ _)); simp; done)) _))⟩
      · obtain ⟨⟨e1, e2, e3⟩, e4, e5, e6⟩ := mvR_add hv.out hw
        have kA := rAdd_any c.x c.y c.z v.x v.y v.z
        rw [e1, e2, e3, show c.x + v.x = mc.x by rw [hmc.out], show c.y + v.y = mc.y by rw [hmc.out], show c.z + v.z = mc.z by rw [hmc.out]] at kA
        have kS := rScale_any c.x c.y c.z (-1)
        rw [e4, e5, e6, show c.x * -1 = nc.x by rw [hnc.out], show c.y * -1 = nc.y by rw [hnc.out], show c.z * -1 = nc.z by rw [hnc.out]] at kS
        rw [hw] at kq
        replace hw := Lib.hid hw
        clear e1 e2 e3 e4 e5 e6
        go_upto_region 12 with (first | (go_at_call 14; first | ((with_reducible refine (kq.at_ _).mono ?_); rintro e w' ⟨rfl, xg, rfl⟩)) | fail)
        have hP4 := hPr.grow xg
        have hV4 := hVr.grow xg
        have hQ4 := hQr.grow xg
        have hM4 := hMr.grow xg
        have hB4 := bel_grow hBr xg
        clear hPr hVr hQr hMr hBr c0 c1 c2 pl kq
        generalize grow wr xg = W4 at *
        have pl := hP4.lt
        have vl := hV4.lt
        have ql := hQ4.lt
        have c0 : W4.cell? ⟨w.heap.size, 6, none⟩ = some (.int .i64 c.x) := hP4.cell 6
        have c1 : W4.cell? ⟨w.heap.size, 7, none⟩ = some (.int .i64 c.y) := hP4.cell 7
        have c2 : W4.cell? ⟨w.heap.size, 8, none⟩ = some (.int .i64 c.z) := hP4.cell 8
        have v0 := hV4.cell 0
        have v1 := hV4.cell 1
        have v2 := hV4.cell 2
        refine wp_region_tail 7 ?_ (by kernel_rfl) (by kernel_rfl) (by kernel_rfl) (fun x => ?_) (fun x => ?_)
        rotate_left
        · simp only [List.take_succ_cons, List.take_zero]
          repeat (go_big_quiet_step (((first | with_reducible exact kA.quiet _ | with_reducible exact kA.quiet2 _ _))))
          refine wpQuiet_nil ?_
          exact rfl
        simp only [List.drop_succ_cons, List.drop_zero]
        try simp only [Act.put, List.setIfInBounds_toArray, List.set_cons_succ, List.set_cons_zero]
        have hP5 := hP4.grow x
        have hV5 := hV4.grow x
        have hQ5 := hQ4.grow x
        have hM5 := hM4.grow x
        have hB5 := bel_grow hB4 x
        clear hP4 hV4 hQ4 hM4 hB4 c0 c1 c2 v0 v1 v2 pl vl ql kA
        generalize grow W4 x = W5 at *
        have ql := hQ5.lt
        have f0 := hQ5.frozen 6
        have f1 := hQ5.frozen 7
        have f2 := hQ5.frozen 8
        have o0 := hQ5.cell 6
        have o1 := hQ5.cell 7
        have o2 := hQ5.cell 8
        go_upto_region 13 with (fail)
        have hQ6 := (((hQ5.set 6 (.int .i64 mc.x)).set 7 (.int .i64 mc.y)).set 8 (.int .i64 mc.z))
        have hP6 := (((hP5.far (b := gq) 6 (.int .i64 mc.x) (by omega)).far (b := gq) 7 (.int .i64 mc.y) (by omega)).far (b := gq) 8 (.int .i64 mc.z) (by omega))
        have hV6 := (((hV5.far (b := gq) 6 (.int .i64 mc.x) (by omega)).far (b := gq) 7 (.int .i64 mc.y) (by omega)).far (b := gq) 8 (.int .i64 mc.z) (by omega))
        have hM6 := (((hM5.far (b := gq) 6 (.int .i64 mc.x) (by omega)).far (b := gq) 7 (.int .i64 mc.y) (by omega)).far (b := gq) 8 (.int .i64 mc.z) (by omega))
        have hB6 : Below w.heap.size w (((W5.setCell ⟨gq, 6, none⟩ (.int .i64 mc.x)).setCell ⟨gq, 7, none⟩ (.int .i64 mc.y)).setCell ⟨gq, 8, none⟩ (.int .i64 mc.z)) := (bel_set (bel_set (bel_set hB5 (p := ⟨gq, 6, none⟩) (by show _ ≤ gq; omega) _) (p := ⟨gq, 7, none⟩) (by show _ ≤ gq; omega) _) (p := ⟨gq, 8, none⟩) (by show _ ≤ gq; omega) _)
        clear hQ5 hP5 hV5 hM5 hB5 ql f0 f1 f2 o0 o1 o2
        generalize (((W5.setCell ⟨gq, 6, none⟩ (.int .i64 mc.x)).setCell ⟨gq, 7, none⟩ (.int .i64 mc.y)).setCell ⟨gq, 8, none⟩ (.int .i64 mc.z)) = W6 at *
        have pl := hP6.lt
        have c0 : W6.cell? ⟨w.heap.size, 6, none⟩ = some (.int .i64 c.x) := hP6.cell 6
        have c1 : W6.cell? ⟨w.heap.size, 7, none⟩ = some (.int .i64 c.y) := hP6.cell 7
        have c2 : W6.cell? ⟨w.heap.size, 8, none⟩ = some (.int .i64 c.z) := hP6.cell 8
        go_wp2_with (first | (go_at_call 16; (with_reducible refine (kS.at_ _).mono ?_); rintro e W7 ⟨rfl, xs, hW7⟩; have hP7 := hW7 ▸ hP6.grow xs; have hV7 := hW7 ▸ hV6.grow xs; have hQ7 := hW7 ▸ hQ6.grow xs; have hM7 := hW7 ▸ hM6.grow xs; have hB7 : Below w.heap.size w W7 := hW7 ▸ bel_grow hB6 xs; clear hW7 hP6 hV6 hQ6 hM6 hB6 c0 c1 c2 pl; have ml := hM7.lt; have f0 := hM7.frozen 6; have f1 := hM7.frozen 7; have f2 := hM7.frozen 8; have o0 := hM7.cell 6; have o1 := hM7.cell 7; have o2 := hM7.cell 8; replace hP7 := Lib.hid hP7; replace hV7 := Lib.hid hV7; replace hQ7 := Lib.hid hQ7; replace hM7 := Lib.hid hM7; replace hB7 := Lib.hid hB7) | fail)
        go_roundw
        case rel => exact ⟨(bel_set (bel_set (bel_set hB7.out (p := ⟨gm, 6, none⟩) (by show _ ≤ gm; omega) _) (p := ⟨gm, 7, none⟩) (by show _ ≤ gm; omega) _) (p := ⟨gm, 8, none⟩) (by show _ ≤ gm; omega) _), (((hP7.out.far (b := gm) 6 (.int .i64 nc.x) (by omega)).far (b := gm) 7 (.int .i64 nc.y) (by omega)).far (b := gm) 8 (.int .i64 nc.z) (by omega)), (((hV7.out.far (b := gm) 6 (.int .i64 nc.x) (by omega)).far (b := gm) 7 (.int .i64 nc.y) (by omega)).far (b := gm) 8 (.int .i64 nc.z) (by omega)), .inr (.inr (.inr (.inl ⟨rfl, ⟨w0.out, w1.out, hw.out⟩, (((hQ7.out.far (b := gm) 6 (.int .i64 nc.x) (by omega)).far (b := gm) 7 (.int .i64 nc.y) (by omega)).far (b := gm) 8 (.int .i64 nc.z) (by omega)), (((hM7.out.set 6 (.int .i64 nc.x)).set 7 (.int .i64 nc.y)).set 8 (.int .i64 nc.z))⟩)))⟩
        case measure => simp [intOf]
    · have pl := hPr.lt
      replace w0 := Lib.hid w0
      replace w1 := Lib.hid w1
      replace w2 := Lib.hid w2
      have c0 : wr.cell? ⟨w.heap.size, 9, none⟩ = some (.int .i64 d.x) := hPr.cell 9
      have c1 : wr.cell? ⟨w.heap.size, 10, none⟩ = some (.int .i64 d.y) := hPr.cell 10
      have c2 : wr.cell? ⟨w.heap.size, 11, none⟩ = some (.int .i64 d.z) := hPr.cell 11
      have kq := vWithin_any d.x d.y d.z 32768 (by omega)
      rcases Bool.eq_false_or_eq_true (wiB d.x d.y d.z 32768) with hw | hw
      rotate_left
      · rw [hw] at kq
        replace hw := trivial
        go_wp2_with (first | (go_at_call 14; first | ((with_reducible refine (kq.at_ _).mono ?_); rintro e w' ⟨rfl, xg, rfl⟩)) | fail)
        go_ret
        exact ⟨rfl, bel_trans hBr (by repeat (first | exact Below.refl _ _ | refine bel_then ?_ _ | refine bel_grow ?_ _ | refine bel_alloc ?_ _ | refine bel_drew ?_ | refine bel_set ?_ (by simp) _ | refine bel_setRow ?_ (by first | omega | (simp; done) | (refine Nat.le_trans ?_ (top_le _ _); simp; done) | (refine Nat.le_succ_of_le (Nat.le_trans ?_ (top_le _ _)); simp; done) | (refine Nat.le_trans ?_ (top_le _ _); simp only [World.size_alloc]; refine Nat.le_succ_of_le (Nat.le_trans ?_ (top_le _ _)); simp; done)) _))⟩
      · obtain ⟨⟨e1, e2, e3⟩, e4, e5, e6⟩ := mvR_add hv.out hw
        have kA := rAdd_any d.x d.y d.z v.x v.y v.z
        rw [e1, e2, e3, show d.x + v.x = md.x by rw [hmd.out], show d.y + v.y = md.y by rw [hmd.out], show d.z + v.z = md.z by rw [hmd.out]] at kA
        have kS := rScale_any d.x d.y d.z (-1)
        rw [e4, e5, e6, show d.x * -1 = nd.x by rw [hnd.out], show d.y * -1 = nd.y by rw [hnd.out], show d.z * -1 = nd.z by rw [hnd.out]] at kS
        rw [hw] at kq
        replace hw := Lib.hid hw
        clear e1 e2 e3 e4 e5 e6
        go_upto_region 12 with (first | (go_at_call 14; first | ((with_reducible refine (kq.at_ _).mono ?_); rintro e w' ⟨rfl, xg, rfl⟩)) | fail)
        have hP4 := hPr.grow xg
        have hV4 := hVr.grow xg
        have hQ4 := hQr.grow xg
        have hM4 := hMr.grow xg
        have hB4 := bel_grow hBr xg
        clear hPr hVr hQr hMr hBr c0 c1 c2 pl kq
        generalize grow wr xg = W4 at *
        have pl := hP4.lt
        have vl := hV4.lt
        have ql := hQ4.lt
        have c0 : W4.cell? ⟨w.heap.size, 9, none⟩ = some (.int .i64 d.x) := hP4.cell 9
        have c1 : W4.cell? ⟨w.heap.size, 10, none⟩ = some (.int .i64 d.y) := hP4.cell 10
        have c2 : W4.cell? ⟨w.heap.size, 11, none⟩ = some (.int .i64 d.z) := hP4.cell 11
        have v0 := hV4.cell 0
        have v1 := hV4.cell 1
        have v2 := hV4.cell 2
        refine wp_region_tail 7 ?_ (by kernel_rfl) (by kernel_rfl) (by kernel_rfl) (fun x => ?_) (fun x => ?_)
        rotate_left
        · simp only [List.take_succ_cons, List.take_zero]
          repeat (go_big_quiet_step (((first | with_reducible exact kA.quiet _ | with_reducible exact kA.quiet2 _ _))))
          refine wpQuiet_nil ?_
          exact rfl
        simp only [List.drop_succ_cons, List.drop_zero]
        try simp only [Act.put, List.setIfInBounds_toArray, List.set_cons_succ, List.set_cons_zero]
        have hP5 := hP4.grow x
        have hV5 := hV4.grow x
        have hQ5 := hQ4.grow x
        have hM5 := hM4.grow x
        have hB5 := bel_grow hB4 x
        clear hP4 hV4 hQ4 hM4 hB4 c0 c1 c2 v0 v1 v2 pl vl ql kA
        generalize grow W4 x = W5 at *
        have ql := hQ5.lt
        have f0 := hQ5.frozen 9
        have f1 := hQ5.frozen 10
        have f2 := hQ5.frozen 11
        have o0 := hQ5.cell 9
        have o1 := hQ5.cell 10
        have o2 := hQ5.cell 11
        go_upto_region 13 with (fail)
        have hQ6 := (((hQ5.set 9 (.int .i64 md.x)).set 10 (.int .i64 md.y)).set 11 (.int .i64 md.z))
        have hP6 := (((hP5.far (b := gq) 9 (.int .i64 md.x) (by omega)).far (b := gq) 10 (.int .i64 md.y) (by omega)).far (b := gq) 11 (.int .i64 md.z) (by omega))
        have hV6 := (((hV5.far (b := gq) 9 (.int .i64 md.x) (by omega)).far (b := gq) 10 (.int .i64 md.y) (by omega)).far (b := gq) 11 (.int .i64 md.z) (by omega))
        have hM6 := (((hM5.far (b := gq) 9 (.int .i64 md.x) (by omega)).far (b := gq) 10 (.int .i64 md.y) (by omega)).far (b := gq) 11 (.int .i64 md.z) (by omega))
        have hB6 : Below w.heap.size w (((W5.setCell ⟨gq, 9, none⟩ (.int .i64 md.x)).setCell ⟨gq, 10, none⟩ (.int .i64 md.y)).setCell ⟨gq, 11, none⟩ (.int .i64 md.z)) := (bel_set (bel_set (bel_set hB5 (p := ⟨gq, 9, none⟩) (by show _ ≤ gq; omega) _) (p := ⟨gq, 10, none⟩) (by show _ ≤ gq; omega) _) (p := ⟨gq, 11, none⟩) (by show _ ≤ gq; omega) _)
        clear hQ5 hP5 hV5 hM5 hB5 ql f0 f1 f2 o0 o1 o2
        generalize (((W5.setCell ⟨gq, 9, none⟩ (.int .i64 md.x)).setCell ⟨gq, 10, none⟩ (.int .i64 md.y)).setCell ⟨gq, 11, none⟩ (.int .i64 md.z)) = W6 at *
        have pl := hP6.lt
        have c0 : W6.cell? ⟨w.heap.size, 9, none⟩ = some (.int .i64 d.x) := hP6.cell 9
        have c1 : W6.cell? ⟨w.heap.size, 10, none⟩ = some (.int .i64 d.y) := hP6.cell 10
        have c2 : W6.cell? ⟨w.heap.size, 11, none⟩ = some (.int .i64 d.z) := hP6.cell 11
        go_wp2_with (first | (go_at_call 16; (with_reducible refine (kS.at_ _).mono ?_); rintro e W7 ⟨rfl, xs, hW7⟩; have hP7 := hW7 ▸ hP6.grow xs; have hV7 := hW7 ▸ hV6.grow xs; have hQ7 := hW7 ▸ hQ6.grow xs; have hM7 := hW7 ▸ hM6.grow xs; have hB7 : Below w.heap.size w W7 := hW7 ▸ bel_grow hB6 xs; clear hW7 hP6 hV6 hQ6 hM6 hB6 c0 c1 c2 pl; have ml := hM7.lt; have f0 := hM7.frozen 9; have f1 := hM7.frozen 10; have f2 := hM7.frozen 11; have o0 := hM7.cell 9; have o1 := hM7.cell 10; have o2 := hM7.cell 11; replace hP7 := Lib.hid hP7; replace hV7 := Lib.hid hV7; replace hQ7 := Lib.hid hQ7; replace hM7 := Lib.hid hM7; replace hB7 := Lib.hid hB7) | fail)
        go_roundw
        case rel => exact ⟨(bel_set (bel_set (bel_set hB7.out (p := ⟨gm, 9, none⟩) (by show _ ≤ gm; omega) _) (p := ⟨gm, 10, none⟩) (by show _ ≤ gm; omega) _) (p := ⟨gm, 11, none⟩) (by show _ ≤ gm; omega) _), (((hP7.out.far (b := gm) 9 (.int .i64 nd.x) (by omega)).far (b := gm) 10 (.int .i64 nd.y) (by omega)).far (b := gm) 11 (.int .i64 nd.z) (by omega)), (((hV7.out.far (b := gm) 9 (.int .i64 nd.x) (by omega)).far (b := gm) 10 (.int .i64 nd.y) (by omega)).far (b := gm) 11 (.int .i64 nd.z) (by omega)), .inr (.inr (.inr (.inr (⟨rfl, ⟨w0.out, w1.out, w2.out, hw.out⟩, (((hQ7.out.far (b := gm) 9 (.int .i64 nd.x) (by omega)).far (b := gm) 10 (.int .i64 nd.y) (by omega)).far (b := gm) 11 (.int .i64 nd.z) (by omega)), (((hM7.out.set 9 (.int .i64 nd.x)).set 10 (.int .i64 nd.y)).set 11 (.int .i64 nd.z))⟩))))⟩
        case measure => simp [intOf]
    · have k1 := length_any (pr4 a b c d)
      have k2 := length_any (mvR (pr4 a b c d) v)
      have k3 := length_any (ngR (pr4 a b c d))
      obtain ⟨o1, o2, o3, o4, o5⟩ := mvR_fin (p := pr4 a b c d) hv.out (fun k hk => by
        rcases (by omega : k = 0 ∨ k = 1 ∨ k = 2 ∨ k = 3) with rfl | rfl | rfl | rfl
        · exact w0
        · exact w1
        · exact w2
        · exact w3)
      have e0 : mvR (pr4 a b c d) v 0 = ma ∧ mvR (pr4 a b c d) v 1 = mb ∧ mvR (pr4 a b c d) v 2 = mc ∧ mvR (pr4 a b c d) v 3 = md := ⟨hma.out.symm, hmb.out.symm, hmc.out.symm, hmd.out.symm⟩
      have e1 : ngR (pr4 a b c d) 0 = na ∧ ngR (pr4 a b c d) 1 = nb ∧ ngR (pr4 a b c d) 2 = nc ∧ ngR (pr4 a b c d) 3 = nd := ⟨hna.out.symm, hnb.out.symm, hnc.out.symm, hnd.out.symm⟩
      rw [o1, ptsC4] at k1
      rw [o2, o4, ptsC4, e0.1, e0.2.1, e0.2.2.1, e0.2.2.2] at k2
      rw [o3, o5, ptsC4, e1.1, e1.2.1, e1.2.2.1, e1.2.2.2] at k3
      change Gives Try.prog 8 #[.agg #[.int .i64 a.x, .int .i64 a.y, .int .i64 a.z, .int .i64 b.x, .int .i64 b.y, .int .i64 b.z, .int .i64 c.x, .int .i64 c.y, .int .i64 c.z, .int .i64 d.x, .int .i64 d.y, .int .i64 d.z]] _ at k1
      generalize lenK (pr4 a b c d) = LL at *
      clear o1 o2 o3 o4 o5 e0 e1 w0 w1 w2 w3
      have pl := hPr.lt
      have ql := hQr.lt
      have ml := hMr.lt
      have c0 := hPr.cell 0
      have g0 := hQr.cell 0
      have n0 := hMr.cell 0
      have c1 := hPr.cell 1
      have g1 := hQr.cell 1
      have n1 := hMr.cell 1
      have c2 := hPr.cell 2
      have g2 := hQr.cell 2
      have n2 := hMr.cell 2
      have c3 := hPr.cell 3
      have g3 := hQr.cell 3
      have n3 := hMr.cell 3
      have c4 := hPr.cell 4
      have g4 := hQr.cell 4
      have n4 := hMr.cell 4
      have c5 := hPr.cell 5
      have g5 := hQr.cell 5
      have n5 := hMr.cell 5
      have c6 := hPr.cell 6
      have g6 := hQr.cell 6
      have n6 := hMr.cell 6
      have c7 := hPr.cell 7
      have g7 := hQr.cell 7
      have n7 := hMr.cell 7
      have c8 := hPr.cell 8
      have g8 := hQr.cell 8
      have n8 := hMr.cell 8
      have c9 := hPr.cell 9
      have g9 := hQr.cell 9
      have n9 := hMr.cell 9
      have c10 := hPr.cell 10
      have g10 := hQr.cell 10
      have n10 := hMr.cell 10
      have c11 := hPr.cell 11
      have g11 := hQr.cell 11
      have n11 := hMr.cell 11
      clear hPr hQr hMr hVr
      go_wp2_with (first | (go_at_call 8; first | ((with_reducible refine (k1.at_ _).mono ?_); rintro e w' ⟨rfl, xb, rfl⟩) | ((with_reducible refine (k2.at_ _).mono ?_); rintro e w' ⟨rfl, xc, rfl⟩) | ((with_reducible refine (k3.at_ _).mono ?_); rintro e w' ⟨rfl, xd, rfl⟩)) | fail)
      go_ret
      exact ⟨rfl, bel_trans hBr (by repeat (first | exact Below.refl _ _ | refine bel_then ?_ _ | refine bel_grow ?_ _ | refine bel_alloc ?_ _ | refine bel_drew ?_ | refine bel_set ?_ (by simp) _ | refine bel_setRow ?_ (by first | omega | (simp; done) | (refine Nat.le_trans ?_ (top_le _ _); simp; done) | (refine Nat.le_succ_of_le (Nat.le_trans ?_ (top_le _ _)); simp; done) | (refine Nat.le_trans ?_ (top_le _ _); simp only [World.size_alloc]; refine Nat.le_succ_of_le (Nat.le_trans ?_ (top_le _ _)); simp; done)) _))⟩

theorem own : ownKnob Try.prog.godebug = none := by kernel_rfl
set_option maxRecDepth 100000 in
theorem lifted (os : Os) (started : os.Started) (H : Type) (enc : TypeId × Value → H) :
    ReturnsInHanded {} Try.checked os 6 .any (Rows.rateMovedSpec.pre6 enc Try.prog Try.f6 Rows.rateMovedRow.domain false) (Rows.rateMovedSpec.post enc Try.prog Try.f6 false true false false) := by
  refine returnsInHanded_of_change (C := Try.checked) own started (by kernel_rfl) Try.func6
    (ChangeSpec.witness6 (enc := enc) (C := Try.checked) false ⟨#[], #[.agg #[.int .i64 0, .int .i64 0, .int .i64 0, .int .i64 0, .int .i64 0, .int .i64 0, .int .i64 0, .int .i64 0, .int .i64 0, .int .i64 0, .int .i64 0, .int .i64 0], .agg #[.int .i64 0, .int .i64 0, .int .i64 0]], []⟩ 12 (by kernel_rfl) (by kernel_rfl) (by kernel_rfl) (by kernel_rfl)) ?_
  intro W base args ds gs before hval0 hW hcnd _
  have hval : ∀ (j : Nat) t v, Try.f6.params[j]? = some t → args[j]? = some v → Value.okWide Try.prog W .any base t v := hval0
  have hW' := hW
  obtain ⟨p, q, hA0, hV, rfl, hfz, hnd⟩ := hW
  have hA : DataW.TrodAll enc Try.prog W 0 (fun _ => true) true Try.f6.params.toList args.toList ds p := hA0
  rw [Try.params6] at hA hval
  obtain ⟨v0, vs0, d0, ds0, p0, q0, hargs, rfl, rfl, h0, r0⟩ := trodAll_cons hA
  obtain ⟨v1, vs1, d1, ds1, p1, q1, rfl, rfl, rfl, h1, r1⟩ := trodAll_cons r0
  obtain ⟨rfl, rfl, rfl⟩ := trodAll_nil r1
  obtain rfl : args = #[v0, v1] := by cases args; simp_all
  obtain ⟨p0, rfl, k0⟩ := open_A4 (hval 0 26 v0 rfl rfl) h0
  obtain ⟨a1, rfl, k1⟩ := open_V3 (hval 1 23 v1 rfl rfl) h1
  refine (walk W p0 k0 a1 k1).mono fun e W' ⟨he, hb⟩ => ?_
  subst he
  exact ⟨_, rfl, law_post (tb := 4) (by kernel_rfl) (by kernel_rfl) rfl rfl Try.underlying4 rfl rfl rfl hW' hb⟩

theorem over : Rows.rateMovedRow.holds Try.pinned (OpenSpec.ofChange Rows.rateMovedSpec) :=
  OpenClaim.holds_of_wide 6 Try.f6 rfl rfl rfl rfl rfl rfl rfl ⟨rfl, rfl, rfl, rfl, rfl⟩ rfl rfl rfl rfl rfl (by kernel_rfl) Try.func6 (by kernel_rfl)
    (of_decide_eq_true (by kernel_rfl)) (by unfold Func.isWrapper; first | (rw [if_pos (by decide +kernel)]; kernel_rfl) | (rw [if_neg (by decide +kernel)]; exact ⟨rfl, rfl⟩))
    (fun os started H enc _ => lifted os started H enc)

theorem proved : Rows.RateMovedSaid :=
  over
#print axioms proved
end Go.Proofs.Ytgmifpicilfcdaa.rateMoved
