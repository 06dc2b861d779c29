/- CurveMoved holds for every input: the row, out of the walk. No condition. -/
import Derived.Test.YtiaikceoodeboabRows
import Derived.Test.YtiaikceoodeboabC3
import Derived.Test.YtiaikceoodeboabC4
namespace Go.Proofs.Ytiaikceoodeboab.curveMoved
open Go.ChangeShapes Go.WideShapes Go.ChangeAt Go.RowKit
set_option linter.unusedVariables false
set_option linter.unusedSimpArgs false
theorem mv_fin {p : Nat → P3} {v : P3} {i n : Int} (hv : wiB v.x v.y v.z 16384 = true) (hp : ∀ k, k < 4 → wiB (p k).x (p k).y (p k).z 32768 = true) :
    (cubK p i n = false ∧ cubK (mvF p v) i n = false ∧ cubK (fun _ => v) i n = false) ∨ (cubK p i n = true ∧ cubK (mvF p v) i n = true ∧ cubK (fun _ => v) i n = true ∧ (wrap64 ((cubP p i n).x + v.x) = (cubP (mvF p v) i n).x ∧ wrap64 ((cubP p i n).y + v.y) = (cubP (mvF p v) i n).y ∧ wrap64 ((cubP p i n).z + v.z) = (cubP (mvF p v) i n).z) ∧ cubP (fun _ => v) i n = v) := by
  have bv := (wiB_iff _ _ _ _).1 hv
  have bp := fun k hk => (wiB_iff _ _ _ _).1 (hp k hk)
  have o1 : okB p 4 = true := okB_all.2 fun k hk => (wiB_iff _ _ _ _).2 (by have := bp k hk; omega)
  have o2 : okB (mvF p v) 4 = true := okB_all.2 fun k hk => (wiB_iff _ _ _ _).2 (by have := bp k hk; unfold mvF; simp only []; omega)
  have o3 : okB (fun _ => v) 4 = true := okB_all.2 fun k hk => (wiB_iff _ _ _ _).2 (by omega)
  cases h : thB i n
  · left; unfold cubK; rw [h]; exact ⟨rfl, rfl, rfl⟩
  · right
    have e1 : cubK p i n = true := by unfold cubK; rw [h, o1]; rfl
    have e2 : cubK (mvF p v) i n = true := by unfold cubK; rw [h, o2]; rfl
    have e3 : cubK (fun _ => v) i n = true := by unfold cubK; rw [h, o3]; rfl
    have c1 := cubK_iff.1 e1
    have m := cub_moved c1 (cubK_iff.1 e2)
    refine ⟨e1, e2, e3, ?_, cub_one (cubK_iff.1 e3)⟩
    rw [m]
    have inb : ∀ (g : P3 → Int), Part g → -65536 ≤ g (cubP p i n) ∧ g (cubP p i n) ≤ 65536 := fun g hg => by
      rw [cub_at hg c1]
      exact mean_in (fun k _ => wt_pos c1.i0 c1.i1 k) (c1.bd hg) (wt_tot i n) ⟨(cube_bd c1.n0 c1.n1).1, by have := (cube_bd c1.n0 c1.n1).2; omega⟩ (c1.bd hg)
    have x := inb _ part_x
    have y := inb _ part_y
    have z := inb _ part_z
    exact ⟨wrap_id (by omega) (by omega), wrap_id (by omega) (by omega), wrap_id (by omega) (by omega)⟩
theorem mv_add {q v : P3} (hv : wiB v.x v.y v.z 16384 = true) (hp : wiB q.x q.y q.z 32768 = true) : wrap64 (q.x + v.x) = q.x + v.x ∧ wrap64 (q.y + v.y) = q.y + v.y ∧ wrap64 (q.z + v.z) = q.z + v.z := by
  have bv := (wiB_iff _ _ _ _).1 hv
  have bp := (wiB_iff _ _ _ _).1 hp
  exact ⟨wrap_id (by omega) (by omega), wrap_id (by omega) (by omega), wrap_id (by omega) (by omega)⟩
def pr4 (a b c d : P3) (k : Nat) : P3 := if k = 0 then a else if k = 1 then b else if k = 2 then c else d
set_option maxRecDepth 100000 in
set_option maxHeartbeats 4000000 in
theorem walk (w : World) (p : Nat → P3) (kp : ∀ k, k < 4 → In3 (p k)) (v : P3) (kv : In3 v) (i : Int) (bi : In64 i) (n : Int) (bn : In64 n) : Calls Try.prog 7 #[.agg (ptsC 4 p), .agg #[.int .i64 v.x, .int .i64 v.y, .int .i64 v.z], .int .i64 i, .int .i64 n] w fun e w' => e = .returned (.bool true) ∧ Below w.heap.size w w' := by
  have al := alive11_any
  have wr1 : wrap64 1 = 1 := wrap_id (by omega) (by omega)
  have wr2 : wrap64 2 = 2 := wrap_id (by omega) (by omega)
  have wr3 : wrap64 3 = 3 := wrap_id (by omega) (by omega)
  have wr4 : wrap64 4 = 4 := wrap_id (by omega) (by omega)
  have wr0 : wrap64 0 = 0 := wrap_id (by omega) (by omega)
  rw [ptsC4]
  generalize p 0 = a at *
  generalize p 1 = b at *
  generalize p 2 = c at *
  generalize p 3 = d at *
  have kv1 := vWithin_any v.x v.y v.z 16384 (by omega)
  have hP0 : Blk ((w.alloc (.cells #[.int .i64 (a).x, .int .i64 (a).y, .int .i64 (a).z, .int .i64 (b).x, .int .i64 (b).y, .int .i64 (b).z, .int .i64 (c).x, .int .i64 (c).y, .int .i64 (c).z, .int .i64 (d).x, .int .i64 (d).y, .int .i64 (d).z] 26)).alloc (.cells #[.int .i64 v.x, .int .i64 v.y, .int .i64 v.z] 23)) w.heap.size 26 #[.int .i64 (a).x, .int .i64 (a).y, .int .i64 (a).z, .int .i64 (b).x, .int .i64 (b).y, .int .i64 (b).z, .int .i64 (c).x, .int .i64 (c).y, .int .i64 (c).z, .int .i64 (d).x, .int .i64 (d).y, .int .i64 (d).z] := (Blk.new _ _ _ _ rfl).alloc _
  have hV0 : Blk ((w.alloc (.cells #[.int .i64 (a).x, .int .i64 (a).y, .int .i64 (a).z, .int .i64 (b).x, .int .i64 (b).y, .int .i64 (b).z, .int .i64 (c).x, .int .i64 (c).y, .int .i64 (c).z, .int .i64 (d).x, .int .i64 (d).y, .int .i64 (d).z] 26)).alloc (.cells #[.int .i64 v.x, .int .i64 v.y, .int .i64 v.z] 23)) (w.heap.size + 1) 23 #[.int .i64 v.x, .int .i64 v.y, .int .i64 v.z] := Blk.new _ _ _ _ (by simp)
  have hB0 : Below w.heap.size w ((w.alloc (.cells #[.int .i64 (a).x, .int .i64 (a).y, .int .i64 (a).z, .int .i64 (b).x, .int .i64 (b).y, .int .i64 (b).z, .int .i64 (c).x, .int .i64 (c).y, .int .i64 (c).z, .int .i64 (d).x, .int .i64 (d).y, .int .i64 (d).z] 26)).alloc (.cells #[.int .i64 v.x, .int .i64 v.y, .int .i64 v.z] 23)) := bel_alloc (bel_alloc (Below.refl _ _) _) _
  go_enter Try.func7, Try.ntmps7
  go_upto_region 1 with (fail)
  generalize ((w.alloc (.cells #[.int .i64 (a).x, .int .i64 (a).y, .int .i64 (a).z, .int .i64 (b).x, .int .i64 (b).y, .int .i64 (b).z, .int .i64 (c).x, .int .i64 (c).y, .int .i64 (c).z, .int .i64 (d).x, .int .i64 (d).y, .int .i64 (d).z] 26)).alloc (.cells #[.int .i64 v.x, .int .i64 v.y, .int .i64 v.z] 23)) = W0 at *
  go_upto_region 3 with (first | (go_at_call 10; first | ((with_reducible refine (al.at_ _).mono ?_); rintro e w' ⟨rfl, xa, rfl⟩)) | fail)
  have hP1 := hP0.grow xa
  have hV1 := hV0.grow xa
  have hB1 := bel_grow hB0 xa
  clear hP0 hV0 hB0 al
  generalize grow W0 xa = W1 at *
  have v0 := hV1.cell 0
  have v1 := hV1.cell 1
  have v2 := hV1.cell 2
  have vl := hV1.lt
  cases hv : wiB v.x v.y v.z 16384
  · rw [hv] at kv1
    replace hv := trivial
    go_wp2_with (first | (go_at_call 19; first | ((with_reducible refine (kv1.at_ _).mono ?_); rintro e w' ⟨rfl, xg, rfl⟩)) | fail)
    go_ret
    exact ⟨rfl, bel_trans hB1 (by repeat (first | exact Below.refl _ _ | refine bel_then ?_ _ | refine bel_grow ?_ _ | refine bel_alloc ?_ _ | refine bel_drew ?_ | refine bel_set ?_ (by simp) _ | refine bel_setRow ?_ (by first | omega | (simp; done) | (refine Nat.le_trans ?_ (top_le _ _); simp; done) | (refine Nat.le_succ_of_le (Nat.le_trans ?_ (top_le _ _)); simp; done) | (refine Nat.le_trans ?_ (top_le _ _); simp only [World.size_alloc]; refine Nat.le_succ_of_le (Nat.le_trans ?_ (top_le _ _)); simp; done)) _))⟩
  rw [hv] at kv1
  replace hv := Lib.hid hv
  go_upto_region 5 with (first | (go_at_call 19; first | ((with_reducible refine (kv1.at_ _).mono ?_); rintro e w' ⟨rfl, xg, rfl⟩)) | fail)
  have hP2 := hP1.grow xg
  have hV2 := hV1.grow xg
  have hB2 := bel_grow hB1 xg
  clear hP1 hV1 hB1 v0 v1 v2 vl kv1
  generalize grow W1 xg = W2 at *
  have c0 := hP2.cell 0
  have c1 := hP2.cell 1
  have c2 := hP2.cell 2
  have c3 := hP2.cell 3
  have c4 := hP2.cell 4
  have c5 := hP2.cell 5
  have c6 := hP2.cell 6
  have c7 := hP2.cell 7
  have c8 := hP2.cell 8
  have c9 := hP2.cell 9
  have c10 := hP2.cell 10
  have c11 := hP2.cell 11
  have pl := hP2.lt
  go_upto_region 6 with (fail)
  have hP3 : Blk (W2.alloc (.cells #[.int .i64 (a).x, .int .i64 (a).y, .int .i64 (a).z, .int .i64 (b).x, .int .i64 (b).y, .int .i64 (b).z, .int .i64 (c).x, .int .i64 (c).y, .int .i64 (c).z, .int .i64 (d).x, .int .i64 (d).y, .int .i64 (d).z] 26)) w.heap.size 26 #[.int .i64 (a).x, .int .i64 (a).y, .int .i64 (a).z, .int .i64 (b).x, .int .i64 (b).y, .int .i64 (b).z, .int .i64 (c).x, .int .i64 (c).y, .int .i64 (c).z, .int .i64 (d).x, .int .i64 (d).y, .int .i64 (d).z] := hP2.alloc _
  have hV3 : Blk (W2.alloc (.cells #[.int .i64 (a).x, .int .i64 (a).y, .int .i64 (a).z, .int .i64 (b).x, .int .i64 (b).y, .int .i64 (b).z, .int .i64 (c).x, .int .i64 (c).y, .int .i64 (c).z, .int .i64 (d).x, .int .i64 (d).y, .int .i64 (d).z] 26)) (w.heap.size + 1) 23 #[.int .i64 v.x, .int .i64 v.y, .int .i64 v.z] := hV2.alloc _
  have hQ3 : Blk (W2.alloc (.cells #[.int .i64 (a).x, .int .i64 (a).y, .int .i64 (a).z, .int .i64 (b).x, .int .i64 (b).y, .int .i64 (b).z, .int .i64 (c).x, .int .i64 (c).y, .int .i64 (c).z, .int .i64 (d).x, .int .i64 (d).y, .int .i64 (d).z] 26)) W2.heap.size 26 #[.int .i64 (a).x, .int .i64 (a).y, .int .i64 (a).z, .int .i64 (b).x, .int .i64 (b).y, .int .i64 (b).z, .int .i64 (c).x, .int .i64 (c).y, .int .i64 (c).z, .int .i64 (d).x, .int .i64 (d).y, .int .i64 (d).z] := Blk.new _ _ _ _ rfl
  have hB3 : Below w.heap.size w (W2.alloc (.cells #[.int .i64 (a).x, .int .i64 (a).y, .int .i64 (a).z, .int .i64 (b).x, .int .i64 (b).y, .int .i64 (b).z, .int .i64 (c).x, .int .i64 (c).y, .int .i64 (c).z, .int .i64 (d).x, .int .i64 (d).y, .int .i64 (d).z] 26)) := bel_alloc hB2 _
  have hne : w.heap.size + 1 < W2.heap.size := hV2.lt
  clear hP2 hV2 hB2 c0 c1 c2 c3 c4 c5 c6 c7 c8 c9 c10 c11 pl
  generalize W2.alloc (.cells #[.int .i64 (a).x, .int .i64 (a).y, .int .i64 (a).z, .int .i64 (b).x, .int .i64 (b).y, .int .i64 (b).z, .int .i64 (c).x, .int .i64 (c).y, .int .i64 (c).z, .int .i64 (d).x, .int .i64 (d).y, .int .i64 (d).z] 26) = W3 at *
  generalize W2.heap.size = gq at *
  obtain ⟨ma, hma⟩ : ∃ q : P3, q = ⟨a.x + v.x, a.y + v.y, a.z + v.z⟩ := ⟨_, rfl⟩
  obtain ⟨mb, hmb⟩ : ∃ q : P3, q = ⟨b.x + v.x, b.y + v.y, b.z + v.z⟩ := ⟨_, rfl⟩
  obtain ⟨mc, hmc⟩ : ∃ q : P3, q = ⟨c.x + v.x, c.y + v.y, c.z + v.z⟩ := ⟨_, rfl⟩
  obtain ⟨md, hmd⟩ : ∃ q : P3, q = ⟨d.x + v.x, d.y + v.y, d.z + v.z⟩ := ⟨_, rfl⟩
  replace hma := Lib.hid hma
  replace hmb := Lib.hid hmb
  replace hmc := Lib.hid hmc
  replace hmd := Lib.hid hmd
  go_wp2
  go_loopw [10] (fun iv wr => Below w.heap.size w wr ∧ Blk wr w.heap.size 26 #[.int .i64 (a).x, .int .i64 (a).y, .int .i64 (a).z, .int .i64 (b).x, .int .i64 (b).y, .int .i64 (b).z, .int .i64 (c).x, .int .i64 (c).y, .int .i64 (c).z, .int .i64 (d).x, .int .i64 (d).y, .int .i64 (d).z] ∧ Blk wr (w.heap.size + 1) 23 #[.int .i64 v.x, .int .i64 v.y, .int .i64 v.z] ∧ ((iv = .int .i64 0 ∧ Blk wr gq 26 #[.int .i64 (a).x, .int .i64 (a).y, .int .i64 (a).z, .int .i64 (b).x, .int .i64 (b).y, .int .i64 (b).z, .int .i64 (c).x, .int .i64 (c).y, .int .i64 (c).z, .int .i64 (d).x, .int .i64 (d).y, .int .i64 (d).z]) ∨ (iv = .int .i64 1 ∧ wiB a.x a.y a.z 32768 = true ∧ Blk wr gq 26 #[.int .i64 (ma).x, .int .i64 (ma).y, .int .i64 (ma).z, .int .i64 (b).x, .int .i64 (b).y, .int .i64 (b).z, .int .i64 (c).x, .int .i64 (c).y, .int .i64 (c).z, .int .i64 (d).x, .int .i64 (d).y, .int .i64 (d).z]) ∨ (iv = .int .i64 2 ∧ wiB a.x a.y a.z 32768 = true ∧ wiB b.x b.y b.z 32768 = true ∧ Blk wr gq 26 #[.int .i64 (ma).x, .int .i64 (ma).y, .int .i64 (ma).z, .int .i64 (mb).x, .int .i64 (mb).y, .int .i64 (mb).z, .int .i64 (c).x, .int .i64 (c).y, .int .i64 (c).z, .int .i64 (d).x, .int .i64 (d).y, .int .i64 (d).z]) ∨ (iv = .int .i64 3 ∧ wiB a.x a.y a.z 32768 = true ∧ wiB b.x b.y b.z 32768 = true ∧ wiB c.x c.y c.z 32768 = true ∧ Blk wr gq 26 #[.int .i64 (ma).x, .int .i64 (ma).y, .int .i64 (ma).z, .int .i64 (mb).x, .int .i64 (mb).y, .int .i64 (mb).z, .int .i64 (mc).x, .int .i64 (mc).y, .int .i64 (mc).z, .int .i64 (d).x, .int .i64 (d).y, .int .i64 (d).z]) ∨ (iv = .int .i64 4 ∧ (wiB a.x a.y a.z 32768 = true ∧ wiB b.x b.y b.z 32768 = true ∧ wiB c.x c.y c.z 32768 = true ∧ wiB d.x d.y d.z 32768 = true) ∧ Blk wr gq 26 #[.int .i64 (ma).x, .int .i64 (ma).y, .int .i64 (ma).z, .int .i64 (mb).x, .int .i64 (mb).y, .int .i64 (mb).z, .int .i64 (mc).x, .int .i64 (mc).y, .int .i64 (mc).z, .int .i64 (md).x, .int .i64 (md).y, .int .i64 (md).z]))) (fun iv _ => 4 - (intOf iv).toNat)
  case atStart => exact ⟨hB3, hP3, hV3, .inl ⟨rfl, hQ3⟩⟩
  case round =>
    obtain ⟨hBr, hPr, hVr, hi⟩ := hrel
    clear hB3 hP3 hV3 hQ3
    rename World => wr
    rcases hi with ⟨rfl, hQr⟩ | ⟨rfl, w0, hQr⟩ | ⟨rfl, w0, w1, hQr⟩ | ⟨rfl, w0, w1, w2, hQr⟩ | ⟨rfl, ⟨w0, w1, w2, w3⟩, hQr⟩
    · have pl := hPr.lt
      have c0 : wr.cell? ⟨w.heap.size, 0, none⟩ = some (.int .i64 a.x) := hPr.cell 0
      have c1 : wr.cell? ⟨w.heap.size, 1, none⟩ = some (.int .i64 a.y) := hPr.cell 1
      have c2 : wr.cell? ⟨w.heap.size, 2, none⟩ = some (.int .i64 a.z) := hPr.cell 2
      have kq := vWithin_any a.x a.y a.z 32768 (by omega)
      cases hw : wiB a.x a.y a.z 32768
      · rw [hw] at kq
        replace hw := trivial
        go_wp2_with (first | (go_at_call 19; first | ((with_reducible refine (kq.at_ _).mono ?_); rintro e w' ⟨rfl, xg, rfl⟩)) | fail)
        go_ret
        exact ⟨rfl, bel_trans hBr (by repeat (first | exact Below.refl _ _ | refine bel_then ?_ _ | refine bel_grow ?_ _ | refine bel_alloc ?_ _ | refine bel_drew ?_ | refine bel_set ?_ (by simp) _ | refine bel_setRow ?_ (by first | omega | (simp; done) | (refine Nat.le_trans ?_ (top_le _ _); simp; done) | (refine Nat.le_succ_of_le (Nat.le_trans ?_ (top_le _ _)); simp; done) | (refine Nat.le_trans ?_ (top_le _ _); simp only [World.size_alloc]; refine Nat.le_succ_of_le (Nat.le_trans ?_ (top_le _ _)); simp; done)) _))⟩
      · obtain ⟨e1, e2, e3⟩ := mv_add hv.out hw
        have kA := rAdd_any a.x a.y a.z v.x v.y v.z
        rw [e1, e2, e3, show a.x + v.x = ma.x by rw [hma.out], show a.y + v.y = ma.y by rw [hma.out], show a.z + v.z = ma.z by rw [hma.out]] at kA
        rw [hw] at kq
        replace hw := Lib.hid hw
        clear e1 e2 e3
        go_upto_region 11 with (first | (go_at_call 19; first | ((with_reducible refine (kq.at_ _).mono ?_); rintro e w' ⟨rfl, xg, rfl⟩)) | fail)
        have hP4 := hPr.grow xg
        have hV4 := hVr.grow xg
        have hQ4 := hQr.grow xg
        have hB4 := bel_grow hBr xg
        clear hPr hVr hQr hBr c0 c1 c2 pl kq
        generalize grow wr xg = W4 at *
        have pl := hP4.lt
        have vl := hV4.lt
        have ql := hQ4.lt
        have c0 : W4.cell? ⟨w.heap.size, 0, none⟩ = some (.int .i64 a.x) := hP4.cell 0
        have c1 : W4.cell? ⟨w.heap.size, 1, none⟩ = some (.int .i64 a.y) := hP4.cell 1
        have c2 : W4.cell? ⟨w.heap.size, 2, none⟩ = some (.int .i64 a.z) := hP4.cell 2
        have v0 := hV4.cell 0
        have v1 := hV4.cell 1
        have v2 := hV4.cell 2
        refine wp_region_tail 7 ?_ (by kernel_rfl) (by kernel_rfl) (by kernel_rfl) (fun x => ?_) (fun x => ?_)
        rotate_left
        · simp only [List.take_succ_cons, List.take_zero]
          repeat (go_big_quiet_step (((first | with_reducible exact kA.quiet _ | with_reducible exact kA.quiet2 _ _))))
          refine wpQuiet_nil ?_
          exact rfl
        simp only [List.drop_succ_cons, List.drop_zero]
        try simp only [Act.put, List.setIfInBounds_toArray, List.set_cons_succ, List.set_cons_zero]
        have hP5 := hP4.grow x
        have hV5 := hV4.grow x
        have hQ5 := hQ4.grow x
        have hB5 := bel_grow hB4 x
        clear hP4 hV4 hQ4 hB4 c0 c1 c2 v0 v1 v2 pl vl ql kA
        generalize grow W4 x = W5 at *
        have ql := hQ5.lt
        have o0 := hQ5.cell 0
        have o1 := hQ5.cell 1
        have o2 := hQ5.cell 2
        have f0 := hQ5.frozen 0
        have f1 := hQ5.frozen 1
        have f2 := hQ5.frozen 2
        have hQ6 := ((hQ5.set 0 (.int .i64 ma.x)).set 1 (.int .i64 ma.y)).set 2 (.int .i64 ma.z)
        have hP6 := ((hP5.far (b := gq) 0 (.int .i64 ma.x) (by omega)).far (b := gq) 1 (.int .i64 ma.y) (by omega)).far (b := gq) 2 (.int .i64 ma.z) (by omega)
        have hV6 := ((hV5.far (b := gq) 0 (.int .i64 ma.x) (by omega)).far (b := gq) 1 (.int .i64 ma.y) (by omega)).far (b := gq) 2 (.int .i64 ma.z) (by omega)
        have hB6 : Below w.heap.size w (((W5.setCell ⟨gq, 0, none⟩ (.int .i64 ma.x)).setCell ⟨gq, 1, none⟩ (.int .i64 ma.y)).setCell ⟨gq, 2, none⟩ (.int .i64 ma.z)) := bel_set (bel_set (bel_set hB5 (p := ⟨gq, 0, none⟩) (by show _ ≤ gq; omega) _) (p := ⟨gq, 1, none⟩) (by show _ ≤ gq; omega) _) (p := ⟨gq, 2, none⟩) (by show _ ≤ gq; omega) _
        clear hQ5 hP5 hV5 hB5
        replace hQ6 := Lib.hid hQ6
        replace hP6 := Lib.hid hP6
        replace hV6 := Lib.hid hV6
        replace hB6 := Lib.hid hB6
        go_wp2
        go_roundw
        case rel => exact ⟨hB6.out, hP6.out, hV6.out, .inr (.inl ⟨rfl, (by first | exact hw.out | trivial), hQ6.out⟩)⟩
        case measure => simp [intOf]
    · have pl := hPr.lt
      replace w0 := Lib.hid w0
      have c0 : wr.cell? ⟨w.heap.size, 3, none⟩ = some (.int .i64 b.x) := hPr.cell 3
      have c1 : wr.cell? ⟨w.heap.size, 4, none⟩ = some (.int .i64 b.y) := hPr.cell 4
      have c2 : wr.cell? ⟨w.heap.size, 5, none⟩ = some (.int .i64 b.z) := hPr.cell 5
      have kq := vWithin_any b.x b.y b.z 32768 (by omega)
      cases hw : wiB b.x b.y b.z 32768
      · rw [hw] at kq
        replace hw := trivial
        go_wp2_with (first | (go_at_call 19; first | ((with_reducible refine (kq.at_ _).mono ?_); rintro e w' ⟨rfl, xg, rfl⟩)) | fail)
        go_ret
        exact ⟨rfl, bel_trans hBr (by repeat (first | exact Below.refl _ _ | refine bel_then ?_ _ | refine bel_grow ?_ _ | refine bel_alloc ?_ _ | refine bel_drew ?_ | refine bel_set ?_ (by simp) _ | refine bel_setRow ?_ (by first | omega | (simp; done) | (refine Nat.le_trans ?_ (top_le _ _); simp; done) | (refine Nat.le_succ_of_le (Nat.le_trans ?_ (top_le _ _)); simp; done) | (refine Nat.le_trans ?_ (top_le _ _); simp only [World.size_alloc]; refine Nat.le_succ_of_le (Nat.le_trans ?_ (top_le _ _)); simp; done)) _))⟩
      · obtain ⟨e1, e2, e3⟩ := mv_add hv.out hw
        have kA := rAdd_any b.x b.y b.z v.x v.y v.z
        rw [e1, e2, e3, show b.x + v.x = mb.x by rw [hmb.out], show b.y + v.y = mb.y by rw [hmb.out], show b.z + v.z = mb.z by rw [hmb.out]] at kA
        rw [hw] at kq
        replace hw := Lib.hid hw
        clear e1 e2 e3
        go_upto_region 11 with (first | (go_at_call 19; first | ((with_reducible refine (kq.at_ _).mono ?_); rintro e w' ⟨rfl, xg, rfl⟩)) | fail)
        have hP4 := hPr.grow xg
        have hV4 := hVr.grow xg
        have hQ4 := hQr.grow xg
        have hB4 := bel_grow hBr xg
        clear hPr hVr hQr hBr c0 c1 c2 pl kq
        generalize grow wr xg = W4 at *
        have pl := hP4.lt
        have vl := hV4.lt
        have ql := hQ4.lt
        have c0 : W4.cell? ⟨w.heap.size, 3, none⟩ = some (.int .i64 b.x) := hP4.cell 3
        have c1 : W4.cell? ⟨w.heap.size, 4, none⟩ = some (.int .i64 b.y) := hP4.cell 4
        have c2 : W4.cell? ⟨w.heap.size, 5, none⟩ = some (.int .i64 b.z) := hP4.cell 5
        have v0 := hV4.cell 0
        have v1 := hV4.cell 1
        have v2 := hV4.cell 2
        refine wp_region_tail 7 ?_ (by kernel_rfl) (by kernel_rfl) (by kernel_rfl) (fun x => ?_) (fun x => ?_)
        rotate_left
        · simp only [List.take_succ_cons, List.take_zero]
          repeat (go_big_quiet_step (((first | with_reducible exact kA.quiet _ | with_reducible exact kA.quiet2 _ _))))
          refine wpQuiet_nil ?_
          exact rfl
        simp only [List.drop_succ_cons, List.drop_zero]
        try simp only [Act.put, List.setIfInBounds_toArray, List.set_cons_succ, List.set_cons_zero]
        have hP5 := hP4.grow x
        have hV5 := hV4.grow x
        have hQ5 := hQ4.grow x
        have hB5 := bel_grow hB4 x
        clear hP4 hV4 hQ4 hB4 c0 c1 c2 v0 v1 v2 pl vl ql kA
        generalize grow W4 x = W5 at *
        have ql := hQ5.lt
        have o0 := hQ5.cell 3
        have o1 := hQ5.cell 4
        have o2 := hQ5.cell 5
        have f0 := hQ5.frozen 3
        have f1 := hQ5.frozen 4
        have f2 := hQ5.frozen 5
        have hQ6 := ((hQ5.set 3 (.int .i64 mb.x)).set 4 (.int .i64 mb.y)).set 5 (.int .i64 mb.z)
        have hP6 := ((hP5.far (b := gq) 3 (.int .i64 mb.x) (by omega)).far (b := gq) 4 (.int .i64 mb.y) (by omega)).far (b := gq) 5 (.int .i64 mb.z) (by omega)
        have hV6 := ((hV5.far (b := gq) 3 (.int .i64 mb.x) (by omega)).far (b := gq) 4 (.int .i64 mb.y) (by omega)).far (b := gq) 5 (.int .i64 mb.z) (by omega)
        have hB6 : Below w.heap.size w (((W5.setCell ⟨gq, 3, none⟩ (.int .i64 mb.x)).setCell ⟨gq, 4, none⟩ (.int .i64 mb.y)).setCell ⟨gq, 5, none⟩ (.int .i64 mb.z)) := bel_set (bel_set (bel_set hB5 (p := ⟨gq, 3, none⟩) (by show _ ≤ gq; omega) _) (p := ⟨gq, 4, none⟩) (by show _ ≤ gq; omega) _) (p := ⟨gq, 5, none⟩) (by show _ ≤ gq; omega) _
        clear hQ5 hP5 hV5 hB5
        replace hQ6 := Lib.hid hQ6
        replace hP6 := Lib.hid hP6
        replace hV6 := Lib.hid hV6
        replace hB6 := Lib.hid hB6
        go_wp2
        go_roundw
        case rel => exact ⟨hB6.out, hP6.out, hV6.out, .inr (.inr (.inl ⟨rfl, w0.out, (by first | exact hw.out | trivial), hQ6.out⟩))⟩
        case measure => simp [intOf]
    · have pl := hPr.lt
      replace w0 := Lib.hid w0
      replace w1 := Lib.hid w1
      have c0 : wr.cell? ⟨w.heap.size, 6, none⟩ = some (.int .i64 c.x) := hPr.cell 6
      have c1 : wr.cell? ⟨w.heap.size, 7, none⟩ = some (.int .i64 c.y) := hPr.cell 7
      have c2 : wr.cell? ⟨w.heap.size, 8, none⟩ = some (.int .i64 c.z) := hPr.cell 8
      have kq := vWithin_any c.x c.y c.z 32768 (by omega)
      cases hw : wiB c.x c.y c.z 32768
      · rw [hw] at kq
        replace hw := trivial
        go_wp2_with (first | (go_at_call 19; first | ((with_reducible refine (kq.at_ _).mono ?_); rintro e w' ⟨rfl, xg, rfl⟩)) | fail)
        go_ret
        exact ⟨rfl, bel_trans hBr (by repeat (first | exact Below.refl _ _ | refine bel_then ?_ _ | refine bel_grow ?_ _ | refine bel_alloc ?_ _ | refine bel_drew ?_ | refine bel_set ?_ (by simp) _ | refine bel_setRow ?_ (by first | omega | (simp; done) | (refine Nat.le_trans ?_ (top_le _ _); simp; done) | (refine Nat.le_succ_of_le (Nat.le_trans ?_ (top_le _ _)); simp; done) | (refine Nat.le_trans ?_ (top_le _ _); simp only [World.size_alloc]; refine Nat.le_succ_of_le (Nat.le_trans ?_ (top_le _ _)); simp; done)) _))⟩
      · obtain ⟨e1, e2, e3⟩ := mv_add hv.out hw
        have kA := rAdd_any c.x c.y c.z v.x v.y v.z
        rw [e1, e2, e3, show c.x + v.x = mc.x by rw [hmc.out], show c.y + v.y = mc.y by rw [hmc.out], show c.z + v.z = mc.z by rw [hmc.out]] at kA
        rw [hw] at kq
        replace hw := Lib.hid hw
        clear e1 e2 e3
        go_upto_region 11 with (first | (go_at_call 19; first | ((with_reducible refine (kq.at_ _).mono ?_); rintro e w' ⟨rfl, xg, rfl⟩)) | fail)
        have hP4 := hPr.grow xg
        have hV4 := hVr.grow xg
        have hQ4 := hQr.grow xg
        have hB4 := bel_grow hBr xg
        clear hPr hVr hQr hBr c0 c1 c2 pl kq
        generalize grow wr xg = W4 at *
        have pl := hP4.lt
        have vl := hV4.lt
        have ql := hQ4.lt
        have c0 : W4.cell? ⟨w.heap.size, 6, none⟩ = some (.int .i64 c.x) := hP4.cell 6
        have c1 : W4.cell? ⟨w.heap.size, 7, none⟩ = some (.int .i64 c.y) := hP4.cell 7
        have c2 : W4.cell? ⟨w.heap.size, 8, none⟩ = some (.int .i64 c.z) := hP4.cell 8
        have v0 := hV4.cell 0
        have v1 := hV4.cell 1
        have v2 := hV4.cell 2
        refine wp_region_tail 7 ?_ (by kernel_rfl) (by kernel_rfl) (by kernel_rfl) (fun x => ?_) (fun x => ?_)
        rotate_left
        · simp only [List.take_succ_cons, List.take_zero]
          repeat (go_big_quiet_step (((first | with_reducible exact kA.quiet _ | with_reducible exact kA.quiet2 _ _))))
          refine wpQuiet_nil ?_
          exact rfl
        simp only [List.drop_succ_cons, List.drop_zero]
        try simp only [Act.put, List.setIfInBounds_toArray, List.set_cons_succ, List.set_cons_zero]
        have hP5 := hP4.grow x
        have hV5 := hV4.grow x
        have hQ5 := hQ4.grow x
        have hB5 := bel_grow hB4 x
        clear hP4 hV4 hQ4 hB4 c0 c1 c2 v0 v1 v2 pl vl ql kA
        generalize grow W4 x = W5 at *
        have ql := hQ5.lt
        have o0 := hQ5.cell 6
        have o1 := hQ5.cell 7
        have o2 := hQ5.cell 8
        have f0 := hQ5.frozen 6
        have f1 := hQ5.frozen 7
        have f2 := hQ5.frozen 8
        have hQ6 := ((hQ5.set 6 (.int .i64 mc.x)).set 7 (.int .i64 mc.y)).set 8 (.int .i64 mc.z)
        have hP6 := ((hP5.far (b := gq) 6 (.int .i64 mc.x) (by omega)).far (b := gq) 7 (.int .i64 mc.y) (by omega)).far (b := gq) 8 (.int .i64 mc.z) (by omega)
        have hV6 := ((hV5.far (b := gq) 6 (.int .i64 mc.x) (by omega)).far (b := gq) 7 (.int .i64 mc.y) (by omega)).far (b := gq) 8 (.int .i64 mc.z) (by omega)
        have hB6 : Below w.heap.size w (((W5.setCell ⟨gq, 6, none⟩ (.int .i64 mc.x)).setCell ⟨gq, 7, none⟩ (.int .i64 mc.y)).setCell ⟨gq, 8, none⟩ (.int .i64 mc.z)) := bel_set (bel_set (bel_set hB5 (p := ⟨gq, 6, none⟩) (by show _ ≤ gq; omega) _) (p := ⟨gq, 7, none⟩) (by show _ ≤ gq; omega) _) (p := ⟨gq, 8, none⟩) (by show _ ≤ gq; omega) _
        clear hQ5 hP5 hV5 hB5
        replace hQ6 := Lib.hid hQ6
        replace hP6 := Lib.hid hP6
        replace hV6 := Lib.hid hV6
        replace hB6 := Lib.hid hB6
        go_wp2
        go_roundw
        case rel => exact ⟨hB6.out, hP6.out, hV6.out, .inr (.inr (.inr (.inl ⟨rfl, w0.out, w1.out, (by first | exact hw.out | trivial), hQ6.out⟩)))⟩
        case measure => simp [intOf]
    · have pl := hPr.lt
      replace w0 := Lib.hid w0
      replace w1 := Lib.hid w1
      replace w2 := Lib.hid w2
      have c0 : wr.cell? ⟨w.heap.size, 9, none⟩ = some (.int .i64 d.x) := hPr.cell 9
      have c1 : wr.cell? ⟨w.heap.size, 10, none⟩ = some (.int .i64 d.y) := hPr.cell 10
      have c2 : wr.cell? ⟨w.heap.size, 11, none⟩ = some (.int .i64 d.z) := hPr.cell 11
      have kq := vWithin_any d.x d.y d.z 32768 (by omega)
      cases hw : wiB d.x d.y d.z 32768
      · rw [hw] at kq
        replace hw := trivial
        go_wp2_with (first | (go_at_call 19; first | ((with_reducible refine (kq.at_ _).mono ?_); rintro e w' ⟨rfl, xg, rfl⟩)) | fail)
        go_ret
        exact ⟨rfl, bel_trans hBr (by repeat (first | exact Below.refl _ _ | refine bel_then ?_ _ | refine bel_grow ?_ _ | refine bel_alloc ?_ _ | refine bel_drew ?_ | refine bel_set ?_ (by simp) _ | refine bel_setRow ?_ (by first | omega | (simp; done) | (refine Nat.le_trans ?_ (top_le _ _); simp; done) | (refine Nat.le_succ_of_le (Nat.le_trans ?_ (top_le _ _)); simp; done) | (refine Nat.le_trans ?_ (top_le _ _); simp only [World.size_alloc]; refine Nat.le_succ_of_le (Nat.le_trans ?_ (top_le _ _)); simp; done)) _))⟩
      · obtain ⟨e1, e2, e3⟩ := mv_add hv.out hw
        have kA := rAdd_any d.x d.y d.z v.x v.y v.z
        rw [e1, e2, e3, show d.x + v.x = md.x by rw [hmd.out], show d.y + v.y = md.y by rw [hmd.out], show d.z + v.z = md.z by rw [hmd.out]] at kA
        rw [hw] at kq
        replace hw := Lib.hid hw
        clear e1 e2 e3
        go_upto_region 11 with (first | (go_at_call 19; first | ((with_reducible refine (kq.at_ _).mono ?_); rintro e w' ⟨rfl, xg, rfl⟩)) | fail)
        have hP4 := hPr.grow xg
        have hV4 := hVr.grow xg
        have hQ4 := hQr.grow xg
        have hB4 := bel_grow hBr xg
        clear hPr hVr hQr hBr c0 c1 c2 pl kq
        generalize grow wr xg = W4 at *
        have pl := hP4.lt
        have vl := hV4.lt
        have ql := hQ4.lt
        have c0 : W4.cell? ⟨w.heap.size, 9, none⟩ = some (.int .i64 d.x) := hP4.cell 9
        have c1 : W4.cell? ⟨w.heap.size, 10, none⟩ = some (.int .i64 d.y) := hP4.cell 10
        have c2 : W4.cell? ⟨w.heap.size, 11, none⟩ = some (.int .i64 d.z) := hP4.cell 11
        have v0 := hV4.cell 0
        have v1 := hV4.cell 1
        have v2 := hV4.cell 2
        refine wp_region_tail 7 ?_ (by kernel_rfl) (by kernel_rfl) (by kernel_rfl) (fun x => ?_) (fun x => ?_)
        rotate_left
        · simp only [List.take_succ_cons, List.take_zero]
          repeat (go_big_quiet_step (((first | with_reducible exact kA.quiet _ | with_reducible exact kA.quiet2 _ _))))
          refine wpQuiet_nil ?_
          exact rfl
        simp only [List.drop_succ_cons, List.drop_zero]
        try simp only [Act.put, List.setIfInBounds_toArray, List.set_cons_succ, List.set_cons_zero]
        have hP5 := hP4.grow x
        have hV5 := hV4.grow x
        have hQ5 := hQ4.grow x
        have hB5 := bel_grow hB4 x
        clear hP4 hV4 hQ4 hB4 c0 c1 c2 v0 v1 v2 pl vl ql kA
        generalize grow W4 x = W5 at *
        have ql := hQ5.lt
        have o0 := hQ5.cell 9
        have o1 := hQ5.cell 10
        have o2 := hQ5.cell 11
        have f0 := hQ5.frozen 9
        have f1 := hQ5.frozen 10
        have f2 := hQ5.frozen 11
        have hQ6 := ((hQ5.set 9 (.int .i64 md.x)).set 10 (.int .i64 md.y)).set 11 (.int .i64 md.z)
        have hP6 := ((hP5.far (b := gq) 9 (.int .i64 md.x) (by omega)).far (b := gq) 10 (.int .i64 md.y) (by omega)).far (b := gq) 11 (.int .i64 md.z) (by omega)
        have hV6 := ((hV5.far (b := gq) 9 (.int .i64 md.x) (by omega)).far (b := gq) 10 (.int .i64 md.y) (by omega)).far (b := gq) 11 (.int .i64 md.z) (by omega)
        have hB6 : Below w.heap.size w (((W5.setCell ⟨gq, 9, none⟩ (.int .i64 md.x)).setCell ⟨gq, 10, none⟩ (.int .i64 md.y)).setCell ⟨gq, 11, none⟩ (.int .i64 md.z)) := bel_set (bel_set (bel_set hB5 (p := ⟨gq, 9, none⟩) (by show _ ≤ gq; omega) _) (p := ⟨gq, 10, none⟩) (by show _ ≤ gq; omega) _) (p := ⟨gq, 11, none⟩) (by show _ ≤ gq; omega) _
        clear hQ5 hP5 hV5 hB5
        replace hQ6 := Lib.hid hQ6
        replace hP6 := Lib.hid hP6
        replace hV6 := Lib.hid hV6
        replace hB6 := Lib.hid hB6
        go_wp2
        go_roundw
        case rel => exact ⟨hB6.out, hP6.out, hV6.out, .inr (.inr (.inr (.inr ⟨rfl, ⟨w0.out, w1.out, w2.out, (by first | exact hw.out | trivial)⟩, hQ6.out⟩)))⟩
        case measure => simp [intOf]
    · have k1 : Gives Try.prog 11 #[.agg #[.int .i64 (a).x, .int .i64 (a).y, .int .i64 (a).z, .int .i64 (b).x, .int .i64 (b).y, .int .i64 (b).z, .int .i64 (c).x, .int .i64 (c).y, .int .i64 (c).z, .int .i64 (d).x, .int .i64 (d).y, .int .i64 (d).z], .int .i64 i, .int .i64 n] (.tuple #[.agg #[.int .i64 (cubP (pr4 a b c d) i n).x, .int .i64 (cubP (pr4 a b c d) i n).y, .int .i64 (cubP (pr4 a b c d) i n).z], .bool (cubK (pr4 a b c d) i n)]) := cub_any (pr4 a b c d) i n
      have e0 : mvF (pr4 a b c d) v 0 = ma ∧ mvF (pr4 a b c d) v 1 = mb ∧ mvF (pr4 a b c d) v 2 = mc ∧ mvF (pr4 a b c d) v 3 = md := ⟨hma.out.symm, hmb.out.symm, hmc.out.symm, hmd.out.symm⟩
      have k2 := cub_any (mvF (pr4 a b c d) v) i n
      rw [ptsC4, e0.1, e0.2.1, e0.2.2.1, e0.2.2.2] at k2
      have k3 : Gives Try.prog 11 #[.agg #[.int .i64 (v).x, .int .i64 (v).y, .int .i64 (v).z, .int .i64 (v).x, .int .i64 (v).y, .int .i64 (v).z, .int .i64 (v).x, .int .i64 (v).y, .int .i64 (v).z, .int .i64 (v).x, .int .i64 (v).y, .int .i64 (v).z], .int .i64 i, .int .i64 n] (.tuple #[.agg #[.int .i64 (cubP (fun _ => v) i n).x, .int .i64 (cubP (fun _ => v) i n).y, .int .i64 (cubP (fun _ => v) i n).z], .bool (cubK (fun _ => v) i n)]) := cub_any (fun _ => v) i n
      have hF := mv_fin (p := pr4 a b c d) (i := i) (n := n) hv.out (fun k hk => by
        rcases (by omega : k = 0 ∨ k = 1 ∨ k = 2 ∨ k = 3) with rfl | rfl | rfl | rfl
        · exact w0
        · exact w1
        · exact w2
        · exact w3)
      generalize cubP (pr4 a b c d) i n = A at *
      generalize cubK (pr4 a b c d) i n = ka at *
      generalize cubP (mvF (pr4 a b c d) v) i n = B at *
      generalize cubK (mvF (pr4 a b c d) v) i n = kb at *
      generalize cubP (fun _ => v) i n = C at *
      generalize cubK (fun _ => v) i n = kc at *
      replace hF := Lib.hid hF
      clear w0 w1 w2 w3 e0
      go_upto_region 12 with (fail)
      have c0 := hPr.cell 0
      have c1 := hPr.cell 1
      have c2 := hPr.cell 2
      have c3 := hPr.cell 3
      have c4 := hPr.cell 4
      have c5 := hPr.cell 5
      have c6 := hPr.cell 6
      have c7 := hPr.cell 7
      have c8 := hPr.cell 8
      have c9 := hPr.cell 9
      have c10 := hPr.cell 10
      have c11 := hPr.cell 11
      have pl := hPr.lt
      go_upto_region 13 with (first | (go_at_call 11; first | ((with_reducible refine (k1.at_ _).mono ?_); rintro e w' ⟨rfl, xg, rfl⟩)) | fail)
      have ha4 : Blk ((grow wr xg).alloc (.cells #[.int .i64 A.x, .int .i64 A.y, .int .i64 A.z] 23)) (grow wr xg).heap.size 23 #[.int .i64 A.x, .int .i64 A.y, .int .i64 A.z] := Blk.new _ _ _ _ rfl
      have hV4 := (hVr.grow xg).alloc (.cells #[.int .i64 A.x, .int .i64 A.y, .int .i64 A.z] 23)
      have hQ4 := (hQr.grow xg).alloc (.cells #[.int .i64 A.x, .int .i64 A.y, .int .i64 A.z] 23)
      have hB4 : Below w.heap.size w ((grow wr xg).alloc (.cells #[.int .i64 A.x, .int .i64 A.y, .int .i64 A.z] 23)) := bel_alloc (bel_grow hBr xg) _
      clear hPr hVr hQr hBr c0 c1 c2 c3 c4 c5 c6 c7 c8 c9 c10 c11 k1 pl
      generalize (grow wr xg).alloc (.cells #[.int .i64 A.x, .int .i64 A.y, .int .i64 A.z] 23) = W4 at *
      generalize (grow wr xg).heap.size = g1 at *
      have c0 := hQ4.cell 0
      have c1 := hQ4.cell 1
      have c2 := hQ4.cell 2
      have c3 := hQ4.cell 3
      have c4 := hQ4.cell 4
      have c5 := hQ4.cell 5
      have c6 := hQ4.cell 6
      have c7 := hQ4.cell 7
      have c8 := hQ4.cell 8
      have c9 := hQ4.cell 9
      have c10 := hQ4.cell 10
      have c11 := hQ4.cell 11
      have pl := hQ4.lt
      go_upto_region 14 with (first | (go_at_call 11; first | ((with_reducible refine (k2.at_ _).mono ?_); rintro e w' ⟨rfl, xg, rfl⟩)) | fail)
      have hb5 : Blk ((grow W4 xg).alloc (.cells #[.int .i64 B.x, .int .i64 B.y, .int .i64 B.z] 23)) (grow W4 xg).heap.size 23 #[.int .i64 B.x, .int .i64 B.y, .int .i64 B.z] := Blk.new _ _ _ _ rfl
      have ha5 := (ha4.grow xg).alloc (.cells #[.int .i64 B.x, .int .i64 B.y, .int .i64 B.z] 23)
      have hV5 := (hV4.grow xg).alloc (.cells #[.int .i64 B.x, .int .i64 B.y, .int .i64 B.z] 23)
      have hB5 : Below w.heap.size w ((grow W4 xg).alloc (.cells #[.int .i64 B.x, .int .i64 B.y, .int .i64 B.z] 23)) := bel_alloc (bel_grow hB4 xg) _
      clear hQ4 hV4 ha4 hB4 c0 c1 c2 c3 c4 c5 c6 c7 c8 c9 c10 c11 k2 pl
      generalize (grow W4 xg).alloc (.cells #[.int .i64 B.x, .int .i64 B.y, .int .i64 B.z] 23) = W5 at *
      generalize (grow W4 xg).heap.size = g2 at *
      have v0 := hV5.cell 0
      have v1 := hV5.cell 1
      have v2 := hV5.cell 2
      have vl := hV5.lt
      go_upto_region 15 with (first | (go_at_call 11; first | ((with_reducible refine (k3.at_ _).mono ?_); rintro e w' ⟨rfl, xg, rfl⟩)) | fail)
      have hc6 : Blk ((grow W5 xg).alloc (.cells #[.int .i64 C.x, .int .i64 C.y, .int .i64 C.z] 23)) (grow W5 xg).heap.size 23 #[.int .i64 C.x, .int .i64 C.y, .int .i64 C.z] := Blk.new _ _ _ _ rfl
      have ha6 := (ha5.grow xg).alloc (.cells #[.int .i64 C.x, .int .i64 C.y, .int .i64 C.z] 23)
      have hb6 := (hb5.grow xg).alloc (.cells #[.int .i64 C.x, .int .i64 C.y, .int .i64 C.z] 23)
      have hV6 := (hV5.grow xg).alloc (.cells #[.int .i64 C.x, .int .i64 C.y, .int .i64 C.z] 23)
      have hB6 : Below w.heap.size w ((grow W5 xg).alloc (.cells #[.int .i64 C.x, .int .i64 C.y, .int .i64 C.z] 23)) := bel_alloc (bel_grow hB5 xg) _
      clear hV5 ha5 hb5 hB5 v0 v1 v2 vl k3
      generalize (grow W5 xg).alloc (.cells #[.int .i64 C.x, .int .i64 C.y, .int .i64 C.z] 23) = W6 at *
      generalize (grow W5 xg).heap.size = g3 at *
      have v0 := hV6.cell 0
      have v1 := hV6.cell 1
      have v2 := hV6.cell 2
      have vl := hV6.lt
      have kA := rAdd_any A.x A.y A.z v.x v.y v.z
      rcases hF.out with ⟨rfl, rfl, rfl⟩ | ⟨rfl, rfl, rfl, ⟨e1, e2, e3⟩, rfl⟩
      · clear kA
        go_wp2
        go_ret
        exact ⟨rfl, hB6⟩
      · rw [e1, e2, e3] at kA
        clear e1 e2 e3
        have xa0 := ha6.cell 0
        have xa1 := ha6.cell 1
        have xa2 := ha6.cell 2
        have xb0 := hb6.cell 0
        have xb1 := hb6.cell 1
        have xb2 := hb6.cell 2
        have xc0 := hc6.cell 0
        have xc1 := hc6.cell 1
        have xc2 := hc6.cell 2
        have la := ha6.lt
        have lb := hb6.lt
        have lc := hc6.lt
        go_upto_region 17 with (fail)
        refine wp_region_grow (by kernel_rfl) (by kernel_rfl) ?_
        repeat (go_big_quiet_step (((first | with_reducible exact kA.quiet _ | with_reducible exact kA.quiet2 _ _))))
        refine wpQuiet_nil ?_
        rintro _ ⟨xr, rfl⟩
        go_wp2
        go_ret
        exact ⟨rfl, bel_trans hB6 (by repeat (first | exact Below.refl _ _ | refine bel_then ?_ _ | refine bel_grow ?_ _ | refine bel_alloc ?_ _ | refine bel_drew ?_ | refine bel_set ?_ (by simp) _ | refine bel_setRow ?_ (by first | omega | (simp; done) | (refine Nat.le_trans ?_ (top_le _ _); simp; done) | (refine Nat.le_succ_of_le (Nat.le_trans ?_ (top_le _ _)); simp; done) | (refine Nat.le_trans ?_ (top_le _ _); simp only [World.size_alloc]; refine Nat.le_succ_of_le (Nat.le_trans ?_ (top_le _ _)); simp; done)) _))⟩

theorem own : ownKnob Try.prog.godebug = none := by kernel_rfl
set_option maxRecDepth 100000 in
theorem lifted (os : Os) (started : os.Started) (H : Type) (enc : TypeId × Value → H) :
    ReturnsInHanded {} Try.checked os 7 .any (Rows.curveMovedSpec.pre6 enc Try.prog Try.f7 Rows.curveMovedRow.domain false) (Rows.curveMovedSpec.post enc Try.prog Try.f7 false true false false) := by
  refine returnsInHanded_of_change (C := Try.checked) own started (by kernel_rfl) Try.func7
    (ChangeSpec.witness6 (enc := enc) (C := Try.checked) false ⟨#[], #[.agg #[.int .i64 0, .int .i64 0, .int .i64 0, .int .i64 0, .int .i64 0, .int .i64 0, .int .i64 0, .int .i64 0, .int .i64 0, .int .i64 0, .int .i64 0, .int .i64 0], .agg #[.int .i64 0, .int .i64 0, .int .i64 0], .int .i64 0, .int .i64 0], []⟩ 12 (by kernel_rfl) (by kernel_rfl) (by kernel_rfl) (by kernel_rfl)) ?_
  intro W base args ds gs before hval0 hW hcnd _
  have hval : ∀ (j : Nat) t v, Try.f7.params[j]? = some t → args[j]? = some v → Value.okWide Try.prog W .any base t v := hval0
  have hW' := hW
  obtain ⟨p, q, hA0, hV, rfl, hfz, hnd⟩ := hW
  have hA : DataW.TrodAll enc Try.prog W 0 (fun _ => true) true Try.f7.params.toList args.toList ds p := hA0
  rw [Try.params7] at hA hval
  obtain ⟨v0, vs0, d0, ds0, p0, q0, hargs, rfl, rfl, h0, r0⟩ := trodAll_cons hA
  obtain ⟨v1, vs1, d1, ds1, p1, q1, rfl, rfl, rfl, h1, r1⟩ := trodAll_cons r0
  obtain ⟨v2, vs2, d2, ds2, p2, q2, rfl, rfl, rfl, h2, r2⟩ := trodAll_cons r1
  obtain ⟨v3, vs3, d3, ds3, p3, q3, rfl, rfl, rfl, h3, r3⟩ := trodAll_cons r2
  obtain ⟨rfl, rfl, rfl⟩ := trodAll_nil r3
  obtain rfl : args = #[v0, v1, v2, v3] := by cases args; simp_all
  obtain ⟨p0, rfl, k0⟩ := open_A4 (hval 0 26 v0 rfl rfl) h0
  obtain ⟨a1, rfl, k1⟩ := open_V3 (hval 1 23 v1 rfl rfl) h1
  obtain ⟨a2, rfl, b2⟩ := open_int64 (hval 2 3 v2 rfl rfl) h2
  obtain ⟨a3, rfl, b3⟩ := open_int64 (hval 3 3 v3 rfl rfl) h3
  refine (walk W p0 k0 a1 k1 a2 b2 a3 b3).mono fun e W' ⟨he, hb⟩ => ?_
  subst he
  exact ⟨_, rfl, law_post (tb := 4) (by kernel_rfl) (by kernel_rfl) rfl rfl Try.underlying4 rfl rfl rfl hW' hb⟩

theorem over : Rows.curveMovedRow.holds Try.pinned (OpenSpec.ofChange Rows.curveMovedSpec) :=
  OpenClaim.holds_of_wide 7 Try.f7 rfl rfl rfl rfl rfl rfl rfl ⟨rfl, rfl, rfl, rfl, rfl⟩ rfl rfl rfl rfl rfl (by kernel_rfl) Try.func7 (by kernel_rfl)
    (of_decide_eq_true (by kernel_rfl)) (by unfold Func.isWrapper; first | (rw [if_pos (by decide +kernel)]; kernel_rfl) | (rw [if_neg (by decide +kernel)]; exact ⟨rfl, rfl⟩))
    (fun os started H enc _ => lifted os started H enc)

theorem proved : Rows.CurveMovedSaid :=
  over
#print axioms proved
end Go.Proofs.Ytiaikceoodeboab.curveMoved
