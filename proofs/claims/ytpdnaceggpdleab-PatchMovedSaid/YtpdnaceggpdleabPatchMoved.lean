/- PatchMoved holds for every input: the row, out of the walk. No condition. -/
import Derived.SizedLaws
import Derived.Test.YtpdnaceggpdleabRows
import Derived.Test.YtpdnaceggpdleabPatKM
import Derived.Test.YtpdnaceggpdleabC2
import Derived.Test.YtpdnaceggpdleabC8
import Derived.Test.YtpdnaceggpdleabC13
namespace Go.Proofs.Ytpdnaceggpdleab.patchMoved
open Go.ChangeShapes Go.WideShapes Go.ChangeAt Go.RowKit
set_option linter.unusedVariables false
set_option linter.unusedSimpArgs false
set_option linter.unnecessarySimpa false
set_option maxRecDepth 100000
set_option maxHeartbeats 8000000 in
theorem walk (W : World) (c : Cg) (A1 A2 A3 : Option Addr) (k1 k2 k3 : Nat) (hc : RawC W c A1 A2 A3) (b : P3) (hb3 : I3 b) :
    Calls Try.prog 4 #[.agg #[.slice A1 c.vs.length k1, .slice A2 c.fs.length k2, .slice A3 c.ks.length k3], .agg #[.int .i64 b.x, .int .i64 b.y, .int .i64 b.z]] W fun e W' => e = .returned (.bool true) ∧ Below W.heap.size W W' := by
  obtain ⟨vs, fs, ks⟩ := c
  obtain ⟨l1, l2, l3, i1, i2, i3, v1, v2, v3⟩ := hc
  simp only at l1 l2 l3 i1 i2 i3 v1 v2 v3 ⊢
  obtain ⟨hx, hi⟩ := row_lens i2
  rw [reach_num] at l1 l2 l3
  have hCg : ∀ (hf : vs.length + ks.length + fs.length + tot fs ≤ 300) (W1 : World), Below W.heap.size W W1 → CgV W1 ⟨vs, fs, ks⟩ A1 A2 A3 := fun hf W1 hb => ⟨i1, hi, i3, v1.below hb, v2.below hb, v3.below hb, by simp only; omega⟩
  have cQ := fun (W1 : World) (hb : Below W.heap.size W W1) => quads_any W1 vs fs ks A1 A2 A3 k1 k2 k3 (by omega) (by omega) (by omega) hx (v2.below hb) (fun hf => hCg hf W1 hb)
  have kW := vWithin_any b.x b.y b.z 16384 (by omega)
  have hb0 : Below W.heap.size W ((W.alloc (.cells #[.slice A1 vs.length k1, .slice A2 fs.length k2, .slice A3 ks.length k3] 27)).alloc (.cells #[.int .i64 b.x, .int .i64 b.y, .int .i64 b.z] 30)) := bel_alloc (bel_alloc (Below.refl _ _) _) _
  have hC0 : Blk ((W.alloc (.cells #[.slice A1 vs.length k1, .slice A2 fs.length k2, .slice A3 ks.length k3] 27)).alloc (.cells #[.int .i64 b.x, .int .i64 b.y, .int .i64 b.z] 30)) W.heap.size 27 #[.slice A1 vs.length k1, .slice A2 fs.length k2, .slice A3 ks.length k3] := (Blk.new _ _ _ _ rfl).alloc _
  have hY0 : Blk ((W.alloc (.cells #[.slice A1 vs.length k1, .slice A2 fs.length k2, .slice A3 ks.length k3] 27)).alloc (.cells #[.int .i64 b.x, .int .i64 b.y, .int .i64 b.z] 30)) (W.heap.size + 1) 30 #[.int .i64 b.x, .int .i64 b.y, .int .i64 b.z] := Blk.new _ _ _ _ (by simp)
  go_enter Try.func4, Try.ntmps4
  go_upto_region 1 with (fail)
  generalize (W.alloc (.cells #[.slice A1 vs.length k1, .slice A2 fs.length k2, .slice A3 ks.length k3] 27)).alloc (.cells #[.int .i64 b.x, .int .i64 b.y, .int .i64 b.z] 30) = W0 at *
  go_upto_region 3 with (first | (go_at_call 5; (with_reducible refine (alive10_any _).mono ?_); rintro e W1 ⟨rfl, hb1⟩) | fail)
  have hB1 := bel_trans hb0 hb1
  have hC1 := hC0.below hb1
  have hY1 := hY0.below hb1
  have x0 : W1.cell? ⟨W.heap.size, 0, none⟩ = some (.slice A1 vs.length k1) := hC1.cell 0
  have x1 : W1.cell? ⟨W.heap.size, 1, none⟩ = some (.slice A2 fs.length k2) := hC1.cell 1
  have x2 : W1.cell? ⟨W.heap.size, 2, none⟩ = some (.slice A3 ks.length k3) := hC1.cell 2
  have xl := hC1.lt
  have cQ1 := cQ W1 hB1
  clear hb0 hC0 hY0 hb1 cQ hCg hx hi v1 v2 v3 i1 i2 i3 l1 l2 l3
  go_upto_region 4 with (first | (go_at_call 11; (with_reducible refine cQ1.mono ?_); rintro e W2 ⟨r, R1, R2, R3, c1, c2, c3, ok, rfl, hb2, hr1, hr2, hr3, hok⟩; replace hok := Lib.hid hok) | fail)
  obtain ⟨rv, rf, rk⟩ := r
  simp only at *
  have hB2 := bel_trans hB1 hb2
  have hT3 : Blk (W2.alloc (.cells #[.slice R1 rv.length c1, .slice R2 rf.length c2, .slice R3 rk.length c3] 27)) W2.heap.size 27 #[.slice R1 rv.length c1, .slice R2 rf.length c2, .slice R3 rk.length c3] := Blk.new _ _ _ _ rfl
  have h23 : Below W2.heap.size W2 (W2.alloc (.cells #[.slice R1 rv.length c1, .slice R2 rf.length c2, .slice R3 rk.length c3] 27)) := bel_alloc (Below.refl _ _) _
  have hv3 := hr1.below h23
  have hf3 := hr2.below h23
  have hk3 := hr3.below h23
  have hB3 := bel_trans hB2 h23
  have hY3 := (hY1.below hb2).below h23
  clear hr1 hr2 hr3 h23 hB2 x0 x1 x2 xl cQ1 hC1 hB1 hb2 hY1
  generalize W2.alloc (.cells #[.slice R1 rv.length c1, .slice R2 rf.length c2, .slice R3 rk.length c3] 27) = W3 at *
  generalize W2.heap.size = T at *
  have y0 : W3.cell? ⟨W.heap.size + 1, 0, none⟩ = some (.int .i64 b.x) := hY3.cell 0
  have y1 : W3.cell? ⟨W.heap.size + 1, 1, none⟩ = some (.int .i64 b.y) := hY3.cell 1
  have y2 : W3.cell? ⟨W.heap.size + 1, 2, none⟩ = some (.int .i64 b.z) := hY3.cell 2
  have yl := hY3.lt
  cases ok with
  | false =>
    go_wp2
    go_ret
    exact ⟨rfl, hB3⟩
  | true =>
  obtain ⟨fo, hcap⟩ := hok.out rfl
  obtain ⟨wb, hwbe⟩ : ∃ wb, wiB b.x b.y b.z 16384 = wb := ⟨_, rfl⟩
  rw [hwbe] at kW
  replace hwbe := Lib.hid hwbe
  cases wb with
  | false =>
    clear fo hok
    go_wp2_with (first | (go_at_call 6; (with_reducible refine (kW.at_ _).mono ?_); rintro e w' ⟨rfl, xg, rfl⟩))
    go_ret
    exact ⟨rfl, bel_grow hB3 xg⟩
  | true =>
  have few := fo.few
  simp only at few
  replace fo := Lib.hid fo
  go_upto_region 6 with (first | (go_at_call 6; (with_reducible refine (kW.at_ _).mono ?_); rintro e w' ⟨rfl, xg, rfl⟩) | fail)
  have hB4 := bel_grow hB3 xg
  have hT4 := hT3.grow xg
  have hY4 := hY3.grow xg
  have hv4 := hv3.below (bel_grow (Below.refl _ W3) xg)
  have hf4 := hf3.below (bel_grow (Below.refl _ W3) xg)
  have hk4 := hk3.below (bel_grow (Below.refl _ W3) xg)
  clear hB3 hT3 hY3 hv3 hf3 hk3 y0 y1 y2 yl kW hok hcap
  generalize grow W3 xg = W4 at *
  have cC := copyCW_any W4 R1 R2 R3 c1 c2 c3 rv rf rk hv4 hf4 hk4 (by omega) (by omega) (by omega) (fun x hx1 => by have := fo.out.four x hx1; omega)
  have x0 : W4.cell? ⟨T, 0, none⟩ = some (.slice R1 rv.length c1) := hT4.cell 0
  have x1 : W4.cell? ⟨T, 1, none⟩ = some (.slice R2 rf.length c2) := hT4.cell 1
  have x2 : W4.cell? ⟨T, 2, none⟩ = some (.slice R3 rk.length c3) := hT4.cell 2
  have xl := hT4.lt
  go_upto_region 7 with (first | (go_at_call 12; (with_reducible refine cC.mono ?_); rintro e W5 ⟨B1, B2, B3, d1, d2, d3, rfl, hb5', r1, g1, q1⟩) | fail)
  have hM6 : Blk (W5.alloc (.cells #[.slice B1 rv.length d1, .slice B2 rf.length d2, .slice B3 rk.length d3] 27)) W5.heap.size 27 #[.slice B1 rv.length d1, .slice B2 rf.length d2, .slice B3 rk.length d3] := Blk.new _ _ _ _ rfl
  have hba : Below W5.heap.size W5 (W5.alloc (.cells #[.slice B1 rv.length d1, .slice B2 rf.length d2, .slice B3 rk.length d3] 27)) := bel_alloc (Below.refl _ _) _
  have hK : KM b W5.heap.size B1 B2 B3 d1 d2 d3 rv rf rk W4 0 (W5.alloc (.cells #[.slice B1 rv.length d1, .slice B2 rf.length d2, .slice B3 rk.length d3] 27)) :=
    ⟨bel_alloc hb5' _, hM6, by rw [rowAt_zero]; exact own_lay r1 hba, g1.lay hba, own_lay q1 hba⟩
  clear x0 x1 x2 xl cC hb5' hba hM6 r1 g1 q1
  generalize W5.alloc (.cells #[.slice B1 rv.length d1, .slice B2 rf.length d2, .slice B3 rk.length d3] 27) = W6 at *
  generalize W5.heap.size = M at *
  have hbb := (wiB_iff b.x b.y b.z 16384).1 hwbe.out
  have hs4 := hB4.size
  have ht4 := hT4.lt
  have hy4 := hY4.lt
  go_wp2
  go_loopw [8] (fun iv wr => ∃ i : Nat, iv = .int .i64 (i : Int) ∧ i ≤ rv.length ∧ Hid (∀ j (hj : j < rv.length), j < i → InP 32768 rv[j]) ∧ KM b M B1 B2 B3 d1 d2 d3 rv rf rk W4 i wr) (fun iv _ => rv.length - (intOf iv).toNat)
  case atStart => exact ⟨0, rfl, by omega, Lib.hid (fun j _ h => by omega), hK⟩
  case round =>
    obtain ⟨i, rfl, hi1, hin, hK⟩ := hrel
    rename World => wr
    have hTr := hT4.below hK.bel
    have hYr := hY4.below hK.bel
    have hBr := bel_trans hB4 hK.bel
    have x0 : wr.cell? ⟨T, 0, none⟩ = some (.slice R1 rv.length c1) := hTr.cell 0
    have xl := hTr.lt
    by_cases hlt : i < rv.length
    · obtain ⟨ba, oa, rfl, hba, a0, a1, a2⟩ := (hv4.below hK.bel).at_ i hlt
      obtain ⟨p, hp⟩ : ∃ p, rv[i] = p := ⟨_, rfl⟩
      rw [hp] at a0 a1 a2
      obtain ⟨wb, hwb⟩ : ∃ wb, wiB p.x p.y p.z 32768 = wb := ⟨_, rfl⟩
      have kV := vWithin_any p.x p.y p.z 32768 (by omega)
      rw [hwb] at kV
      have q0 : (0 : Int) ≤ (i : Int) := by omega
      have q1i : (i : Int) < (rv.length : Int) := by omega
      replace hp := Lib.hid hp
      replace hwb := Lib.hid hwb
      cases wb with
      | false =>
        clear hK
        go_wp2_with (first | (go_at_call 6; ((with_reducible refine (kV.at_ _).mono ?_); rintro e w' ⟨rfl, xg, rfl⟩)))
        go_ret
        exact ⟨rfl, bel_grow hBr xg⟩
      | true =>
        have hpb := (wiB_iff p.x p.y p.z 32768).1 hwb.out
        go_upto_region 12 with (first | (go_at_call 6; ((with_reducible refine (kV.at_ _).mono ?_); rintro e w' ⟨rfl, xg, rfl⟩)) | fail)
        have hlay := bel_grow (Below.refl wr.heap.size wr) xg
        have hK2 := hK.lay hlay
        have hT2 := hTr.below hlay
        have hY2 := hYr.below hlay
        have h2v := hv4.below hK2.bel
        clear x0 xl a0 a1 a2 hba hK hBr kV hTr hYr hlay
        generalize grow wr xg = w2 at *
        obtain ⟨ba', oa', e9, hba, a0, a1, a2⟩ := h2v.at_ i hlt
        simp only [Option.some.injEq, Addr.mk.injEq, and_true] at e9
        obtain ⟨rfl, rfl⟩ := e9
        rw [hp.out] at a0 a1 a2
        obtain ⟨g, rfl, hgl, _, hgc⟩ := own_cell hK2.r1 (by omega)
        obtain ⟨u1, u2, u3⟩ := kC_at (rowAt (movP b) i rv) i (by rw [rowAt_len]; exact hlt)
        rw [rowAt_at _ _ _ hlt, hp.out] at u1 u2 u3
        have m0 := (hgc (i * 3) (by omega)).trans u1
        have m1 := (hgc (i * 3 + 1) (by omega)).trans u2
        have m2 := (hgc (i * 3 + 2) (by omega)).trans u3
        have z0 : w2.cell? ⟨M, 0, none⟩ = some (.slice (some ⟨g, 0, none⟩) rv.length d1) := hK2.m.cell 0
        have zl := hK2.m.lt
        have x0 : w2.cell? ⟨T, 0, none⟩ = some (.slice (some ⟨ba, oa, none⟩) rv.length c1) := hT2.cell 0
        have xl := hT2.lt
        have y0 : w2.cell? ⟨W.heap.size + 1, 0, none⟩ = some (.int .i64 b.x) := hY2.cell 0
        have y1 : w2.cell? ⟨W.heap.size + 1, 1, none⟩ = some (.int .i64 b.y) := hY2.cell 1
        have y2 : w2.cell? ⟨W.heap.size + 1, 2, none⟩ = some (.int .i64 b.z) := hY2.cell 2
        have yl := hY2.lt
        have kA := rAdd_any p.x p.y p.z b.x b.y b.z
        rw [show wrap64 (p.x + b.x) = p.x + b.x by unfold wrap64; omega, show wrap64 (p.y + b.y) = p.y + b.y by unfold wrap64; omega, show wrap64 (p.z + b.z) = p.z + b.z by unfold wrap64; omega] at kA
        clear hgc u1 u2 u3 h2v
        refine wp_region_tail 11 ?_ (by kernel_rfl) (by kernel_rfl) (by kernel_rfl) (fun x => ?_) (fun x => ?_)
        rotate_left
        · simp only [List.take_succ_cons, List.take_zero]
          repeat (go_big_quiet_step (((first | with_reducible exact kA.quiet _ | with_reducible exact kA.quiet2 _ _))))
          refine wpQuiet_nil ?_
          exact rfl
        simp only [List.drop_succ_cons, List.drop_zero]
        try simp only [Act.put, List.setIfInBounds_toArray, List.set_cons_succ, List.set_cons_zero]
        have hK4 := hK2.lay (bel_grow (Below.refl _ _) x)
        clear m0 m1 m2 z0 zl y0 y1 y2 yl hgl hK2 kA a0 a1 a2 hba x0 xl hT2 hY2
        generalize grow w2 x = w4 at *
        obtain ⟨hqg, cur, hcur⟩ := own_blk hK4.r1 (g := g) rfl
        obtain ⟨g', eg, hgl, _, hgc⟩ := own_cell hK4.r1 (by omega)
        obtain rfl : g = g' := by simpa using eg
        obtain ⟨u1, u2, u3⟩ := kC_at (rowAt (movP b) i rv) i (by rw [rowAt_len]; exact hlt)
        have m0 := (hgc (i * 3) (by omega)).trans u1
        have m1 := (hgc (i * 3 + 1) (by omega)).trans u2
        have m2 := (hgc (i * 3 + 2) (by omega)).trans u3
        have f0 := hcur.frozen (i * 3)
        have f1 := hcur.frozen (i * 3 + 1)
        have f2 := hcur.frozen (i * 3 + 2)
        generalize (rowAt (movP b) i rv)[i]'(by rw [rowAt_len]; exact hlt) = pp at m0 m1 m2
        have hK5 := hK4.step rfl hlt p hp.out
        have hin2 : Hid (∀ j (hj : j < rv.length), j < i + 1 → InP 32768 rv[j]) := Lib.hid (fun j hj h => by
          by_cases e : j < i
          · exact hin.out j hj e
          · obtain rfl : j = i := by omega
            rw [hp.out]; exact ⟨hpb.2.1, hpb.2.2.1, hpb.2.2.2⟩)
        clear hcur hgc u1 u2 u3 eg hK4
        go_wp2
        go_roundw
        case rel => exact ⟨i + 1, by go_num, by omega, hin2, hK5⟩
        case measure => simp [intOf]; omega
    · obtain rfl : i = rv.length := by omega
      have hall : ∀ p ∈ rv, InP 32768 p := fun p hp => by obtain ⟨j, hj, rfl⟩ := List.getElem_of_mem hp; exact hin.out j hj hj
      have hbI : InP 16384 b := ⟨hbb.2.1, hbb.2.2.1, hbb.2.2.2⟩
      have fou := fo.out
      clear hin
      have x1 : wr.cell? ⟨T, 1, none⟩ = some (.slice R2 rf.length c2) := hTr.cell 1
      have x2 : wr.cell? ⟨T, 2, none⟩ = some (.slice R3 rk.length c3) := hTr.cell 2
      have cB := pbuild_any wr ⟨rv, rf, rk⟩ 1 R1 R2 R3 c1 c2 c3 ⟨fou.i1, fou.i2, fou.i3, hv4.below hK.bel, hf4.below hK.bel, hk4.below hK.bel, by simp only; omega⟩ fou.surf fou.sharp fou.inp fou.four
      simp only at cB
      have hcg := fun (w : World) (hk : KM b M B1 B2 B3 d1 d2 d3 rv rf rk W4 rv.length w) => hk.cg hall hbI fou.i2 fou.i3 (by omega)
      have fou1 := fou.surf
      have fou2 := fou.sharp
      have fou4 := fou.four
      have fi2 := fou.i2
      simp only at fou1 fou2 fou4 fi2
      have hinM : ∀ p ∈ rv.map (movP b), InP 65536 p := fun p hp => by
        obtain ⟨q, hq, rfl⟩ := List.mem_map.1 hp
        obtain ⟨x, y, z⟩ := hall q hq
        obtain ⟨bx, byy, bz⟩ := hbI
        exact ⟨by simp only [movP]; omega, by simp only [movP]; omega, by simp only [movP]; omega⟩
      replace hall := Lib.hid hall
      replace hbI := Lib.hid hbI
      replace hinM := Lib.hid hinM
      replace hcg := Lib.hid hcg
      replace fou1 := Lib.hid fou1
      replace fou2 := Lib.hid fou2
      replace fou4 := Lib.hid fou4
      replace fi2 := Lib.hid fi2
      clear fo fou
      go_upto_region 14 with (first | (go_at_call 7; (with_reducible refine cB.mono ?_); rintro e W7 ⟨N, gA, rfl, hb7, hgA, hA, hNv, hNf, hNT, hNs⟩) | fail)
      have hK7 := hK.lay hb7
      have hB7 := bel_trans hBr hb7
      have hY7 := hYr.below hb7
      clear x0 x1 x2 xl cB hK hTr hYr
      have z0 : W7.cell? ⟨M, 0, none⟩ = some (.slice B1 rv.length d1) := hK7.m.cell 0
      have z1 : W7.cell? ⟨M, 1, none⟩ = some (.slice B2 rf.length d2) := hK7.m.cell 1
      have z2 : W7.cell? ⟨M, 2, none⟩ = some (.slice B3 rk.length d3) := hK7.m.cell 2
      have zl := hK7.m.lt
      have hlm : (rv.map (movP b)).length = rv.length := List.length_map ..
      have cB := pbuild_any W7 ⟨rv.map (movP b), rf, rk⟩ 1 B1 B2 B3 d1 d2 d3 (hcg.out W7 hK7) (by simp only [hlm]; exact fou1.out) (by simp only [hlm]; exact fou2.out) hinM.out fou4.out
      simp only [hlm] at cB
      go_upto_region 15 with (first | (go_at_call 7; (with_reducible refine cB.mono ?_); rintro e W8 ⟨N2, gB, rfl, hb8, hgB, hC, hMv, hMf, hMT, hMs⟩) | fail)
      have hA8 := hA.below hb8
      have hB8 := bel_trans hB7 hb8
      have hY8 := hY7.below hb8
      have hal := hA.lt
      have hNM : N2 = N.mov b := net_mov (c := ⟨rv, rf, rk⟩) hNv hNf hNT hNs hMv hMf hMT hMs
      subst hNM
      have nok : NetOk N := netOk_of (c := ⟨rv, rf, rk⟩) hNv hNf hNT hNs fou4.out (by simp only; omega)
      have hfl : ∀ x ∈ N.t.fans, x.length ≤ 9000 := fun x hx => by have := (fan_rng hNT hx).2; omega
      have hfp : ∀ v : Nat, v < N.vs.length → 0 < (N.t.fans.getD v []).length := fun v hv => fans_pos hNT (by rw [hNv] at hv; omega)
      have hinN : ∀ p ∈ N.vs, InP 32768 p := by rw [hNv]; exact hall.out
      have hrfl : rf.length ≤ 1000 := by omega
      replace hNf : N.fs = rf := hNf
      have hIt : ∀ f, f < rf.length → ((N.patch 1 f).mov b 16).I ∧ (∀ k, k < 16 → InP 32768 ((N.patch 1 f).pt k)) ∧ ((N.mov b).patch 1 f).row = ((N.patch 1 f).mov b 16).row := fun f hf => by
        have h := patch_I nok hbI.out hinN hfl hfp (by rw [hNf]; exact fi2.out) (sk := 1) (by unfold i64B; omega) (f := f) (by rw [hNf]; exact hf)
        exact ⟨h.1, h.2, patch_mov nok hbI.out hinN hfl hfp 1 (by rw [hNf]; exact hf)⟩
      have hsW := hBr.size
      have hP8 : KP b (W.heap.size + 1) gA gB rf.length (N.patch 1) ((N.mov b).patch 1) W 0 0 W8 := ⟨hB8, hY8, by rw [rowP_start]; exact hA8, hC, by omega, by omega⟩
      replace hIt := Lib.hid hIt
      clear z0 z1 z2 zl cB hK7 hNv hNf hNT hNs hMv hMf hMT hMs nok hfl hfp hinN hall hinM hcg fou1 fou2 fou4 fi2 hA hA8 hB7 hB8 hY7 hY8 hC hb7 hb8 hBr hsW hgA hgB
      have q6 : ((0 : Int) != 0) = false := by simp
      have q7 : (((rf.length : Nat) : Int) != ((rf.length : Nat) : Int)) = false := by simp
      go_wp2
      go_loopw [13] (fun iv wz => ∃ i : Nat, iv = .int .i64 (i : Int) ∧ i ≤ rf.length ∧ KP b (W.heap.size + 1) gA gB rf.length (N.patch 1) ((N.mov b).patch 1) W i 0 wz) (fun iv _ => rf.length - (intOf iv).toNat)
      case atStart => exact ⟨0, rfl, by omega, hP8⟩
      case round =>
        obtain ⟨i, rfl, hi, hP⟩ := hrel
        rename World => wz
        clear hP8
        by_cases hlt : i < rf.length
        · have q0 : (0 : Int) ≤ (i : Int) := by omega
          have q1i : (i : Int) < (rf.length : Int) := by omega
          obtain ⟨hI, hpI, hrow⟩ := hIt.out i hlt
          replace hI := Lib.hid hI
          replace hpI := Lib.hid hpI
          replace hrow := Lib.hid hrow
          go_upto_region 21 with (fail)
          go_loopw [14] (fun iv wq => ∃ k : Nat, iv = .int .i64 (k : Int) ∧ k ≤ 16 ∧ KP b (W.heap.size + 1) gA gB rf.length (N.patch 1) ((N.mov b).patch 1) W i k wq) (fun iv _ => 16 - (intOf iv).toNat)
          case atStart => exact ⟨0, rfl, by omega, hP⟩
          case round =>
            obtain ⟨k, rfl, hk, hQ⟩ := hrel
            rename World => wq
            clear hP
            by_cases hk16 : k < 16
            · obtain ⟨p, hp⟩ : ∃ p, (N.patch 1 i).pt k = p := ⟨_, rfl⟩
              have hpb := hpI.out k hk16
              rw [hp] at hpb
              obtain ⟨px, py, pz⟩ := hpb
              obtain ⟨p0, p1, p2⟩ := hQ.pt hlt hk16 p hp
              have gl := hQ.a.lt
              have y0 : wq.cell? ⟨W.heap.size + 1, 0, none⟩ = some (.int .i64 b.x) := hQ.y.cell 0
              have y1 : wq.cell? ⟨W.heap.size + 1, 1, none⟩ = some (.int .i64 b.y) := hQ.y.cell 1
              have y2 : wq.cell? ⟨W.heap.size + 1, 2, none⟩ = some (.int .i64 b.z) := hQ.y.cell 2
              have yl := hQ.y.lt
              have kA := rAdd_any p.x p.y p.z b.x b.y b.z
              rw [show wrap64 (p.x + b.x) = p.x + b.x by unfold wrap64; omega, show wrap64 (p.y + b.y) = p.y + b.y by unfold wrap64; omega, show wrap64 (p.z + b.z) = p.z + b.z by unfold wrap64; omega] at kA
              have q2 : (0 : Int) ≤ (k : Int) := by omega
              have q3 : (k : Int) < 16 := by omega
              replace hp := Lib.hid hp
              go_upto_region 23 with (fail)
              refine wp_region_tail 15 ?_ (by kernel_rfl) (by kernel_rfl) (by kernel_rfl) (fun x => ?_) (fun x => ?_)
              rotate_left
              · simp only [List.take_succ_cons, List.take_zero]
                repeat (go_big_quiet_step (((first | with_reducible exact kA.quiet _ | with_reducible exact kA.quiet2 _ _))))
                refine wpQuiet_nil ?_
                exact rfl
              simp only [List.drop_succ_cons, List.drop_zero]
              try simp only [Act.put, List.setIfInBounds_toArray, List.set_cons_succ, List.set_cons_zero]
              have hQ2 := hQ.lay (bel_grow (Below.refl _ _) x)
              clear p0 p1 p2 y0 y1 y2 yl gl hQ kA
              generalize grow wq x = w4 at *
              obtain ⟨p0, p1, p2⟩ := hQ2.pt hlt hk16 p hp.out
              have gl := hQ2.a.lt
              have f0 := hQ2.a.frozen (i * 65 + k * 3)
              have f1 := hQ2.a.frozen (i * 65 + k * 3 + 1)
              have f2 := hQ2.a.frozen (i * 65 + k * 3 + 2)
              have hQ5 := hQ2.step hlt hk16 p hp.out
              clear hQ2
              go_wp2
              go_roundw
              case rel => exact ⟨k + 1, by go_num, by omega, hQ5⟩
              case measure => simp [intOf]; omega
            · obtain rfl : k = 16 := by omega
              rw [show ((16 : Nat) : Int) = 16 from rfl]
              go_upto_region 24 with (fail)
              have gl := hQ.a.lt
              have gl2 := hQ.c.lt
              have hR := hQ.row
              refine wp_region_grow (by kernel_rfl) (by kernel_rfl) ?_
              repeat (first | (refine quiet_PtAt _ rfl rfl gA rf.length i hlt (rowP (N.patch 1) b i 16) rfl _ (fun z hz => by obtain ⟨y, rfl⟩ := hz; exact hQ.a.grow _) ?_; simp only [Act.put, List.setIfInBounds_toArray, List.set_cons_succ, List.set_cons_zero]) | (refine quiet_PtAt _ rfl rfl gB rf.length i hlt ((N.mov b).patch 1) rfl _ (fun z hz => by obtain ⟨y, rfl⟩ := hz; exact hQ.c.grow _) ?_; simp only [Act.put, List.setIfInBounds_toArray, List.set_cons_succ, List.set_cons_zero]) | (refine quiet_neqPt _ _ rfl (by kernel_rfl) ((N.patch 1 i).mov b 16) hI.out (by first | (rw [← hR]; rfl) | rfl) (by first | (rw [← hrow.out]; rfl) | rfl) ?_; simp only [Act.put, List.setIfInBounds_toArray, List.set_cons_succ, List.set_cons_zero]) | go_big_quiet_step (fail))
              refine wpQuiet_nil ?_
              rintro _ ⟨xg2, rfl⟩
              have hQ3 := (hQ.lay (bel_grow (Below.refl _ _) xg2)).next
              go_wp2
              go_roundw
              case rel => exact ⟨i + 1, by go_num, by omega, hQ3⟩
              case measure => simp [intOf]; omega
        · obtain rfl : i = rf.length := by omega
          have hBW := hP.bel
          go_wp2
          go_ret
          exact ⟨rfl, hBW⟩

theorem own : ownKnob Try.prog.godebug = none := by kernel_rfl
set_option maxRecDepth 100000 in
theorem lifted (os : Os) (started : os.Started) (H : Type) (enc : TypeId × Value → H) :
    ReturnsInHanded {} Try.checked os 4 .any (Rows.patchMovedSpec.pre6 enc Try.prog Try.f4 Rows.patchMovedRow.domain false) (Rows.patchMovedSpec.post enc Try.prog Try.f4 false true false false) := by
  refine returnsInHanded_of_change_sized (C := Try.checked) own started (by kernel_rfl) Try.func4
    (ChangeSpec.witness6 (enc := enc) (C := Try.checked) false ⟨#[], #[.agg #[.slice none 0 0, .slice none 0 0, .slice none 0 0], .agg #[.int .i64 0, .int .i64 0, .int .i64 0]], []⟩ 12 (by kernel_rfl) (by kernel_rfl) (by kernel_rfl) (by kernel_rfl)) ?_
  intro W base args ds gs before hval0 hW hcnd hwt _
  have hval : ∀ (j : Nat) t v, Try.f4.params[j]? = some t → args[j]? = some v → Value.okWide Try.prog W .any base t v := hval0
  have hW' := hW
  obtain ⟨p, q, hA0, hV, rfl, hfz, hnd⟩ := hW
  have hA : DataW.TrodAll enc Try.prog W 0 (fun _ => true) true Try.f4.params.toList args.toList ds p := hA0
  rw [Try.params4] at hA hval
  obtain ⟨v0, vs0, d0, ds0, p0, q0, hargs, rfl, rfl, h0, r0⟩ := trodAll_cons hA
  obtain ⟨v1, vs1, d1, ds1, p1, q1, rfl, rfl, rfl, h1, r1⟩ := trodAll_cons r0
  obtain ⟨rfl, rfl, rfl⟩ := trodAll_nil r1
  obtain rfl : args = #[v0, v1] := by cases args; simp_all
  obtain ⟨cs0, rfl, hsz0⟩ := okWide_struct Try.underlying27 (hval 0 27 v0 rfl rfl)
  rw [szCg] at hsz0
  have hTW0 : TW enc Try.prog W 0 (fun _ => true) true 27 cs0.toList := by
    obtain ⟨fu, hfu⟩ := h0
    refine ⟨fu, _, hfu, fun n hn => ?_⟩
    have := List.all_eq_true.1 hwt n (DataW.weights_mem_each (j := 0) (t := 27) (d := d0) (by rw [Try.params4]; rfl) (by rfl) n hn)
    simpa using this
  obtain ⟨c0, A01, A02, A03, k01, k02, k03, ecs0, hraw0⟩ := open_Cage (by simpa using hsz0) hTW0
  obtain rfl : cs0 = #[.slice A01 c0.vs.length k01, .slice A02 c0.fs.length k02, .slice A03 c0.ks.length k03] := Array.ext' ecs0
  clear hTW0
  obtain ⟨a1, rfl, k1⟩ := open_P (hval 1 30 v1 rfl rfl) h1
  refine (walk W c0 A01 A02 A03 k01 k02 k03 hraw0 a1 k1).mono fun e W' ⟨he, hb⟩ => ?_
  subst he
  exact ⟨_, rfl, law_post (tb := 4) (by kernel_rfl) (by kernel_rfl) rfl rfl Try.underlying4 rfl rfl rfl hW' hb⟩

theorem over : Rows.patchMovedRow.holds Try.pinned (OpenSpec.ofChange Rows.patchMovedSpec) :=
  OpenClaim.holds_of_wide 4 Try.f4 rfl rfl rfl rfl rfl rfl rfl ⟨rfl, rfl, rfl, rfl, rfl⟩ rfl rfl rfl rfl rfl (by kernel_rfl) Try.func4 (by kernel_rfl)
    (of_decide_eq_true (by kernel_rfl)) (by unfold Func.isWrapper; first | (rw [if_pos (by decide +kernel)]; kernel_rfl) | (rw [if_neg (by decide +kernel)]; exact ⟨rfl, rfl⟩))
    (fun os started H enc _ => lifted os started H enc)

theorem proved : Rows.PatchMovedSaid :=
  over
#print axioms proved
end Go.Proofs.Ytpdnaceggpdleab.patchMoved
