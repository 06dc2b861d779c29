/- PatchInside holds for every input: the row, out of the walk. No condition. -/
import Derived.SizedLaws
import Derived.Test.YtgmifpicilfcdabRows
import Derived.Test.YtgmifpicilfcdabC2
import Derived.Test.YtgmifpicilfcdabC13
import Derived.Test.YtgmifpicilfcdabC19
namespace Go.Proofs.Ytgmifpicilfcdab.patchInside
open Go.ChangeShapes Go.WideShapes Go.ChangeAt Go.RowKit
set_option linter.unusedVariables false
set_option linter.unusedSimpArgs false
set_option linter.unnecessarySimpa false
set_option maxRecDepth 100000
set_option maxHeartbeats 8000000 in
theorem walk (W : World) (c : Cg) (A1 A2 A3 : Option Addr) (k1 k2 k3 : Nat) (hc : RawC W c A1 A2 A3) :
    Calls Try.prog 4 #[.agg #[.slice A1 c.vs.length k1, .slice A2 c.fs.length k2, .slice A3 c.ks.length k3]] W fun e W' => e = .returned (.bool true) ∧ Below W.heap.size W W' := by
  obtain ⟨vs, fs, ks⟩ := c
  obtain ⟨l1, l2, l3, i1, i2, i3, v1, v2, v3⟩ := hc
  simp only at l1 l2 l3 i1 i2 i3 v1 v2 v3 ⊢
  obtain ⟨hx, hi⟩ := row_lens i2
  rw [reach_num] at l1 l2 l3
  have hCg : ∀ (hf : vs.length + ks.length + fs.length + tot fs ≤ 300) (W1 : World), Below W.heap.size W W1 → CgV W1 ⟨vs, fs, ks⟩ A1 A2 A3 := fun hf W1 hb => ⟨i1, hi, i3, v1.below hb, v2.below hb, v3.below hb, by simp only; omega⟩
  have cQ := fun (W1 : World) (hb : Below W.heap.size W W1) => quads_any W1 vs fs ks A1 A2 A3 k1 k2 k3 (by omega) (by omega) (by omega) hx (v2.below hb) (fun hf => hCg hf W1 hb)
  have hb0 : Below W.heap.size W (W.alloc (.cells #[.slice A1 vs.length k1, .slice A2 fs.length k2, .slice A3 ks.length k3] 26)) := bel_alloc (Below.refl _ _) _
  have hC0 : Blk (W.alloc (.cells #[.slice A1 vs.length k1, .slice A2 fs.length k2, .slice A3 ks.length k3] 26)) W.heap.size 26 #[.slice A1 vs.length k1, .slice A2 fs.length k2, .slice A3 ks.length k3] := Blk.new _ _ _ _ rfl
  go_enter Try.func4, Try.ntmps4
  go_upto_region 1 with (fail)
  generalize W.alloc (.cells #[.slice A1 vs.length k1, .slice A2 fs.length k2, .slice A3 ks.length k3] 26) = W0 at *
  go_upto_region 3 with (first | (go_at_call 7; (with_reducible refine (alive10_any _).mono ?_); rintro e W1 ⟨rfl, hb1⟩) | fail)
  have hB1 := bel_trans hb0 hb1
  have hC1 := hC0.below hb1
  have x0 : W1.cell? ⟨W.heap.size, 0, none⟩ = some (.slice A1 vs.length k1) := hC1.cell 0
  have x1 : W1.cell? ⟨W.heap.size, 1, none⟩ = some (.slice A2 fs.length k2) := hC1.cell 1
  have x2 : W1.cell? ⟨W.heap.size, 2, none⟩ = some (.slice A3 ks.length k3) := hC1.cell 2
  have xl := hC1.lt
  have cQ1 := cQ W1 hB1
  clear hb0 hC0 hb1 cQ hCg hx hi v1 v2 v3 i1 i2 i3 l1 l2 l3
  go_upto_region 6 with (first | (go_at_call 8; (with_reducible refine cQ1.mono ?_); rintro e W2 ⟨r, R1, R2, R3, c1, c2, c3, ok, rfl, hb2, hr1, hr2, hr3, hok⟩; replace hok := Lib.hid hok; cases ok) | fail)
  · go_ret
    exact ⟨rfl, by first | exact bel_alloc (bel_trans hB1 hb2) _ | exact bel_trans hB1 hb2⟩
  obtain ⟨fo, hcap⟩ := hok.out trivial
  have hB2 := bel_trans hB1 hb2
  clear hok x0 x1 x2 xl cQ1 hC1 hB1 hb2
  obtain ⟨rv, rf, rk⟩ := r
  simp only at *
  have hT3 : Blk (W2.alloc (.cells #[.slice R1 rv.length c1, .slice R2 rf.length c2, .slice R3 rk.length c3] 26)) W2.heap.size 26 #[.slice R1 rv.length c1, .slice R2 rf.length c2, .slice R3 rk.length c3] := Blk.new _ _ _ _ rfl
  have h23 : Below W2.heap.size W2 (W2.alloc (.cells #[.slice R1 rv.length c1, .slice R2 rf.length c2, .slice R3 rk.length c3] 26)) := bel_alloc (Below.refl _ _) _
  have hv3 := hr1.below h23
  have hf3 := hr2.below h23
  have hk3 := hr3.below h23
  have hB3 := bel_trans hB2 h23
  clear hr1 hr2 hr3 h23 hB2
  generalize W2.alloc (.cells #[.slice R1 rv.length c1, .slice R2 rf.length c2, .slice R3 rk.length c3] 26) = W3 at *
  generalize W2.heap.size = T at *
  have few := fo.few
  simp only at few
  have cB := pbuild_any W3 ⟨rv, rf, rk⟩ 0 R1 R2 R3 c1 c2 c3 ⟨fo.i1, fo.i2, fo.i3, hv3, hf3, hk3, by simp only; omega⟩ fo.surf fo.sharp fo.inp fo.four
  simp only at cB
  have t0 : W3.cell? ⟨T, 0, none⟩ = some (.slice R1 rv.length c1) := hT3.cell 0
  have t1 : W3.cell? ⟨T, 1, none⟩ = some (.slice R2 rf.length c2) := hT3.cell 1
  have t2 : W3.cell? ⟨T, 2, none⟩ = some (.slice R3 rk.length c3) := hT3.cell 2
  have tl := hT3.lt
  go_upto_region 7 with (first | (go_at_call 9; (with_reducible refine cB.mono ?_); rintro e W4 ⟨N, gL, rfl, hb4, hgl, hG, hNv, hNf, hNT, hNs⟩) | fail)
  have hB4 := bel_trans hB3 hb4
  have hT4 := hT3.below hb4
  have cBd := bound10_any W4 R1 c1 rv (hv3.below hb4) hcap (by omega)
  clear t0 t1 t2 tl cB hT3 hB3 hv3 hf3 hk3 hb4
  have nok : NetOk N := netOk_of (c := ⟨rv, rf, rk⟩) hNv hNf hNT hNs fo.four (by simp only; omega)
  have hfl : ∀ x ∈ N.t.fans, x.length ≤ 9000 := fun x hx => by have := (fan_rng hNT hx).2; omega
  have hfp : ∀ v : Nat, v < N.vs.length → 0 < (N.t.fans.getD v []).length := fun v hv => fans_pos hNT (by rw [hNv] at hv; omega)
  have hinN : ∀ p ∈ N.vs, InP 65536 p := by rw [hNv]; exact fo.inp
  have hrfl : rf.length ≤ 1000 := by omega
  replace hNf : N.fs = rf := hNf
  replace hNv : N.vs = rv := hNv
  clear few fo hNT hNs hcap
  have t0 : W4.cell? ⟨T, 0, none⟩ = some (.slice R1 rv.length c1) := hT4.cell 0
  have tl := hT4.lt
  replace hNv := Lib.hid hNv
  replace hNf := Lib.hid hNf
  replace nok := Lib.hid nok
  replace hfl := Lib.hid hfl
  replace hfp := Lib.hid hfp
  replace hinN := Lib.hid hinN
  go_upto_region 8 with (first | (go_at_call 12; (with_reducible refine cBd.mono ?_); rintro e W5 ⟨lx, ly, lz, hx', hy', hz', okb, rfl, ⟨xg, rfl⟩, hin⟩; replace hin := Lib.hid hin) | fail)
  have hX : Blk ((grow W4 xg).alloc (.cells #[.int .i64 lx, .int .i64 ly, .int .i64 lz, .int .i64 hx', .int .i64 hy', .int .i64 hz'] 52)) (grow W4 xg).heap.size 52 #[.int .i64 lx, .int .i64 ly, .int .i64 lz, .int .i64 hx', .int .i64 hy', .int .i64 hz'] := Blk.new _ _ _ _ rfl
  have hb5 : Below W4.heap.size W4 ((grow W4 xg).alloc (.cells #[.int .i64 lx, .int .i64 ly, .int .i64 lz, .int .i64 hx', .int .i64 hy', .int .i64 hz'] 52)) := bel_alloc (bel_grow (Below.refl _ _) xg) _
  have hB5 := bel_trans hB4 hb5
  have hT5 := hT4.below hb5
  have hG5 := hG.below hb5
  clear t0 tl cBd hT4 hG hB4 hb5
  generalize (grow W4 xg).alloc (.cells #[.int .i64 lx, .int .i64 ly, .int .i64 lz, .int .i64 hx', .int .i64 hy', .int .i64 hz'] 52) = W5 at *
  generalize (grow W4 xg).heap.size = X at *
  have hP : ∀ f, f < rf.length → ∀ u, u < 16 → inB lx ly lz hx' hy' hz' ((N.patch 0 f).pt u).x ((N.patch 0 f).pt u).y ((N.patch 0 f).pt u).z = true := fun f hf u hu =>
    patch_has nok.out hinN.out hfl.out hfp.out (by rw [hNv.out]; exact hin.out) 0 (by rw [hNf.out]; exact hf) hu
  replace hP := Lib.hid hP
  clear hin nok hfl hfp hinN hNv hNf
  go_upto_region 9 with (fail)
  go_wp2
  go_loopw [9] (fun iv wr => ∃ i : Nat, iv = .int .i64 (i : Int) ∧ i ≤ rf.length ∧ Below W5.heap.size W5 wr) (fun iv _ => rf.length - (intOf iv).toNat)
  case atStart => exact ⟨0, rfl, by omega, Below.refl _ _⟩
  case round =>
    obtain ⟨i, rfl, hi, hBr⟩ := hrel
    rename World => wr
    by_cases hlt : i < rf.length
    · have q0 : (0 : Int) ≤ (i : Int) := by omega
      have q1 : (i : Int) < (rf.length : Int) := by omega
      go_upto_region 12 with (fail)
      go_loopw [10] (fun iv wq => ∃ k : Nat, iv = .int .i64 (k : Int) ∧ k ≤ 16 ∧ Below W5.heap.size W5 wq) (fun iv _ => 16 - (intOf iv).toNat)
      case atStart => exact ⟨0, rfl, by omega, hBr⟩
      case round =>
        obtain ⟨k, rfl, hk, hBq⟩ := hrel
        rename World => wq
        by_cases hk16 : k < 16
        · obtain ⟨p0, p1, p2⟩ := patP_at (hG5.below hBq) hlt hk16
          have gl := (hG5.below hBq).lt
          have b0 := (hX.below hBq).cell 0
          have b1 := (hX.below hBq).cell 1
          have b2 := (hX.below hBq).cell 2
          have b3 := (hX.below hBq).cell 3
          have b4 := (hX.below hBq).cell 4
          have b5 := (hX.below hBq).cell 5
          have bl := (hX.below hBq).lt
          have hin1 := hP.out i hlt k hk16
          generalize (N.patch 0 i).pt k = p at *
          have kH := vHas_any lx ly lz hx' hy' hz' p.x p.y p.z
          rw [hin1] at kH
          have q2 : (0 : Int) ≤ (k : Int) := by omega
          have q3 : (k : Int) < 16 := by omega
          clear hin1
          go_upto_region 14 with (fail)
          refine wp_region_grow (by kernel_rfl) (by kernel_rfl) ?_
          repeat (go_big_quiet_step ((first | with_reducible exact kH.quiet _ | with_reducible exact kH.quiet2 _ _)))
          refine wpQuiet_nil ?_
          rintro _ ⟨xg2, rfl⟩
          have hb9 := bel_grow hBq xg2
          go_wp2
          go_roundw
          case rel => exact ⟨k + 1, by go_num, by omega, hb9⟩
          case measure => simp [intOf]; omega
        · obtain rfl : k = 16 := by omega
          clear hBr
          rw [show ((16 : Nat) : Int) = 16 from rfl]
          go_upto_region 17 with (fail)
          go_loopw [11] (fun iv wz => ∃ k : Nat, iv = .int .i64 (k : Int) ∧ k ≤ 4 ∧ Below W5.heap.size W5 wz) (fun iv _ => 4 - (intOf iv).toNat)
          case atStart => exact ⟨0, rfl, by omega, hBq⟩
          case round =>
            obtain ⟨k, rfl, hk4, hBz⟩ := hrel
            rename World => wz
            by_cases hkl : k < 4
            · obtain ⟨p0, p1, p2⟩ := patN_at (hG5.below hBz) hlt hkl
              have gl := (hG5.below hBz).lt
              have hin1 := patch_nm (N := N) 0 i hkl
              generalize (N.patch 0 i).nm k = p at *
              have kW := vWithin_any p.x p.y p.z 1023 (by omega)
              rw [hin1] at kW
              have q2 : (0 : Int) ≤ (k : Int) := by omega
              have q3 : (k : Int) < 4 := by omega
              clear hin1
              go_wp2_with (first | (go_at_call 14; (with_reducible refine (kW.at_ _).mono ?_); rintro e w' ⟨rfl, xg2, rfl⟩; have hb9 := bel_grow hBz xg2) | fail)
              go_roundw
              case rel => exact ⟨k + 1, by go_num, by omega, hb9⟩
              case measure => simp [intOf]; omega
            · obtain rfl : k = 4 := by omega
              rw [show ((4 : Nat) : Int) = 4 from rfl]
              go_wp2
              go_roundw
              case rel => exact ⟨i + 1, by go_num, by omega, hBz⟩
              case measure => simp [intOf]; omega
    · obtain rfl : i = rf.length := by omega
      have t1 := (hT5.below hBr).cell 1
      have tl := (hT5.below hBr).lt
      have hBW := bel_trans hB5 hBr
      go_wp2
      go_ret
      exact ⟨rfl, hBW⟩

theorem own : ownKnob Try.prog.godebug = none := by kernel_rfl
set_option maxRecDepth 100000 in
theorem lifted (os : Os) (started : os.Started) (H : Type) (enc : TypeId × Value → H) :
    ReturnsInHanded {} Try.checked os 4 .any (Rows.patchInsideSpec.pre6 enc Try.prog Try.f4 Rows.patchInsideRow.domain false) (Rows.patchInsideSpec.post enc Try.prog Try.f4 false true false false) := by
  refine returnsInHanded_of_change_sized (C := Try.checked) own started (by kernel_rfl) Try.func4
    (ChangeSpec.witness6 (enc := enc) (C := Try.checked) false ⟨#[], #[.agg #[.slice none 0 0, .slice none 0 0, .slice none 0 0]], []⟩ 12 (by kernel_rfl) (by kernel_rfl) (by kernel_rfl) (by kernel_rfl)) ?_
  intro W base args ds gs before hval0 hW hcnd hwt _
  have hval : ∀ (j : Nat) t v, Try.f4.params[j]? = some t → args[j]? = some v → Value.okWide Try.prog W .any base t v := hval0
  have hW' := hW
  obtain ⟨p, q, hA0, hV, rfl, hfz, hnd⟩ := hW
  have hA : DataW.TrodAll enc Try.prog W 0 (fun _ => true) true Try.f4.params.toList args.toList ds p := hA0
  rw [Try.params4] at hA hval
  obtain ⟨v0, vs0, d0, ds0, p0, q0, hargs, rfl, rfl, h0, r0⟩ := trodAll_cons hA
  obtain ⟨rfl, rfl, rfl⟩ := trodAll_nil r0
  obtain rfl : args = #[v0] := by cases args; simp_all
  obtain ⟨cs0, rfl, hsz0⟩ := okWide_struct Try.underlying26 (hval 0 26 v0 rfl rfl)
  rw [szCg] at hsz0
  have hTW0 : TW enc Try.prog W 0 (fun _ => true) true 26 cs0.toList := by
    obtain ⟨fu, hfu⟩ := h0
    refine ⟨fu, _, hfu, fun n hn => ?_⟩
    have := List.all_eq_true.1 hwt n (DataW.weights_mem_each (j := 0) (t := 26) (d := d0) (by rw [Try.params4]; rfl) (by rfl) n hn)
    simpa using this
  obtain ⟨c0, A01, A02, A03, k01, k02, k03, ecs0, hraw0⟩ := open_Cage (by simpa using hsz0) hTW0
  obtain rfl : cs0 = #[.slice A01 c0.vs.length k01, .slice A02 c0.fs.length k02, .slice A03 c0.ks.length k03] := Array.ext' ecs0
  clear hTW0
  refine (walk W c0 A01 A02 A03 k01 k02 k03 hraw0).mono fun e W' ⟨he, hb⟩ => ?_
  subst he
  exact ⟨_, rfl, law_post (tb := 4) (by kernel_rfl) (by kernel_rfl) rfl rfl Try.underlying4 rfl rfl rfl hW' hb⟩

theorem over : Rows.patchInsideRow.holds Try.pinned (OpenSpec.ofChange Rows.patchInsideSpec) :=
  OpenClaim.holds_of_wide 4 Try.f4 rfl rfl rfl rfl rfl rfl rfl ⟨rfl, rfl, rfl, rfl, rfl⟩ rfl rfl rfl rfl rfl (by kernel_rfl) Try.func4 (by kernel_rfl)
    (of_decide_eq_true (by kernel_rfl)) (by unfold Func.isWrapper; first | (rw [if_pos (by decide +kernel)]; kernel_rfl) | (rw [if_neg (by decide +kernel)]; exact ⟨rfl, rfl⟩))
    (fun os started H enc _ => lifted os started H enc)

theorem proved : Rows.PatchInsideSaid :=
  over
#print axioms proved
end Go.Proofs.Ytgmifpicilfcdab.patchInside
