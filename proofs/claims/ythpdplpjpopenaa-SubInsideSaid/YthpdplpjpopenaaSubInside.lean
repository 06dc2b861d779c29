/- SubInside holds for every input: the row, out of the walk. No condition. -/
import Derived.SizedLaws
import Derived.Test.YthpdplpjpopenaaRows
import Derived.Test.YthpdplpjpopenaaOpenK
import Derived.Test.YthpdplpjpopenaaSubY
import Derived.Test.YthpdplpjpopenaaC2
import Derived.Test.YthpdplpjpopenaaC13
namespace Go.Proofs.Ythpdplpjpopenaa.subInside
open Go.ChangeShapes Go.WideShapes Go.ChangeAt Go.RowKit
set_option linter.unusedVariables false
set_option linter.unusedSimpArgs false
set_option linter.unnecessarySimpa false
set_option maxRecDepth 100000
set_option maxHeartbeats 8000000 in
theorem walk (W : World) (c : Cg) (A1 A2 A3 : Option Addr) (k1 k2 k3 : Nat) (hc : RawC W c A1 A2 A3) (hcap : c.vs.length ≤ k1) :
    Calls Try.prog 4 #[.agg #[.slice A1 c.vs.length k1, .slice A2 c.fs.length k2, .slice A3 c.ks.length k3]] W fun e W' => e = .returned (.bool true) ∧ Below W.heap.size W W' := by
  obtain ⟨vs, fs, ks⟩ := c
  obtain ⟨l1, l2, l3, i1, i2, i3, v1, v2, v3⟩ := hc
  simp only at l1 l2 l3 i1 i2 i3 v1 v2 v3 ⊢
  obtain ⟨hx, hi⟩ := row_lens i2
  rw [reach_num] at l1 l2 l3
  have hCg : ∀ (hf : vs.length + ks.length + fs.length + tot fs ≤ 300) (W1 : World), Below W.heap.size W W1 → CgV W1 ⟨vs, fs, ks⟩ A1 A2 A3 := fun hf W1 hb => ⟨i1, hi, i3, v1.below hb, v2.below hb, v3.below hb, by simp only; omega⟩
  have cG := fun (W1 : World) (hb : Below W.heap.size W W1) => great9_any W1 A1 A2 A3 vs.length ks.length k1 k2 k3 fs (v2.below hb) (by omega) (by omega) (by omega) hx
  have hb0 : Below W.heap.size W (W.alloc (.cells #[.slice A1 vs.length k1, .slice A2 fs.length k2, .slice A3 ks.length k3] 26)) := bel_alloc (Below.refl _ _) _
  have hC0 : Blk (W.alloc (.cells #[.slice A1 vs.length k1, .slice A2 fs.length k2, .slice A3 ks.length k3] 26)) W.heap.size 26 #[.slice A1 vs.length k1, .slice A2 fs.length k2, .slice A3 ks.length k3] := Blk.new _ _ _ _ rfl
  go_enter Try.func4, Try.ntmps4
  go_upto_region 1 with (fail)
  generalize W.alloc (.cells #[.slice A1 vs.length k1, .slice A2 fs.length k2, .slice A3 ks.length k3] 26) = W0 at *
  go_upto_region 3 with (first | (go_at_call 13; (with_reducible refine (alive9_any _).mono ?_); rintro e W1 ⟨rfl, hb1⟩) | fail)
  have hB1 := bel_trans hb0 hb1
  have hC1 := hC0.below hb1
  have x0 : W1.cell? ⟨W.heap.size, 0, none⟩ = some (.slice A1 vs.length k1) := hC1.cell 0
  have x1 : W1.cell? ⟨W.heap.size, 1, none⟩ = some (.slice A2 fs.length k2) := hC1.cell 1
  have x2 : W1.cell? ⟨W.heap.size, 2, none⟩ = some (.slice A3 ks.length k3) := hC1.cell 2
  have xl := hC1.lt
  have cG1 := cG W1 hB1
  clear hb0 hC0 hb1 cG
  replace hcap : vs.length ≤ k1 := hcap
  go_upto_region 5 with (first | (go_at_call 14; (with_reducible refine cG1.mono ?_); rintro e W2 ⟨bb, rfl, hb2, hgr⟩; have hB2 := bel_trans hB1 hb2; replace hgr := Lib.hid hgr; cases bb) | fail)
  rotate_left
  · go_ret
    exact ⟨rfl, hB2⟩
  obtain ⟨hg1, hg2⟩ := hgr.out trivial
  have hC2 := hC1.below hb2
  have cL := level_any W2 ⟨vs, fs, ks⟩ A1 A2 A3 k1 k2 k3 (hCg hg2 W2 hB2)
  simp only at cL
  clear x0 x1 x2 xl cG1 hC1 hB1 hb2 hgr
  have x0 : W2.cell? ⟨W.heap.size, 0, none⟩ = some (.slice A1 vs.length k1) := hC2.cell 0
  have x1 : W2.cell? ⟨W.heap.size, 1, none⟩ = some (.slice A2 fs.length k2) := hC2.cell 1
  have x2 : W2.cell? ⟨W.heap.size, 2, none⟩ = some (.slice A3 ks.length k3) := hC2.cell 2
  have xl := hC2.lt
  go_upto_region 6 with (first | (go_at_call 15; (with_reducible refine cL.mono ?_); rintro e W3 ⟨r, R1, R2, R3, c1, c2, c3, er, rfl, hb3, h1, h2, h3, hL⟩) | fail)
  have hT : Blk (W3.alloc (.cells #[.slice R1 r.vs.length c1, .slice R2 r.fs.length c2, .slice R3 r.ks.length c3] 26)) W3.heap.size 26 #[.slice R1 r.vs.length c1, .slice R2 r.fs.length c2, .slice R3 r.ks.length c3] := Blk.new _ _ _ _ rfl
  have hb4 : Below W2.heap.size W2 (W3.alloc (.cells #[.slice R1 r.vs.length c1, .slice R2 r.fs.length c2, .slice R3 r.ks.length c3] 26)) := bel_alloc hb3 _
  have h1b := h1.below (bel_alloc (Below.refl _ _) (.cells #[.slice R1 r.vs.length c1, .slice R2 r.fs.length c2, .slice R3 r.ks.length c3] 26))
  clear x0 x1 x2 xl cL h1 h2 h3 hb3
  generalize W3.alloc (.cells #[.slice R1 r.vs.length c1, .slice R2 r.fs.length c2, .slice R3 r.ks.length c3] 26) = W4 at *
  generalize W3.heap.size = T at *
  have hB4 := bel_trans hB2 hb4
  have hC4 := hC2.below hb4
  clear hB2 hC2 hb4
  have cB := bound_any W4 A1 k1 vs fs ks (v1.below hB4) hcap (by omega)
  have x0 : W4.cell? ⟨W.heap.size, 0, none⟩ = some (.slice A1 vs.length k1) := hC4.cell 0
  have xl := hC4.lt
  go_upto_region 7 with (first | (go_at_call 17; (with_reducible refine cB.mono ?_); rintro e W5 ⟨lx, ly, lz, hx', hy', hz', ok, rfl, ⟨xg, rfl⟩, hin⟩) | fail)
  have hX : Blk ((grow W4 xg).alloc (.cells #[.int .i64 lx, .int .i64 ly, .int .i64 lz, .int .i64 hx', .int .i64 hy', .int .i64 hz'] 42)) (grow W4 xg).heap.size 42 #[.int .i64 lx, .int .i64 ly, .int .i64 lz, .int .i64 hx', .int .i64 hy', .int .i64 hz'] := Blk.new _ _ _ _ rfl
  have hb5 : Below W4.heap.size W4 ((grow W4 xg).alloc (.cells #[.int .i64 lx, .int .i64 ly, .int .i64 lz, .int .i64 hx', .int .i64 hy', .int .i64 hz'] 42)) := bel_alloc (bel_grow (Below.refl _ _) xg) _
  have hB5 := bel_trans hB4 hb5
  have hT5 := hT.below hb5
  have h1c := h1b.below hb5
  clear x0 xl cB hT h1b hC4 hB4 hb5
  generalize (grow W4 xg).alloc (.cells #[.int .i64 lx, .int .i64 ly, .int .i64 lz, .int .i64 hx', .int .i64 hy', .int .i64 hz'] 42) = W5 at *
  generalize (grow W4 xg).heap.size = X at *
  have t0 : W5.cell? ⟨T, 0, none⟩ = some (.slice R1 r.vs.length c1) := hT5.cell 0
  have t1 : W5.cell? ⟨T, 1, none⟩ = some (.slice R2 r.fs.length c2) := hT5.cell 1
  have t2 : W5.cell? ⟨T, 2, none⟩ = some (.slice R3 r.ks.length c3) := hT5.cell 2
  have tl := hT5.lt
  have hL2 : (er = 14 ∨ er = 21) ∨ (er = 0 ∧ (ok = true → ∀ p ∈ r.vs, inB lx ly lz hx' hy' hz' p.x p.y p.z = true) ∧ r.vs.length ≤ 1000000) := by
    cases hL with
    | noSurf h => exact .inl (.inl rfl)
    | noEdge t hTS h => exact .inl (.inl rfl)
    | large t hTS sh h hf => exact .inl (.inr rfl)
    | fine t hTS sh h hf =>
      simp only at hTS
      have hel : t.es.length ≤ tot fs := by have h1 := edges_le hTS.walk hTS.edges; rw [waysL_len] at h1; exact h1
      refine .inr ⟨rfl, fun ho => hin ho t sh hTS h hf, ?_⟩
      simp only [levC, List.length_append, movedL_len, halvesL_len, midsL_len]
      omega
  replace hL2 := Lib.hid hL2
  clear hL hin hT5
  rcases hL2.out with (rfl | rfl) | ⟨rfl, hin, hrl⟩
  · clear hL2 t0 t1 t2 tl
    go_wp2
    go_ret
    exact ⟨rfl, hB5⟩
  · clear hL2 t0 t1 t2 tl
    go_wp2
    go_ret
    exact ⟨rfl, hB5⟩
  cases ok with
  | false =>
    clear hL2 hin t0 t1 t2 tl
    go_wp2
    go_ret
    exact ⟨rfl, hB5⟩
  | true =>
    replace hin := hin rfl
    generalize r.vs = rv at *
    replace hin := Lib.hid hin
    clear hL2 t1 t2
    have y0 : W5.cell? ⟨X, 0, none⟩ = some (.int .i64 lx) := hX.cell 0
    have y1 : W5.cell? ⟨X, 1, none⟩ = some (.int .i64 ly) := hX.cell 1
    have y2 : W5.cell? ⟨X, 2, none⟩ = some (.int .i64 lz) := hX.cell 2
    have y3 : W5.cell? ⟨X, 3, none⟩ = some (.int .i64 hx') := hX.cell 3
    have y4 : W5.cell? ⟨X, 4, none⟩ = some (.int .i64 hy') := hX.cell 4
    have y5 : W5.cell? ⟨X, 5, none⟩ = some (.int .i64 hz') := hX.cell 5
    have yl := hX.lt
    clear hX
    go_wp2
    go_loopw [7] (fun iv wz => Below W.heap.size W wz ∧ Below W5.heap.size W5 wz ∧ ∃ (v : Nat), iv = .int .i64 (v : Int) ∧ v ≤ rv.length) (fun iv _ => rv.length - (intOf iv).toNat)
    case atStart => exact ⟨hB5, Below.refl _ _, 0, rfl, by omega⟩
    case round =>
      obtain ⟨hBz, hbz, v, rfl, hv⟩ := hrel
      rename World => wz
      have t0' := (hbz.cell (p := ⟨T, 0, none⟩) tl).trans t0
      have y0' := (hbz.cell (p := ⟨X, 0, none⟩) yl).trans y0
      have y1' := (hbz.cell (p := ⟨X, 1, none⟩) yl).trans y1
      have y2' := (hbz.cell (p := ⟨X, 2, none⟩) yl).trans y2
      have y3' := (hbz.cell (p := ⟨X, 3, none⟩) yl).trans y3
      have y4' := (hbz.cell (p := ⟨X, 4, none⟩) yl).trans y4
      have y5' := (hbz.cell (p := ⟨X, 5, none⟩) yl).trans y5
      have tl' := Nat.lt_of_lt_of_le tl hbz.size
      have yl' := Nat.lt_of_lt_of_le yl hbz.size
      have hR := h1c.below hbz
      clear t0 tl y0 y1 y2 y3 y4 y5 yl hB5
      by_cases hvl : v < rv.length
      · obtain ⟨b1, o1, rfl, hb1, hc1⟩ := hR (by omega)
        obtain ⟨r1, r2, r3⟩ := hc1 v hvl
        have hi1 := hin.out _ (List.getElem_mem hvl)
        generalize rv[v] = p at *
        have kH := vHas_any lx ly lz hx' hy' hz' p.x p.y p.z
        rw [hi1] at kH
        have q0 : (0 : Int) ≤ (v : Int) := by omega
        have q1 : (v : Int) < (rv.length : Int) := by omega
        clear hc1 hR hi1
        go_upto_region 12 with (fail)
        refine wp_region_grow (by kernel_rfl) (by kernel_rfl) ?_
        repeat (go_big_quiet_step ((first | with_reducible exact kH.quiet _ | with_reducible exact kH.quiet2 _ _)))
        refine wpQuiet_nil ?_
        rintro _ ⟨xg2, rfl⟩
        have hB9 := bel_grow hBz xg2
        have hb9 := bel_grow hbz xg2
        go_wp2
        go_roundw
        case rel => exact ⟨hB9, hb9, v + 1, by go_num, by omega⟩
        case measure => simp [intOf]; omega
      · obtain rfl : v = rv.length := by omega
        go_wp2
        go_ret
        exact ⟨rfl, hBz⟩

theorem own : ownKnob Try.prog.godebug = none := by kernel_rfl
set_option maxRecDepth 100000 in
theorem lifted (os : Os) (started : os.Started) (H : Type) (enc : TypeId × Value → H) :
    ReturnsInHanded {} Try.checked os 4 .any (Rows.subInsideSpec.pre6 enc Try.prog Try.f4 Rows.subInsideRow.domain false) (Rows.subInsideSpec.post enc Try.prog Try.f4 false true false false) := by
  refine returnsInHanded_of_change_sized (C := Try.checked) own started (by kernel_rfl) Try.func4
    (ChangeSpec.witness6 (enc := enc) (C := Try.checked) false ⟨#[], #[.agg #[.slice none 0 0, .slice none 0 0, .slice none 0 0]], []⟩ 12 (by kernel_rfl) (by kernel_rfl) (by kernel_rfl) (by kernel_rfl)) ?_
  intro W base args ds gs before hval0 hW hcnd hwt _
  have hval : ∀ (j : Nat) t v, Try.f4.params[j]? = some t → args[j]? = some v → Value.okWide Try.prog W .any base t v := hval0
  have hW' := hW
  obtain ⟨p, q, hA0, hV, rfl, hfz, hnd⟩ := hW
  have hA : DataW.TrodAll enc Try.prog W 0 (fun _ => true) true Try.f4.params.toList args.toList ds p := hA0
  rw [Try.params4] at hA hval
  obtain ⟨v0, vs0, d0, ds0, p0, q0, hargs, rfl, rfl, h0, r0⟩ := trodAll_cons hA
  obtain ⟨rfl, rfl, rfl⟩ := trodAll_nil r0
  obtain rfl : args = #[v0] := by cases args; simp_all
  obtain ⟨cs0, rfl, hsz0⟩ := okWide_struct Try.underlying26 (hval 0 26 v0 rfl rfl)
  rw [szCg] at hsz0
  have hTW0 : TW enc Try.prog W 0 (fun _ => true) true 26 cs0.toList := by
    obtain ⟨fu, hfu⟩ := h0
    refine ⟨fu, _, hfu, fun n hn => ?_⟩
    have := List.all_eq_true.1 hwt n (DataW.weights_mem_each (j := 0) (t := 26) (d := d0) (by rw [Try.params4]; rfl) (by rfl) n hn)
    simpa using this
  obtain ⟨c0, A01, A02, A03, k01, k02, k03, ecs0, hraw0⟩ := open_Cage (by simpa using hsz0) hTW0
  have hcap0 : c0.vs.length ≤ k01 := by have h := hTW0; rw [ecs0] at h; exact cage_cap h
  obtain rfl : cs0 = #[.slice A01 c0.vs.length k01, .slice A02 c0.fs.length k02, .slice A03 c0.ks.length k03] := Array.ext' ecs0
  clear hTW0
  refine (walk W c0 A01 A02 A03 k01 k02 k03 hraw0 hcap0).mono fun e W' ⟨he, hb⟩ => ?_
  subst he
  exact ⟨_, rfl, law_post (tb := 4) (by kernel_rfl) (by kernel_rfl) rfl rfl Try.underlying4 rfl rfl rfl hW' hb⟩

theorem over : Rows.subInsideRow.holds Try.pinned (OpenSpec.ofChange Rows.subInsideSpec) :=
  OpenClaim.holds_of_wide 4 Try.f4 rfl rfl rfl rfl rfl rfl rfl ⟨rfl, rfl, rfl, rfl, rfl⟩ rfl rfl rfl rfl rfl (by kernel_rfl) Try.func4 (by kernel_rfl)
    (of_decide_eq_true (by kernel_rfl)) (by unfold Func.isWrapper; first | (rw [if_pos (by decide +kernel)]; kernel_rfl) | (rw [if_neg (by decide +kernel)]; exact ⟨rfl, rfl⟩))
    (fun os started H enc _ => lifted os started H enc)

theorem proved : Rows.SubInsideSaid :=
  over
#print axioms proved
end Go.Proofs.Ythpdplpjpopenaa.subInside
