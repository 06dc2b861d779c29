/- SubScaled holds for every input: the row, out of the walk. No condition. -/
import Derived.SizedLaws
import Derived.Test.YtiaikceoodeboaaRows
import Derived.Test.YtiaikceoodeboaaSubSe
import Derived.Test.YtiaikceoodeboaaC2
import Derived.Test.YtiaikceoodeboaaC13
import Derived.Test.YtiaikceoodeboaaC14
import Derived.Test.YtiaikceoodeboaaC15
namespace Go.Proofs.Ytiaikceoodeboaa.subScaled
open Go.ChangeShapes Go.WideShapes Go.ChangeAt Go.RowKit
set_option linter.unusedVariables false
set_option linter.unusedSimpArgs false
set_option linter.unnecessarySimpa false
set_option maxRecDepth 100000 in
set_option maxHeartbeats 16000000 in
theorem many (W : World) (vs : List P3) (fs : List (List Int)) (ks : List P3) (A1 A2 A3 : Option Addr) (k1 k2 k3 : Nat) (hc : RawC W ⟨vs, fs, ks⟩ A1 A2 A3) (hs1 : SL A1 vs.length k1) (hs3 : SL A3 ks.length k3) (lv : Int) (hlv : i64B lv) (h20 : (20 : Int) < (vs.length : Int)) :
    Calls Try.prog 5 #[.agg #[.slice A1 vs.length k1, .slice A2 fs.length k2, .slice A3 ks.length k3], .int .i64 lv] W fun e W' => e = .returned (.bool true) ∧ Below W.heap.size W W' := by
  obtain ⟨l1, l2, l3, i1, i2, i3, v1, v2, v3⟩ := hc
  simp only at l1 l2 l3 i1 i2 i3 v1 v2 v3
  obtain ⟨hx, hi⟩ := row_lens i2
  rw [reach_num] at l1 l2 l3
  have hb0 : Below W.heap.size W (W.alloc (.cells #[.slice A1 vs.length k1, .slice A2 fs.length k2, .slice A3 ks.length k3] 26)) := bel_alloc (Below.refl _ _) _
  have hC0 : Blk (W.alloc (.cells #[.slice A1 vs.length k1, .slice A2 fs.length k2, .slice A3 ks.length k3] 26)) W.heap.size 26 #[.slice A1 vs.length k1, .slice A2 fs.length k2, .slice A3 ks.length k3] := Blk.new _ _ _ _ rfl
  replace hs1 := Lib.hid hs1
  replace hs3 := Lib.hid hs3
  go_enter Try.func5, Try.ntmps5
  go_upto_region 1 with (fail)
  generalize W.alloc (.cells #[.slice A1 vs.length k1, .slice A2 fs.length k2, .slice A3 ks.length k3] 26) = W0 at *
  go_upto_region 3 with (first | (go_at_call 10; (with_reducible refine (alive9_any _).mono ?_); rintro e W1 ⟨rfl, hb1⟩) | fail)
  have hB1 := bel_trans hb0 hb1
  have hC1 := hC0.below hb1
  have x0 : W1.cell? ⟨W.heap.size, 0, none⟩ = some (.slice A1 vs.length k1) := hC1.cell 0
  have x1 : W1.cell? ⟨W.heap.size, 1, none⟩ = some (.slice A2 fs.length k2) := hC1.cell 1
  have x2 : W1.cell? ⟨W.heap.size, 2, none⟩ = some (.slice A3 ks.length k3) := hC1.cell 2
  have xl := hC1.lt
  have cW := weigh_any W1 A1 A2 A3 vs.length ks.length k1 k2 k3 60 fs (v2.below hB1) (by omega) (by omega) (by omega) (by omega) hx
  rw [show ((60 : Nat) : Int) = 60 from rfl] at cW
  clear hb0 hC0 hb1
  clear cW
  go_wp2
  go_ret
  exact ⟨rfl, hB1⟩
set_option maxRecDepth 100000 in
set_option maxHeartbeats 16000000 in
theorem low (W : World) (vs : List P3) (fs : List (List Int)) (ks : List P3) (A1 A2 A3 : Option Addr) (k1 k2 k3 : Nat) (hc : RawC W ⟨vs, fs, ks⟩ A1 A2 A3) (hs1 : SL A1 vs.length k1) (hs3 : SL A3 ks.length k3) (lv : Int) (hlv : i64B lv) (h20 : ¬ (20 : Int) < (vs.length : Int)) (h1 : lv < 1) :
    Calls Try.prog 5 #[.agg #[.slice A1 vs.length k1, .slice A2 fs.length k2, .slice A3 ks.length k3], .int .i64 lv] W fun e W' => e = .returned (.bool true) ∧ Below W.heap.size W W' := by
  obtain ⟨l1, l2, l3, i1, i2, i3, v1, v2, v3⟩ := hc
  simp only at l1 l2 l3 i1 i2 i3 v1 v2 v3
  obtain ⟨hx, hi⟩ := row_lens i2
  rw [reach_num] at l1 l2 l3
  have hb0 : Below W.heap.size W (W.alloc (.cells #[.slice A1 vs.length k1, .slice A2 fs.length k2, .slice A3 ks.length k3] 26)) := bel_alloc (Below.refl _ _) _
  have hC0 : Blk (W.alloc (.cells #[.slice A1 vs.length k1, .slice A2 fs.length k2, .slice A3 ks.length k3] 26)) W.heap.size 26 #[.slice A1 vs.length k1, .slice A2 fs.length k2, .slice A3 ks.length k3] := Blk.new _ _ _ _ rfl
  replace hs1 := Lib.hid hs1
  replace hs3 := Lib.hid hs3
  go_enter Try.func5, Try.ntmps5
  go_upto_region 1 with (fail)
  generalize W.alloc (.cells #[.slice A1 vs.length k1, .slice A2 fs.length k2, .slice A3 ks.length k3] 26) = W0 at *
  go_upto_region 3 with (first | (go_at_call 10; (with_reducible refine (alive9_any _).mono ?_); rintro e W1 ⟨rfl, hb1⟩) | fail)
  have hB1 := bel_trans hb0 hb1
  have hC1 := hC0.below hb1
  have x0 : W1.cell? ⟨W.heap.size, 0, none⟩ = some (.slice A1 vs.length k1) := hC1.cell 0
  have x1 : W1.cell? ⟨W.heap.size, 1, none⟩ = some (.slice A2 fs.length k2) := hC1.cell 1
  have x2 : W1.cell? ⟨W.heap.size, 2, none⟩ = some (.slice A3 ks.length k3) := hC1.cell 2
  have xl := hC1.lt
  have cW := weigh_any W1 A1 A2 A3 vs.length ks.length k1 k2 k3 60 fs (v2.below hB1) (by omega) (by omega) (by omega) (by omega) hx
  rw [show ((60 : Nat) : Int) = 60 from rfl] at cW
  clear hb0 hC0 hb1
  go_wp2_with (first | (go_at_call 20; (with_reducible refine cW.mono ?_); rintro e W2 ⟨n, rfl, hb2, hn⟩; have hB2 := bel_trans hB1 hb2; clear hn) | fail)
  all_goals
    go_ret
    exact ⟨rfl, hB2⟩
set_option maxRecDepth 100000 in
set_option maxHeartbeats 16000000 in
theorem high (W : World) (vs : List P3) (fs : List (List Int)) (ks : List P3) (A1 A2 A3 : Option Addr) (k1 k2 k3 : Nat) (hc : RawC W ⟨vs, fs, ks⟩ A1 A2 A3) (hs1 : SL A1 vs.length k1) (hs3 : SL A3 ks.length k3) (lv : Int) (hlv : i64B lv) (h20 : ¬ (20 : Int) < (vs.length : Int)) (h1 : ¬ lv < 1) (h2 : 2 < lv) :
    Calls Try.prog 5 #[.agg #[.slice A1 vs.length k1, .slice A2 fs.length k2, .slice A3 ks.length k3], .int .i64 lv] W fun e W' => e = .returned (.bool true) ∧ Below W.heap.size W W' := by
  obtain ⟨l1, l2, l3, i1, i2, i3, v1, v2, v3⟩ := hc
  simp only at l1 l2 l3 i1 i2 i3 v1 v2 v3
  obtain ⟨hx, hi⟩ := row_lens i2
  rw [reach_num] at l1 l2 l3
  have hb0 : Below W.heap.size W (W.alloc (.cells #[.slice A1 vs.length k1, .slice A2 fs.length k2, .slice A3 ks.length k3] 26)) := bel_alloc (Below.refl _ _) _
  have hC0 : Blk (W.alloc (.cells #[.slice A1 vs.length k1, .slice A2 fs.length k2, .slice A3 ks.length k3] 26)) W.heap.size 26 #[.slice A1 vs.length k1, .slice A2 fs.length k2, .slice A3 ks.length k3] := Blk.new _ _ _ _ rfl
  replace hs1 := Lib.hid hs1
  replace hs3 := Lib.hid hs3
  go_enter Try.func5, Try.ntmps5
  go_upto_region 1 with (fail)
  generalize W.alloc (.cells #[.slice A1 vs.length k1, .slice A2 fs.length k2, .slice A3 ks.length k3] 26) = W0 at *
  go_upto_region 3 with (first | (go_at_call 10; (with_reducible refine (alive9_any _).mono ?_); rintro e W1 ⟨rfl, hb1⟩) | fail)
  have hB1 := bel_trans hb0 hb1
  have hC1 := hC0.below hb1
  have x0 : W1.cell? ⟨W.heap.size, 0, none⟩ = some (.slice A1 vs.length k1) := hC1.cell 0
  have x1 : W1.cell? ⟨W.heap.size, 1, none⟩ = some (.slice A2 fs.length k2) := hC1.cell 1
  have x2 : W1.cell? ⟨W.heap.size, 2, none⟩ = some (.slice A3 ks.length k3) := hC1.cell 2
  have xl := hC1.lt
  have cW := weigh_any W1 A1 A2 A3 vs.length ks.length k1 k2 k3 60 fs (v2.below hB1) (by omega) (by omega) (by omega) (by omega) hx
  rw [show ((60 : Nat) : Int) = 60 from rfl] at cW
  clear hb0 hC0 hb1
  go_wp2_with (first | (go_at_call 20; (with_reducible refine cW.mono ?_); rintro e W2 ⟨n, rfl, hb2, hn⟩; have hB2 := bel_trans hB1 hb2; clear hn) | fail)
  all_goals
    go_ret
    exact ⟨rfl, hB2⟩
set_option maxRecDepth 100000 in
set_option maxHeartbeats 16000000 in
theorem main (W : World) (vs : List P3) (fs : List (List Int)) (ks : List P3) (A1 A2 A3 : Option Addr) (k1 k2 k3 : Nat) (hc : RawC W ⟨vs, fs, ks⟩ A1 A2 A3) (hs1 : SL A1 vs.length k1) (hs3 : SL A3 ks.length k3) (lv : Int) (hlv : i64B lv) (h20 : ¬ (20 : Int) < (vs.length : Int)) (m : Nat) (hm : lv = (m : Int)) (hm1 : 1 ≤ m) (hm2 : m ≤ 2) :
    Calls Try.prog 5 #[.agg #[.slice A1 vs.length k1, .slice A2 fs.length k2, .slice A3 ks.length k3], .int .i64 lv] W fun e W' => e = .returned (.bool true) ∧ Below W.heap.size W W' := by
  subst hm
  have h1 : ¬ (m : Int) < 1 := by omega
  have h2 : ¬ (2 : Int) < (m : Int) := by omega
  obtain ⟨l1, l2, l3, i1, i2, i3, v1, v2, v3⟩ := hc
  simp only at l1 l2 l3 i1 i2 i3 v1 v2 v3
  obtain ⟨hx, hi⟩ := row_lens i2
  rw [reach_num] at l1 l2 l3
  have hb0 : Below W.heap.size W (W.alloc (.cells #[.slice A1 vs.length k1, .slice A2 fs.length k2, .slice A3 ks.length k3] 26)) := bel_alloc (Below.refl _ _) _
  have hC0 : Blk (W.alloc (.cells #[.slice A1 vs.length k1, .slice A2 fs.length k2, .slice A3 ks.length k3] 26)) W.heap.size 26 #[.slice A1 vs.length k1, .slice A2 fs.length k2, .slice A3 ks.length k3] := Blk.new _ _ _ _ rfl
  replace hs1 := Lib.hid hs1
  replace hs3 := Lib.hid hs3
  go_enter Try.func5, Try.ntmps5
  go_upto_region 1 with (fail)
  generalize W.alloc (.cells #[.slice A1 vs.length k1, .slice A2 fs.length k2, .slice A3 ks.length k3] 26) = W0 at *
  go_upto_region 3 with (first | (go_at_call 10; (with_reducible refine (alive9_any _).mono ?_); rintro e W1 ⟨rfl, hb1⟩) | fail)
  have hB1 := bel_trans hb0 hb1
  have hC1 := hC0.below hb1
  have x0 : W1.cell? ⟨W.heap.size, 0, none⟩ = some (.slice A1 vs.length k1) := hC1.cell 0
  have x1 : W1.cell? ⟨W.heap.size, 1, none⟩ = some (.slice A2 fs.length k2) := hC1.cell 1
  have x2 : W1.cell? ⟨W.heap.size, 2, none⟩ = some (.slice A3 ks.length k3) := hC1.cell 2
  have xl := hC1.lt
  have cW := weigh_any W1 A1 A2 A3 vs.length ks.length k1 k2 k3 60 fs (v2.below hB1) (by omega) (by omega) (by omega) (by omega) hx
  rw [show ((60 : Nat) : Int) = 60 from rfl] at cW
  clear hb0 hC0 hb1
  go_upto_region 5 with (first | (go_at_call 20; (with_reducible refine cW.mono ?_); rintro e W2 ⟨n, rfl, hb2, hn⟩; have hB2 := bel_trans hB1 hb2; have hC2 := hC1.below hb2; replace hn := Lib.hid hn) | fail)
  rotate_left
  · go_ret
    exact ⟨rfl, hB2⟩
  have hsz : vs.length + ks.length + fs.length + tot fs ≤ 60 := by rcases hn.out with h | ⟨h, he⟩ <;> omega
  clear hn cW x0 x1 x2 xl hC1 hB1 hb2
  have cC := copyC_any W2 A1 A2 A3 k1 k2 k3 vs fs ks (v1.below hB2) (v2.below hB2) (v3.below hB2) hs1.out hs3.out (by omega) (by omega) (by omega) (fun x hx1 => by have := hx x hx1; have := len_tot hx1; omega)
  have x0 : W2.cell? ⟨W.heap.size, 0, none⟩ = some (.slice A1 vs.length k1) := hC2.cell 0
  have x1 : W2.cell? ⟨W.heap.size, 1, none⟩ = some (.slice A2 fs.length k2) := hC2.cell 1
  have x2 : W2.cell? ⟨W.heap.size, 2, none⟩ = some (.slice A3 ks.length k3) := hC2.cell 2
  have xl := hC2.lt
  go_upto_region 6 with (first | (go_at_call 18; (with_reducible refine cC.mono ?_); rintro e W3 ⟨B1, B2, B3, d1, d2, d3, rfl, hb3', r1, g1, q1⟩) | fail)
  have hM4 : Blk (W3.alloc (.cells #[.slice B1 vs.length d1, .slice B2 fs.length d2, .slice B3 ks.length d3] 26)) W3.heap.size 26 #[.slice B1 vs.length d1, .slice B2 fs.length d2, .slice B3 ks.length d3] := Blk.new _ _ _ _ rfl
  have hba : Below W3.heap.size W3 (W3.alloc (.cells #[.slice B1 vs.length d1, .slice B2 fs.length d2, .slice B3 ks.length d3] 26)) := bel_alloc (Below.refl _ _) _
  have hb4 : Below W2.heap.size W2 (W3.alloc (.cells #[.slice B1 vs.length d1, .slice B2 fs.length d2, .slice B3 ks.length d3] 26)) := bel_alloc hb3' _
  have hPM : W.heap.size < W3.heap.size := Nat.lt_of_lt_of_le xl hb3'.size
  have hK : KS W.heap.size #[.slice A1 vs.length k1, .slice A2 fs.length k2, .slice A3 ks.length k3] W3.heap.size B1 B2 B3 d1 d2 d3 vs fs ks W2.heap.size 0 (W3.alloc (.cells #[.slice B1 vs.length d1, .slice B2 fs.length d2, .slice B3 ks.length d3] 26)) :=
    ⟨hC2.below hb4, hM4, by rw [rowAt_zero]; exact own_lay r1 hba, g1.lay hba, own_lay q1 hba, hC2.lt⟩
  have hB4 := bel_trans hB2 hb4
  clear x0 x1 x2 xl cC hb3' hba hb4 hC2 hM4 r1 g1 q1 hB2
  generalize W3.alloc (.cells #[.slice B1 vs.length d1, .slice B2 fs.length d2, .slice B3 ks.length d3] 26) = W4 at *
  generalize W3.heap.size = M at *
  generalize W2.heap.size = qb at *
  go_wp2
  go_loopw [6] (fun iv wr => ∃ i : Nat, iv = .int .i64 (i : Int) ∧ i ≤ vs.length ∧ Hid (∀ j (hj : j < vs.length), j < i → InP 4000 vs[j]) ∧ Below W.heap.size W wr ∧ KS W.heap.size #[.slice A1 vs.length k1, .slice A2 fs.length k2, .slice A3 ks.length k3] M B1 B2 B3 d1 d2 d3 vs fs ks qb i wr) (fun iv _ => vs.length - (intOf iv).toNat)
  case atStart => exact ⟨0, rfl, by omega, Lib.hid (fun j _ h => by omega), hB4, hK⟩
  case round =>
    obtain ⟨i, rfl, hi1, hin, hBr, hK⟩ := hrel
    rename World => wr
    have x0 : wr.cell? ⟨W.heap.size, 0, none⟩ = some (.slice A1 vs.length k1) := hK.c.cell 0
    have xl := hK.c.lt
    clear hB4
    by_cases hlt : i < vs.length
    · obtain ⟨ba, oa, rfl, hba, a0, a1, a2⟩ := (v1.below hBr).at_ i hlt
      obtain ⟨p, hp⟩ : ∃ p, vs[i] = p := ⟨_, rfl⟩
      rw [hp] at a0 a1 a2
      obtain ⟨wb, hwb⟩ : ∃ wb, wiB p.x p.y p.z 4000 = wb := ⟨_, rfl⟩
      have kV := vWithin_any p.x p.y p.z 4000 (by omega)
      rw [hwb] at kV
      have q0 : (0 : Int) ≤ (i : Int) := by omega
      have q1i : (i : Int) < (vs.length : Int) := by omega
      replace hp := Lib.hid hp
      replace hwb := Lib.hid hwb
      cases wb with
      | false =>
        clear hK
        go_wp2_with (first | (go_at_call 21; ((with_reducible refine (kV.at_ _).mono ?_); rintro e w' ⟨rfl, xg, rfl⟩)))
        go_ret
        exact ⟨rfl, bel_grow hBr xg⟩
      | true =>
        have hpb := (wiB_iff p.x p.y p.z 4000).1 hwb.out
        go_upto_region 11 with (first | (go_at_call 21; ((with_reducible refine (kV.at_ _).mono ?_); rintro e w' ⟨rfl, xg, rfl⟩)) | fail)
        have hB2 := bel_grow hBr xg
        have hK2 := hK.lay (bel_grow (Below.refl _ _) xg)
        clear x0 xl a0 a1 a2 hba hK hBr kV
        generalize grow wr xg = w2 at *
        obtain ⟨g, rfl, hgl, _, hgc⟩ := own_cell hK2.r1 (by omega)
        obtain ⟨c1, c2, c3⟩ := kC_at (rowAt scP i vs) i (by rw [rowAt_len]; exact hlt)
        have m0 := (hgc (i * 3) (by omega)).trans c1
        have m1 := (hgc (i * 3 + 1) (by omega)).trans c2
        have m2 := (hgc (i * 3 + 2) (by omega)).trans c3
        generalize (rowAt scP i vs)[i]'(by rw [rowAt_len]; exact hlt) = pp at m0 m1 m2
        have z0 : w2.cell? ⟨M, 0, none⟩ = some (.slice (some ⟨g, 0, none⟩) vs.length d1) := hK2.m.cell 0
        have zl := hK2.m.lt
        have x0 : w2.cell? ⟨W.heap.size, 0, none⟩ = some (.slice (some ⟨ba, oa, none⟩) vs.length k1) := hK2.c.cell 0
        have xl := hK2.c.lt
        obtain ⟨ba2, oa2, eA, hba, a0, a1, a2⟩ := (v1.below hB2).at_ i hlt
        simp only [Option.some.injEq, Addr.mk.injEq, and_true] at eA
        obtain ⟨rfl, rfl⟩ := eA
        rw [hp.out] at a0 a1 a2
        obtain ⟨sp, hsp⟩ : ∃ sp, scP p = sp := ⟨_, rfl⟩
        have kA := rScale_any p.x p.y p.z 16
        rw [show wrap64 (p.x * 16) = sp.x by rw [← hsp]; unfold scP wrap64; simp only; omega, show wrap64 (p.y * 16) = sp.y by rw [← hsp]; unfold scP wrap64; simp only; omega, show wrap64 (p.z * 16) = sp.z by rw [← hsp]; unfold scP wrap64; simp only; omega] at kA
        replace hsp := Lib.hid hsp
        clear hgc c1 c2 c3
        refine wp_region_tail 10 ?_ (by kernel_rfl) (by kernel_rfl) (by kernel_rfl) (fun x => ?_) (fun x => ?_)
        rotate_left
        · simp only [List.take_succ_cons, List.take_zero]
          repeat (go_big_quiet_step (((first | with_reducible exact kA.quiet _ | with_reducible exact kA.quiet2 _ _))))
          refine wpQuiet_nil ?_
          exact rfl
        simp only [List.drop_succ_cons, List.drop_zero]
        try simp only [Act.put, List.setIfInBounds_toArray, List.set_cons_succ, List.set_cons_zero]
        have hB4 := bel_grow hB2 x
        have hK4 := hK2.lay (bel_grow (Below.refl _ _) x)
        clear m0 m1 m2 z0 zl x0 xl a0 a1 a2 hba hgl hB2 hK2 kA
        generalize grow w2 x = w4 at *
        obtain ⟨hqg, cur, hcur⟩ := own_blk hK4.r1 (g := g) rfl
        obtain ⟨g', eg, hgl, _, hgc⟩ := own_cell hK4.r1 (by omega)
        obtain rfl : g = g' := by simpa using eg
        obtain ⟨c1, c2, c3⟩ := kC_at (rowAt scP i vs) i (by rw [rowAt_len]; exact hlt)
        have m0 := (hgc (i * 3) (by omega)).trans c1
        have m1 := (hgc (i * 3 + 1) (by omega)).trans c2
        have m2 := (hgc (i * 3 + 2) (by omega)).trans c3
        have f0 := hcur.frozen (i * 3)
        have f1 := hcur.frozen (i * 3 + 1)
        have f2 := hcur.frozen (i * 3 + 2)
        generalize (rowAt scP i vs)[i]'(by rw [rowAt_len]; exact hlt) = pq at m0 m1 m2
        have hlt1 := hK4.lt1
        have hK5 := hK4.step rfl hlt sp (by rw [hp.out]; exact hsp.out)
        have hB5 := bel_set (bel_set (bel_set hB4 (p := ⟨g, i * 3, none⟩) (by simp; omega) (.int .i64 sp.x)) (p := ⟨g, i * 3 + 1, none⟩) (by simp; omega) (.int .i64 sp.y)) (p := ⟨g, i * 3 + 2, none⟩) (by simp; omega) (.int .i64 sp.z)
        have hin2 : Hid (∀ j (hj : j < vs.length), j < i + 1 → InP 4000 vs[j]) := Lib.hid (fun j hj h => by
          by_cases e : j < i
          · exact hin.out j hj e
          · obtain rfl : j = i := by omega
            rw [hp.out]; exact ⟨hpb.2.1, hpb.2.2.1, hpb.2.2.2⟩)
        clear hcur hgc c1 c2 c3 eg hK4 hB4
        replace hK5 := Lib.hid hK5
        replace hB5 := Lib.hid hB5
        go_wp2
        go_roundw
        case rel => exact ⟨i + 1, by go_num, by omega, hin2, hB5.out, hK5.out⟩
        case measure => simp [intOf]; omega
    · obtain rfl : i = vs.length := by omega
      have hall : ∀ p ∈ vs, InP 4000 p := fun p hp => by obtain ⟨j, hj, rfl⟩ := List.getElem_of_mem hp; exact hin.out j hj hj
      have hpair := KS.pair hall hi i3 (by omega)
      have r1 := hK.r1
      rw [rowAt_all] at r1
      have u1 := VL_own (base := qb) (ps := vs.map scP) (c := d1) (A := B1) (e := 42) (by rw [List.length_map]; exact r1)
      have hMb : Blk wr M 26 #[.slice B1 (vs.map scP).length d1, .slice B2 fs.length d2, .slice B3 ks.length d3] := by rw [List.length_map]; exact hK.m
      have u2 := hK.g1.fl
      have u3 := VL_own hK.k1
      have hCb := hK.c
      have y1 := v1.below hBr
      have y2 := v2.below hBr
      have y3 := v3.below hBr
      clear hin hall r1 hK
      go_upto_region 12 with (fail)
      clear x0 xl
      go_wp2
      go_loopw [7] (fun iv wr => ∃ (k : Nat) (a b : Cg) (a1 a2 a3 b1 b2 b3 : Option Addr) (u1 u2 u3 w1 w2 w3 : Nat), iv = .int .i64 (k : Int) ∧ k ≤ m ∧ Below W.heap.size W wr ∧ Blk wr W.heap.size 26 #[.slice a1 a.vs.length u1, .slice a2 a.fs.length u2, .slice a3 a.ks.length u3] ∧ Blk wr M 26 #[.slice b1 b.vs.length w1, .slice b2 b.fs.length w2, .slice b3 b.ks.length w3] ∧ VL wr a1 a.vs ∧ FL wr a2 a.fs ∧ VL wr a3 a.ks ∧ VL wr b1 b.vs ∧ FL wr b2 b.fs ∧ VL wr b3 b.ks ∧ Pair a b k) (fun iv _ => m - (intOf iv).toNat)
      case atStart => exact ⟨0, ⟨vs, fs, ks⟩, ⟨vs.map scP, fs, ks⟩, A1, A2, A3, B1, B2, B3, k1, k2, k3, d1, d2, d3, rfl, by omega, hBr, hCb, hMb, y1, y2, y3, u1, u2, u3, hpair⟩
      case round =>
        obtain ⟨k, a, b, a1, a2, a3, b1, b2, b3, u1', u2', u3', w1, w2, w3, rfl, hk, hBq, hPq, hMq, ya, yb, yc, za, zb, zc, hpr⟩ := hrel
        clear hpair u1 u2 u3 hMb hCb y1 y2 y3 hBr
        rename World => wq
        by_cases hkm : k < m
        · have x0 : wq.cell? ⟨W.heap.size, 0, none⟩ = some (.slice a1 a.vs.length u1') := hPq.cell 0
          have x1 : wq.cell? ⟨W.heap.size, 1, none⟩ = some (.slice a2 a.fs.length u2') := hPq.cell 1
          have x2 : wq.cell? ⟨W.heap.size, 2, none⟩ = some (.slice a3 a.ks.length u3') := hPq.cell 2
          have xl := hPq.lt
          have q0 : (k : Int) < (m : Int) := by omega
          have cL := level2_any wq a a1 a2 a3 u1' u2' u3' (hpr.cgA (by omega) ya yb yc)
          have cLb := fun (w : World) (hb : Below wq.heap.size wq w) => level2_any w b b1 b2 b3 w1 w2 w3 (hpr.cgB (by omega) (za.below hb) (zb.below hb) (zc.below hb))
          replace cLb := Lib.hid cLb
          clear ya yb yc za zb zc
          go_upto_region 16 with (first | (go_at_call 12; (with_reducible refine cL.mono ?_); rintro e W7 ⟨r, R1, R2, R3, o1, o2, o3, er, rfl, hb7, h1, h2, h3, hL⟩) | fail)
          have hT1 : Blk (W7.alloc (.cells #[.slice R1 r.vs.length o1, .slice R2 r.fs.length o2, .slice R3 r.ks.length o3] 26)) W7.heap.size 26 #[.slice R1 r.vs.length o1, .slice R2 r.fs.length o2, .slice R3 r.ks.length o3] := Blk.new _ _ _ _ rfl
          have hba8 : Below W7.heap.size W7 (W7.alloc (.cells #[.slice R1 r.vs.length o1, .slice R2 r.fs.length o2, .slice R3 r.ks.length o3] 26)) := bel_alloc (Below.refl _ _) _
          have hb8 : Below wq.heap.size wq (W7.alloc (.cells #[.slice R1 r.vs.length o1, .slice R2 r.fs.length o2, .slice R3 r.ks.length o3] 26)) := bel_alloc hb7 _
          have hP8 := hPq.below hb8
          have hM8 := hMq.below hb8
          have hB8 := bel_trans hBq hb8
          have ya := h1.below hba8
          have yb := h2.below hba8
          have yc := h3.below hba8
          have cM := cLb.out _ hb8
          have hT1g : W.heap.size < W7.heap.size ∧ M < W7.heap.size := ⟨Nat.lt_of_lt_of_le hPq.lt hb7.size, Nat.lt_of_lt_of_le hMq.lt hb7.size⟩
          have hTq : wq.heap.size ≤ W7.heap.size := hb7.size
          have hPqs : W.heap.size < wq.heap.size ∧ M < wq.heap.size := ⟨hPq.lt, hMq.lt⟩
          clear x0 x1 x2 xl cL cLb h1 h2 h3 hb7 hb8 hba8 hPq hMq hBq
          generalize W7.alloc (.cells #[.slice R1 r.vs.length o1, .slice R2 r.fs.length o2, .slice R3 r.ks.length o3] 26) = w8 at *
          generalize W7.heap.size = T1 at *
          generalize wq.heap.size = hz at *
          have x0 : w8.cell? ⟨M, 0, none⟩ = some (.slice b1 b.vs.length w1) := hM8.cell 0
          have x1 : w8.cell? ⟨M, 1, none⟩ = some (.slice b2 b.fs.length w2) := hM8.cell 1
          have x2 : w8.cell? ⟨M, 2, none⟩ = some (.slice b3 b.ks.length w3) := hM8.cell 2
          have xl := hM8.lt
          go_upto_region 17 with (first | (go_at_call 12; (with_reducible refine cM.mono ?_); rintro e W9 ⟨r2, S1, S2, S3, f1, f2, f3, er2, rfl, hb7, h1, h2, h3, hL2⟩) | fail)
          have hT2 : Blk (W9.alloc (.cells #[.slice S1 r2.vs.length f1, .slice S2 r2.fs.length f2, .slice S3 r2.ks.length f3] 26)) W9.heap.size 26 #[.slice S1 r2.vs.length f1, .slice S2 r2.fs.length f2, .slice S3 r2.ks.length f3] := Blk.new _ _ _ _ rfl
          have hba8 : Below W9.heap.size W9 (W9.alloc (.cells #[.slice S1 r2.vs.length f1, .slice S2 r2.fs.length f2, .slice S3 r2.ks.length f3] 26)) := bel_alloc (Below.refl _ _) _
          have hb8 : Below w8.heap.size w8 (W9.alloc (.cells #[.slice S1 r2.vs.length f1, .slice S2 r2.fs.length f2, .slice S3 r2.ks.length f3] 26)) := bel_alloc hb7 _
          have hP9 := hP8.below hb8
          have hM9 := hM8.below hb8
          have hB9 := bel_trans hB8 hb8
          have hT19 := hT1.below hb8
          have hTT : T1 < W9.heap.size := Nat.lt_of_lt_of_le hT1.lt hb7.size
          have hMz : W.heap.size < w8.heap.size ∧ M < w8.heap.size := ⟨hP8.lt, hM8.lt⟩
          have ya9 := ya.below hb8
          have yb9 := yb.below hb8
          have yc9 := yc.below hb8
          have za9 := h1.below hba8
          have zb9 := h2.below hba8
          have zc9 := h3.below hba8
          have hlp := lev_pair hpr (by omega) hL hL2
          clear x0 x1 x2 xl cM h1 h2 h3 hb7 hb8 hba8 hP8 hM8 hB8 ya yb yc hT1 hL hL2 hpr
          generalize W9.alloc (.cells #[.slice S1 r2.vs.length f1, .slice S2 r2.fs.length f2, .slice S3 r2.ks.length f3] 26) = w10 at *
          generalize W9.heap.size = T2 at *
          generalize w8.heap.size = hy at *
          rcases hlp with ⟨rfl, rfl⟩ | ⟨rfl, rfl, hpr⟩
          · go_wp2
            go_ret
            exact ⟨rfl, hB9⟩
          · go_upto_region 21 with (fail)
            have t0 : w10.cell? ⟨T1, 0, none⟩ = some (.slice R1 r.vs.length o1) := hT19.cell 0
            have t1 : w10.cell? ⟨T1, 1, none⟩ = some (.slice R2 r.fs.length o2) := hT19.cell 1
            have t2 : w10.cell? ⟨T1, 2, none⟩ = some (.slice R3 r.ks.length o3) := hT19.cell 2
            have tl := hT19.lt
            have p0 := hP9.cell 0
            have p1 := hP9.cell 1
            have p2 := hP9.cell 2
            have pl := hP9.lt
            have f0 := hP9.frozen 0
            have f1' := hP9.frozen 1
            have f2' := hP9.frozen 2
            have hg := ((set_grown w10 W.heap.size 0 (.slice R1 r.vs.length o1)).trans (set_grown _ W.heap.size 1 (.slice R2 r.fs.length o2))).trans (set_grown _ W.heap.size 2 (.slice R3 r.ks.length o3))
            have hsl := slices3 a1 a2 a3 a.vs.length a.fs.length a.ks.length u1' u2' u3'
            have yaA := ya9.kept_slices hg hP9 hsl
            have ybA := yb9.kept hg hP9 hsl (by omega)
            have ycA := yc9.kept_slices hg hP9 hsl
            have zaA := za9.kept_slices hg hP9 hsl
            have zbA := zb9.kept hg hP9 hsl (by omega)
            have zcA := zc9.kept_slices hg hP9 hsl
            have hPA := ((hP9.set 0 (.slice R1 r.vs.length o1)).set 1 (.slice R2 r.fs.length o2)).set 2 (.slice R3 r.ks.length o3)
            have hMA := ((hM9.far (b := W.heap.size) 0 (.slice R1 r.vs.length o1) (by omega)).far (b := W.heap.size) 1 (.slice R2 r.fs.length o2) (by omega)).far (b := W.heap.size) 2 (.slice R3 r.ks.length o3) (by omega)
            have hTA := ((hT2.far (b := W.heap.size) 0 (.slice R1 r.vs.length o1) (by omega)).far (b := W.heap.size) 1 (.slice R2 r.fs.length o2) (by omega)).far (b := W.heap.size) 2 (.slice R3 r.ks.length o3) (by omega)
            have hBA := bel_set (bel_set (bel_set hB9 (p := ⟨W.heap.size, 0, none⟩) (Nat.le_refl _) (.slice R1 r.vs.length o1)) (p := ⟨W.heap.size, 1, none⟩) (Nat.le_refl _) (.slice R2 r.fs.length o2)) (p := ⟨W.heap.size, 2, none⟩) (Nat.le_refl _) (.slice R3 r.ks.length o3)
            clear hg hsl ya9 yb9 yc9 za9 zb9 zc9 hP9 hM9 hT2 hT19 hB9
            go_upto_region 22 with (fail)
            generalize ((w10.setCell ⟨W.heap.size, 0, none⟩ (.slice R1 r.vs.length o1)).setCell ⟨W.heap.size, 1, none⟩ (.slice R2 r.fs.length o2)).setCell ⟨W.heap.size, 2, none⟩ (.slice R3 r.ks.length o3) = w11 at *
            clear t0 t1 t2 tl p0 p1 p2 pl f0 f1' f2'
            have t0 : w11.cell? ⟨T2, 0, none⟩ = some (.slice S1 r2.vs.length f1) := hTA.cell 0
            have t1 : w11.cell? ⟨T2, 1, none⟩ = some (.slice S2 r2.fs.length f2) := hTA.cell 1
            have t2 : w11.cell? ⟨T2, 2, none⟩ = some (.slice S3 r2.ks.length f3) := hTA.cell 2
            have tl := hTA.lt
            have p0 := hMA.cell 0
            have p1 := hMA.cell 1
            have p2 := hMA.cell 2
            have pl := hMA.lt
            have g0 := hMA.frozen 0
            have g1 := hMA.frozen 1
            have g2 := hMA.frozen 2
            have hg := ((set_grown w11 M 0 (.slice S1 r2.vs.length f1)).trans (set_grown _ M 1 (.slice S2 r2.fs.length f2))).trans (set_grown _ M 2 (.slice S3 r2.ks.length f3))
            have hsl := slices3 b1 b2 b3 b.vs.length b.fs.length b.ks.length w1 w2 w3
            have yaB := yaA.kept_slices hg hMA hsl
            have ybB := ybA.kept hg hMA hsl (by omega)
            have ycB := ycA.kept_slices hg hMA hsl
            have zaB := zaA.kept_slices hg hMA hsl
            have zbB := zbA.kept hg hMA hsl (by omega)
            have zcB := zcA.kept_slices hg hMA hsl
            have hPB := ((hPA.far (b := M) 0 (.slice S1 r2.vs.length f1) (by omega)).far (b := M) 1 (.slice S2 r2.fs.length f2) (by omega)).far (b := M) 2 (.slice S3 r2.ks.length f3) (by omega)
            have hMB := ((hMA.set 0 (.slice S1 r2.vs.length f1)).set 1 (.slice S2 r2.fs.length f2)).set 2 (.slice S3 r2.ks.length f3)
            have hBB := bel_set (bel_set (bel_set hBA (p := ⟨M, 0, none⟩) (by show _ ≤ M; omega) (.slice S1 r2.vs.length f1)) (p := ⟨M, 1, none⟩) (by show _ ≤ M; omega) (.slice S2 r2.fs.length f2)) (p := ⟨M, 2, none⟩) (by show _ ≤ M; omega) (.slice S3 r2.ks.length f3)
            have hrel2 : Hid (∃ (k' : Nat) (a b : Cg) (a1 a2 a3 b1 b2 b3 : Option Addr) (u1 u2 u3 w1 w2 w3 : Nat), k' = k + 1 ∧ Below W.heap.size W (((w11.setCell ⟨M, 0, none⟩ (.slice S1 r2.vs.length f1)).setCell ⟨M, 1, none⟩ (.slice S2 r2.fs.length f2)).setCell ⟨M, 2, none⟩ (.slice S3 r2.ks.length f3)) ∧ Blk (((w11.setCell ⟨M, 0, none⟩ (.slice S1 r2.vs.length f1)).setCell ⟨M, 1, none⟩ (.slice S2 r2.fs.length f2)).setCell ⟨M, 2, none⟩ (.slice S3 r2.ks.length f3)) W.heap.size 26 #[.slice a1 a.vs.length u1, .slice a2 a.fs.length u2, .slice a3 a.ks.length u3] ∧ Blk (((w11.setCell ⟨M, 0, none⟩ (.slice S1 r2.vs.length f1)).setCell ⟨M, 1, none⟩ (.slice S2 r2.fs.length f2)).setCell ⟨M, 2, none⟩ (.slice S3 r2.ks.length f3)) M 26 #[.slice b1 b.vs.length w1, .slice b2 b.fs.length w2, .slice b3 b.ks.length w3] ∧ VL (((w11.setCell ⟨M, 0, none⟩ (.slice S1 r2.vs.length f1)).setCell ⟨M, 1, none⟩ (.slice S2 r2.fs.length f2)).setCell ⟨M, 2, none⟩ (.slice S3 r2.ks.length f3)) a1 a.vs ∧ FL (((w11.setCell ⟨M, 0, none⟩ (.slice S1 r2.vs.length f1)).setCell ⟨M, 1, none⟩ (.slice S2 r2.fs.length f2)).setCell ⟨M, 2, none⟩ (.slice S3 r2.ks.length f3)) a2 a.fs ∧ VL (((w11.setCell ⟨M, 0, none⟩ (.slice S1 r2.vs.length f1)).setCell ⟨M, 1, none⟩ (.slice S2 r2.fs.length f2)).setCell ⟨M, 2, none⟩ (.slice S3 r2.ks.length f3)) a3 a.ks ∧ VL (((w11.setCell ⟨M, 0, none⟩ (.slice S1 r2.vs.length f1)).setCell ⟨M, 1, none⟩ (.slice S2 r2.fs.length f2)).setCell ⟨M, 2, none⟩ (.slice S3 r2.ks.length f3)) b1 b.vs ∧ FL (((w11.setCell ⟨M, 0, none⟩ (.slice S1 r2.vs.length f1)).setCell ⟨M, 1, none⟩ (.slice S2 r2.fs.length f2)).setCell ⟨M, 2, none⟩ (.slice S3 r2.ks.length f3)) b2 b.fs ∧ VL (((w11.setCell ⟨M, 0, none⟩ (.slice S1 r2.vs.length f1)).setCell ⟨M, 1, none⟩ (.slice S2 r2.fs.length f2)).setCell ⟨M, 2, none⟩ (.slice S3 r2.ks.length f3)) b3 b.ks ∧ Pair a b k') := Lib.hid ⟨k + 1, r, r2, R1, R2, R3, S1, S2, S3, o1, o2, o3, f1, f2, f3, rfl, hBB, hPB, hMB, yaB, ybB.1, ycB, zaB, zbB.1, zcB, hpr⟩
            clear hg hsl yaA ybA ycA zaA zbA zcA yaB ybB ycB zaB zbB zcB hPA hMA hTA hBA hPB hMB hBB
            go_wp2
            go_roundw
            case rel =>
              obtain ⟨k', a, b, a1, a2, a3, b1, b2, b3, u1, u2, u3, w1, w2, w3, rfl, hh⟩ := hrel2.out
              exact ⟨k + 1, a, b, a1, a2, a3, b1, b2, b3, u1, u2, u3, w1, w2, w3, by go_num, by omega, hh⟩
            case measure => simp [intOf]; omega
        · obtain rfl : k = m := by omega
          have hpl := hpr.hl
          have hpn := hpr.near
          have hva := hpr.va
          have hvb := hpr.vb
          have hsza : a.vs.length ≤ 100000 := by
            have := hpr.sz
            unfold size9 at this
            rcases (by omega : k = 1 ∨ k = 2) with rfl | rfl <;> simp at this <;> omega
          rw [hpl] at hMq
          have x0 : wq.cell? ⟨W.heap.size, 0, none⟩ = some (.slice a1 a.vs.length u1') := hPq.cell 0
          have xl := hPq.lt
          have z0 : wq.cell? ⟨M, 0, none⟩ = some (.slice b1 a.vs.length w1) := hMq.cell 0
          have zl := hMq.lt
          clear hPq hMq yb yc zb zc hpr
          generalize a.vs = va at *
          generalize b.vs = vb at *
          replace hpl := Lib.hid hpl
          replace hpn := Lib.hid hpn
          replace hva := Lib.hid hva
          replace hvb := Lib.hid hvb
          have w17 : wrap64 (17 * (k : Int)) = 17 * (k : Int) := by unfold wrap64; omega
          go_wp2
          go_loopw [12] (fun iv wz => Below W.heap.size W wz ∧ Below wq.heap.size wq wz ∧ ∃ v : Nat, iv = .int .i64 (v : Int) ∧ v ≤ va.length) (fun iv _ => va.length - (intOf iv).toNat)
          case atStart => exact ⟨hBq, Below.refl _ _, 0, rfl, by omega⟩
          case round =>
            obtain ⟨hBz, hbz, v, rfl, hv⟩ := hrel
            rename World => wz
            have x0' := (hbz.cell (p := ⟨W.heap.size, 0, none⟩) xl).trans x0
            have z0' := (hbz.cell (p := ⟨M, 0, none⟩) zl).trans z0
            have xl' := Nat.lt_of_lt_of_le xl hbz.size
            have zl' := Nat.lt_of_lt_of_le zl hbz.size
            have ya' := ya.below hbz
            have za' := za.below hbz
            clear x0 z0 xl zl ya za hBq
            by_cases hvl : v < va.length
            · have hv2 : v < vb.length := by rw [hpl.out]; exact hvl
              have hn := hpn.out v hvl hv2
              have ha := hva.out _ (List.getElem_mem hvl)
              have hb := hvb.out _ (List.getElem_mem hv2)
              obtain ⟨ba, oa, rfl, hba, c0, c1, c2⟩ := ya'.at_ v hvl
              obtain ⟨bb, ob, rfl, hbb, e0, e1, e2⟩ := za'.at_ v hv2
              generalize va[v] = p at *
              generalize vb[v] = q at *
              obtain ⟨n1, n2, n3⟩ := hn
              obtain ⟨s1, s2, s3⟩ := ha
              obtain ⟨r1, r2, r3⟩ := hb
              unfold nr at n1 n2 n3
              obtain ⟨sp, hsp⟩ : ∃ sp : P3, sp = ⟨p.x * 16, p.y * 16, p.z * 16⟩ := ⟨_, rfl⟩
              obtain ⟨dp, hdp⟩ : ∃ dp : P3, dp = ⟨p.x * 16 - q.x, p.y * 16 - q.y, p.z * 16 - q.z⟩ := ⟨_, rfl⟩
              have kS := rScale_any p.x p.y p.z 16
              rw [show wrap64 (p.x * 16) = sp.x by rw [hsp]; unfold wrap64; simp only; omega, show wrap64 (p.y * 16) = sp.y by rw [hsp]; unfold wrap64; simp only; omega, show wrap64 (p.z * 16) = sp.z by rw [hsp]; unfold wrap64; simp only; omega] at kS
              have kD := rSub_any sp.x sp.y sp.z q.x q.y q.z
              rw [show wrap64 (sp.x - q.x) = dp.x by rw [hsp, hdp]; unfold wrap64; simp only; omega, show wrap64 (sp.y - q.y) = dp.y by rw [hsp, hdp]; unfold wrap64; simp only; omega, show wrap64 (sp.z - q.z) = dp.z by rw [hsp, hdp]; unfold wrap64; simp only; omega] at kD
              have kW := vWithin_any dp.x dp.y dp.z (17 * (k : Int)) (by omega)
              rw [(wiB_iff dp.x dp.y dp.z (17 * (k : Int))).2 (by rw [hdp]; simp only; omega)] at kW
              replace hsp := Lib.hid hsp
              replace hdp := Lib.hid hdp
              clear n1 n2 n3 s1 s2 s3 r1 r2 r3
              have q0 : (0 : Int) ≤ (v : Int) := by omega
              have q1v : (v : Int) < (va.length : Int) := by omega
              go_upto_region 26 with (fail)
              refine wp_region_grow (by kernel_rfl) (by kernel_rfl) ?_
              repeat (go_big_quiet_step ((first | with_reducible exact kS.quiet _ | with_reducible exact kS.quiet2 _ _ | with_reducible exact kD.quiet _ | with_reducible exact kD.quiet2 _ _ | with_reducible exact kW.quiet _ | with_reducible exact kW.quiet2 _ _)))
              refine wpQuiet_nil ?_
              rintro _ ⟨xg2, rfl⟩
              have hB9 := bel_grow hBz xg2
              have hb9 := bel_grow hbz xg2
              go_wp2
              go_roundw
              case rel => exact ⟨hB9, hb9, v + 1, by go_num, by omega⟩
              case measure => simp [intOf]; omega
            · obtain rfl : v = va.length := by omega
              go_wp2
              go_ret
              exact ⟨rfl, hBz⟩
theorem walk (W : World) (c : Cg) (A1 A2 A3 : Option Addr) (k1 k2 k3 : Nat) (hc : RawC W c A1 A2 A3) (hsl : SL A1 c.vs.length k1 ∧ SL A3 c.ks.length k3) (lv : Int) (hlv : i64B lv) :
    Calls Try.prog 5 #[.agg #[.slice A1 c.vs.length k1, .slice A2 c.fs.length k2, .slice A3 c.ks.length k3], .int .i64 lv] W fun e W' => e = .returned (.bool true) ∧ Below W.heap.size W W' := by
  obtain ⟨vs, fs, ks⟩ := c
  by_cases h20 : (20 : Int) < (vs.length : Int)
  · exact many W vs fs ks A1 A2 A3 k1 k2 k3 hc hsl.1 hsl.2 lv hlv h20
  · by_cases h1 : lv < 1
    · exact low W vs fs ks A1 A2 A3 k1 k2 k3 hc hsl.1 hsl.2 lv hlv h20 h1
    · by_cases h2 : 2 < lv
      · exact high W vs fs ks A1 A2 A3 k1 k2 k3 hc hsl.1 hsl.2 lv hlv h20 h1 h2
      · exact main W vs fs ks A1 A2 A3 k1 k2 k3 hc hsl.1 hsl.2 lv hlv h20 lv.toNat (by omega) (by omega) (by omega)

theorem own : ownKnob Try.prog.godebug = none := by kernel_rfl
set_option maxRecDepth 100000 in
theorem lifted (os : Os) (started : os.Started) (H : Type) (enc : TypeId × Value → H) :
    ReturnsInHanded {} Try.checked os 5 .any (Rows.subScaledSpec.pre6 enc Try.prog Try.f5 Rows.subScaledRow.domain false) (Rows.subScaledSpec.post enc Try.prog Try.f5 false true false false) := by
  refine returnsInHanded_of_change_sized (C := Try.checked) own started (by kernel_rfl) Try.func5
    (ChangeSpec.witness6 (enc := enc) (C := Try.checked) false ⟨#[], #[.agg #[.slice none 0 0, .slice none 0 0, .slice none 0 0], .int .i64 0], []⟩ 12 (by kernel_rfl) (by kernel_rfl) (by kernel_rfl) (by kernel_rfl)) ?_
  intro W base args ds gs before hval0 hW hcnd hwt _
  have hval : ∀ (j : Nat) t v, Try.f5.params[j]? = some t → args[j]? = some v → Value.okWide Try.prog W .any base t v := hval0
  have hW' := hW
  obtain ⟨p, q, hA0, hV, rfl, hfz, hnd⟩ := hW
  have hA : DataW.TrodAll enc Try.prog W 0 (fun _ => true) true Try.f5.params.toList args.toList ds p := hA0
  rw [Try.params5] at hA hval
  obtain ⟨v0, vs0, d0, ds0, p0, q0, hargs, rfl, rfl, h0, r0⟩ := trodAll_cons hA
  obtain ⟨v1, vs1, d1, ds1, p1, q1, rfl, rfl, rfl, h1, r1⟩ := trodAll_cons r0
  obtain ⟨rfl, rfl, rfl⟩ := trodAll_nil r1
  obtain rfl : args = #[v0, v1] := by cases args; simp_all
  obtain ⟨cs0, rfl, hsz0⟩ := okWide_struct Try.underlying26 (hval 0 26 v0 rfl rfl)
  rw [szCg] at hsz0
  have hTW0 : TW enc Try.prog W 0 (fun _ => true) true 26 cs0.toList := by
    obtain ⟨fu, hfu⟩ := h0
    refine ⟨fu, _, hfu, fun n hn => ?_⟩
    have := List.all_eq_true.1 hwt n (DataW.weights_mem_each (j := 0) (t := 26) (d := d0) (by rw [Try.params5]; rfl) (by rfl) n hn)
    simpa using this
  obtain ⟨c0, A01, A02, A03, k01, k02, k03, ecs0, hraw0⟩ := open_Cage (by simpa using hsz0) hTW0
  have hcap0 : SL A01 c0.vs.length k01 ∧ SL A03 c0.ks.length k03 := by have h := hTW0; rw [ecs0] at h; exact cage_sl h
  obtain rfl : cs0 = #[.slice A01 c0.vs.length k01, .slice A02 c0.fs.length k02, .slice A03 c0.ks.length k03] := Array.ext' ecs0
  clear hTW0
  obtain ⟨a1, rfl, b1⟩ := open_int64 (hval 1 3 v1 rfl rfl) h1
  refine (walk W c0 A01 A02 A03 k01 k02 k03 hraw0 hcap0 a1 b1).mono fun e W' ⟨he, hb⟩ => ?_
  subst he
  exact ⟨_, rfl, law_post (tb := 4) (by kernel_rfl) (by kernel_rfl) rfl rfl Try.underlying4 rfl rfl rfl hW' hb⟩

theorem over : Rows.subScaledRow.holds Try.pinned (OpenSpec.ofChange Rows.subScaledSpec) :=
  OpenClaim.holds_of_wide 5 Try.f5 rfl rfl rfl rfl rfl rfl rfl ⟨rfl, rfl, rfl, rfl, rfl⟩ rfl rfl rfl rfl rfl (by kernel_rfl) Try.func5 (by kernel_rfl)
    (of_decide_eq_true (by kernel_rfl)) (by unfold Func.isWrapper; first | (rw [if_pos (by decide +kernel)]; kernel_rfl) | (rw [if_neg (by decide +kernel)]; exact ⟨rfl, rfl⟩))
    (fun os started H enc _ => lifted os started H enc)

theorem proved : Rows.SubScaledSaid :=
  over
#print axioms proved
end Go.Proofs.Ytiaikceoodeboaa.subScaled
