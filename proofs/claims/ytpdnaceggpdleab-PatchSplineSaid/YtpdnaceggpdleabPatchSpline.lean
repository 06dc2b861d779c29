/- PatchSpline holds for every input: the row, out of the walk. No condition. -/
import Derived.SizedLaws
import Derived.Test.YtpdnaceggpdleabRows
import Derived.Test.YtpdnaceggpdleabPatSA
import Derived.Test.YtpdnaceggpdleabOpenV2
import Derived.Test.YtpdnaceggpdleabC2
namespace Go.Proofs.Ytpdnaceggpdleab.patchSpline
open Go.ChangeShapes Go.WideShapes Go.ChangeAt Go.RowKit
set_option linter.unusedVariables false
set_option linter.unusedSimpArgs false
set_option linter.unnecessarySimpa false
set_option maxRecDepth 100000
set_option maxHeartbeats 8000000 in
theorem walk (W : World) (A : Option Addr) (n c : Nat) (q : Nat → Int × Int × Int) (hq : SL A n c ∧ VF W A n q ∧ ∀ i, i < n → In64v (q i).1 ∧ In64v (q i).2.1 ∧ In64v (q i).2.2) :
    Calls Try.prog 3 #[.slice A n c] W fun e W' => e = .returned (.bool true) ∧ Below W.heap.size W W' := by
  obtain ⟨⟨hsl1, hsl2, _⟩, hv, _⟩ := hq
  obtain ⟨i0, hi0, hz0, hz1, hz2⟩ := info_parts infoV
  obtain ⟨i1, hI1, hY0, hY1, hY2⟩ := info_parts infoIS
  go_enter Try.func3, Try.ntmps3
  go_upto_region 3 with (first | (go_at_call 5; (with_reducible refine (alive10_any _).mono ?_); rintro e W1 ⟨rfl, hb1⟩) | fail)
  by_cases h16 : n < 16
  · have q0 : (n : Int) < 16 := by omega
    go_wp2
    go_ret
    exact ⟨rfl, hb1⟩
  obtain ⟨b0, off, rfl, hbl, hcell⟩ := hv (by omega)
  have q0 : ¬ (n : Int) < 16 := by omega
  go_upto_region 6 with (fail)
  have hK := KS.start hb1
  clear hb1 hv
  generalize W1.alloc (.cells #[.slice none 0 0, .slice none 0 0, .slice none 0 0] 27) = W2 at *
  generalize W1.heap.size = T at *
  replace hcell := Lib.hid hcell
  go_wp2
  go_loopw [4] (fun iv wr => ∃ (i : Nat) (A1 : Option Addr) (c1 : Nat), iv = .int .i64 (i : Int) ∧ i ≤ 16 ∧ Hid (∀ p ∈ ptL q i, InP 16384 p) ∧ KS W T (ptL q i) [] A1 c1 none 0 wr) (fun iv _ => 16 - (intOf iv).toNat)
  case atStart => exact ⟨0, none, 0, rfl, by omega, Lib.hid (fun p h => by simp [ptL] at h), hK⟩
  case round =>
    obtain ⟨i, A1, c1, rfl, hi1, hin, hK⟩ := hrel
    rename World => wr
    by_cases hlt : i < 16
    · obtain ⟨a0, a1, a2⟩ := hcell.out i (by omega)
      replace a0 := (hK.bel.cell (p := ⟨b0, off + i * 3, none⟩) hbl).trans a0
      replace a1 := (hK.bel.cell (p := ⟨b0, off + i * 3 + 1, none⟩) hbl).trans a1
      replace a2 := (hK.bel.cell (p := ⟨b0, off + i * 3 + 2, none⟩) hbl).trans a2
      have hbl2 := Nat.lt_of_lt_of_le hbl hK.bel.size
      have hsc := ptL_succ q i
      have hpl := ptL_len q i
      obtain ⟨p, hp⟩ : ∃ p : P3, (⟨(q i).1, (q i).2.1, (q i).2.2⟩ : P3) = p := ⟨_, rfl⟩
      rw [hp] at hsc
      replace a0 : wr.cell? ⟨b0, off + i * 3, none⟩ = some (.int .i64 p.x) := by rw [← hp]; exact a0
      replace a1 : wr.cell? ⟨b0, off + i * 3 + 1, none⟩ = some (.int .i64 p.y) := by rw [← hp]; exact a1
      replace a2 : wr.cell? ⟨b0, off + i * 3 + 2, none⟩ = some (.int .i64 p.z) := by rw [← hp]; exact a2
      obtain ⟨wb, hwb⟩ : ∃ wb, wiB p.x p.y p.z 16384 = wb := ⟨_, rfl⟩
      have kV := vWithin_any p.x p.y p.z 16384 (by omega)
      rw [hwb] at kV
      have q1 : (0 : Int) ≤ (i : Int) := by omega
      have q2 : (i : Int) < 16 := by omega
      have q3 : (i : Int) < (n : Int) := by omega
      replace hp := Lib.hid hp
      replace hwb := Lib.hid hwb
      cases wb with
      | false =>
        have hBr := hK.bel
        clear hK
        go_wp2_with (first | (go_at_call 6; ((with_reducible refine (kV.at_ _).mono ?_); rintro e w' ⟨rfl, xg, rfl⟩)))
        go_ret
        exact ⟨rfl, bel_grow hBr xg⟩
      | true =>
        have hpb := (wiB_iff p.x p.y p.z 16384).1 hwb.out
        have hin2 : Hid (∀ u ∈ ptL q (i + 1), InP 16384 u) := Lib.hid (fun u hu => by
          rw [hsc] at hu
          rcases List.mem_append.1 hu with h | h
          · exact hin.out u h
          · obtain rfl := List.mem_singleton.1 h
            exact ⟨hpb.2.1, hpb.2.2.1, hpb.2.2.2⟩)
        go_upto_region 11 with (first | (go_at_call 6; ((with_reducible refine (kV.at_ _).mono ?_); rintro e w' ⟨rfl, xg, rfl⟩)) | fail)
        have hlay := bel_grow (Below.refl wr.heap.size wr) xg
        have hK2 := hK.lay hlay
        replace a0 := (hlay.cell (p := ⟨b0, off + i * 3, none⟩) hbl2).trans a0
        replace a1 := (hlay.cell (p := ⟨b0, off + i * 3 + 1, none⟩) hbl2).trans a1
        replace a2 := (hlay.cell (p := ⟨b0, off + i * 3 + 2, none⟩) hbl2).trans a2
        replace hbl2 := Nat.lt_of_lt_of_le hbl2 hlay.size
        clear hK kV hlay hpb
        generalize grow wr xg = w2 at *
        have x0 : w2.cell? ⟨T, 0, none⟩ = some (.slice A1 i c1) := by have := hK2.c.cell 0; rw [hpl] at this; exact this
        have xl := hK2.c.lt
        have hKd := hK2.lay (bel_drew (Below.refl _ w2))
        have hKa := hKd.lay (bel_alloc (Below.refl _ _) (.cells #[.int .i64 p.x, .int .i64 p.y, .int .i64 p.z] 30))
        have hrr := hKa.r
        rw [hpl] at hrr
        have hsT : T + 1 ≤ ((w2.drew).alloc (.cells #[.int .i64 p.x, .int .i64 p.y, .int .i64 p.z] 30)).heap.size := hKa.c.lt
        obtain ⟨v1, u2, hr1, ho, hg, _, _⟩ := run_append_own_at (P := Try.prog) ((w2.drew).alloc (.cells #[.int .i64 p.x, .int .i64 p.y, .int .i64 p.z] 30)) (T + 1) 22 22 30 i0 _ 3 24 Try.underlying22 hi0 hz0 hz1 hz2 rfl (by decide) (.slice A1 i c1) i (kC (ptL q i)) hrr ⟨(w2.drew).heap.size, 0, none⟩ 1 1 [.int .i64 p.x, .int .i64 p.y, .int .i64 p.z] rfl (cells_new (w2.drew) [.int .i64 p.x, .int .i64 p.y, .int .i64 p.z] _ _ rfl) (kC_one [p]) (by unfold maxLen; omega) (by omega) hsT
        obtain ⟨A6, c6, rfl⟩ := own_form ho
        obtain ⟨us, hu_0, hu_1, hu_2⟩ : ∃ us : Nat → World, us 0 = w2.drew ∧ us 1 = (w2.drew).alloc (.cells #[.int .i64 p.x, .int .i64 p.y, .int .i64 p.z] 30) ∧ us 2 = u2 := ⟨fun k => if k = 0 then w2.drew else if k = 1 then (w2.drew).alloc (.cells #[.int .i64 p.x, .int .i64 p.y, .int .i64 p.z] 30) else u2, rfl, rfl, rfl⟩
        have hKz := KS.addV (p := p) (A6 := A6) (c6 := c6) hKa (by rw [hpl]; exact hg) (by rw [hpl]; exact ho)
        rw [← hsc, hpl] at hKz
        have hb2 : Below w2.heap.size w2 u2 ∨ True := .inr trivial
        have hblk := fun k hk => (own_block hrr k hk).1
        have hlw : ∀ u, (∃ k, k ≤ [6, 7].length ∧ u = us k) → (∀ bb j x, bb < T + 1 → bb < w2.heap.size → w2.cell? ⟨bb, j, none⟩ = some x → u.cell? ⟨bb, j, none⟩ = some x) := by
          rintro u ⟨k, hk, rfl⟩ bb j x hbb hb2 h
          have h1 : ((w2.drew).alloc (.cells #[.int .i64 p.x, .int .i64 p.y, .int .i64 p.z] 30)).cell? ⟨bb, j, none⟩ = some x := ((bel_alloc (Below.refl _ (w2.drew)) (.cells #[.int .i64 p.x, .int .i64 p.y, .int .i64 p.z] 30)).cell (p := ⟨bb, j, none⟩) hb2).trans h
          rcases (by simp at hk; omega : k = 0 ∨ k = 1 ∨ k = 2) with rfl | rfl | rfl
          · rw [hu_0]; exact h
          · rw [hu_1]; exact h1
          · rw [hu_2]
            have hbl3 : bb < ((w2.drew).alloc (.cells #[.int .i64 p.x, .int .i64 p.y, .int .i64 p.z] 30)).heap.size := by have : (w2.drew).heap.size = w2.heap.size := rfl; rw [World.size_alloc]; omega
            exact (World.cell?_of_block (hg.block bb hbl3 (fun e => by have := hblk _ e.symm; omega))).trans h1
        have hTl := hK2.lt
        have hb0T : b0 < T + 1 := by omega
        have fT := fun u hu => hlw u hu T 0 _ (by omega) xl x0
        have fA0 := fun u hu => hlw u hu b0 _ _ hb0T hbl2 a0
        have fA1 := fun u hu => hlw u hu b0 _ _ hb0T hbl2 a1
        have fA2 := fun u hu => hlw u hu b0 _ _ hb0T hbl2 a2
        have hcz := (hKa.c.kept hg (fun e => by have := hblk _ e.symm; omega))
        have s0 : u2.cell? ⟨T, 0, none⟩ = some (.slice A1 (ptL q i).length c1) := hcz.cell 0
        have sf : u2.frozen? ⟨T, 0, none⟩ = false := hcz.frozen 0
        have sl : T < u2.heap.size := hcz.lt
        replace hKz := Lib.hid hKz
        clear hcz hblk hlw hKd hKa hrr hb2 hK2
        refine wp_region_monoK 8 (RK [.pointer (some ⟨T, 0, none⟩), .slice A1 i c1, .slice (some ⟨b0, off, none⟩) n c, .int .i64 (i : Int), .pointer (some ⟨b0, off + i * 3, none⟩), .agg #[.int .i64 p.x, .int .i64 p.y, .int .i64 p.z], .slice (some ⟨w2.drew.heap.size, 0, none⟩) 1 1, .slice A6 (i + 1) c6]) (PhN [6, 7] us) (by kernel_rfl) _ rfl (by kernel_rfl) (by kernel_rfl) (by kernel_rfl) (by kernel_rfl) (by kernel_rfl) (by have h := phN_start (ps := [6, 7]) (us := us) (n := 10) (by decide); rw [hu_0] at h; exact h) ?_ ?_
        · simp only [List.take_succ_cons, List.take_zero]
          refine ⟨?_, ?_, ?_, ?_, ?_, ?_, ?_, ?_, ?_⟩
          · refine monoN_read rfl (by decide) (fun a u hu hk hp => ?_)
            have es3 := (hk 3 (keep_of (by kernel_rfl))).trans (show _ = some (.pointer (some ⟨T, 0, none⟩)) from rfl)
            exact ⟨_, by simp [execOp, go_sem, es3], rfl⟩
          · refine monoN_read rfl (by decide) (fun a u hu hk hp => ?_)
            obtain ⟨x0, ex0, rx0⟩ := hp ⟨0, .data⟩ (by simp) rfl _ _ rfl rfl
            obtain rfl : x0 = _ := rx0
            have fc0 := fT u hu
            exact ⟨_, by simp [execOp, go_sem, ex0, fc0], rfl⟩
          · refine monoN_read rfl (by decide) (fun a u hu hk hp => ?_)
            have es0 := (hk 0 (keep_of (by kernel_rfl))).trans (show _ = some (.slice (some ⟨b0, off, none⟩) n c) from rfl)
            exact ⟨_, by simp [execOp, go_sem, es0], rfl⟩
          · refine monoN_read rfl (by decide) (fun a u hu hk hp => ?_)
            have es4 := (hk 4 (keep_of (by kernel_rfl))).trans (show _ = some (.int .i64 (i : Int)) from rfl)
            exact ⟨_, by simp [execOp, go_sem, es4], rfl⟩
          · refine monoN_read rfl (by decide) (fun a u hu hk hp => ?_)
            obtain ⟨x2, ex2, rx2⟩ := hp ⟨2, .data⟩ (by simp) rfl _ _ rfl rfl
            obtain rfl : x2 = _ := rx2
            obtain ⟨x3, ex3, rx3⟩ := hp ⟨3, .data⟩ (by simp) rfl _ _ rfl rfl
            obtain rfl : x3 = _ := rx3
            have fc0 := q1
            have fc1 := q3
            exact ⟨_, by simp [execOp, go_sem, ex2, ex3, fc0, fc1], rfl⟩
          · refine monoN_read rfl (by decide) (fun a u hu hk hp => ?_)
            obtain ⟨x4, ex4, rx4⟩ := hp ⟨4, .data⟩ (by simp) rfl _ _ rfl rfl
            obtain rfl : x4 = _ := rx4
            have fc0 := fA0 u hu
            have fc1 := fA1 u hu
            have fc2 := fA2 u hu
            exact ⟨_, ldmS_run _ _ _ 30 _ rfl (b0) (off + i * 3) (eval_tmp ex4) _ _ (rng3V fc0 fc1 fc2) Try.underlying30 rfl infoV3, rfl⟩
          · refine monoN_chg rfl 0 (by decide) rfl (by decide) (.inl rfl) (fun a hk hp => ?_)
            rw [hu_0, hu_1]
            obtain ⟨x5, ex5, rx5⟩ := hp ⟨5, .data⟩ (by simp) rfl _ _ rfl rfl
            obtain rfl : x5 = _ := rx5
            exact ⟨_, by simp [execOp, go_sem, ex5], rfl⟩
          · refine monoN_chg rfl 1 (by decide) rfl (by decide) (.inr ⟨⟨6, .data⟩, by simp, rfl, rfl⟩) (fun a hk hp => ?_)
            rw [hu_1, hu_2]
            obtain ⟨x1, ex1, rx1⟩ := hp ⟨1, .data⟩ (by simp) rfl _ _ rfl rfl
            obtain rfl : x1 = _ := rx1
            obtain ⟨x6, ex6, rx6⟩ := hp ⟨6, .data⟩ (by simp) rfl _ _ rfl rfl
            obtain rfl : x6 = _ := rx6
            exact ⟨_, run_app _ _ _ rfl (eval_tmp ex1) (eval_tmp ex6) hr1, rfl⟩
          · trivial
        · intro a wz listed hJ hall hsz hdf hk hgot
          have hwz := phN_end hJ (by decide) hall
          simp only [List.length_cons, List.length_nil, Nat.reduceAdd, hu_2] at hwz
          clear hJ
          subst hwz
          obtain ⟨vv7, ev7, rv7⟩ := hgot 7 _ 39 rfl rfl
          obtain rfl : vv7 = _ := rv7
          obtain ⟨f, hf, rfl⟩ := frame_eq hsz hdf hk [32, 33, 34, 35, 36, 37, 38, 39] (by rfl)
          have f39 := hf 39 _ ev7
          clear hsz hdf hk hgot hf hall ev7
          simp only [List.drop_succ_cons, List.drop_zero, setAll, List.setIfInBounds_toArray, List.set_cons_succ, List.set_cons_zero, f39]
          clear f39
          generalize f 32 = uu32; generalize f 33 = uu33; generalize f 34 = uu34; generalize f 35 = uu35; generalize f 36 = uu36; generalize f 37 = uu37; generalize f 38 = uu38
          clear fT fA0 fA1 fA2 hr1 ho hg hu_0 hu_1 hu_2 a0 a1 a2 x0 xl
          go_wp2
          go_roundw
          case rel => exact ⟨i + 1, A6, c6, by go_num, by omega, hin2, hKz.out⟩
          case measure => simp [intOf]; omega
    · obtain rfl : i = 16 := by omega
      have hpl := ptL_len q 16
      have hinV := hin
      generalize ptL q 16 = vs at *
      rw [show ((16 : Nat) : Int) = 16 from rfl]
      clear hcell hin hsl1 hsl2 q0 h16 hbl
      go_upto_region 13 with (fail)
      go_loopw [5] (fun iv wr => ∃ (y : Nat) (A2 : Option Addr) (c2 : Nat), iv = .int .i64 (y : Int) ∧ y ≤ 3 ∧ KS W T vs (gr9T (3 * y)) A1 c1 A2 c2 wr) (fun iv _ => 3 - (intOf iv).toNat)
      case atStart => exact ⟨0, none, 0, rfl, by omega, by rw [show 3 * 0 = 0 from rfl, gr9T_zero]; exact hK⟩
      case round =>
        obtain ⟨y, A2, c2, rfl, hy, hK⟩ := hrel
        rename World => wr
        by_cases hyl : y < 3
        · have q1 : (y : Int) < 3 := by omega
          go_upto_region 16 with (fail)
          go_loopw [6] (fun iv wq => ∃ (x : Nat) (A2 : Option Addr) (c2 : Nat), iv = .int .i64 (x : Int) ∧ x ≤ 3 ∧ KS W T vs (gr9T (3 * y + x)) A1 c1 A2 c2 wq) (fun iv _ => 3 - (intOf iv).toNat)
          case atStart => exact ⟨0, A2, c2, rfl, by omega, by rw [Nat.add_zero]; exact hK⟩
          case round =>
            clear hK
            obtain ⟨x, A2, c2, rfl, hx, hK⟩ := hrel
            rename World => w
            by_cases hxl : x < 3
            · have q2 : (x : Int) < 3 := by omega
              have hsc := gr9T_next hyl hxl
              have hgl := gr9T_len (Nat.le_of_lt (lt_9 hyl hxl))
              have x1 : w.cell? ⟨T, 1, none⟩ = some (.slice A2 (3 * y + x) c2) := by have := hK.c.cell 1; rw [hgl] at this; exact this
              have xl := hK.c.lt
              have h9 := lt_9 hyl hxl
              have ml := ml_9 h9
              have mb := mb_9 h9
              replace hgl := Lib.hid hgl
              replace hsc := Lib.hid hsc
              go_upto_region 18 with (fail)
              clear h9
              have hb4 : Below w.heap.size w (w.alloc (.cells #[.int .i64 (4 * (y : Int) + (x : Int)), .int .i64 (4 * (y : Int) + (x : Int) + 1), .int .i64 (4 * (y : Int) + (x : Int) + 5), .int .i64 (4 * (y : Int) + (x : Int) + 4)] 3)) := bel_alloc (Below.refl _ _) _
              have hK4 := hK.lay hb4
              have hx4 := own_int4 w (4 * (y : Int) + (x : Int)) (4 * (y : Int) + (x : Int) + 1) (4 * (y : Int) + (x : Int) + 5) (4 * (y : Int) + (x : Int) + 4)
              obtain ⟨vals, hO1, hO2⟩ := hK4.g.row
              have hO3 := hO1
              rw [hgl.out] at hO3
              have hdl : T + 1 ≤ w.heap.size := xl
              have hdl2 : T + 1 ≤ ((w.alloc (.cells #[.int .i64 (4 * (y : Int) + (x : Int)), .int .i64 (4 * (y : Int) + (x : Int) + 1), .int .i64 (4 * (y : Int) + (x : Int) + 5), .int .i64 (4 * (y : Int) + (x : Int) + 4)] 3)).alloc (.cells #[(.slice (some ⟨w.heap.size, 0, none⟩) 4 4)] 31)).heap.size := by rw [World.size_alloc, World.size_alloc]; omega
              have hcn : ∀ j u, [Value.slice (some ⟨w.heap.size, 0, none⟩) 4 4][j]? = some u → ((w.alloc (.cells #[.int .i64 (4 * (y : Int) + (x : Int)), .int .i64 (4 * (y : Int) + (x : Int) + 1), .int .i64 (4 * (y : Int) + (x : Int) + 5), .int .i64 (4 * (y : Int) + (x : Int) + 4)] 3)).alloc (.cells #[(.slice (some ⟨w.heap.size, 0, none⟩) 4 4)] 31)).cell? ((⟨w.heap.size + 1, 0, none⟩ : Addr).add j) = some u := by
                have := cell_one_new (w.alloc (.cells #[.int .i64 (4 * (y : Int) + (x : Int)), .int .i64 (4 * (y : Int) + (x : Int) + 1), .int .i64 (4 * (y : Int) + (x : Int) + 5), .int .i64 (4 * (y : Int) + (x : Int) + 4)] 3)) (.slice (some ⟨w.heap.size, 0, none⟩) 4 4) 31
                rwa [World.size_alloc] at this
              have hblk := fun k hk => (own_block hO3 k hk).1
              replace hcn := Lib.hid hcn
              replace hO2 := Lib.hid hO2
              go_wp2_with (first | (at_builtin; (refine wpList_append_own _ rfl _ _ 24 rfl (T + 1) 31 i1 _ 1 24 Try.underlying24 hI1 hY0 hY1 hY2 rfl (by decide) _ _ _ rfl (hO3.alloc _) ⟨w.heap.size + 1, 0, none⟩ 1 1 [(.slice (some ⟨w.heap.size, 0, none⟩) 4 4)] rfl rfl hcn.out (fun x hx => by simp at hx; subst hx; rfl) ml mb hdl2 ?_); intro v6 w6 hown6 hg6 hnil; have hg56 := (World.grownBy_alloc (w.alloc (.cells #[.int .i64 (4 * (y : Int) + (x : Int)), .int .i64 (4 * (y : Int) + (x : Int) + 1), .int .i64 (4 * (y : Int) + (x : Int) + 5), .int .i64 (4 * (y : Int) + (x : Int) + 4)] 3)) (.cells #[(.slice (some ⟨w.heap.size, 0, none⟩) 4 4)] 31) (Value.slice A2 (3 * y + x) c2).ownBlock).trans hg6; clear hg6 hnil; obtain ⟨A6, c6, rfl⟩ := own_form hown6; have hcz := hK4.c.kept hg56 (fun e => absurd (hblk _ e.symm) (Nat.not_succ_le_self T)); have s0 : w6.cell? ⟨T, 1, none⟩ = some (.slice A2 (gr9T (3 * y + x)).length c2) := hcz.cell 1; have sf : w6.frozen? ⟨T, 1, none⟩ = false := hcz.frozen 1; have sl : T < w6.heap.size := hcz.lt) | fail)
              have hOF := OwnF.add (x := [4 * (y : Int) + (x : Int), 4 * (y : Int) + (x : Int) + 1, 4 * (y : Int) + (x : Int) + 5, 4 * (y : Int) + (x : Int) + 4]) (A' := A6) (c' := c6) hO2.out hO1 (own_base hx4 hdl) (by rw [hgl.out]; exact hg56) (by rw [hgl.out]; exact hown6)
              have hKz := KS.addF hK4 hg56 (fun k hk => ⟨(own_block hO3 k hk).1, fun h => own_apart hK4.r hO3 neVL h hk rfl⟩) hOF
              rw [← hsc.out, hgl.out] at hKz
              clear hcz hblk hO1 hO2 hO3 hK4 hx4 hOF hcn hK s0 sf sl
              go_roundw
              case rel => exact ⟨x + 1, A6, c6, by go_num, by omega, hKz⟩
              case measure => simp [intOf]; omega
            · obtain rfl : x = 3 := by omega
              rw [show ((3 : Nat) : Int) = 3 from rfl]
              go_wp2
              go_roundw
              case rel => exact ⟨y + 1, A2, c2, by go_num, by omega, by rw [show 3 * (y + 1) = 3 * y + 3 by omega]; exact hK⟩
              case measure => simp [intOf]; omega
        · obtain rfl : y = 3 := by omega
          rw [show 3 * 3 = 9 from rfl, gr9T_all] at hK
          rw [show ((3 : Nat) : Int) = 3 from rfl]
          have hB := hK.bel
          have x0 : wr.cell? ⟨T, 0, none⟩ = some (.slice A1 16 c1) := by have := hK.c.cell 0; rw [hpl] at this; exact this
          have x1 : wr.cell? ⟨T, 1, none⟩ = some (.slice A2 9 c2) := hK.c.cell 1
          have x2 : wr.cell? ⟨T, 2, none⟩ = some (.slice none 0 0) := hK.c.cell 2
          have xl := hK.c.lt
          have hVL : VL wr A1 vs := VL_own hK.r
          have hFL := hK.g.fl
          have hcg : CgV wr ⟨vs, gr9, []⟩ A1 A2 none := {
            i1 := fun p hp => by obtain ⟨x, y, z⟩ := hinV.out p hp; exact ⟨by unfold i64B; omega, by unfold i64B; omega, by unfold i64B; omega⟩
            i2 := by simp [gr9, i64B]
            i3 := by simp
            v1 := hVL
            v2 := hFL
            v3 := VL.nil _ _
            few := by simp [hpl, gr9, tot] }
          have cB := pbuild_any wr ⟨vs, gr9, []⟩ 0 A1 A2 none c1 c2 0 hcg (by simp only [hpl]; exact gr9_surf) (fun t _ => ⟨_, rfl⟩) (fun p hp => by obtain ⟨x, y, z⟩ := hinV.out p hp; exact ⟨by omega, by omega, by omega⟩) (by simp [gr9])
          simp only [List.length_nil, show gr9.length = 9 from rfl, hpl] at cB
          go_upto_region 20 with (first | (go_at_call 7; (go_loud (with_reducible refine cB.mono ?_)); rintro e W4 ⟨N, gL, rfl, hb4, hgl, hG, hNv, hNf, hNT, hNs⟩) | fail)
          have hK4 := hK.lay hb4
          obtain ⟨fans, rs, rfl, hfl, hfp⟩ := netG_of hNv hNf hNT hNs
          have hVL4 := hVL.below hb4
          have hx := fun j i (hj : j < 4) (hi : i < 4) => sp_all hfl hfp co_x hinV.out (rs := rs) hj hi 0
          have hy := fun j i (hj : j < 4) (hi : i < 4) => sp_all hfl hfp co_y hinV.out (rs := rs) hj hi 0
          have hz := fun j i (hj : j < 4) (hi : i < 4) => sp_all hfl hfp co_z hinV.out (rs := rs) hj hi 0
          generalize (netG vs fans rs).patch 0 = pq at *
          clear hNv hNf hNT hNs hfl hfp x0 x1 x2 xl hVL hFL hcg cB hK hb4 hB
          replace hx := Lib.hid hx
          replace hy := Lib.hid hy
          replace hz := Lib.hid hz
          have q6 : ((0 : Int) != 0) = false := by simp
          have q7 : ((9 : Int) != 9) = false := by simp
          go_upto_region 23 with (fail)
          have hRW : Blk (W4.alloc (.cells #[.int .i64 1, .int .i64 4, .int .i64 1, .int .i64 0, .int .i64 0, .int .i64 4, .int .i64 2, .int .i64 0, .int .i64 0, .int .i64 2, .int .i64 4, .int .i64 0, .int .i64 0, .int .i64 1, .int .i64 4, .int .i64 1] 37)) W4.heap.size 37 #[.int .i64 1, .int .i64 4, .int .i64 1, .int .i64 0, .int .i64 0, .int .i64 4, .int .i64 2, .int .i64 0, .int .i64 0, .int .i64 2, .int .i64 4, .int .i64 0, .int .i64 0, .int .i64 1, .int .i64 4, .int .i64 1] := Blk.new _ _ _ _ rfl
          have hb5 : Below W4.heap.size W4 (W4.alloc (.cells #[.int .i64 1, .int .i64 4, .int .i64 1, .int .i64 0, .int .i64 0, .int .i64 4, .int .i64 2, .int .i64 0, .int .i64 0, .int .i64 2, .int .i64 4, .int .i64 0, .int .i64 0, .int .i64 1, .int .i64 4, .int .i64 1] 37)) := bel_alloc (Below.refl _ _) _
          have hK5 := hK4.lay hb5
          have hVL5 := hVL4.below hb5
          have hG5 := hG.below hb5
          clear hK4 hVL4 hG hb5 q6 q7 hK hgl
          generalize W4.alloc (.cells #[.int .i64 1, .int .i64 4, .int .i64 1, .int .i64 0, .int .i64 0, .int .i64 4, .int .i64 2, .int .i64 0, .int .i64 0, .int .i64 2, .int .i64 4, .int .i64 0, .int .i64 0, .int .i64 1, .int .i64 4, .int .i64 1] 37) = W5 at *
          generalize W4.heap.size = RR at *
          have hrow : ∀ j y, j < 4 → y < 4 → ∀ w, Below W5.heap.size W5 w → w.cell? ⟨RR, j * 4 + y, none⟩ = some (.int .i64 (rowW j y)) := fun j y hj hy w hb => by
            rw [(hRW.below hb).cell]
            rcases (by omega : j = 0 ∨ j = 1 ∨ j = 2 ∨ j = 3) with rfl | rfl | rfl | rfl <;> (rcases (by omega : y = 0 ∨ y = 1 ∨ y = 2 ∨ y = 3) with rfl | rfl | rfl | rfl <;> rfl)
          have hrl := hRW.lt
          have hT5 := hK5.c
          have hB5 := hK5.bel
          have hTlt := hT5.lt
          replace hrow := Lib.hid hrow
          clear hRW hK5
          go_wp2
          go_loopw [10] (fun iv wz => ∃ j : Nat, iv = .int .i64 (j : Int) ∧ j ≤ 4 ∧ Below W5.heap.size W5 wz) (fun iv _ => 4 - (intOf iv).toNat)
          case atStart => exact ⟨0, rfl, by omega, Below.refl _ _⟩
          case round =>
            obtain ⟨j, rfl, hj, hBj⟩ := hrel
            rename World => wj
            by_cases hjl : j < 4
            · have qj0 : (0 : Int) ≤ (j : Int) := by omega
              have qj : (j : Int) < 4 := by omega
              go_upto_region 26 with (fail)
              go_wp2
              go_loopw [11] (fun iv wz => ∃ i : Nat, iv = .int .i64 (i : Int) ∧ i ≤ 4 ∧ Below W5.heap.size W5 wz) (fun iv _ => 4 - (intOf iv).toNat)
              case atStart => exact ⟨0, rfl, by omega, hBj⟩
              case round =>
                obtain ⟨i, rfl, hi, hBi⟩ := hrel
                rename World => wz
                clear hBj
                by_cases hil : i < 4
                · have qi0 : (0 : Int) ≤ (i : Int) := by omega
                  have qi : (i : Int) < 4 := by omega
                  have hS1 : Blk (wz.alloc (.cells #[.int .i64 Z3.x, .int .i64 Z3.y, .int .i64 Z3.z] 30)) wz.heap.size 30 #[.int .i64 Z3.x, .int .i64 Z3.y, .int .i64 Z3.z] := Blk.new _ _ _ _ rfl
                  have hb6 : Below wz.heap.size wz (wz.alloc (.cells #[.int .i64 Z3.x, .int .i64 Z3.y, .int .i64 Z3.z] 30)) := bel_alloc (Below.refl _ _) _
                  go_upto_region 30 with (fail)
                  change Code.wp _ _ _ _ (wz.alloc (.cells #[.int .i64 Z3.x, .int .i64 Z3.y, .int .i64 Z3.z] 30))
                  generalize wz.alloc (.cells #[.int .i64 Z3.x, .int .i64 Z3.y, .int .i64 Z3.z] 30) = W6 at *
                  obtain ⟨S, hS⟩ : ∃ S, wz.heap.size = S := ⟨_, rfl⟩
                  rw [hS] at hb6 hS1 ⊢
                  go_wp2
                  go_loopw [13] (fun iv wq => ∃ y : Nat, iv = .int .i64 (y : Int) ∧ y ≤ 4 ∧ Below S wz wq ∧ Blk wq S 30 #[.int .i64 (foldN Z3 (splL vs j i (4 * y))).x, .int .i64 (foldN Z3 (splL vs j i (4 * y))).y, .int .i64 (foldN Z3 (splL vs j i (4 * y))).z]) (fun iv _ => 4 - (intOf iv).toNat)
                  case atStart => exact ⟨0, rfl, by omega, hb6, hS1⟩
                  case round =>
                    clear hS1 hb6
                    obtain ⟨y, rfl, hy4, hbq, hSq⟩ := hrel
                    rename World => wy
                    by_cases hyl : y < 4
                    · have qy0 : (0 : Int) ≤ (y : Int) := by omega
                      have qy : (y : Int) < 4 := by omega
                      go_upto_region 33 with (fail)
                      go_wp2
                      go_loopw [14] (fun iv wq => ∃ m : Nat, iv = .int .i64 (m : Int) ∧ m ≤ 4 ∧ Below S wz wq ∧ Blk wq S 30 #[.int .i64 (foldN Z3 (splL vs j i (4 * y + m))).x, .int .i64 (foldN Z3 (splL vs j i (4 * y + m))).y, .int .i64 (foldN Z3 (splL vs j i (4 * y + m))).z]) (fun iv _ => 4 - (intOf iv).toNat)
                      case atStart => exact ⟨0, rfl, by omega, hbq, hSq⟩
                      case round =>
                        clear hbq hSq
                        obtain ⟨m, rfl, hx4, hbq, hSq⟩ := hrel
                        rename World => wq
                        by_cases hxl : m < 4
                        · have qx0 : (0 : Int) ≤ (m : Int) := by omega
                          have qx : (m : Int) < 4 := by omega
                          have hbw : Below W5.heap.size W5 wq := bel_trans hBi (by rw [hS]; exact hbq)
                          have hlt : 4 * y + m < vs.length := by omega
                          have hnx := splL_next vs (j := j) (i := i) (y := y) hxl
                          have hvat : vat vs ((4 * y + m : Nat) : Int) = vs[4 * y + m] := vat_nat vs _ hlt
                          rw [hvat] at hnx
                          obtain ⟨ba, oa, rfl, hba, a0, a1, a2⟩ := (hVL5.below hbw).at_ (4 * y + m) hlt
                          have hm := rowW_mul j y i m
                          have r1 := hrow.out j y hjl hyl wq hbw
                          have r2 := hrow.out i m hil hxl wq hbw
                          have rl := Nat.lt_of_lt_of_le hrl hbw.size
                          have t0 : wq.cell? ⟨T, 0, none⟩ = some (.slice (some ⟨ba, oa, none⟩) 16 c1) := by have := (hT5.below hbw).cell 0; rw [hpl] at this; exact this
                          have tl := (hT5.below hbw).lt
                          generalize rowW j y = rj at *
                          generalize rowW i m = ri at *
                          generalize vs[4 * y + m] = p at *
                          generalize hsp : foldN Z3 (splL vs j i (4 * y + m)) = sm at *
                          have s0 : wq.cell? ⟨S, 0, none⟩ = some (.int .i64 sm.x) := hSq.cell 0
                          have s1 : wq.cell? ⟨S, 1, none⟩ = some (.int .i64 sm.y) := hSq.cell 1
                          have s2 : wq.cell? ⟨S, 2, none⟩ = some (.int .i64 sm.z) := hSq.cell 2
                          have sl := hSq.lt
                          have kS := rScale_any p.x p.y p.z (rj * ri)
                          have kA := rAdd_any sm.x sm.y sm.z (wrap64 (p.x * (rj * ri))) (wrap64 (p.y * (rj * ri))) (wrap64 (p.z * (rj * ri)))
                          have ht : (4 * (y : Int) + (m : Int)).toNat = 4 * y + m := by omega
                          have q8 : (0 : Int) ≤ 4 * (y : Int) + (m : Int) := by omega
                          have q9 : 4 * (y : Int) + (m : Int) < 16 := by omega
                          replace hnx := Lib.hid hnx
                          replace hsp := Lib.hid hsp
                          replace hvat := Lib.hid hvat
                          go_upto_region 36 with (fail)
                          refine wp_region_tail 22 ?_ (by kernel_rfl) (by kernel_rfl) (by kernel_rfl) (fun x => ?_) (fun x => ?_)
                          rotate_left
                          · simp only [List.take_succ_cons, List.take_zero]
                            repeat (go_big_quiet_step (((first | with_reducible exact kS.quiet _ | with_reducible exact kS.quiet2 _ _ | with_reducible exact kA.quiet _ | with_reducible exact kA.quiet2 _ _))))
                            refine wpQuiet_nil ?_
                            exact rfl
                          simp only [List.drop_succ_cons, List.drop_zero]
                          try simp only [Act.put, List.setIfInBounds_toArray, List.set_cons_succ, List.set_cons_zero]
                          have hlay := bel_grow (Below.refl wq.heap.size wq) x
                          have hSq2 := hSq.below hlay
                          have hbq1 : Below wz.heap.size wz wq := by rw [hS]; exact hbq
                          have hbq2 := bel_grow hbq1 x
                          clear s0 s1 s2 sl r1 r2 rl t0 tl a0 a1 a2 hba kS kA hbw hbq hbq1 hSq hlay hm
                          generalize grow wq x = w7 at *
                          have s0 : w7.cell? ⟨S, 0, none⟩ = some (.int .i64 sm.x) := hSq2.cell 0
                          have s1 : w7.cell? ⟨S, 1, none⟩ = some (.int .i64 sm.y) := hSq2.cell 1
                          have s2 : w7.cell? ⟨S, 2, none⟩ = some (.int .i64 sm.z) := hSq2.cell 2
                          have sl := hSq2.lt
                          have f0 := hSq2.frozen 0
                          have f1 := hSq2.frozen 1
                          have f2 := hSq2.frozen 2
                          have hS9 := ((hSq2.set 0 (.int .i64 (wrap64 (sm.x + wrap64 (p.x * (rj * ri)))))).set 1 (.int .i64 (wrap64 (sm.y + wrap64 (p.y * (rj * ri)))))).set 2 (.int .i64 (wrap64 (sm.z + wrap64 (p.z * (rj * ri)))))
                          have hb9 := bel_set (bel_set (bel_set hbq2 (p := ⟨S, 0, none⟩) (Nat.le_of_eq hS) (.int .i64 (wrap64 (sm.x + wrap64 (p.x * (rj * ri)))))) (p := ⟨S, 1, none⟩) (Nat.le_of_eq hS) (.int .i64 (wrap64 (sm.y + wrap64 (p.y * (rj * ri)))))) (p := ⟨S, 2, none⟩) (Nat.le_of_eq hS) (.int .i64 (wrap64 (sm.z + wrap64 (p.z * (rj * ri)))))
                          rw [hS] at hb9
                          clear hSq2 hbq2
                          go_wp2
                          go_roundw
                          case rel => exact ⟨m + 1, by go_num, by omega, hb9, by rw [show 4 * y + (m + 1) = 4 * y + m + 1 from rfl, hnx.out, foldN_snoc, hsp.out]; exact hS9⟩
                          case measure => simp [intOf]; omega
                        · obtain rfl : m = 4 := by omega
                          rw [show ((4 : Nat) : Int) = 4 from rfl]
                          go_wp2
                          go_roundw
                          case rel => exact ⟨y + 1, by go_num, by omega, hbq, by rw [show 4 * (y + 1) = 4 * y + 4 by omega]; exact hSq⟩
                          case measure => simp [intOf]; omega
                    · obtain rfl : y = 4 := by omega
                      rw [show ((4 : Nat) : Int) = 4 from rfl]
                      rw [show 4 * 4 = 16 from rfl] at hSq
                      have hbw : Below W5.heap.size W5 wy := bel_trans hBi (by rw [hS]; exact hbq)
                      obtain ⟨p0, p1, p2⟩ := patP_at (hG5.below hbw) (v := 4) (k := 4 * j + i) (by omega) (by omega)
                      simp only [Nat.reduceMul] at p0 p1 p2
                      have gl := (hG5.below hbw).lt
                      obtain ⟨⟨x1, x2⟩, x3, x4⟩ := hx.out j i hjl hil
                      obtain ⟨⟨y1, y2⟩, y3, y4⟩ := hy.out j i hjl hil
                      obtain ⟨⟨z1, z2⟩, z3, z4⟩ := hz.out j i hjl hil
                      have kx := close_any _ _ x1 x2 x3 x4
                      have ky := close_any _ _ y1 y2 y3 y4
                      have kz := close_any _ _ z1 z2 z3 z4
                      have s0 : wy.cell? ⟨S, 0, none⟩ = some (.int .i64 (foldN Z3 (splL vs j i 16)).x) := hSq.cell 0
                      have s1 : wy.cell? ⟨S, 1, none⟩ = some (.int .i64 (foldN Z3 (splL vs j i 16)).y) := hSq.cell 1
                      have s2 : wy.cell? ⟨S, 2, none⟩ = some (.int .i64 (foldN Z3 (splL vs j i 16)).z) := hSq.cell 2
                      have sl := hSq.lt
                      clear x1 x2 x3 x4 y1 y2 y3 y4 z1 z2 z3 z4
                      generalize (pq 4).pt (4 * j + i) = pp at *
                      generalize foldN Z3 (splL vs j i 16) = ff at *
                      have ht : (4 * (j : Int) + (i : Int)).toNat = 4 * j + i := by omega
                      have q8 : (0 : Int) ≤ 4 * (j : Int) + (i : Int) := by omega
                      have q9 : 4 * (j : Int) + (i : Int) < 16 := by omega
                      have hba := bel_alloc hbw (.cells #[.int .i64 pp.x, .int .i64 pp.y, .int .i64 pp.z] 30)
                      go_wp2_with (first | (go_at_call 10; first | ((with_reducible refine (kx.at_ _).mono ?_); rintro e w' ⟨rfl, xg1, rfl⟩) | ((with_reducible refine (ky.at_ _).mono ?_); rintro e w' ⟨rfl, xg2, rfl⟩) | ((with_reducible refine (kz.at_ _).mono ?_); rintro e w' ⟨rfl, xg3, rfl⟩)) | fail)
                      go_roundw
                      case rel => exact ⟨i + 1, by go_num, by omega, by first | exact bel_grow (bel_grow (bel_grow hba _) _) _ | exact bel_grow hba _⟩
                      case measure => simp [intOf]; omega
                · obtain rfl : i = 4 := by omega
                  rw [show ((4 : Nat) : Int) = 4 from rfl]
                  go_wp2
                  go_roundw
                  case rel => exact ⟨j + 1, by go_num, by omega, hBi⟩
                  case measure => simp [intOf]; omega
            · obtain rfl : j = 4 := by omega
              have hBW := bel_trans hB5 hBj
              rw [show ((4 : Nat) : Int) = 4 from rfl]
              go_wp2
              go_ret
              exact ⟨rfl, hBW⟩

theorem own : ownKnob Try.prog.godebug = none := by kernel_rfl
set_option maxRecDepth 100000 in
theorem lifted (os : Os) (started : os.Started) (H : Type) (enc : TypeId × Value → H) :
    ReturnsInHanded {} Try.checked os 3 .any (Rows.patchSplineSpec.pre6 enc Try.prog Try.f3 Rows.patchSplineRow.domain false) (Rows.patchSplineSpec.post enc Try.prog Try.f3 false true false false) := by
  refine returnsInHanded_of_change_sized (C := Try.checked) own started (by kernel_rfl) Try.func3
    (ChangeSpec.witness6 (enc := enc) (C := Try.checked) false ⟨#[], #[.slice none 0 0], []⟩ 12 (by kernel_rfl) (by kernel_rfl) (by kernel_rfl) (by kernel_rfl)) ?_
  intro W base args ds gs before hval0 hW hcnd hwt _
  have hval : ∀ (j : Nat) t v, Try.f3.params[j]? = some t → args[j]? = some v → Value.okWide Try.prog W .any base t v := hval0
  have hW' := hW
  obtain ⟨p, q, hA0, hV, rfl, hfz, hnd⟩ := hW
  have hA : DataW.TrodAll enc Try.prog W 0 (fun _ => true) true Try.f3.params.toList args.toList ds p := hA0
  rw [Try.params3] at hA hval
  obtain ⟨v0, vs0, d0, ds0, p0, q0, hargs, rfl, rfl, h0, r0⟩ := trodAll_cons hA
  obtain ⟨rfl, rfl, rfl⟩ := trodAll_nil r0
  obtain rfl : args = #[v0] := by cases args; simp_all
  obtain ⟨A0, n0, c0, q0, rfl, b0⟩ := open_Vs (hval 0 22 v0 rfl rfl) h0
  refine (walk W A0 n0 c0 q0 b0).mono fun e W' ⟨he, hb⟩ => ?_
  subst he
  exact ⟨_, rfl, law_post (tb := 4) (by kernel_rfl) (by kernel_rfl) rfl rfl Try.underlying4 rfl rfl rfl hW' hb⟩

theorem over : Rows.patchSplineRow.holds Try.pinned (OpenSpec.ofChange Rows.patchSplineSpec) :=
  OpenClaim.holds_of_wide 3 Try.f3 rfl rfl rfl rfl rfl rfl rfl ⟨rfl, rfl, rfl, rfl, rfl⟩ rfl rfl rfl rfl rfl (by kernel_rfl) Try.func3 (by kernel_rfl)
    (of_decide_eq_true (by kernel_rfl)) (by unfold Func.isWrapper; first | (rw [if_pos (by decide +kernel)]; kernel_rfl) | (rw [if_neg (by decide +kernel)]; exact ⟨rfl, rfl⟩))
    (fun os started H enc _ => lifted os started H enc)

theorem proved : Rows.PatchSplineSaid :=
  over
#print axioms proved
end Go.Proofs.Ytpdnaceggpdleab.patchSpline
