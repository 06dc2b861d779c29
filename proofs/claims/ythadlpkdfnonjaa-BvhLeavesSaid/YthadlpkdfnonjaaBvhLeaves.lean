/- BvhLeaves holds for every input: the row, out of the walk. No condition. -/
import Derived.SizedLaws
import Derived.Test.YthadlpkdfnonjaaRows
import Derived.Test.YthadlpkdfnonjaaBvhN
import Derived.Test.YthadlpkdfnonjaaC7
import Derived.Test.YthadlpkdfnonjaaC8
import Derived.Test.YthadlpkdfnonjaaC14
namespace Go.Proofs.Ythadlpkdfnonjaa.bvhLeaves
open Go.ChangeShapes Go.WideShapes Go.ChangeAt Go.RowKit
set_option linter.unusedVariables false
set_option linter.unusedSimpArgs false
set_option maxRecDepth 100000 in
set_option maxHeartbeats 8000000 in
theorem walk (W : World) (A : Option Addr) (n c : Nat) (B : Nat → Bx) (hA : SL A n c ∧ BxR W A n B) (leaf : Int) (hleaf : -9223372036854775808 ≤ leaf ∧ leaf ≤ 9223372036854775807) (o : P3) (ko : In3 o) (d : P3) (kd : In3 d) : Calls Try.prog 8 #[.slice A n c, .int .i64 leaf, .agg #[.int .i64 o.x, .int .i64 o.y, .int .i64 o.z], .agg #[.int .i64 d.x, .int .i64 d.y, .int .i64 d.z]] W fun e w' => e = .returned (.bool true) ∧ Below W.heap.size W w' := by
  have al := alive16_any
  obtain ⟨hS, hB⟩ := hA
  have hnl := hS.1
  have hcl := hS.2.1
  clear ko kd
  by_cases h200 : 200 < n
  · have hq : (n : Int) > 200 := by omega
    have hn2 : (n : Int) ≤ 9223372036854775807 := by unfold maxLen at hcl; omega
    go_enter Try.func8, Try.ntmps8
    go_wp2_with (first | (go_at_call 18; (with_reducible refine (al.at_ _).mono ?_); rintro e w' ⟨rfl, xg, rfl⟩) | fail)
    go_ret
    exact ⟨rfl, (by repeat (first | exact Below.refl _ _ | refine bel_then ?_ _ | refine bel_grow ?_ _ | refine bel_alloc ?_ _ | refine bel_drew ?_ | refine bel_set ?_ (by simp) _ | refine bel_setRow ?_ (by first | omega | (simp; done) | (refine Nat.le_trans ?_ (top_le _ _); simp; done) | (refine Nat.le_succ_of_le (Nat.le_trans ?_ (top_le _ _)); simp; done) | (refine Nat.le_trans ?_ (top_le _ _); simp only [World.size_alloc]; refine Nat.le_succ_of_le (Nat.le_trans ?_ (top_le _ _)); simp; done)) _))⟩
  have hq : ¬ (n : Int) > 200 := by omega
  have hn3 : n ≤ 300 := by omega
  by_cases hl1 : leaf < 1
  · go_enter Try.func8, Try.ntmps8
    go_wp2_with (first | (go_at_call 18; (with_reducible refine (al.at_ _).mono ?_); rintro e w' ⟨rfl, xg, rfl⟩) | fail)
    go_ret
    exact ⟨rfl, (by repeat (first | exact Below.refl _ _ | refine bel_then ?_ _ | refine bel_grow ?_ _ | refine bel_alloc ?_ _ | refine bel_drew ?_ | refine bel_set ?_ (by simp) _ | refine bel_setRow ?_ (by first | omega | (simp; done) | (refine Nat.le_trans ?_ (top_le _ _); simp; done) | (refine Nat.le_succ_of_le (Nat.le_trans ?_ (top_le _ _)); simp; done) | (refine Nat.le_trans ?_ (top_le _ _); simp only [World.size_alloc]; refine Nat.le_succ_of_le (Nat.le_trans ?_ (top_le _ _)); simp; done)) _))⟩
  have hl2 : 0 < leaf.toNat := by omega
  have hl3 : 1 ≤ leaf := by omega
  obtain ⟨W1, hW1⟩ : ∃ W1, W1 = (W.alloc (.cells (#[.int .i64 o.x, .int .i64 o.y, .int .i64 o.z]) 23)).alloc (.cells (#[.int .i64 d.x, .int .i64 d.y, .int .i64 d.z]) 23) := ⟨_, rfl⟩
  have hb1 : Below W.heap.size W W1 := by rw [hW1]; exact bel_alloc (bel_alloc (Below.refl _ _) _) _
  have hO1 : Blk W1 W.heap.size 23 #[.int .i64 o.x, .int .i64 o.y, .int .i64 o.z] := by rw [hW1]; exact (Blk.new _ _ _ _ rfl).alloc _
  have hD1 : Blk W1 (W.heap.size + 1) 23 #[.int .i64 d.x, .int .i64 d.y, .int .i64 d.z] := by rw [hW1]; exact Blk.new _ _ _ _ (by simp)
  go_enter Try.func8, Try.ntmps8
  go_upto_region 1 with (fail)
  simp only [← hW1]
  clear hW1
  obtain ⟨bo, hbo⟩ : ∃ b, b = W.heap.size := ⟨_, rfl⟩
  rw [← hbo] at hO1 hD1
  simp only [← hbo]
  replace hbo := Lib.hid hbo
  go_upto_region 5 with (first | (go_at_call 18; (with_reducible refine (al.at_ _).mono ?_); rintro e w' ⟨rfl, xg, rfl⟩) | fail)
  have hbg : Below W1.heap.size W1 (grow W1 xg) := xg.kept W1
  have hB2 := hB.below (bel_trans hb1 hbg)
  have hO2 := hO1.below hbg
  have hD2 := hD1.below hbg
  have hb2 := bel_trans hb1 hbg
  clear hb1 hO1 hD1 hbg hB al
  generalize hWg : grow W1 xg = X0 at *
  clear hWg
  cases hok : allOk B n
  · have hE : ∀ l : Int, 1 ≤ l → bldE B n l = 21 := fun l hl => by unfold bldE; rw [if_neg (by omega), hok]; rfl
    have kB : ∀ (V : World) (l : Int), BxR V A n B → (-9223372036854775808 ≤ l ∧ l ≤ 9223372036854775807) → 1 ≤ l → Calls Try.prog 19 #[.slice A n c, .int .i64 l] V fun e W' => Below V.heap.size V W' ∧ e = .returned (.tuple #[.agg #[.slice none 0 0, .slice none 0 0], .int .i64 21]) := fun V l hV h1 h2 => (build_any V A n c B hV hn3 l h1).mono fun e W' ⟨h3, h4⟩ => ⟨h3, by have := bld_err h4 (by rw [hE l h2]; decide); rw [hE l h2] at this; exact this⟩
    have kB1 := kB X0 1 hB2 (by omega) (by omega)
    go_upto_region 6 with (first | (go_at_call 19; (with_reducible refine kB1.mono ?_); rintro e V1 ⟨hv, rfl⟩) | fail)
    have hx := bel_alloc hv (.cells #[.slice none 0 0, .slice none 0 0] 56)
    have hb3 := bel_trans hb2 hx
    have hB3 := hB2.below hx
    clear hx hv hB2 hb2 kB1
    generalize V1.alloc (.cells #[.slice none 0 0, .slice none 0 0] 56) = X1 at *
    generalize V1.heap.size = g1 at *
    have kB2 := kB X1 leaf hB3 hleaf hl3
    go_upto_region 7 with (first | (go_at_call 19; (with_reducible refine kB2.mono ?_); rintro e V2 ⟨hv, rfl⟩) | fail)
    have hx := bel_alloc hv (.cells #[.slice none 0 0, .slice none 0 0] 56)
    have hb4 := bel_trans hb3 hx
    have hB4 := hB3.below hx
    clear hx hv hB3 hb3 kB2
    generalize V2.alloc (.cells #[.slice none 0 0, .slice none 0 0] 56) = X2 at *
    generalize V2.heap.size = g2 at *
    have kB3 := kB X2 1000 hB4 (by omega) (by omega)
    go_wp2_with (first | (go_at_call 19; (with_reducible refine kB3.mono ?_); rintro e V3 ⟨hv, rfl⟩) | fail)
    go_ret
    exact ⟨rfl, bel_trans hb4 (bel_alloc hv _)⟩
  · have e1 : (1 : Int).toNat = 1 := rfl
    have e2 : (1000 : Int).toNat = 1000 := rfl
    have hB1 := hB2
    have hO1 := hO2
    have hD1 := hD2
    have hb1 := hb2
    clear hB2 hO2 hD2 hb2
    have kB := buildU X0 A n c B hB1 hn3 1 (by omega) hok (by omega)
    go_upto_region 6 with (first | (go_at_call 19; (with_reducible refine kB.mono ?_); rintro e V1 ⟨hv, t1, rfl, hT⟩) | fail)
    have hba : Below V1.heap.size V1 (V1.alloc (.cells #[.slice t1.a t1.s t1.c, .slice t1.b t1.n t1.k] 56)) := bel_alloc (Below.refl _ _) _
    have hR1 : Blk (V1.alloc (.cells #[.slice t1.a t1.s t1.c, .slice t1.b t1.n t1.k] 56)) V1.heap.size 56 #[.slice t1.a t1.s t1.c, .slice t1.b t1.n t1.k] := Blk.new _ _ _ _ rfl
    have hx := bel_trans hv hba
    have hT1 := hT.below hba
    have hO2 := hO1.below hx
    have hD2 := hD1.below hx
    have hB2 := hB1.below hx
    have hb2 := bel_trans hb1 hx
    clear kB hv hba hT hO1 hD1 hB1 hb1
    generalize V1.alloc (.cells #[.slice t1.a t1.s t1.c, .slice t1.b t1.n t1.k] 56) = X1 at *
    generalize V1.heap.size = g1 at *
    have kB := buildU X1 A n c B hB2 hn3 leaf hleaf hok hl3
    go_upto_region 7 with (first | (go_at_call 19; (with_reducible refine kB.mono ?_); rintro e V2 ⟨hv, t2, rfl, hT⟩) | fail)
    have hba : Below V2.heap.size V2 (V2.alloc (.cells #[.slice t2.a t2.s t2.c, .slice t2.b t2.n t2.k] 56)) := bel_alloc (Below.refl _ _) _
    have hR2 : Blk (V2.alloc (.cells #[.slice t2.a t2.s t2.c, .slice t2.b t2.n t2.k] 56)) V2.heap.size 56 #[.slice t2.a t2.s t2.c, .slice t2.b t2.n t2.k] := Blk.new _ _ _ _ rfl
    have hx := bel_trans hv hba
    have hT2 := hT.below hba
    have hO3 := hO2.below hx
    have hD3 := hD2.below hx
    have hB3 := hB2.below hx
    have hb3 := bel_trans hb2 hx
    have hT12 := hT1.below hx
    have hR12 := hR1.below hx
    clear kB hv hba hT hO2 hD2 hB2 hb2
    generalize V2.alloc (.cells #[.slice t2.a t2.s t2.c, .slice t2.b t2.n t2.k] 56) = X2 at *
    generalize V2.heap.size = g2 at *
    have kB := buildU X2 A n c B hB3 hn3 1000 (by omega) hok (by omega)
    go_upto_region 8 with (first | (go_at_call 19; (with_reducible refine kB.mono ?_); rintro e V3 ⟨hv, t3, rfl, hT⟩) | fail)
    have hba : Below V3.heap.size V3 (V3.alloc (.cells #[.slice t3.a t3.s t3.c, .slice t3.b t3.n t3.k] 56)) := bel_alloc (Below.refl _ _) _
    have hR3 : Blk (V3.alloc (.cells #[.slice t3.a t3.s t3.c, .slice t3.b t3.n t3.k] 56)) V3.heap.size 56 #[.slice t3.a t3.s t3.c, .slice t3.b t3.n t3.k] := Blk.new _ _ _ _ rfl
    have hx := bel_trans hv hba
    have hT3 := hT.below hba
    have hO4 := hO3.below hx
    have hD4 := hD3.below hx
    have hB4 := hB3.below hx
    have hb4 := bel_trans hb3 hx
    have hT13 := hT12.below hx
    have hT23 := hT2.below hx
    have hR13 := hR12.below hx
    have hR23 := hR2.below hx
    clear kB hv hba hT hO3 hD3 hB3 hb3
    generalize V3.alloc (.cells #[.slice t3.a t3.s t3.c, .slice t3.b t3.n t3.k] 56) = X3 at *
    generalize V3.heap.size = g3 at *
    rw [e1] at hT13
    rw [e2] at hT3
    clear hB4
    obtain ⟨E, hE⟩ : ∃ E, E = touE n o d := ⟨_, rfl⟩
    obtain ⟨Tx, hTx⟩ : ∃ T, T = touU B 1 n o d := ⟨_, rfl⟩
    obtain ⟨Ty, hTy⟩ : ∃ T, T = touU B leaf.toNat n o d := ⟨_, rfl⟩
    obtain ⟨Tz, hTz⟩ : ∃ T, T = touU B 1000 n o d := ⟨_, rfl⟩
    have lx := touU_lt (B := B) (leaf := 1) (by omega) hn3 o d
    have ly := touU_lt (B := B) hl2 hn3 o d
    have lz := touU_all (B := B) (n := n) (by omega) o d
    have sxy := touU_sub (B := B) hl2 hn3 o d
    rw [← hTx] at lx sxy
    rw [← hTy] at ly sxy
    rw [← hTz] at lz
    have K1 := fun (Y : World) (h : TrR Y t1 B 1 n) => touchU Y t1 B (by omega) hn3 hok h o d
    have K2 := fun (Y : World) (h : TrR Y t2 B leaf.toNat n) => touchU Y t2 B hl2 hn3 hok h o d
    have K3 := fun (Y : World) (h : TrR Y t3 B 1000 n) => touchU Y t3 B (by omega) hn3 hok h o d
    rw [← hE, ← hTx] at K1
    rw [← hE, ← hTy] at K2
    rw [← hE, ← hTz] at K3
    clear hE hTx hTy hTz e1 e2 hok
    replace lz := Lib.hid lz
    replace sxy := Lib.hid sxy
    obtain ⟨lxl, lxn⟩ := lx
    obtain ⟨lyl, lyn⟩ := ly
    replace lxn := Lib.hid lxn
    replace lyn := Lib.hid lyn
    have kT := K1 X3 hT13
    have a0 := hR13.cell 0
    have a1 := hR13.cell 1
    have al := hR13.lt
    have o0 := hO4.cell 0
    have o1 := hO4.cell 1
    have o2 := hO4.cell 2
    have ol := hO4.lt
    have d0 := hD4.cell 0
    have d1 := hD4.cell 1
    have d2 := hD4.cell 2
    have dl := hD4.lt
    go_upto_region 11 with (first | (go_at_call 22; (with_reducible refine kT.mono ?_); rintro e Y1 ⟨hy, P1, p1, rfl, hI1⟩) | fail)
    clear kT a0 a1 al o0 o1 o2 ol d0 d1 d2 dl
    replace hb4 := bel_trans hb4 hy
    replace hR23 := hR23.below hy
    replace hR3 := hR3.below hy
    replace hT23 := hT23.below hy
    replace hT3 := hT3.below hy
    replace hO4 := hO4.below hy
    replace hD4 := hD4.below hy
    clear hy
    have kT := K2 Y1 hT23
    have a0 := hR23.cell 0
    have a1 := hR23.cell 1
    have al := hR23.lt
    have o0 := hO4.cell 0
    have o1 := hO4.cell 1
    have o2 := hO4.cell 2
    have ol := hO4.lt
    have d0 := hD4.cell 0
    have d1 := hD4.cell 1
    have d2 := hD4.cell 2
    have dl := hD4.lt
    go_upto_region 12 with (first | (go_at_call 22; (with_reducible refine kT.mono ?_); rintro e Y2 ⟨hy, P2, p2, rfl, hI2⟩) | fail)
    clear kT a0 a1 al o0 o1 o2 ol d0 d1 d2 dl
    replace hb4 := bel_trans hb4 hy
    replace hR3 := hR3.below hy
    replace hT3 := hT3.below hy
    replace hO4 := hO4.below hy
    replace hD4 := hD4.below hy
    replace hI1 := hI1.below hy
    clear hy
    have kT := K3 Y2 hT3
    have a0 := hR3.cell 0
    have a1 := hR3.cell 1
    have al := hR3.lt
    have o0 := hO4.cell 0
    have o1 := hO4.cell 1
    have o2 := hO4.cell 2
    have ol := hO4.lt
    have d0 := hD4.cell 0
    have d1 := hD4.cell 1
    have d2 := hD4.cell 2
    have dl := hD4.lt
    go_upto_region 13 with (first | (go_at_call 22; (with_reducible refine kT.mono ?_); rintro e Y3 ⟨hy, P3, p3, rfl, hI3⟩) | fail)
    clear kT a0 a1 al o0 o1 o2 ol d0 d1 d2 dl
    replace hb4 := bel_trans hb4 hy
    replace hO4 := hO4.below hy
    replace hD4 := hD4.below hy
    replace hI1 := hI1.below hy
    replace hI2 := hI2.below hy
    clear hy
    clear K1 K2 K3 hR13 hR23 hR3 hT13 hT23 hT3 hO4 hD4 hT1 hT2 hR1 hR2 hR12
    have hmm := @run_makeMap Try.prog
    go_upto_region 16 with fail
    clear hmm
    have hM := SeM.made Y3
    have hbm : Below Y3.heap.size Y3 (Y3.alloc (.map #[] 0)) := bel_alloc (Below.refl _ _) _
    obtain ⟨gB, hgB⟩ : ∃ g, g = Y3.heap.size := ⟨_, rfl⟩
    rw [← hgB] at hM
    simp only [← hgB]
    replace hgB := Lib.hid hgB
    generalize Y3.alloc (.map #[] 0) = Z0 at *
    go_wp2
    go_loopw [19] (fun iv wr => ∃ k : Nat, iv = .int .i64 (k : Int) ∧ k ≤ Ty.length ∧ Below Y3.heap.size Y3 wr ∧ SeM wr gB (zL (Ty.take k))) (fun iv _ => Ty.length - (intOf iv).toNat)
    case atStart => exact ⟨0, rfl, by omega, hbm, by rw [List.take_zero]; exact hM⟩
    case round =>
      obtain ⟨k, rfl, hk, hbr, hSr⟩ := hrel
      by_cases hkT : k < Ty.length
      · obtain ⟨by_, oy, rfl, hyl, hxc⟩ := (hI2.below hbr).nat k hkT
        have hxn := lyn.out _ (List.getElem_mem hkT)
        have hvb : i64B ((Ty[k] : Nat) : Int) := ⟨by omega, by omega⟩
        have q0 : (0 : Int) ≤ (k : Int) := by omega
        have q1 : (k : Int) < (Ty.length : Int) := by omega
        have hlen : (zL (Ty.take k)).length < 9223372036854775807 := by rw [zL_len, List.length_take]; omega
        have hsn : Hid (zL (Ty.take k) ++ [((Ty[k] : Nat) : Int)] = zL (Ty.take (k + 1))) := Lib.hid (by rw [List.take_succ_eq_append_getElem hkT]; unfold zL; rw [List.map_append]; rfl)
        generalize ((Ty[k] : Nat) : Int) = x at *
        go_upto_region 18 with (first | (refine wpL_put_se wr rfl _ _ _ rfl gB _ rfl hSr x rfl rfl hvb hlen ?_; intro W9 hS9 hg9; try simp only [Act.put, List.setIfInBounds_toArray, List.set_cons_succ, List.set_cons_zero]) | fail)
        have hb9 : Below Y3.heap.size Y3 W9 := hbr.trans ⟨hg9.os, hg9.tape, hg9.output, hg9.size, fun i hi => hg9.block i (Nat.lt_of_lt_of_le hi hbr.size) (fun e => by have := Option.some.inj e; have := hgB.out; omega)⟩
        rw [hsn.out] at hS9
        clear hSr hxc hg9 hbr
        go_wp2
        go_roundw
        case rel => exact ⟨k + 1, by go_num, by omega, hb9, hS9⟩
        case measure => simp [intOf]; omega
      · obtain rfl : k = Ty.length := by omega
        rw [List.take_length] at hSr
        clear hbm hM
        go_wp2
        go_loopw [20] (fun iv wq => ∃ k : Nat, iv = .int .i64 (k : Int) ∧ k ≤ Tx.length ∧ wq = wr) (fun iv _ => Tx.length - (intOf iv).toNat)
        case atStart => exact ⟨0, rfl, by omega, rfl⟩
        case round =>
          obtain ⟨k, rfl, hk, rfl⟩ := hrel
          by_cases hkX : k < Tx.length
          · obtain ⟨bx_, ox, rfl, hyl, hxc⟩ := (hI1.below hbr).nat k hkX
            have hxn := lxn.out _ (List.getElem_mem hkX)
            have hvb : i64B ((Tx[k] : Nat) : Int) := ⟨by omega, by omega⟩
            have hin : ((Tx[k] : Nat) : Int) ∈ zL Ty := by
              unfold zL
              exact List.mem_map.2 ⟨_, sxy.out _ (List.getElem_mem hkX), rfl⟩
            have hLk := hSr.look hvb
            rw [decide_eq_true hin] at hLk
            have q0 : (0 : Int) ≤ (k : Int) := by omega
            have q1 : (k : Int) < (Tx.length : Int) := by omega
            clear hin
            generalize ((Tx[k] : Nat) : Int) = x at *
            go_wp2
            go_roundw
            case rel => exact ⟨k + 1, by go_num, by omega, by first | rfl | trivial⟩
            case measure => simp [intOf]; omega
          · obtain rfl : k = Tx.length := by omega
            rcases lz.out with hz | hz
            · rw [hz] at *
              go_wp2
              go_ret
              exact ⟨rfl, bel_trans hb4 hbr⟩
            · rw [hz] at *
              go_wp2
              all_goals
                go_ret
                exact ⟨ret_bool (by simp), bel_trans hb4 hbr⟩

theorem own : ownKnob Try.prog.godebug = none := by kernel_rfl
set_option maxRecDepth 100000 in
theorem lifted (os : Os) (started : os.Started) (H : Type) (enc : TypeId × Value → H) :
    ReturnsInHanded {} Try.checked os 8 .any (Rows.bvhLeavesSpec.pre6 enc Try.prog Try.f8 Rows.bvhLeavesRow.domain false) (Rows.bvhLeavesSpec.post enc Try.prog Try.f8 false true false false) := by
  refine returnsInHanded_of_change_sized (C := Try.checked) own started (by kernel_rfl) Try.func8
    (ChangeSpec.witness6 (enc := enc) (C := Try.checked) false ⟨#[], #[.slice none 0 0, .int .i64 0, .agg #[.int .i64 0, .int .i64 0, .int .i64 0], .agg #[.int .i64 0, .int .i64 0, .int .i64 0]], []⟩ 12 (by kernel_rfl) (by kernel_rfl) (by kernel_rfl) (by kernel_rfl)) ?_
  intro W base args ds gs before hval0 hW hcnd hwt _
  have hval : ∀ (j : Nat) t v, Try.f8.params[j]? = some t → args[j]? = some v → Value.okWide Try.prog W .any base t v := hval0
  have hW' := hW
  obtain ⟨p, q, hA0, hV, rfl, hfz, hnd⟩ := hW
  have hA : DataW.TrodAll enc Try.prog W 0 (fun _ => true) true Try.f8.params.toList args.toList ds p := hA0
  rw [Try.params8] at hA hval
  obtain ⟨v0, vs0, d0, ds0, p0, q0, hargs, rfl, rfl, h0, r0⟩ := trodAll_cons hA
  obtain ⟨v1, vs1, d1, ds1, p1, q1, rfl, rfl, rfl, h1, r1⟩ := trodAll_cons r0
  obtain ⟨v2, vs2, d2, ds2, p2, q2, rfl, rfl, rfl, h2, r2⟩ := trodAll_cons r1
  obtain ⟨v3, vs3, d3, ds3, p3, q3, rfl, rfl, rfl, h3, r3⟩ := trodAll_cons r2
  obtain ⟨rfl, rfl, rfl⟩ := trodAll_nil r3
  obtain rfl : args = #[v0, v1, v2, v3] := by cases args; simp_all
  obtain ⟨A0, n0, c0, B0, rfl, b0⟩ := open_Boxs (hval 0 52 v0 rfl rfl) h0
  obtain ⟨a1, rfl, b1⟩ := open_int64 (hval 1 3 v1 rfl rfl) h1
  obtain ⟨a2, rfl, k2⟩ := open_V3 (hval 2 23 v2 rfl rfl) h2
  obtain ⟨a3, rfl, k3⟩ := open_V3 (hval 3 23 v3 rfl rfl) h3
  refine (walk W A0 n0 c0 B0 b0 a1 b1 a2 k2 a3 k3).mono fun e W' ⟨he, hb⟩ => ?_
  subst he
  exact ⟨_, rfl, law_post (tb := 4) (by kernel_rfl) (by kernel_rfl) rfl rfl Try.underlying4 rfl rfl rfl hW' hb⟩

theorem over : Rows.bvhLeavesRow.holds Try.pinned (OpenSpec.ofChange Rows.bvhLeavesSpec) :=
  OpenClaim.holds_of_wide 8 Try.f8 rfl rfl rfl rfl rfl rfl rfl ⟨rfl, rfl, rfl, rfl, rfl⟩ rfl rfl rfl rfl rfl (by kernel_rfl) Try.func8 (by kernel_rfl)
    (of_decide_eq_true (by kernel_rfl)) (by unfold Func.isWrapper; first | (rw [if_pos (by decide +kernel)]; kernel_rfl) | (rw [if_neg (by decide +kernel)]; exact ⟨rfl, rfl⟩))
    (fun os started H enc _ => lifted os started H enc)

theorem proved : Rows.BvhLeavesSaid :=
  over
#print axioms proved
end Go.Proofs.Ythadlpkdfnonjaa.bvhLeaves
