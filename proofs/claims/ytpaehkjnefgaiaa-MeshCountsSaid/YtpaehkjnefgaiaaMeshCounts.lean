/- MeshCounts holds for every input: the row, out of the walk. No condition. -/
import Derived.SizedLaws
import Derived.Test.YtpaehkjnefgaiaaRows
import Derived.Test.YtpaehkjnefgaiaaMapK
import Derived.Test.YtpaehkjnefgaiaaC10
import Derived.Test.YtpaehkjnefgaiaaC17
namespace Go.Proofs.Ytpaehkjnefgaiaa.meshCounts
open Go.ChangeShapes Go.WideShapes Go.ChangeAt Go.RowKit
set_option linter.unusedVariables false
set_option linter.unusedSimpArgs false
set_option linter.unnecessarySimpa false
set_option maxRecDepth 100000
set_option maxHeartbeats 8000000 in
theorem walk (W : World) (P : Pch) (hPI : PchI P) (nm : ByteArray) (ma lv un tx ht : Int) (A : Option Addr) (c : Nat) (ts : List TexD) (hl : ts.length ≤ reachBytes) (hT : ∀ t ∈ ts, TexI t) (hX : XL W A ts) :
    Calls Try.prog 7 #[.agg P.row, .agg (skC nm ma lv un tx ht), .slice A ts.length c] W fun e W' => e = .returned (.bool true) ∧ Below W.heap.size W W' := by
  have hco : ∀ k, k < 4 → i64W (P.co k) := fun k hk => hPI.2.1 k hk
  have hTL : ∀ t ∈ ts, t.rows.length ≤ 140737488351232 := fun t ht => (hT t ht).2.2
  obtain ⟨W0, hW0⟩ : ∃ W0, W0 = (W.alloc (.cells P.row 28)).alloc (.cells (skC nm ma lv un tx ht) 30) := ⟨_, rfl⟩
  have hB0 : Below W.heap.size W W0 := by rw [hW0]; exact bel_alloc (bel_alloc (Below.refl _ _) _) _
  have hP0 : PchB W0 W.heap.size 0 P := by rw [hW0]; exact PchB.of ((Blk.new _ _ _ _ rfl).alloc _)
  have hS0 : Blk W0 (W.heap.size + 1) 30 (skC nm ma lv un tx ht) := by rw [hW0]; exact Blk.new _ _ _ _ (by simp)
  have kA := alive15_any
  have kL : ∀ W' : World, Below W.heap.size W W' → _ := fun W' hb => long_any W' A c ts (hX.below hb) hTL
  go_enter Try.func7, Try.ntmps7
  go_upto_region 1 with (fail)
  simp only [← hW0]
  clear hW0
  obtain ⟨bp, hbp⟩ : ∃ b, b = W.heap.size := ⟨_, rfl⟩
  rw [← hbp] at hP0 hS0
  simp only [← hbp]
  replace hbp := Lib.hid hbp
  go_upto_region 3 with (first | (go_at_call 9; (with_reducible refine (kA _).mono ?_); rintro e W1 ⟨rfl, hb1⟩) | fail)
  have hB1 := bel_trans hB0 hb1
  have kL1 := kL W1 hB1
  go_upto_region 5 with (first | (go_at_call 10; (with_reducible refine kL1.mono ?_); rintro e W2 ⟨⟨bb, rfl, hok⟩, hb2⟩; have hB2 := bel_trans hB1 hb2; replace hok := Lib.hid hok; cases bb) | fail)
  rotate_left
  · go_ret
    exact ⟨rfl, hB2⟩
  replace hok := hok.out trivial
  replace hX := hX.below hB2
  replace hP0 := (hP0.below hb1).below hb2
  replace hS0 := (hS0.below hb1).below hb2
  clear hTL hT kL kL1 hb1 hb2 hB0 hB1
  go_wp2
  go_loopw [7] (fun iv wr => Below W2.heap.size W2 wr ∧ ∃ i : Nat, iv = .int .i64 (i : Int) ∧ i ≤ 4 ∧ ∀ a, a < i → ∀ b, b < a → P.co a ≠ P.co b) (fun iv _ => 4 - (intOf iv).toNat)
  case atStart => exact ⟨Below.refl _ _, 0, rfl, by omega, fun a ha => absurd ha (by omega)⟩
  case round =>
    obtain ⟨hbr, i, rfl, hi, hd⟩ := hrel
    rename World => wr
    replace hd := Lib.hid hd
    by_cases hlt : i < 4
    · have q1 : (i : Int) < 4 := by omega
      have q0 : (0 : Int) ≤ (i : Int) := by omega
      go_wp2
      go_loopw [8] (fun kv wz => Below W2.heap.size W2 wz ∧ ∃ k : Nat, kv = .int .i64 (k : Int) ∧ k ≤ i ∧ ∀ b, b < k → P.co i ≠ P.co b) (fun kv _ => i - (intOf kv).toNat)
      case atStart => exact ⟨hbr, 0, rfl, by omega, fun b hb => absurd hb (by omega)⟩
      case round =>
        clear hbr
        obtain ⟨hbz, k, rfl, hk, he⟩ := hrel
        rename World => wz
        replace he := Lib.hid he
        have y1 := (hP0.below hbz).co hlt
        rw [Nat.zero_add] at y1
        have pl := (hP0.below hbz).1
        by_cases hki : k < i
        · have y2 := (hP0.below hbz).co (show k < 4 by omega)
          rw [Nat.zero_add] at y2
          have r1 : (k : Int) < (i : Int) := by omega
          have r0 : (0 : Int) ≤ (k : Int) := by omega
          have r4 : (k : Int) < 4 := by omega
          by_cases hne : P.co i = P.co k
          · go_upto_region 11 with (fail)
            refine wp_region_grow (by kernel_rfl) (by kernel_rfl) ?_
            repeat (go_big_quiet_step (fail))
            refine wpQuiet_nil ?_
            rintro _ ⟨xg2, rfl⟩
            go_wp2
            go_ret
            exact ⟨rfl, bel_grow (bel_trans hB2 hbz) xg2⟩
          · go_upto_region 11 with (fail)
            refine wp_region_grow (by kernel_rfl) (by kernel_rfl) ?_
            repeat (go_big_quiet_step (fail))
            refine wpQuiet_nil ?_
            rintro _ ⟨xg2, rfl⟩
            have hb9 := bel_grow hbz xg2
            go_wp2
            go_roundw
            case rel => exact ⟨hb9, k + 1, by go_num, by omega, fun b hb => by
              by_cases e : b = k
              · rw [e]; exact hne
              · exact he.out b (by omega)⟩
            case measure => simp [intOf]; omega
        · obtain rfl : k = i := by omega
          go_wp2
          go_roundw
          case rel => exact ⟨hbz, k + 1, by go_num, by omega, fun a ha b hb => by
            by_cases e : a = k
            · rw [e] at hb ⊢; exact he.out b hb
            · exact hd.out a (by omega) b hb⟩
          case measure => simp [intOf]; omega
    · obtain rfl : i = 4 := by omega
      have hd4 : dist4 P.co := fun a ha b hb => hd.out a ha b hb
      have hBr := bel_trans hB2 hbr
      replace hX := hX.below hbr
      replace hP0 := hP0.below hbr
      replace hS0 := hS0.below hbr
      by_cases hz : msE P un ht tx ts = 0
      · have kD := dice_yes wr P 0 0 nm ma lv un tx ht A c ts hX hok hz
        obtain ⟨f, _, _⟩ := msE_zero hz
        obtain ⟨ml1, ml2, ml3, ml4, ml5⟩ := mesh_len f 0 0 tx ts
        have hkr := keys_rng f hco tx ts
        have hkn : ∀ k (hk : k < (meshF P 0 0 un ht tx ts).ks.length), (meshF P 0 0 un ht tx ts).ks[k] ∉ (meshF P 0 0 un ht tx ts).ks.take k := fun k hk => keys_new f hd4 tx ts hk
        have htr := mesh_tri f 0 0 tx ts
        have ht2 : 2 ≤ (meshF P 0 0 un ht tx ts).ts.length := by rw [ml3]; exact tris_two (okQ_r f.q)
        rw [← ml3] at ml5
        rw [← ml1] at ml4 ml2
        have ml6 := ml4
        rw [← ml2] at ml6
        replace ml2 := Lib.hid ml2
        clear ml1 ml3 f hz hd hd4 hco hok hX
        generalize meshF P 0 0 un ht tx ts = m at *
        replace hkr := Lib.hid hkr
        replace hkn := Lib.hid hkn
        replace htr := Lib.hid htr
        go_upto_region 14 with (first | (refine getPt rfl _ rfl bp rfl P hP0 ?_; simp only [Act.put, List.setIfInBounds_toArray, List.set_cons_succ, List.set_cons_zero]) | (refine getSk rfl _ rfl (bp + 1) rfl nm ma lv un tx ht hS0 ?_; simp only [Act.put, List.setIfInBounds_toArray, List.set_cons_succ, List.set_cons_zero]) | (go_at_call 11; (with_reducible refine kD.mono ?_); rintro e W3 ⟨A1, A2, A3, c1, c2, c3, rfl, hb3, hL⟩) | (refine putM rfl _ _ rfl _ _ _ _ rfl rfl ⟨rfl, rfl, rfl⟩ _ rfl (Blk.new _ _ _ _ rfl) ?_; simp only [Act.put, List.setIfInBounds_toArray, List.set_cons_succ, List.set_cons_zero]) | fail)
        have hb4 : Below W3.heap.size W3 ((W3.alloc (.cells #[.slice none 0 0, .slice none 0 0, .slice none 0 0] 38)).setRow W3.heap.size #[.slice A1 m.vs.length c1, .slice A2 m.ks.length c2, .slice A3 m.ts.length c3]) := bel_setRow (bel_alloc (Below.refl _ _) _) (Nat.le_refl _) _
        have hM : Blk ((W3.alloc (.cells #[.slice none 0 0, .slice none 0 0, .slice none 0 0] 38)).setRow W3.heap.size #[.slice A1 m.vs.length c1, .slice A2 m.ks.length c2, .slice A3 m.ts.length c3]) W3.heap.size 38 #[.slice A1 m.vs.length c1, .slice A2 m.ks.length c2, .slice A3 m.ts.length c3] := (Blk.new _ _ _ _ rfl).setRow _
        have hb5 := bel_trans hb3 hb4
        have hB4 := bel_trans hBr hb5
        replace hL := hL.below hb4
        replace hP0 := hP0.below hb5
        replace hS0 := hS0.below hb5
        have hbn := hb5
        have hltmb : wr.heap.size ≤ W3.heap.size := hb3.size
        clear hb3 hb4 hb5 kD
        generalize ((W3.alloc (.cells #[.slice none 0 0, .slice none 0 0, .slice none 0 0] 38)).setRow W3.heap.size #[.slice A1 m.vs.length c1, .slice A2 m.ks.length c2, .slice A3 m.ts.length c3]) = W4 at *
        generalize W3.heap.size = mb at *
        have hmm := @run_makeMap Try.prog
        go_upto_region 17 with (fail)
        have hm6 := KyM.made W4
        have hb6 : Below W4.heap.size W4 (W4.alloc (.map #[] 0)) := bel_alloc (Below.refl _ _) _
        obtain ⟨gB, hgB⟩ : ∃ b, b = W4.heap.size := ⟨_, rfl⟩
        obtain ⟨W5, hW5⟩ : ∃ w, w = W4.alloc (.map #[] 0) := ⟨_, rfl⟩
        rw [← hgB, ← hW5] at hm6
        rw [← hW5] at hb6
        simp only [← hgB, ← hW5]
        have hgB2 : W4.heap.size ≤ gB := by omega
        have hgB3 : W.heap.size ≤ gB := Nat.le_trans hB4.size hgB2
        replace hgB := Lib.hid hgB
        replace hW5 := Lib.hid hW5
        have t0 : W4.cell? ⟨mb, 0, none⟩ = some (.slice A1 m.vs.length c1) := hM.cell 0
        have t1 : W4.cell? ⟨mb, 1, none⟩ = some (.slice A2 m.ks.length c2) := hM.cell 1
        have t2 : W4.cell? ⟨mb, 2, none⟩ = some (.slice A3 m.ts.length c3) := hM.cell 2
        have tl := hM.lt
        clear hbn
        go_wp2
        go_loopw [12] (fun iv wz => Below W.heap.size W wz ∧ Below W4.heap.size W4 wz ∧ ∃ (k : Nat), iv = .int .i64 (k : Int) ∧ k ≤ m.ks.length ∧ KyM wz gB (m.ks.take k)) (fun iv _ => m.ks.length - (intOf iv).toNat)
        case atStart => exact ⟨bel_trans hB4 hb6, hb6, 0, rfl, by omega, by simpa using hm6⟩
        case round =>
          clear hb6 hm6
          obtain ⟨hBz, hbz, k, rfl, hk, hKM⟩ := hrel
          rename World => wz
          have u1 := (hbz.cell (p := ⟨mb, 1, none⟩) tl).trans t1
          have ul := Nat.lt_of_lt_of_le tl hbz.size
          by_cases hkl : k < m.ks.length
          · obtain ⟨b, off, rfl, hbl, k0, k1, k2, k3, k4⟩ := (hL.k.below hbz).at_ k hkl
            have hn := hkn.out k hkl
            have hr := hkr.out _ (List.getElem_mem hkl)
            have htk : m.ks.take (k + 1) = m.ks.take k ++ [m.ks[k]] := List.take_succ_eq_append_getElem hkl
            have hlen : (m.ks.take k).length < 1000000 := by rw [List.length_take]; omega
            generalize m.ks[k] = key at *
            have hLk : (Instr.lookup 57 (.map (some gB)) (.agg #[.int .i64 key.1, .int .i64 key.2.1, .int .i64 key.2.2.1, .int .i64 key.2.2.2.1, .int .i64 key.2.2.2.2]) false).run Try.prog wz = .ok (.bool false) wz := hKM.look hr hn
            have q0 : (0 : Int) ≤ (k : Int) := by omega
            have q1 : (k : Int) < (m.ks.length : Int) := by omega
            go_upto_region 19 with (first | (at_mapUpdate; refine wpL_put_ky _ rfl _ _ _ rfl gB (m.ks.take k) rfl hKM key rfl rfl hr hlen ?_; intro w1 hK1 hg1; simp only [Act.put, List.setIfInBounds_toArray, List.set_cons_succ, List.set_cons_zero]) | fail)
            rw [← htk] at hK1
            have hB9 := bel_ownW hBz hg1 (fun j e => by cases e; exact hgB3)
            have hb9 := bel_ownW hbz hg1 (fun j e => by cases e; exact hgB2)
            clear hLk k0 k1 k2 k3 k4 hn hr htk hKM
            go_wp2
            go_roundw
            case rel => exact ⟨hB9, hb9, k + 1, by go_num, by omega, hK1⟩
            case measure => simp [intOf]; omega
          · obtain rfl : k = m.ks.length := by omega
            clear hKM
            go_wp2
            go_loopw [13] (fun iv wy => Below W.heap.size W wy ∧ Below W4.heap.size W4 wy ∧ ∃ (k : Nat), iv = .int .i64 (k : Int) ∧ k ≤ m.ts.length) (fun iv _ => m.ts.length - (intOf iv).toNat)
            case atStart => exact ⟨hBz, hbz, 0, rfl, by omega⟩
            case round =>
              clear hBz hbz u1 ul
              obtain ⟨hBz, hbz, k, rfl, hk⟩ := hrel
              rename World => wz
              have u0 := (hbz.cell (p := ⟨mb, 0, none⟩) tl).trans t0
              have u1 := (hbz.cell (p := ⟨mb, 1, none⟩) tl).trans t1
              have u2 := (hbz.cell (p := ⟨mb, 2, none⟩) tl).trans t2
              have ul := Nat.lt_of_lt_of_le tl hbz.size
              by_cases hkt : k < m.ts.length
              · obtain ⟨x, y, z, et, n1, n2, n3, hx, hy, hz⟩ := htr.out _ (List.getElem_mem hkt)
                have hLt := hL.t.below hbz
                obtain ⟨b, off, e3, hbl, c0⟩ := hLt (by omega)
                have c1' := c0 k hkt
                rw [et] at c1'
                obtain ⟨k0, k1, k2⟩ := c1'
                have q0 : (0 : Int) ≤ (k : Int) := by omega
                have q1 : (k : Int) < (m.ts.length : Int) := by omega
                have m1 : ¬ (x : Int) = (y : Int) := by omega
                have m2 : ¬ (y : Int) = (z : Int) := by omega
                have m3 : ¬ (z : Int) = (x : Int) := by omega
                have hbx : Below wz.heap.size wz ((wz.alloc (.cells #[.int .i64 0, .int .i64 0, .int .i64 0] 60)).setRow wz.heap.size #[.int .i64 (x : Int), .int .i64 (y : Int), .int .i64 (z : Int)]) := bel_setRow (bel_alloc (Below.refl _ _) _) (Nat.le_refl _) _
                have hXB : Blk ((wz.alloc (.cells #[.int .i64 0, .int .i64 0, .int .i64 0] 60)).setRow wz.heap.size #[.int .i64 (x : Int), .int .i64 (y : Int), .int .i64 (z : Int)]) wz.heap.size 60 #[.int .i64 (x : Int), .int .i64 (y : Int), .int .i64 (z : Int)] := (Blk.new _ _ _ _ rfl).setRow _
                have hMx := (hM.below hbz).below hbx
                have kT := vtri_L ((wz.alloc (.cells #[.int .i64 0, .int .i64 0, .int .i64 0] 60)).setRow wz.heap.size #[.int .i64 (x : Int), .int .i64 (y : Int), .int .i64 (z : Int)]) A1 A3 c1 c3 (.slice A2 m.ks.length c2) m.vs m.ts ((hL.v.below hbz).below hbx) (hLt.below hbx) k x y z hkt et hx hy hz
                generalize m.vs[x] = p at *
                generalize m.vs[y] = q at *
                generalize m.vs[z] = r at *
                subst e3
                clear c0 hLt
                go_upto_region 27 with (first | (refine wpList_store_row rfl 60 _ _ rfl _ #[.int .i64 (x : Int), .int .i64 (y : Int), .int .i64 (z : Int)] rfl rfl 60 #[.int .i64 0, .int .i64 0, .int .i64 0] (Blk.new _ _ _ _ rfl) (by kernel_rfl) rfl (by simp [Value.oneCell']) ?_; simp only [Act.put, List.setIfInBounds_toArray, List.set_cons_succ, List.set_cons_zero]) | fail)
                clear u0 u1 u2 ul k0 k1 k2 hbl
                have hB6 := bel_trans hBz hbx
                have hb6 := bel_trans hbz hbx
                generalize hX1 : ((wz.alloc (.cells #[.int .i64 0, .int .i64 0, .int .i64 0] 60)).setRow wz.heap.size #[.int .i64 (x : Int), .int .i64 (y : Int), .int .i64 (z : Int)]) = w6 at *
                generalize wz.heap.size = gx at *
                have hX2 := hXB
                go_upto_region 28 with (first | (refine getM rfl _ rfl mb rfl _ _ _ hMx ?_; simp only [Act.put, List.setIfInBounds_toArray, List.set_cons_succ, List.set_cons_zero]) | (go_at_call 15; (with_reducible refine kT.mono ?_); rintro e w7 ⟨rfl, hb7⟩) | (refine putTr rfl _ _ rfl _ p q r rfl rfl _ rfl (Blk.new _ _ _ _ rfl) ?_; simp only [Act.put, List.setIfInBounds_toArray, List.set_cons_succ, List.set_cons_zero]) | fail)
                have hb8 : Below w6.heap.size w6 ((w7.alloc (.cells #[.int .i64 0, .int .i64 0, .int .i64 0, .int .i64 0, .int .i64 0, .int .i64 0, .int .i64 0, .int .i64 0, .int .i64 0] 47)).setRow w7.heap.size (trA p q r)) := bel_setRow (bel_alloc hb7 _) hb7.size _
                have hX8 := hXB.below hb8
                have hB9 := bel_trans hB6 hb8
                have hb9 := bel_trans hb6 hb8
                clear hX2 hXB hMx kT hb7 hb8 hb6 hB6 hbx hX1
                generalize ((w7.alloc (.cells #[.int .i64 0, .int .i64 0, .int .i64 0, .int .i64 0, .int .i64 0, .int .i64 0, .int .i64 0, .int .i64 0, .int .i64 0] 47)).setRow w7.heap.size (trA p q r)) = w8 at *
                generalize w7.heap.size = gt at *
                have j0 : w8.cell? ⟨gx, 0, none⟩ = some (.int .i64 (x : Int)) := hX8.cell 0
                have j1 : w8.cell? ⟨gx, 1, none⟩ = some (.int .i64 (y : Int)) := hX8.cell 1
                have j2 : w8.cell? ⟨gx, 2, none⟩ = some (.int .i64 (z : Int)) := hX8.cell 2
                have jl := hX8.lt
                have w1 : ((x : Int) == (y : Int)) = false := beq_eq_false_iff_ne.2 m1
                have w2 : ((y : Int) == (z : Int)) = false := beq_eq_false_iff_ne.2 m2
                have w3 : ((z : Int) == (x : Int)) = false := beq_eq_false_iff_ne.2 m3
                clear m1 m2 m3
                go_wp2
                go_roundw
                case rel => exact ⟨hB9, hb9, k + 1, by go_num, by omega⟩
                case measure => simp [intOf]; omega
              · obtain rfl : k = m.ts.length := by omega
                have v1 : (m.ks.length : Int) = (m.vs.length : Int) := by have := ml2.out; omega
                have v2 : (2 : Int) ≤ (m.ts.length : Int) := by omega
                go_wp2
                go_ret
                exact ⟨rfl, hBz⟩
      · obtain ⟨x, hx⟩ : ∃ x, msE P un ht tx ts = x := ⟨_, rfl⟩
        rw [hx] at hz
        have kD := dice_no wr P 0 0 nm ma lv un tx ht A c ts hX hok x hx hz
        clear hx hok hX
        go_upto_region 14 with (first | (refine getPt rfl _ rfl bp rfl P hP0 ?_; simp only [Act.put, List.setIfInBounds_toArray, List.set_cons_succ, List.set_cons_zero]) | (refine getSk rfl _ rfl (bp + 1) rfl nm ma lv un tx ht hS0 ?_; simp only [Act.put, List.setIfInBounds_toArray, List.set_cons_succ, List.set_cons_zero]) | (go_at_call 11; (with_reducible refine kD.mono ?_); rintro e W3 ⟨rfl, hb3⟩) | (refine putM rfl _ _ rfl _ _ _ _ rfl rfl ⟨rfl, rfl, rfl⟩ _ rfl (Blk.new _ _ _ _ rfl) ?_; simp only [Act.put, List.setIfInBounds_toArray, List.set_cons_succ, List.set_cons_zero]) | fail)
        have hb4 : Below W3.heap.size W3 ((W3.alloc (.cells #[.slice none 0 0, .slice none 0 0, .slice none 0 0] 38)).setRow W3.heap.size #[.slice none 0 0, .slice none 0 0, .slice none 0 0]) := bel_setRow (bel_alloc (Below.refl _ _) _) (Nat.le_refl _) _
        have hM : Blk ((W3.alloc (.cells #[.slice none 0 0, .slice none 0 0, .slice none 0 0] 38)).setRow W3.heap.size #[.slice none 0 0, .slice none 0 0, .slice none 0 0]) W3.heap.size 38 #[.slice none 0 0, .slice none 0 0, .slice none 0 0] := (Blk.new _ _ _ _ rfl).setRow _
        have hb5 := bel_trans hb3 hb4
        have hB4 := bel_trans hBr hb5
        replace hP0 := hP0.below hb5
        replace hS0 := hS0.below hb5
        have hbn := hb5
        have hltmb : wr.heap.size ≤ W3.heap.size := hb3.size
        clear hb3 hb4 hb5 kD
        generalize ((W3.alloc (.cells #[.slice none 0 0, .slice none 0 0, .slice none 0 0] 38)).setRow W3.heap.size #[.slice none 0 0, .slice none 0 0, .slice none 0 0]) = W4 at *
        generalize W3.heap.size = mb at *
        go_wp2
        go_ret
        exact ⟨rfl, hB4⟩

theorem own : ownKnob Try.prog.godebug = none := by kernel_rfl
set_option maxRecDepth 100000 in
theorem lifted (os : Os) (started : os.Started) (H : Type) (enc : TypeId × Value → H) :
    ReturnsInHanded {} Try.checked os 7 .any (Rows.meshCountsSpec.pre6 enc Try.prog Try.f7 Rows.meshCountsRow.domain false) (Rows.meshCountsSpec.post enc Try.prog Try.f7 false true false false) := by
  refine returnsInHanded_of_change_sized (C := Try.checked) own started (by kernel_rfl) Try.func7
    (ChangeSpec.witness6 (enc := enc) (C := Try.checked) false ⟨#[], #[.agg #[.int .i64 0, .int .i64 0, .int .i64 0, .int .i64 0, .int .i64 0, .int .i64 0, .int .i64 0, .int .i64 0, .int .i64 0, .int .i64 0, .int .i64 0, .int .i64 0, .int .i64 0, .int .i64 0, .int .i64 0, .int .i64 0, .int .i64 0, .int .i64 0, .int .i64 0, .int .i64 0, .int .i64 0, .int .i64 0, .int .i64 0, .int .i64 0, .int .i64 0, .int .i64 0, .int .i64 0, .int .i64 0, .int .i64 0, .int .i64 0, .int .i64 0, .int .i64 0, .int .i64 0, .int .i64 0, .int .i64 0, .int .i64 0, .int .i64 0, .int .i64 0, .int .i64 0, .int .i64 0, .int .i64 0, .int .i64 0, .int .i64 0, .int .i64 0, .int .i64 0, .int .i64 0, .int .i64 0, .int .i64 0, .int .i64 0, .int .i64 0, .int .i64 0, .int .i64 0, .int .i64 0, .int .i64 0, .int .i64 0, .int .i64 0, .int .i64 0, .int .i64 0, .int .i64 0, .int .i64 0, .int .i64 0, .int .i64 0, .int .i64 0, .int .i64 0, .int .i64 0], .agg #[.string ByteArray.empty, .int .i64 0, .int .i64 0, .int .i64 0, .int .i64 0, .int .i64 0], .slice none 0 0], []⟩ 12 (by kernel_rfl) (by kernel_rfl) (by kernel_rfl) (by kernel_rfl)) ?_
  intro W base args ds gs before hval0 hW hcnd hwt _
  have hval : ∀ (j : Nat) t v, Try.f7.params[j]? = some t → args[j]? = some v → Value.okWide Try.prog W .any base t v := hval0
  have hW' := hW
  obtain ⟨p, q, hA0, hV, rfl, hfz, hnd⟩ := hW
  have hA : DataW.TrodAll enc Try.prog W 0 (fun _ => true) true Try.f7.params.toList args.toList ds p := hA0
  rw [Try.params7] at hA hval
  obtain ⟨v0, vs0, d0, ds0, p0, q0, hargs, rfl, rfl, h0, r0⟩ := trodAll_cons hA
  obtain ⟨v1, vs1, d1, ds1, p1, q1, rfl, rfl, rfl, h1, r1⟩ := trodAll_cons r0
  obtain ⟨v2, vs2, d2, ds2, p2, q2, rfl, rfl, rfl, h2, r2⟩ := trodAll_cons r1
  obtain ⟨rfl, rfl, rfl⟩ := trodAll_nil r2
  obtain rfl : args = #[v0, v1, v2] := by cases args; simp_all
  obtain ⟨P0, rfl, b0⟩ := open_Pch (hval 0 28 v0 rfl rfl) h0
  obtain ⟨cs1, rfl, hsz1⟩ := okWide_struct Try.underlying30 (hval 1 30 v1 rfl rfl)
  rw [szSk] at hsz1
  have hTW1 : TW enc Try.prog W 0 (fun _ => true) true 30 cs1.toList := by
    obtain ⟨fu, hfu⟩ := h1
    refine ⟨fu, _, hfu, fun n hn => ?_⟩
    have := List.all_eq_true.1 hwt n (DataW.weights_mem_each (j := 1) (t := 30) (d := d1) (by rw [Try.params7]; rfl) (by rfl) n hn)
    simpa using this
  obtain ⟨nm1, ma1, lv1, un1, tx1, ht1, ecs1, hb1⟩ := open_Skin (by simpa using hsz1) hTW1
  obtain rfl : cs1 = #[.string nm1, .int .i64 ma1, .int .i64 lv1, .int .i64 un1, .int .i64 tx1, .int .i64 ht1] := Array.ext' ecs1
  clear hTW1
  obtain ⟨sa2, sn2, sc2, rfl⟩ := okWide_slice Try.underlying31 (hval 2 31 v2 rfl rfl)
  have hTW2 : TW enc Try.prog W 0 (fun _ => true) true 31 [.slice sa2 sn2 sc2] := by
    obtain ⟨fu, hfu⟩ := h2
    refine ⟨fu, _, hfu, fun n hn => ?_⟩
    have := List.all_eq_true.1 hwt n (DataW.weights_mem_each (j := 2) (t := 31) (d := d2) (by rw [Try.params7]; rfl) (by rfl) n hn)
    simpa using this
  obtain ⟨A2, k2, ts2, e2, l2, m2, n2⟩ := open_Texs hTW2
  obtain ⟨f2, g2, i2⟩ : A2 = sa2 ∧ ts2.length = sn2 ∧ k2 = sc2 := by simpa [eq_comm] using e2
  subst f2
  subst g2
  subst i2
  clear hTW2
  refine (walk W P0 b0 nm1 ma1 lv1 un1 tx1 ht1 A2 k2 ts2 l2 m2 n2).mono fun e W' ⟨he, hb⟩ => ?_
  subst he
  exact ⟨_, rfl, law_post (tb := 4) (by kernel_rfl) (by kernel_rfl) rfl rfl Try.underlying4 rfl rfl rfl hW' hb⟩

theorem over : Rows.meshCountsRow.holds Try.pinned (OpenSpec.ofChange Rows.meshCountsSpec) :=
  OpenClaim.holds_of_wide 7 Try.f7 rfl rfl rfl rfl rfl rfl rfl ⟨rfl, rfl, rfl, rfl, rfl⟩ rfl rfl rfl rfl rfl (by kernel_rfl) Try.func7 (by kernel_rfl)
    (of_decide_eq_true (by kernel_rfl)) (by unfold Func.isWrapper; first | (rw [if_pos (by decide +kernel)]; kernel_rfl) | (rw [if_neg (by decide +kernel)]; exact ⟨rfl, rfl⟩))
    (fun os started H enc _ => lifted os started H enc)

theorem proved : Rows.MeshCountsSaid :=
  over
#print axioms proved
end Go.Proofs.Ytpaehkjnefgaiaa.meshCounts
