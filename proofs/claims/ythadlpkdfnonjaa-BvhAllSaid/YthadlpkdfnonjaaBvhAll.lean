/- BvhAll holds for every input: the row, out of the walk. No condition. -/
import Derived.SizedLaws
import Derived.Test.YthadlpkdfnonjaaRows
import Derived.Test.YthadlpkdfnonjaaBvhQ
import Derived.Test.YthadlpkdfnonjaaC7
import Derived.Test.YthadlpkdfnonjaaC8
import Derived.Test.YthadlpkdfnonjaaC14
namespace Go.Proofs.Ythadlpkdfnonjaa.bvhAll
open Go.ChangeShapes Go.WideShapes Go.ChangeAt Go.RowKit
set_option linter.unusedVariables false
set_option linter.unusedSimpArgs false
set_option maxRecDepth 100000 in
set_option maxHeartbeats 8000000 in
theorem walk (W : World) (A : Option Addr) (n c : Nat) (B : Nat → Bx) (hA : SL A n c ∧ BxR W A n B) (leaf : Int) (hleaf : -9223372036854775808 ≤ leaf ∧ leaf ≤ 9223372036854775807) : Calls Try.prog 5 #[.slice A n c, .int .i64 leaf] W fun e w' => e = .returned (.bool true) ∧ Below W.heap.size W w' := by
  have al := alive16_any
  obtain ⟨hS, hB⟩ := hA
  have hnl := hS.1
  have hcl := hS.2.1
  by_cases h300 : 300 < n
  · have hq : (n : Int) > 300 := by omega
    have hn2 : (n : Int) ≤ 9223372036854775807 := by unfold maxLen at hcl; omega
    go_enter Try.func5, Try.ntmps5
    go_wp2_with (first | (go_at_call 18; (with_reducible refine (al.at_ _).mono ?_); rintro e w' ⟨rfl, xg, rfl⟩) | fail)
    go_ret
    exact ⟨rfl, (by repeat (first | exact Below.refl _ _ | refine bel_then ?_ _ | refine bel_grow ?_ _ | refine bel_alloc ?_ _ | refine bel_drew ?_ | refine bel_set ?_ (by simp) _ | refine bel_setRow ?_ (by first | omega | (simp; done) | (refine Nat.le_trans ?_ (top_le _ _); simp; done) | (refine Nat.le_succ_of_le (Nat.le_trans ?_ (top_le _ _)); simp; done) | (refine Nat.le_trans ?_ (top_le _ _); simp only [World.size_alloc]; refine Nat.le_succ_of_le (Nat.le_trans ?_ (top_le _ _)); simp; done)) _))⟩
  have hq : ¬ (n : Int) > 300 := by omega
  have hn3 : n ≤ 300 := by omega
  go_enter Try.func5, Try.ntmps5
  go_upto_region 5 with (first | (go_at_call 18; (with_reducible refine (al.at_ _).mono ?_); rintro e w' ⟨rfl, xg, rfl⟩) | fail)
  have hbg : Below W.heap.size W (grow W xg) := xg.kept W
  have hB2 := hB.below hbg
  clear hB al
  generalize hWg : grow W xg = W2 at *
  clear hWg
  by_cases he : bldE B n leaf = 0
  · obtain ⟨hl1, hok⟩ := bldE_iff.1 he
    have hl2 : 0 < leaf.toNat := by omega
    have kB := buildU W2 A n c B hB2 hn3 leaf hleaf hok hl1
    go_upto_region 6 with (first | (go_at_call 19; (with_reducible refine kB.mono ?_); rintro e W3 ⟨hb3, t, rfl, hT⟩) | fail)
    have hba : Below W3.heap.size W3 (W3.alloc (.cells #[.slice t.a t.s t.c, .slice t.b t.n t.k] 56)) := bel_alloc (Below.refl _ _) _
    have hR : Blk (W3.alloc (.cells #[.slice t.a t.s t.c, .slice t.b t.n t.k] 56)) W3.heap.size 56 #[.slice t.a t.s t.c, .slice t.b t.n t.k] := Blk.new _ _ _ _ rfl
    have hx := bel_trans hb3 hba
    have hT4 := hT.below hba
    have hB4 := hB2.below hx
    have hb4 := bel_trans hbg hx
    clear kB hba hT hx hB2 hbg hb3
    generalize W3.alloc (.cells #[.slice t.a t.s t.c, .slice t.b t.n t.k] 56) = W4 at *
    generalize W3.heap.size = g at *
    obtain ⟨I, N, hTI⟩ : ∃ I N, AllT W4 t B leaf.toNat n N I := allT_of hl2 hn3 hT4 hok
    obtain ⟨ta, ts, tc, tb, tn, tk⟩ := t
    obtain rfl : ts = N.length := hTI.hs
    obtain rfl : tn = I.length := hTI.hn
    dsimp only at *
    obtain ⟨i1, hi1, hy0, hys, hyb⟩ := binfo_of infoBoolB
    have tl := hR.lt
    have t0 := hR.cell 0
    have t1 := hR.cell 1
    have hlen := Lib.hid hTI.len
    have hsum := Lib.hid hTI.sum
    have hnd := Lib.hid hTI.nd
    have hlt := Lib.hid hTI.lt
    have hIn := hTI.il
    have hNn := hTI.nl
    have hNo := Lib.hid hTI.ok
    have hNl := hTI.len2
    have hNb := Lib.hid hTI.bx
    clear hTI hT4
    dsimp only at hIn hNn
    have hIl : I.length ≤ 300 := by have := hlen.out; omega
    go_upto_region 9 with (first | ((refine wpList_make_full _ rfl _ _ 64 rfl W4.heap.size 4 i1 _ 1 Try.underlying64 hi1 hy0 hys .i64 .i64 (n : Int) (n : Int) n rfl rfl rfl rfl (by rw [hyb]; omega) (by unfold maxLen; omega) (Nat.le_refl _) ?_); intro W6 own6 hg6; try simp only [Act.put, List.setIfInBounds_toArray, List.set_cons_succ, List.set_cons_zero]) | fail)
    have hb6 : Below W4.heap.size W4 W6 := ⟨hg6.os, hg6.tape, hg6.output, hg6.size, fun k hk => hg6.block k hk (by simp)⟩
    have hG6 := bmade_blk own6
    rw [show (Value.bool false).cells = #[.bool false] from rfl, seenC_made n] at hG6
    obtain ⟨gs, hgsz⟩ : ∃ b, b = W4.heap.size := ⟨_, rfl⟩
    have hgs : W4.heap.size ≤ gs := by omega
    rw [← hgsz] at hG6
    try simp only [← hgsz]
    replace hgsz := Lib.hid hgsz
    clear own6 hg6 t0 t1 tl
    go_wp2
    go_loopw [8, 9] (fun iv _ wr => ∃ k : Nat, iv = .int .i64 (k : Int) ∧ k ≤ I.length ∧ Below W4.heap.size W4 wr ∧ Blk wr gs 4 (seenC (I.take k) n)) (fun iv _ _ => I.length - (intOf iv).toNat)
    case atStart => exact ⟨0, rfl, by omega, hb6, by rw [List.take_zero]; exact hG6⟩
    case round =>
      obtain ⟨k, rfl, hk, hbr, hGr⟩ := hrel
      have hRr := hR.below hbr
      have tl := hRr.lt
      have t0 := hRr.cell 0
      have t1 := hRr.cell 1
      by_cases hkT : k < I.length
      · obtain ⟨b5, o5, rfl, hb5l, hx5⟩ := (hIn.below hbr).nat k hkT
        have hxl := hlt.out _ (List.getElem_mem hkT)
        have hxn : I[k] ∉ I.take k := fun hm => by
          obtain ⟨j, hj, hje⟩ := List.getElem_of_mem hm
          have hj2 : j < k := by rw [List.length_take] at hj; omega
          rw [List.getElem_take] at hje
          have := (List.getElem_inj hnd.out).1 hje
          omega
        have hset := fun (h : I[k] < n) => seenC_set (T := I.take k) h
        rw [← List.take_succ_eq_append_getElem hkT] at hset
        have hGc : wr.cell? ⟨gs, I[k], none⟩ = some (.bool false) := by rw [hGr.cell, seenC_at _ _ _ hxl, decide_eq_false hxn]
        have hGf := hGr.frozen I[k]
        have hGl := hGr.lt
        have q0 : (0 : Int) ≤ (k : Int) := by omega
        have q1 : (k : Int) < (I.length : Int) := by omega
        have x0 : (0 : Int) ≤ (I[k] : Int) := by omega
        have x1 : (I[k] : Int) < (n : Int) := by omega
        have hGs := hGr.set I[k] (.bool true)
        rw [hset hxl] at hGs
        clear hset hxn
        generalize I[k] = x at *
        go_wp2_with fail
        go_roundw
        case rel => exact ⟨k + 1, by go_num, by omega, bel_set hbr hgs _, hGs⟩
        case measure => simp [intOf]; omega
      · obtain rfl : k = I.length := by omega
        clear hb6 hG6 hGr
        go_wp2
        clear t0 t1 tl hRr
        go_loopw [10, 11, 12, 13] (fun cv iv _ _ wq => ∃ k : Nat, iv = .int .i64 (k : Int) ∧ cv = .int .i64 (sumC (N.take k) : Int) ∧ k ≤ N.length ∧ Below W4.heap.size W4 wq) (fun _ iv _ _ _ => N.length - (intOf iv).toNat)
        case atStart => exact ⟨0, rfl, rfl, by omega, hbr⟩
        case round =>
          clear hbr
          obtain ⟨k, rfl, rfl, hk, hbr⟩ := hrel
          have hRr := hR.below hbr
          have tl := hRr.lt
          have t0 := hRr.cell 0
          have t1 := hRr.cell 1
          by_cases hkN : k < N.length
          · obtain ⟨bn, on, rfl, hbn, hcn⟩ := (hNn.below hbr) (by omega)
            have hcn' := hcn k hkN
            have hok2 := hNo.out k hkN
            have hsn := sumC_next hkN
            have hle := sumC_le (N := N) (i := k + 1)
            have hnb := hNb.out _ (List.getElem_mem hkN)
            generalize N[k] = nd at *
            have hrg := nd_range hcn'
            have hj0 : (0 : Int) ≤ (k : Int) := by omega
            have hj1 : (k : Int) < (N.length : Int) := by omega
            have p1 : (0 : Int) ≤ (nd.c : Int) := by omega
            have p2 : (nd.c : Int) ≤ leaf := by have := hok2.cl; omega
            have p3 : (0 : Int) ≤ (nd.f : Int) := by omega
            have p4 : (nd.f : Int) + (nd.c : Int) ≤ (I.length : Int) := by have := hok2.fc; omega
            have hZ2 : Blk (wr.alloc (.cells zNd 66)) wr.heap.size 66 zNd := Blk.new _ _ _ _ rfl
            have hbz : Below wr.heap.size wr (wr.alloc (.cells zNd 66)) := bel_alloc (Below.refl _ _) _
            unfold zNd at hZ2 hbz
            clear hcn'
            go_upto_region 21 with (first | (refine getNdAt rfl _ rfl bn (on + k * 10) nd rfl hrg ?_; simp only [Act.put, List.setIfInBounds_toArray, List.set_cons_succ, List.set_cons_zero]) | (refine putNdB rfl _ _ rfl wr.heap.size nd rfl rfl _ rfl hZ2 ?_; simp only [Act.put, List.setIfInBounds_toArray, List.set_cons_succ, List.set_cons_zero]) | fail)
            have hbb2 : Below wr.heap.size wr ((wr.alloc (.cells #[.int .i64 0, .int .i64 0, .int .i64 0, .int .i64 0, .int .i64 0, .int .i64 0, .int .i64 0, .int .i64 0, .int .i64 0, .int .i64 0] 66)).setRow wr.heap.size #[.int .i64 nd.b.lo.x, .int .i64 nd.b.lo.y, .int .i64 nd.b.lo.z, .int .i64 nd.b.hi.x, .int .i64 nd.b.hi.y, .int .i64 nd.b.hi.z, .int .i64 (nd.l : Int), .int .i64 (nd.r : Int), .int .i64 (nd.f : Int), .int .i64 (nd.c : Int)]) := bel_setRow hbz (Nat.le_refl _) _
            have hNd2 : Blk ((wr.alloc (.cells #[.int .i64 0, .int .i64 0, .int .i64 0, .int .i64 0, .int .i64 0, .int .i64 0, .int .i64 0, .int .i64 0, .int .i64 0, .int .i64 0] 66)).setRow wr.heap.size #[.int .i64 nd.b.lo.x, .int .i64 nd.b.lo.y, .int .i64 nd.b.lo.z, .int .i64 nd.b.hi.x, .int .i64 nd.b.hi.y, .int .i64 nd.b.hi.z, .int .i64 (nd.l : Int), .int .i64 (nd.r : Int), .int .i64 (nd.f : Int), .int .i64 (nd.c : Int)]) wr.heap.size 66 #[.int .i64 nd.b.lo.x, .int .i64 nd.b.lo.y, .int .i64 nd.b.lo.z, .int .i64 nd.b.hi.x, .int .i64 nd.b.hi.y, .int .i64 nd.b.hi.z, .int .i64 (nd.l : Int), .int .i64 (nd.r : Int), .int .i64 (nd.f : Int), .int .i64 (nd.c : Int)] := hZ2.setRow _
            have hbr2 := bel_trans hbr hbb2
            clear hZ2 hbz hbr hbb2 t0 t1 tl hRr hrg hbn
            generalize (wr.alloc (.cells #[.int .i64 0, .int .i64 0, .int .i64 0, .int .i64 0, .int .i64 0, .int .i64 0, .int .i64 0, .int .i64 0, .int .i64 0, .int .i64 0] 66)).setRow wr.heap.size #[.int .i64 nd.b.lo.x, .int .i64 nd.b.lo.y, .int .i64 nd.b.lo.z, .int .i64 nd.b.hi.x, .int .i64 nd.b.hi.y, .int .i64 nd.b.hi.z, .int .i64 (nd.l : Int), .int .i64 (nd.r : Int), .int .i64 (nd.f : Int), .int .i64 (nd.c : Int)] = w2 at *
            generalize wr.heap.size = gn at *
            have e6 := hNd2.cell 6
            have e7 := hNd2.cell 7
            have e8 := hNd2.cell 8
            have e9 := hNd2.cell 9
            have el := hNd2.lt
            have hRr := hR.below hbr2
            have tl := hRr.lt
            have t0 := hRr.cell 0
            have t1 := hRr.cell 1
            have p5 : ¬ (nd.c : Int) < 0 := by omega
            have p6 : ¬ (nd.c : Int) > leaf := by omega
            have p7 : ¬ (nd.f : Int) < 0 := by omega
            have p8 : ¬ (nd.f : Int) + (nd.c : Int) > (I.length : Int) := by omega
            go_upto_region 23 with fail
            go_wp2
            clear e6 e7 e8 e9 el t0 t1 tl hRr
            go_loopw [13] (fun iv wq => ∃ m : Nat, iv = .int .i64 (m : Int) ∧ nd.f ≤ m ∧ m ≤ nd.f + nd.c ∧ Below w2.heap.size w2 wq) (fun iv _ => nd.f + nd.c - (intOf iv).toNat)
            case atStart => exact ⟨nd.f, rfl, by omega, by omega, Below.refl _ _⟩
            case round =>
              obtain ⟨m, rfl, hm1, hm2, hbq⟩ := hrel
              have hNq := hNd2.below hbq
              have hbr3 := bel_trans hbr2 hbq
              have hRr := hR.below hbr3
              have tl := hRr.lt
              have t0 := hRr.cell 0
              have t1 := hRr.cell 1
              have e0 := hNq.cell 0
              have e1 := hNq.cell 1
              have e2 := hNq.cell 2
              have e3 := hNq.cell 3
              have e4 := hNq.cell 4
              have e5 := hNq.cell 5
              have e6 := hNq.cell 6
              have e7 := hNq.cell 7
              have e8 := hNq.cell 8
              have e9 := hNq.cell 9
              have el := hNq.lt
              by_cases hmm : m < nd.f + nd.c
              · have hmI : m < I.length := by have := hok2.fc; omega
                obtain ⟨b5, o5, rfl, hb5l, hx5⟩ := (hIn.below hbr3).nat m hmI
                have hxl := hlt.out _ (List.getElem_mem hmI)
                obtain ⟨ba, off, rfl, hbl, c0, c1, c2, c3, c4, c5⟩ := (hB4.below hbr3).at_ I[m] hxl
                have hjn := hok2.its m hmI hm1 hmm
                have kj := vJn_any nd.b (B I[m])
                rw [hjn] at kj
                have q0 : (0 : Int) ≤ (m : Int) := by omega
                have q1 : (m : Int) < (I.length : Int) := by omega
                have x0 : (0 : Int) ≤ (I[m] : Int) := by omega
                have x1 : (I[m] : Int) < (n : Int) := by omega
                clear hjn
                generalize B I[m] = bx at *
                generalize I[m] = x at *
                go_upto_region 26 with fail
                refine wp_region_grow (by kernel_rfl) (by kernel_rfl) ?_
                repeat (first | (refine quiet_neBx _ _ rfl (by kernel_rfl) nd.b rfl rfl hnb ?_; try simp only [Act.put, List.setIfInBounds_toArray, List.set_cons_succ, List.set_cons_zero]) | go_big_quiet_step (((first | with_reducible exact kj.quiet _ | with_reducible exact kj.quiet2 _ _))))
                refine wpQuiet_nil ?_
                rintro _ ⟨xh, rfl⟩
                go_wp2
                go_roundw
                case rel => exact ⟨m + 1, by go_num, by omega, by omega, bel_grow hbq _⟩
                case measure => simp [intOf]; omega
              · have hme : m = nd.f + nd.c := by omega
                subst hme
                have hsb : sumC (N.take k) + nd.c ≤ 300 := by have := hsum.out; have := hlen.out; omega
                by_cases hc0 : nd.c = 0
                · obtain ⟨i1', i2', i3', i4', i5'⟩ := hok2.inner hc0
                  obtain ⟨bm, om, heq, hbm, hcm⟩ := (hNn.below hbr3) (by omega)
                  cases heq
                  have hlN : k + 1 < N.length := by omega
                  have hcy := hcm (k + 1) hlN
                  have hcz := hcm nd.r i3'
                  have jl := i4' N[k + 1] (by rw [i1']; exact List.getElem?_eq_getElem hlN)
                  have jr := i5' N[nd.r] (List.getElem?_eq_getElem i3')
                  have kl := vJn_any nd.b N[k + 1].b
                  have kr := vJn_any nd.b N[nd.r].b
                  rw [jl] at kl
                  rw [jr] at kr
                  clear jl jr i4' i5'
                  generalize N[k + 1] = ny at *
                  generalize N[nd.r] = nz at *
                  have y0 : wr.cell? ⟨bn, on + (k + 1) * 10, none⟩ = some (.int .i64 ny.b.lo.x) := hcy 0 (by omega)
                  have y1 : wr.cell? ⟨bn, on + (k + 1) * 10 + 1, none⟩ = some (.int .i64 ny.b.lo.y) := hcy 1 (by omega)
                  have y2 : wr.cell? ⟨bn, on + (k + 1) * 10 + 2, none⟩ = some (.int .i64 ny.b.lo.z) := hcy 2 (by omega)
                  have y3 : wr.cell? ⟨bn, on + (k + 1) * 10 + 3, none⟩ = some (.int .i64 ny.b.hi.x) := hcy 3 (by omega)
                  have y4 : wr.cell? ⟨bn, on + (k + 1) * 10 + 4, none⟩ = some (.int .i64 ny.b.hi.y) := hcy 4 (by omega)
                  have y5 : wr.cell? ⟨bn, on + (k + 1) * 10 + 5, none⟩ = some (.int .i64 ny.b.hi.z) := hcy 5 (by omega)
                  have z0 : wr.cell? ⟨bn, on + nd.r * 10, none⟩ = some (.int .i64 nz.b.lo.x) := hcz 0 (by omega)
                  have z1 : wr.cell? ⟨bn, on + nd.r * 10 + 1, none⟩ = some (.int .i64 nz.b.lo.y) := hcz 1 (by omega)
                  have z2 : wr.cell? ⟨bn, on + nd.r * 10 + 2, none⟩ = some (.int .i64 nz.b.lo.z) := hcz 2 (by omega)
                  have z3 : wr.cell? ⟨bn, on + nd.r * 10 + 3, none⟩ = some (.int .i64 nz.b.hi.x) := hcz 3 (by omega)
                  have z4 : wr.cell? ⟨bn, on + nd.r * 10 + 4, none⟩ = some (.int .i64 nz.b.hi.y) := hcz 4 (by omega)
                  have z5 : wr.cell? ⟨bn, on + nd.r * 10 + 5, none⟩ = some (.int .i64 nz.b.hi.z) := hcz 5 (by omega)
                  have s1 : ¬ (nd.r : Int) ≤ (k : Int) + 1 := by omega
                  have s2 : ¬ (nd.r : Int) ≥ (N.length : Int) := by omega
                  have s3 : (nd.r : Int) < (N.length : Int) := by omega
                  have s4 : (k : Int) + 1 < (N.length : Int) := by omega
                  have s5 : (0 : Int) ≤ (k : Int) + 1 := by omega
                  have s6 : (0 : Int) ≤ (nd.r : Int) := by omega
                  have l6 : ((nd.l : Nat) : Int) = (k : Int) + 1 := by omega
                  rw [l6] at e6
                  clear hcy hcz hcm
                  go_upto_region 30 with fail
                  refine wp_region_grow (by kernel_rfl) (by kernel_rfl) ?_
                  repeat (first | (refine quiet_neBx _ _ rfl (by kernel_rfl) nd.b rfl rfl hnb ?_; try simp only [Act.put, List.setIfInBounds_toArray, List.set_cons_succ, List.set_cons_zero]) | go_big_quiet_step (((first | with_reducible exact kl.quiet _ | with_reducible exact kl.quiet2 _ _ | with_reducible exact kr.quiet _ | with_reducible exact kr.quiet2 _ _))))
                  refine wpQuiet_nil ?_
                  rintro _ ⟨xh, rfl⟩
                  go_wp2
                  go_roundw
                  case rel => exact ⟨k + 1, by go_num, by rw [hsn]; go_num, by omega, bel_grow hbr3 _⟩
                  case measure => simp [intOf]; omega
                · have hcp : (nd.c : Int) > 0 := by omega
                  go_wp2
                  go_roundw
                  case rel => exact ⟨k + 1, by go_num, by rw [hsn]; go_num, by omega, hbr3⟩
                  case measure => simp [intOf]; omega
          · obtain rfl : k = N.length := by omega
            have hs2 : sumC (N.take N.length) = n := by rw [List.take_length]; exact hsum.out
            rw [hs2]
            have hq3 : (I.length : Int) = (n : Int) := by have := hlen.out; omega
            go_wp2
            go_ret
            exact ⟨rfl, bel_trans hb4 hbr⟩
  · have kB' : Calls Try.prog 19 #[.slice A n c, .int .i64 leaf] W2 fun e W' => Below W2.heap.size W2 W' ∧ e = .returned (.tuple #[.agg #[.slice none 0 0, .slice none 0 0], .int .i64 (bldE B n leaf)]) := (build_any W2 A n c B hB2 hn3 leaf hleaf).mono fun e W' ⟨h1, h2⟩ => ⟨h1, bld_err h2 he⟩
    have hne : (bldE B n leaf != 0) = true := by simpa using he
    go_upto_region 6 with (first | (go_at_call 19; (with_reducible refine kB'.mono ?_); rintro e W3 ⟨hb3, rfl⟩) | fail)
    have hx := bel_alloc (bel_trans hbg hb3) (.cells #[.slice none 0 0, .slice none 0 0] 56)
    have hR : Blk (W3.alloc (.cells #[.slice none 0 0, .slice none 0 0] 56)) W3.heap.size 56 #[.slice none 0 0, .slice none 0 0] := Blk.new _ _ _ _ rfl
    have tl := hR.lt
    have t0 := hR.cell 0
    have t1 := hR.cell 1
    clear hb3 kB'
    generalize W3.alloc (.cells #[.slice none 0 0, .slice none 0 0] 56) = W4 at *
    generalize W3.heap.size = g at *
    go_wp2
    go_ret
    exact ⟨rfl, hx⟩

theorem own : ownKnob Try.prog.godebug = none := by kernel_rfl
set_option maxRecDepth 100000 in
theorem lifted (os : Os) (started : os.Started) (H : Type) (enc : TypeId × Value → H) :
    ReturnsInHanded {} Try.checked os 5 .any (Rows.bvhAllSpec.pre6 enc Try.prog Try.f5 Rows.bvhAllRow.domain false) (Rows.bvhAllSpec.post enc Try.prog Try.f5 false true false false) := by
  refine returnsInHanded_of_change_sized (C := Try.checked) own started (by kernel_rfl) Try.func5
    (ChangeSpec.witness6 (enc := enc) (C := Try.checked) false ⟨#[], #[.slice none 0 0, .int .i64 0], []⟩ 12 (by kernel_rfl) (by kernel_rfl) (by kernel_rfl) (by kernel_rfl)) ?_
  intro W base args ds gs before hval0 hW hcnd hwt _
  have hval : ∀ (j : Nat) t v, Try.f5.params[j]? = some t → args[j]? = some v → Value.okWide Try.prog W .any base t v := hval0
  have hW' := hW
  obtain ⟨p, q, hA0, hV, rfl, hfz, hnd⟩ := hW
  have hA : DataW.TrodAll enc Try.prog W 0 (fun _ => true) true Try.f5.params.toList args.toList ds p := hA0
  rw [Try.params5] at hA hval
  obtain ⟨v0, vs0, d0, ds0, p0, q0, hargs, rfl, rfl, h0, r0⟩ := trodAll_cons hA
  obtain ⟨v1, vs1, d1, ds1, p1, q1, rfl, rfl, rfl, h1, r1⟩ := trodAll_cons r0
  obtain ⟨rfl, rfl, rfl⟩ := trodAll_nil r1
  obtain rfl : args = #[v0, v1] := by cases args; simp_all
  obtain ⟨A0, n0, c0, B0, rfl, b0⟩ := open_Boxs (hval 0 52 v0 rfl rfl) h0
  obtain ⟨a1, rfl, b1⟩ := open_int64 (hval 1 3 v1 rfl rfl) h1
  refine (walk W A0 n0 c0 B0 b0 a1 b1).mono fun e W' ⟨he, hb⟩ => ?_
  subst he
  exact ⟨_, rfl, law_post (tb := 4) (by kernel_rfl) (by kernel_rfl) rfl rfl Try.underlying4 rfl rfl rfl hW' hb⟩

theorem over : Rows.bvhAllRow.holds Try.pinned (OpenSpec.ofChange Rows.bvhAllSpec) :=
  OpenClaim.holds_of_wide 5 Try.f5 rfl rfl rfl rfl rfl rfl rfl ⟨rfl, rfl, rfl, rfl, rfl⟩ rfl rfl rfl rfl rfl (by kernel_rfl) Try.func5 (by kernel_rfl)
    (of_decide_eq_true (by kernel_rfl)) (by unfold Func.isWrapper; first | (rw [if_pos (by decide +kernel)]; kernel_rfl) | (rw [if_neg (by decide +kernel)]; exact ⟨rfl, rfl⟩))
    (fun os started H enc _ => lifted os started H enc)

theorem proved : Rows.BvhAllSaid :=
  over
#print axioms proved
end Go.Proofs.Ythadlpkdfnonjaa.bvhAll
