/- WeaveTight holds for every input: the row, out of the walk. No condition. -/
import Derived.Test.YtpdnaceggpdleaaRows
import Derived.Test.YtpdnaceggpdleaaWevT2
import Derived.Test.YtpdnaceggpdleaaC4
namespace Go.Proofs.Ytpdnaceggpdleaa.weaveTight
open Go.ChangeShapes Go.WideShapes Go.ChangeAt Go.RowKit
set_option linter.unusedVariables false
set_option linter.unusedSimpArgs false
set_option maxRecDepth 100000 in
set_option maxHeartbeats 4000000 in
theorem walk (W : World) (q : Nat → Int) (hq : ∀ k, k < 4 → i64W (q k)) : Calls Try.prog 4 #[.agg (q4C q)] W fun e w' => e = .returned (.bool true) ∧ Below W.heap.size W w' := by
  have hb0 : Below W.heap.size W (W.alloc (.cells (q4C q) 22)) := bel_alloc (Below.refl _ _) _
  have hQ0 : Blk (W.alloc (.cells (q4C q) 22)) W.heap.size 22 (q4C q) := Blk.new _ _ _ _ rfl
  replace hq := Lib.hid hq
  go_enter Try.func4, Try.ntmps4
  go_upto_region 1 with (fail)
  generalize W.alloc (.cells (q4C q) 22) = w0 at *
  have cA := alive13_any w0
  replace cA := Lib.hid cA
  go_upto_region 3 with (first | (go_at_call 8; (refine cA.out.mono ?_); rintro e w1 ⟨rfl, hb1⟩) | fail)
  have hQ1 := hQ0.below hb1
  have hB1 := bel_trans hb0 hb1
  clear hb0 hQ0 hb1 cA
  have cP := weaveB w1 q hq.out
  replace cP := Lib.hid cP
  have x0 : w1.cell? ⟨W.heap.size, 0, none⟩ = some (.int .i64 (q 0)) := hQ1.cell 0
  have x1 : w1.cell? ⟨W.heap.size, 1, none⟩ = some (.int .i64 (q 1)) := hQ1.cell 1
  have x2 : w1.cell? ⟨W.heap.size, 2, none⟩ = some (.int .i64 (q 2)) := hQ1.cell 2
  have x3 : w1.cell? ⟨W.heap.size, 3, none⟩ = some (.int .i64 (q 3)) := hQ1.cell 3
  have xl := hQ1.lt
  go_upto_region 4 with (first | (go_at_call 9; (refine cP.out.mono ?_); rintro e w2 ⟨hb2, hA⟩; rcases hA with ⟨hok, A1, A2, c1, c2, rfl, hc1, hc2, hL1, hL2⟩ | ⟨hno, rfl⟩) | fail)
  · have hQ2 := hQ1.below hb2
    have hB2 := bel_trans hB1 hb2
    clear x0 x1 x2 x3 xl cP hQ1 hB1 hb2
    have hrb := okQ_r hok
    have hT := tight_any hrb
    have hlS := spotsW_lt hrb
    have hlT := trisW_lt hrb
    have hrS : ∀ s ∈ spotsW (rQ q), rngS s := rng_spots hrb (most_bd hrb).2
    have hqs : q 0 + q 1 + q 2 + q 3 = ((rQ q 0 + rQ q 1 + rQ q 2 + rQ q 3 : Nat) : Int) := by
      have e0 := okQ_eq hok 0 (by omega)
      have e1 := okQ_eq hok 1 (by omega)
      have e2 := okQ_eq hok 2 (by omega)
      have e3 := okQ_eq hok 3 (by omega)
      omega
    obtain ⟨r, hr⟩ : ∃ r, r = rQ q := ⟨_, rfl⟩
    rw [← hr] at hT hlS hlT hrS hqs hL1 hL2 hc1 hc2 ⊢
    replace hr := Lib.hid hr
    clear hrb
    generalize spotsW r = S at *
    generalize trisW r = T at *
    replace hT := Lib.hid hT
    replace hrS := Lib.hid hrS
    replace hqs := Lib.hid hqs
    replace hok := Lib.hid hok
    have hmm := @run_makeMap Try.prog
    obtain ⟨i0, hi0, hz0, hz1, hz2⟩ := info_parts (show (Try.prog.info? 4).map (fun i => (i.zero, i.size, i.bytes)) = some (some (.bool false), 1, 1) from by kernel_rfl)
    go_upto_region 7 with (fail)
    have hm6 := WyM.made w2
    have hb6 : Below w2.heap.size w2 (w2.alloc (.map #[] 0)) := bel_alloc (Below.refl _ _) _
    have hs6 : (w2.alloc (.map #[] 0)).heap.size = w2.heap.size + 1 := World.size_alloc _ _
    generalize w2.alloc (.map #[] 0) = w6 at *
    go_upto_region 8 with (first | ((refine wpList_make_full _ rfl _ _ _ rfl w6.heap.size 4 i0 _ 1 Try.underlying33 hi0 hz0 hz1 .i64 .i64 (S.length : Int) (S.length : Int) S.length rfl rfl rfl rfl (by rw [hz2]; omega) (by unfold maxLen; omega) (Nat.le_refl _) ?_); intro w7 own7 hg7) | fail)
    have hU7 : Blk w7 w6.heap.size 4 (uC S.length []) := by
      have h := made_blkW own7
      rw [uC_made] at h
      exact h
    have I0 : TgI w2 w7 w2.heap.size w6.heap.size S.length [] := ⟨bel_ownW hb6 hg7 (fun k hk => by cases hk), hm6.kept hg7 (by simp), hU7, Nat.le_refl _, by omega, by omega⟩
    rw [hs6] at I0
    obtain ⟨gB, hgB⟩ : ∃ n, w2.heap.size = n := ⟨_, rfl⟩
    rw [hgB] at I0 ⊢
    replace hgB := Lib.hid hgB
    generalize gB + 1 = gU at *
    clear hm6 hb6 hs6 own7 hg7 hU7
    obtain ⟨EN, hEN⟩ : ∃ l, l = T.flatMap edsN := ⟨_, rfl⟩
    have hlE : EN.length = 3 * T.length := by rw [hEN, eds_len]
    replace hEN := Lib.hid hEN
    replace hlE := Lib.hid hlE
    go_wp2
    go_loopw [8] (fun iv wr => ∃ i : Nat, iv = .int .i64 (i : Int) ∧ i ≤ T.length ∧ TgI w2 wr gB gU S.length (EN.take (3 * i))) (fun iv _ => T.length - (intOf iv).toNat)
    case atStart => exact ⟨0, rfl, by omega, I0⟩
    case round =>
      clear I0
      obtain ⟨i, rfl, hi, I⟩ := hrel
      by_cases hlt : i < T.length
      · have q0 : (0 : Int) ≤ (i : Int) := by omega
        have q1 : (i : Int) < (T.length : Int) := by omega
        go_upto_region 11 with (fail)
        go_wp2
        go_loopw [9] (fun kv wr => ∃ k : Nat, kv = .int .i64 (k : Int) ∧ k ≤ 3 ∧ TgI w2 wr gB gU S.length (EN.take (3 * i + k))) (fun kv _ => 3 - (intOf kv).toNat)
        case atStart => exact ⟨0, rfl, by omega, I⟩
        case round =>
          clear I
          obtain ⟨k, rfl, hk, I⟩ := hrel
          by_cases hk3 : k < 3
          · obtain ⟨bt, ot, hA2, hbt, t0, t1, t2⟩ := (hL2.below I.bel).at_ i (by simpa using hlt)
            simp only [List.getElem_map, trZ] at t0 t1 t2
            have hat := eds_at T i k hlt hk3
            rw [← hEN.out] at hat
            have hlenE : (EN.take (3 * i + k)).length < 1000000 := by rw [List.length_take]; have := hlE.out; omega
            generalize T[i] = t at *
            rcases (by omega : k = 0 ∨ k = 1 ∨ k = 2) with rfl | rfl | rfl
            · have hat2 : EN[3 * i + 0]? = some (t.1, t.2.1) := hat
              have hm := List.mem_of_getElem? hat2
              obtain ⟨hx, hy, hxy⟩ := hT.out.lt _ (by rw [← hEN.out]; exact hm)
              simp only at hx hy hxy
              have hnb := not_before (by rw [hEN.out]; exact hT.out.nodup) hat2
              have htk := take_next hat2
              have hrg : rngY (zE (t.1, t.2.1)) := by unfold rngY zE i64W; simp only; omega
              have hnz : zE (t.1, t.2.1) ∉ (EN.take (3 * i + 0)).map zE := fun h => hnb (mem_zE.1 h)
              have hif : (if zE (t.1, t.2.1) ∈ (EN.take (3 * i + 0)).map zE then (1 : Int) else 0) = 0 := if_neg hnz
              have IU : TgI w2 wr.drew gB gU S.length (EN.take (3 * i + 0)) := ⟨bel_drew I.bel, I.mp, I.us, I.lo⟩
              obtain ⟨u1, u2, st, hME, hG1, hL1k, hES, hG2, hM2⟩ := WyM.bump (show WyM wr.drew gB _ from IU.mp) hrg hnz (by rw [List.length_map]; exact hlenE)
              have IN := fun (hg : wr.drew.grownBy u2 (some gB)) => IU.next (t.1, t.2.1) hg hM2
              rw [← htk] at IN
              obtain ⟨us1, us2, us3⟩ := IU.used hG2 hx
              replace IN := Lib.hid (IN hG2)
              have hLk : ∀ u, (u = wr.drew ∨ u = u1 ∨ u = u1) → (Instr.lookup 32 (.map (some gB)) (valY (zE (t.1, t.2.1))) false).run Try.prog u = .ok (.int .i64 0) u := by
                have h0 := (show WyM wr.drew gB _ from IU.mp).look hrg
                rw [hif] at h0
                rintro u (rfl | rfl | rfl)
                · exact h0
                · exact hL1k
                · exact hL1k
              have hLw := I.mp.look hrg
              rw [hif] at hLw
              replace hES : (Instr.entryStore 32 (.map (some gB)) (.int .i64 st) (.int .i64 1)).run Try.prog u1 = .ok () u2 := hES
              simp only [zE, valY] at hLk hME hLw
              have n1 : (0 : Int) ≤ ((t.1 : Nat) : Int) := by omega
              have n2 : ((t.1 : Nat) : Int) < (S.length : Int) := by omega
              have n3 : (0 : Int) ≤ ((t.2.1 : Nat) : Int) := by omega
              have n4 : ((t.2.1 : Nat) : Int) < (S.length : Int) := by omega
              have n5 : (((t.1 : Nat) : Int) == ((t.2.1 : Nat) : Int)) = false := by simp; omega
              rw [hA2]
              replace hA2 := Lib.hid hA2
              replace hat2 := Lib.hid hat2
              replace hm := Lib.hid hm
              replace hnb := Lib.hid hnb
              replace htk := Lib.hid htk
              replace hnz := Lib.hid hnz
              replace hif := Lib.hid hif
              replace hxy := Lib.hid hxy
              replace hat := Lib.hid hat
              clear IU hL1k hG1 hG2 hM2 I
              go_upto_region 18 with (fail)
              clear hLw t0 t1 t2 hbt
              refine wp_region_monoK 8 (RKW [.map (some gB), .int .i64 ((t.1 : Nat) : Int), .int .i64 ((t.2.1 : Nat) : Int), .agg #[.int .i64 ((t.1 : Nat) : Int), .int .i64 ((t.2.1 : Nat) : Int)], .int .i64 0, .int .i64 1, .tuple #[.int .i64 0, goInt st], goInt st]) (PhJ 6 7 wr.drew u1 u1) (by kernel_rfl) _ rfl (by kernel_rfl) (by kernel_rfl) (by kernel_rfl) (by kernel_rfl) (by kernel_rfl) ⟨by decide, by decide, fun h => by simp [Array.getD] at h, rfl⟩ ?_ ?_
              · simp only [List.take_succ_cons, List.take_zero]
                refine ⟨?_, ?_, ?_, ?_, ?_, ?_, ?_, ?_, ?_⟩
                · refine mono_read rfl (by decide) (by decide) (fun a u hu hk hp => ?_)
                  have es6 := (hk 6 (keep_of (by kernel_rfl))).trans (show _ = some (.map (some gB)) from rfl)
                  exact ⟨_, by simp [execOp, go_sem, es6], rfl⟩
                · refine mono_read rfl (by decide) (by decide) (fun a u hu hk hp => ?_)
                  have es10 := (hk 10 (keep_of (by kernel_rfl))).trans (show _ = some (.int .i64 ((t.1 : Nat) : Int)) from rfl)
                  exact ⟨_, by simp [execOp, go_sem, es10], rfl⟩
                · refine mono_read rfl (by decide) (by decide) (fun a u hu hk hp => ?_)
                  have es11 := (hk 11 (keep_of (by kernel_rfl))).trans (show _ = some (.int .i64 ((t.2.1 : Nat) : Int)) from rfl)
                  exact ⟨_, by simp [execOp, go_sem, es11], rfl⟩
                · refine mono_read rfl (by decide) (by decide) (fun a u hu hk hp => ?_)
                  obtain ⟨x1, ex1, rx1⟩ := hp ⟨1, .data⟩ (by simp) rfl _ _ rfl rfl
                  obtain rfl : x1 = _ := rx1
                  obtain ⟨x2, ex2, rx2⟩ := hp ⟨2, .data⟩ (by simp) rfl _ _ rfl rfl
                  obtain rfl : x2 = _ := rx2
                  exact ⟨_, by simp [execOp, go_sem, ex1, ex2], rfl⟩
                · refine mono_read rfl (by decide) (by decide) (fun a u hu hk hp => ?_)
                  obtain ⟨x0, ex0, rx0⟩ := hp ⟨0, .data⟩ (by simp) rfl _ _ rfl rfl
                  obtain rfl : x0 = _ := rx0
                  obtain ⟨x3, ex3, rx3⟩ := hp ⟨3, .data⟩ (by simp) rfl _ _ rfl rfl
                  obtain rfl : x3 = _ := rx3
                  exact ⟨_, by simp [execOp, go_sem, ex0, ex3, hLk u hu], rfl⟩
                · refine mono_read rfl (by decide) (by decide) (fun a u hu hk hp => ?_)
                  obtain ⟨x4, ex4, rx4⟩ := hp ⟨4, .data⟩ (by simp) rfl _ _ rfl rfl
                  obtain rfl : x4 = _ := rx4
                  exact ⟨_, by simp [execOp, go_sem, ex4, show IntKind.i64.wrap 1 = 1 from by decide], rfl⟩
                · refine mono_first rfl (by decide) (fun a hk hp => ?_)
                  obtain ⟨x0, ex0, rx0⟩ := hp ⟨0, .data⟩ (by simp) rfl _ _ rfl rfl
                  obtain rfl : x0 = _ := rx0
                  obtain ⟨x3, ex3, rx3⟩ := hp ⟨3, .data⟩ (by simp) rfl _ _ rfl rfl
                  obtain rfl : x3 = _ := rx3
                  exact ⟨_, by simp [execOp, go_sem, ex0, ex3, hME], rfl⟩
                · refine mono_second rfl (by decide) ⟨⟨6, .data⟩, by simp, rfl, rfl⟩ (fun a hk hp => ?_)
                  obtain ⟨x6, ex6, rx6⟩ := hp ⟨6, .data⟩ (by simp) rfl _ _ rfl rfl
                  obtain rfl : x6 = _ := rx6
                  exact ⟨_, by simp [execOp, go_sem, ex6], rfl⟩
                · trivial
              · intro a wz listed hJ hall hsz hdf hk hgot
                have hwz : u1 = wz := (phJ_end hJ (by decide) hall).symm
                clear hJ
                subst hwz
                obtain ⟨vv0, ev0, rv0⟩ := hgot 0 _ 97 rfl rfl
                obtain rfl : vv0 = _ := rv0
                obtain ⟨vv5, ev5, rv5⟩ := hgot 5 _ 102 rfl rfl
                obtain rfl : vv5 = _ := rv5
                obtain ⟨vv7, ev7, rv7⟩ := hgot 7 _ 104 rfl rfl
                obtain rfl : vv7 = _ := rv7
                obtain ⟨f, hf, rfl⟩ := frame_eq hsz hdf hk [97, 98, 99, 100, 101, 102, 103, 104] (by rfl)
                have f97 := hf 97 _ ev0
                have f102 := hf 102 _ ev5
                have f104 := hf 104 _ ev7
                clear hsz hdf hk hgot hf hall ev0 ev5 ev7
                simp only [List.drop_succ_cons, List.drop_zero, setAll, List.setIfInBounds_toArray, List.set_cons_succ, List.set_cons_zero, f97, f102, f104]
                clear f97 f102 f104
                generalize f 98 = uu98; generalize f 99 = uu99; generalize f 100 = uu100; generalize f 101 = uu101; generalize f 103 = uu103
                go_wp2
                go_roundw
                case rel => exact ⟨1, by go_num, by omega, IN.out⟩
                case measure => simp [intOf]
            · have hat2 : EN[3 * i + 1]? = some (t.2.1, t.2.2) := hat
              have hm := List.mem_of_getElem? hat2
              obtain ⟨hx, hy, hxy⟩ := hT.out.lt _ (by rw [← hEN.out]; exact hm)
              simp only at hx hy hxy
              have hnb := not_before (by rw [hEN.out]; exact hT.out.nodup) hat2
              have htk := take_next hat2
              have hrg : rngY (zE (t.2.1, t.2.2)) := by unfold rngY zE i64W; simp only; omega
              have hnz : zE (t.2.1, t.2.2) ∉ (EN.take (3 * i + 1)).map zE := fun h => hnb (mem_zE.1 h)
              have hif : (if zE (t.2.1, t.2.2) ∈ (EN.take (3 * i + 1)).map zE then (1 : Int) else 0) = 0 := if_neg hnz
              have IU : TgI w2 wr.drew gB gU S.length (EN.take (3 * i + 1)) := ⟨bel_drew I.bel, I.mp, I.us, I.lo⟩
              obtain ⟨u1, u2, st, hME, hG1, hL1k, hES, hG2, hM2⟩ := WyM.bump (show WyM wr.drew gB _ from IU.mp) hrg hnz (by rw [List.length_map]; exact hlenE)
              have IN := fun (hg : wr.drew.grownBy u2 (some gB)) => IU.next (t.2.1, t.2.2) hg hM2
              rw [← htk] at IN
              obtain ⟨us1, us2, us3⟩ := IU.used hG2 hx
              replace IN := Lib.hid (IN hG2)
              have hLk : ∀ u, (u = wr.drew ∨ u = u1 ∨ u = u1) → (Instr.lookup 32 (.map (some gB)) (valY (zE (t.2.1, t.2.2))) false).run Try.prog u = .ok (.int .i64 0) u := by
                have h0 := (show WyM wr.drew gB _ from IU.mp).look hrg
                rw [hif] at h0
                rintro u (rfl | rfl | rfl)
                · exact h0
                · exact hL1k
                · exact hL1k
              have hLw := I.mp.look hrg
              rw [hif] at hLw
              replace hES : (Instr.entryStore 32 (.map (some gB)) (.int .i64 st) (.int .i64 1)).run Try.prog u1 = .ok () u2 := hES
              simp only [zE, valY] at hLk hME hLw
              have n1 : (0 : Int) ≤ ((t.2.1 : Nat) : Int) := by omega
              have n2 : ((t.2.1 : Nat) : Int) < (S.length : Int) := by omega
              have n3 : (0 : Int) ≤ ((t.2.2 : Nat) : Int) := by omega
              have n4 : ((t.2.2 : Nat) : Int) < (S.length : Int) := by omega
              have n5 : (((t.2.1 : Nat) : Int) == ((t.2.2 : Nat) : Int)) = false := by simp; omega
              rw [hA2]
              replace hA2 := Lib.hid hA2
              replace hat2 := Lib.hid hat2
              replace hm := Lib.hid hm
              replace hnb := Lib.hid hnb
              replace htk := Lib.hid htk
              replace hnz := Lib.hid hnz
              replace hif := Lib.hid hif
              replace hxy := Lib.hid hxy
              replace hat := Lib.hid hat
              clear IU hL1k hG1 hG2 hM2 I
              go_upto_region 18 with (fail)
              clear hLw t0 t1 t2 hbt
              refine wp_region_monoK 8 (RKW [.map (some gB), .int .i64 ((t.2.1 : Nat) : Int), .int .i64 ((t.2.2 : Nat) : Int), .agg #[.int .i64 ((t.2.1 : Nat) : Int), .int .i64 ((t.2.2 : Nat) : Int)], .int .i64 0, .int .i64 1, .tuple #[.int .i64 0, goInt st], goInt st]) (PhJ 6 7 wr.drew u1 u1) (by kernel_rfl) _ rfl (by kernel_rfl) (by kernel_rfl) (by kernel_rfl) (by kernel_rfl) (by kernel_rfl) ⟨by decide, by decide, fun h => by simp [Array.getD] at h, rfl⟩ ?_ ?_
              · simp only [List.take_succ_cons, List.take_zero]
                refine ⟨?_, ?_, ?_, ?_, ?_, ?_, ?_, ?_, ?_⟩
                · refine mono_read rfl (by decide) (by decide) (fun a u hu hk hp => ?_)
                  have es6 := (hk 6 (keep_of (by kernel_rfl))).trans (show _ = some (.map (some gB)) from rfl)
                  exact ⟨_, by simp [execOp, go_sem, es6], rfl⟩
                · refine mono_read rfl (by decide) (by decide) (fun a u hu hk hp => ?_)
                  have es10 := (hk 10 (keep_of (by kernel_rfl))).trans (show _ = some (.int .i64 ((t.2.1 : Nat) : Int)) from rfl)
                  exact ⟨_, by simp [execOp, go_sem, es10], rfl⟩
                · refine mono_read rfl (by decide) (by decide) (fun a u hu hk hp => ?_)
                  have es11 := (hk 11 (keep_of (by kernel_rfl))).trans (show _ = some (.int .i64 ((t.2.2 : Nat) : Int)) from rfl)
                  exact ⟨_, by simp [execOp, go_sem, es11], rfl⟩
                · refine mono_read rfl (by decide) (by decide) (fun a u hu hk hp => ?_)
                  obtain ⟨x1, ex1, rx1⟩ := hp ⟨1, .data⟩ (by simp) rfl _ _ rfl rfl
                  obtain rfl : x1 = _ := rx1
                  obtain ⟨x2, ex2, rx2⟩ := hp ⟨2, .data⟩ (by simp) rfl _ _ rfl rfl
                  obtain rfl : x2 = _ := rx2
                  exact ⟨_, by simp [execOp, go_sem, ex1, ex2], rfl⟩
                · refine mono_read rfl (by decide) (by decide) (fun a u hu hk hp => ?_)
                  obtain ⟨x0, ex0, rx0⟩ := hp ⟨0, .data⟩ (by simp) rfl _ _ rfl rfl
                  obtain rfl : x0 = _ := rx0
                  obtain ⟨x3, ex3, rx3⟩ := hp ⟨3, .data⟩ (by simp) rfl _ _ rfl rfl
                  obtain rfl : x3 = _ := rx3
                  exact ⟨_, by simp [execOp, go_sem, ex0, ex3, hLk u hu], rfl⟩
                · refine mono_read rfl (by decide) (by decide) (fun a u hu hk hp => ?_)
                  obtain ⟨x4, ex4, rx4⟩ := hp ⟨4, .data⟩ (by simp) rfl _ _ rfl rfl
                  obtain rfl : x4 = _ := rx4
                  exact ⟨_, by simp [execOp, go_sem, ex4, show IntKind.i64.wrap 1 = 1 from by decide], rfl⟩
                · refine mono_first rfl (by decide) (fun a hk hp => ?_)
                  obtain ⟨x0, ex0, rx0⟩ := hp ⟨0, .data⟩ (by simp) rfl _ _ rfl rfl
                  obtain rfl : x0 = _ := rx0
                  obtain ⟨x3, ex3, rx3⟩ := hp ⟨3, .data⟩ (by simp) rfl _ _ rfl rfl
                  obtain rfl : x3 = _ := rx3
                  exact ⟨_, by simp [execOp, go_sem, ex0, ex3, hME], rfl⟩
                · refine mono_second rfl (by decide) ⟨⟨6, .data⟩, by simp, rfl, rfl⟩ (fun a hk hp => ?_)
                  obtain ⟨x6, ex6, rx6⟩ := hp ⟨6, .data⟩ (by simp) rfl _ _ rfl rfl
                  obtain rfl : x6 = _ := rx6
                  exact ⟨_, by simp [execOp, go_sem, ex6], rfl⟩
                · trivial
              · intro a wz listed hJ hall hsz hdf hk hgot
                have hwz : u1 = wz := (phJ_end hJ (by decide) hall).symm
                clear hJ
                subst hwz
                obtain ⟨vv0, ev0, rv0⟩ := hgot 0 _ 97 rfl rfl
                obtain rfl : vv0 = _ := rv0
                obtain ⟨vv5, ev5, rv5⟩ := hgot 5 _ 102 rfl rfl
                obtain rfl : vv5 = _ := rv5
                obtain ⟨vv7, ev7, rv7⟩ := hgot 7 _ 104 rfl rfl
                obtain rfl : vv7 = _ := rv7
                obtain ⟨f, hf, rfl⟩ := frame_eq hsz hdf hk [97, 98, 99, 100, 101, 102, 103, 104] (by rfl)
                have f97 := hf 97 _ ev0
                have f102 := hf 102 _ ev5
                have f104 := hf 104 _ ev7
                clear hsz hdf hk hgot hf hall ev0 ev5 ev7
                simp only [List.drop_succ_cons, List.drop_zero, setAll, List.setIfInBounds_toArray, List.set_cons_succ, List.set_cons_zero, f97, f102, f104]
                clear f97 f102 f104
                generalize f 98 = uu98; generalize f 99 = uu99; generalize f 100 = uu100; generalize f 101 = uu101; generalize f 103 = uu103
                go_wp2
                go_roundw
                case rel => exact ⟨2, by go_num, by omega, IN.out⟩
                case measure => simp [intOf]
            · have hat2 : EN[3 * i + 2]? = some (t.2.2, t.1) := hat
              have hm := List.mem_of_getElem? hat2
              obtain ⟨hx, hy, hxy⟩ := hT.out.lt _ (by rw [← hEN.out]; exact hm)
              simp only at hx hy hxy
              have hnb := not_before (by rw [hEN.out]; exact hT.out.nodup) hat2
              have htk := take_next hat2
              have hrg : rngY (zE (t.2.2, t.1)) := by unfold rngY zE i64W; simp only; omega
              have hnz : zE (t.2.2, t.1) ∉ (EN.take (3 * i + 2)).map zE := fun h => hnb (mem_zE.1 h)
              have hif : (if zE (t.2.2, t.1) ∈ (EN.take (3 * i + 2)).map zE then (1 : Int) else 0) = 0 := if_neg hnz
              have IU : TgI w2 wr.drew gB gU S.length (EN.take (3 * i + 2)) := ⟨bel_drew I.bel, I.mp, I.us, I.lo⟩
              obtain ⟨u1, u2, st, hME, hG1, hL1k, hES, hG2, hM2⟩ := WyM.bump (show WyM wr.drew gB _ from IU.mp) hrg hnz (by rw [List.length_map]; exact hlenE)
              have IN := fun (hg : wr.drew.grownBy u2 (some gB)) => IU.next (t.2.2, t.1) hg hM2
              rw [← htk] at IN
              obtain ⟨us1, us2, us3⟩ := IU.used hG2 hx
              replace IN := Lib.hid (IN hG2)
              have hLk : ∀ u, (u = wr.drew ∨ u = u1 ∨ u = u1) → (Instr.lookup 32 (.map (some gB)) (valY (zE (t.2.2, t.1))) false).run Try.prog u = .ok (.int .i64 0) u := by
                have h0 := (show WyM wr.drew gB _ from IU.mp).look hrg
                rw [hif] at h0
                rintro u (rfl | rfl | rfl)
                · exact h0
                · exact hL1k
                · exact hL1k
              have hLw := I.mp.look hrg
              rw [hif] at hLw
              replace hES : (Instr.entryStore 32 (.map (some gB)) (.int .i64 st) (.int .i64 1)).run Try.prog u1 = .ok () u2 := hES
              simp only [zE, valY] at hLk hME hLw
              have n1 : (0 : Int) ≤ ((t.2.2 : Nat) : Int) := by omega
              have n2 : ((t.2.2 : Nat) : Int) < (S.length : Int) := by omega
              have n3 : (0 : Int) ≤ ((t.1 : Nat) : Int) := by omega
              have n4 : ((t.1 : Nat) : Int) < (S.length : Int) := by omega
              have n5 : (((t.2.2 : Nat) : Int) == ((t.1 : Nat) : Int)) = false := by simp; omega
              rw [hA2]
              replace hA2 := Lib.hid hA2
              replace hat2 := Lib.hid hat2
              replace hm := Lib.hid hm
              replace hnb := Lib.hid hnb
              replace htk := Lib.hid htk
              replace hnz := Lib.hid hnz
              replace hif := Lib.hid hif
              replace hxy := Lib.hid hxy
              replace hat := Lib.hid hat
              clear IU hL1k hG1 hG2 hM2 I
              go_upto_region 18 with (fail)
              clear hLw t0 t1 t2 hbt
              refine wp_region_monoK 8 (RKW [.map (some gB), .int .i64 ((t.2.2 : Nat) : Int), .int .i64 ((t.1 : Nat) : Int), .agg #[.int .i64 ((t.2.2 : Nat) : Int), .int .i64 ((t.1 : Nat) : Int)], .int .i64 0, .int .i64 1, .tuple #[.int .i64 0, goInt st], goInt st]) (PhJ 6 7 wr.drew u1 u1) (by kernel_rfl) _ rfl (by kernel_rfl) (by kernel_rfl) (by kernel_rfl) (by kernel_rfl) (by kernel_rfl) ⟨by decide, by decide, fun h => by simp [Array.getD] at h, rfl⟩ ?_ ?_
              · simp only [List.take_succ_cons, List.take_zero]
                refine ⟨?_, ?_, ?_, ?_, ?_, ?_, ?_, ?_, ?_⟩
                · refine mono_read rfl (by decide) (by decide) (fun a u hu hk hp => ?_)
                  have es6 := (hk 6 (keep_of (by kernel_rfl))).trans (show _ = some (.map (some gB)) from rfl)
                  exact ⟨_, by simp [execOp, go_sem, es6], rfl⟩
                · refine mono_read rfl (by decide) (by decide) (fun a u hu hk hp => ?_)
                  have es10 := (hk 10 (keep_of (by kernel_rfl))).trans (show _ = some (.int .i64 ((t.2.2 : Nat) : Int)) from rfl)
                  exact ⟨_, by simp [execOp, go_sem, es10], rfl⟩
                · refine mono_read rfl (by decide) (by decide) (fun a u hu hk hp => ?_)
                  have es11 := (hk 11 (keep_of (by kernel_rfl))).trans (show _ = some (.int .i64 ((t.1 : Nat) : Int)) from rfl)
                  exact ⟨_, by simp [execOp, go_sem, es11], rfl⟩
                · refine mono_read rfl (by decide) (by decide) (fun a u hu hk hp => ?_)
                  obtain ⟨x1, ex1, rx1⟩ := hp ⟨1, .data⟩ (by simp) rfl _ _ rfl rfl
                  obtain rfl : x1 = _ := rx1
                  obtain ⟨x2, ex2, rx2⟩ := hp ⟨2, .data⟩ (by simp) rfl _ _ rfl rfl
                  obtain rfl : x2 = _ := rx2
                  exact ⟨_, by simp [execOp, go_sem, ex1, ex2], rfl⟩
                · refine mono_read rfl (by decide) (by decide) (fun a u hu hk hp => ?_)
                  obtain ⟨x0, ex0, rx0⟩ := hp ⟨0, .data⟩ (by simp) rfl _ _ rfl rfl
                  obtain rfl : x0 = _ := rx0
                  obtain ⟨x3, ex3, rx3⟩ := hp ⟨3, .data⟩ (by simp) rfl _ _ rfl rfl
                  obtain rfl : x3 = _ := rx3
                  exact ⟨_, by simp [execOp, go_sem, ex0, ex3, hLk u hu], rfl⟩
                · refine mono_read rfl (by decide) (by decide) (fun a u hu hk hp => ?_)
                  obtain ⟨x4, ex4, rx4⟩ := hp ⟨4, .data⟩ (by simp) rfl _ _ rfl rfl
                  obtain rfl : x4 = _ := rx4
                  exact ⟨_, by simp [execOp, go_sem, ex4, show IntKind.i64.wrap 1 = 1 from by decide], rfl⟩
                · refine mono_first rfl (by decide) (fun a hk hp => ?_)
                  obtain ⟨x0, ex0, rx0⟩ := hp ⟨0, .data⟩ (by simp) rfl _ _ rfl rfl
                  obtain rfl : x0 = _ := rx0
                  obtain ⟨x3, ex3, rx3⟩ := hp ⟨3, .data⟩ (by simp) rfl _ _ rfl rfl
                  obtain rfl : x3 = _ := rx3
                  exact ⟨_, by simp [execOp, go_sem, ex0, ex3, hME], rfl⟩
                · refine mono_second rfl (by decide) ⟨⟨6, .data⟩, by simp, rfl, rfl⟩ (fun a hk hp => ?_)
                  obtain ⟨x6, ex6, rx6⟩ := hp ⟨6, .data⟩ (by simp) rfl _ _ rfl rfl
                  obtain rfl : x6 = _ := rx6
                  exact ⟨_, by simp [execOp, go_sem, ex6], rfl⟩
                · trivial
              · intro a wz listed hJ hall hsz hdf hk hgot
                have hwz : u1 = wz := (phJ_end hJ (by decide) hall).symm
                clear hJ
                subst hwz
                obtain ⟨vv0, ev0, rv0⟩ := hgot 0 _ 97 rfl rfl
                obtain rfl : vv0 = _ := rv0
                obtain ⟨vv5, ev5, rv5⟩ := hgot 5 _ 102 rfl rfl
                obtain rfl : vv5 = _ := rv5
                obtain ⟨vv7, ev7, rv7⟩ := hgot 7 _ 104 rfl rfl
                obtain rfl : vv7 = _ := rv7
                obtain ⟨f, hf, rfl⟩ := frame_eq hsz hdf hk [97, 98, 99, 100, 101, 102, 103, 104] (by rfl)
                have f97 := hf 97 _ ev0
                have f102 := hf 102 _ ev5
                have f104 := hf 104 _ ev7
                clear hsz hdf hk hgot hf hall ev0 ev5 ev7
                simp only [List.drop_succ_cons, List.drop_zero, setAll, List.setIfInBounds_toArray, List.set_cons_succ, List.set_cons_zero, f97, f102, f104]
                clear f97 f102 f104
                generalize f 98 = uu98; generalize f 99 = uu99; generalize f 100 = uu100; generalize f 101 = uu101; generalize f 103 = uu103
                go_wp2
                go_roundw
                case rel => exact ⟨3, by go_num, by omega, IN.out⟩
                case measure => simp [intOf]
          · --END
            obtain rfl : k = 3 := by omega
            rw [show ((3 : Nat) : Int) = 3 from rfl]
            rw [show 3 * i + 3 = 3 * (i + 1) by omega] at I
            go_wp2
            go_roundw
            case rel => exact ⟨i + 1, by go_num, by omega, I⟩
            case measure => simp [intOf]; omega
      · obtain rfl : i = T.length := by omega
        have I3 : TgI w2 wr gB gU S.length EN := by
          rw [List.take_of_length_le (by have := hlE.out; omega)] at I
          exact I
        obtain ⟨w3, rfl⟩ : ∃ w3, w3 = wr := ⟨_, rfl⟩
        clear I
        replace hlt := Lib.hid hlt
        go_upto_region 21 with (fail)
        go_wp2
        go_loopw [13, 12] (fun iv sv wr => ∃ i : Nat, iv = .int .i64 (i : Int) ∧ sv = .int .i64 (((EN.take (3 * i)).countP (pS r S) : Nat) : Int) ∧ i ≤ T.length ∧ Below w3.heap.size w3 wr) (fun iv _ _ => T.length - (intOf iv).toNat)
        case atStart => exact ⟨0, rfl, by simp, by omega, Below.refl _ _⟩
        case round =>
          obtain ⟨i, rfl, rfl, hi, hBr⟩ := hrel
          by_cases hlt : i < T.length
          · have q0 : (0 : Int) ≤ (i : Int) := by omega
            have q1 : (i : Int) < (T.length : Int) := by omega
            go_upto_region 24 with (fail)
            go_wp2
            go_loopw [14, 12] (fun kv sv wr => ∃ k : Nat, kv = .int .i64 (k : Int) ∧ sv = .int .i64 (((EN.take (3 * i + k)).countP (pS r S) : Nat) : Int) ∧ k ≤ 3 ∧ Below w3.heap.size w3 wr) (fun kv _ _ => 3 - (intOf kv).toNat)
            case atStart => exact ⟨0, rfl, rfl, by omega, hBr⟩
            case round =>
              clear hBr
              obtain ⟨k, rfl, rfl, hk, hBr⟩ := hrel
              by_cases hk3 : k < 3
              · have hBx : Below w2.heap.size w2 wr := bel_trans I3.bel hBr
                obtain ⟨bt, ot, hA2, hbt, t0, t1, t2⟩ := (hL2.below hBx).at_ i (by simpa using hlt)
                simp only [List.getElem_map, trZ] at t0 t1 t2
                have hat := eds_at T i k hlt hk3
                rw [← hEN.out] at hat
                generalize T[i] = t at *
                rcases (by omega : k = 0 ∨ k = 1 ∨ k = 2) with rfl | rfl | rfl
                · have hat2 : EN[3 * i + 0]? = some (t.1, t.2.1) := hat
                  have hm := List.mem_of_getElem? hat2
                  obtain ⟨hx, hy, hxy⟩ := hT.out.lt _ (by rw [← hEN.out]; exact hm)
                  simp only at hx hy hxy
                  have hcn := count_next (r := r) (S := S) hat2
                  have hcl := count_le r S EN (3 * i + 0)
                  have hgx : S[t.1]? = some S[t.1] := List.getElem?_eq_getElem hx
                  have hgy : S[t.2.1]? = some S[t.2.1] := List.getElem?_eq_getElem hy
                  have hbk := hT.out.back _ (by rw [← hEN.out]; exact hm) _ _ hgx hgy
                  have hpS : pS r S (t.1, t.2.1) = partB r (S[t.1], S[t.2.1]) := by unfold pS; simp only [List.getD, hgx, hgy, Option.getD_some]
                  rw [hpS] at hcn
                  rw [← hEN.out] at hbk
                  clear hpS hgx hgy
                  have hrx := hrS.out _ (List.getElem_mem hx)
                  have hry := hrS.out _ (List.getElem_mem hy)
                  obtain ⟨bs, os, hA1, hbs, s0, s1, s2⟩ := (hL1.below hBx).at_ t.1 hx
                  obtain ⟨bs2, os2, hA1b, hbs2, v0, v1, v2⟩ := (hL1.below hBx).at_ t.2.1 hy
                  rw [hA1] at hA1b
                  obtain ⟨rfl, rfl⟩ : bs = bs2 ∧ os = os2 := by injection hA1b with h; injection h with h1 h2; exact ⟨h1, h2⟩
                  clear hA1b hbs2
                  generalize S[t.1] = sx at *
                  generalize S[t.2.1] = sy at *
                  have cAl := fun x : More => along_any (Go.Proofs.Ytpdnaceggpdleaa.grow wr x) q hok.out sx sy hrx hry
                  rw [← hr.out] at cAl
                  have n1 : (0 : Int) ≤ ((t.1 : Nat) : Int) := by omega
                  have n2 : ((t.1 : Nat) : Int) < (S.length : Int) := by omega
                  have n3 : (0 : Int) ≤ ((t.2.1 : Nat) : Int) := by omega
                  have n4 : ((t.2.1 : Nat) : Int) < (S.length : Int) := by omega
                  have hrg : rngY (zE (t.2.1, t.1)) := by unfold rngY zE i64W; simp only; omega
                  have hQr := hQ2.below hBx
                  have y0 : wr.cell? ⟨W.heap.size, 0, none⟩ = some (.int .i64 (q 0)) := hQr.cell 0
                  have y1 : wr.cell? ⟨W.heap.size, 1, none⟩ = some (.int .i64 (q 1)) := hQr.cell 1
                  have y2 : wr.cell? ⟨W.heap.size, 2, none⟩ = some (.int .i64 (q 2)) := hQr.cell 2
                  have y3 : wr.cell? ⟨W.heap.size, 3, none⟩ = some (.int .i64 (q 3)) := hQr.cell 3
                  have yl := hQr.lt
                  obtain ⟨cn, hcnv⟩ : ∃ n, n = (EN.take (3 * i + 0)).countP (pS r S) := ⟨_, rfl⟩
                  rw [← hcnv] at hcn hcl ⊢
                  rw [hA2, hA1]
                  replace hA2 := Lib.hid hA2
                  replace hA1 := Lib.hid hA1
                  replace hat2 := Lib.hid hat2
                  replace hm := Lib.hid hm
                  replace hxy := Lib.hid hxy
                  replace hat := Lib.hid hat
                  replace hcn := Lib.hid hcn
                  replace hbk := Lib.hid hbk
                  replace cAl := Lib.hid cAl
                  replace hcnv := Lib.hid hcnv
                  go_upto_region 29 with (fail)
                  refine wp_region_tail 9 ?_ (by kernel_rfl) (by kernel_rfl) (by kernel_rfl) (fun x => ?_) (fun x => ?_)
                  rotate_left
                  · simp only [List.take_succ_cons, List.take_zero]
                    repeat (go_big_quiet_step (((fail))))
                    refine wpQuiet_nil ?_
                    exact rfl
                  simp only [List.drop_succ_cons, List.drop_zero]
                  try simp only [Act.put, List.setIfInBounds_toArray, List.set_cons_succ, List.set_cons_zero]
                  go_upto_region 30 with (first | (go_at_call 11; (refine (cAl.out _).mono ?_); rintro e w6 ⟨xx, rfl, hb6, hiff, hlo, hhi⟩) | fail)
                  have hB6 : Below w3.heap.size w3 w6 := bel_trans (bel_grow hBr x) hb6
                  have hLz := (I3.mp.below hB6).look hrg
                  clear hb6 cAl s0 s1 s2 v0 v1 v2 y0 y1 y2 y3 yl t0 t1 t2 hbt hbs
                  rcases hbk.out with ⟨hp, hnm⟩ | ⟨hp, hnm⟩
                  · have hx0 : 0 ≤ xx := hiff.2 hp
                    rw [if_neg (fun h => hnm (mem_zE.1 h))] at hLz
                    have hc2 := hcn.out
                    rw [hp] at hc2
                    simp only [if_true, if_false, Bool.false_eq_true, Nat.add_zero] at hc2
                    simp only [zE, valY] at hLz
                    replace hc2 := Lib.hid hc2
                    clear hiff hp hnm
                    go_wp2
                    go_roundw
                    case rel => exact ⟨1, by go_num, by rw [hc2.out]; go_num, by omega, hB6⟩
                    case measure => simp [intOf]
                  · have hx0 : xx < 0 := by have h : ¬ (0 ≤ xx) := fun h => (by have := hiff.1 h; rw [hp] at this; cases this); omega
                    rw [if_pos (mem_zE.2 hnm)] at hLz
                    have hc2 := hcn.out
                    rw [hp] at hc2
                    simp only [if_true, if_false, Bool.false_eq_true, Nat.add_zero] at hc2
                    simp only [zE, valY] at hLz
                    replace hc2 := Lib.hid hc2
                    clear hiff hp hnm
                    go_wp2
                    go_roundw
                    case rel => exact ⟨1, by go_num, by rw [hc2.out], by omega, hB6⟩
                    case measure => simp [intOf]
                · have hat2 : EN[3 * i + 1]? = some (t.2.1, t.2.2) := hat
                  have hm := List.mem_of_getElem? hat2
                  obtain ⟨hx, hy, hxy⟩ := hT.out.lt _ (by rw [← hEN.out]; exact hm)
                  simp only at hx hy hxy
                  have hcn := count_next (r := r) (S := S) hat2
                  have hcl := count_le r S EN (3 * i + 1)
                  have hgx : S[t.2.1]? = some S[t.2.1] := List.getElem?_eq_getElem hx
                  have hgy : S[t.2.2]? = some S[t.2.2] := List.getElem?_eq_getElem hy
                  have hbk := hT.out.back _ (by rw [← hEN.out]; exact hm) _ _ hgx hgy
                  have hpS : pS r S (t.2.1, t.2.2) = partB r (S[t.2.1], S[t.2.2]) := by unfold pS; simp only [List.getD, hgx, hgy, Option.getD_some]
                  rw [hpS] at hcn
                  rw [← hEN.out] at hbk
                  clear hpS hgx hgy
                  have hrx := hrS.out _ (List.getElem_mem hx)
                  have hry := hrS.out _ (List.getElem_mem hy)
                  obtain ⟨bs, os, hA1, hbs, s0, s1, s2⟩ := (hL1.below hBx).at_ t.2.1 hx
                  obtain ⟨bs2, os2, hA1b, hbs2, v0, v1, v2⟩ := (hL1.below hBx).at_ t.2.2 hy
                  rw [hA1] at hA1b
                  obtain ⟨rfl, rfl⟩ : bs = bs2 ∧ os = os2 := by injection hA1b with h; injection h with h1 h2; exact ⟨h1, h2⟩
                  clear hA1b hbs2
                  generalize S[t.2.1] = sx at *
                  generalize S[t.2.2] = sy at *
                  have cAl := fun x : More => along_any (Go.Proofs.Ytpdnaceggpdleaa.grow wr x) q hok.out sx sy hrx hry
                  rw [← hr.out] at cAl
                  have n1 : (0 : Int) ≤ ((t.2.1 : Nat) : Int) := by omega
                  have n2 : ((t.2.1 : Nat) : Int) < (S.length : Int) := by omega
                  have n3 : (0 : Int) ≤ ((t.2.2 : Nat) : Int) := by omega
                  have n4 : ((t.2.2 : Nat) : Int) < (S.length : Int) := by omega
                  have hrg : rngY (zE (t.2.2, t.2.1)) := by unfold rngY zE i64W; simp only; omega
                  have hQr := hQ2.below hBx
                  have y0 : wr.cell? ⟨W.heap.size, 0, none⟩ = some (.int .i64 (q 0)) := hQr.cell 0
                  have y1 : wr.cell? ⟨W.heap.size, 1, none⟩ = some (.int .i64 (q 1)) := hQr.cell 1
                  have y2 : wr.cell? ⟨W.heap.size, 2, none⟩ = some (.int .i64 (q 2)) := hQr.cell 2
                  have y3 : wr.cell? ⟨W.heap.size, 3, none⟩ = some (.int .i64 (q 3)) := hQr.cell 3
                  have yl := hQr.lt
                  obtain ⟨cn, hcnv⟩ : ∃ n, n = (EN.take (3 * i + 1)).countP (pS r S) := ⟨_, rfl⟩
                  rw [← hcnv] at hcn hcl ⊢
                  rw [hA2, hA1]
                  replace hA2 := Lib.hid hA2
                  replace hA1 := Lib.hid hA1
                  replace hat2 := Lib.hid hat2
                  replace hm := Lib.hid hm
                  replace hxy := Lib.hid hxy
                  replace hat := Lib.hid hat
                  replace hcn := Lib.hid hcn
                  replace hbk := Lib.hid hbk
                  replace cAl := Lib.hid cAl
                  replace hcnv := Lib.hid hcnv
                  go_upto_region 29 with (fail)
                  refine wp_region_tail 9 ?_ (by kernel_rfl) (by kernel_rfl) (by kernel_rfl) (fun x => ?_) (fun x => ?_)
                  rotate_left
                  · simp only [List.take_succ_cons, List.take_zero]
                    repeat (go_big_quiet_step (((fail))))
                    refine wpQuiet_nil ?_
                    exact rfl
                  simp only [List.drop_succ_cons, List.drop_zero]
                  try simp only [Act.put, List.setIfInBounds_toArray, List.set_cons_succ, List.set_cons_zero]
                  go_upto_region 30 with (first | (go_at_call 11; (refine (cAl.out _).mono ?_); rintro e w6 ⟨xx, rfl, hb6, hiff, hlo, hhi⟩) | fail)
                  have hB6 : Below w3.heap.size w3 w6 := bel_trans (bel_grow hBr x) hb6
                  have hLz := (I3.mp.below hB6).look hrg
                  clear hb6 cAl s0 s1 s2 v0 v1 v2 y0 y1 y2 y3 yl t0 t1 t2 hbt hbs
                  rcases hbk.out with ⟨hp, hnm⟩ | ⟨hp, hnm⟩
                  · have hx0 : 0 ≤ xx := hiff.2 hp
                    rw [if_neg (fun h => hnm (mem_zE.1 h))] at hLz
                    have hc2 := hcn.out
                    rw [hp] at hc2
                    simp only [if_true, if_false, Bool.false_eq_true, Nat.add_zero] at hc2
                    simp only [zE, valY] at hLz
                    replace hc2 := Lib.hid hc2
                    clear hiff hp hnm
                    go_wp2
                    go_roundw
                    case rel => exact ⟨2, by go_num, by rw [hc2.out]; go_num, by omega, hB6⟩
                    case measure => simp [intOf]
                  · have hx0 : xx < 0 := by have h : ¬ (0 ≤ xx) := fun h => (by have := hiff.1 h; rw [hp] at this; cases this); omega
                    rw [if_pos (mem_zE.2 hnm)] at hLz
                    have hc2 := hcn.out
                    rw [hp] at hc2
                    simp only [if_true, if_false, Bool.false_eq_true, Nat.add_zero] at hc2
                    simp only [zE, valY] at hLz
                    replace hc2 := Lib.hid hc2
                    clear hiff hp hnm
                    go_wp2
                    go_roundw
                    case rel => exact ⟨2, by go_num, by rw [hc2.out], by omega, hB6⟩
                    case measure => simp [intOf]
                · have hat2 : EN[3 * i + 2]? = some (t.2.2, t.1) := hat
                  have hm := List.mem_of_getElem? hat2
                  obtain ⟨hx, hy, hxy⟩ := hT.out.lt _ (by rw [← hEN.out]; exact hm)
                  simp only at hx hy hxy
                  have hcn := count_next (r := r) (S := S) hat2
                  have hcl := count_le r S EN (3 * i + 2)
                  have hgx : S[t.2.2]? = some S[t.2.2] := List.getElem?_eq_getElem hx
                  have hgy : S[t.1]? = some S[t.1] := List.getElem?_eq_getElem hy
                  have hbk := hT.out.back _ (by rw [← hEN.out]; exact hm) _ _ hgx hgy
                  have hpS : pS r S (t.2.2, t.1) = partB r (S[t.2.2], S[t.1]) := by unfold pS; simp only [List.getD, hgx, hgy, Option.getD_some]
                  rw [hpS] at hcn
                  rw [← hEN.out] at hbk
                  clear hpS hgx hgy
                  have hrx := hrS.out _ (List.getElem_mem hx)
                  have hry := hrS.out _ (List.getElem_mem hy)
                  obtain ⟨bs, os, hA1, hbs, s0, s1, s2⟩ := (hL1.below hBx).at_ t.2.2 hx
                  obtain ⟨bs2, os2, hA1b, hbs2, v0, v1, v2⟩ := (hL1.below hBx).at_ t.1 hy
                  rw [hA1] at hA1b
                  obtain ⟨rfl, rfl⟩ : bs = bs2 ∧ os = os2 := by injection hA1b with h; injection h with h1 h2; exact ⟨h1, h2⟩
                  clear hA1b hbs2
                  generalize S[t.2.2] = sx at *
                  generalize S[t.1] = sy at *
                  have cAl := fun x : More => along_any (Go.Proofs.Ytpdnaceggpdleaa.grow wr x) q hok.out sx sy hrx hry
                  rw [← hr.out] at cAl
                  have n1 : (0 : Int) ≤ ((t.2.2 : Nat) : Int) := by omega
                  have n2 : ((t.2.2 : Nat) : Int) < (S.length : Int) := by omega
                  have n3 : (0 : Int) ≤ ((t.1 : Nat) : Int) := by omega
                  have n4 : ((t.1 : Nat) : Int) < (S.length : Int) := by omega
                  have hrg : rngY (zE (t.1, t.2.2)) := by unfold rngY zE i64W; simp only; omega
                  have hQr := hQ2.below hBx
                  have y0 : wr.cell? ⟨W.heap.size, 0, none⟩ = some (.int .i64 (q 0)) := hQr.cell 0
                  have y1 : wr.cell? ⟨W.heap.size, 1, none⟩ = some (.int .i64 (q 1)) := hQr.cell 1
                  have y2 : wr.cell? ⟨W.heap.size, 2, none⟩ = some (.int .i64 (q 2)) := hQr.cell 2
                  have y3 : wr.cell? ⟨W.heap.size, 3, none⟩ = some (.int .i64 (q 3)) := hQr.cell 3
                  have yl := hQr.lt
                  obtain ⟨cn, hcnv⟩ : ∃ n, n = (EN.take (3 * i + 2)).countP (pS r S) := ⟨_, rfl⟩
                  rw [← hcnv] at hcn hcl ⊢
                  rw [hA2, hA1]
                  replace hA2 := Lib.hid hA2
                  replace hA1 := Lib.hid hA1
                  replace hat2 := Lib.hid hat2
                  replace hm := Lib.hid hm
                  replace hxy := Lib.hid hxy
                  replace hat := Lib.hid hat
                  replace hcn := Lib.hid hcn
                  replace hbk := Lib.hid hbk
                  replace cAl := Lib.hid cAl
                  replace hcnv := Lib.hid hcnv
                  go_upto_region 29 with (fail)
                  refine wp_region_tail 9 ?_ (by kernel_rfl) (by kernel_rfl) (by kernel_rfl) (fun x => ?_) (fun x => ?_)
                  rotate_left
                  · simp only [List.take_succ_cons, List.take_zero]
                    repeat (go_big_quiet_step (((fail))))
                    refine wpQuiet_nil ?_
                    exact rfl
                  simp only [List.drop_succ_cons, List.drop_zero]
                  try simp only [Act.put, List.setIfInBounds_toArray, List.set_cons_succ, List.set_cons_zero]
                  go_upto_region 30 with (first | (go_at_call 11; (refine (cAl.out _).mono ?_); rintro e w6 ⟨xx, rfl, hb6, hiff, hlo, hhi⟩) | fail)
                  have hB6 : Below w3.heap.size w3 w6 := bel_trans (bel_grow hBr x) hb6
                  have hLz := (I3.mp.below hB6).look hrg
                  clear hb6 cAl s0 s1 s2 v0 v1 v2 y0 y1 y2 y3 yl t0 t1 t2 hbt hbs
                  rcases hbk.out with ⟨hp, hnm⟩ | ⟨hp, hnm⟩
                  · have hx0 : 0 ≤ xx := hiff.2 hp
                    rw [if_neg (fun h => hnm (mem_zE.1 h))] at hLz
                    have hc2 := hcn.out
                    rw [hp] at hc2
                    simp only [if_true, if_false, Bool.false_eq_true, Nat.add_zero] at hc2
                    simp only [zE, valY] at hLz
                    replace hc2 := Lib.hid hc2
                    clear hiff hp hnm
                    go_wp2
                    go_roundw
                    case rel => exact ⟨3, by go_num, by rw [hc2.out]; go_num, by omega, hB6⟩
                    case measure => simp [intOf]
                  · have hx0 : xx < 0 := by have h : ¬ (0 ≤ xx) := fun h => (by have := hiff.1 h; rw [hp] at this; cases this); omega
                    rw [if_pos (mem_zE.2 hnm)] at hLz
                    have hc2 := hcn.out
                    rw [hp] at hc2
                    simp only [if_true, if_false, Bool.false_eq_true, Nat.add_zero] at hc2
                    simp only [zE, valY] at hLz
                    replace hc2 := Lib.hid hc2
                    clear hiff hp hnm
                    go_wp2
                    go_roundw
                    case rel => exact ⟨3, by go_num, by rw [hc2.out], by omega, hB6⟩
                    case measure => simp [intOf]
              · obtain rfl : k = 3 := by omega
                rw [show ((3 : Nat) : Int) = 3 from rfl]
                rw [show 3 * i + 3 = 3 * (i + 1) by omega]
                go_wp2
                go_roundw
                case rel => exact ⟨i + 1, by go_num, rfl, by omega, hBr⟩
                case measure => simp [intOf]; omega
          · obtain rfl : i = T.length := by omega
            have hcnt : (EN.take (3 * T.length)).countP (pS r S) = r 0 + r 1 + r 2 + r 3 := by
              rw [List.take_of_length_le (by have := hlE.out; omega), hEN.out]
              exact hT.out.cnt
            rw [hcnt]
            have hqc : (((r 0 + r 1 + r 2 + r 3 : Nat) : Int) == q 0 + q 1 + q 2 + q 3) = true := by simp [hqs.out]
            generalize r 0 + r 1 + r 2 + r 3 = cnt at *
            replace hcnt := Lib.hid hcnt
            replace hlt := Lib.hid hlt
            go_upto_region 35 with (fail)
            go_wp2
            go_loopw [19] (fun iv wr => ∃ i : Nat, iv = .int .i64 (i : Int) ∧ i ≤ S.length ∧ Below w3.heap.size w3 wr) (fun iv _ => S.length - (intOf iv).toNat)
            case atStart => exact ⟨0, rfl, by omega, hBr⟩
            case round =>
              clear hBr
              obtain ⟨i, rfl, hi, hBr⟩ := hrel
              have hU := I3.us.below hBr
              by_cases hlt2 : i < S.length
              · have cu : wr.cell? ⟨gU, i, none⟩ = some (.bool true) := by
                  rw [hU.cell, uC_at _ hlt2]
                  have := hT.out.used i hlt2
                  rw [← hEN.out] at this
                  rw [decide_eq_true this]
                have lu := hU.lt
                have q0 : (0 : Int) ≤ (i : Int) := by omega
                have q1 : (i : Int) < (S.length : Int) := by omega
                go_wp2
                go_roundw
                case rel => exact ⟨i + 1, by go_num, by omega, hBr⟩
                case measure => simp [intOf]; omega
              · obtain rfl : i = S.length := by omega
                have hBx : Below w2.heap.size w2 wr := bel_trans I3.bel hBr
                have hQr := hQ2.below hBx
                have y0 : wr.cell? ⟨W.heap.size, 0, none⟩ = some (.int .i64 (q 0)) := hQr.cell 0
                have y1 : wr.cell? ⟨W.heap.size, 1, none⟩ = some (.int .i64 (q 1)) := hQr.cell 1
                have y2 : wr.cell? ⟨W.heap.size, 2, none⟩ = some (.int .i64 (q 2)) := hQr.cell 2
                have y3 : wr.cell? ⟨W.heap.size, 3, none⟩ = some (.int .i64 (q 3)) := hQr.cell 3
                have yl := hQr.lt
                have b0 := hok.out 0 (by omega)
                have b1 := hok.out 1 (by omega)
                have b2 := hok.out 2 (by omega)
                have b3 := hok.out 3 (by omega)
                have hBB := bel_trans hB2 hBx
                clear hlt2
                go_wp2
                go_ret
                exact ⟨by rfl, hBB⟩
  · have hbb := bel_trans hB1 hb2
    go_wp2
    go_ret
    exact ⟨rfl, hbb⟩

theorem own : ownKnob Try.prog.godebug = none := by kernel_rfl
set_option maxRecDepth 100000 in
theorem lifted (os : Os) (started : os.Started) (H : Type) (enc : TypeId × Value → H) :
    ReturnsInHanded {} Try.checked os 4 .any (Rows.weaveTightSpec.pre6 enc Try.prog Try.f4 Rows.weaveTightRow.domain false) (Rows.weaveTightSpec.post enc Try.prog Try.f4 false true false false) := by
  refine returnsInHanded_of_change (C := Try.checked) own started (by kernel_rfl) Try.func4
    (ChangeSpec.witness6 (enc := enc) (C := Try.checked) false ⟨#[], #[.agg #[.int .i64 0, .int .i64 0, .int .i64 0, .int .i64 0]], []⟩ 12 (by kernel_rfl) (by kernel_rfl) (by kernel_rfl) (by kernel_rfl)) ?_
  intro W base args ds gs before hval0 hW hcnd _
  have hval : ∀ (j : Nat) t v, Try.f4.params[j]? = some t → args[j]? = some v → Value.okWide Try.prog W .any base t v := hval0
  have hW' := hW
  obtain ⟨p, q, hA0, hV, rfl, hfz, hnd⟩ := hW
  have hA : DataW.TrodAll enc Try.prog W 0 (fun _ => true) true Try.f4.params.toList args.toList ds p := hA0
  rw [Try.params4] at hA hval
  obtain ⟨v0, vs0, d0, ds0, p0, q0, hargs, rfl, rfl, h0, r0⟩ := trodAll_cons hA
  obtain ⟨rfl, rfl, rfl⟩ := trodAll_nil r0
  obtain rfl : args = #[v0] := by cases args; simp_all
  obtain ⟨q0, rfl, k0⟩ := open_I4 (hval 0 22 v0 rfl rfl) h0
  refine (walk W q0 k0).mono fun e W' ⟨he, hb⟩ => ?_
  subst he
  exact ⟨_, rfl, law_post (tb := 4) (by kernel_rfl) (by kernel_rfl) rfl rfl Try.underlying4 rfl rfl rfl hW' hb⟩

theorem over : Rows.weaveTightRow.holds Try.pinned (OpenSpec.ofChange Rows.weaveTightSpec) :=
  OpenClaim.holds_of_wide 4 Try.f4 rfl rfl rfl rfl rfl rfl rfl ⟨rfl, rfl, rfl, rfl, rfl⟩ rfl rfl rfl rfl rfl (by kernel_rfl) Try.func4 (by kernel_rfl)
    (of_decide_eq_true (by kernel_rfl)) (by unfold Func.isWrapper; first | (rw [if_pos (by decide +kernel)]; kernel_rfl) | (rw [if_neg (by decide +kernel)]; exact ⟨rfl, rfl⟩))
    (fun os started H enc _ => lifted os started H enc)

theorem proved : Rows.WeaveTightSaid :=
  over
#print axioms proved
end Go.Proofs.Ytpdnaceggpdleaa.weaveTight
