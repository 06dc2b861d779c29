/- Package topo: hubs. -/
import Derived.Test.YtbehobojgeganaaTop2
namespace Go.Proofs.Ytbehobojgeganaa
open Go.RowKit
set_option linter.unusedVariables false
set_option linter.unusedSimpArgs false
set_option linter.unnecessarySimpa false
set_option maxRecDepth 100000


/-- The cells of a row of hubs. -/
def hubCs (n : Nat) (h : Nat → Int × Nat) : Array Value := ((List.range (n * 2)).map fun j => if j % 2 = 0 then Value.int .i64 (h (j / 2)).1 else Value.int .i64 ((h (j / 2)).2 : Int)).toArray
theorem hubCs_size (n : Nat) (h : Nat → Int × Nat) : (hubCs n h).size = n * 2 := by simp [hubCs]
theorem hubCs_0 (n : Nat) (h : Nat → Int × Nat) (v : Nat) (hv : v < n) : (hubCs n h)[v * 2]? = some (.int .i64 (h v).1) := by
  unfold hubCs
  rw [List.getElem?_toArray, List.getElem?_map, List.getElem?_range (by omega)]
  simp
theorem hubCs_1 (n : Nat) (h : Nat → Int × Nat) (v : Nat) (hv : v < n) : (hubCs n h)[v * 2 + 1]? = some (.int .i64 ((h v).2 : Int)) := by
  unfold hubCs
  rw [List.getElem?_toArray, List.getElem?_map, List.getElem?_range (by omega)]
  have e1 : (v * 2 + 1) % 2 = 1 := by omega
  have e2 : (v * 2 + 1) / 2 = v := by omega
  simp [e1, e2]
theorem hubCs_made (n : Nat) : madeCells #[.int .i64 0, .int .i64 0] (n * 2) = hubCs n (fun _ => (0, 0)) := by
  apply Array.ext
  · simp [size_madeCells, hubCs_size]
  · intro i h1 h2
    have hi : i < n * 2 := by simpa [size_madeCells] using h1
    have : i % 2 = 0 ∨ i % 2 = 1 := by omega
    simp only [madeCells, hubCs, Array.getElem_map, Array.getElem_range, List.getElem_toArray, List.getElem_map, List.getElem_range]
    rcases this with e | e <;> simp [e]
theorem hubCs_set0 (n : Nat) (h : Nat → Int × Nat) (v : Nat) (hv : v < n) (x : Int) : (hubCs n h).setIfInBounds (v * 2) (.int .i64 x) = hubCs n (fun u => if u = v then (x, (h u).2) else h u) := by
  apply Array.ext
  · simp [hubCs_size]
  · intro i h1 h2
    have hi : i < n * 2 := by simpa [hubCs_size] using h1
    rw [Array.getElem_setIfInBounds (by simpa [hubCs_size] using hi)]
    have : i % 2 = 0 ∨ i % 2 = 1 := by omega
    split
    · rename_i e
      subst e
      simp [hubCs]
    · rename_i e
      simp only [hubCs, List.getElem_toArray, List.getElem_map, List.getElem_range]
      rcases this with e1 | e1
      · have : i / 2 ≠ v := by omega
        simp [e1, this]
      · by_cases e2 : i / 2 = v <;> simp [e1, e2]
theorem hubCs_set1 (n : Nat) (h : Nat → Int × Nat) (v : Nat) (hv : v < n) (x : Nat) : (hubCs n h).setIfInBounds (v * 2 + 1) (.int .i64 (x : Int)) = hubCs n (fun u => if u = v then ((h u).1, x) else h u) := by
  apply Array.ext
  · simp [hubCs_size]
  · intro i h1 h2
    have hi : i < n * 2 := by simpa [hubCs_size] using h1
    rw [Array.getElem_setIfInBounds (by simpa [hubCs_size] using hi)]
    have : i % 2 = 0 ∨ i % 2 = 1 := by omega
    split
    · rename_i e
      subst e
      have e1 : (v * 2 + 1) % 2 = 1 := by omega
      have e2 : (v * 2 + 1) / 2 = v := by omega
      simp [hubCs, e1, e2]
    · rename_i e
      simp only [hubCs, List.getElem_toArray, List.getElem_map, List.getElem_range]
      rcases this with e1 | e1
      · by_cases e2 : i / 2 = v <;> simp [e1, e2]
      · have : i / 2 ≠ v := by omega
        simp [e1, this]
theorem hubCs_both (n : Nat) (h : Nat → Int × Nat) (v : Nat) (hv : v < n) (x : Int) (y : Nat) : ((hubCs n h).setIfInBounds (v * 2) (.int .i64 x)).setIfInBounds (v * 2 + 1) (.int .i64 (y : Int)) = hubCs n (fun u => if u = v then (x, y) else h u) := by
  rw [hubCs_set0 n h v hv, hubCs_set1 n _ v hv]
  congr 1; funext u; by_cases e : u = v <;> simp [e]
theorem infoH : (Try.prog.info? 79).map (fun i => (i.zero, i.size, i.bytes)) = some (some (.agg #[.int .i64 0, .int .i64 0]), 2, 16) := by kernel_rfl


set_option maxHeartbeats 2000000 in
theorem hubs_any (W : World) (B N k : Nat) (fs : List (List Int)) (A : Option Addr) (ok : WalkOk (N : Int) fs) (hM : GoM W B (waysL 0 fs)) (hA : FL W A fs) (hi : ∀ w ∈ waysL 0 fs, i64B w.a ∧ i64B w.b) (hN : N < 1099511627776) (hlen : (waysL 0 fs).length < 1099511627776) (hfl : fs.length < 1099511627776) (hxl : ∀ x ∈ fs, x.length < 1099511627776) :
    Calls Try.prog 41 #[.map (some B), .int .i64 (N : Int), .slice A fs.length k] W fun e W' => ∃ g, e = .returned (.slice (some ⟨g, 0, none⟩) N N) ∧ Below W.heap.size W W' ∧ Blk W' g 79 (hubCs N fun v => hubOf (waysL 0 fs) (v : Int) (waysL 0 fs)) ∧ W.heap.size ≤ g := by
  obtain ⟨i0, hi0, hz0, hz1, hz2⟩ := info_parts infoH
  go_enter Try.func41, Try.ntmps41
  go_upto_region 2 with (first | ((refine wpList_make_full _ rfl _ _ 76 rfl W.heap.size 79 i0 _ 2 Try.underlying76 hi0 hz0 hz1 .i64 .i64 (N : Int) (N : Int) N rfl rfl rfl rfl (by rw [hz2]; omega) (by unfold maxLen; omega) (Nat.le_refl _) ?_); intro W1 own1 hg1) | fail)
  have hbx : Blk W1 W.heap.size 79 (hubCs N fun v => hubOf (waysL 0 fs) (v : Int) []) := by
    obtain ⟨_, h | ⟨g, cap, cur, h1, h2, h3, h4, h5, h6, h7⟩⟩ := own1
    · simp at h
    · simp only [Value.slice.injEq, Option.some.injEq, Addr.mk.injEq, and_true] at h1
      obtain ⟨rfl, rfl⟩ : W.heap.size = g ∧ N = cap := by
        refine ⟨h1.1, ?_⟩
        have := h1.2
        omega
      unfold Blk
      rw [h3]
      have e : cur = madeCells #[.int .i64 0, .int .i64 0] (N * 2) := by
        apply Array.ext'
        rw [List.take_of_length_le (by simp [h6])] at h7
        exact h7
      rw [e, hubCs_made]
      simp [hubOf_nil]
  have hbel0 : Below W.heap.size W W1 := bel_own (Below.refl _ _) hg1 (by intro k h; cases h)
  clear own1 hg1
  generalize hG : W.heap.size = G at *
  have hGl := hbx.lt
  clear hGl
  go_wp2
  go_loopw [18] (fun i wr => ∃ j : Nat, i = .int .i64 (j : Int) ∧ j ≤ fs.length ∧ Below W.heap.size W wr ∧ Blk wr G 79 (hubCs N fun v => hubOf (waysL 0 fs) (v : Int) (waysL 0 (fs.take j)))) (fun i _ => fs.length - (intOf i).toNat)
  case atStart => exact ⟨0, rfl, by omega, by rw [hG]; exact hbel0, by simpa [waysL] using hbx⟩
  case round =>
    obtain ⟨j, rfl, hj, hbel, hb⟩ := hrel
    clear hbx hbel0
    by_cases hlt : j < fs.length
    · obtain ⟨b, off, Bf, m, rfl, hbl, hcell, hIL⟩ := hA.at_ j hlt
      have hcr := (hbel.cell (p := ⟨b, off + j, none⟩) hbl).trans hcell
      have hbl2 : b < wr.heap.size := Nat.lt_of_lt_of_le hbl hbel.size
      have hILr := hIL.below hbel
      have hx3 := ok.long _ (List.getElem_mem hlt)
      have hxb := hxl _ (List.getElem_mem hlt)
      have hsp := waysL_split fs 0 j hlt
      have htk : waysL 0 (fs.take (j + 1)) = waysL 0 (fs.take j) ++ waysF (j : Int) fs[j] := by
        rw [List.take_succ_eq_append_getElem hlt, waysL_append]
        simp [waysL, Nat.min_eq_left (Nat.le_of_lt hlt)]
      have hap := ok.inr
      generalize hxe : fs[j] = x at *
      clear hcell
      obtain ⟨b2, off2, rfl, hb2, hc2⟩ := hILr.at_ (x.length - 1) (by omega)
      have n1 : ((x.length : Int) - 1) = ((x.length - 1 : Nat) : Int) := by omega
      have k0 : (0 : Int) ≤ (j : Int) := by omega
      have k1 : (j : Int) < (fs.length : Int) := by omega
      have hxl3 : (3 : Int) ≤ (x.length : Int) := by omega
      go_wp2
      have hgd : x[x.length - 1]'(by omega) = x.getD (x.length - 1) 0 := by rw [List.getD_eq_getElem?_getD, List.getElem?_eq_getElem (by omega)]; rfl
      generalize x[x.length - 1]'(by omega) = xl at *
      replace hgd := Lib.hid hgd
      go_loopw [10, 30] (fun av i wq => ∃ (q : Nat) (bi ai : Int) (pre : List Way), i = .int .i64 (q : Int) ∧ q ≤ x.length ∧ av = .int .i64 ai ∧ waysF (j : Int) x = pre ++ wayR (j : Int) bi ai (x.drop q) ∧ Below W.heap.size W wq ∧ Blk wq G 79 (hubCs N fun v => hubOf (waysL 0 fs) (v : Int) (waysL 0 (fs.take j) ++ pre))) (fun _ i _ => x.length - (intOf i).toNat)
      case atStart => exact ⟨0, x.getD (x.length - 2) 0, x.getD (x.length - 1) 0, [], rfl, by omega, by rw [hgd.out], rfl, hbel, by simpa using hb⟩
      case round =>
        obtain ⟨q, bi, ai, pre, rfl, hq, rfl, hpre, hbelq, hbq⟩ := hrel
        clear hb hcr hbl2 hILr
        by_cases hlq : q < x.length
        · obtain ⟨b9, o9, e9, hl9, hc9⟩ := hIL.at_ q hlq
          obtain ⟨rfl, rfl⟩ : b2 = b9 ∧ off2 = o9 := by simpa using e9
          have hcq := (hbelq.cell (p := ⟨b2, off2 + q, none⟩) hl9).trans hc9
          have hl9q : b2 < wr.heap.size := Nat.lt_of_lt_of_le hl9 hbelq.size
          rw [List.drop_eq_getElem_cons hlq, wayR] at hpre
          generalize hte : x[q] = tt at *
          have hwm : (⟨ai, tt, (j : Int), bi⟩ : Way) ∈ waysL 0 fs := by
            rw [hsp]
            simp only [Nat.zero_add, hpre]
            simp
          obtain ⟨d, hd⟩ := ok.prev hwm
          have hra := hap _ hd
          simp only at hra
          obtain ⟨av, rfl⟩ := Int.eq_ofNat_of_zero_le hra.1
          have hav : av < N := by omega
          have hia := (hi _ hwm).1
          have hib := (hi _ hwm).2
          simp only at hia hib
          have hsn := hubOf_snoc (waysL 0 fs) (waysL 0 (fs.take j) ++ pre) ⟨(av : Int), tt, (j : Int), bi⟩
          have hcnt : (hubOf (waysL 0 fs) (av : Int) (waysL 0 (fs.take j) ++ pre)).2 < 1099511627776 := by
            rw [hubOf_count]
            refine Nat.lt_of_le_of_lt (List.length_filter_le _ _) (Nat.lt_of_le_of_lt ?_ hlen)
            rw [hsp]
            simp only [Nat.zero_add, hpre, List.length_append]
            omega
          have hC0 := hbq.cell (av * 2)
          have hC1 := hbq.cell (av * 2 + 1)
          rw [hubCs_0 _ _ av hav] at hC0
          rw [hubCs_1 _ _ av hav] at hC1
          have hGl := hbq.lt
          have hF0 := hbq.frozen (av * 2)
          have hF1 := hbq.frozen (av * 2 + 1)
          have hMr : GoM wr B (waysL 0 fs) := hM.below hbelq
          have END : ∀ (W3 : World) (ti : Int), Below wr.heap.size wr W3 → ti = (hubStep (waysL 0 fs) (hubOf (waysL 0 fs) (av : Int) (waysL 0 (fs.take j) ++ pre)) ⟨(av : Int), tt, (j : Int), bi⟩).1 → Blk ((W3.setCell ⟨G, av * 2, none⟩ (.int .i64 ti)).setCell ⟨G, av * 2 + 1, none⟩ (.int .i64 (((hubOf (waysL 0 fs) (av : Int) (waysL 0 (fs.take j) ++ pre)).2 : Int) + 1))) G 79 (hubCs N fun v => hubOf (waysL 0 fs) (v : Int) (waysL 0 (fs.take j) ++ (pre ++ [⟨(av : Int), tt, (j : Int), bi⟩]))) := fun W3 ti hb3 hti => by
            have h1 := ((hbq.below hb3).set (av * 2) (.int .i64 ti)).set (av * 2 + 1) (.int .i64 (((hubOf (waysL 0 fs) (av : Int) (waysL 0 (fs.take j) ++ pre)).2 : Int) + 1))
            rw [show (((hubOf (waysL 0 fs) (av : Int) (waysL 0 (fs.take j) ++ pre)).2 : Int) + 1) = (((hubOf (waysL 0 fs) (av : Int) (waysL 0 (fs.take j) ++ pre)).2 + 1 : Nat) : Int) by omega] at h1 ⊢
            rw [hubCs_both _ _ av hav] at h1
            have e : (fun v : Nat => if v = av then (ti, (hubOf (waysL 0 fs) (av : Int) (waysL 0 (fs.take j) ++ pre)).2 + 1) else hubOf (waysL 0 fs) (v : Int) (waysL 0 (fs.take j) ++ pre)) = fun v : Nat => hubOf (waysL 0 fs) (v : Int) (waysL 0 (fs.take j) ++ (pre ++ [⟨(av : Int), tt, (j : Int), bi⟩])) := by
              funext v
              rw [← List.append_assoc, hsn]
              by_cases e : v = av
              · subst e; rw [if_pos rfl, if_pos rfl, hti]; rfl
              · rw [if_neg e, if_neg (by simp only; omega)]
            rw [← e]
            exact h1
          have END2 : ∀ (W3 : World), Below wr.heap.size wr W3 → (hubOf (waysL 0 fs) (av : Int) (waysL 0 (fs.take j) ++ pre)).1 = (hubStep (waysL 0 fs) (hubOf (waysL 0 fs) (av : Int) (waysL 0 (fs.take j) ++ pre)) ⟨(av : Int), tt, (j : Int), bi⟩).1 → Blk (W3.setCell ⟨G, av * 2 + 1, none⟩ (.int .i64 (((hubOf (waysL 0 fs) (av : Int) (waysL 0 (fs.take j) ++ pre)).2 : Int) + 1))) G 79 (hubCs N fun v => hubOf (waysL 0 fs) (v : Int) (waysL 0 (fs.take j) ++ (pre ++ [⟨(av : Int), tt, (j : Int), bi⟩]))) := fun W3 hb3 hti => by
            have h1 := (hbq.below hb3).set (av * 2 + 1) (.int .i64 (((hubOf (waysL 0 fs) (av : Int) (waysL 0 (fs.take j) ++ pre)).2 : Int) + 1))
            rw [show (((hubOf (waysL 0 fs) (av : Int) (waysL 0 (fs.take j) ++ pre)).2 : Int) + 1) = (((hubOf (waysL 0 fs) (av : Int) (waysL 0 (fs.take j) ++ pre)).2 + 1 : Nat) : Int) by omega] at h1 ⊢
            rw [hubCs_set1 _ _ av hav] at h1
            have e : (fun v : Nat => if v = av then ((hubOf (waysL 0 fs) (v : Int) (waysL 0 (fs.take j) ++ pre)).1, (hubOf (waysL 0 fs) (av : Int) (waysL 0 (fs.take j) ++ pre)).2 + 1) else hubOf (waysL 0 fs) (v : Int) (waysL 0 (fs.take j) ++ pre)) = fun v : Nat => hubOf (waysL 0 fs) (v : Int) (waysL 0 (fs.take j) ++ (pre ++ [⟨(av : Int), tt, (j : Int), bi⟩])) := by
              funext v
              rw [← List.append_assoc, hsn]
              by_cases e : v = av
              · subst e; rw [if_pos rfl, if_pos rfl, hti]; rfl
              · rw [if_neg e, if_neg (by simp only; omega)]
            rw [← e]
            exact h1
          replace END := Lib.hid END
          replace END2 := Lib.hid END2
          have hneg := faceOf_neg ok.long tt (av : Int)
          have hK := Lib.hid hbq
          clear hbq hd hsn
          generalize hubOf (waysL 0 fs) (av : Int) (waysL 0 (fs.take j) ++ pre) = ho at *
          obtain ⟨ht, hn⟩ := ho
          simp only at hC0 hC1 hcnt
          have hpre9 := Lib.hid (show waysF (j : Int) x = (pre ++ [⟨(av : Int), tt, (j : Int), bi⟩]) ++ wayR (j : Int) (av : Int) tt (x.drop (q + 1)) by rw [hpre]; simp)
          clear hpre hK
          have av0 : (0 : Int) ≤ (av : Int) := by omega
          have av1 : (av : Int) < (N : Int) := by omega
          have q0 : (0 : Int) ≤ (q : Int) := by omega
          have q1 : (q : Int) < (x.length : Int) := by omega
          have hGW : W.heap.size ≤ G := by omega
          have RND : ∀ (W3 : World), Below wr.heap.size wr W3 → Below W.heap.size W W3 := fun W3 h => hbelq.trans (h.mono hbelq.size)
          replace RND := Lib.hid RND
          by_cases e0 : hn = 0
          · subst e0
            have hE := Lib.hid (END.out wr tt (Below.refl _ _) (by simp [hubStep]))
            clear END END2
            go_wp2
            go_roundw
            case rel => exact ⟨q + 1, _, tt, pre ++ [⟨(av : Int), tt, (j : Int), bi⟩], by go_num, by omega, rfl, hpre9.out, bel_set (bel_set (RND.out wr (Below.refl _ _)) hGW _) hGW _, by simpa using hE.out⟩
            case measure => simp [intOf]; omega
          · have hface : faceOf (waysL 0 fs) tt (av : Int) = -1 ∨ faceOf (waysL 0 fs) tt (av : Int) ≠ -1 := by omega
            have hn0 : ((hn : Int) == 0) = false := by simp; omega
            rcases hface with hfa | hfa
            · have hlk := hneg.1 hfa
              have hti : tt = (hubStep (waysL 0 fs) (ht, hn) ⟨(av : Int), tt, (j : Int), bi⟩).1 := by simp [hubStep, hlk]
              replace hti := Lib.hid hti
              clear END2 hneg
              go_wp2_with (first | (go_at_call 60; (refine (face_any wr B _ hMr tt (av : Int) hib hia).mono ?_); rintro e W3 ⟨rfl, hb3⟩; have hE := Lib.hid (END.out W3 tt hb3 hti.out); have hb9 := Lib.hid (RND.out W3 hb3); have hG3 := Nat.lt_of_lt_of_le hGl hb3.size; have hF3 := (hb3.frozen (p := ⟨G, av * 2, none⟩) hGl).trans hF0; have hF4 := (hb3.frozen (p := ⟨G, av * 2 + 1, none⟩) hGl).trans hF1; have hC3 := (hb3.cell (p := ⟨G, av * 2, none⟩) hGl).trans hC0; have hC4 := (hb3.cell (p := ⟨G, av * 2 + 1, none⟩) hGl).trans hC1; rw [hfa]) | fail)
              go_roundw
              case rel => exact ⟨q + 1, _, tt, pre ++ [⟨(av : Int), tt, (j : Int), bi⟩], by go_num, by omega, rfl, hpre9.out, bel_set (bel_set hb9.out hGW _) hGW _, hE.out⟩
              case measure => simp [intOf]; omega
            · have hlk : look (waysL 0 fs) tt (av : Int) ≠ none := fun h => hfa (hneg.2 h)
              have hti : ht = (hubStep (waysL 0 fs) (ht, hn) ⟨(av : Int), tt, (j : Int), bi⟩).1 := by simp [hubStep, hlk, e0]
              replace hti := Lib.hid hti
              clear END hneg
              go_wp2_with (first | (go_at_call 60; (refine (face_any wr B _ hMr tt (av : Int) hib hia).mono ?_); rintro e W3 ⟨rfl, hb3⟩; have hE := Lib.hid (END2.out W3 hb3 hti.out); have hb9 := Lib.hid (RND.out W3 hb3); have hG3 := Nat.lt_of_lt_of_le hGl hb3.size; have hF4 := (hb3.frozen (p := ⟨G, av * 2 + 1, none⟩) hGl).trans hF1; have hC4 := (hb3.cell (p := ⟨G, av * 2 + 1, none⟩) hGl).trans hC1; have hfb : (faceOf (waysL 0 fs) tt (av : Int) == -1) = false := (by simpa using hfa); clear hfa; generalize faceOf (waysL 0 fs) tt (av : Int) = fa at *) | fail)
              go_roundw
              case rel => exact ⟨q + 1, _, tt, pre ++ [⟨(av : Int), tt, (j : Int), bi⟩], by go_num, by omega, rfl, hpre9.out, bel_set hb9.out hGW _, hE.out⟩
              case measure => simp [intOf]; omega
        · obtain rfl : q = x.length := by omega
          have hpre2 : waysF (j : Int) x = pre := by simpa [wayR] using hpre
          subst hpre2
          go_wp2
          go_roundw
          case rel => exact ⟨j + 1, by go_num, by omega, hbelq, by rw [htk]; exact hbq⟩
          case measure => simp [intOf]; omega
    · obtain rfl : j = fs.length := by omega
      go_wp2
      go_ret
      exact ⟨G, rfl, hbel, by simpa using hb, by omega⟩
end Go.Proofs.Ytbehobojgeganaa