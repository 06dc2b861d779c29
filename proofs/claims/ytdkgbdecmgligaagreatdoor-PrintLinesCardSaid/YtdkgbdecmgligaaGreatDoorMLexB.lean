/- Decimal digits, and the document's own Show. -/
import Derived.Test.YtdkgbdecmgligaaGreatDoorMLexA
import Derived.Maps.AppendAt
namespace Go.Proofs.YtdkgbdecmgligaaGreatDoor
open Go.RowKit
set_option linter.unusedVariables false
set_option linter.unusedSimpArgs false
set_option maxRecDepth 100000
/-- A number's digits, the least one first. -/
def digR (m : Nat) : List Nat := if h : m < 10 then [m] else (m % 10) :: digR (m / 10)
termination_by m
theorem digR_one {m : Nat} (h : m < 10) : digR m = [m] := by rw [digR, dif_pos h]
theorem digR_more {m : Nat} (h : ¬ m < 10) : digR m = (m % 10) :: digR (m / 10) := by rw [digR, dif_neg h]
def u8s (l : List Nat) : List Value := l.map fun (c : Nat) => .int .u8 (c : Int)
theorem u8s_app (l : List Nat) (c : Nat) : u8s l ++ [.int .u8 (c : Int)] = u8s (l ++ [c]) := by unfold u8s; simp
theorem u8s_len (l : List Nat) : (u8s l).length = l.length := by unfold u8s; simp
theorem info8 : (Tryz.prog.info? 5).map (fun i => (i.zero, i.size, i.bytes)) = some (some (.int .u8 0), 1, 1) := by kernel_rfl
theorem rem10 (M : Nat) : Int.tmod (-(M : Int)) 10 = -((M % 10 : Nat) : Int) := by
  rw [Int.neg_tmod]
  rfl
theorem quo10 (M : Nat) : Int.tdiv (-(M : Int)) 10 = -((M / 10 : Nat) : Int) := by
  rw [Int.neg_tdiv]
  rfl
/-- The digits' bytes, the least one first. -/
def dgB (m : Nat) : List Nat := (digR m).map fun c => 48 + c
def textOf (l : List Nat) : ByteArray := (l.map fun (n : Nat) => (n : Int)).foldl (fun r n => r.push (UInt8.ofNat n.toNat)) ByteArray.empty
def showL (V : Int) : List Nat := (if V < 0 then [45] else []) ++ (dgB V.natAbs).reverse
theorem digR_len : ∀ k m, m < 10 ^ (k + 1) → (digR m).length ≤ k + 1
  | 0, m, h => by rw [digR_one (by simpa using h)]; simp
  | k + 1, m, h => by
    by_cases q : m < 10
    · rw [digR_one q]; simp
    · rw [digR_more q]
      have := digR_len k (m / 10) (by rw [Nat.pow_succ] at h; omega)
      simp only [List.length_cons]
      omega
theorem own_bytes {W : World} {base n : Nat} {v : Value} {l : List Nat} (h : W.ownsRow base 5 1 v n (u8s l)) (hl : l.length = n) (hn : 0 < n) :
    ∃ g cap, v = .slice (some ⟨g, 0, none⟩) n cap ∧ base ≤ g ∧ g < W.heap.size ∧ n ≤ cap ∧ cap ≤ maxLen ∧ ∀ k (hk : k < l.length), W.cell? ⟨g, k, none⟩ = some (.int .u8 (l[k] : Int)) := by
  have h0 := h
  obtain ⟨_, ⟨rfl, e⟩ | ⟨g, cap, cur, rfl, hb, hg, hnc, hcm, hcs, htake⟩⟩ := h
  · omega
  · refine ⟨g, cap, rfl, hb, (h0.lt g rfl).2, hnc, hcm, fun k hk => ?_⟩
    have c0 := h0.cellAt k (by omega)
    rw [show (u8s l)[k]? = some (.int .u8 (l[k] : Int)) by unfold u8s; simp [hk]] at c0
    simpa using c0
theorem conv_text (a : Act) (o : Oper) (x : Operand) (w : World) (ho : o.op = .convert 57 9 x) (g n cap : Nat) (l : List Nat) (hx : a.eval x = .slice (some ⟨g, 0, none⟩) n cap) (hl : l.length = n) (hc : ∀ k (hk : k < l.length), w.cell? ⟨g, k, none⟩ = some (.int .u8 (l[k] : Int))) :
    (execOp a.eval o).run Tryz.prog w = .ok (.value (.string (textOf l))) w := by
  have hcells : (loadCells ⟨g, 0, none⟩ n).run Tryz.prog w = .ok ((l.map fun (n : Nat) => (n : Int)).map (Value.int .u8)).toArray w := by
    have k := run_loadCells_list (P := Tryz.prog) (w := w) ⟨g, 0, none⟩ (u8s l) (fun j v hv => by
      have hj : j < l.length := by
        by_cases q : j < l.length
        · exact q
        · rw [List.getElem?_eq_none (by rw [u8s_len]; omega)] at hv; cases hv
      have e : (u8s l)[j]? = some (.int .u8 (l[j] : Int)) := by unfold u8s; simp [hj]
      rw [e] at hv
      injection hv with hv
      rw [← hv]
      have ea : (⟨g, 0, none⟩ : Addr).add j = ⟨g, j, none⟩ := by
        unfold Addr.add
        split <;> simp_all
      rw [ea]
      exact hc j hj)
    rw [u8s_len, hl] at k
    rw [k]
    unfold u8s
    simp
  unfold execOp
  rw [ho]
  simp only [hx, Sem.run_bind, run_convert_bytes_string w 57 9 5 _ _ _ Tryz.underlying57 Tryz.underlying5 Tryz.underlying9, run_bytesToString w _ _ _ _ hcells, Result.andThen_ok, Sem.run_pure]
  rfl
set_option maxHeartbeats 2000000 in
theorem show_pos (V : Int) (M0 : Nat) (hM : M0 ≤ 9223372036854775808) (hV : -9223372036854775808 ≤ V ∧ V ≤ 9223372036854775807) (hv : V = (M0 : Int)) (hp : 0 < V) (R : Value) (hR : R = .string (textOf ((dgB M0).reverse))) : Gives Tryz.prog 67 #[.int .i64 V] (R) := by
  have HR := Lib.hid hR
  clear hR
  have h40 : (dgB M0).length ≤ 20 := by
    unfold dgB
    rw [List.length_map]
    exact digR_len 19 M0 (by omega)
  subst hv
  have hp2 : 0 < M0 := by omega
  have hng : decide ((M0 : Int) < 0) = false := by simp
  refine Gives.mk fun w => ?_
  obtain ⟨i0, hi0, hz0, hz1, hz2⟩ := info_parts info8
  go_enter Tryz.func67, Tryz.ntmps67
  go_wp2
  go_loopw [3, 4] (fun n d wr => ∃ (l : List Nat) (M : Nat), n = .int .i64 (-(M : Int)) ∧ M ≤ M0 ∧ l.length + (dgB M).length ≤ 20 ∧ Hid (dgB M0 = l ++ dgB M) ∧ wr.ownsRow w.heap.size 5 1 d l.length (u8s l) ∧ Below w.heap.size w wr) (fun n _ _ => (-(intOf n)).toNat)
  case atStart => exact ⟨[], M0, by simp, by omega, by simpa using h40, Lib.hid rfl, World.ownsRow_made _ _ _ (Nat.le_refl _) (by unfold maxLen; omega) rfl, bel_alloc (Below.refl _ _) _⟩
  case round =>
    obtain ⟨l, M, rfl, hMM, hlen, hdig, hown, hbel⟩ := hrel
    have r1 := rem10 M
    have r2 := quo10 M
    clear h40
    by_cases hM10 : M < 10
    · have hdl : dgB M = [48 + M % 10] := by unfold dgB; rw [digR_one hM10, Nat.mod_eq_of_lt hM10]; rfl
      have hfin := Lib.hid (show dgB M0 = l ++ [48 + M % 10] by rw [hdig.out, hdl])
      rw [hdl] at hlen
      simp only [List.length_cons, List.length_nil] at hlen
      have q0 : M / 10 = 0 := by omega
      rw [q0] at r2
      clear hdl hdig q0
      go_upto_region 8 with (at_builtin; refine wpList_append_own _ rfl _ _ 57 rfl w.heap.size 5 i0 _ 1 1 Tryz.underlying57 hi0 hz0 hz1 hz2 rfl (by decide) _ _ _ rfl (hown.alloc _) ⟨wr.heap.size, 0, none⟩ 1 1 [.int .u8 (((48 + M % 10 : Nat) : Int))] rfl rfl (cell_one_new _ _ _) (fun x hx => by simp at hx; subst hx; rfl) (by unfold maxLen; omega) (by omega) (by have := hbel.size; simp; omega) ?_; intro v' w3 hown' hgrow hnil)
      have hown2 : w3.ownsRow w.heap.size 5 1 v' (l ++ [48 + M % 10]).length (u8s (l ++ [48 + M % 10])) := by
        rw [u8s_app] at hown'
        simpa using hown'
      have hb2 : Below w.heap.size w w3 := (bel_alloc hbel _).grown hgrow (by have := hbel.size; simp; omega) (fun k hk => (hown.lt k hk).1)
      clear hown' hgrow hnil hown hbel
      generalize hl2 : l ++ [48 + M % 10] = l2 at *
      have hn2 : 0 < l2.length := by rw [← hl2]; simp
      have hlen2 : l2.length ≤ 20 := by rw [← hl2]; simp; omega
      clear hl2 hlen r1 r2
      obtain ⟨g1, cap1, rfl, hg1, hg1l, hc1, hc1m, hcell⟩ := own_bytes hown2 rfl hn2
      clear hown2
      have hcell := Lib.hid hcell
      go_wp2
      go_loopw [6, 5] (fun i o wx => ∃ t : Nat, i = .int .i64 ((t : Int) - 1) ∧ t ≤ l2.length ∧ wx.ownsRow w3.heap.size 5 1 o (l2.length - t) (u8s (l2.reverse.take (l2.length - t))) ∧ Below w3.heap.size w3 wx) (fun i _ _ => (intOf i + 1).toNat)
      case atStart => exact ⟨l2.length, rfl, Nat.le_refl _, by rw [Nat.sub_self, List.take_zero]; exact World.ownsRow_made _ _ _ (Nat.le_refl _) (by unfold maxLen; omega) rfl, bel_alloc (Below.refl _ _) _⟩
      case round =>
        obtain ⟨t, rfl, ht, hown, hb⟩ := hrel
        by_cases h0 : 0 < t
        · obtain ⟨k, rfl⟩ : ∃ k, t = k + 1 := ⟨t - 1, by omega⟩
          have hk : k < l2.length := by omega
          have cd : wr.cell? ⟨g1, k, none⟩ = some (.int .u8 (l2[k] : Int)) := (hb.cell (p := ⟨g1, k, none⟩) hg1l).trans (hcell.out k hk)
          have nx : u8s (l2.reverse.take (l2.length - (k + 1))) ++ [.int .u8 (l2[k] : Int)] = u8s (l2.reverse.take (l2.length - k)) := by
            rw [u8s_app]
            congr 1
            rw [show l2.length - k = (l2.length - (k + 1)) + 1 by omega, List.take_succ_eq_append_getElem (by simp; omega)]
            congr 2
            rw [List.getElem_reverse]
            congr 1
            omega
          have NX := Lib.hid nx
          clear nx
          have cd := cd
          generalize l2[k] = c at *
          have gl : g1 < wr.heap.size := Nat.lt_of_lt_of_le hg1l hb.size
          have k0 : (0 : Int) ≤ (k : Int) := by omega
          have k1 : (k : Int) < (l2.length : Int) := by omega
          go_wp2_with (at_builtin; refine wpList_append_own _ rfl _ _ 57 rfl w3.heap.size 5 i0 _ 1 1 Tryz.underlying57 hi0 hz0 hz1 hz2 rfl (by decide) _ _ _ rfl (hown.alloc _) ⟨wr.heap.size, 0, none⟩ 1 1 [.int .u8 ((c : Int))] rfl rfl (cell_one_new _ _ _) (fun x hx => by simp at hx; subst hx; rfl) (by unfold maxLen; omega) (by omega) (by have := hb.size; simp; omega) ?_; intro v' w4 hown' hgrow hnil)
          have hown2 : w4.ownsRow w3.heap.size 5 1 v' (l2.length - k) (u8s (l2.reverse.take (l2.length - k))) := by
            rw [NX.out, show l2.length - (k + 1) + 1 = l2.length - k by omega] at hown'
            exact hown'
          have hb2 : Below w3.heap.size w3 w4 := (bel_alloc hb _).grown hgrow (by have := hb.size; simp; omega) (fun k hk => (hown.lt k hk).1)
          go_roundw
          case rel => exact ⟨k, by go_num, by omega, hown2, hb2⟩
          case measure => simp [intOf] <;> omega
        · obtain rfl : t = 0 := by omega
          rw [Nat.sub_zero, List.take_of_length_le (by simp)] at hown
          obtain ⟨g2, cap2, rfl, _, hg2, hc2, hc2m, hcell2⟩ := own_bytes hown (by simp) hn2
          have hcell2 := Lib.hid hcell2
          have hrev : l2.reverse.length = l2.length := by simp
          have HV := Lib.hid hrev
          have fin := Lib.hid (show R = .string (textOf l2.reverse) by rw [HR.out, hfin.out])
          clear hown hrev
          go_wp2_with (refine wpList_val rfl _ _ (conv_text _ _ _ _ rfl g2 l2.length cap2 l2.reverse rfl HV.out hcell2.out) ?_)
          go_ret
          exact ⟨by rw [fin.out]; rfl, bel_trans (a := w) (w := w3) hb2 hb⟩
    · have hdl : dgB M = (48 + M % 10) :: dgB (M / 10) := by unfold dgB; rw [digR_more hM10]; rfl
      have hd2 := Lib.hid (show dgB M0 = (l ++ [48 + M % 10]) ++ dgB (M / 10) by rw [hdig.out, hdl]; simp)
      rw [hdl] at hlen
      simp only [List.length_cons] at hlen
      have q0 : ((-((M / 10 : Nat) : Int)) == 0) = false := by simp; omega
      clear hdl hdig
      go_wp2_with (at_builtin; refine wpList_append_own _ rfl _ _ 57 rfl w.heap.size 5 i0 _ 1 1 Tryz.underlying57 hi0 hz0 hz1 hz2 rfl (by decide) _ _ _ rfl (hown.alloc _) ⟨wr.heap.size, 0, none⟩ 1 1 [.int .u8 (((48 + M % 10 : Nat) : Int))] rfl rfl (cell_one_new _ _ _) (fun x hx => by simp at hx; subst hx; rfl) (by unfold maxLen; omega) (by omega) (by have := hbel.size; simp; omega) ?_; intro v' w3 hown' hgrow hnil)
      have hown2 : w3.ownsRow w.heap.size 5 1 v' (l ++ [48 + M % 10]).length (u8s (l ++ [48 + M % 10])) := by
        rw [u8s_app] at hown'
        simpa using hown'
      have hb2 : Below w.heap.size w w3 := (bel_alloc hbel _).grown hgrow (by have := hbel.size; simp; omega) (fun k hk => (hown.lt k hk).1)
      clear hown' hgrow hnil hown hbel
      go_roundw
      case rel => exact ⟨l ++ [48 + M % 10], M / 10, rfl, by omega, by simp; omega, hd2, hown2, hb2⟩
      case measure => simp [intOf]; omega
set_option maxHeartbeats 2000000 in
theorem show_zero (V : Int) (M0 : Nat) (hM : M0 ≤ 9223372036854775808) (hV : -9223372036854775808 ≤ V ∧ V ≤ 9223372036854775807) (hv : V = 0) (hp : M0 = 0) (R : Value) (hR : R = .string (textOf ((dgB 0).reverse))) : Gives Tryz.prog 67 #[.int .i64 V] (R) := by
  have HR := Lib.hid hR
  clear hR
  have h40 : (dgB M0).length ≤ 20 := by
    unfold dgB
    rw [List.length_map]
    exact digR_len 19 M0 (by omega)
  subst hv hp
  skip
  skip
  refine Gives.mk fun w => ?_
  obtain ⟨i0, hi0, hz0, hz1, hz2⟩ := info_parts info8
  go_enter Tryz.func67, Tryz.ntmps67
  go_wp2
  go_loopw [3, 4] (fun n d wr => ∃ (l : List Nat) (M : Nat), n = .int .i64 (-(M : Int)) ∧ M ≤ 0 ∧ l.length + (dgB M).length ≤ 20 ∧ Hid (dgB 0 = l ++ dgB M) ∧ wr.ownsRow w.heap.size 5 1 d l.length (u8s l) ∧ Below w.heap.size w wr) (fun n _ _ => (-(intOf n)).toNat)
  case atStart => exact ⟨[], 0, by simp, by omega, by simpa using h40, Lib.hid rfl, World.ownsRow_made _ _ _ (Nat.le_refl _) (by unfold maxLen; omega) rfl, bel_alloc (Below.refl _ _) _⟩
  case round =>
    obtain ⟨l, M, rfl, hMM, hlen, hdig, hown, hbel⟩ := hrel
    have r1 := rem10 M
    have r2 := quo10 M
    clear h40
    by_cases hM10 : M < 10
    · have hdl : dgB M = [48 + M % 10] := by unfold dgB; rw [digR_one hM10, Nat.mod_eq_of_lt hM10]; rfl
      have hfin := Lib.hid (show dgB 0 = l ++ [48 + M % 10] by rw [hdig.out, hdl])
      rw [hdl] at hlen
      simp only [List.length_cons, List.length_nil] at hlen
      have q0 : M / 10 = 0 := by omega
      rw [q0] at r2
      clear hdl hdig q0
      go_upto_region 8 with (at_builtin; refine wpList_append_own _ rfl _ _ 57 rfl w.heap.size 5 i0 _ 1 1 Tryz.underlying57 hi0 hz0 hz1 hz2 rfl (by decide) _ _ _ rfl (hown.alloc _) ⟨wr.heap.size, 0, none⟩ 1 1 [.int .u8 (((48 + M % 10 : Nat) : Int))] rfl rfl (cell_one_new _ _ _) (fun x hx => by simp at hx; subst hx; rfl) (by unfold maxLen; omega) (by omega) (by have := hbel.size; simp; omega) ?_; intro v' w3 hown' hgrow hnil)
      have hown2 : w3.ownsRow w.heap.size 5 1 v' (l ++ [48 + M % 10]).length (u8s (l ++ [48 + M % 10])) := by
        rw [u8s_app] at hown'
        simpa using hown'
      have hb2 : Below w.heap.size w w3 := (bel_alloc hbel _).grown hgrow (by have := hbel.size; simp; omega) (fun k hk => (hown.lt k hk).1)
      clear hown' hgrow hnil hown hbel
      generalize hl2 : l ++ [48 + M % 10] = l2 at *
      have hn2 : 0 < l2.length := by rw [← hl2]; simp
      have hlen2 : l2.length ≤ 20 := by rw [← hl2]; simp; omega
      clear hl2 hlen r1 r2
      obtain ⟨g1, cap1, rfl, hg1, hg1l, hc1, hc1m, hcell⟩ := own_bytes hown2 rfl hn2
      clear hown2
      have hcell := Lib.hid hcell
      go_wp2
      go_loopw [6, 5] (fun i o wx => ∃ t : Nat, i = .int .i64 ((t : Int) - 1) ∧ t ≤ l2.length ∧ wx.ownsRow w3.heap.size 5 1 o (l2.length - t) (u8s (l2.reverse.take (l2.length - t))) ∧ Below w3.heap.size w3 wx) (fun i _ _ => (intOf i + 1).toNat)
      case atStart => exact ⟨l2.length, rfl, Nat.le_refl _, by rw [Nat.sub_self, List.take_zero]; exact World.ownsRow_made _ _ _ (Nat.le_refl _) (by unfold maxLen; omega) rfl, bel_alloc (Below.refl _ _) _⟩
      case round =>
        obtain ⟨t, rfl, ht, hown, hb⟩ := hrel
        by_cases h0 : 0 < t
        · obtain ⟨k, rfl⟩ : ∃ k, t = k + 1 := ⟨t - 1, by omega⟩
          have hk : k < l2.length := by omega
          have cd : wr.cell? ⟨g1, k, none⟩ = some (.int .u8 (l2[k] : Int)) := (hb.cell (p := ⟨g1, k, none⟩) hg1l).trans (hcell.out k hk)
          have nx : u8s (l2.reverse.take (l2.length - (k + 1))) ++ [.int .u8 (l2[k] : Int)] = u8s (l2.reverse.take (l2.length - k)) := by
            rw [u8s_app]
            congr 1
            rw [show l2.length - k = (l2.length - (k + 1)) + 1 by omega, List.take_succ_eq_append_getElem (by simp; omega)]
            congr 2
            rw [List.getElem_reverse]
            congr 1
            omega
          have NX := Lib.hid nx
          clear nx
          have cd := cd
          generalize l2[k] = c at *
          have gl : g1 < wr.heap.size := Nat.lt_of_lt_of_le hg1l hb.size
          have k0 : (0 : Int) ≤ (k : Int) := by omega
          have k1 : (k : Int) < (l2.length : Int) := by omega
          go_wp2_with (at_builtin; refine wpList_append_own _ rfl _ _ 57 rfl w3.heap.size 5 i0 _ 1 1 Tryz.underlying57 hi0 hz0 hz1 hz2 rfl (by decide) _ _ _ rfl (hown.alloc _) ⟨wr.heap.size, 0, none⟩ 1 1 [.int .u8 ((c : Int))] rfl rfl (cell_one_new _ _ _) (fun x hx => by simp at hx; subst hx; rfl) (by unfold maxLen; omega) (by omega) (by have := hb.size; simp; omega) ?_; intro v' w4 hown' hgrow hnil)
          have hown2 : w4.ownsRow w3.heap.size 5 1 v' (l2.length - k) (u8s (l2.reverse.take (l2.length - k))) := by
            rw [NX.out, show l2.length - (k + 1) + 1 = l2.length - k by omega] at hown'
            exact hown'
          have hb2 : Below w3.heap.size w3 w4 := (bel_alloc hb _).grown hgrow (by have := hb.size; simp; omega) (fun k hk => (hown.lt k hk).1)
          go_roundw
          case rel => exact ⟨k, by go_num, by omega, hown2, hb2⟩
          case measure => simp [intOf] <;> omega
        · obtain rfl : t = 0 := by omega
          rw [Nat.sub_zero, List.take_of_length_le (by simp)] at hown
          obtain ⟨g2, cap2, rfl, _, hg2, hc2, hc2m, hcell2⟩ := own_bytes hown (by simp) hn2
          have hcell2 := Lib.hid hcell2
          have hrev : l2.reverse.length = l2.length := by simp
          have HV := Lib.hid hrev
          have fin := Lib.hid (show R = .string (textOf l2.reverse) by rw [HR.out, hfin.out])
          clear hown hrev
          go_wp2_with (refine wpList_val rfl _ _ (conv_text _ _ _ _ rfl g2 l2.length cap2 l2.reverse rfl HV.out hcell2.out) ?_)
          go_ret
          exact ⟨by rw [fin.out]; rfl, bel_trans (a := w) (w := w3) hb2 hb⟩
    · exact absurd (show M < 10 by omega) hM10
set_option maxHeartbeats 2000000 in
theorem show_neg (V : Int) (M0 : Nat) (hM : M0 ≤ 9223372036854775808) (hV : -9223372036854775808 ≤ V ∧ V ≤ 9223372036854775807) (hv : V = -(M0 : Int)) (hp : V < 0) (R : Value) (hR : R = .string (textOf ([45] ++ (dgB M0).reverse))) : Gives Tryz.prog 67 #[.int .i64 V] (R) := by
  have HR := Lib.hid hR
  clear hR
  have h40 : (dgB M0).length ≤ 20 := by
    unfold dgB
    rw [List.length_map]
    exact digR_len 19 M0 (by omega)
  subst hv
  have hp2 : 0 < M0 := by omega
  skip
  refine Gives.mk fun w => ?_
  obtain ⟨i0, hi0, hz0, hz1, hz2⟩ := info_parts info8
  go_enter Tryz.func67, Tryz.ntmps67
  go_wp2
  go_loopw [3, 4] (fun n d wr => ∃ (l : List Nat) (M : Nat), n = .int .i64 (-(M : Int)) ∧ M ≤ M0 ∧ l.length + (dgB M).length ≤ 20 ∧ Hid (dgB M0 = l ++ dgB M) ∧ wr.ownsRow w.heap.size 5 1 d l.length (u8s l) ∧ Below w.heap.size w wr) (fun n _ _ => (-(intOf n)).toNat)
  case atStart => exact ⟨[], M0, by simp, by omega, by simpa using h40, Lib.hid rfl, World.ownsRow_made _ _ _ (Nat.le_refl _) (by unfold maxLen; omega) rfl, bel_alloc (Below.refl _ _) _⟩
  case round =>
    obtain ⟨l, M, rfl, hMM, hlen, hdig, hown, hbel⟩ := hrel
    have r1 := rem10 M
    have r2 := quo10 M
    clear h40
    by_cases hM10 : M < 10
    · have hdl : dgB M = [48 + M % 10] := by unfold dgB; rw [digR_one hM10, Nat.mod_eq_of_lt hM10]; rfl
      have hfin := Lib.hid (show dgB M0 = l ++ [48 + M % 10] by rw [hdig.out, hdl])
      rw [hdl] at hlen
      simp only [List.length_cons, List.length_nil] at hlen
      have q0 : M / 10 = 0 := by omega
      rw [q0] at r2
      clear hdl hdig q0
      go_upto_region 8 with (at_builtin; refine wpList_append_own _ rfl _ _ 57 rfl w.heap.size 5 i0 _ 1 1 Tryz.underlying57 hi0 hz0 hz1 hz2 rfl (by decide) _ _ _ rfl (hown.alloc _) ⟨wr.heap.size, 0, none⟩ 1 1 [.int .u8 (((48 + M % 10 : Nat) : Int))] rfl rfl (cell_one_new _ _ _) (fun x hx => by simp at hx; subst hx; rfl) (by unfold maxLen; omega) (by omega) (by have := hbel.size; simp; omega) ?_; intro v' w3 hown' hgrow hnil)
      have hown2 : w3.ownsRow w.heap.size 5 1 v' (l ++ [48 + M % 10]).length (u8s (l ++ [48 + M % 10])) := by
        rw [u8s_app] at hown'
        simpa using hown'
      have hb2 : Below w.heap.size w w3 := (bel_alloc hbel _).grown hgrow (by have := hbel.size; simp; omega) (fun k hk => (hown.lt k hk).1)
      clear hown' hgrow hnil hown hbel
      generalize hl2 : l ++ [48 + M % 10] = l2 at *
      have hn2 : 0 < l2.length := by rw [← hl2]; simp
      have hlen2 : l2.length ≤ 20 := by rw [← hl2]; simp; omega
      clear hl2 hlen r1 r2
      go_upto_region 10 with (at_builtin; refine wpList_append_own _ rfl _ _ 57 rfl w.heap.size 5 i0 _ 1 1 Tryz.underlying57 hi0 hz0 hz1 hz2 rfl (by decide) _ _ _ rfl (hown2.alloc _) ⟨w3.heap.size, 0, none⟩ 1 1 [.int .u8 (45)] rfl rfl (cell_one_new _ _ _) (fun x hx => by simp at hx; subst hx; rfl) (by unfold maxLen; omega) (by omega) (by have := hb2.size; simp; omega) ?_; intro v' w5 hown' hgrow hnil)
      have hown4 : w5.ownsRow w.heap.size 5 1 v' (l2 ++ [45]).length (u8s (l2 ++ [45])) := by
        have e45 : ([Value.int .u8 45] : List Value) = [Value.int .u8 ((45 : Nat) : Int)] := rfl
        rw [e45, u8s_app] at hown'
        simpa using hown'
      have hb4 : Below w.heap.size w w5 := (bel_alloc hb2 _).grown hgrow (by have := hb2.size; simp; omega) (fun k hk => (hown2.lt k hk).1)
      have hfin4 := Lib.hid (show R = .string (textOf (l2 ++ [45]).reverse) by rw [HR.out, hfin.out]; simp)
      clear hown' hgrow hnil hown2 hb2 hfin
      have hn4 : 0 < (l2 ++ [45]).length := by simp
      have hlen4 : (l2 ++ [45]).length ≤ 21 := by simp; omega
      generalize l2 ++ [45] = l4 at *
      clear hn2 hlen2
      obtain ⟨g1, cap1, rfl, hg1, hg1l, hc1, hc1m, hcell⟩ := own_bytes hown4 rfl hn4
      clear hown4
      have hcell := Lib.hid hcell
      go_wp2
      go_loopw [6, 5] (fun i o wx => ∃ t : Nat, i = .int .i64 ((t : Int) - 1) ∧ t ≤ l4.length ∧ wx.ownsRow w5.heap.size 5 1 o (l4.length - t) (u8s (l4.reverse.take (l4.length - t))) ∧ Below w5.heap.size w5 wx) (fun i _ _ => (intOf i + 1).toNat)
      case atStart => exact ⟨l4.length, rfl, Nat.le_refl _, by rw [Nat.sub_self, List.take_zero]; exact World.ownsRow_made _ _ _ (Nat.le_refl _) (by unfold maxLen; omega) rfl, bel_alloc (Below.refl _ _) _⟩
      case round =>
        obtain ⟨t, rfl, ht, hown, hb⟩ := hrel
        by_cases h0 : 0 < t
        · obtain ⟨k, rfl⟩ : ∃ k, t = k + 1 := ⟨t - 1, by omega⟩
          have hk : k < l4.length := by omega
          have cd : wr.cell? ⟨g1, k, none⟩ = some (.int .u8 (l4[k] : Int)) := (hb.cell (p := ⟨g1, k, none⟩) hg1l).trans (hcell.out k hk)
          have nx : u8s (l4.reverse.take (l4.length - (k + 1))) ++ [.int .u8 (l4[k] : Int)] = u8s (l4.reverse.take (l4.length - k)) := by
            rw [u8s_app]
            congr 1
            rw [show l4.length - k = (l4.length - (k + 1)) + 1 by omega, List.take_succ_eq_append_getElem (by simp; omega)]
            congr 2
            rw [List.getElem_reverse]
            congr 1
            omega
          have NX := Lib.hid nx
          clear nx
          have cd := cd
          generalize l4[k] = c at *
          have gl : g1 < wr.heap.size := Nat.lt_of_lt_of_le hg1l hb.size
          have k0 : (0 : Int) ≤ (k : Int) := by omega
          have k1 : (k : Int) < (l4.length : Int) := by omega
          go_wp2_with (at_builtin; refine wpList_append_own _ rfl _ _ 57 rfl w5.heap.size 5 i0 _ 1 1 Tryz.underlying57 hi0 hz0 hz1 hz2 rfl (by decide) _ _ _ rfl (hown.alloc _) ⟨wr.heap.size, 0, none⟩ 1 1 [.int .u8 ((c : Int))] rfl rfl (cell_one_new _ _ _) (fun x hx => by simp at hx; subst hx; rfl) (by unfold maxLen; omega) (by omega) (by have := hb.size; simp; omega) ?_; intro v' w4 hown' hgrow hnil)
          have hown2 : w4.ownsRow w5.heap.size 5 1 v' (l4.length - k) (u8s (l4.reverse.take (l4.length - k))) := by
            rw [NX.out, show l4.length - (k + 1) + 1 = l4.length - k by omega] at hown'
            exact hown'
          have hb2 : Below w5.heap.size w5 w4 := (bel_alloc hb _).grown hgrow (by have := hb.size; simp; omega) (fun k hk => (hown.lt k hk).1)
          go_roundw
          case rel => exact ⟨k, by go_num, by omega, hown2, hb2⟩
          case measure => simp [intOf] <;> omega
        · obtain rfl : t = 0 := by omega
          rw [Nat.sub_zero, List.take_of_length_le (by simp)] at hown
          obtain ⟨g2, cap2, rfl, _, hg2, hc2, hc2m, hcell2⟩ := own_bytes hown (by simp) hn4
          have hcell4 := Lib.hid hcell2
          have hrev : l4.reverse.length = l4.length := by simp
          have HV := Lib.hid hrev
          have fin := Lib.hid (hfin4.out)
          clear hown hrev
          go_wp2_with (refine wpList_val rfl _ _ (conv_text _ _ _ _ rfl g2 l4.length cap2 l4.reverse rfl HV.out hcell4.out) ?_)
          go_ret
          exact ⟨by rw [fin.out]; rfl, bel_trans (a := w) (w := w5) hb4 hb⟩
    · have hdl : dgB M = (48 + M % 10) :: dgB (M / 10) := by unfold dgB; rw [digR_more hM10]; rfl
      have hd2 := Lib.hid (show dgB M0 = (l ++ [48 + M % 10]) ++ dgB (M / 10) by rw [hdig.out, hdl]; simp)
      rw [hdl] at hlen
      simp only [List.length_cons] at hlen
      have q0 : ((-((M / 10 : Nat) : Int)) == 0) = false := by simp; omega
      clear hdl hdig
      go_wp2_with (at_builtin; refine wpList_append_own _ rfl _ _ 57 rfl w.heap.size 5 i0 _ 1 1 Tryz.underlying57 hi0 hz0 hz1 hz2 rfl (by decide) _ _ _ rfl (hown.alloc _) ⟨wr.heap.size, 0, none⟩ 1 1 [.int .u8 (((48 + M % 10 : Nat) : Int))] rfl rfl (cell_one_new _ _ _) (fun x hx => by simp at hx; subst hx; rfl) (by unfold maxLen; omega) (by omega) (by have := hbel.size; simp; omega) ?_; intro v' w3 hown' hgrow hnil)
      have hown2 : w3.ownsRow w.heap.size 5 1 v' (l ++ [48 + M % 10]).length (u8s (l ++ [48 + M % 10])) := by
        rw [u8s_app] at hown'
        simpa using hown'
      have hb2 : Below w.heap.size w w3 := (bel_alloc hbel _).grown hgrow (by have := hbel.size; simp; omega) (fun k hk => (hown.lt k hk).1)
      clear hown' hgrow hnil hown hbel
      go_roundw
      case rel => exact ⟨l ++ [48 + M % 10], M / 10, rfl, by omega, by simp; omega, hd2, hown2, hb2⟩
      case measure => simp [intOf]; omega
theorem rShow_any (V : Int) (hV : -9223372036854775808 ≤ V ∧ V ≤ 9223372036854775807) : Gives Tryz.prog 67 #[.int .i64 V] (.string (textOf (showL V))) := by
  unfold showL
  rcases Int.lt_trichotomy V 0 with h | h | h
  · rw [if_pos h]
    exact show_neg V V.natAbs (by omega) hV (by omega) h _ rfl
  · subst h
    rw [if_neg (by omega)]
    exact show_zero 0 0 (by omega) hV rfl rfl _ rfl
  · rw [if_neg (by omega)]
    exact show_pos V V.natAbs (by omega) hV (by omega) h _ rfl
theorem foldl_push : ∀ (l : List Int) (b : ByteArray), (l.foldl (fun r n => r.push (UInt8.ofNat n.toNat)) b).data.toList = b.data.toList ++ l.map fun n => UInt8.ofNat n.toNat
  | [], b => by simp
  | n :: l, b => by
    rw [List.foldl_cons, foldl_push l]
    simp [ByteArray.push]
theorem textOf_list (l : List Nat) : (textOf l).data.toList = l.map fun n => UInt8.ofNat n := by
  unfold textOf
  rw [foldl_push]
  simp [ByteArray.empty, ByteArray.emptyWithCapacity, Function.comp_def]
  rfl
theorem textOf_size (l : List Nat) : (textOf l).size = l.length := by
  have : (textOf l).data.toList.length = l.length := by rw [textOf_list]; simp
  simpa using this
theorem textOf_bt (l : List Nat) (k : Nat) (hk : k < l.length) (h : l[k] < 256) : bt (textOf l) k = l[k] := by
  have hs : k < (textOf l).size := by rw [textOf_size]; exact hk
  rw [← bt_at _ _ hs]
  have e : (textOf l).data.toList[k]? = some (UInt8.ofNat l[k]) := by rw [textOf_list]; simp [hk]
  have e2 : (textOf l).data[k]'(by simpa using hs) = UInt8.ofNat l[k] := by
    rw [Array.getElem?_toList] at e
    exact (Array.getElem?_eq_some_iff.1 e).2
  have e3 : (textOf l)[k] = UInt8.ofNat l[k] := e2
  rw [e3]
  simp
  omega
end Go.Proofs.YtdkgbdecmgligaaGreatDoor

/- A number that is shown is read again (math). -/
namespace Go.Proofs.YtdkgbdecmgligaaGreatDoor
open Go.RowKit
set_option linter.unusedVariables false
set_option linter.unusedSimpArgs false
def lv (l : List Nat) : Nat := l.foldl (fun a c => a * 10 + (c - 48)) 0
theorem lv_snoc (l : List Nat) (c : Nat) : lv (l ++ [c]) = lv l * 10 + (c - 48) := by unfold lv; simp
def Bytes (l : List Nat) : Prop := ∀ c ∈ l, c < 256
theorem bt_of {l : List Nat} (hb : Bytes l) (k : Nat) (hk : k < l.length) : bt (textOf l) k = l[k] := textOf_bt l k hk (hb _ (List.getElem_mem hk))
theorem nv_take {l : List Nat} (hb : Bytes l) : ∀ k, k ≤ l.length → nv (textOf l) k = lv (l.take k)
  | 0, _ => by unfold nv lv; simp
  | k + 1, h => by
    unfold nv
    rw [nv_take hb k (by omega), bt_of hb k (by omega), List.take_succ_eq_append_getElem (by omega), lv_snoc]
theorem dgB_one {m : Nat} (h : m < 10) : dgB m = [48 + m] := by unfold dgB; rw [digR_one h]; rfl
theorem dgB_more {m : Nat} (h : ¬ m < 10) : dgB m = (48 + m % 10) :: dgB (m / 10) := by unfold dgB; rw [digR_more h]; rfl
theorem dgB_dig (m : Nat) : ∀ c ∈ dgB m, 48 ≤ c ∧ c ≤ 57 := by
  induction m using Nat.strongRecOn with
  | _ m ih =>
    intro c hc
    by_cases q : m < 10
    · rw [dgB_one q] at hc; simp at hc; omega
    · rw [dgB_more q] at hc
      rcases List.mem_cons.1 hc with e | e
      · omega
      · exact ih (m / 10) (by omega) c e
theorem dgB_lv (m : Nat) : lv (dgB m).reverse = m := by
  induction m using Nat.strongRecOn with
  | _ m ih =>
    by_cases q : m < 10
    · rw [dgB_one q]; unfold lv; simp
    · rw [dgB_more q, List.reverse_cons, lv_snoc, ih (m / 10) (by omega)]; omega
theorem dgB_first (m : Nat) (h0 : 0 < m) : ∃ c r, (dgB m).reverse = c :: r ∧ c ≠ 48 := by
  induction m using Nat.strongRecOn with
  | _ m ih =>
    by_cases q : m < 10
    · exact ⟨48 + m, [], by rw [dgB_one q]; rfl, by omega⟩
    · obtain ⟨c, r, e, hc⟩ := ih (m / 10) (by omega) (by omega)
      exact ⟨c, r ++ [48 + m % 10], by rw [dgB_more q, List.reverse_cons, e]; rfl, hc⟩
theorem dgB_pos (m : Nat) : 1 ≤ (dgB m).length := by
  by_cases q : m < 10
  · rw [dgB_one q]; simp
  · rw [dgB_more q]; simp
theorem dgB_low (m : Nat) (h : m < 1000000) : (dgB m).length ≤ 6 := by
  unfold dgB; rw [List.length_map]; exact digR_len 5 m (by omega)
theorem dgB_high : ∀ k m, 10 ^ k ≤ m → k < (dgB m).length
  | 0, m, _ => dgB_pos m
  | k + 1, m, h => by
    have h1 : 10 ≤ 10 ^ (k + 1) := by rw [Nat.pow_succ]; have : 0 < 10 ^ k := Nat.pow_pos (by decide); omega
    rw [dgB_more (by omega)]
    have := dgB_high k (m / 10) (by rw [Nat.pow_succ] at h; omega)
    simp only [List.length_cons]; omega
theorem rev_bytes (m : Nat) : Bytes (dgB m).reverse := fun c hc => by
  have := dgB_dig m c (by simpa using hc)
  omega
theorem all_dig {l : List Nat} (hd : ∀ c ∈ l, 48 ≤ c ∧ c ≤ 57) : ∀ k, k ≤ l.length → allAt dgAt (textOf l) k = true
  | 0, _ => rfl
  | k + 1, h => by
    have hb : Bytes l := fun c hc => by have := hd c hc; omega
    unfold allAt
    rw [all_dig hd k (by omega), bt_of hb k (by omega), (dgAt_iff _ _).2 (hd _ (List.getElem_mem _))]
    rfl
theorem dig_rev (m : Nat) : ∀ c ∈ (dgB m).reverse, 48 ≤ c ∧ c ≤ 57 := fun c hc => dgB_dig m c (by simpa using hc)
theorem first_bt (m : Nat) : 48 ≤ bt (textOf (dgB m).reverse) 0 ∧ (0 < m → bt (textOf (dgB m).reverse) 0 ≠ 48) := by
  have hp := dgB_pos m
  have e := bt_of (rev_bytes m) 0 (by simp; omega)
  refine ⟨by rw [e]; exact (dig_rev m _ (List.getElem_mem _)).1, fun h0 => ?_⟩
  obtain ⟨c, r, ec, hc⟩ := dgB_first m h0
  rw [e]
  simp only [ec, List.getElem_cons_zero]
  exact hc
theorem okU_show (m : Nat) (h0 : 0 < m) : okU (textOf (dgB m).reverse) = decide (m < 1000000) := by
  have hs : (textOf (dgB m).reverse).size = (dgB m).length := by rw [textOf_size]; simp
  have hp := dgB_pos m
  have hf := (first_bt m).2 h0
  unfold okU
  rw [all_dig (dig_rev m) _ (by rw [textOf_size]; exact Nat.le_refl _), hs]
  by_cases q : m < 1000000
  · have := dgB_low m q
    simp [q, hp, this, hf]
  · have := dgB_high 6 m (by omega)
    simp [q, show ¬ (dgB m).length ≤ 6 by omega]
theorem nv_show (m : Nat) : nv (textOf (dgB m).reverse) (textOf (dgB m).reverse).size = m := by
  rw [textOf_size, nv_take (rev_bytes m) _ (Nat.le_refl _), List.take_length, dgB_lv]
theorem textOf_tail (c : Nat) (l : List Nat) : (textOf (c :: l)).extract 1 (textOf (c :: l)).size = textOf l := by
  apply ByteArray.ext
  apply Array.ext'
  have h := textOf_list (c :: l)
  have h2 := textOf_list l
  rw [h2, ByteArray.data_extract, Array.toList_extract, h, textOf_size]
  simp [List.extract]
  rw [List.take_of_length_le (by simp)]
/-- A number of up to six digits is read as it is shown. -/
theorem num_show (V : Int) : numV (textOf (showL V)) = if -999999 ≤ V ∧ V ≤ 999999 then (V, true) else (0, false) := by
  rcases Int.lt_trichotomy V 0 with h | h | h
  · have e : showL V = 45 :: (dgB V.natAbs).reverse := by unfold showL; rw [if_pos h]; rfl
    have hb : Bytes (45 :: (dgB V.natAbs).reverse) := fun c hc => by
      rcases List.mem_cons.1 hc with rfl | hc
      · decide
      · exact rev_bytes _ c hc
    have b0 := bt_of hb 0 (by simp)
    unfold numV
    rw [e, if_pos ⟨by rw [textOf_size]; simp, by rw [b0]; rfl⟩, textOf_tail, okU_show _ (by omega), nv_show]
    by_cases q : -999999 ≤ V ∧ V ≤ 999999
    · rw [if_pos q, if_pos (by simp; omega)]
      simp only [Prod.mk.injEq, and_true]; omega
    · rw [if_neg q, if_neg (by simp; omega)]
  · subst h
    rw [if_pos (by omega)]
    have e : showL 0 = [48] := by unfold showL; rw [if_neg (by omega)]; rw [show (0 : Int).natAbs = 0 from rfl, dgB_one (by omega)]; rfl
    unfold numV
    rw [e]
    have b0 := bt_of (l := [48]) (fun c hc => by simp at hc; omega) 0 (by simp)
    rw [if_neg (by rw [b0]; simp), if_pos (by rw [ByteArray.toList_eq, textOf_list]; rfl)]
  · have e : showL V = (dgB V.natAbs).reverse := by unfold showL; rw [if_neg (by omega)]; rfl
    obtain ⟨f1, f2⟩ := first_bt V.natAbs
    have f2 := f2 (by omega)
    unfold numV
    rw [e, if_neg (by omega), if_neg (fun z => f2 (toList_one z).2), okU_show _ (by omega), nv_show]
    by_cases q : -999999 ≤ V ∧ V ≤ 999999
    · rw [if_pos q, if_pos (by simp; omega)]
      simp only [Prod.mk.injEq, and_true]; omega
    · rw [if_neg q, if_neg (by simp; omega)]
end Go.Proofs.YtdkgbdecmgligaaGreatDoor
