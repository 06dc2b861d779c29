/- The layer's laws: long rows of textures, a square in two triangles. The layer's laws: what Dice answers, for the walks. The layer's laws: pure facts, for the walks. The layer's laws: pure facts of a finer unit. A row's length within its room, all that a copy asks: of a cage's vertices and creases. An argument that is a texture, opened. -/
import Derived.Test.YtpaehkjnefgaiaaC5
import Derived.Test.YtpaehkjnefgaiaaC8
import Derived.Test.YtpaehkjnefgaiaaC10
import Derived.Test.YtpaehkjnefgaiaaC13
import Derived.Test.YtpaehkjnefgaiaaC14
import Derived.Test.YtpaehkjnefgaiaaC15
namespace Go.Proofs.Ytpaehkjnefgaiaa
open Go.RowKit
set_option linter.unusedVariables false
set_option linter.unusedSimpArgs false
set_option linter.unnecessarySimpa false
set_option maxRecDepth 100000
set_option maxHeartbeats 4000000 in
theorem long_any (W : World) (A : Option Addr) (c : Nat) (ts : List TexD) (hts : XL W A ts) (hT : ∀ t ∈ ts, t.rows.length ≤ 140737488351232) :
    Calls Try.prog 10 #[.slice A ts.length c] W fun e w' => (∃ b : Bool, e = .returned (.bool b) ∧ (b = false → TexsOk ts)) ∧ Below W.heap.size W w' := by
  have hend : ∀ k : Nat, k ≤ ts.length → (k = ts.length ∨ k = 20) → (∀ j (h : j < ts.length), j < k → ts[j].rows.length ≤ 3000) → decide ((ts.length : Int) > 20) = false → TexsOk ts := fun k hk hor hj hd => by
    have h := of_decide_eq_false hd
    refine ⟨by omega, fun t ht => ?_⟩
    obtain ⟨j, hjl, rfl⟩ := List.mem_iff_getElem.1 ht
    have := hj j hjl (by omega)
    omega
  replace hend := Lib.hid hend
  go_enter Try.func10, Try.ntmps10
  go_wp2
  go_loopw [4, 3] (fun iv nv wr => (∃ k : Nat, iv = .int .i64 (k : Int) ∧ k ≤ ts.length ∧ k ≤ 20 ∧ ∀ j (h : j < ts.length), j < k → ts[j].rows.length ≤ 3000) ∧ (∃ z : Int, nv = .int .i64 z ∧ 0 ≤ z ∧ z ≤ 3000) ∧ wr = W) (fun iv _ _ => ts.length - (intOf iv).toNat)
  case atStart => exact ⟨⟨0, rfl, by omega, by omega, fun j h1 h2 => absurd h2 (by omega)⟩, ⟨0, rfl, by omega, by omega⟩, rfl⟩
  case round =>
    obtain ⟨⟨k, rfl, hk, hk2, hj⟩, ⟨z, rfl, z0, z1⟩, rfl⟩ := hrel
    replace hj := Lib.hid hj
    by_cases hlt : k < ts.length
    · have q1 : (k : Int) < (ts.length : Int) := by omega
      have q0 : (0 : Int) ≤ (k : Int) := by omega
      by_cases h20 : k < 20
      · have q2 : (k : Int) < 20 := by omega
        obtain ⟨b, off, B, m, rfl, hbl, hc, hI⟩ := hts.at_ k hlt
        have c3 : wr.cell? ⟨b, off + k * 4 + 3, none⟩ = some (.slice B ts[k].rows.length m) := hc 3 (by omega)
        have hle := hT _ (List.getElem_mem hlt)
        have hlast : ∀ r, r = ts[k].rows.length → r ≤ 3000 → ∀ j (h : j < ts.length), j < k + 1 → ts[j].rows.length ≤ 3000 := fun r er hr j h1 h2 => by
          by_cases e : j = k
          · subst e; omega
          · exact hj.out j h1 (by omega)
        replace hlast := Lib.hid (hlast _ rfl)
        clear hc hI hts hT
        generalize ts[k].rows.length = rl at *
        have wz : wrap64 (z + (rl : Int)) = z + (rl : Int) := wrap_id (by omega) (by omega)
        by_cases hg : 3000 < z + (rl : Int)
        · go_wp2
          go_ret
          exact ⟨⟨_, rfl, fun h => by cases h⟩, (by repeat (first | exact Below.refl _ _ | refine bel_then ?_ _ | refine bel_grow ?_ _ | refine bel_alloc ?_ _ | refine bel_drew ?_ | refine bel_set ?_ (by simp) _ | refine bel_setRow ?_ (by first | omega | (simp; done) | (refine Nat.le_trans ?_ (top_le _ _); simp; done) | (refine Nat.le_succ_of_le (Nat.le_trans ?_ (top_le _ _)); simp; done) | (refine Nat.le_trans ?_ (top_le _ _); simp only [World.size_alloc]; refine Nat.le_succ_of_le (Nat.le_trans ?_ (top_le _ _)); simp; done)) _))⟩
        · have hg2 : z + (rl : Int) ≤ 3000 := by omega
          go_wp2
          go_roundw
          case rel => exact ⟨⟨k + 1, by go_num, by omega, by omega, hlast.out (by omega)⟩, ⟨_, rfl, by omega, by omega⟩, trivial⟩
          case measure => simp [intOf]; omega
      · obtain rfl : k = 20 := by omega
        go_wp2
        go_ret
        exact ⟨⟨_, rfl, fun h => by cases h⟩, (by repeat (first | exact Below.refl _ _ | refine bel_then ?_ _ | refine bel_grow ?_ _ | refine bel_alloc ?_ _ | refine bel_drew ?_ | refine bel_set ?_ (by simp) _ | refine bel_setRow ?_ (by first | omega | (simp; done) | (refine Nat.le_trans ?_ (top_le _ _); simp; done) | (refine Nat.le_succ_of_le (Nat.le_trans ?_ (top_le _ _)); simp; done) | (refine Nat.le_trans ?_ (top_le _ _); simp only [World.size_alloc]; refine Nat.le_succ_of_le (Nat.le_trans ?_ (top_le _ _)); simp; done)) _))⟩
    · obtain rfl : k = ts.length := by omega
      go_wp2
      go_ret
      exact ⟨⟨_, rfl, hend.out _ hk (.inl rfl) hj.out⟩, (by repeat (first | exact Below.refl _ _ | refine bel_then ?_ _ | refine bel_grow ?_ _ | refine bel_alloc ?_ _ | refine bel_drew ?_ | refine bel_set ?_ (by simp) _ | refine bel_setRow ?_ (by first | omega | (simp; done) | (refine Nat.le_trans ?_ (top_le _ _); simp; done) | (refine Nat.le_succ_of_le (Nat.le_trans ?_ (top_le _ _)); simp; done) | (refine Nat.le_trans ?_ (top_le _ _); simp only [World.size_alloc]; refine Nat.le_succ_of_le (Nat.le_trans ?_ (top_le _ _)); simp; done)) _))⟩
theorem flat_e : msE (flatU 16) 100 0 (-1) [] = 0 := by decide +kernel
theorem flat_v : (meshF (flatU 16) 0 0 100 0 (-1) []).vs = [⟨0, 0, 0⟩, ⟨9, 0, 0⟩, ⟨9, 9, 0⟩, ⟨0, 9, 0⟩] := by kernel_rfl
theorem flat_k : (meshF (flatU 16) 0 0 100 0 (-1) []).ks.length = 4 := by decide +kernel
theorem flat_t : (meshF (flatU 16) 0 0 100 0 (-1) []).ts = [(0, 1, 2), (0, 2, 3)] := by decide +kernel
theorem flat_f : msF (flatU 16) 1 3 = 0 := by decide +kernel
theorem flat_hi : bxHi (flatU 16) 3 = ⟨14, 14, 5⟩ := by kernel_rfl
theorem vtri_L (W : World) (A1 A3 : Option Addr) (c1 c3 : Nat) (s2 : Value) (vs : List P3) (ts : List Spt) (hv : VL W A1 vs) (ht : L3 W A3 ts) (k x y z : Nat) (hk : k < ts.length) (e : ts[k] = ((x : Int), (y : Int), (z : Int))) (hx : x < vs.length) (hy : y < vs.length) (hz : z < vs.length) :
    Calls Try.prog 15 #[.agg #[.slice A1 vs.length c1, s2, .slice A3 ts.length c3], .int .i64 (k : Int)] W fun e W' => e = .returned (.tuple #[.agg (trA vs[x] vs[y] vs[z]), .bool true]) ∧ Below W.heap.size W W' := by
  obtain ⟨b1, o1, rfl, hl1, h1⟩ := hv (by omega)
  obtain ⟨b3, o3, rfl, hl3, h3⟩ := ht (by omega)
  have t := h3 k hk
  rw [e] at t
  exact vtri_yes W b1 o1 b3 o3 vs.length ts.length c1 c3 s2 k x y z hk hx hy hz vs[x] vs[y] vs[z] hl1 hl3 t.1 t.2.1 t.2.2 (h1 x hx) (h1 y hy) (h1 z hz)
theorem flat_dice (W : World) : Calls Try.prog 11 #[.agg (flatU 16).row, .int .i64 0, .int .i64 0, .agg #[.string ⟨#[]⟩, .int .i64 0, .int .i64 0, .int .i64 100, .int .i64 (-1), .int .i64 0], .slice none 0 0] W fun e W' => ∃ (A1 A2 A3 : Option Addr) (c1 c2 c3 : Nat), e = .returned (.tuple #[.agg #[.slice A1 4 c1, .slice A2 4 c2, .slice A3 2 c3], .int .i64 0]) ∧ Below W.heap.size W W' ∧ VL W' A1 [⟨0, 0, 0⟩, ⟨9, 0, 0⟩, ⟨9, 9, 0⟩, ⟨0, 9, 0⟩] ∧ L3 W' A3 [(0, 1, 2), (0, 2, 3)] := by
  refine (dice_any W (flatU 16) 0 0 ByteArray.empty 0 0 100 (-1) 0 none 0 [] (fun h => absurd h (by decide)) ⟨by decide, fun t h => by cases h⟩).mono fun e W' ⟨h1, h2⟩ => ?_
  rw [flat_e] at h2
  rcases h2 with ⟨_, A1, A2, A3, c1, c2, c3, rfl, h3, h4, h5, _⟩ | ⟨h, _⟩
  · rw [flat_v] at h3
    rw [flat_t] at h5
    rw [flat_v, flat_k, flat_t]
    exact ⟨A1, A2, A3, c1, c2, c3, rfl, h1, h3, h5⟩
  · exact absurd rfl h
theorem flat_bounds (W : World) : Calls Try.prog 13 #[.agg (flatU 16).row, .agg #[.string ⟨#[]⟩, .int .i64 0, .int .i64 0, .int .i64 1, .int .i64 0, .int .i64 3]] W fun e W' => e = .returned (.tuple #[.agg #[.int .i64 (bxLo (flatU 16) 3).x, .int .i64 (bxLo (flatU 16) 3).y, .int .i64 (bxLo (flatU 16) 3).z, .int .i64 14, .int .i64 14, .int .i64 5], .int .i64 0]) ∧ Below W.heap.size W W' := by
  have h := bounds_ok W (flatU 16) ByteArray.empty 0 0 1 0 3 (fine_of flat_f)
  rw [flat_hi] at h
  exact h
theorem flat_tri (W : World) (A1 A3 : Option Addr) (c1 c3 : Nat) (s2 : Value) (hv : VL W A1 [⟨0, 0, 0⟩, ⟨9, 0, 0⟩, ⟨9, 9, 0⟩, ⟨0, 9, 0⟩]) (ht : L3 W A3 [(0, 1, 2), (0, 2, 3)]) :
    Calls Try.prog 15 #[.agg #[.slice A1 4 c1, s2, .slice A3 2 c3], .int .i64 1] W fun e W' => e = .returned (.tuple #[.agg (trA ⟨0, 0, 0⟩ ⟨9, 9, 0⟩ ⟨0, 9, 0⟩), .bool true]) ∧ Below W.heap.size W W' :=
  vtri_L W A1 A3 c1 c3 s2 _ _ hv ht 1 0 2 3 (by decide) rfl (by decide) (by decide) (by decide)
set_option maxHeartbeats 4000000 in
theorem alive15_any (W : World) : Calls Try.prog 9 #[] W fun e w' => e = .returned (.bool true) ∧ Below W.heap.size W w' := by
  have kF := flat_any
  generalize hbl : bxLo (flatU 16) 3 = bl
  have kB := flat_bounds
  rw [hbl] at kB
  have kD := flat_dice
  have kT := flat_tri
  go_enter Try.func9, Try.ntmps9
  go_upto_region 2 with (first | (go_at_call 22; (with_reducible refine (kF.at_ _).mono ?_); rintro e w1 ⟨rfl, xf, rfl⟩) | (go_at_call 11; (with_reducible refine (kD _).mono ?_); rintro e w1 ⟨A1, A2, A3, c1, c2, c3, rfl, hb1, hv, ht⟩) | (refine putM rfl _ _ rfl _ _ _ _ rfl rfl ⟨rfl, rfl, rfl⟩ _ rfl (Blk.new _ _ _ _ rfl) ?_; simp only [Act.put, List.setIfInBounds_toArray, List.set_cons_succ, List.set_cons_zero]) | fail)
  have hB : Below W.heap.size W ((w1.alloc (.cells #[.slice none 0 0, .slice none 0 0, .slice none 0 0] 38)).setRow w1.heap.size #[.slice A1 4 c1, .slice A2 4 c2, .slice A3 2 c3]) := bel_setRow (bel_alloc (bel_trans (bel_grow (Below.refl _ _) xf) hb1) _) (bel_trans (bel_grow (Below.refl _ _) xf) hb1).size _
  have hM : Blk ((w1.alloc (.cells #[.slice none 0 0, .slice none 0 0, .slice none 0 0] 38)).setRow w1.heap.size #[.slice A1 4 c1, .slice A2 4 c2, .slice A3 2 c3]) w1.heap.size 38 #[.slice A1 4 c1, .slice A2 4 c2, .slice A3 2 c3] := (Blk.new _ _ _ _ rfl).setRow _
  have hb2 : Below w1.heap.size w1 ((w1.alloc (.cells #[.slice none 0 0, .slice none 0 0, .slice none 0 0] 38)).setRow w1.heap.size #[.slice A1 4 c1, .slice A2 4 c2, .slice A3 2 c3]) := bel_setRow (bel_alloc (Below.refl _ _) _) (Nat.le_refl _) _
  replace hv := hv.below hb2
  replace ht := ht.below hb2
  clear hb1 hb2
  generalize ((w1.alloc (.cells #[.slice none 0 0, .slice none 0 0, .slice none 0 0] 38)).setRow w1.heap.size #[.slice A1 4 c1, .slice A2 4 c2, .slice A3 2 c3]) = W2 at *
  generalize w1.heap.size = mb at *
  go_upto_region 3 with (first | (go_at_call 22; (with_reducible refine (kF.at_ _).mono ?_); rintro e w3 ⟨rfl, xg, rfl⟩) | (go_at_call 13; (with_reducible refine (kB _).mono ?_); rintro e w4 ⟨rfl, hb4⟩) | (refine putBx rfl _ _ rfl _ ⟨bl.x, bl.y, bl.z⟩ ⟨14, 14, 5⟩ rfl rfl _ rfl (Blk.new _ _ _ _ rfl) ?_; simp only [Act.put, List.setIfInBounds_toArray, List.set_cons_succ, List.set_cons_zero]) | fail)
  have hb3 : Below W2.heap.size W2 ((w4.alloc (.cells #[.int .i64 0, .int .i64 0, .int .i64 0, .int .i64 0, .int .i64 0, .int .i64 0] 43)).setRow w4.heap.size #[.int .i64 bl.x, .int .i64 bl.y, .int .i64 bl.z, .int .i64 14, .int .i64 14, .int .i64 5]) := bel_setRow (bel_alloc (bel_trans (bel_grow (Below.refl _ _) xg) hb4) _) (bel_trans (bel_grow (Below.refl _ _) xg) hb4).size _
  have hX : Blk ((w4.alloc (.cells #[.int .i64 0, .int .i64 0, .int .i64 0, .int .i64 0, .int .i64 0, .int .i64 0] 43)).setRow w4.heap.size #[.int .i64 bl.x, .int .i64 bl.y, .int .i64 bl.z, .int .i64 14, .int .i64 14, .int .i64 5]) w4.heap.size 43 #[.int .i64 bl.x, .int .i64 bl.y, .int .i64 bl.z, .int .i64 14, .int .i64 14, .int .i64 5] := (Blk.new _ _ _ _ rfl).setRow _
  have hmx : mb < w4.heap.size := Nat.lt_of_lt_of_le hM.lt (bel_trans (bel_grow (Below.refl _ _) xg) hb4).size
  replace hB := bel_trans hB hb3
  replace hM := hM.below hb3
  replace hv := hv.below hb3
  replace ht := ht.below hb3
  clear hb3 hb4
  generalize ((w4.alloc (.cells #[.int .i64 0, .int .i64 0, .int .i64 0, .int .i64 0, .int .i64 0, .int .i64 0] 43)).setRow w4.heap.size #[.int .i64 bl.x, .int .i64 bl.y, .int .i64 bl.z, .int .i64 14, .int .i64 14, .int .i64 5]) = W3 at *
  generalize w4.heap.size = xb at *
  go_upto_region 4 with (first | (refine getM rfl _ rfl mb rfl _ _ _ hM ?_; simp only [Act.put, List.setIfInBounds_toArray, List.set_cons_succ, List.set_cons_zero]) | (go_at_call 15; (with_reducible refine (kT _ A1 A3 c1 c3 (.slice A2 4 c2) hv ht).mono ?_); rintro e w6 ⟨rfl, hb6⟩) | (refine putTr rfl _ _ rfl _ ⟨0, 0, 0⟩ ⟨9, 9, 0⟩ ⟨0, 9, 0⟩ rfl rfl _ rfl (Blk.new _ _ _ _ rfl) ?_; simp only [Act.put, List.setIfInBounds_toArray, List.set_cons_succ, List.set_cons_zero]) | fail)
  have hb5 : Below W3.heap.size W3 ((w6.alloc (.cells #[.int .i64 0, .int .i64 0, .int .i64 0, .int .i64 0, .int .i64 0, .int .i64 0, .int .i64 0, .int .i64 0, .int .i64 0] 47)).setRow w6.heap.size (trA ⟨0, 0, 0⟩ ⟨9, 9, 0⟩ ⟨0, 9, 0⟩)) := bel_setRow (bel_alloc hb6 _) hb6.size _
  have hT : Blk ((w6.alloc (.cells #[.int .i64 0, .int .i64 0, .int .i64 0, .int .i64 0, .int .i64 0, .int .i64 0, .int .i64 0, .int .i64 0, .int .i64 0] 47)).setRow w6.heap.size (trA ⟨0, 0, 0⟩ ⟨9, 9, 0⟩ ⟨0, 9, 0⟩)) w6.heap.size 47 (trA ⟨0, 0, 0⟩ ⟨9, 9, 0⟩ ⟨0, 9, 0⟩) := (Blk.new _ _ _ _ rfl).setRow _
  replace hB := bel_trans hB hb5
  replace hM := hM.below hb5
  replace hX := hX.below hb5
  clear hb5 hb6 hv ht
  generalize ((w6.alloc (.cells #[.int .i64 0, .int .i64 0, .int .i64 0, .int .i64 0, .int .i64 0, .int .i64 0, .int .i64 0, .int .i64 0, .int .i64 0] 47)).setRow w6.heap.size (trA ⟨0, 0, 0⟩ ⟨9, 9, 0⟩ ⟨0, 9, 0⟩)) = W4 at *
  generalize w6.heap.size = tb at *
  have m0 := hM.cell 0
  have m1 := hM.cell 1
  have m2 := hM.cell 2
  have x3 := hX.cell 3
  have x4 := hX.cell 4
  have x5 := hX.cell 5
  have t3 := hT.cell 3
  have t4 := hT.cell 4
  have t5 := hT.cell 5
  have lM := hM.lt
  have lX := hX.lt
  have lT := hT.lt
  go_wp2
  go_ret
  exact ⟨rfl, hB⟩
end Go.Proofs.Ytpaehkjnefgaiaa
namespace Go.Proofs.Ytpaehkjnefgaiaa
open Go.RowKit
set_option linter.unusedVariables false
set_option linter.unusedSimpArgs false
set_option linter.unnecessarySimpa false
set_option maxRecDepth 100000
theorem msE_zero {P : Pch} {u h tx : Int} {ts : List TexD} (e : msE P u h tx ts = 0) : Fine P u h ∧ (-1 ≤ tx ∧ tx < (ts.length : Int)) ∧ ∀ t, msTx ts tx h = some t → rightF t.W t.H t.rows = true := by
  by_cases hb : tx < -1 ∨ (ts.length : Int) ≤ tx
  · rw [msE_bad hb] at e; cases e
  · have hb2 : -1 ≤ tx ∧ tx < (ts.length : Int) := by omega
    by_cases hf : msF P u h = 0
    · have f := fine_of hf
      refine ⟨f, hb2, fun t ht => ?_⟩
      rw [msE_some hb2 f ht] at e
      cases hr : rightF t.W t.H t.rows
      · rw [hr] at e; simp at e
      · rfl
    · rw [msE_err hb2 hf] at e
      exact absurd e hf
theorem mesh_len {P : Pch} {u h : Int} (f : Fine P u h) (cage id tx : Int) (ts : List TexD) : (meshF P cage id u h tx ts).vs.length = (spotsW (msr P.pt u)).length ∧ (meshF P cage id u h tx ts).ks.length = (spotsW (msr P.pt u)).length ∧ (meshF P cage id u h tx ts).ts.length = (trisW (msr P.pt u)).length ∧ (spotsW (msr P.pt u)).length ≤ 400 ∧ (trisW (msr P.pt u)).length ≤ 600 := by
  unfold meshF
  simp only [List.length_map]
  exact ⟨trivial, trivial, trivial, spotsW_lt (okQ_r f.q), trisW_lt (okQ_r f.q)⟩
theorem dice_yes (W : World) (P : Pch) (cage id : Int) (nm : ByteArray) (ma lv un tx ht : Int) (A : Option Addr) (c : Nat) (ts : List TexD) (hts : XL W A ts) (hok : TexsOk ts) (hz : msE P un ht tx ts = 0) :
    Calls Try.prog 11 #[.agg P.row, .int .i64 cage, .int .i64 id, .agg (skC nm ma lv un tx ht), .slice A ts.length c] W fun e W' => ∃ (A1 A2 A3 : Option Addr) (c1 c2 c3 : Nat), e = .returned (.tuple #[.agg #[.slice A1 (meshF P cage id un ht tx ts).vs.length c1, .slice A2 (meshF P cage id un ht tx ts).ks.length c2, .slice A3 (meshF P cage id un ht tx ts).ts.length c3], .int .i64 0]) ∧ Below W.heap.size W W' ∧ MsL W' A1 A2 A3 (meshF P cage id un ht tx ts) := by
  refine (dice_any W P cage id nm ma lv un tx ht A c ts hts hok).mono fun e W' ⟨h1, h2⟩ => ?_
  rw [hz] at h2
  rcases h2 with ⟨_, A1, A2, A3, c1, c2, c3, rfl, h3, h4, h5, _⟩ | ⟨h, _⟩
  · exact ⟨A1, A2, A3, c1, c2, c3, rfl, h1, ⟨h3, h4, h5⟩⟩
  · exact absurd rfl h
theorem dice_no (W : World) (P : Pch) (cage id : Int) (nm : ByteArray) (ma lv un tx ht : Int) (A : Option Addr) (c : Nat) (ts : List TexD) (hts : XL W A ts) (hok : TexsOk ts) (x : Int) (hx : msE P un ht tx ts = x) (hz : ¬ x = 0) :
    Calls Try.prog 11 #[.agg P.row, .int .i64 cage, .int .i64 id, .agg (skC nm ma lv un tx ht), .slice A ts.length c] W fun e W' => e = .returned (.tuple #[.agg #[.slice none 0 0, .slice none 0 0, .slice none 0 0], .int .i64 x]) ∧ Below W.heap.size W W' := by
  refine (dice_any W P cage id nm ma lv un tx ht A c ts hts hok).mono fun e W' ⟨h1, h2⟩ => ?_
  rw [hx] at h2
  rcases h2 with ⟨h, _⟩ | ⟨_, h⟩
  · exact absurd h hz
  · exact ⟨h, h1⟩
end Go.Proofs.Ytpaehkjnefgaiaa
namespace Go.Proofs.Ytpaehkjnefgaiaa
open Go.RowKit
set_option linter.unusedVariables false
set_option linter.unusedSimpArgs false
set_option linter.unnecessarySimpa false
set_option maxRecDepth 100000
end Go.Proofs.Ytpaehkjnefgaiaa
namespace Go.Proofs.Ytpaehkjnefgaiaa
open Go.RowKit
set_option linter.unusedVariables false
set_option linter.unusedSimpArgs false
set_option linter.unnecessarySimpa false
set_option maxRecDepth 100000
end Go.Proofs.Ytpaehkjnefgaiaa
namespace Go.Proofs.Ytpaehkjnefgaiaa
open Go.RowKit
set_option linter.unusedVariables false
set_option linter.unusedSimpArgs false
section
variable {H : Type} {enc : TypeId × Value → H} {w : World} {base : Nat} {spare : Nat → Bool} {held : Bool}
end
end Go.Proofs.Ytpaehkjnefgaiaa
namespace Go.Proofs.Ytpaehkjnefgaiaa
open Go.ChangeShapes Go.WideShapes Go.ChangeAt Go.RowKit
set_option linter.unusedVariables false
set_option linter.unusedSimpArgs false
set_option maxRecDepth 100000
section
variable {H : Type} {enc : TypeId × Value → H} {w : World} {base : Nat} {spare : Nat → Bool} {held : Bool}
theorem szTx : Try.prog.cellsOf 65 = 4 := by kernel_rfl
theorem lvTx : leavesAt Try.prog 10 0 65 = [(0, 9), (1, 3), (2, 3), (3, 63)] := by kernel_rfl
theorem open_Tex {cs : List Value} (hlen : cs.length = 4) (h : TW enc Try.prog w base spare held 65 cs) : ∃ (nm : ByteArray) (tw th : Int) (A : Option Addr) (k : Nat) (rows : List Int), cs = [.string nm, .int .i64 tw, .int .i64 th, .slice A rows.length k] ∧ (i64B tw ∧ i64B th) ∧ rows.length ≤ reachBytes ∧ IL w A rows := by
  obtain ⟨_, c0, hc0, ht0⟩ := tw_leaf 10 65 0 0 9 (by rw [lvTx]; simp) cs h
  obtain ⟨_, c1, hc1, ht1⟩ := tw_leaf 10 65 0 1 3 (by rw [lvTx]; simp) cs h
  obtain ⟨_, c2, hc2, ht2⟩ := tw_leaf 10 65 0 2 3 (by rw [lvTx]; simp) cs h
  obtain ⟨_, c3, hc3, ht3⟩ := tw_leaf 10 65 0 3 63 (by rw [lvTx]; simp) cs h
  obtain ⟨nm, rfl, hnm⟩ := tw_str Try.underlying9 ht0
  obtain ⟨x, rfl, hx⟩ := tw_int Try.underlying3 ht1
  obtain ⟨y, rfl, hy⟩ := tw_int Try.underlying3 ht2
  obtain ⟨A, k, l, rfl, h2, h3, h4⟩ := tw_intsF ht3
  refine ⟨⟨nm.toArray⟩, x, y, A, k, l, ext_k hlen rfl (fun i hi => ?_), ⟨hx, hy⟩, h2, h4⟩
  rcases (by omega : i = 0 ∨ i = 1 ∨ i = 2 ∨ i = 3) with rfl | rfl | rfl | rfl
  · simpa using hc0
  · simpa using hc1
  · simpa using hc2
  · simpa using hc3
end
end Go.Proofs.Ytpaehkjnefgaiaa
