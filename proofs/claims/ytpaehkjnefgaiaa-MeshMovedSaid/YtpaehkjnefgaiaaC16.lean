/- The layer's laws: long rows of textures, a square in two triangles. The layer's laws: what Dice answers, for the walks. The layer's laws: pure facts, for the walks. The layer's laws: pure facts of a finer unit. A row's length within its room, all that a copy asks: of a cage's vertices and creases. An argument that is a texture, opened. -/
import Derived.Test.YtpaehkjnefgaiaaC5
import Derived.Test.YtpaehkjnefgaiaaC8
import Derived.Test.YtpaehkjnefgaiaaC10
import Derived.Test.YtpaehkjnefgaiaaC13
import Derived.Test.YtpaehkjnefgaiaaC14
import Derived.Test.YtpaehkjnefgaiaaC15
namespace Go.Proofs.Ytpaehkjnefgaiaa
open Go.RowKit
set_option linter.unusedVariables false
set_option linter.unusedSimpArgs false
set_option linter.unnecessarySimpa false
set_option maxRecDepth 100000
theorem flat_e : msE (flatU 16) 100 0 (-1) [] = 0 := by decide +kernel
theorem flat_v : (meshF (flatU 16) 0 0 100 0 (-1) []).vs = [⟨0, 0, 0⟩, ⟨9, 0, 0⟩, ⟨9, 9, 0⟩, ⟨0, 9, 0⟩] := by kernel_rfl
theorem flat_k : (meshF (flatU 16) 0 0 100 0 (-1) []).ks.length = 4 := by decide +kernel
theorem flat_t : (meshF (flatU 16) 0 0 100 0 (-1) []).ts = [(0, 1, 2), (0, 2, 3)] := by decide +kernel
theorem flat_f : msF (flatU 16) 1 3 = 0 := by decide +kernel
theorem flat_hi : bxHi (flatU 16) 3 = ⟨14, 14, 5⟩ := by kernel_rfl
theorem vtri_L (W : World) (A1 A3 : Option Addr) (c1 c3 : Nat) (s2 : Value) (vs : List P3) (ts : List Spt) (hv : VL W A1 vs) (ht : L3 W A3 ts) (k x y z : Nat) (hk : k < ts.length) (e : ts[k] = ((x : Int), (y : Int), (z : Int))) (hx : x < vs.length) (hy : y < vs.length) (hz : z < vs.length) :
    Calls Try.prog 15 #[.agg #[.slice A1 vs.length c1, s2, .slice A3 ts.length c3], .int .i64 (k : Int)] W fun e W' => e = .returned (.tuple #[.agg (trA vs[x] vs[y] vs[z]), .bool true]) ∧ Below W.heap.size W W' := by
  obtain ⟨b1, o1, rfl, hl1, h1⟩ := hv (by omega)
  obtain ⟨b3, o3, rfl, hl3, h3⟩ := ht (by omega)
  have t := h3 k hk
  rw [e] at t
  exact vtri_yes W b1 o1 b3 o3 vs.length ts.length c1 c3 s2 k x y z hk hx hy hz vs[x] vs[y] vs[z] hl1 hl3 t.1 t.2.1 t.2.2 (h1 x hx) (h1 y hy) (h1 z hz)
theorem flat_dice (W : World) : Calls Try.prog 11 #[.agg (flatU 16).row, .int .i64 0, .int .i64 0, .agg #[.string ⟨#[]⟩, .int .i64 0, .int .i64 0, .int .i64 100, .int .i64 (-1), .int .i64 0], .slice none 0 0] W fun e W' => ∃ (A1 A2 A3 : Option Addr) (c1 c2 c3 : Nat), e = .returned (.tuple #[.agg #[.slice A1 4 c1, .slice A2 4 c2, .slice A3 2 c3], .int .i64 0]) ∧ Below W.heap.size W W' ∧ VL W' A1 [⟨0, 0, 0⟩, ⟨9, 0, 0⟩, ⟨9, 9, 0⟩, ⟨0, 9, 0⟩] ∧ L3 W' A3 [(0, 1, 2), (0, 2, 3)] := by
  refine (dice_any W (flatU 16) 0 0 ByteArray.empty 0 0 100 (-1) 0 none 0 [] (fun h => absurd h (by decide)) ⟨by decide, fun t h => by cases h⟩).mono fun e W' ⟨h1, h2⟩ => ?_
  rw [flat_e] at h2
  rcases h2 with ⟨_, A1, A2, A3, c1, c2, c3, rfl, h3, h4, h5, _⟩ | ⟨h, _⟩
  · rw [flat_v] at h3
    rw [flat_t] at h5
    rw [flat_v, flat_k, flat_t]
    exact ⟨A1, A2, A3, c1, c2, c3, rfl, h1, h3, h5⟩
  · exact absurd rfl h
theorem flat_bounds (W : World) : Calls Try.prog 13 #[.agg (flatU 16).row, .agg #[.string ⟨#[]⟩, .int .i64 0, .int .i64 0, .int .i64 1, .int .i64 0, .int .i64 3]] W fun e W' => e = .returned (.tuple #[.agg #[.int .i64 (bxLo (flatU 16) 3).x, .int .i64 (bxLo (flatU 16) 3).y, .int .i64 (bxLo (flatU 16) 3).z, .int .i64 14, .int .i64 14, .int .i64 5], .int .i64 0]) ∧ Below W.heap.size W W' := by
  have h := bounds_ok W (flatU 16) ByteArray.empty 0 0 1 0 3 (fine_of flat_f)
  rw [flat_hi] at h
  exact h
theorem flat_tri (W : World) (A1 A3 : Option Addr) (c1 c3 : Nat) (s2 : Value) (hv : VL W A1 [⟨0, 0, 0⟩, ⟨9, 0, 0⟩, ⟨9, 9, 0⟩, ⟨0, 9, 0⟩]) (ht : L3 W A3 [(0, 1, 2), (0, 2, 3)]) :
    Calls Try.prog 15 #[.agg #[.slice A1 4 c1, s2, .slice A3 2 c3], .int .i64 1] W fun e W' => e = .returned (.tuple #[.agg (trA ⟨0, 0, 0⟩ ⟨9, 9, 0⟩ ⟨0, 9, 0⟩), .bool true]) ∧ Below W.heap.size W W' :=
  vtri_L W A1 A3 c1 c3 s2 _ _ hv ht 1 0 2 3 (by decide) rfl (by decide) (by decide) (by decide)
set_option maxHeartbeats 4000000 in
theorem alive15_any (W : World) : Calls Try.prog 9 #[] W fun e w' => e = .returned (.bool true) ∧ Below W.heap.size W w' := by
  have kF := flat_any
  generalize hbl : bxLo (flatU 16) 3 = bl
  have kB := flat_bounds
  rw [hbl] at kB
  have kD := flat_dice
  have kT := flat_tri
  go_enter Try.func9, Try.ntmps9
  go_upto_region 2 with (first | (go_at_call 22; (with_reducible refine (kF.at_ _).mono ?_); rintro e w1 ⟨rfl, xf, rfl⟩) | (go_at_call 11; (with_reducible refine (kD _).mono ?_); rintro e w1 ⟨A1, A2, A3, c1, c2, c3, rfl, hb1, hv, ht⟩) | (refine putM rfl _ _ rfl _ _ _ _ rfl rfl ⟨rfl, rfl, rfl⟩ _ rfl (Blk.new _ _ _ _ rfl) ?_; simp only [Act.put, List.setIfInBounds_toArray, List.set_cons_succ, List.set_cons_zero]) | fail)
  have hB : Below W.heap.size W ((w1.alloc (.cells #[.slice none 0 0, .slice none 0 0, .slice none 0 0] 38)).setRow w1.heap.size #[.slice A1 4 c1, .slice A2 4 c2, .slice A3 2 c3]) := bel_setRow (bel_alloc (bel_trans (bel_grow (Below.refl _ _) xf) hb1) _) (bel_trans (bel_grow (Below.refl _ _) xf) hb1).size _
  have hM : Blk ((w1.alloc (.cells #[.slice none 0 0, .slice none 0 0, .slice none 0 0] 38)).setRow w1.heap.size #[.slice A1 4 c1, .slice A2 4 c2, .slice A3 2 c3]) w1.heap.size 38 #[.slice A1 4 c1, .slice A2 4 c2, .slice A3 2 c3] := (Blk.new _ _ _ _ rfl).setRow _
  have hb2 : Below w1.heap.size w1 ((w1.alloc (.cells #[.slice none 0 0, .slice none 0 0, .slice none 0 0] 38)).setRow w1.heap.size #[.slice A1 4 c1, .slice A2 4 c2, .slice A3 2 c3]) := bel_setRow (bel_alloc (Below.refl _ _) _) (Nat.le_refl _) _
  replace hv := hv.below hb2
  replace ht := ht.below hb2
  clear hb1 hb2
  generalize ((w1.alloc (.cells #[.slice none 0 0, .slice none 0 0, .slice none 0 0] 38)).setRow w1.heap.size #[.slice A1 4 c1, .slice A2 4 c2, .slice A3 2 c3]) = W2 at *
  generalize w1.heap.size = mb at *
  go_upto_region 3 with (first | (go_at_call 22; (with_reducible refine (kF.at_ _).mono ?_); rintro e w3 ⟨rfl, xg, rfl⟩) | (go_at_call 13; (with_reducible refine (kB _).mono ?_); rintro e w4 ⟨rfl, hb4⟩) | (refine putBx rfl _ _ rfl _ ⟨bl.x, bl.y, bl.z⟩ ⟨14, 14, 5⟩ rfl rfl _ rfl (Blk.new _ _ _ _ rfl) ?_; simp only [Act.put, List.setIfInBounds_toArray, List.set_cons_succ, List.set_cons_zero]) | fail)
  have hb3 : Below W2.heap.size W2 ((w4.alloc (.cells #[.int .i64 0, .int .i64 0, .int .i64 0, .int .i64 0, .int .i64 0, .int .i64 0] 43)).setRow w4.heap.size #[.int .i64 bl.x, .int .i64 bl.y, .int .i64 bl.z, .int .i64 14, .int .i64 14, .int .i64 5]) := bel_setRow (bel_alloc (bel_trans (bel_grow (Below.refl _ _) xg) hb4) _) (bel_trans (bel_grow (Below.refl _ _) xg) hb4).size _
  have hX : Blk ((w4.alloc (.cells #[.int .i64 0, .int .i64 0, .int .i64 0, .int .i64 0, .int .i64 0, .int .i64 0] 43)).setRow w4.heap.size #[.int .i64 bl.x, .int .i64 bl.y, .int .i64 bl.z, .int .i64 14, .int .i64 14, .int .i64 5]) w4.heap.size 43 #[.int .i64 bl.x, .int .i64 bl.y, .int .i64 bl.z, .int .i64 14, .int .i64 14, .int .i64 5] := (Blk.new _ _ _ _ rfl).setRow _
  have hmx : mb < w4.heap.size := Nat.lt_of_lt_of_le hM.lt (bel_trans (bel_grow (Below.refl _ _) xg) hb4).size
  replace hB := bel_trans hB hb3
  replace hM := hM.below hb3
  replace hv := hv.below hb3
  replace ht := ht.below hb3
  clear hb3 hb4
  generalize ((w4.alloc (.cells #[.int .i64 0, .int .i64 0, .int .i64 0, .int .i64 0, .int .i64 0, .int .i64 0] 43)).setRow w4.heap.size #[.int .i64 bl.x, .int .i64 bl.y, .int .i64 bl.z, .int .i64 14, .int .i64 14, .int .i64 5]) = W3 at *
  generalize w4.heap.size = xb at *
  go_upto_region 4 with (first | (refine getM rfl _ rfl mb rfl _ _ _ hM ?_; simp only [Act.put, List.setIfInBounds_toArray, List.set_cons_succ, List.set_cons_zero]) | (go_at_call 15; (with_reducible refine (kT _ A1 A3 c1 c3 (.slice A2 4 c2) hv ht).mono ?_); rintro e w6 ⟨rfl, hb6⟩) | (refine putTr rfl _ _ rfl _ ⟨0, 0, 0⟩ ⟨9, 9, 0⟩ ⟨0, 9, 0⟩ rfl rfl _ rfl (Blk.new _ _ _ _ rfl) ?_; simp only [Act.put, List.setIfInBounds_toArray, List.set_cons_succ, List.set_cons_zero]) | fail)
  have hb5 : Below W3.heap.size W3 ((w6.alloc (.cells #[.int .i64 0, .int .i64 0, .int .i64 0, .int .i64 0, .int .i64 0, .int .i64 0, .int .i64 0, .int .i64 0, .int .i64 0] 47)).setRow w6.heap.size (trA ⟨0, 0, 0⟩ ⟨9, 9, 0⟩ ⟨0, 9, 0⟩)) := bel_setRow (bel_alloc hb6 _) hb6.size _
  have hT : Blk ((w6.alloc (.cells #[.int .i64 0, .int .i64 0, .int .i64 0, .int .i64 0, .int .i64 0, .int .i64 0, .int .i64 0, .int .i64 0, .int .i64 0] 47)).setRow w6.heap.size (trA ⟨0, 0, 0⟩ ⟨9, 9, 0⟩ ⟨0, 9, 0⟩)) w6.heap.size 47 (trA ⟨0, 0, 0⟩ ⟨9, 9, 0⟩ ⟨0, 9, 0⟩) := (Blk.new _ _ _ _ rfl).setRow _
  replace hB := bel_trans hB hb5
  replace hM := hM.below hb5
  replace hX := hX.below hb5
  clear hb5 hb6 hv ht
  generalize ((w6.alloc (.cells #[.int .i64 0, .int .i64 0, .int .i64 0, .int .i64 0, .int .i64 0, .int .i64 0, .int .i64 0, .int .i64 0, .int .i64 0] 47)).setRow w6.heap.size (trA ⟨0, 0, 0⟩ ⟨9, 9, 0⟩ ⟨0, 9, 0⟩)) = W4 at *
  generalize w6.heap.size = tb at *
  have m0 := hM.cell 0
  have m1 := hM.cell 1
  have m2 := hM.cell 2
  have x3 := hX.cell 3
  have x4 := hX.cell 4
  have x5 := hX.cell 5
  have t3 := hT.cell 3
  have t4 := hT.cell 4
  have t5 := hT.cell 5
  have lM := hM.lt
  have lX := hX.lt
  have lT := hT.lt
  go_wp2
  go_ret
  exact ⟨rfl, hB⟩
end Go.Proofs.Ytpaehkjnefgaiaa
namespace Go.Proofs.Ytpaehkjnefgaiaa
open Go.RowKit
set_option linter.unusedVariables false
set_option linter.unusedSimpArgs false
set_option linter.unnecessarySimpa false
set_option maxRecDepth 100000
theorem msE_zero {P : Pch} {u h tx : Int} {ts : List TexD} (e : msE P u h tx ts = 0) : Fine P u h ∧ (-1 ≤ tx ∧ tx < (ts.length : Int)) ∧ ∀ t, msTx ts tx h = some t → rightF t.W t.H t.rows = true := by
  by_cases hb : tx < -1 ∨ (ts.length : Int) ≤ tx
  · rw [msE_bad hb] at e; cases e
  · have hb2 : -1 ≤ tx ∧ tx < (ts.length : Int) := by omega
    by_cases hf : msF P u h = 0
    · have f := fine_of hf
      refine ⟨f, hb2, fun t ht => ?_⟩
      rw [msE_some hb2 f ht] at e
      cases hr : rightF t.W t.H t.rows
      · rw [hr] at e; simp at e
      · rfl
    · rw [msE_err hb2 hf] at e
      exact absurd e hf
theorem mesh_len {P : Pch} {u h : Int} (f : Fine P u h) (cage id tx : Int) (ts : List TexD) : (meshF P cage id u h tx ts).vs.length = (spotsW (msr P.pt u)).length ∧ (meshF P cage id u h tx ts).ks.length = (spotsW (msr P.pt u)).length ∧ (meshF P cage id u h tx ts).ts.length = (trisW (msr P.pt u)).length ∧ (spotsW (msr P.pt u)).length ≤ 400 ∧ (trisW (msr P.pt u)).length ≤ 600 := by
  unfold meshF
  simp only [List.length_map]
  exact ⟨trivial, trivial, trivial, spotsW_lt (okQ_r f.q), trisW_lt (okQ_r f.q)⟩
theorem dice_no (W : World) (P : Pch) (cage id : Int) (nm : ByteArray) (ma lv un tx ht : Int) (A : Option Addr) (c : Nat) (ts : List TexD) (hts : XL W A ts) (hok : TexsOk ts) (x : Int) (hx : msE P un ht tx ts = x) (hz : ¬ x = 0) :
    Calls Try.prog 11 #[.agg P.row, .int .i64 cage, .int .i64 id, .agg (skC nm ma lv un tx ht), .slice A ts.length c] W fun e W' => e = .returned (.tuple #[.agg #[.slice none 0 0, .slice none 0 0, .slice none 0 0], .int .i64 x]) ∧ Below W.heap.size W W' := by
  refine (dice_any W P cage id nm ma lv un tx ht A c ts hts hok).mono fun e W' ⟨h1, h2⟩ => ?_
  rw [hx] at h2
  rcases h2 with ⟨h, _⟩ | ⟨_, h⟩
  · exact absurd h hz
  · exact ⟨h, h1⟩
end Go.Proofs.Ytpaehkjnefgaiaa
namespace Go.Proofs.Ytpaehkjnefgaiaa
open Go.RowKit
set_option linter.unusedVariables false
set_option linter.unusedSimpArgs false
set_option linter.unnecessarySimpa false
set_option maxRecDepth 100000
theorem mesh_rng {P : Pch} {u h : Int} (f : Fine P u h) (cage id tx : Int) (ts : List TexD) : ∀ z ∈ (meshF P cage id u h tx ts).ts, rngS z := fun z hz => by
  unfold meshF at hz
  simp only [List.mem_map] at hz
  obtain ⟨t, ht, rfl⟩ := hz
  obtain ⟨_, _, _, h1, h2, h3⟩ := tri_ne (okQ_r f.q) ht
  have := spotsW_lt (okQ_r f.q)
  unfold rngS trZ i64W
  simp only
  unfold msr at *
  omega
theorem msE_plain {P : Pch} {u h : Int} (f : Fine P u h) (ts : List TexD) : msE P u h (-1) ts = 0 :=
  msE_none ⟨by omega, by omega⟩ f (msTx_none (.inl (by omega)))
theorem putSk {ops : Array Oper} {rest : List Oper} {o : Oper} {a : Act} {w : World} {Q : Exit → Act → World → Prop} (hgd : o.guard = none) (x y : Operand) (ho : o.op = .store 30 x y) (g : Nat) (nm : ByteArray) (ma lv un tx ht : Int) (hx : a.eval x = .pointer (some ⟨g, 0, none⟩)) (hy : a.eval y = .agg (skC nm ma lv un tx ht)) (old : Array Value) (hs : old.size = 6) (h : Blk w g 30 old)
    (K : wpList Try.prog ops Q rest (a.put o.dst undef) (w.setRow g (skC nm ma lv un tx ht))) : wpList Try.prog ops Q (o :: rest) a w :=
  wpList_store_row hgd 30 x y ho g _ hx hy 30 old h infoSk hs (by simp [Value.oneCell']) K
end Go.Proofs.Ytpaehkjnefgaiaa
namespace Go.Proofs.Ytpaehkjnefgaiaa
open Go.RowKit
set_option linter.unusedVariables false
set_option linter.unusedSimpArgs false
set_option linter.unnecessarySimpa false
set_option maxRecDepth 100000
theorem smooth_l {P : Pch} {u h : Int} (f : Fine P u h) : 4 ≤ (meshF P 0 0 u h (-1) []).vs.length := by
  obtain ⟨e, _⟩ := mesh_len f 0 0 (-1) []
  rw [e, show (spotsW (msr P.pt u)).length = _ from spotsW_len (okQ_r f.q)]
  have h0 := okQ_r f.q 0 (by omega)
  have h1 := okQ_r f.q 1 (by omega)
  have h2 := okQ_r f.q 2 (by omega)
  have h3 := okQ_r f.q 3 (by omega)
  unfold msr
  omega
theorem dice0_yesF (W : World) (P : Pch) (cage id un ht : Int) (f : Fine P un ht) :
    Calls Try.prog 11 #[.agg P.row, .int .i64 cage, .int .i64 id, .agg (skC ByteArray.empty 0 0 un (-1) ht), .slice none 0 0] W fun e W' => ∃ (A1 A2 A3 : Option Addr) (c1 c2 c3 : Nat), e = .returned (.tuple #[.agg #[.slice A1 (meshF P cage id un ht (-1) []).vs.length c1, .slice A2 (meshF P cage id un ht (-1) []).ks.length c2, .slice A3 (meshF P cage id un ht (-1) []).ts.length c3], .int .i64 0]) ∧ Below W.heap.size W W' ∧ MsL W' A1 A2 A3 (meshF P cage id un ht (-1) []) ∧ FrV W' W.heap.size A1 A2 A3 (meshF P cage id un ht (-1) []).ts.length := by
  refine (dice_any W P cage id ByteArray.empty 0 0 un (-1) ht none 0 [] (fun h => absurd h (by decide)) ⟨by decide, fun t h => by cases h⟩).mono fun e W' ⟨h1, h2⟩ => ?_
  rw [msE_plain f []] at h2
  rcases h2 with ⟨_, A1, A2, A3, c1, c2, c3, rfl, h3, h4, h5, h6⟩ | ⟨h, _⟩
  · exact ⟨A1, A2, A3, c1, c2, c3, rfl, h1, ⟨h3, h4, h5⟩, h6⟩
  · exact absurd rfl h
end Go.Proofs.Ytpaehkjnefgaiaa
namespace Go.Proofs.Ytpaehkjnefgaiaa
open Go.RowKit
set_option linter.unusedVariables false
set_option linter.unusedSimpArgs false
section
variable {H : Type} {enc : TypeId × Value → H} {w : World} {base : Nat} {spare : Nat → Bool} {held : Bool}
set_option maxRecDepth 100000 in
theorem open_P {r : Reach} {b0 : Nat} {v : Value} {d : DataW H} {p : List MemPlace} (hv : Value.okWide Try.prog w r b0 23 v) (h : DataW.Trod enc Try.prog w base spare held 23 v d p) : ∃ a : P3, v = .agg #[.int .i64 a.x, .int .i64 a.y, .int .i64 a.z] ∧ I3 a := by
  obtain ⟨g, rfl, hb⟩ := open_ints_agg Try.underlying23 szV lvV Try.underlying3 hv h
  have h0 := hb 0 (by omega)
  have h1 := hb 1 (by omega)
  have h2 := hb 2 (by omega)
  exact ⟨⟨g 0, g 1, g 2⟩, rfl, h0, h1, h2⟩
end
end Go.Proofs.Ytpaehkjnefgaiaa
namespace Go.Proofs.Ytpaehkjnefgaiaa
open Go.ChangeShapes Go.WideShapes Go.ChangeAt Go.RowKit
set_option linter.unusedVariables false
set_option linter.unusedSimpArgs false
set_option maxRecDepth 100000
section
variable {H : Type} {enc : TypeId × Value → H} {w : World} {base : Nat} {spare : Nat → Bool} {held : Bool}
end
end Go.Proofs.Ytpaehkjnefgaiaa
