/- Package bvh: Build. Package bvh: Touched. A region in any order that makes blocks and stores into them, all its other operations read or call what only grows. No program is imported. The three boxes that say whether the tree is alive. A row of boxes opened. The last step of a law's row: it answered true, and all that was there is as it was. No program is imported. -/
import Derived.ProofKit
import Derived.OpenShut
import Derived.Carry
import Derived.Test.YthadlpkdfnonjaaProg
import Derived.Test.YthadlpkdfnonjaaC0
import Derived.Test.YthadlpkdfnonjaaC6
import Derived.Test.YthadlpkdfnonjaaC7
import Derived.Test.YthadlpkdfnonjaaC10
import Derived.Test.YthadlpkdfnonjaaC11
import Derived.Test.YthadlpkdfnonjaaC13
namespace Go.Proofs.Ythadlpkdfnonjaa
open Go.RowKit
set_option linter.unusedVariables false
set_option linter.unusedSimpArgs false
set_option linter.unnecessarySimpa false
set_option maxRecDepth 100000
/-- A row of nodes that lies somewhere. -/
def NdL (W : World) (A : Option Addr) (N : List Nd) : Prop := 0 < N.length → ∃ b off, A = some ⟨b, off, none⟩ ∧ b < W.heap.size ∧ ∀ i (h : i < N.length) j, j < 10 → W.cell? ⟨b, off + i * 10 + j, none⟩ = (nd1 N[i])[j]?
theorem NdL.below {W W' : World} {A : Option Addr} {N : List Nd} (h : NdL W A N) (hb : Below W.heap.size W W') : NdL W' A N := fun hn => by
  obtain ⟨b, off, e, hl, hc⟩ := h hn
  exact ⟨b, off, e, Nat.lt_of_lt_of_le hl hb.size, fun i hi j hj => (hb.cell (p := ⟨b, _, none⟩) hl).trans (hc i hi j hj)⟩
theorem ndL_own {W : World} {base : Nat} {A : Option Addr} {c : Nat} {N : List Nd} (h : W.ownsRow base 66 10 (.slice A N.length c) N.length (ndC N)) : NdL W A N := fun hn => by
  obtain ⟨_, h1 | ⟨g, cap, cur, h1, h2, h3, _⟩⟩ := id h
  · omega
  · simp only [Value.slice.injEq] at h1
    obtain ⟨rfl, _, rfl⟩ := h1
    refine ⟨g, 0, rfl, (Array.getElem?_eq_some_iff.1 h3).1, fun i hi j hj => ?_⟩
    rw [Nat.zero_add, h.cellAt (i * 10 + j) (by omega), ndC_at N i hi j hj]
/-- The tree over n boxes. -/
def bvT (B : Nat → Bx) (leaf n : Nat) : Tr := growT B leaf 60 0 (List.range n)
def TrZ (A1 : Option Addr) (n1 c1 : Nat) (A2 : Option Addr) (n2 c2 : Nat) : Value := .agg #[.slice A1 n1 c1, .slice A2 n2 c2]
/-- What Build answers. -/
def BldP (W' : World) (e : Ending) (B : Nat → Bx) (n : Nat) (leaf : Int) : Prop :=
  (leaf < 1 ∧ e = .returned (.tuple #[TrZ none 0 0 none 0 0, .int .i64 20])) ∨ (1 ≤ leaf ∧ allOk B n = false ∧ e = .returned (.tuple #[TrZ none 0 0 none 0 0, .int .i64 21])) ∨ (1 ≤ leaf ∧ allOk B n = true ∧ n = 0 ∧ e = .returned (.tuple #[TrZ none 0 0 none 0 0, .int .i64 0])) ∨
  (1 ≤ leaf ∧ allOk B n = true ∧ 0 < n ∧ ∃ A1 c1 A2 c2, e = .returned (.tuple #[TrZ A1 (bvT B leaf.toNat n).sz c1 A2 n c2, .int .i64 0]) ∧ NdL W' A1 ((bvT B leaf.toNat n).lay B 0) ∧ IL W' A2 (zL (bvT B leaf.toNat n).its) ∧ n ≤ c2)
theorem brng3 {W : World} {b o : Nat} {x y z : Value} (h0 : W.cell? ⟨b, o, none⟩ = some x) (h1 : W.cell? ⟨b, o + 1, none⟩ = some y) (h2 : W.cell? ⟨b, o + 2, none⟩ = some z) : W.rangeAt b o [x, y, z] := fun j v hv => by
  match j, hv with
  | 0, hv => simp at hv; subst hv; exact h0
  | 1, hv => simp at hv; subst hv; exact h1
  | 2, hv => simp at hv; subst hv; exact h2
  | j + 3, hv => simp at hv
theorem bldm_run (a : Act) (o : Oper) (w : World) (ty : TypeId) (x : Operand) (ho : o.op = .load ty x) (b off : Nat) (hx : a.eval x = .pointer (some ⟨b, off, none⟩)) (cs : List Value) (d : TypeDesc) (hc : w.rangeAt b off cs)
    (hu : Try.prog.underlying ty = some d) (hd : d.isRow = true) (hi : (Try.prog.info? ty).map (·.size) = some cs.length) : (execOp a.eval o).run Try.prog w = .ok (.value (.agg cs.toArray)) w := by
  unfold execOp
  simp only [ho, hx, Instr.loadAt, Instr.sureAddr, Sem.run_bind, Sem.run_pure, Result.andThen_ok, run_loadVar_mid w b off ty cs d hc hu hd hi]
theorem infoV3B {x y z : Value} : (Try.prog.info? 23).map (·.size) = some [x, y, z].length := by kernel_rfl
theorem infoBxM : (Try.prog.info? 43).map (fun i => (i.zero, i.size, i.bytes)) = some (some (.agg #[.int .i64 0, .int .i64 0, .int .i64 0, .int .i64 0, .int .i64 0, .int .i64 0]), 6, 48) := by kernel_rfl
set_option maxHeartbeats 4000000 in
theorem build_any (W : World) (A : Option Addr) (n c : Nat) (B : Nat → Bx) (hB : BxR W A n B) (hn : n ≤ 300) (leaf : Int) (hl : -9223372036854775808 ≤ leaf ∧ leaf ≤ 9223372036854775807) :
    Calls Try.prog 19 #[.slice A n c, .int .i64 leaf] W fun e W' => Below W.heap.size W W' ∧ BldP W' e B n leaf := by
  by_cases h1 : leaf < 1
  · go_enter Try.func19, Try.ntmps19
    go_wp2_with fail
    refine bodyPost_ret (v := .tuple #[TrZ none 0 0 none 0 0, .int .i64 20]) (by simp [results, Try.results19, go_sem, TrZ]) rfl ⟨(by repeat (first | exact Below.refl _ _ | refine bel_then ?_ _ | refine bel_grow ?_ _ | refine bel_alloc ?_ _ | refine bel_drew ?_ | refine bel_set ?_ (by simp) _ | refine bel_setRow ?_ (by first | omega | (simp; done) | (refine Nat.le_trans ?_ (top_le _ _); simp; done) | (refine Nat.le_succ_of_le (Nat.le_trans ?_ (top_le _ _)); simp; done) | (refine Nat.le_trans ?_ (top_le _ _); simp only [World.size_alloc]; refine Nat.le_succ_of_le (Nat.le_trans ?_ (top_le _ _)); simp; done)) _)), .inl ⟨h1, rfl⟩⟩
  have hb0 : Below W.heap.size W (W.alloc (.cells #[.slice none 0 0, .slice none 0 0] 56)) := bel_alloc (Below.refl _ _) _
  replace h1 : 1 ≤ leaf := by omega
  have hnl : ¬ leaf < 1 := by omega
  go_enter Try.func19, Try.ntmps19
  go_upto_region 3 with (fail)
  have kF := hasFar_any (W.alloc (.cells #[.slice none 0 0, .slice none 0 0] 56)) A n c B (hB.below hb0) (by omega)
  have hR0 : Blk (W.alloc (.cells #[.slice none 0 0, .slice none 0 0] 56)) W.heap.size 56 #[.slice none 0 0, .slice none 0 0] := Blk.new _ _ _ _ rfl
  generalize (W.alloc (.cells #[.slice none 0 0, .slice none 0 0] 56)) = W0 at *
  cases hok : allOk B n
  · rw [hok] at kF
    go_upto_region 4 with (first | (go_at_call 45; (with_reducible refine kF.mono ?_); rintro e W1 ⟨rfl, hb1⟩) | fail)
    have hR1 := hR0.below hb1
    have r0 := hR1.cell 0
    have r1 := hR1.cell 1
    have rl := hR1.lt
    have fr0 := hR1.frozen 0
    have fr1 := hR1.frozen 1
    go_wp2_with fail
    refine bodyPost_ret (v := .tuple #[TrZ none 0 0 none 0 0, .int .i64 21]) (by simp [results, Try.results19, go_sem, TrZ, r0, r1]) rfl ⟨bel_set (bel_set (bel_trans hb0 hb1) (by simp) _) (by simp) _, .inr (.inl ⟨h1, hok, rfl⟩)⟩
  rw [hok] at kF
  by_cases hz : n = 0
  · subst hz
    go_upto_region 6 with (first | (go_at_call 45; (with_reducible refine kF.mono ?_); rintro e W1 ⟨rfl, hb1⟩) | fail)
    have hR1 := hR0.below hb1
    have r0 := hR1.cell 0
    have r1 := hR1.cell 1
    have rl := hR1.lt
    have fr0 := hR1.frozen 0
    have fr1 := hR1.frozen 1
    go_wp2_with fail
    refine bodyPost_ret (v := .tuple #[TrZ none 0 0 none 0 0, .int .i64 0]) (by simp [results, Try.results19, go_sem, TrZ, r0, r1]) rfl ⟨bel_set (bel_set (bel_trans hb0 hb1) (by simp) _) (by simp) _, .inr (.inr (.inl ⟨h1, hok, rfl, rfl⟩))⟩
  have hz2 : ((n : Int) == 0) = false := by simp; omega
  have hz1 : (0 : Int) < (n : Int) := by omega
  go_upto_region 7 with (first | (go_at_call 45; (with_reducible refine kF.mono ?_); rintro e W1 ⟨rfl, hb1⟩) | fail)
  have hR1 := hR0.below hb1
  have hb1' := bel_trans hb0 hb1
  clear hb0 hb1 hR0 kF
  obtain ⟨i0, hi0, hz0, hzs, hzb⟩ := binfo_of infoBxM
  obtain ⟨i1, hi1, hy0, hys, hyb⟩ := binfo_of infoIntB
  go_upto_region 8 with (first | ((refine wpList_make_full _ rfl _ _ 52 rfl W1.heap.size 43 i0 _ 6 Try.underlying52 hi0 hz0 hzs .i64 .i64 (n : Int) (n : Int) n rfl rfl rfl rfl (by rw [hzb]; omega) (by unfold maxLen; omega) (Nat.le_refl _) ?_); intro W2 own2 hg2) | fail)
  have hM2 := bmade_blk own2
  rw [show (Value.agg #[Value.int .i64 0, Value.int .i64 0, Value.int .i64 0, Value.int .i64 0, Value.int .i64 0, Value.int .i64 0]).cells = #[.int .i64 0, .int .i64 0, .int .i64 0, .int .i64 0, .int .i64 0, .int .i64 0] from rfl, mdC_zero B] at hM2
  have hb2 : Below W1.heap.size W1 W2 := ⟨hg2.os, hg2.tape, hg2.output, hg2.size, fun k hk => hg2.block k hk (by simp)⟩
  have hR2 := hR1.below hb2
  have hb2' := bel_trans hb1' hb2
  have hgmW : W.heap.size ≤ W1.heap.size := hb1'.size
  have hgml := hM2.lt
  clear own2 hg2 hb1' hb2 hR1
  generalize W1.heap.size = gm at *
  obtain ⟨W3, hW3⟩ : ∃ W3, W3 = W2.alloc (.cells #[.slice none 0 0, .slice none 0 0, .slice A n c, .slice (some ⟨gm, 0, none⟩) n n, .int .i64 leaf] 107) := ⟨_, rfl⟩
  rw [← hW3]
  have hb3 : Below W2.heap.size W2 W3 := by rw [hW3]; exact bel_alloc (Below.refl _ _) _
  have hG3 : Blk W3 W2.heap.size 107 #[.slice none 0 0, .slice none 0 0, .slice A n c, .slice (some ⟨gm, 0, none⟩) n n, .int .i64 leaf] := by rw [hW3]; exact Blk.new _ _ _ _ rfl
  have hM3 := hM2.below hb3
  have hR3 := hR2.below hb3
  have hb3' := bel_trans hb2' hb3
  have hg0W := hb2'.size
  have hgm0 : gm < W2.heap.size := hgml
  clear hW3 hb3 hM2 hR2 hb2' hgml
  generalize W2.heap.size = g0 at *
  go_upto_region 9 with (first | ((refine wpList_make_full _ rfl _ _ 54 rfl W3.heap.size 3 i1 _ 1 Try.underlying54 hi1 hy0 hys .i64 .i64 (n : Int) (n : Int) n rfl rfl rfl rfl (by rw [hyb]; omega) (by unfold maxLen; omega) (Nat.le_refl _) ?_); intro W4 own4 hg4; have hb4 : Below W3.heap.size W3 W4 := ⟨hg4.os, hg4.tape, hg4.output, hg4.size, fun k hk => hg4.block k hk (by simp)⟩; have hG4 := hG3.below hb4; have g4l := hG4.lt; have g41 := hG4.cell 1; have g4f := hG4.frozen 1) | fail)
  have hI4 := bmade_blk own4
  rw [show (Value.int .i64 0).cells = #[.int .i64 0] from rfl, itC_zero n] at hI4
  have hgi3 : W3.heap.size ≤ W4.heap.size := hb4.size
  have hg0l : g0 < W3.heap.size := hG3.lt
  have hM4 := hM3.below hb4
  have hR4 := hR3.below hb4
  have hb4' := bel_trans hb3' hb4
  have hgiW := hb3'.size
  clear own4 hg4 g41 g4f g4l hb4 hb3' hM3 hR3 hG3
  generalize W3.heap.size = gi at *
  have hne1 : g0 ≠ gi := by omega
  have hne2 : g0 ≠ gm := by omega
  have hne3 : gi ≠ gm := by omega
  have hG5 : Blk (W4.setCell ⟨g0, 1, none⟩ (.slice (some ⟨gi, 0, none⟩) n n)) g0 107 #[.slice none 0 0, .slice (some ⟨gi, 0, none⟩) n n, .slice A n c, .slice (some ⟨gm, 0, none⟩) n n, .int .i64 leaf] := hG4.set 1 _
  have hI5 : Blk (W4.setCell ⟨g0, 1, none⟩ (.slice (some ⟨gi, 0, none⟩) n n)) gi 3 (itC 0 n) := hI4.far _ _ hne1
  have hM5 : Blk (W4.setCell ⟨g0, 1, none⟩ (.slice (some ⟨gi, 0, none⟩) n n)) gm 43 (mdC B 0 n) := hM4.far _ _ hne2
  have hR5 : Blk (W4.setCell ⟨g0, 1, none⟩ (.slice (some ⟨gi, 0, none⟩) n n)) W.heap.size 56 #[.slice none 0 0, .slice none 0 0] := hR4.far _ _ (by have := hG4.ne_ hR4 (by decide); exact this)
  have hb5 : Below W.heap.size W (W4.setCell ⟨g0, 1, none⟩ (.slice (some ⟨gi, 0, none⟩) n n)) := bel_set hb4' hg0W _
  have hgi5 : gi < (W4.setCell ⟨g0, 1, none⟩ (.slice (some ⟨gi, 0, none⟩) n n)).heap.size := hI5.lt
  clear hG4 hI4 hM4 hR4 hb4' hgi3
  generalize (W4.setCell ⟨g0, 1, none⟩ (.slice (some ⟨gi, 0, none⟩) n n)) = W5 at *
  obtain ⟨bt, hbt⟩ : ∃ b, b = W.heap.size := ⟨_, rfl⟩
  rw [← hbt] at hR5 ⊢
  have hbt2 : W.heap.size ≤ bt := by omega
  have hbt3 : bt < W5.heap.size := hR5.lt
  have hbg : bt ≠ gi ∧ bt ≠ gm ∧ bt ≠ g0 := ⟨hR5.ne_ hI5 (by decide), hR5.ne_ hM5 (by decide), hR5.ne_ hG5 (by decide)⟩
  replace hbt := Lib.hid hbt
  have hall := (allOk_iff B n).1 hok
  go_wp2
  go_loopw [36, 7, 8, 9] (fun iv bv cv dv wr => ∃ k : Nat, iv = .int .i64 (k : Int) ∧ k ≤ n ∧ Below W.heap.size W wr ∧ W5.heap.size ≤ wr.heap.size ∧ Blk wr g0 107 #[.slice none 0 0, .slice (some ⟨gi, 0, none⟩) n n, .slice A n c, .slice (some ⟨gm, 0, none⟩) n n, .int .i64 leaf] ∧ Blk wr gi 3 (itC k n) ∧ Blk wr gm 43 (mdC B k n) ∧ Blk wr bt 56 #[.slice none 0 0, .slice none 0 0]) (fun iv _ _ _ _ => n - (intOf iv).toNat)
  case atStart => exact ⟨0, rfl, by omega, hb5, Nat.le_refl _, hG5, hI5, hM5, hR5⟩
  case round =>
    obtain ⟨k, rfl, hk, hbr, hsr, hGr, hIr, hMr, hRr⟩ := hrel
    clear hb5 hG5 hI5 hM5 hR5
    by_cases hkn : k < n
    · obtain ⟨bb, off, rfl, hbl, c0, c1, c2, c3, c4, c5⟩ := (hB.below hbr).at_ k hkn
      have q0 : (0 : Int) ≤ (k : Int) := by omega
      have q1 : (k : Int) < (n : Int) := by omega
      obtain ⟨⟨⟨a1, a2⟩, ⟨a3, a4⟩, a5, a6⟩, ⟨a7, a8⟩, ⟨a9, a10⟩, a11, a12⟩ := okBx_iff.1 (hall k hkn)
      have kV := vAdd_any (B k).lo.x (B k).lo.y (B k).lo.z (B k).hi.x (B k).hi.y (B k).hi.z
      rw [wrap_id (by omega) (by omega), wrap_id (by omega) (by omega), wrap_id (by omega) (by omega)] at kV
      clear a1 a2 a3 a4 a5 a6 a7 a8 a9 a10 a11 a12
      have emB : bxC (mB B k) = #[.int .i64 ((B k).lo.x + (B k).hi.x), .int .i64 ((B k).lo.y + (B k).hi.y), .int .i64 ((B k).lo.z + (B k).hi.z), .int .i64 ((B k).lo.x + (B k).hi.x), .int .i64 ((B k).lo.y + (B k).hi.y), .int .i64 ((B k).lo.z + (B k).hi.z)] := rfl
      clear emB
      have kV' : Gives Try.prog 40 #[.agg #[.int .i64 ((B k).lo).x, .int .i64 ((B k).lo).y, .int .i64 ((B k).lo).z], .agg #[.int .i64 ((B k).hi).x, .int .i64 ((B k).hi).y, .int .i64 ((B k).hi).z]] (.agg #[.int .i64 (mdB (B k)).x, .int .i64 (mdB (B k)).y, .int .i64 (mdB (B k)).z]) := kV
      have hMs := fun (U : World) (hU : Blk U gm 43 (mdC B k n)) => mdC_set hU hkn
      rw [show bxC (mB B k) = #[.int .i64 (mdB (B k)).x, .int .i64 (mdB (B k)).y, .int .i64 (mdB (B k)).z, .int .i64 (mdB (B k)).x, .int .i64 (mdB (B k)).y, .int .i64 (mdB (B k)).z] from rfl] at hMs
      clear kV
      generalize mdB (B k) = mm at *
      generalize hbk : B k = bk at c0 c1 c2 c3 c4 c5 kV'
      clear hbk
      go_upto_region 13 with (first | (go_at_call 40; (with_reducible refine (kV'.at_ _).mono ?_); rintro e w' ⟨rfl, xg, rfl⟩) | fail)
      obtain ⟨W7, hW7⟩ : ∃ W7, W7 = grow (wr.alloc (.cells (#[.int .i64 bk.lo.x, .int .i64 bk.lo.y, .int .i64 bk.lo.z, .int .i64 bk.hi.x, .int .i64 bk.hi.y, .int .i64 bk.hi.z]) 43)) xg := ⟨_, rfl⟩
      have hb7 : Below wr.heap.size wr W7 := by rw [hW7]; exact bel_grow (bel_alloc (Below.refl _ _) _) xg
      simp only [← hW7]
      clear hW7
      have hb8 : Below wr.heap.size wr (W7.alloc (.cells #[.int .i64 mm.x, .int .i64 mm.y, .int .i64 mm.z] 23)) := bel_alloc hb7 _
      have hV8 : Blk (W7.alloc (.cells #[.int .i64 mm.x, .int .i64 mm.y, .int .i64 mm.z] 23)) W7.heap.size 23 #[.int .i64 mm.x, .int .i64 mm.y, .int .i64 mm.z] := Blk.new _ _ _ _ rfl
      have hb8' := bel_trans hbr hb8
      have hs8 := Nat.le_trans hsr hb8.size
      have hG8 := hGr.below hb8
      have hI8 := hIr.below hb8
      have hM8 := hMr.below hb8
      have hR8 := hRr.below hb8
      clear hb7 hb8 hGr hIr hMr hRr hbl c0 c1 c2 c3 c4 c5 kV' hbr hsr
      generalize W7.alloc (.cells #[.int .i64 mm.x, .int .i64 mm.y, .int .i64 mm.z] 23) = W8 at *
      generalize W7.heap.size = gv at *
      have hvg := hV8.ne_ hG8 (by decide)
      have hvi : gi ≠ gv := Ne.symm (hV8.ne_ hI8 (by decide))
      have hvm : gm ≠ gv := Ne.symm (hV8.ne_ hM8 (by decide))
      obtain ⟨us, hu_0, hu_1, hu_2⟩ := us3 W8.drew (W8.setCell ⟨gi, k, none⟩ (.int .i64 (k : Int))).drew (((W8.setCell ⟨gi, k, none⟩ (.int .i64 (k : Int))).drew).setCells gm (k * 6) (#[.int .i64 mm.x, .int .i64 mm.y, .int .i64 mm.z, .int .i64 mm.x, .int .i64 mm.y, .int .i64 mm.z] : Array Value).toList)
      have keep : ∀ {g : Nat} {t : TypeId} {cs : Array Value}, Blk W8 g t cs → gi ≠ g → gm ≠ g → ∀ u, (∃ j, j ≤ [12, 14].length ∧ u = us j) → Blk u g t cs := fun {g t cs} hB e1 e2 u ⟨j, hj, hu⟩ => by
        have hj3 : j ≤ 2 := hj
        rcases (by omega : j = 0 ∨ j = 1 ∨ j = 2) with rfl | rfl | rfl
        · rw [hu, hu_0]; exact hB
        · rw [hu, hu_1]; exact (hB.far _ _ e1).drew
        · rw [hu, hu_2]; exact bfar_cells e2 _ _ _ _ (hB.far _ _ e1).drew
      have hn1 : ∀ u, (∃ j, j ≤ [12, 14].length ∧ u = us j) → u.cell? ⟨g0, 1, none⟩ = some (.slice (some ⟨gi, 0, none⟩) n n) := fun u hu => (keep hG8 (Ne.symm hne1) (Ne.symm hne2) u hu).cell 1
      have hn3 : ∀ u, (∃ j, j ≤ [12, 14].length ∧ u = us j) → u.cell? ⟨g0, 3, none⟩ = some (.slice (some ⟨gm, 0, none⟩) n n) := fun u hu => (keep hG8 (Ne.symm hne1) (Ne.symm hne2) u hu).cell 3
      have hv0 : ∀ u, (∃ j, j ≤ [12, 14].length ∧ u = us j) → u.cell? ⟨gv, 0, none⟩ = some (.int .i64 mm.x) := fun u hu => (keep hV8 hvi hvm u hu).cell 0
      have hv1 : ∀ u, (∃ j, j ≤ [12, 14].length ∧ u = us j) → u.cell? ⟨gv, 0 + 1, none⟩ = some (.int .i64 mm.y) := fun u hu => (keep hV8 hvi hvm u hu).cell 1
      have hv2 : ∀ u, (∃ j, j ≤ [12, 14].length ∧ u = us j) → u.cell? ⟨gv, 0 + 2, none⟩ = some (.int .i64 mm.z) := fun u hu => (keep hV8 hvi hvm u hu).cell 2
      have hc1 : W8.cell? ⟨gi, k, none⟩ = some (.int .i64 0) := by rw [hI8.cell, itC_at _ _ _ hkn, if_neg (by omega)]
      have hf1 : W8.frozen? ⟨gi, k, none⟩ = false := hI8.frozen _
      have gil := hI8.lt
      have hth : ((W8.setCell ⟨gi, k, none⟩ (.int .i64 (k : Int))).drew).there gm (k * 6) 6 := mdC_there (hM8.far _ _ hne3).drew hkn
      have qk0 := q0
      have qk1 := q1
      refine wp_region_monoK2 15 (RKb [.pointer (some ⟨g0, 0, none⟩), .pointer (some ⟨g0, 1, none⟩), .slice (some ⟨gi, 0, none⟩) n n, .int .i64 (k : Int), .pointer (some ⟨g0, 3, none⟩), .slice (some ⟨gm, 0, none⟩) n n, .int .i64 (k : Int), .int .i64 (k : Int), .agg #[.int .i64 mm.x, .int .i64 mm.y, .int .i64 mm.z], .agg #[.int .i64 mm.x, .int .i64 mm.y, .int .i64 mm.z], .agg #[.int .i64 mm.x, .int .i64 mm.y, .int .i64 mm.z, .int .i64 mm.x, .int .i64 mm.y, .int .i64 mm.z], .pointer (some ⟨gi, k, none⟩), undef, .pointer (some ⟨gm, k * 6, none⟩), undef]) (PhN [12, 14] us) (by kernel_rfl) _ rfl (by kernel_rfl) (by kernel_rfl) (by kernel_rfl) (by kernel_rfl) (by kernel_rfl) (by have h := phN_start (ps := [12, 14]) (us := us) (n := 15) (by decide); rw [hu_0] at h; exact h) ?_ ?_
      · simp only [List.take_succ_cons, List.take_zero]
        refine ⟨?_, ?_, ?_, ?_, ?_, ?_, ?_, ?_, ?_, ?_, ?_, ?_, ?_, ?_, ?_, ?_⟩
        · refine monoN_read rfl (by decide) (fun a u hu hk hp => ?_)
          have es6 := (hk 6 (keep_of (by kernel_rfl))).trans (show _ = some (.pointer (some ⟨g0, 0, none⟩)) from rfl)
          exact ⟨_, by simp [execOp, go_sem, es6], rfl⟩
        · refine monoN_read rfl (by decide) (fun a u hu hk hp => ?_)
          obtain ⟨x0, ex0, rx0⟩ := hp ⟨0, .data⟩ (by simp) rfl _ _ rfl rfl
          obtain rfl : x0 = _ := rx0
          exact ⟨_, by simp [execOp, go_sem, ex0], rfl⟩
        · refine monoN_read rfl (by decide) (fun a u hu hk hp => ?_)
          obtain ⟨x1, ex1, rx1⟩ := hp ⟨1, .data⟩ (by simp) rfl _ _ rfl rfl
          obtain rfl : x1 = _ := rx1
          have fc0 := hn1 u hu
          exact ⟨_, by simp [execOp, go_sem, ex1, fc0], rfl⟩
        · refine monoN_read rfl (by decide) (fun a u hu hk hp => ?_)
          have es7 := (hk 7 (keep_of (by kernel_rfl))).trans (show _ = some (.int .i64 (k : Int)) from rfl)
          exact ⟨_, by simp [execOp, go_sem, es7], rfl⟩
        · refine monoN_read rfl (by decide) (fun a u hu hk hp => ?_)
          have es6 := (hk 6 (keep_of (by kernel_rfl))).trans (show _ = some (.pointer (some ⟨g0, 0, none⟩)) from rfl)
          exact ⟨_, by simp [execOp, go_sem, es6], rfl⟩
        · refine monoN_read rfl (by decide) (fun a u hu hk hp => ?_)
          obtain ⟨x4, ex4, rx4⟩ := hp ⟨4, .data⟩ (by simp) rfl _ _ rfl rfl
          obtain rfl : x4 = _ := rx4
          have fc0 := hn3 u hu
          exact ⟨_, by simp [execOp, go_sem, ex4, fc0], rfl⟩
        · refine monoN_read rfl (by decide) (fun a u hu hk hp => ?_)
          have es7 := (hk 7 (keep_of (by kernel_rfl))).trans (show _ = some (.int .i64 (k : Int)) from rfl)
          exact ⟨_, by simp [execOp, go_sem, es7], rfl⟩
        · refine monoN_read rfl (by decide) (fun a u hu hk hp => ?_)
          have es7 := (hk 7 (keep_of (by kernel_rfl))).trans (show _ = some (.int .i64 (k : Int)) from rfl)
          exact ⟨_, by simp [execOp, go_sem, es7], rfl⟩
        · refine monoN_read rfl (by decide) (fun a u hu hk hp => ?_)
          have es9 := (hk 9 (keep_of (by kernel_rfl))).trans (show _ = some (.pointer (some ⟨gv, 0, none⟩)) from rfl)
          have fc0 := hv0 u hu
          have fc1 := hv1 u hu
          have fc2 := hv2 u hu
          exact ⟨_, bldm_run _ _ _ 23 _ rfl (gv) (0) (eval_tmp es9) _ _ (brng3 fc0 fc1 fc2) Try.underlying23 rfl infoV3B, rfl⟩
        · refine monoN_read rfl (by decide) (fun a u hu hk hp => ?_)
          have es9 := (hk 9 (keep_of (by kernel_rfl))).trans (show _ = some (.pointer (some ⟨gv, 0, none⟩)) from rfl)
          have fc0 := hv0 u hu
          have fc1 := hv1 u hu
          have fc2 := hv2 u hu
          exact ⟨_, bldm_run _ _ _ 23 _ rfl (gv) (0) (eval_tmp es9) _ _ (brng3 fc0 fc1 fc2) Try.underlying23 rfl infoV3B, rfl⟩
        · refine monoN_read rfl (by decide) (fun a u hu hk hp => ?_)
          obtain ⟨x8, ex8, rx8⟩ := hp ⟨8, .data⟩ (by simp) rfl _ _ rfl rfl
          obtain rfl : x8 = _ := rx8
          obtain ⟨x9, ex9, rx9⟩ := hp ⟨9, .data⟩ (by simp) rfl _ _ rfl rfl
          obtain rfl : x9 = _ := rx9
          exact ⟨_, by simp [execOp, go_sem, ex8, ex9], rfl⟩
        · refine monoN_read rfl (by decide) (fun a u hu hk hp => ?_)
          obtain ⟨x2, ex2, rx2⟩ := hp ⟨2, .data⟩ (by simp) rfl _ _ rfl rfl
          obtain rfl : x2 = _ := rx2
          obtain ⟨x3, ex3, rx3⟩ := hp ⟨3, .data⟩ (by simp) rfl _ _ rfl rfl
          obtain rfl : x3 = _ := rx3
          have fc0 := qk0
          have fc1 := qk1
          exact ⟨_, by simp [execOp, go_sem, ex2, ex3, fc0, fc1], rfl⟩
        · refine monoN_store rfl rfl 0 (by decide) rfl (by decide) (.inl rfl) (fun a hk hp => ?_)
          rw [hu_0, hu_1]
          obtain ⟨x11, ex11, rx11⟩ := hp ⟨11, .data⟩ (by simp) rfl _ _ rfl rfl
          obtain rfl : x11 = _ := rx11
          obtain ⟨x7, ex7, rx7⟩ := hp ⟨7, .data⟩ (by simp) rfl _ _ rfl rfl
          obtain rfl : x7 = _ := rx7
          have fc0 := hc1
          have fc1 := hf1
          have fc2 := gil
          simp [execOp, go_sem, ex11, ex7, fc0, fc1, fc2]
        · refine monoN_read rfl (by decide) (fun a u hu hk hp => ?_)
          obtain ⟨x5, ex5, rx5⟩ := hp ⟨5, .data⟩ (by simp) rfl _ _ rfl rfl
          obtain rfl : x5 = _ := rx5
          obtain ⟨x6, ex6, rx6⟩ := hp ⟨6, .data⟩ (by simp) rfl _ _ rfl rfl
          obtain rfl : x6 = _ := rx6
          have fc0 := qk0
          have fc1 := qk1
          exact ⟨_, by simp [execOp, go_sem, ex5, ex6, fc0, fc1], rfl⟩
        · refine monoN_store rfl rfl 1 (by decide) rfl (by decide) (.inr ⟨⟨12, .chain⟩, by simp, rfl, rfl⟩) (fun a hk hp => ?_)
          rw [hu_1, hu_2]
          obtain ⟨x13, ex13, rx13⟩ := hp ⟨13, .data⟩ (by simp) rfl _ _ rfl rfl
          obtain rfl : x13 = _ := rx13
          obtain ⟨x10, ex10, rx10⟩ := hp ⟨10, .data⟩ (by simp) rfl _ _ rfl rfl
          obtain rfl : x10 = _ := rx10
          exact brun_mid 43 _ _ rfl gm (k * 6) _ (eval_tmp ex13) (eval_tmp ex10) hth infoBxB (by simp [Value.oneCell'])
        · trivial
      · intro a wz listed hJ hall hsz hdf hk hgot
        have hwz := phN_end hJ (by decide) hall
        simp only [List.length_cons, List.length_nil, Nat.reduceAdd, hu_2] at hwz
        clear hJ
        subst hwz
        obtain ⟨vv0, ev0, rv0⟩ := hgot 0 _ 46 rfl rfl
        obtain rfl : vv0 = _ := rv0
        obtain ⟨f, hf, rfl⟩ := frame_eq hsz hdf hk [46, 47, 48, 49, 50, 51, 52, 53, 54, 55, 56, 57, 58] (by rfl)
        have f46 := hf 46 _ ev0
        clear hsz hdf hk hgot hf hall ev0
        simp only [List.drop_succ_cons, List.drop_zero, setAll, List.setIfInBounds_toArray, List.set_cons_succ, List.set_cons_zero, f46]
        clear f46
        generalize f 47 = uu47; generalize f 48 = uu48; generalize f 49 = uu49; generalize f 50 = uu50; generalize f 51 = uu51; generalize f 52 = uu52; generalize f 53 = uu53; generalize f 54 = uu54; generalize f 55 = uu55; generalize f 56 = uu56; generalize f 57 = uu57; generalize f 58 = uu58
        have hI9 : Blk (((W8.setCell ⟨gi, k, none⟩ (.int .i64 (k : Int))).drew).setCells gm (k * 6) (#[.int .i64 mm.x, .int .i64 mm.y, .int .i64 mm.z, .int .i64 mm.x, .int .i64 mm.y, .int .i64 mm.z] : Array Value).toList) gi 3 (itC (k + 1) n) := by
          have := hI8.set k (.int .i64 (k : Int))
          rw [itC_set hkn] at this
          exact bfar_cells (Ne.symm hne3) _ _ _ _ this.drew
        have hM9 := hMs _ (hM8.far (b := gi) k (.int .i64 (k : Int)) hne3).drew
        have hG9 := keep hG8 (Ne.symm hne1) (Ne.symm hne2) _ ⟨2, Nat.le_refl _, hu_2.symm⟩
        have hR9 := keep hR8 (Ne.symm hbg.1) (Ne.symm hbg.2.1) _ ⟨2, Nat.le_refl _, hu_2.symm⟩
        have hb9 : Below W.heap.size W (((W8.setCell ⟨gi, k, none⟩ (.int .i64 (k : Int))).drew).setCells gm (k * 6) (#[.int .i64 mm.x, .int .i64 mm.y, .int .i64 mm.z, .int .i64 mm.x, .int .i64 mm.y, .int .i64 mm.z] : Array Value).toList) := bbel_cells hgmW _ _ _ (bel_drew (bel_set hb8' (by exact hgiW) _))
        have hs9 : W5.heap.size ≤ (((W8.setCell ⟨gi, k, none⟩ (.int .i64 (k : Int))).drew).setCells gm (k * 6) (#[.int .i64 mm.x, .int .i64 mm.y, .int .i64 mm.z, .int .i64 mm.x, .int .i64 mm.y, .int .i64 mm.z] : Array Value).toList).heap.size := by rw [size_cells]; simpa [World.setCell, World.drew] using hs8
        clear hn1 hn3 hv0 hv1 hv2 hc1 hf1 hth keep hu_0 hu_1 hu_2
        generalize (((W8.setCell ⟨gi, k, none⟩ (.int .i64 (k : Int))).drew).setCells gm (k * 6) (#[.int .i64 mm.x, .int .i64 mm.y, .int .i64 mm.z, .int .i64 mm.x, .int .i64 mm.y, .int .i64 mm.z] : Array Value).toList) = W9 at *
        go_wp2
        go_roundw
        case rel => exact ⟨k + 1, by go_num, by omega, hb9, hs9, hG9, hI9, hM9, hR9⟩
        case measure => simp [intOf]; omega
    · obtain rfl : k = n := by omega
      rw [itC_all] at hIr
      have hMl := mdC_bl hMr
      have hlt : ((leaf.toNat : Nat) : Int) = leaf := by omega
      have hl0 : 0 < leaf.toNat := by omega
      have hl9 : leaf.toNat ≤ 9223372036854775807 := by omega
      have hGS : GrS wr.heap.size g0 gi A (some ⟨gm, 0, none⟩) k c k leaf.toNat B wr (.slice none 0 0) [] ([] ++ (List.range k ++ [])) := by
        refine ⟨?_, World.ownsRow_nil _ _ _ _, ?_, hB.below hbr, hMl, Nat.le_refl _⟩
        · rw [hlt]
          simp only [List.nil_append, List.append_nil, List.length_range]
          exact hGr
        · simp only [List.nil_append, List.append_nil]
          exact hIr
      have hGl := hGr.lt
      have hIl := hIr.lt
      have hMl2 := hMr.lt
      have hHH : GrH wr.heap.size g0 gi A (some ⟨gm, 0, none⟩) k leaf.toNat B := by
        refine ⟨hGl, hIl, fun b o e => ?_, fun b o e => ?_, by omega, ⟨hl0, hl9⟩, hall⟩
        · obtain ⟨b', o', e', hbl, _⟩ := hB (by omega)
          rw [e'] at e
          cases e
          have := hbr.size
          omega
        · cases e
          exact ⟨hMl2, Ne.symm hne2, Ne.symm hne3⟩
      have hlr : (List.range k).length = k := List.length_range
      have kG := bgrow_any wr.heap.size g0 gi A (some ⟨gm, 0, none⟩) k c k leaf.toNat B hHH 60 wr (.slice none 0 0) [] [] (List.range k) [] hGS (by omega) (by rw [hlr]; exact Nat.le_trans hn (by decide)) (fun i hi => by simpa using hi) (by simp; omega) (by simp)
      rw [hlr] at kG
      simp only [List.length_nil, List.nil_append, List.append_nil] at kG
      rw [show growT B leaf.toNat 60 0 (List.range k) = bvT B leaf.toNat k from rfl] at kG
      simp only [show ((0 : Nat) : Int) = 0 from rfl] at kG
      have hto : (bvT B leaf.toNat k).its.length = k := by rw [show bvT B leaf.toNat k = growT B leaf.toNat 60 0 (List.range k) from rfl, (grow_its _ _ _ _ _).length_eq, hlr]
      have hbt4 : bt < wr.heap.size := hRr.lt
      replace hto := Lib.hid hto
      replace hlt := Lib.hid hlt
      clear hMl hGS hHH hlr hMr hIr hGr
      go_upto_region 16 with (first | (go_at_call 47; (with_reducible refine kG.mono ?_); rintro e W6 ⟨rfl, v6, hG6, hK6⟩) | fail)
      clear kG
      obtain ⟨A1, c1, rfl⟩ := bown_form hG6.own
      have hN6 := ndL_own hG6.own
      have hI6 := il_seg (I0 := []) (I1 := []) (by simpa using hG6.its : Blk W6 gi 3 (znC ([] ++ ((bvT B leaf.toNat k).its ++ []))).toArray)
      have b0 := hG6.blk.cell 0
      have b1 := hG6.blk.cell 1
      have bl6 := hG6.blk.lt
      rw [hto.out] at b1
      have hR6 := hK6.blk (⟨hbt4, hbg.2.2, hbg.1⟩ : KpG wr.heap.size g0 gi bt) hRr
      have hb6 : Below W.heap.size W W6 := hbr.trans (hK6.below (fun b hb => ⟨Nat.lt_of_lt_of_le hb hbr.size, by omega, by omega⟩))
      rw [lay_len] at b0
      have r0 := hR6.cell 0
      have r1 := hR6.cell 1
      have rl := hR6.lt
      have fr0 := hR6.frozen 0
      have fr1 := hR6.frozen 1
      go_wp2_with fail
      have hRe := (hR6.set 0 (.slice A1 (bvT B leaf.toNat k).sz c1)).set 1 (.slice (some ⟨gi, 0, none⟩) k k)
      have hBe : Below W.heap.size W ((W6.setCell ⟨bt, 0, none⟩ (.slice A1 (bvT B leaf.toNat k).sz c1)).setCell ⟨bt, 1, none⟩ (.slice (some ⟨gi, 0, none⟩) k k)) := bel_set (bel_set hb6 (by exact hbt2) _) (by exact hbt2) _
      have hNe : NdL ((W6.setCell ⟨bt, 0, none⟩ (.slice A1 (bvT B leaf.toNat k).sz c1)).setCell ⟨bt, 1, none⟩ (.slice (some ⟨gi, 0, none⟩) k k)) A1 ((bvT B leaf.toNat k).lay B 0) := fun hn => by
        obtain ⟨b, off, e, hl, hc⟩ := hN6 hn
        obtain ⟨hbb, cs, hcs⟩ := bown_block hG6.own b (by rw [e]; rfl)
        have hne : bt ≠ b := Ne.symm (hcs.ne_ hR6 (by decide))
        refine ⟨b, off, e, by simpa [World.setCell] using hl, fun i hi j hj => ?_⟩
        rw [((hcs.far 0 _ hne).far 1 _ hne).cell, ← hcs.cell]
        exact hc i hi j hj
      have hIe : IL ((W6.setCell ⟨bt, 0, none⟩ (.slice A1 (bvT B leaf.toNat k).sz c1)).setCell ⟨bt, 1, none⟩ (.slice (some ⟨gi, 0, none⟩) k k)) (some ⟨gi, 0, none⟩) (zL (bvT B leaf.toNat k).its) := by
        have hJ := (hG6.its.far 0 (.slice A1 (bvT B leaf.toNat k).sz c1) hbg.1).far 1 (.slice (some ⟨gi, 0, none⟩) k k) hbg.1
        exact il_seg (I0 := []) (I1 := []) (by simpa using hJ : Blk _ gi 3 (znC ([] ++ ((bvT B leaf.toNat k).its ++ []))).toArray)
      clear hN6 hI6 b0 b1 r0 r1 hR6 hG6 hK6 hb6
      generalize ((W6.setCell ⟨bt, 0, none⟩ (.slice A1 (bvT B leaf.toNat k).sz c1)).setCell ⟨bt, 1, none⟩ (.slice (some ⟨gi, 0, none⟩) k k)) = We at *
      have e0 := hRe.cell 0
      have e1 := hRe.cell 1
      refine bodyPost_ret (v := .tuple #[TrZ A1 (bvT B leaf.toNat k).sz c1 (some ⟨gi, 0, none⟩) k k, .int .i64 0]) (by simp [results, Try.results19, go_sem, TrZ, e0, e1]) rfl ⟨hBe, .inr (.inr (.inr ⟨h1, hok, by omega, A1, c1, some ⟨gi, 0, none⟩, k, rfl, hNe, hIe, Nat.le_refl _⟩))⟩
end Go.Proofs.Ythadlpkdfnonjaa
namespace Go.Proofs.Ythadlpkdfnonjaa
open Go.RowKit
set_option linter.unusedVariables false
set_option linter.unusedSimpArgs false
set_option linter.unnecessarySimpa false
set_option maxRecDepth 100000
theorem bown_take {W : World} {base : Nat} {e : TypeId} {A : Option Addr} {n c : Nat} {L : List Nat} (h : W.ownsRow base e 1 (.slice A n c) n (znC L)) (hn : 0 < n) : W.ownsRow base e 1 (.slice A (n - 1) c) (n - 1) (znC L.dropLast) := by
  obtain ⟨hl, ⟨h1, h2⟩ | ⟨g, cap, cur, h1, h2, h3, h4, h5, h6, h7⟩⟩ := h
  · omega
  · cases h1
    have hL : L.length = n := by rw [znC_len] at hl; omega
    refine ⟨by rw [znC_len, List.length_dropLast]; omega, .inr ⟨g, c, cur, rfl, h2, h3, by omega, h5, h6, ?_⟩⟩
    have e1 : znC L.dropLast = (znC L).dropLast := by unfold znC; rw [List.map_dropLast]
    rw [e1, ← h7, List.dropLast_eq_take]
    simp only [List.length_take, Array.length_toList, List.take_take]
    congr 1
    omega
/-- Trees that wait, the last first: where each of them lies. -/
def StL (B : Nat → Bx) (N : List Nd) (I : List Nat) (S : List (Nat × Tr)) : Prop := ∀ x ∈ S, Laid B N I x.1 x.2
def szS (S : List (Nat × Tr)) : Nat := (S.map fun x => x.2.sz).sum
def toS (B : Nat → Bx) (q : Bx → Bool) (S : List (Nat × Tr)) : List Nat := S.reverse.flatMap fun x => x.2.touch B q
theorem szS_snoc (S : List (Nat × Tr)) (x : Nat × Tr) : szS (S ++ [x]) = szS S + x.2.sz := by simp [szS]
theorem toS_snoc (B : Nat → Bx) (q : Bx → Bool) (S : List (Nat × Tr)) (x : Nat × Tr) : toS B q (S ++ [x]) = x.2.touch B q ++ toS B q S := by simp [toS]
theorem len_szS : ∀ S : List (Nat × Tr), S.length ≤ szS S
  | [] => Nat.zero_le _
  | x :: S => by
    have := len_szS S
    have h := sz_pos x.2
    simp only [szS, List.map_cons, List.sum_cons, List.length_cons] at *
    omega
theorem ex_least {P : Nat → Prop} : ∀ n, P n → ∃ m, P m ∧ ∀ k, P k → m ≤ k := fun n => by
  induction n using Nat.strongRecOn with
  | _ n ih =>
    intro h
    by_cases e : ∃ k, k < n ∧ P k
    · obtain ⟨k, hk, hp⟩ := e
      exact ih k hk hp
    · exact ⟨n, h, fun k hk => by
        rcases Nat.lt_or_ge k n with q | q
        · exact absurd ⟨k, q, hk⟩ e
        · exact q⟩
open Classical in
/-- The least number of which it holds. -/
noncomputable def leastN (P : Nat → Prop) : Nat := if h : ∃ m, P m ∧ ∀ k, P k → m ≤ k then Classical.choose h else 0
theorem leastN_at {P : Nat → Prop} {n : Nat} (h : P n) : P (leastN P) ∧ leastN P ≤ n := by
  have e := ex_least n h
  unfold leastN
  rw [dif_pos e]
  have := Classical.choose_spec e
  exact ⟨this.1, this.2 n h⟩
theorem touch_no {B : Nat → Bx} {q : Bx → Bool} : ∀ {t : Tr}, q (bxL B t.root) = false → t.touch B q = []
  | .leaf _ L, h => by unfold Tr.touch; rw [if_neg (by simpa [Tr.root] using h)]
  | .node L l r, h => by unfold Tr.touch; rw [if_neg (by simpa [Tr.root] using h)]
/-- What the loop of Touched keeps. -/
structure TouF (B : Nat → Bx) (Q : Bx → Bool) (t : Tr) (ln : Bool) (S : List (Nat × Tr)) (dn : List Nat) (M : Nat) : Prop where
  all : dn ++ toS B Q S = t.touch B Q
  st : StL B (t.lay B 0) t.its S
  sz : szS S = M
  le : M ≤ t.sz
  ln : ln = true ∨ S ≠ []
def TouR (W1 : World) (B : Nat → Bx) (Q : Bx → Bool) (t : Tr) (ln : Bool) (M : Nat) (iv wv : Value) (wr : World) : Prop :=
  ∃ (S : List (Nat × Tr)) (dn : List Nat) (A8 A9 : Option Addr) (c8 c9 m8 m9 : Nat), iv = .slice A8 m8 c8 ∧ wv = .slice A9 m9 c9 ∧ m8 = dn.length ∧ m9 = S.length ∧ Below W1.heap.size W1 wr ∧ wr.ownsRow W1.heap.size 3 1 (.slice A8 m8 c8) m8 (znC dn) ∧ wr.ownsRow W1.heap.size 3 1 (.slice A9 m9 c9) m9 (znC (S.map Prod.fst)) ∧ ((Value.slice A8 m8 c8).ownBlock = none ∨ (Value.slice A8 m8 c8).ownBlock ≠ (Value.slice A9 m9 c9).ownBlock) ∧ TouF B Q t ln S dn M
/-- The touch of a ray. -/
def rayQ (o d : P3) (b : Bx) : Bool := (rangeM o d b.lo b.hi).isSome
theorem nd_box {B : Nat → Bx} {N : List Nd} {I : List Nat} {a : Nat} {t : Tr} (h : Laid B N I a t) : ∃ n, N[a]? = some n ∧ n.b = bxL B t.root := by
  cases t with
  | leaf f L => exact ⟨_, h.1, rfl⟩
  | node L l r => exact ⟨_, h.1, rfl⟩
def zNd : Array Value := #[.int .i64 0, .int .i64 0, .int .i64 0, .int .i64 0, .int .i64 0, .int .i64 0, .int .i64 0, .int .i64 0, .int .i64 0, .int .i64 0]
theorem alloc_NdB (a : Act) (o : Oper) (ho : o.op = .alloc 66) (w : World) : (execOp a.eval o).run Try.prog w = .ok (.value (.pointer (some ⟨w.heap.size, 0, none⟩))) (w.alloc (.cells #[.int .i64 0, .int .i64 0, .int .i64 0, .int .i64 0, .int .i64 0, .int .i64 0, .int .i64 0, .int .i64 0, .int .i64 0, .int .i64 0] 66)) := by
  unfold execOp
  rw [ho]
  kernel_rfl
theorem infoNdR {a b c d e f g h i j : Value} : (Try.prog.info? 66).map (·.size) = some (#[a, b, c, d, e, f, g, h, i, j] : Array Value).size := by kernel_rfl
theorem putNdB {ops : Array Oper} {rest : List Oper} {o : Oper} {a : Act} {w : World} {Q : Exit → Act → World → Prop} (hgd : o.guard = none) (x y : Operand) (ho : o.op = .store 66 x y) (g : Nat) (n : Nd) (hx : a.eval x = .pointer (some ⟨g, 0, none⟩)) (hy : a.eval y = .agg #[.int .i64 n.b.lo.x, .int .i64 n.b.lo.y, .int .i64 n.b.lo.z, .int .i64 n.b.hi.x, .int .i64 n.b.hi.y, .int .i64 n.b.hi.z, .int .i64 (n.l : Int), .int .i64 (n.r : Int), .int .i64 (n.f : Int), .int .i64 (n.c : Int)]) (old : Array Value) (hs : old.size = 10) (h : Blk w g 66 old)
    (K : wpList Try.prog ops Q rest (a.put o.dst undef) (w.setRow g #[.int .i64 n.b.lo.x, .int .i64 n.b.lo.y, .int .i64 n.b.lo.z, .int .i64 n.b.hi.x, .int .i64 n.b.hi.y, .int .i64 n.b.hi.z, .int .i64 (n.l : Int), .int .i64 (n.r : Int), .int .i64 (n.f : Int), .int .i64 (n.c : Int)])) : wpList Try.prog ops Q (o :: rest) a w :=
  wpList_store_row hgd 66 x y ho g _ hx hy 66 old h infoNdR hs (by simp [Value.oneCell']) K
set_option maxHeartbeats 4000000 in
theorem touched_any (W : World) (A1 : Option Addr) (n1 c1 : Nat) (A2 : Option Addr) (n2 c2 leaf : Nat) (B : Nat → Bx) (t : Tr) (hN : NdL W A1 (t.lay B 0)) (hn1 : n1 = t.sz) (hI : IL W A2 (zL t.its)) (hn2 : n2 = t.its.length) (hO : t.Ok leaf 0) (hbx : ∀ x ∈ t.lay B 0, okBx x.b = true) (hs : t.sz ≤ 100000) (hi : t.its.length ≤ 100000) (hc2 : n2 ≤ c2) (o d : P3) :
    Calls Try.prog 22 #[TrZ A1 n1 c1 A2 n2 c2, .agg #[.int .i64 o.x, .int .i64 o.y, .int .i64 o.z], .agg #[.int .i64 d.x, .int .i64 d.y, .int .i64 d.z]] W fun e W' => Below W.heap.size W W' ∧ ((lnB o d = false ∧ e = .returned (.tuple #[.slice none 0 0, .int .i64 21])) ∨ (lnB o d = true ∧ ∃ A c, e = .returned (.tuple #[.slice A (t.touch B (rayQ o d)).length c, .int .i64 0]) ∧ IL W' A (zL (t.touch B (rayQ o d))))) := by
  have hl := laid_whole B hO
  have hsp := sz_pos t
  have hnz : ((n1 : Int) == 0) = false := by simp; omega
  replace hn1 := Lib.hid hn1
  replace hn2 := Lib.hid hn2
  obtain ⟨W1, hW1⟩ : ∃ W1, W1 = ((W.alloc (.cells #[.slice A1 n1 c1, .slice A2 n2 c2] 56)).alloc (.cells (#[.int .i64 o.x, .int .i64 o.y, .int .i64 o.z]) 23)).alloc (.cells (#[.int .i64 d.x, .int .i64 d.y, .int .i64 d.z]) 23) := ⟨_, rfl⟩
  have hb1 : Below W.heap.size W W1 := by rw [hW1]; exact bel_alloc (bel_alloc (bel_alloc (Below.refl _ _) _) _) _
  have hT1 : Blk W1 W.heap.size 56 #[.slice A1 n1 c1, .slice A2 n2 c2] := by rw [hW1]; exact ((Blk.new _ _ _ _ rfl).alloc _).alloc _
  have hO1 : Blk W1 (W.heap.size + 1) 23 #[.int .i64 o.x, .int .i64 o.y, .int .i64 o.z] := by rw [hW1]; exact (Blk.new _ _ _ _ (by simp)).alloc _
  have hD1 : Blk W1 (W.heap.size + 1 + 1) 23 #[.int .i64 d.x, .int .i64 d.y, .int .i64 d.z] := by rw [hW1]; exact Blk.new _ _ _ _ (by simp)
  obtain ⟨Q, hQ⟩ : ∃ Q, Q = rayQ o d := ⟨_, rfl⟩
  rw [← hQ]
  replace hQ := Lib.hid hQ
  unfold TrZ
  go_enter Try.func22, Try.ntmps22
  go_upto_region 1 with (fail)
  simp only [← hW1]
  clear hW1
  have t0 := hT1.cell 0
  have tl := hT1.lt
  go_upto_region 5 with (fail)
  obtain ⟨bt, hbt⟩ : ∃ b, b = W.heap.size := ⟨_, rfl⟩
  rw [← hbt] at hT1 hO1 hD1 t0 tl ⊢
  replace hbt := Lib.hid hbt
  have hOw : (W1.alloc (.cells #[.int .i64 0] 3)).ownsRow W1.heap.size 3 1 (.slice (some ⟨W1.heap.size, 0, none⟩) 1 1) 1 (znC [0]) := ⟨rfl, .inr ⟨W1.heap.size, 1, #[.int .i64 0], rfl, Nat.le_refl _, heap_alloc_new _ _, Nat.le_refl _, by unfold maxLen; omega, rfl, rfl⟩⟩
  have hb2 : Below W1.heap.size W1 (W1.alloc (.cells #[.int .i64 0] 3)) := bel_alloc (Below.refl _ _) _
  generalize hWq : W1.alloc (.cells #[.int .i64 0] 3) = W2 at *
  clear hWq t0 tl
  have hlay : (t.lay B 0).length = t.sz := lay_len B t 0
  go_loopw [8, 9, 10, 11, 12, 13, 14] (fun iv wv _ _ _ _ _ wr => ∃ M, TouR W1 B Q t (lnB o d) M iv wv wr) (fun iv wv _ _ _ _ _ wr => leastN fun M => TouR W1 B Q t (lnB o d) M iv wv wr)
  case atStart => exact ⟨t.sz, [(0, t)], [], none, some ⟨W1.heap.size, 0, none⟩, 0, 1, 0, 1, rfl, rfl, rfl, rfl, hb2, World.ownsRow_nil _ _ _ _, hOw, .inl rfl, by simp [toS], fun x hx => by simp at hx; subst hx; exact hl, by simp [szS], Nat.le_refl _, .inr (by simp)⟩
  case round =>
    obtain ⟨M0, hM0⟩ := hrel
    obtain ⟨M, hMd, S, dn, A8, A9, c8, c9, m8, m9, rfl, rfl, hm8, hm9, hbr, hO8, hO9, hap, hF⟩ : ∃ M, M = leastN (fun M => TouR W1 B Q t (lnB o d) M u8 u9 wr) ∧ TouR W1 B Q t (lnB o d) M u8 u9 wr := ⟨_, rfl, (leastN_at (P := fun M => TouR W1 B Q t (lnB o d) M u8 u9 wr) hM0).1⟩
    clear hM0
    replace hMd := Lib.hid hMd
    have hTr := hT1.below hbr
    have hOr := hO1.below hbr
    have hDr := hD1.below hbr
    have hbW := bel_trans hb1 hbr
    have hNr := hN.below hbW
    have hIr := hI.below hbW
    clear hb2 hOw
    rcases List.eq_nil_or_concat S with rfl | ⟨S', ⟨a, u⟩, hSc⟩
    · obtain rfl : m9 = 0 := hm9
      have hall := hF.all
      simp only [toS, List.reverse_nil, List.flatMap_nil, List.append_nil] at hall
      have hln : lnB o d = true := by rcases hF.ln with h | h; exact h; exact absurd rfl h
      subst hm8
      have hIL := bil_own hO8
      rw [hall] at hIL
      have hlen : dn.length = (t.touch B Q).length := by rw [hall]
      replace hlen := Lib.hid hlen
      clear hall
      go_wp2
      refine bodyPost_ret (v := .tuple #[.slice A8 dn.length c8, .int .i64 0]) (by simp [results, Try.results22, go_sem]) rfl ⟨hbW, .inr ⟨hln, A8, c8, by rw [hlen.out], hIL⟩⟩
    · rw [List.concat_eq_append] at hSc
      subst hSc
      have hmS : S'.length + 1 ≤ 1000000 := by have := len_szS (S' ++ [(a, u)]); rw [List.length_append] at this; have := hF.sz; have := hF.le; simp at *; omega
      have hm9' : m9 = S'.length + 1 := by rw [hm9]; simp
      have hm9p : 0 < m9 := by omega
      have hmi : (0 : Int) < (m9 : Int) := by omega
      have hmm : (m9 : Int) ≤ 1000000 := by omega
      obtain ⟨gw, hgw⟩ : ∃ gw, A9 = some ⟨gw, 0, none⟩ := by
        rcases hO9.2 with ⟨h1, h2⟩ | ⟨g, cap, cur, h1, _⟩
        · omega
        · rw [Value.slice.injEq] at h1; exact ⟨g, h1.1⟩
      subst hgw
      have hlast : wr.cell? ⟨gw, m9 - 1, none⟩ = some (.int .i64 (a : Int)) := by
        rw [hO9.cellAt (m9 - 1) (by omega), znC_get _ _ (by simp; omega)]
        simp [hm9']
      have hlay' := hF.st (a, u) (by simp)
      obtain ⟨nd, hnd, hndb⟩ := nd_box hlay'
      have hal : a < (t.lay B 0).length := (List.getElem?_eq_some_iff.1 hnd).1
      have hnd' : (t.lay B 0)[a] = nd := (List.getElem?_eq_some_iff.1 hnd).2
      obtain ⟨bn, on, rfl, hbn, hcn⟩ := hNr (by omega)
      have hcn' := hcn a hal
      rw [hnd'] at hcn'
      have k0 : wr.cell? ⟨bn, on + a * 10, none⟩ = some (.int .i64 nd.b.lo.x) := hcn' 0 (by omega)
      have k1 : wr.cell? ⟨bn, on + a * 10 + 1, none⟩ = some (.int .i64 nd.b.lo.y) := hcn' 1 (by omega)
      have k2 : wr.cell? ⟨bn, on + a * 10 + 2, none⟩ = some (.int .i64 nd.b.lo.z) := hcn' 2 (by omega)
      have k3 : wr.cell? ⟨bn, on + a * 10 + 3, none⟩ = some (.int .i64 nd.b.hi.x) := hcn' 3 (by omega)
      have k4 : wr.cell? ⟨bn, on + a * 10 + 4, none⟩ = some (.int .i64 nd.b.hi.y) := hcn' 4 (by omega)
      have k5 : wr.cell? ⟨bn, on + a * 10 + 5, none⟩ = some (.int .i64 nd.b.hi.z) := hcn' 5 (by omega)
      have k6 : wr.cell? ⟨bn, on + a * 10 + 6, none⟩ = some (.int .i64 (nd.l : Int)) := hcn' 6 (by omega)
      have k7 : wr.cell? ⟨bn, on + a * 10 + 7, none⟩ = some (.int .i64 (nd.r : Int)) := hcn' 7 (by omega)
      have k8 : wr.cell? ⟨bn, on + a * 10 + 8, none⟩ = some (.int .i64 (nd.f : Int)) := hcn' 8 (by omega)
      have k9 : wr.cell? ⟨bn, on + a * 10 + 9, none⟩ = some (.int .i64 (nd.c : Int)) := hcn' 9 (by omega)
      have hokb : okBx nd.b = true := hbx nd (List.mem_of_getElem? hnd)
      have hj0 : (0 : Int) ≤ (a : Int) := by omega
      have hj1 : (a : Int) < (n1 : Int) := by have := hn1.out; omega
      have t0 := hTr.cell 0
      have tl := hTr.lt
      have hgwl : gw < wr.heap.size := (bown_block hO9 gw rfl).1.2
      have hmz : ((m9 : Int) > 0) := hmi
      have hroom : m9 ≤ c9 := by
        rcases hO9.2 with ⟨h1, h2⟩ | ⟨g, cap, cur, h1, _, _, h4, _⟩
        · omega
        · rw [Value.slice.injEq] at h1; omega
      have hroom2 : (m9 : Int) - 1 ≤ (c9 : Int) := by omega
      clear hcn hcn' hnd'
      replace hm9 := Lib.hid hm9
      replace hm9' := Lib.hid hm9'
      replace hm8 := Lib.hid hm8
      replace hndb := Lib.hid hndb
      replace hnd := Lib.hid hnd
      go_upto_region 6 with (fail)
      refine wp_region_make 10 ?_ 10 (.cells #[.int .i64 0, .int .i64 0, .int .i64 0, .int .i64 0, .int .i64 0, .int .i64 0, .int .i64 0, .int .i64 0, .int .i64 0, .int .i64 0] 66) (by kernel_rfl) (by kernel_rfl) (by kernel_rfl) (fun d hd => by cases hd; exact ⟨_, rfl, rfl, rfl, fun A u => alloc_NdB A _ rfl u⟩) (fun pp => ?_) (fun pp qq => ?_)
      rotate_left
      · simp only [List.take_succ_cons, List.take_zero]
        repeat (go_big_quiet_step (((fail))))
        refine wpQuiet_nil ?_
        exact rfl
      simp only [List.drop_succ_cons, List.drop_zero]
      try simp only [Act.put, List.setIfInBounds_toArray, List.set_cons_succ, List.set_cons_zero]
      have hZ2 : Blk (grow ((grow wr pp).alloc (.cells #[.int .i64 0, .int .i64 0, .int .i64 0, .int .i64 0, .int .i64 0, .int .i64 0, .int .i64 0, .int .i64 0, .int .i64 0, .int .i64 0] 66)) qq) (grow wr pp).heap.size 66 #[.int .i64 0, .int .i64 0, .int .i64 0, .int .i64 0, .int .i64 0, .int .i64 0, .int .i64 0, .int .i64 0, .int .i64 0, .int .i64 0] := (Blk.new _ _ _ _ rfl).grow qq
      have hbz2 : Below wr.heap.size wr (grow ((grow wr pp).alloc (.cells #[.int .i64 0, .int .i64 0, .int .i64 0, .int .i64 0, .int .i64 0, .int .i64 0, .int .i64 0, .int .i64 0, .int .i64 0, .int .i64 0] 66)) qq) := bel_grow (bel_alloc (bel_grow (Below.refl _ _) pp) _) qq
      have hgnl : wr.heap.size ≤ (grow wr pp).heap.size := x_size_le wr pp
      clear t0 tl k0 k1 k2 k3 k4 k5 k6 k7 k8 k9 hlast
      generalize (grow ((grow wr pp).alloc (.cells #[.int .i64 0, .int .i64 0, .int .i64 0, .int .i64 0, .int .i64 0, .int .i64 0, .int .i64 0, .int .i64 0, .int .i64 0, .int .i64 0] 66)) qq) = w1 at *
      generalize (grow wr pp).heap.size = gn at *
      go_upto_region 7 with (first | (refine putNdB rfl _ _ rfl gn nd rfl rfl _ rfl hZ2 ?_; simp only [Act.put, List.setIfInBounds_toArray, List.set_cons_succ, List.set_cons_zero]) | fail)
      have hbb2 : Below wr.heap.size wr (w1.setRow gn #[.int .i64 nd.b.lo.x, .int .i64 nd.b.lo.y, .int .i64 nd.b.lo.z, .int .i64 nd.b.hi.x, .int .i64 nd.b.hi.y, .int .i64 nd.b.hi.z, .int .i64 (nd.l : Int), .int .i64 (nd.r : Int), .int .i64 (nd.f : Int), .int .i64 (nd.c : Int)]) := bel_setRow hbz2 hgnl _
      have hNd2 : Blk (w1.setRow gn #[.int .i64 nd.b.lo.x, .int .i64 nd.b.lo.y, .int .i64 nd.b.lo.z, .int .i64 nd.b.hi.x, .int .i64 nd.b.hi.y, .int .i64 nd.b.hi.z, .int .i64 (nd.l : Int), .int .i64 (nd.r : Int), .int .i64 (nd.f : Int), .int .i64 (nd.c : Int)]) gn 66 #[.int .i64 nd.b.lo.x, .int .i64 nd.b.lo.y, .int .i64 nd.b.lo.z, .int .i64 nd.b.hi.x, .int .i64 nd.b.hi.y, .int .i64 nd.b.hi.z, .int .i64 (nd.l : Int), .int .i64 (nd.r : Int), .int .i64 (nd.f : Int), .int .i64 (nd.c : Int)] := hZ2.setRow _
      clear hZ2 hbz2
      generalize w1.setRow gn #[.int .i64 nd.b.lo.x, .int .i64 nd.b.lo.y, .int .i64 nd.b.lo.z, .int .i64 nd.b.hi.x, .int .i64 nd.b.hi.y, .int .i64 nd.b.hi.z, .int .i64 (nd.l : Int), .int .i64 (nd.r : Int), .int .i64 (nd.f : Int), .int .i64 (nd.c : Int)] = w2 at *
      have hT2 := hTr.below hbb2
      have hO2 := hOr.below hbb2
      have hD2 := hDr.below hbb2
      have hN2 := hNr.below hbb2
      have hI2 := hIr.below hbb2
      have hO8' := bown_lay hO8 hbb2
      have hO9' := bown_take (bown_lay hO9 hbb2) hm9p
      have hbr2 := bel_trans hbr hbb2
      clear hTr hOr hDr hNr hIr hO8 hO9 hbr hbb2 hbn hgwl
      have x0 := hT2.cell 0
      have x1 := hT2.cell 1
      have xl := hT2.lt
      have y0 := hO2.cell 0
      have y1 := hO2.cell 1
      have y2 := hO2.cell 2
      have yl := hO2.lt
      have z0 := hD2.cell 0
      have z1 := hD2.cell 1
      have z2 := hD2.cell 2
      have zl := hD2.lt
      have e0 := hNd2.cell 0
      have e1 := hNd2.cell 1
      have e2 := hNd2.cell 2
      have e3 := hNd2.cell 3
      have e4 := hNd2.cell 4
      have e5 := hNd2.cell 5
      have e6 := hNd2.cell 6
      have e7 := hNd2.cell 7
      have e8 := hNd2.cell 8
      have e9 := hNd2.cell 9
      have el := hNd2.lt
      have kR := slRange_any o d nd.b.lo nd.b.hi
      have hok2 := okBx_iff.1 hokb
      cases hln : lnB o d
      · have e := rg_no (o := o) (d := d) (l := nd.b.lo) (h := nd.b.hi) (by unfold rbB; rw [hln]; rfl)
        rw [e] at kR
        clear e
        go_upto_region 9 with (first | (go_at_call 26; (with_reducible refine (kR.at_ _).mono ?_); rintro e w' ⟨rfl, xg, rfl⟩) | fail)
        have hbz : Below W.heap.size W (((grow w2 xg).alloc (.cells #[.int .i64 0, .int .i64 0] 70)).alloc (.cells #[.int .i64 0, .int .i64 0] 70)) := bel_alloc (bel_alloc (bel_grow (bel_trans hb1 hbr2) xg) _) _
        go_wp2
        refine bodyPost_ret (v := .tuple #[.slice none 0 0, .int .i64 21]) (by simp [results, Try.results22, go_sem]) rfl ⟨hbz, .inl ⟨hln, rfl⟩⟩
      · have hrb : rbB o d nd.b.lo nd.b.hi = true := by
          unfold okBx okP at hokb
          unfold rbB corn
          rw [hln]
          simpa using hokb
        have hqn : Q (bxL B u.root) = (rangeM o d nd.b.lo nd.b.hi).isSome := by rw [hQ.out, ← hndb.out]; rfl
        have hmp := Lib.hid (show (S' ++ [(a, u)]).map Prod.fst = S'.map Prod.fst ++ [a] by simp)
        rw [hmp.out, List.dropLast_concat] at hO9'
        have hszu := szS_snoc S' (a, u)
        have htou := toS_snoc B Q S' (a, u)
        have hM2 := hF.sz
        rw [hszu] at hM2
        have hall2 := hF.all
        rw [htou, ← List.append_assoc] at hall2
        have hst2 : StL B (t.lay B 0) t.its S' := fun x hx => hF.st x (by simp [hx])
        have hle2 := hF.le
        simp only at hM2 hall2
        clear hszu htou hF hmp
        replace hqn := Lib.hid hqn
        replace hM2 := Lib.hid hM2
        replace hall2 := Lib.hid hall2
        have hup := sz_pos u
        cases hrm : rangeM o d nd.b.lo nd.b.hi with
        | none =>
          have e := rg_none (o := o) (d := d) (l := nd.b.lo) (h := nd.b.hi) hrb hrm
          rw [e] at kR
          clear e
          rw [hrm] at hqn
          go_upto_region 9 with (first | (go_at_call 26; (with_reducible refine (kR.at_ _).mono ?_); rintro e w' ⟨rfl, xg, rfl⟩) | fail)
          obtain ⟨w3, hw3⟩ : ∃ w3, w3 = ((grow w2 xg).alloc (.cells #[.int .i64 0, .int .i64 0] 70)).alloc (.cells #[.int .i64 0, .int .i64 0] 70) := ⟨_, rfl⟩
          have hb3 : Below w2.heap.size w2 w3 := by rw [hw3]; exact bel_alloc (bel_alloc (bel_grow (Below.refl _ _) xg) _) _
          rw [← hw3]
          clear hw3
          have hnew : TouR W1 B Q t (lnB o d) (szS S') (.slice A8 m8 c8) (.slice (some ⟨gw, 0, none⟩) (m9 - 1) c9) w3 := ⟨S', dn, A8, some ⟨gw, 0, none⟩, c8, c9, m8, m9 - 1, rfl, rfl, hm8.out, by have := hm9'.out; omega, bel_trans hbr2 hb3, bown_lay hO8' hb3, bown_lay hO9' hb3, hap, by rw [← hall2.out, touch_no hqn.out, List.append_nil], hst2, rfl, by have := hM2.out; omega, .inl hln⟩
          clear hT2 hO2 hD2 hN2 hI2 hO8' hO9' x0 x1 y0 y1 y2 z0 z1 z2 e0 e1 e2 e3 e4 e5 e6 e7 e8 e9 kR
          go_wp2
          go_roundw
          case rel => exact ⟨_, hnew⟩
          case measure =>
            have h1 := (leastN_at (P := fun M => TouR W1 B Q t (lnB o d) M (.slice A8 m8 c8) (.slice (some ⟨gw, 0, none⟩) (m9 - 1) c9) w3) hnew).2
            have h2 := hMd.out
            have h3 := hM2.out
            exact Nat.lt_of_le_of_lt h1 (by rw [← h2]; omega)
        | some r =>
          have e := rg_some (o := o) (d := d) (l := nd.b.lo) (h := nd.b.hi) hrb hrm
          rw [e] at kR
          clear e
          rw [hrm] at hqn
          generalize r.1.n = r1n at *
          generalize r.1.d = r1d at *
          generalize r.2.n = r2n at *
          generalize r.2.d = r2d at *
          go_upto_region 9 with (first | (go_at_call 26; (with_reducible refine (kR.at_ _).mono ?_); rintro e w' ⟨rfl, xg, rfl⟩) | fail)
          obtain ⟨w3, hw3⟩ : ∃ w3, w3 = ((grow w2 xg).alloc (.cells #[.int .i64 r1n, .int .i64 r1d] 70)).alloc (.cells #[.int .i64 r2n, .int .i64 r2d] 70) := ⟨_, rfl⟩
          have hb3 : Below w2.heap.size w2 w3 := by rw [hw3]; exact bel_alloc (bel_alloc (bel_grow (Below.refl _ _) xg) _) _
          rw [← hw3]
          have hbr3 := bel_trans hbr2 hb3
          have hO83 := bown_lay hO8' hb3
          have hO93 := bown_lay hO9' hb3
          have hNd3 := hNd2.below hb3
          have hT3 := hT2.below hb3
          have hI3 := hI2.below hb3
          have hgwl := (bown_block hO93 gw rfl).1.2
          clear hw3 hT2 hO2 hD2 hN2 hI2 hO8' hO9' x0 x1 xl y0 y1 y2 yl z0 z1 z2 zl e0 e1 e2 e3 e4 e5 e6 e7 e8 e9 el kR hNd2 hb3 hbr2
          have x1 := hT3.cell 1
          have xl := hT3.lt
          have e7 := hNd3.cell 7
          have e6 := hNd3.cell 6
          have e8 := hNd3.cell 8
          have e9 := hNd3.cell 9
          have el := hNd3.lt
          have hs1 := hbr3.size
          have hdnl : dn.length ≤ 100000 := by
            have h1 := hall2.out
            have h2 := (touch_sub B Q t).length_le
            have h3 : dn.length ≤ (t.touch B Q).length := by rw [← h1]; simp
            omega
          cases u with
          | leaf f L =>
            obtain ⟨hl1, hl2, hl3⟩ := hlay'
            have hnn := Option.some.inj (hnd.out.symm.trans hl1)
            have hcL : Hid (nd.c = L.length) := Lib.hid (by rw [hnn])
            have hfL : Hid (nd.f = f) := Lib.hid (by rw [hnn])
            have hcp : (0 : Int) < (nd.c : Int) := by have := hcL.out; omega
            have hle : f + L.length ≤ t.its.length := by
              have h1 : ((t.its.drop f).take L.length).length = L.length := by rw [hl3]
              rw [List.length_take, List.length_drop] at h1
              omega
            have hge : ∀ j (hj : j < L.length), t.its[f + j]'(by omega) = L[j] := fun j hj => by
              have h1 : ((t.its.drop f).take L.length)[j]? = L[j]? := by rw [hl3]
              rw [List.getElem?_take_of_lt hj, List.getElem?_drop, List.getElem?_eq_getElem (by omega), List.getElem?_eq_getElem hj] at h1
              exact Option.some.inj h1
            obtain ⟨b2, o2, rfl, hb2l, hc2c⟩ := hI3 (by rw [zL_len]; omega)
            have hsrc : ∀ j (hj : j < L.length), w3.cell? ⟨b2, o2 + nd.f + j, none⟩ = some (.int .i64 (L[j] : Int)) := fun j hj => by
              have h1 := hc2c (f + j) (by rw [zL_len]; omega)
              rw [zL_get, hge j hj] at h1
              rw [hfL.out, Nat.add_assoc]
              exact h1
            have hb5 : (nd.f : Int) + (nd.c : Int) ≤ (c2 : Int) := by have := hcL.out; have := hfL.out; have := hn2.out; omega
            have hb6 : c2 - nd.f ≠ 0 := by omega
            have hb8 : (nd.f : Int) + (nd.c : Int) ≤ 100000 := by have := hcL.out; have := hfL.out; omega
            have hb9 : (0 : Int) ≤ (nd.f : Int) := by omega
            have hb7 : nd.c < 1000000 + 1 := by have := hcL.out; omega
            clear hl1 hnn
            go_wp2_with (first | (at_builtin; (refine wpL_appI W1.heap.size w3 dn m8 hm8.out _ hO83 (by have := hm8.out; omega) hs1 L nd.c hcL.out (by omega) b2 (o2 + nd.f) (c2 - nd.f) hsrc rfl _ _ rfl rfl (by first | rfl | simp [Act.eval, go_sem]) ?_); intro A5 c5 w5 hO5 hg5 hq5; try simp only [Act.put, List.setIfInBounds_toArray, List.set_cons_succ, List.set_cons_zero]) | fail)
            have hrow : (Value.slice (some ⟨gw, 0, none⟩) (m9 - 1) c9).ownBlock = none ∨ (Value.slice (some ⟨gw, 0, none⟩) (m9 - 1) c9).ownBlock ≠ (Value.slice A8 m8 c8).ownBlock := by
              rcases hap with h | h
              · right; rw [h]; intro e; cases e
              · right; intro e; exact h (by rw [← e]; rfl)
            have hnew : TouR W1 B Q t (lnB o d) (szS S') (.slice A5 (m8 + nd.c) c5) (.slice (some ⟨gw, 0, none⟩) (m9 - 1) c9) w5 := by
              refine ⟨S', dn ++ L, A5, some ⟨gw, 0, none⟩, c5, c9, m8 + nd.c, m9 - 1, rfl, rfl, by rw [List.length_append, hm8.out, hcL.out], by have := hm9'.out; omega, ?_, hO5, hO93.kept hg5 hrow, ?_, ?_⟩
              · exact hbr3.trans ⟨hg5.os, hg5.tape, hg5.output, hg5.size, fun k hk => hg5.block k (Nat.lt_of_lt_of_le hk hs1) (fun e => by have := (bown_block hO83 k e.symm).1.1; omega)⟩
              · rcases hq5 with h | h
                · rw [h]
                  rcases hap with h2 | h2
                  · exact .inl h2
                  · exact .inr (fun e => h2 (by rw [e]; rfl))
                · right; rw [h]; intro e; have := Option.some.inj (show some w3.heap.size = some gw from e); omega
              · refine ⟨?_, hst2, rfl, by have := hM2.out; omega, .inl hln⟩
                have h1 := hall2.out
                rw [show (Tr.leaf f L).touch B Q = L by unfold Tr.touch; rw [if_pos (by simpa [Tr.root] using hqn.out)]] at h1
                exact h1
            clear hT3 hNd3 hO83 hO93 hI3 x1 xl e6 e7 e8 e9 el hsrc
            go_wp2
            go_roundw
            case rel => exact ⟨_, hnew⟩
            case measure =>
              have h1 := (leastN_at (P := fun M => TouR W1 B Q t (lnB o d) M (.slice A5 (m8 + nd.c) c5) (.slice (some ⟨gw, 0, none⟩) (m9 - 1) c9) w5) hnew).2
              have h2 := hMd.out
              have h3 := hM2.out
              exact Nat.lt_of_le_of_lt h1 (by rw [← h2]; omega)
          | node L l r =>
            obtain ⟨hl1, hl2, hl3⟩ := hlay'
            have hnn := Option.some.inj (hnd.out.symm.trans hl1)
            have hc0 : nd.c = 0 := by rw [hnn]
            have hlL : Hid (nd.l = a + 1) := Lib.hid (by rw [hnn])
            have hrL : Hid (nd.r = a + 1 + l.sz) := Lib.hid (by rw [hnn])
            rw [hc0] at e9
            have e9' : w3.cell? ⟨gn, 9, none⟩ = some (.int .i64 0) := e9
            clear hl1 hnn hc0 e9
            have hbk : Blk (w3.alloc (.cells #[.int .i64 (nd.r : Int), .int .i64 (nd.l : Int)] 3)) w3.heap.size 3 #[.int .i64 (nd.r : Int), .int .i64 (nd.l : Int)] := Blk.new _ _ _ _ rfl
            have hba : Below w3.heap.size w3 (w3.alloc (.cells #[.int .i64 (nd.r : Int), .int .i64 (nd.l : Int)] 3)) := bel_alloc (Below.refl _ _) _
            have hsrc : ∀ j (hj : j < [nd.r, nd.l].length), (w3.alloc (.cells #[.int .i64 (nd.r : Int), .int .i64 (nd.l : Int)] 3)).cell? ⟨w3.heap.size, 0 + j, none⟩ = some (.int .i64 ([nd.r, nd.l][j] : Int)) := fun j hj => by
              have : j < 2 := hj
              rw [hbk.cell]
              match j, this with
              | 0, _ => rfl
              | 1, _ => rfl
            go_wp2_with (first | (at_builtin; (refine wpL_appI W1.heap.size _ (S'.map Prod.fst) (m9 - 1) (by have := hm9'.out; simp; omega) _ (bown_lay hO93 hba) (by omega) (Nat.le_trans hs1 hba.size) [nd.r, nd.l] 2 rfl (by omega) w3.heap.size 0 2 hsrc rfl _ _ rfl rfl rfl ?_); intro A5 c5 w5 hO5 hg5 hq5; try simp only [Act.put, List.setIfInBounds_toArray, List.set_cons_succ, List.set_cons_zero]) | fail)
            have hrow : (Value.slice A8 m8 c8).ownBlock = none ∨ (Value.slice A8 m8 c8).ownBlock ≠ (Value.slice (some ⟨gw, 0, none⟩) (m9 - 1) c9).ownBlock := hap
            have hO84 := bown_lay hO83 hba
            have hsz4 := hba.size
            have hnew : TouR W1 B Q t (lnB o d) (szS (S' ++ [(nd.r, r), (nd.l, l)])) (.slice A8 m8 c8) (.slice A5 (m9 - 1 + 2) c5) w5 := by
              refine ⟨S' ++ [(nd.r, r), (nd.l, l)], dn, A8, A5, c8, c5, m8, m9 - 1 + 2, rfl, rfl, hm8.out, by have := hm9'.out; simp; omega, ?_, hO84.kept hg5 hrow, ?_, ?_, ?_⟩
              · exact (bel_trans hbr3 hba).trans ⟨hg5.os, hg5.tape, hg5.output, hg5.size, fun k hk => hg5.block k (by omega) (fun e => by have := (bown_block (bown_lay hO93 hba) k e.symm).1.1; omega)⟩
              · rw [List.map_append]; exact hO5
              · rcases hq5 with h | h
                · rw [h]
                  exact hap
                · right
                  intro e
                  rw [h] at e
                  have := (bown_block hO84 _ e).1.2
                  omega
              · refine ⟨?_, ?_, rfl, ?_, .inl hln⟩
                · have h1 := hall2.out
                  rw [show (Tr.node L l r).touch B Q = l.touch B Q ++ r.touch B Q by rw [Tr.touch, if_pos (by simpa [Tr.root] using hqn.out)]] at h1
                  rw [← h1, show S' ++ [(nd.r, r), (nd.l, l)] = (S' ++ [(nd.r, r)]) ++ [(nd.l, l)] by simp, toS_snoc, toS_snoc]
                  simp only [List.append_assoc]
                · intro x hx
                  rcases List.mem_append.1 hx with hx | hx
                  · exact hst2 x hx
                  · simp only [List.mem_cons, List.not_mem_nil, or_false] at hx
                    rcases hx with rfl | rfl
                    · simp only; rw [hrL.out]; exact hl3
                    · simp only; rw [hlL.out]; exact hl2
                · have h3 := hM2.out
                  simp only [Tr.sz] at h3
                  simp only [szS, List.map_append, List.sum_append, List.map_cons, List.map_nil, List.sum_cons, List.sum_nil] at h3 ⊢
                  omega
            have hlt : szS (S' ++ [(nd.r, r), (nd.l, l)]) < M := by
              have h3 := hM2.out
              simp only [Tr.sz] at h3
              simp only [szS, List.map_append, List.sum_append, List.map_cons, List.map_nil, List.sum_cons, List.sum_nil] at h3 ⊢
              omega
            clear hT3 hNd3 hO83 hO93 hI3 x1 xl e6 e7 e8 e9' el hsrc hbk hba
            go_roundw
            case rel => exact ⟨_, hnew⟩
            case measure =>
              have h1 := (leastN_at (P := fun M => TouR W1 B Q t (lnB o d) M (.slice A8 m8 c8) (.slice A5 (m9 - 1 + 2) c5) w5) hnew).2
              have h2 := hMd.out
              exact Nat.lt_of_le_of_lt h1 (by rw [← h2]; exact hlt)
end Go.Proofs.Ythadlpkdfnonjaa
namespace Go.Proofs.Ythadlpkdfnonjaa
open Go.RowKit
set_option linter.unusedVariables false
set_option linter.unusedSimpArgs false
/-- A block that operation i makes (cells Z), its pointer put into a slot; operation s stores C. -/
structure Mk where
  i : Nat
  s : Nat
  slot : Nat
  T : TypeId
  Z : Array Value
  C : Array Value
section
variable {P : Program} {Q : Exit → Act → World → Prop} {R : Nat → Value → Prop} {a0 : Act} {w0 : World} {ms : List Mk}
end
end Go.Proofs.Ythadlpkdfnonjaa
namespace Go.Proofs.Ythadlpkdfnonjaa
open Go.RowKit
set_option linter.unusedVariables false
set_option linter.unusedSimpArgs false
set_option linter.unnecessarySimpa false
set_option maxRecDepth 100000
/-- What a tree over boxes is. -/
theorem bvT_ok (B : Nat → Bx) {leaf n : Nat} (hl : 0 < leaf) (h0 : 0 < n) (hn : n ≤ 300) : (bvT B leaf n).Ok leaf 0 ∧ (bvT B leaf n).its.Perm (List.range n) ∧ (bvT B leaf n).sz + 1 ≤ 2 * n :=
  have e : (List.range n).length = n := List.length_range
  have p : (List.range n).length ≤ 2 ^ 60 := by rw [e]; exact Nat.le_trans hn (by decide)
  ⟨grow_ok B hl 60 0 _ (by omega) p, grow_its _ _ _ _ _, by have := grow_sz B hl 60 0 (List.range n) (by omega) p; rw [e] at this; exact this⟩
/-- Which numbers have been seen. -/
def seenC (T : List Nat) (n : Nat) : Array Value := ((List.range n).map fun i => Value.bool (decide (i ∈ T))).toArray
theorem seenC_size (T : List Nat) (n : Nat) : (seenC T n).size = n := by simp [seenC]
theorem seenC_at (T : List Nat) (n i : Nat) (h : i < n) : (seenC T n)[i]? = some (.bool (decide (i ∈ T))) := by simp [seenC, h]
theorem seenC_set {T : List Nat} {n i : Nat} (h : i < n) : (seenC T n).setIfInBounds i (.bool true) = seenC (T ++ [i]) n := by
  apply Array.ext_getElem?
  intro j
  rw [Array.getElem?_setIfInBounds, seenC_size]
  by_cases hj : j < n
  · by_cases e : i = j
    · subst e; rw [if_pos rfl, if_pos h, seenC_at _ _ _ hj]; simp
    · rw [if_neg e, seenC_at _ _ _ hj, seenC_at _ _ _ hj]
      have : j ∈ T ++ [i] ↔ j ∈ T := by simp [Ne.symm e]
      simp only [this]
  · have e1 : (seenC T n)[j]? = none := by simp [seenC, hj]
    have e2 : (seenC (T ++ [i]) n)[j]? = none := by simp [seenC, hj]
    rw [e1, e2, if_neg (by omega)]
theorem seenC_made (n : Nat) : madeCells #[.bool false] (n * 1) = seenC [] n := by
  apply Array.ext
  · simp [size_madeCells, seenC_size]
  · intro i h1 h2
    simp [madeCells, seenC, Nat.mod_one]
theorem infoBoolB : (Try.prog.info? 4).map (fun i => (i.zero, i.size, i.bytes)) = some (some (.bool false), 1, 1) := by kernel_rfl
/-- The error that Build answers. -/
def bldE (B : Nat → Bx) (n : Nat) (leaf : Int) : Int := if leaf < 1 then 20 else if allOk B n then 0 else 21
theorem bld_err {W' : World} {e : Ending} {B : Nat → Bx} {n : Nat} {leaf : Int} (h : BldP W' e B n leaf) (he : bldE B n leaf ≠ 0) : e = .returned (.tuple #[TrZ none 0 0 none 0 0, .int .i64 (bldE B n leaf)]) := by
  unfold bldE at *
  rcases h with ⟨h1, h2⟩ | ⟨h1, h3, h2⟩ | ⟨h1, h3, h4, h2⟩ | ⟨h1, h3, h4, h2⟩
  · rw [if_pos h1]; exact h2
  · rw [if_neg (by omega), if_neg (by rw [h3]; simp)]; exact h2
  · rw [if_neg (by omega), if_pos h3] at he; exact absurd rfl he
  · rw [if_neg (by omega), if_pos h3] at he; exact absurd rfl he
theorem bldE_iff {B : Nat → Bx} {n : Nat} {leaf : Int} : bldE B n leaf = 0 ↔ 1 ≤ leaf ∧ allOk B n = true := by
  unfold bldE
  split
  · constructor
    · intro h; cases h
    · intro h; omega
  · split
    · rename_i h1 h2; exact ⟨fun _ => ⟨by omega, h2⟩, fun _ => rfl⟩
    · rename_i h1 h2
      constructor
      · intro h; cases h
      · intro h; exact absurd h.2 h2
theorem bld_zero {W' : World} {e : Ending} {B : Nat → Bx} {leaf : Int} (h : BldP W' e B 0 leaf) (he : bldE B 0 leaf = 0) : e = .returned (.tuple #[TrZ none 0 0 none 0 0, .int .i64 0]) := by
  obtain ⟨g1, g2⟩ := bldE_iff.1 he
  rcases h with ⟨h1, h2⟩ | ⟨h1, h3, h2⟩ | ⟨h1, h3, h4, h2⟩ | ⟨h1, h3, h4, h2⟩
  · omega
  · rw [g2] at h3; cases h3
  · exact h2
  · omega
theorem bld_tree {W' : World} {e : Ending} {B : Nat → Bx} {n : Nat} {leaf : Int} (h : BldP W' e B n leaf) (he : bldE B n leaf = 0) (hn : 0 < n) : ∃ A1 c1 A2 c2, e = .returned (.tuple #[TrZ A1 (bvT B leaf.toNat n).sz c1 A2 n c2, .int .i64 0]) ∧ NdL W' A1 ((bvT B leaf.toNat n).lay B 0) ∧ IL W' A2 (zL (bvT B leaf.toNat n).its) ∧ n ≤ c2 := by
  obtain ⟨g1, g2⟩ := bldE_iff.1 he
  rcases h with ⟨h1, h2⟩ | ⟨h1, h3, h2⟩ | ⟨h1, h3, h4, h2⟩ | ⟨h1, h3, h4, h2⟩
  · omega
  · rw [g2] at h3; cases h3
  · omega
  · obtain ⟨A1, c1, A2, c2, h5, h6, h7, h8⟩ := h2
    exact ⟨A1, c1, A2, c2, h5, h6, h7, h8⟩
set_option maxHeartbeats 1000000 in
theorem sameIB_yes (w : World) (A B : Option Addr) (c d : Nat) (ns : List Int) (hA : IL w A ns) (hB : IL w B ns) (hs : ns.length ≤ 1099511627776) :
    Calls Try.prog 24 #[.slice A ns.length c, .slice B ns.length d] w fun e w' => e = .returned (.bool true) ∧ Below w.heap.size w w' := by
  go_enter Try.func24, Try.ntmps24
  go_wp2
  go_loopw [5] (fun i wr => ∃ k : Nat, i = .int .i64 (k : Int) ∧ k ≤ ns.length ∧ Below w.heap.size w wr) (fun i _ => ns.length - (intOf i).toNat)
  case atStart => exact ⟨0, rfl, by omega, Below.refl _ _⟩
  case round =>
    obtain ⟨k, rfl, hk, hb⟩ := hrel
    by_cases hlt : k < ns.length
    · obtain ⟨b, off, rfl, hbl, c1⟩ := (hA.below hb).at_ k hlt
      obtain ⟨b2, off2, rfl, hbl2, c2⟩ := (hB.below hb).at_ k hlt
      have k0 : (0 : Int) ≤ (k : Int) := by omega
      have k1 : (k : Int) < (ns.length : Int) := by omega
      generalize ns[k] = x at *
      clear hA hB
      go_wp2_with fail
      refine wp_region_grow (by kernel_rfl) (by kernel_rfl) ?_
      repeat (go_big_quiet_step ((fail)))
      refine wpQuiet_nil ?_
      rintro _ ⟨xg, rfl⟩
      have hb9 := bel_grow hb xg
      go_wp2_with fail
      go_roundw
      case rel => exact ⟨k + 1, by go_num, by omega, hb9⟩
      case measure => simp [intOf]; omega
    · obtain rfl : k = ns.length := by omega
      go_wp2
      go_ret
      exact ⟨rfl, hb⟩
theorem bxL_ok {B : Nat → Bx} {L : List Nat} (h : ∀ i ∈ L, okBx (B i) = true) (hL : 0 < L.length) : okBx (bxL B L) = true := by
  have hne : L[0] ∈ L := List.getElem_mem hL
  obtain ⟨⟨w1, w2, w3⟩, w4, w5, w6⟩ := bxL_mem B hne
  have hall : WnB (bxL B L) ⟨⟨-131072, -131072, -131072⟩, ⟨131072, 131072, 131072⟩⟩ := by
    have : ∀ i ∈ L, WnB (B i) ⟨⟨-131072, -131072, -131072⟩, ⟨131072, 131072, 131072⟩⟩ := fun i hi => by
      obtain ⟨⟨a1, a2, a3⟩, b1, b2, b3⟩ := okBx_iff.1 (h i hi)
      exact ⟨⟨a1.1, a2.1, a3.1⟩, b1.2, b2.2, b3.2⟩
    cases L with
    | nil => simp at hL
    | cons k L => exact foldB_least _ _ L _ (this k (by simp)) fun i hi => this i (by simp [hi])
  obtain ⟨⟨c1, c2, c3⟩, c4, c5, c6⟩ := hall
  obtain ⟨⟨a1, a2, a3⟩, b1, b2, b3⟩ := okBx_iff.1 (h _ hne)
  simp only at c1 c2 c3 c4 c5 c6
  exact okBx_iff.2 ⟨⟨⟨c1, by omega⟩, ⟨c2, by omega⟩, c3, by omega⟩, ⟨by omega, c4⟩, ⟨by omega, c5⟩, by omega, c6⟩
theorem lay_ok {B : Nat → Bx} {leaf : Nat} : ∀ {t : Tr} {f a : Nat}, t.Ok leaf f → (∀ i ∈ t.its, okBx (B i) = true) → ∀ x ∈ t.lay B a, okBx x.b = true
  | .leaf _ L, f, a, h, hk, x, hx => by
    simp only [Tr.lay, List.mem_cons, List.not_mem_nil, or_false] at hx
    subst hx
    exact bxL_ok hk h.2.1
  | .node L l r, f, a, h, hk, x, hx => by
    simp only [Tr.lay, List.mem_cons, List.mem_append] at hx
    have hk2 : ∀ i ∈ L, okBx (B i) = true := fun i hi => hk i (h.1.mem_iff.2 hi)
    rcases hx with rfl | hx | hx
    · refine bxL_ok hk2 ?_
      have h1 := (ok_its h.2.1).2
      have h2 := h.1.length_eq
      rw [List.length_append] at h2
      omega
    · exact lay_ok h.2.1 (fun i hi => hk i (List.mem_append_left _ hi)) x hx
    · exact lay_ok h.2.2.1 (fun i hi => hk i (List.mem_append_right _ hi)) x hx
/-- Touched, of a tree that Build has laid. -/
theorem touchB_any (W : World) (A1 : Option Addr) (c1 : Nat) (A2 : Option Addr) (c2 : Nat) (B : Nat → Bx) {leaf n : Nat} (hl : 0 < leaf) (h0 : 0 < n) (hn : n ≤ 300) (hok : allOk B n = true) (hN : NdL W A1 ((bvT B leaf n).lay B 0)) (hI : IL W A2 (zL (bvT B leaf n).its)) (hc2 : n ≤ c2) (o d : P3) :
    Calls Try.prog 22 #[.agg #[.slice A1 (bvT B leaf n).sz c1, .slice A2 n c2], .agg #[.int .i64 o.x, .int .i64 o.y, .int .i64 o.z], .agg #[.int .i64 d.x, .int .i64 d.y, .int .i64 d.z]] W fun e W' => Below W.heap.size W W' ∧ ((lnB o d = false ∧ e = .returned (.tuple #[.slice none 0 0, .int .i64 21])) ∨ (lnB o d = true ∧ ∃ A c, e = .returned (.tuple #[.slice A ((bvT B leaf n).touch B (rayQ o d)).length c, .int .i64 0]) ∧ IL W' A (zL ((bvT B leaf n).touch B (rayQ o d))))) := by
  obtain ⟨h1, h2, h3⟩ := bvT_ok B hl h0 hn
  have h4 : (bvT B leaf n).its.length = n := by rw [h2.length_eq, List.length_range]
  exact touched_any W A1 _ c1 A2 n c2 leaf B (bvT B leaf n) hN rfl hI h4.symm h1 (lay_ok h1 (fun i hi => (allOk_iff B n).1 hok i (by simpa using h2.mem_iff.1 hi))) (by omega) (by omega) hc2 o d
def boxA (i : Nat) : Bx := if i = 0 then ⟨⟨0, 0, 0⟩, ⟨1, 1, 1⟩⟩ else if i = 1 then ⟨⟨9, 0, 0⟩, ⟨10, 1, 1⟩⟩ else ⟨⟨5, 0, 0⟩, ⟨6, 1, 1⟩⟩
theorem aliveK : allOk boxA 3 = true := by kernel_rfl
theorem aliveL : lnB ⟨9, 0, -3⟩ ⟨0, 0, 1⟩ = true := by kernel_rfl
set_option maxHeartbeats 2000000 in
theorem alive16_any : Gives Try.prog 18 #[] (.bool true) := by
  refine Gives.mk fun W => ?_
  have hbA := bvT_ok boxA (leaf := 2) (n := 3) (by omega) (by omega) (by omega)
  obtain ⟨W1, hW1⟩ : ∃ W1, W1 = W.alloc (.cells #[.int .i64 0, .int .i64 0, .int .i64 0, .int .i64 1, .int .i64 1, .int .i64 1, .int .i64 9, .int .i64 0, .int .i64 0, .int .i64 10, .int .i64 1, .int .i64 1, .int .i64 5, .int .i64 0, .int .i64 0, .int .i64 6, .int .i64 1, .int .i64 1] 43) := ⟨_, rfl⟩
  have hb1 : Below W.heap.size W W1 := by rw [hW1]; exact bel_alloc (Below.refl _ _) _
  have hR1 : Blk W1 W.heap.size 43 #[.int .i64 0, .int .i64 0, .int .i64 0, .int .i64 1, .int .i64 1, .int .i64 1, .int .i64 9, .int .i64 0, .int .i64 0, .int .i64 10, .int .i64 1, .int .i64 1, .int .i64 5, .int .i64 0, .int .i64 0, .int .i64 6, .int .i64 1, .int .i64 1] := by rw [hW1]; exact Blk.new _ _ _ _ rfl
  have hL1 : BxR W1 (some ⟨W.heap.size, 0, none⟩) 3 boxA := fun _ => ⟨W.heap.size, 0, rfl, hR1.lt, fun i hi j hj => by
    rw [hR1.cell, Nat.zero_add]
    match i, hi, j, hj with
    | 0, _, 0, _ => rfl
    | 0, _, 1, _ => rfl
    | 0, _, 2, _ => rfl
    | 0, _, 3, _ => rfl
    | 0, _, 4, _ => rfl
    | 0, _, 5, _ => rfl
    | 1, _, 0, _ => rfl
    | 1, _, 1, _ => rfl
    | 1, _, 2, _ => rfl
    | 1, _, 3, _ => rfl
    | 1, _, 4, _ => rfl
    | 1, _, 5, _ => rfl
    | 2, _, 0, _ => rfl
    | 2, _, 1, _ => rfl
    | 2, _, 2, _ => rfl
    | 2, _, 3, _ => rfl
    | 2, _, 4, _ => rfl
    | 2, _, 5, _ => rfl⟩
  have kB := build_any W1 (some ⟨W.heap.size, 0, none⟩) 3 3 boxA hL1 (by omega) 2 (by omega)
  clear hR1
  go_enter Try.func18, Try.ntmps18
  go_upto_region 2 with (fail)
  rw [← hW1]
  clear hW1
  have hsz3 : (bvT boxA (2 : Int).toNat 3).sz = 3 := by kernel_rfl
  have hit3 : zL (bvT boxA (2 : Int).toNat 3).its = [0, 2, 1] := by kernel_rfl
  replace hsz3 := Lib.hid hsz3
  replace hit3 := Lib.hid hit3
  go_upto_region 3 with (first | (go_at_call 19; (with_reducible refine kB.mono ?_); rintro e W2 ⟨hb2, hP⟩; obtain ⟨A1, c1, A2, c2, rfl, hN2, hI2, hc2⟩ := bld_tree hP (by kernel_rfl) (by omega); unfold TrZ; rw [hsz3.out]) | fail)
  have hb3 : Below W2.heap.size W2 (W2.alloc (.cells #[.slice A1 3 c1, .slice A2 3 c2] 56)) := bel_alloc (Below.refl _ _) _
  have hT3 : Blk (W2.alloc (.cells #[.slice A1 3 c1, .slice A2 3 c2] 56)) W2.heap.size 56 #[.slice A1 3 c1, .slice A2 3 c2] := Blk.new _ _ _ _ rfl
  have hN3 := hN2.below hb3
  have hI3 := hI2.below hb3
  have hb3' := bel_trans hb1 (bel_trans hb2 hb3)
  clear hN2 hI2 hb1 hb2 hb3 kB hL1 hP
  generalize W2.alloc (.cells #[.slice A1 3 c1, .slice A2 3 c2] 56) = W3 at *
  generalize W2.heap.size = bt at *
  have kT := touchB_any W3 A1 c1 A2 c2 boxA (leaf := (2 : Int).toNat) (n := 3) (by decide) (by omega) (by omega) aliveK hN3 hI3 hc2 ⟨9, 0, -3⟩ ⟨0, 0, 1⟩
  rw [hsz3.out] at kT
  have hlT : ((bvT boxA (2 : Int).toNat 3).touch boxA (rayQ ⟨9, 0, -3⟩ ⟨0, 0, 1⟩)).length = 1 := by kernel_rfl
  have hzT : zL ((bvT boxA (2 : Int).toNat 3).touch boxA (rayQ ⟨9, 0, -3⟩ ⟨0, 0, 1⟩)) = [1] := by kernel_rfl
  have kT' : Calls Try.prog 22 #[.agg #[.slice A1 3 c1, .slice A2 3 c2], .agg #[.int .i64 9, .int .i64 0, .int .i64 (-3)], .agg #[.int .i64 0, .int .i64 0, .int .i64 1]] W3 fun e W' => Below W3.heap.size W3 W' ∧ ∃ A c, e = .returned (.tuple #[.slice A 1 c, .int .i64 0]) ∧ IL W' A [1] := by
    refine kT.mono ?_
    rintro e W' ⟨h1, ⟨h2, _⟩ | ⟨_, A, c, h3, h4⟩⟩
    · rw [aliveL] at h2; cases h2
    · rw [hlT] at h3
      rw [hzT] at h4
      exact ⟨h1, A, c, h3, h4⟩
  rw [hit3.out] at hI3
  clear kT hlT hzT hN3
  have t0 := hT3.cell 0
  have t1 := hT3.cell 1
  have tl := hT3.lt
  go_upto_region 4 with (first | (go_at_call 22; (with_reducible refine kT'.mono ?_); rintro e W4 ⟨hb4, A5, c5, rfl, hI4⟩) | fail)
  have hT4 := hT3.below hb4
  have hI4b := hI3.below hb4
  have hb4' := bel_trans hb3' hb4
  clear t0 t1 tl kT' hT3 hI3 hb4 hb3'
  have t0 := hT4.cell 0
  have t1 := hT4.cell 1
  have tl := hT4.lt
  have kS1 := sameIB_yes (W4.alloc (.cells #[.int .i64 0, .int .i64 2, .int .i64 1] 3)) A2 (some ⟨W4.heap.size, 0, none⟩) c2 3 [0, 2, 1] (hI4b.below (bel_alloc (Below.refl _ _) _)) (fun _ => ⟨W4.heap.size, 0, rfl, (Blk.new W4 3 #[.int .i64 0, .int .i64 2, .int .i64 1] _ rfl).lt, fun i hi => by
    have hi3 : i < 3 := hi
    rw [(Blk.new W4 3 #[.int .i64 0, .int .i64 2, .int .i64 1] _ rfl).cell, Nat.zero_add]
    match i, hi3 with
    | 0, _ => rfl
    | 1, _ => rfl
    | 2, _ => rfl⟩) (by decide)
  have kS2 := fun (W6 : World) (h6 : Below W4.heap.size W4 W6) => sameIB_yes (W6.alloc (.cells #[.int .i64 1] 3)) A5 (some ⟨W6.heap.size, 0, none⟩) c5 1 [1] ((hI4.below h6).below (bel_alloc (Below.refl _ _) _)) (fun _ => ⟨W6.heap.size, 0, rfl, (Blk.new W6 3 #[.int .i64 1] _ rfl).lt, fun i hi => by
    have hi3 : i < 1 := hi
    rw [(Blk.new W6 3 #[.int .i64 1] _ rfl).cell, Nat.zero_add]
    match i, hi3 with
    | 0, _ => rfl⟩) (by decide)
  simp only [List.length_cons, List.length_nil, Nat.zero_add, Nat.reduceAdd] at kS1 kS2
  have hba : Below W4.heap.size W4 (W4.alloc (.cells #[.int .i64 0, .int .i64 2, .int .i64 1] 3)) := bel_alloc (Below.refl _ _) _
  go_wp2_with (first | (go_at_call 24; (with_reducible refine kS1.mono ?_); rintro e W5 ⟨rfl, hb5⟩; have hT5 := hT4.below (bel_trans hba hb5); have t05 := hT5.cell 0; have tl5 := hT5.lt) | (go_at_call 24; (with_reducible refine (kS2 _ (bel_trans hba hb5)).mono ?_); rintro e W6 ⟨rfl, hb6⟩) | fail)
  go_ret
  exact ⟨rfl, bel_trans hb4' (bel_trans hba (bel_trans hb5 (bel_trans (bel_alloc (Below.refl _ _) _) hb6)))⟩
end Go.Proofs.Ythadlpkdfnonjaa
namespace Go.Proofs.Ythadlpkdfnonjaa
open Go.ChangeShapes Go.WideShapes Go.ChangeAt Go.RowKit
set_option linter.unusedVariables false
set_option linter.unusedSimpArgs false
set_option maxRecDepth 100000
section
variable {H : Type} {enc : TypeId × Value → H} {w : World} {base b0 : Nat} {spare : Nat → Bool} {held : Bool} {v : Value} {d : DataW H} {p : List MemPlace} {r : Reach}
theorem cellsBv : Try.prog.cellsOf 43 = 6 := by kernel_rfl
theorem leavesBv : leavesAt Try.prog 10 0 43 = (List.range 6).map fun i => (i, 3) := by kernel_rfl
theorem lt_of_cellb {W : World} {b o : Nat} {s : Option Nat} {u : Value} (h : W.cell? ⟨b, o, s⟩ = some u) : b < W.heap.size ∧ s = none := by
  unfold World.cell? at h
  rcases Nat.lt_or_ge b W.heap.size with hb | hb
  · refine ⟨hb, ?_⟩
    cases s with
    | none => rfl
    | some k =>
      simp only [Option.isSome_some, if_true] at h
      split at h <;> cases h
  · simp only [Array.getElem?_eq_none hb] at h; cases h
theorem BxR.zero (W : World) (A : Option Addr) (B : Nat → Bx) : BxR W A 0 B := fun h => absurd h (by omega)
theorem open_Boxs (hv : Value.okWide Try.prog w r b0 52 v) (h : DataW.Trod enc Try.prog w base spare held 52 v d p) :
    ∃ (A : Option Addr) (n c : Nat) (B : Nat → Bx), v = .slice A n c ∧ SL A n c ∧ BxR w A n B := by
  obtain ⟨fuel, hf⟩ := h
  have hcells : v.cells.toList = [v] := by
    simp only [Value.okWide, Try.underlying52, Cell.okWide] at hv
    cases v <;> simp_all [Cell.ok, Value.cells]
  rw [hcells] at hf
  rcases Go.Deep.open_slice Try.underlying52 hf with ⟨h0, _⟩ | ⟨a, len, cap, m, n, D, Pl, hcs, hb, hl, hm, hmm, _, hi⟩
  · simp only [List.cons.injEq, and_true] at h0
    exact ⟨none, 0, 0, fun _ => ⟨⟨0, 0, 0⟩, ⟨0, 0, 0⟩⟩, h0, ⟨Nat.le_refl _, by unfold maxLen; omega, fun _ => rfl⟩, BxR.zero _ _ _⟩
  · simp only [List.cons.injEq, and_true] at hcs
    have hlm : len ≤ m := by rw [hmm]; split <;> omega
    have each : ∀ i, i < len → ∃ q : Bx, ∀ j, j < 6 → w.cell? ((a.add (i * 6)).add j) = (bxC q)[j]? := fun i hlt => by
      obtain ⟨cs', hc, ht⟩ := hi i (by omega)
      rw [cellsBv] at hc
      obtain ⟨_, hlen, hat⟩ := World.cells?_some hc
      obtain ⟨g, hg, hbd⟩ := ints_trod leavesBv Try.underlying3 hlen ht
      subst hg
      refine ⟨⟨⟨g 0, g 1, g 2⟩, ⟨g 3, g 4, g 5⟩⟩, fun j hj => ?_⟩
      have := hat j (by omega)
      match j, hj with
      | 0, _ => simpa [bxC] using this
      | 1, _ => simpa [bxC] using this
      | 2, _ => simpa [bxC] using this
      | 3, _ => simpa [bxC] using this
      | 4, _ => simpa [bxC] using this
      | 5, _ => simpa [bxC] using this
    obtain ⟨q, hq⟩ : ∃ q : Nat → Bx, ∀ i, i < len → ∀ j, j < 6 → w.cell? ((a.add (i * 6)).add j) = (bxC (q i))[j]? :=
      ⟨fun i => if h : i < len then Classical.choose (each i h) else ⟨⟨0, 0, 0⟩, ⟨0, 0, 0⟩⟩, fun i hi => by simp only [hi, dif_pos]; exact Classical.choose_spec (each i hi)⟩
    refine ⟨some a, len, cap, q, hcs, ⟨hl, hm, fun h => by cases h⟩, fun hn => ?_⟩
    obtain ⟨b, o, s⟩ := a
    have h0 := hq 0 hn 0 (by omega)
    simp only [Nat.zero_mul] at h0
    have h0' : w.cell? ⟨b, o, s⟩ = some (.int .i64 (q 0).lo.x) := by simpa [Addr.add, bxC] using h0
    obtain ⟨hlt, rfl⟩ := lt_of_cellb h0'
    refine ⟨b, o, rfl, hlt, fun i hi j hj => ?_⟩
    have hs := hq i hi j hj
    simp only [add_lit] at hs
    exact hs
end
end Go.Proofs.Ythadlpkdfnonjaa
namespace Go.Proofs.Ythadlpkdfnonjaa
open Go.ChangeShapes Go.WideShapes Go.ChangeAt Go.RowKit
set_option linter.unusedVariables false
set_option linter.unusedSimpArgs false
variable {H : Type} {enc : TypeId × Value → H} {P : Program}
theorem args_below (hl : laidOutB P = true) {W W' : World} (hb : Below W.heap.size W W') : ∀ (ts : List TypeId) (vs : List Value) (ds : List (DataW H)) (ps : List MemPlace),
    (ts.all fun t => P.readableRec t && decide (t < P.types.size)) = true → (∀ x ∈ ps, x.block < W.heap.size) →
    DataW.TrodAll enc P W 0 (fun _ => true) true ts vs ds ps → DataW.TrodAll enc P W' 0 (fun b => decide (b < W.heap.size)) true ts vs ds ps := by
  intro ts
  induction ts with
  | nil =>
    intro vs ds ps _ _ h
    obtain ⟨rfl, rfl, rfl⟩ := trodAll_nil h
    exact trodAll_mk0
  | cons t ts ih =>
    intro vs ds ps ht hx h
    simp only [List.all_cons, Bool.and_eq_true, decide_eq_true_eq] at ht
    obtain ⟨v, vs', d, ds', p, q, rfl, rfl, rfl, h0, h1⟩ := trodAll_cons h
    exact trodAll_cons_mk (Below.trod hl ht.1.1 ht.1.2 h0 hb fun x hp => hx x (by simp [hp])) (ih vs' ds' q ht.2 (fun x hp => hx x (by simp [hp])) h1)
theorem law_post {f : Func} {s : ChangeSpec} {W W' : World} {args : Array Value} {ds gs : List (DataW H)} {before : List MemPlace} {tb : TypeId}
    (hl : laidOutB P = true) (hts : (f.params.toList.all fun t => P.readableRec t && decide (t < P.types.size)) = true) (hv : s.vars = [])
    (hres : f.resultTypes = #[tb]) (htb : P.underlying tb = some .bool) (hr : (s.fn H ds).results = [.lit (.bool true)]) (ha : (s.fn H ds).args = ds) (hg : (s.fn H ds).vars = [])
    (hW : DataW.Whole enc P f.params.toList s.vars false W args.toList ds gs before) (hb : Below W.heap.size W W') :
    s.post enc P f false true false false W args (.bool true) W' := by
  have hlt := fun p hp => hW.lt (p := p) hp
  have hW0 := hW
  obtain ⟨p, q, h1, h2, rfl, hz, hn⟩ := hW
  rw [hv] at h2
  obtain ⟨rfl, rfl⟩ := trodVars_none h2
  simp only [List.append_nil] at *
  refine ⟨ds, [], p, [], p, [], hW0, ?_, ?_, ?_, World.keptBut_mono (fun _ h => h.elim) (hb.frame fun _ => False), fun h => by cases h⟩
  · simp only [List.append_nil, hr, hres]
    exact trodAll_cons_mk (shut_bool htb true) trodAll_mk0
  · simp only [List.append_nil, ha]
    exact args_below hl hb _ _ _ _ hts (fun x hx => hlt x hx) h1
  · simp only [List.append_nil, hg, hv]
    rfl
end Go.Proofs.Ythadlpkdfnonjaa
