/- Package sub: each edge's new vertex. Package sub: stars, and where a vertex is moved. Package sub: the stars of all vertices. Package sub: the new place of a vertex. Package sub: all vertices moved; the number of an edge's new vertex. What Level answers, and what it is reckoned from. -/
import Derived.Deep.MidRow
import Derived.Test.YtpdnaceggpdleabC3
import Derived.Test.YtpdnaceggpdleabC8
import Derived.Test.YtpdnaceggpdleabC9
import Derived.Test.YtpdnaceggpdleabC11
namespace Go.Proofs.Ytpdnaceggpdleab
open Go.RowKit
set_option linter.unusedVariables false
set_option linter.unusedSimpArgs false
set_option linter.unnecessarySimpa false
set_option maxRecDepth 100000
theorem half_sharp (vs ms : List P3) (e : Ed) {s : Int} (h : s ≠ 0) : ofP (foldP Z3 [vat vs e.a, vat vs e.b]) 2 = halfP vs ms e s := by
  rw [fold_sum]
  unfold halfP ofP tri3 halfS co
  simp only [if_neg h]
  rfl
theorem half_soft (vs ms : List P3) (e : Ed) : ofP (foldP Z3 [vat vs e.a, vat vs e.b, vat ms e.f, vat ms e.g]) 4 = halfP vs ms e 0 := by
  rw [fold_sum]
  unfold halfP ofP tri3 halfS co
  simp only [if_true]
  rfl
theorem fold_Z (l : List P3) : I3 (foldP Z3 l) := fold_I3 Z3 l ⟨⟨by decide, by decide⟩, ⟨by decide, by decide⟩, ⟨by decide, by decide⟩⟩
theorem VL2 (W : World) (p q : P3) : VL (W.alloc (.cells #[.int .i64 p.x, .int .i64 p.y, .int .i64 p.z, .int .i64 q.x, .int .i64 q.y, .int .i64 q.z] 30)) (some ⟨W.heap.size, 0, none⟩) [p, q] := fun _ => ⟨_, _, rfl, by simp, fun i hi => by
  have hb := Blk.new W 30 #[.int .i64 p.x, .int .i64 p.y, .int .i64 p.z, .int .i64 q.x, .int .i64 q.y, .int .i64 q.z] _ rfl
  rcases (by simp at hi; omega : i = 0 ∨ i = 1) with rfl | rfl
  · exact ⟨hb.cell 0, hb.cell 1, hb.cell 2⟩
  · exact ⟨hb.cell 3, hb.cell 4, hb.cell 5⟩⟩
theorem VL4 (W : World) (p q r s : P3) : VL (W.alloc (.cells #[.int .i64 p.x, .int .i64 p.y, .int .i64 p.z, .int .i64 q.x, .int .i64 q.y, .int .i64 q.z, .int .i64 r.x, .int .i64 r.y, .int .i64 r.z, .int .i64 s.x, .int .i64 s.y, .int .i64 s.z] 30)) (some ⟨W.heap.size, 0, none⟩) [p, q, r, s] := fun _ => ⟨_, _, rfl, by simp, fun i hi => by
  have hb := Blk.new W 30 #[.int .i64 p.x, .int .i64 p.y, .int .i64 p.z, .int .i64 q.x, .int .i64 q.y, .int .i64 q.z, .int .i64 r.x, .int .i64 r.y, .int .i64 r.z, .int .i64 s.x, .int .i64 s.y, .int .i64 s.z] _ rfl
  rcases (by simp at hi; omega : i = 0 ∨ i = 1 ∨ i = 2 ∨ i = 3) with rfl | rfl | rfl | rfl
  · exact ⟨hb.cell 0, hb.cell 1, hb.cell 2⟩
  · exact ⟨hb.cell 3, hb.cell 4, hb.cell 5⟩
  · exact ⟨hb.cell 6, hb.cell 7, hb.cell 8⟩
  · exact ⟨hb.cell 9, hb.cell 10, hb.cell 11⟩⟩
/-- The cells of a row put so far, and one more. -/
theorem pC_next {n k : Nat} (f : Nat → P3) (hk : k < n) : set3 (rowCs 3 n (pC fun v => if v < k then f v else Z3)) (k * 3) (f k) = rowCs 3 n (pC fun v => if v < k + 1 then f v else Z3) := by
  rw [pC_set _ hk]
  refine pC_ext fun u hu => ?_
  by_cases e : u = k
  · subst e; rw [if_pos rfl, if_pos (by omega)]
  · rw [if_neg e]
    by_cases e2 : u < k
    · rw [if_pos e2, if_pos (by omega)]
    · rw [if_neg e2, if_neg (by omega)]
/-- Three cells of a row of points are there. -/
theorem row3P {W : World} {g n k : Nat} {t : TypeId} {h : Nat → Nat → Value} (hG : Blk W g t (rowCs 3 n h)) (hk : k < n) : (W.cell? ⟨g, k * 3, none⟩ = some (h k 0) ∧ W.cell? ⟨g, k * 3 + 1, none⟩ = some (h k 1) ∧ W.cell? ⟨g, k * 3 + 2, none⟩ = some (h k 2)) ∧ g < W.heap.size ∧ W.frozen? ⟨g, k * 3, none⟩ = false ∧ W.frozen? ⟨g, k * 3 + 1, none⟩ = false ∧ W.frozen? ⟨g, k * 3 + 2, none⟩ = false := by
  have g0 := rowCs_at (k := 3) h hk (show 0 < 3 by omega)
  have g1 := rowCs_at (k := 3) h hk (show 1 < 3 by omega)
  have g2 := rowCs_at (k := 3) h hk (show 2 < 3 by omega)
  rw [Nat.add_zero] at g0
  rw [← hG.cell] at g0 g1 g2
  exact ⟨⟨g0, g1, g2⟩, hG.lt, hG.frozen _, hG.frozen _, hG.frozen _⟩
theorem bel_then_alloc {W W' : World} {o : Obj} (h : Below (W.alloc o).heap.size (W.alloc o) W') : Below W.heap.size W W' := bel_trans (bel_alloc (Below.refl _ _) o) h
/-- A slot that holds a row of n points. -/
def PV (base n : Nat) (ps : List P3) : World → Value → Prop := fun w v => ∃ b, v = .slice (some ⟨b, 0, none⟩) n n ∧ base ≤ b ∧ VL w (some ⟨b, 0, none⟩) ps
theorem PV.stays (base n : Nat) (ps : List P3) : Stays (PV base n ps) := fun w w' v hB ⟨b, e, h0, h⟩ => ⟨b, e, h0, h.below hB⟩
theorem infoV3 : (Try.prog.info? 30).map (·.size) = some 3 := by kernel_rfl
theorem rng3V {W : World} {b o : Nat} {x y z : Value} (h0 : W.cell? ⟨b, o, none⟩ = some x) (h1 : W.cell? ⟨b, o + 1, none⟩ = some y) (h2 : W.cell? ⟨b, o + 2, none⟩ = some z) : W.rangeAt b o [x, y, z] := fun j v hv => by
  match j, hv with
  | 0, hv => simp at hv; subst hv; exact h0
  | 1, hv => simp at hv; subst hv; exact h1
  | 2, hv => simp at hv; subst hv; exact h2
  | j + 3, hv => simp at hv
theorem ldmS_run (a : Act) (o : Oper) (w : World) (ty : TypeId) (x : Operand) (ho : o.op = .load ty x) (b off : Nat) (hx : a.eval x = .pointer (some ⟨b, off, none⟩)) (cs : List Value) (d : TypeDesc) (hc : w.rangeAt b off cs)
    (hu : Try.prog.underlying ty = some d) (hd : d.isRow = true) (hi : (Try.prog.info? ty).map (·.size) = some cs.length) : (execOp a.eval o).run Try.prog w = .ok (.value (.agg cs.toArray)) w := by
  unfold execOp
  simp only [ho, hx, Instr.loadAt, Instr.sureAddr, Sem.run_bind, Sem.run_pure, Result.andThen_ok, run_loadVar_mid w b off ty cs d hc hu hd hi]
def ed0 : Ed := ⟨0, 0, 0, 0⟩
set_option maxHeartbeats 4000000 in
theorem halves_any (W : World) (A1 A2 A3 B1 B2 B3 S M : Option Addr) (n2 n3 m2 m3 k1 k2 k3 d1 d2 d3 s1 s2 : Nat) (vs ms : List P3) (es : List Ed) (sh : List Int) (hV : VL W A1 vs) (hE : EL W B1 es) (hS : IL W S sh) (hM : VL W M ms) (hsl : sh.length = es.length) (hab : ∀ e ∈ es, (0 ≤ e.a ∧ e.a < vs.length) ∧ (0 ≤ e.b ∧ e.b < vs.length)) (hfg : ∀ i (h1 : i < es.length) (h2 : i < sh.length), sh[i] = 0 → (0 ≤ es[i].f ∧ es[i].f < ms.length) ∧ (0 ≤ es[i].g ∧ es[i].g < ms.length)) (hl : es.length < 1099511627776) :
    Calls Try.prog 41 #[.agg #[.slice A1 vs.length k1, .slice A2 n2 k2, .slice A3 n3 k3, .slice B1 es.length d1, .slice B2 m2 d2, .slice B3 m3 d3, .slice S sh.length s1, .slice M ms.length s2]] W fun e W' => ∃ g, e = .returned (.slice (some ⟨g, 0, none⟩) es.length es.length) ∧ W.heap.size ≤ g ∧ Blk W' g 30 (rowCs 3 es.length (pC fun i => halfP vs ms (es.getD i ed0) (sh.getD i 0))) ∧ Below W.heap.size W W' := by
  obtain ⟨i0, hi0, hz0, hz1, hz2⟩ := info_parts infoV
  have hb0 : Below W.heap.size W (W.alloc (.cells #[.slice A1 vs.length k1, .slice A2 n2 k2, .slice A3 n3 k3, .slice B1 es.length d1, .slice B2 m2 d2, .slice B3 m3 d3, .slice S sh.length s1, .slice M ms.length s2] 91)) := bel_alloc (Below.refl _ _) _
  have hC0 : Blk (W.alloc (.cells #[.slice A1 vs.length k1, .slice A2 n2 k2, .slice A3 n3 k3, .slice B1 es.length d1, .slice B2 m2 d2, .slice B3 m3 d3, .slice S sh.length s1, .slice M ms.length s2] 91)) W.heap.size 91 #[.slice A1 vs.length k1, .slice A2 n2 k2, .slice A3 n3 k3, .slice B1 es.length d1, .slice B2 m2 d2, .slice B3 m3 d3, .slice S sh.length s1, .slice M ms.length s2] := Blk.new _ _ _ _ rfl
  have hsz0 : (W.alloc (.cells #[.slice A1 vs.length k1, .slice A2 n2 k2, .slice A3 n3 k3, .slice B1 es.length d1, .slice B2 m2 d2, .slice B3 m3 d3, .slice S sh.length s1, .slice M ms.length s2] 91)).heap.size = W.heap.size + 1 := World.size_alloc _ _
  obtain ⟨ns, hns⟩ : ∃ ns, sh.length = ns := ⟨_, rfl⟩
  rw [hns] at hb0 hC0 hsz0 ⊢
  have hsl2 := Lib.hid (hns.symm.trans hsl)
  replace hns := Lib.hid hns
  clear hsl
  go_enter Try.func41, Try.ntmps41
  go_upto_region 1 with (fail)
  generalize hCe : W.alloc (.cells #[.slice A1 vs.length k1, .slice A2 n2 k2, .slice A3 n3 k3, .slice B1 es.length d1, .slice B2 m2 d2, .slice B3 m3 d3, .slice S ns s1, .slice M ms.length s2] 91) = W0 at *
  clear hCe
  have x3 : W0.cell? ⟨W.heap.size, 3, none⟩ = some (.slice B1 es.length d1) := hC0.cell 3
  have xl := hC0.lt
  go_upto_region 2 with (first | ((refine wpList_make_full _ rfl _ _ 22 rfl W0.heap.size 30 i0 _ 3 Try.underlying22 hi0 hz0 hz1 .i64 .i64 (es.length : Int) (es.length : Int) es.length rfl rfl rfl rfl (by rw [hz2]; omega) (by unfold maxLen; omega) (Nat.le_refl _) ?_); intro W1 own1 hg1) | fail)
  have hG1 : Blk W1 W0.heap.size 30 (rowCs 3 es.length (pC fun _ => Z3)) := by
    have := made_blk own1
    rw [show (Value.agg #[Value.int .i64 0, Value.int .i64 0, Value.int .i64 0]).cells = #[.int .i64 Z3.x, .int .i64 Z3.y, .int .i64 Z3.z] from rfl, pC_made] at this
    exact this
  have hb1 : Below W0.heap.size W0 W1 := bel_own (Below.refl _ _) hg1 (by intro k h; cases h)
  have hC1 := hC0.below hb1
  have hB1 := bel_trans hb0 hb1
  rw [hsz0] at hG1
  clear own1 hg1 hb1 hC0 hb0 x3 xl
  have x3 : W1.cell? ⟨W.heap.size, 3, none⟩ = some (.slice B1 es.length d1) := hC1.cell 3
  have xl := hC1.lt
  go_wp2
  obtain ⟨HF, hHF⟩ : ∃ f : Nat → P3, f = fun i => halfP vs ms (es.getD i ed0) (sh.getD i 0) := ⟨_, rfl⟩
  go_loopw [17] (fun iv wr => ∃ k : Nat, iv = .int .i64 (k : Int) ∧ k ≤ es.length ∧ Below W.heap.size W wr ∧ Blk wr W.heap.size 91 #[.slice A1 vs.length k1, .slice A2 n2 k2, .slice A3 n3 k3, .slice B1 es.length d1, .slice B2 m2 d2, .slice B3 m3 d3, .slice S ns s1, .slice M ms.length s2] ∧ Blk wr (W.heap.size + 1) 30 (rowCs 3 es.length (pC fun i => if i < k then HF i else Z3))) (fun iv _ => es.length - (intOf iv).toNat)
  case atStart => exact ⟨0, rfl, by omega, hB1, hC1, by simpa using hG1⟩
  case round =>
    obtain ⟨k, rfl, hk, hBr, hCr, hGr⟩ := hrel
    clear hB1 hC1 hG1 x3 xl
    by_cases hlt : k < es.length
    · have hks : k < sh.length := by rw [hns.out, hsl2.out]; exact hlt
      obtain ⟨be, oe, rfl, hbe, c0, c1, c2, c3⟩ : ∃ b off, B1 = some ⟨b, off, none⟩ ∧ b < wr.heap.size ∧ _ := by
        obtain ⟨b, off, h1, h2, h3⟩ := (hE.below hBr) (by omega)
        exact ⟨b, off, h1, h2, h3 k hlt⟩
      obtain ⟨bs, os, rfl, hbs, cs⟩ := (hS.below hBr).at_ k hks
      obtain ⟨⟨ha0, ha1⟩, hb0, hb1⟩ := hab _ (List.getElem_mem hlt)
      have hfg1 := hfg k hlt hks
      have hHk : HF k = halfP vs ms es[k] sh[k] := by
        rw [hHF]
        simp only [List.getD_eq_getElem?_getD, List.getElem?_eq_getElem hlt, List.getElem?_eq_getElem hks, Option.getD_some]
      have hkn : (k : Int) < (ns : Int) := by have := hsl2.out; omega
      generalize es[k] = e at *
      generalize sh[k] = sv at *
      obtain ⟨va, hva⟩ := Int.eq_ofNat_of_zero_le ha0
      obtain ⟨vb, hvb⟩ := Int.eq_ofNat_of_zero_le hb0
      rw [hva] at c0 ha1
      rw [hvb] at c1 hb1
      have hva2 : va < vs.length := by omega
      have hvb2 : vb < vs.length := by omega
      obtain ⟨bv, ov, rfl, hbv, a0, a1, a2⟩ := (hV.below hBr).at_ va hva2
      obtain ⟨bv2, ov2, ev2, _, b0, b1, b2⟩ := (hV.below hBr).at_ vb hvb2
      obtain ⟨rfl, rfl⟩ : bv = bv2 ∧ ov = ov2 := by simpa using ev2
      rw [← vat_get hva2, ← hva] at a0 a1 a2
      rw [← vat_get hvb2, ← hvb] at b0 b1 b2
      have hsh := half_sharp vs ms e (s := sv)
      have hso := half_soft vs ms e
      generalize vat vs e.a = pa at *
      generalize vat vs e.b = pb at *
      replace hHk := Lib.hid hHk
      replace hsh := Lib.hid hsh
      replace hso := Lib.hid hso
      replace hfg1 := Lib.hid hfg1
      replace hva := Lib.hid hva
      replace hvb := Lib.hid hvb
      have q0 : (0 : Int) ≤ (k : Int) := by omega
      have q1 : (k : Int) < (es.length : Int) := by omega
      have hb2 : Below wr.heap.size wr (wr.alloc (.cells #[.int .i64 va, .int .i64 vb, .int .i64 e.f, .int .i64 e.g] 79)) := bel_alloc (Below.refl _ _) _
      have hP2 : Blk (wr.alloc (.cells #[.int .i64 va, .int .i64 vb, .int .i64 e.f, .int .i64 e.g] 79)) wr.heap.size 79 #[.int .i64 va, .int .i64 vb, .int .i64 e.f, .int .i64 e.g] := Blk.new _ _ _ _ rfl
      have hB2 := bel_trans hBr hb2
      have hC2 := hCr.below hb2
      have hG2 := hGr.below hb2
      have hCl := hCr.lt
      have hGl := hGr.lt
      have tr := fun (b j : Nat) (v : Value) (hb : b < wr.heap.size) (h : wr.cell? ⟨b, j, none⟩ = some v) => (hb2.cell (p := ⟨b, j, none⟩) hb).trans h
      replace a0 := tr _ _ _ hbv a0
      replace a1 := tr _ _ _ hbv a1
      replace a2 := tr _ _ _ hbv a2
      replace b0 := tr _ _ _ hbv b0
      replace b1 := tr _ _ _ hbv b1
      replace b2 := tr _ _ _ hbv b2
      replace cs := tr _ _ _ hbs cs
      clear hBr hCr hGr
      go_upto_region 5 with (fail)
      generalize wr.alloc (.cells #[.int .i64 va, .int .i64 vb, .int .i64 e.f, .int .i64 e.g] 79) = W2 at *
      obtain ⟨X, hX⟩ : ∃ X, wr.heap.size = X := ⟨_, rfl⟩
      simp only [hX] at *
      clear hX tr c0 c1 c2 c3 hbe
      have hXl := hP2.lt
      have x0 : W2.cell? ⟨W.heap.size, 0, none⟩ = some (.slice (some ⟨bv, ov, none⟩) vs.length k1) := hC2.cell 0
      have y0 : W2.cell? ⟨X, 0, none⟩ = some (.int .i64 va) := hP2.cell 0
      have y1 : W2.cell? ⟨X, 1, none⟩ = some (.int .i64 vb) := hP2.cell 1
      have hbv9 : bv < W2.heap.size := by omega
      have hCl9 : W.heap.size < W2.heap.size := by omega
      have hva3 : (va : Int) < (vs.length : Int) := by omega
      have hvb3 : (vb : Int) < (vs.length : Int) := by omega
      have hva4 : (0 : Int) ≤ (va : Int) := by omega
      have hvb4 : (0 : Int) ≤ (vb : Int) := by omega
      refine wp_region_two 14 ?_ 6 7 30 #[.int .i64 0, .int .i64 0, .int .i64 0] #[.int .i64 pa.x, .int .i64 pa.y, .int .i64 pa.z] #[.int .i64 pb.x, .int .i64 pb.y, .int .i64 pb.z] (by kernel_rfl) (by kernel_rfl) (by kernel_rfl) (by decide) (fun d hd => by cases hd; exact ⟨_, rfl, rfl, rfl, fun A u => alloc_V A _ rfl u⟩) (fun d hd => by cases hd; exact ⟨_, rfl, rfl, rfl, fun A u => alloc_V A _ rfl u⟩) (fun pp => ?_) (fun ga gb => ?_) (fun ga gb => ?_) (fun ga gb => ⟨?_, ?_, fun x => ?_, fun u hu => ?_⟩)
      rotate_left
      · simp only [List.take_succ_cons, List.take_zero]
        repeat (go_big_quiet_step ((fail)))
        refine wpQuiet_nil ?_
        exact rfl
      · exact ⟨_, rfl, storeS_row 30 _ _ _ _ rfl rfl rfl rfl rfl (by kernel_rfl) rfl (by simp [Value.oneCell'])⟩
      · exact ⟨_, rfl, storeS_row 30 _ _ _ _ rfl rfl rfl rfl rfl (by kernel_rfl) rfl (by simp [Value.oneCell'])⟩
      rotate_left
      · kernel_rfl
      · simp only [List.drop_succ_cons, List.drop_zero]
        try simp only [Act.put, List.setIfInBounds_toArray, List.set_cons_succ, List.set_cons_zero]
        refine wpQuiet_nil ?_
        exact rfl
      obtain ⟨hbel, hne, ⟨hga, hba⟩, hgb, hbb⟩ := hu
      simp only [ptr]
      have hC4 := hC2.below hbel
      have hG4 := hG2.below hbel
      have hP4 := hP2.below hbel
      have hB4 := bel_trans hB2 hbel
      have cs4 := (hbel.cell (p := ⟨bs, os + k, none⟩) (by show bs < W2.heap.size; omega)).trans cs
      have hgaC : W.heap.size + 1 < ga := by omega
      have hgbC : W.heap.size + 1 < gb := by omega
      clear hbel hC2 hG2 hP2 hB2 hb2 a0 a1 a2 b0 b1 b2 cs x0 y0 y1 hva3 hvb3 hva4 hvb4 hbv9 hCl9 ev2
      have x6 : u.cell? ⟨W.heap.size, 6, none⟩ = some (.slice (some ⟨bs, os, none⟩) ns s1) := hC4.cell 6
      have xl := hC4.lt
      have hbs9 : bs < u.heap.size := by have := hP4.lt; omega
      have p0 : u.cell? ⟨ga, 0, none⟩ = some (.int .i64 pa.x) := hba.cell 0
      have p1 : u.cell? ⟨ga, 1, none⟩ = some (.int .i64 pa.y) := hba.cell 1
      have p2 : u.cell? ⟨ga, 2, none⟩ = some (.int .i64 pa.z) := hba.cell 2
      have pl := hba.lt
      have r0 : u.cell? ⟨gb, 0, none⟩ = some (.int .i64 pb.x) := hbb.cell 0
      have r1 : u.cell? ⟨gb, 1, none⟩ = some (.int .i64 pb.y) := hbb.cell 1
      have r2 : u.cell? ⟨gb, 2, none⟩ = some (.int .i64 pb.z) := hbb.cell 2
      have rl := hbb.lt
      by_cases hs0 : sv = 0
      · subst hs0
        obtain ⟨⟨f0, f1⟩, h0, h1⟩ := hfg1.out rfl
        obtain ⟨vf, hvf⟩ := Int.eq_ofNat_of_zero_le f0
        obtain ⟨vg, hvg⟩ := Int.eq_ofNat_of_zero_le h0
        rw [hvf] at f1
        rw [hvg] at h1
        have hvf2 : vf < ms.length := by omega
        have hvg2 : vg < ms.length := by omega
        have hMu := hM.below hB4
        have y2 : u.cell? ⟨X, 2, none⟩ = some (.int .i64 vf) := by rw [← hvf]; exact hP4.cell 2
        have y3 : u.cell? ⟨X, 3, none⟩ = some (.int .i64 vg) := by rw [← hvg]; exact hP4.cell 3
        have yl := hP4.lt
        obtain ⟨bm, om, rfl, hbm, a0, a1, a2⟩ := hMu.at_ vf hvf2
        obtain ⟨bm2, om2, em2, _, b0, b1, b2⟩ := hMu.at_ vg hvg2
        obtain ⟨rfl, rfl⟩ : bm = bm2 ∧ om = om2 := by simpa using em2
        rw [← vat_get hvf2, ← hvf] at a0 a1 a2
        rw [← vat_get hvg2, ← hvg] at b0 b1 b2
        have heq := hso.out
        generalize vat ms e.f = pf at *
        generalize vat ms e.g = pg at *
        replace hvf := Lib.hid hvf
        replace hvg := Lib.hid hvg
        have x7 : u.cell? ⟨W.heap.size, 7, none⟩ = some (.slice (some ⟨bm, om, none⟩) ms.length s2) := hC4.cell 7
        have hsB : ((0 : Int) != 0) = false := rfl
        have hvf4 : (0 : Int) ≤ (vf : Int) := by omega
        have hvg4 : (0 : Int) ≤ (vg : Int) := by omega
        have kO := of_G (foldP Z3 [pa, pb, pf, pg]) 4 (fold_Z _) (by unfold i64B; omega)
        rw [heq] at kO
        have hm := hHk.out
        generalize halfP vs ms e 0 = hp at *
        have hset := pC_next HF hlt
        rw [hm] at hset
        generalize hCC : pC (fun i => if i < k then HF i else Z3) = CC at *
        clear hCC
        replace hset := Lib.hid hset
        clear hso hfg1 heq hsh hHk hm em2 hMu
        go_upto_region 8 with (fail)
        refine wp_region_monoT 19 (RL [PE (.slice (some ⟨W.heap.size + 1, 0, none⟩) es.length es.length), PE (.int .i64 (k : Int)), PE (.agg #[.int .i64 pa.x, .int .i64 pa.y, .int .i64 pa.z]), PE (.agg #[.int .i64 pb.x, .int .i64 pb.y, .int .i64 pb.z]), PE (.pointer (some ⟨W.heap.size, 7, none⟩)), PE (.slice (some ⟨bm, om, none⟩) ms.length s2), PE (.pointer (some ⟨X, 2, none⟩)), PE (.int .i64 (vf : Int)), PE (.pointer (some ⟨bm, om + vf * 3, none⟩)), PE (.agg #[.int .i64 pf.x, .int .i64 pf.y, .int .i64 pf.z]), PE (.pointer (some ⟨W.heap.size, 7, none⟩)), PE (.slice (some ⟨bm, om, none⟩) ms.length s2), PE (.pointer (some ⟨X, 3, none⟩)), PE (.int .i64 (vg : Int)), PE (.pointer (some ⟨bm, om + vg * 3, none⟩)), PE (.agg #[.int .i64 pg.x, .int .i64 pg.y, .int .i64 pg.z]), PV (u.heap.size) 4 [pa, pb, pf, pg], PE (.agg #[.int .i64 (foldP Z3 [pa, pb, pf, pg]).x, .int .i64 (foldP Z3 [pa, pb, pf, pg]).y, .int .i64 (foldP Z3 [pa, pb, pf, pg]).z]), PE (.agg #[.int .i64 hp.x, .int .i64 hp.y, .int .i64 hp.z])]) (by kernel_rfl) _ rfl (by kernel_rfl) (by kernel_rfl) (by kernel_rfl) (by kernel_rfl) (by kernel_rfl) (RL.stays ?_) ?_ ?_
        · intro p hp
          simp only [List.mem_cons, List.not_mem_nil, or_false] at hp
          rcases hp with rfl | rfl | rfl | rfl | rfl | rfl | rfl | rfl | rfl | rfl | rfl | rfl | rfl | rfl | rfl | rfl | rfl | rfl | rfl <;> first | exact PE.stays _ | exact PV.stays _ _ _
        · simp only [List.take_succ_cons, List.take_zero]
          refine ⟨?_, ?_, ?_, ?_, ?_, ?_, ?_, ?_, ?_, ?_, ?_, ?_, ?_, ?_, ?_, ?_, ?_, ?_, ?_, ?_⟩
          · refine mono_val rfl (fun a w hB hk hp => ?_)
            have es3 := (hk 3 (keep_of (by kernel_rfl))).trans (show _ = some (.slice (some ⟨W.heap.size + 1, 0, none⟩) es.length es.length) from rfl)
            exact ⟨.slice (some ⟨W.heap.size + 1, 0, none⟩) es.length es.length, w, by simp [execOp, go_sem, es3], Below.refl _ _, fun _ _ => rfl⟩
          · refine mono_val rfl (fun a w hB hk hp => ?_)
            have es4 := (hk 4 (keep_of (by kernel_rfl))).trans (show _ = some (.int .i64 (k : Int)) from rfl)
            exact ⟨.int .i64 (k : Int), w, by simp [execOp, go_sem, es4], Below.refl _ _, fun _ _ => rfl⟩
          · refine mono_val rfl (fun a w hB hk hp => ?_)
            have es6 := (hk 6 (keep_of (by kernel_rfl))).trans (show _ = some (.pointer (some ⟨ga, 0, none⟩)) from rfl)
            have fc0 := (hB.cell (p := ⟨ga, 0, none⟩) pl).trans p0
            have fc1 := (hB.cell (p := ⟨ga, 0 + 1, none⟩) pl).trans p1
            have fc2 := (hB.cell (p := ⟨ga, 0 + 2, none⟩) pl).trans p2
            exact ⟨.agg #[.int .i64 pa.x, .int .i64 pa.y, .int .i64 pa.z], w, ldmS_run _ _ _ 30 _ rfl (ga) (0) (eval_tmp es6) _ _ (rng3V fc0 fc1 fc2) Try.underlying30 rfl infoV3, Below.refl _ _, fun _ _ => rfl⟩
          · refine mono_val rfl (fun a w hB hk hp => ?_)
            have es7 := (hk 7 (keep_of (by kernel_rfl))).trans (show _ = some (.pointer (some ⟨gb, 0, none⟩)) from rfl)
            have fc0 := (hB.cell (p := ⟨gb, 0, none⟩) rl).trans r0
            have fc1 := (hB.cell (p := ⟨gb, 0 + 1, none⟩) rl).trans r1
            have fc2 := (hB.cell (p := ⟨gb, 0 + 2, none⟩) rl).trans r2
            exact ⟨.agg #[.int .i64 pb.x, .int .i64 pb.y, .int .i64 pb.z], w, ldmS_run _ _ _ 30 _ rfl (gb) (0) (eval_tmp es7) _ _ (rng3V fc0 fc1 fc2) Try.underlying30 rfl infoV3, Below.refl _ _, fun _ _ => rfl⟩
          · refine mono_val rfl (fun a w hB hk hp => ?_)
            have es1 := (hk 1 (keep_of (by kernel_rfl))).trans (show _ = some (.pointer (some ⟨W.heap.size, 0, none⟩)) from rfl)
            exact ⟨.pointer (some ⟨W.heap.size, 7, none⟩), w, by simp [execOp, go_sem, es1], Below.refl _ _, fun _ _ => rfl⟩
          · refine mono_val rfl (fun a w hB hk hp => ?_)
            obtain ⟨x4, ex4, rx4⟩ := hp ⟨4, .data⟩ (by simp) rfl _ _ rfl rfl
            obtain rfl : x4 = _ := rx4
            have fc0 := (hB.cell (p := ⟨W.heap.size, 7, none⟩) xl).trans x7
            exact ⟨.slice (some ⟨bm, om, none⟩) ms.length s2, w, by simp [execOp, go_sem, ex4, fc0], Below.refl _ _, fun _ _ => rfl⟩
          · refine mono_val rfl (fun a w hB hk hp => ?_)
            have es5 := (hk 5 (keep_of (by kernel_rfl))).trans (show _ = some (.pointer (some ⟨X, 0, none⟩)) from rfl)
            exact ⟨.pointer (some ⟨X, 2, none⟩), w, by simp [execOp, go_sem, es5], Below.refl _ _, fun _ _ => rfl⟩
          · refine mono_val rfl (fun a w hB hk hp => ?_)
            obtain ⟨x6, ex6, rx6⟩ := hp ⟨6, .data⟩ (by simp) rfl _ _ rfl rfl
            obtain rfl : x6 = _ := rx6
            have fc0 := (hB.cell (p := ⟨X, 2, none⟩) yl).trans y2
            exact ⟨.int .i64 (vf : Int), w, by simp [execOp, go_sem, ex6, fc0], Below.refl _ _, fun _ _ => rfl⟩
          · refine mono_val rfl (fun a w hB hk hp => ?_)
            obtain ⟨x5, ex5, rx5⟩ := hp ⟨5, .data⟩ (by simp) rfl _ _ rfl rfl
            obtain rfl : x5 = _ := rx5
            obtain ⟨x7, ex7, rx7⟩ := hp ⟨7, .data⟩ (by simp) rfl _ _ rfl rfl
            obtain rfl : x7 = _ := rx7
            have fc0 := f1
            have fc1 := hvf4
            exact ⟨.pointer (some ⟨bm, om + vf * 3, none⟩), w, by simp [execOp, go_sem, ex5, ex7, fc0, fc1], Below.refl _ _, fun _ _ => rfl⟩
          · refine mono_val rfl (fun a w hB hk hp => ?_)
            obtain ⟨x8, ex8, rx8⟩ := hp ⟨8, .data⟩ (by simp) rfl _ _ rfl rfl
            obtain rfl : x8 = _ := rx8
            have fc0 := (hB.cell (p := ⟨bm, om + vf * 3, none⟩) hbm).trans a0
            have fc1 := (hB.cell (p := ⟨bm, om + vf * 3 + 1, none⟩) hbm).trans a1
            have fc2 := (hB.cell (p := ⟨bm, om + vf * 3 + 2, none⟩) hbm).trans a2
            exact ⟨.agg #[.int .i64 pf.x, .int .i64 pf.y, .int .i64 pf.z], w, ldmS_run _ _ _ 30 _ rfl (bm) (om + vf * 3) (eval_tmp ex8) _ _ (rng3V fc0 fc1 fc2) Try.underlying30 rfl infoV3, Below.refl _ _, fun _ _ => rfl⟩
          · refine mono_val rfl (fun a w hB hk hp => ?_)
            have es1 := (hk 1 (keep_of (by kernel_rfl))).trans (show _ = some (.pointer (some ⟨W.heap.size, 0, none⟩)) from rfl)
            exact ⟨.pointer (some ⟨W.heap.size, 7, none⟩), w, by simp [execOp, go_sem, es1], Below.refl _ _, fun _ _ => rfl⟩
          · refine mono_val rfl (fun a w hB hk hp => ?_)
            obtain ⟨x10, ex10, rx10⟩ := hp ⟨10, .data⟩ (by simp) rfl _ _ rfl rfl
            obtain rfl : x10 = _ := rx10
            have fc0 := (hB.cell (p := ⟨W.heap.size, 7, none⟩) xl).trans x7
            exact ⟨.slice (some ⟨bm, om, none⟩) ms.length s2, w, by simp [execOp, go_sem, ex10, fc0], Below.refl _ _, fun _ _ => rfl⟩
          · refine mono_val rfl (fun a w hB hk hp => ?_)
            have es5 := (hk 5 (keep_of (by kernel_rfl))).trans (show _ = some (.pointer (some ⟨X, 0, none⟩)) from rfl)
            exact ⟨.pointer (some ⟨X, 3, none⟩), w, by simp [execOp, go_sem, es5], Below.refl _ _, fun _ _ => rfl⟩
          · refine mono_val rfl (fun a w hB hk hp => ?_)
            obtain ⟨x12, ex12, rx12⟩ := hp ⟨12, .data⟩ (by simp) rfl _ _ rfl rfl
            obtain rfl : x12 = _ := rx12
            have fc0 := (hB.cell (p := ⟨X, 3, none⟩) yl).trans y3
            exact ⟨.int .i64 (vg : Int), w, by simp [execOp, go_sem, ex12, fc0], Below.refl _ _, fun _ _ => rfl⟩
          · refine mono_val rfl (fun a w hB hk hp => ?_)
            obtain ⟨x11, ex11, rx11⟩ := hp ⟨11, .data⟩ (by simp) rfl _ _ rfl rfl
            obtain rfl : x11 = _ := rx11
            obtain ⟨x13, ex13, rx13⟩ := hp ⟨13, .data⟩ (by simp) rfl _ _ rfl rfl
            obtain rfl : x13 = _ := rx13
            have fc0 := h1
            have fc1 := hvg4
            exact ⟨.pointer (some ⟨bm, om + vg * 3, none⟩), w, by simp [execOp, go_sem, ex11, ex13, fc0, fc1], Below.refl _ _, fun _ _ => rfl⟩
          · refine mono_val rfl (fun a w hB hk hp => ?_)
            obtain ⟨x14, ex14, rx14⟩ := hp ⟨14, .data⟩ (by simp) rfl _ _ rfl rfl
            obtain rfl : x14 = _ := rx14
            have fc0 := (hB.cell (p := ⟨bm, om + vg * 3, none⟩) hbm).trans b0
            have fc1 := (hB.cell (p := ⟨bm, om + vg * 3 + 1, none⟩) hbm).trans b1
            have fc2 := (hB.cell (p := ⟨bm, om + vg * 3 + 2, none⟩) hbm).trans b2
            exact ⟨.agg #[.int .i64 pg.x, .int .i64 pg.y, .int .i64 pg.z], w, ldmS_run _ _ _ 30 _ rfl (bm) (om + vg * 3) (eval_tmp ex14) _ _ (rng3V fc0 fc1 fc2) Try.underlying30 rfl infoV3, Below.refl _ _, fun _ _ => rfl⟩
          · refine mono_val rfl (fun a w hB hk hp => ?_)
            obtain ⟨x2, ex2, rx2⟩ := hp ⟨2, .data⟩ (by simp) rfl _ _ rfl rfl
            obtain rfl : x2 = _ := rx2
            obtain ⟨x3, ex3, rx3⟩ := hp ⟨3, .data⟩ (by simp) rfl _ _ rfl rfl
            obtain rfl : x3 = _ := rx3
            obtain ⟨x9, ex9, rx9⟩ := hp ⟨9, .data⟩ (by simp) rfl _ _ rfl rfl
            obtain rfl : x9 = _ := rx9
            obtain ⟨x15, ex15, rx15⟩ := hp ⟨15, .data⟩ (by simp) rfl _ _ rfl rfl
            obtain rfl : x15 = _ := rx15
            exact ⟨.slice (some ⟨w.heap.size, 0, none⟩) 4 4, w.alloc (.cells #[.int .i64 pa.x, .int .i64 pa.y, .int .i64 pa.z, .int .i64 pb.x, .int .i64 pb.y, .int .i64 pb.z, .int .i64 pf.x, .int .i64 pf.y, .int .i64 pf.z, .int .i64 pg.x, .int .i64 pg.y, .int .i64 pg.z] 30), by simp [execOp, go_sem, ex2, ex3, ex9, ex15], bel_alloc (Below.refl _ _) _, fun _ _ => ⟨w.heap.size, rfl, hB.size, VL4 w pa pb pf pg⟩⟩
          · refine mono_call rfl (fun a w hB hk hp => ?_)
            obtain ⟨x16, ex16, rx16⟩ := hp ⟨16, .data⟩ (by simp) rfl _ _ rfl rfl
            obtain ⟨bb, rfl, hbb, hvl⟩ : PV (u.heap.size) 4 [pa, pb, pf, pg] w x16 := rx16
            exact ⟨62, #[.slice (some ⟨bb, 0, none⟩) 4 4], by simp [execOp, go_sem, ex16], (together_any w (some ⟨bb, 0, none⟩) 4 [pa, pb, pf, pg] hvl (by simp) (by simp)).mono fun e w' ⟨h1, h2⟩ => ⟨_, h1, h2, fun _ _ => rfl⟩⟩
          · refine mono_call rfl (fun a w hB hk hp => ?_)
            obtain ⟨x17, ex17, rx17⟩ := hp ⟨17, .data⟩ (by simp) rfl _ _ rfl rfl
            obtain rfl : x17 = _ := rx17
            exact ⟨58, #[.agg #[.int .i64 (foldP Z3 [pa, pb, pf, pg]).x, .int .i64 (foldP Z3 [pa, pb, pf, pg]).y, .int .i64 (foldP Z3 [pa, pb, pf, pg]).z], .int .i64 4], by simp [execOp, go_sem, ex17], (kO.at_ w).mono fun e w' ⟨h1, xg, h2⟩ => ⟨_, h1, h2 ▸ bel_grow (Below.refl _ _) xg, fun _ _ => rfl⟩⟩
          · trivial
        · intro a u4 hB hsz hdf hk hgot
          obtain ⟨v0, ev0, rv0⟩ := hgot 0 _ 50 rfl rfl
          obtain rfl : v0 = _ := rv0
          obtain ⟨v1, ev1, rv1⟩ := hgot 1 _ 51 rfl rfl
          obtain rfl : v1 = _ := rv1
          obtain ⟨v18, ev18, rv18⟩ := hgot 18 _ 68 rfl rfl
          obtain rfl : v18 = _ := rv18
          obtain ⟨f, hf, rfl⟩ := frame_eq hsz hdf hk [50, 51, 52, 53, 54, 55, 56, 57, 58, 59, 60, 61, 62, 63, 64, 65, 66, 67, 68] (by rfl)
          have f50 := hf 50 _ ev0
          have f51 := hf 51 _ ev1
          have f68 := hf 68 _ ev18
          clear hsz hdf hk hgot hf ev0 ev1 ev18
          simp only [List.drop_succ_cons, List.drop_zero, setAll, List.setIfInBounds_toArray, List.set_cons_succ, List.set_cons_zero, f50, f51, f68]
          clear f50 f51 f68
          generalize f 52 = uu52; generalize f 53 = uu53; generalize f 54 = uu54; generalize f 55 = uu55; generalize f 56 = uu56; generalize f 57 = uu57; generalize f 58 = uu58; generalize f 59 = uu59; generalize f 60 = uu60; generalize f 61 = uu61; generalize f 62 = uu62; generalize f 63 = uu63; generalize f 64 = uu64; generalize f 65 = uu65; generalize f 66 = uu66; generalize f 67 = uu67
          have hG6 := hG4.below hB
          have hC6 := hC4.below hB
          have hB6 := bel_trans hB4 hB
          obtain ⟨⟨g0, g1, g2⟩, gl, e0, e1, e2⟩ := row3P hG6 hlt
          generalize CC k 0 = v0 at *
          generalize CC k 1 = v1 at *
          generalize CC k 2 = v2 at *
          clear hG4 hC4 hB4 hB
          go_wp2
          go_roundw
          case rel =>
            refine ⟨k + 1, by go_num, by omega, ?_, ?_, ?_⟩
            · exact (bel_set (bel_set (bel_set hB6 (p := ⟨W.heap.size + 1, _, none⟩) (by simp) _) (p := ⟨W.heap.size + 1, _, none⟩) (by simp) _) (p := ⟨W.heap.size + 1, _, none⟩) (by simp) _)
            · exact (((hC6.far (b := W.heap.size + 1) _ _ (by omega)).far (b := W.heap.size + 1) _ _ (by omega)).far (b := W.heap.size + 1) _ _ (by omega))
            · have h9 := ((hG6.set (k * 3) (.int .i64 hp.x)).set (k * 3 + 1) (.int .i64 hp.y)).set (k * 3 + 2) (.int .i64 hp.z)
              rw [← hset.out]
              exact h9
          case measure => simp [intOf]; omega
      · have hsB : (sv != 0) = true := by simpa using hs0
        have heq := hsh.out hs0
        have cT := together_any _ _ 2 [pa, pb] (VL2 u pa pb) (by simp) (by simp)
        simp only [List.length_cons, List.length_nil, Nat.zero_add, Nat.reduceAdd] at cT
        have kO := of_G (foldP Z3 [pa, pb]) 2 (fold_Z _) (by unfold i64B; omega)
        rw [heq] at kO
        have hm := hHk.out
        generalize halfP vs ms e sv = hp at *
        generalize foldP Z3 [pa, pb] = fz at *
        have hset := pC_next HF hlt
        rw [hm] at hset
        generalize hCC : pC (fun i => if i < k then HF i else Z3) = CC at *
        clear hCC
        replace hset := Lib.hid hset
        clear hso hfg1 heq hsh hHk hm
        go_upto_region 9 with (first | (go_at_call 62; (with_reducible refine cT.mono ?_); rintro e W6 ⟨rfl, hb6⟩; have hb7 := bel_then_alloc hb6; have hG6 := hG4.below hb7; have hC6 := hC4.below hb7; have hB6 := bel_trans hB4 hb7; obtain ⟨⟨g0, g1, g2⟩, gl, e0, e1, e2⟩ := row3P hG6 hlt; generalize CC k 0 = v0 at *; generalize CC k 1 = v1 at *; generalize CC k 2 = v2 at *; clear hb6 hb7 hG4 hC4 hB4 cT) | (go_at_call 58; (with_reducible refine (kO.at_ _).mono ?_); rintro e w' ⟨rfl, xg, rfl⟩) | fail)
        go_wp2
        go_roundw
        case rel =>
          refine ⟨k + 1, by go_num, by omega, ?_, ?_, ?_⟩
          · exact bel_grow (bel_set (bel_set (bel_set hB6 (p := ⟨W.heap.size + 1, _, none⟩) (by simp) _) (p := ⟨W.heap.size + 1, _, none⟩) (by simp) _) (p := ⟨W.heap.size + 1, _, none⟩) (by simp) _) _
          · exact (((hC6.far (b := W.heap.size + 1) _ _ (by omega)).far (b := W.heap.size + 1) _ _ (by omega)).far (b := W.heap.size + 1) _ _ (by omega)).grow _
          · have h9 := ((hG6.set (k * 3) (.int .i64 hp.x)).set (k * 3 + 1) (.int .i64 hp.y)).set (k * 3 + 2) (.int .i64 hp.z)
            rw [← hset.out]
            exact h9.grow _
        case measure => simp [intOf]; omega
    · obtain rfl : k = es.length := by omega
      have hGr2 : Blk wr (W.heap.size + 1) 30 (rowCs 3 es.length (pC fun i => halfP vs ms (es.getD i ed0) (sh.getD i 0))) := by
        rw [← pC_ext (f := fun f => if f < es.length then HF f else Z3) fun v hv => by rw [if_pos hv, hHF]]
        exact hGr
      go_wp2
      go_ret
      exact ⟨W.heap.size + 1, rfl, by omega, hGr2, hBr⟩
end Go.Proofs.Ytpdnaceggpdleab
namespace Go.Proofs.Ytpdnaceggpdleab
open Go.RowKit
set_option linter.unusedVariables false
set_option linter.unusedSimpArgs false
set_option linter.unnecessarySimpa false
set_option maxRecDepth 100000
structure St where
  all : P3
  ends : P3
  n : Nat
def St0 : St := ⟨Z3, Z3, 0⟩
def starMeet (s : St) (p : P3) (sh : Int) : St := ⟨adW s.all p, if sh = 0 then s.ends else adW s.ends p, if sh = 0 then s.n else s.n + 1⟩
/-- The cells of stars. -/
def sC (f : Nat → St) : Nat → Nat → Value := fun v j => .int .i64 (if j = 0 then (f v).all.x else if j = 1 then (f v).all.y else if j = 2 then (f v).all.z else if j = 3 then (f v).ends.x else if j = 4 then (f v).ends.y else if j = 5 then (f v).ends.z else ((f v).n : Int))
def setSt (cs : Array Value) (off : Nat) (s : St) : Array Value := (set3 (set3 cs off s.all) (off + 3) s.ends).setIfInBounds (off + 6) (.int .i64 (s.n : Int))
theorem sC_ext {n : Nat} {f g : Nat → St} (h : ∀ v, v < n → f v = g v) : rowCs 7 n (sC f) = rowCs 7 n (sC g) := rowCs_ext fun a b ha hb => by unfold sC; rw [h a ha]
theorem sC_all (f : Nat → St) {n v : Nat} (hv : v < n) (p : P3) : set3 (rowCs 7 n (sC f)) (v * 7) p = rowCs 7 n (sC fun u => if u = v then ⟨p, (f v).ends, (f v).n⟩ else f u) := by
  unfold set3
  have e0 := rowCs_set (k := 7) (sC f) hv (show 0 < 7 by omega) (.int .i64 p.x)
  rw [Nat.add_zero] at e0
  rw [e0, rowCs_set _ hv (show 1 < 7 by omega), rowCs_set _ hv (show 2 < 7 by omega)]
  refine rowCs_ext fun a b ha hb => ?_
  unfold setC sC
  by_cases e : a = v
  · subst e
    rcases (by omega : b = 0 ∨ b = 1 ∨ b = 2 ∨ b = 3 ∨ b = 4 ∨ b = 5 ∨ b = 6) with rfl | rfl | rfl | rfl | rfl | rfl | rfl <;> simp
  · simp [e]
theorem sC_set (f : Nat → St) {n v : Nat} (hv : v < n) (s : St) : setSt (rowCs 7 n (sC f)) (v * 7) s = rowCs 7 n (sC fun u => if u = v then s else f u) := by
  unfold setSt
  rw [sC_all f hv]
  unfold set3
  rw [show v * 7 + 3 + 1 = v * 7 + 4 by omega, show v * 7 + 3 + 2 = v * 7 + 5 by omega]
  rw [rowCs_set _ hv (show 3 < 7 by omega), rowCs_set _ hv (show 4 < 7 by omega), rowCs_set _ hv (show 5 < 7 by omega), rowCs_set _ hv (show 6 < 7 by omega)]
  refine rowCs_ext fun a b ha hb => ?_
  unfold setC sC
  by_cases e : a = v
  · subst e
    rcases (by omega : b = 0 ∨ b = 1 ∨ b = 2 ∨ b = 3 ∨ b = 4 ∨ b = 5 ∨ b = 6) with rfl | rfl | rfl | rfl | rfl | rfl | rfl <;> simp
  · simp [e]
theorem sC_made (n : Nat) : madeCells #[.int .i64 0, .int .i64 0, .int .i64 0, .int .i64 0, .int .i64 0, .int .i64 0, .int .i64 0] (n * 7) = rowCs 7 n (sC fun _ => St0) := by
  rw [rowCs_made (k := 7) rfl (by omega)]
  refine rowCs_ext fun a b ha hb => ?_
  unfold sC St0
  rcases (by omega : b = 0 ∨ b = 1 ∨ b = 2 ∨ b = 3 ∨ b = 4 ∨ b = 5 ∨ b = 6) with rfl | rfl | rfl | rfl | rfl | rfl | rfl <;> rfl
/-- A star's cells. -/
def StAt (cs : Array Value) (off : Nat) (s : St) : Prop := off + 7 ≤ cs.size ∧ (cs[off]? = some (.int .i64 s.all.x) ∧ cs[off + 1]? = some (.int .i64 s.all.y) ∧ cs[off + 2]? = some (.int .i64 s.all.z)) ∧ (cs[off + 3]? = some (.int .i64 s.ends.x) ∧ cs[off + 4]? = some (.int .i64 s.ends.y) ∧ cs[off + 5]? = some (.int .i64 s.ends.z)) ∧ cs[off + 6]? = some (.int .i64 (s.n : Int))
theorem sC_at (f : Nat → St) {n v : Nat} (hv : v < n) : StAt (rowCs 7 n (sC f)) (v * 7) (f v) := by
  have g := fun j (hj : j < 7) => rowCs_at (k := 7) (sC f) hv hj
  refine ⟨by rw [rowCs_size]; have := row_lt (k := 7) hv (show 6 < 7 by omega); omega, ⟨?_, ?_, ?_⟩, ⟨?_, ?_, ?_⟩, ?_⟩
  · have := g 0 (by omega); rwa [Nat.add_zero] at this
  · exact g 1 (by omega)
  · exact g 2 (by omega)
  · exact g 3 (by omega)
  · exact g 4 (by omega)
  · exact g 5 (by omega)
  · exact g 6 (by omega)
theorem set3_far {cs : Array Value} {off i : Nat} (p : P3) (h : i < off ∨ off + 3 ≤ i) : (set3 cs off p)[i]? = cs[i]? := by
  unfold set3
  rw [Array.getElem?_setIfInBounds, if_neg (by omega), Array.getElem?_setIfInBounds, if_neg (by omega), Array.getElem?_setIfInBounds, if_neg (by omega)]
theorem setSt_all {cs : Array Value} {off : Nat} {s : St} (h : StAt cs off s) (p : P3) : set3 cs off p = setSt cs off ⟨p, s.ends, s.n⟩ := by
  obtain ⟨h1, h2, h3, h4⟩ := h
  unfold setSt
  rw [set3_self (cs := set3 cs off p) (off := off + 3) (p := s.ends) ⟨by rw [set3_far _ (by omega)]; exact h3.1, by rw [set3_far _ (by omega)]; exact h3.2.1, by rw [set3_far _ (by omega)]; exact h3.2.2⟩]
  apply Array.ext_getElem?
  intro i
  rw [Array.getElem?_setIfInBounds]
  split
  · rename_i e
    subst e
    rw [if_pos (by rw [set3_size]; omega), set3_far _ (by omega)]; exact h4
  · rfl
theorem set3_comm {cs : Array Value} {off i : Nat} (p : P3) (u : Value) (h : i < off ∨ off + 3 ≤ i) : set3 (cs.setIfInBounds i u) off p = (set3 cs off p).setIfInBounds i u := by
  unfold set3
  have c : ∀ (A : Array Value) (j : Nat) (v : Value), i ≠ j → (A.setIfInBounds i u).setIfInBounds j v = (A.setIfInBounds j v).setIfInBounds i u := fun A j v h => Array.setIfInBounds_comm _ _ h
  rw [c _ _ _ (by omega), c _ _ _ (show i ≠ off + 1 by omega), c _ _ _ (show i ≠ off + 2 by omega)]
theorem setSt_ends (cs : Array Value) (off : Nat) (a e q : P3) (n m : Nat) : (set3 (setSt cs off ⟨a, e, n⟩) (off + 3) q).setIfInBounds (off + 6) (.int .i64 (m : Int)) = setSt cs off ⟨a, q, m⟩ := by
  unfold setSt
  rw [set3_comm _ _ (by omega), set3_set3, Array.setIfInBounds_setIfInBounds]
theorem setSt_at {cs : Array Value} {off : Nat} {s : St} (h : StAt cs off s) (t : St) : StAt (setSt cs off t) off t := by
  have hsz : off + 7 ≤ cs.size := h.1
  have e1 := set3_at (cs := cs) t.all (show off + 3 ≤ cs.size by omega)
  have e2 := set3_at (cs := set3 cs off t.all) (off := off + 3) t.ends (by rw [set3_size]; omega)
  have far : ∀ i, i ≠ off + 6 → (setSt cs off t)[i]? = (set3 (set3 cs off t.all) (off + 3) t.ends)[i]? := fun i hi => by unfold setSt; rw [Array.getElem?_setIfInBounds, if_neg (by omega)]
  refine ⟨by unfold setSt; rw [Array.size_setIfInBounds, set3_size, set3_size]; exact hsz, ⟨?_, ?_, ?_⟩, ⟨?_, ?_, ?_⟩, ?_⟩
  · rw [far _ (by omega), set3_far _ (by omega)]; exact e1.1
  · rw [far _ (by omega), set3_far _ (by omega)]; exact e1.2.1
  · rw [far _ (by omega), set3_far _ (by omega)]; exact e1.2.2
  · rw [far _ (by omega)]; exact e2.1
  · rw [far _ (by omega)]; exact e2.2.1
  · rw [far _ (by omega)]; exact e2.2.2
  · unfold setSt
    rw [Array.getElem?_setIfInBounds, if_pos rfl, if_pos (by rw [set3_size, set3_size]; omega)]
theorem VL1 (W : World) (p : P3) : VL (W.alloc (.cells #[.int .i64 p.x, .int .i64 p.y, .int .i64 p.z] 30)) (some ⟨W.heap.size, 0, none⟩) [p] := fun _ => ⟨_, _, rfl, by simp, fun i hi => by
  obtain rfl : i = 0 := by simp at hi; omega
  have hb := Blk.new W 30 #[.int .i64 p.x, .int .i64 p.y, .int .i64 p.z] _ rfl
  exact ⟨hb.cell 0, hb.cell 1, hb.cell 2⟩⟩
set_option maxHeartbeats 2000000 in
theorem meet_any (W : World) (b off : Nat) (T : TypeId) (cs : Array Value) (s : St) (p : P3) (sh : Int) (hB : Blk W b T cs) (hs : StAt cs off s) (hn : s.n < 1099511627776) :
    Calls Try.prog 69 #[.pointer (some ⟨b, off, none⟩), .agg #[.int .i64 p.x, .int .i64 p.y, .int .i64 p.z], .int .i64 sh] W fun e W' => e = .returned (.tuple #[]) ∧ W.grownBy W' (some b) ∧ Blk W' b T (setSt cs off (starMeet s p sh)) := by
  have hb0 : Below W.heap.size W (W.alloc (.cells #[.int .i64 p.x, .int .i64 p.y, .int .i64 p.z] 30)) := bel_alloc (Below.refl _ _) _
  have hP0 : Blk (W.alloc (.cells #[.int .i64 p.x, .int .i64 p.y, .int .i64 p.z] 30)) W.heap.size 30 #[.int .i64 p.x, .int .i64 p.y, .int .i64 p.z] := Blk.new _ _ _ _ rfl
  have hB0 : Blk (W.alloc (.cells #[.int .i64 p.x, .int .i64 p.y, .int .i64 p.z] 30)) b T cs := hB.alloc _
  have hg0 : W.grownBy (W.alloc (.cells #[.int .i64 p.x, .int .i64 p.y, .int .i64 p.z] 30)) (some b) := World.grownBy_alloc _ _ _
  have hbl := hB.lt
  go_enter Try.func69, Try.ntmps69
  go_upto_region 1 with (fail)
  generalize W.alloc (.cells #[.int .i64 p.x, .int .i64 p.y, .int .i64 p.z] 30) = W1 at *
  obtain ⟨X, hX⟩ : ∃ X, W.heap.size = X := ⟨_, rfl⟩
  simp only [hX] at *
  clear hX
  have p0 : W1.cell? ⟨X, 0, none⟩ = some (.int .i64 p.x) := hP0.cell 0
  have p1 : W1.cell? ⟨X, 1, none⟩ = some (.int .i64 p.y) := hP0.cell 1
  have p2 : W1.cell? ⟨X, 2, none⟩ = some (.int .i64 p.z) := hP0.cell 2
  have pl := hP0.lt
  obtain ⟨hs1, hs2, hs3, hs4⟩ := hs
  refine wp_region_monoT 5 (RL [PE (.pointer (some ⟨b, off, none⟩)), PE (.pointer (some ⟨b, off, none⟩)), PE (.pointer (some ⟨b, off, none⟩)), PE (.agg #[.int .i64 p.x, .int .i64 p.y, .int .i64 p.z]), PV (W1.heap.size) 1 [p]]) (by kernel_rfl) _ rfl (by kernel_rfl) (by kernel_rfl) (by kernel_rfl) (by kernel_rfl) (by kernel_rfl) (RL.stays ?_) ?_ ?_
  · intro p hp
    simp only [List.mem_cons, List.not_mem_nil, or_false] at hp
    rcases hp with rfl | rfl | rfl | rfl | rfl <;> first | exact PE.stays _ | exact PV.stays _ _ _
  · simp only [List.take_succ_cons, List.take_zero]
    refine ⟨?_, ?_, ?_, ?_, ?_, ?_⟩
    · refine mono_val rfl (fun a w hB hk hp => ?_)
      have es0 := (hk 0 (keep_of (by kernel_rfl))).trans (show _ = some (.pointer (some ⟨b, off, none⟩)) from rfl)
      exact ⟨.pointer (some ⟨b, off, none⟩), w, by simp [execOp, go_sem, es0], Below.refl _ _, fun _ _ => rfl⟩
    · refine mono_val rfl (fun a w hB hk hp => ?_)
      obtain ⟨x0, ex0, rx0⟩ := hp ⟨0, .data⟩ (by simp) rfl _ _ rfl rfl
      obtain rfl : x0 = _ := rx0
      exact ⟨.pointer (some ⟨b, off, none⟩), w, by simp [execOp, go_sem, ex0], Below.refl _ _, fun _ _ => rfl⟩
    · refine mono_val rfl (fun a w hB hk hp => ?_)
      obtain ⟨x1, ex1, rx1⟩ := hp ⟨1, .data⟩ (by simp) rfl _ _ rfl rfl
      obtain rfl : x1 = _ := rx1
      exact ⟨.pointer (some ⟨b, off, none⟩), w, by simp [execOp, go_sem, ex1], Below.refl _ _, fun _ _ => rfl⟩
    · refine mono_val rfl (fun a w hB hk hp => ?_)
      have es4 := (hk 4 (keep_of (by kernel_rfl))).trans (show _ = some (.pointer (some ⟨X, 0, none⟩)) from rfl)
      have fc0 := (hB.cell (p := ⟨X, 0, none⟩) pl).trans p0
      have fc1 := (hB.cell (p := ⟨X, 0 + 1, none⟩) pl).trans p1
      have fc2 := (hB.cell (p := ⟨X, 0 + 2, none⟩) pl).trans p2
      exact ⟨.agg #[.int .i64 p.x, .int .i64 p.y, .int .i64 p.z], w, ldmS_run _ _ _ 30 _ rfl (X) (0) (eval_tmp es4) _ _ (rng3V fc0 fc1 fc2) Try.underlying30 rfl infoV3, Below.refl _ _, fun _ _ => rfl⟩
    · refine mono_val rfl (fun a w hB hk hp => ?_)
      obtain ⟨x3, ex3, rx3⟩ := hp ⟨3, .data⟩ (by simp) rfl _ _ rfl rfl
      obtain rfl : x3 = _ := rx3
      exact ⟨.slice (some ⟨w.heap.size, 0, none⟩) 1 1, w.alloc (.cells #[.int .i64 p.x, .int .i64 p.y, .int .i64 p.z] 30), by simp [execOp, go_sem, ex3], bel_alloc (Below.refl _ _) _, fun _ _ => ⟨w.heap.size, rfl, hB.size, VL1 w p⟩⟩
    · trivial
  · intro a w2 hB hsz hdf hk hgot
    obtain ⟨v2, ev2, rv2⟩ := hgot 2 _ 8 rfl rfl
    obtain rfl : v2 = _ := rv2
    obtain ⟨v4, ev4, rv4⟩ := hgot 4 _ 10 rfl rfl
    obtain ⟨bb, rfl, hbb, hvl⟩ : PV (W1.heap.size) 1 [p] w2 v4 := rv4
    obtain ⟨f, hf, rfl⟩ := frame_eq hsz hdf hk [6, 7, 8, 9, 10] (by rfl)
    have f8 := hf 8 _ ev2
    have f10 := hf 10 _ ev4
    clear hsz hdf hk hgot hf ev2 ev4
    simp only [List.drop_succ_cons, List.drop_zero, setAll, List.setIfInBounds_toArray, List.set_cons_succ, List.set_cons_zero, f8, f10]
    clear f8 f10
    generalize f 6 = uu6; generalize f 7 = uu7; generalize f 9 = uu9
    have hB2 := hB0.below hB
    have hP2 := hP0.below hB
    have hg2 := hg0.trans ((grown_of hB).but _)
    have hB0l := hB0.lt
    have hne : bb ≠ b := by omega
    have hPne : X ≠ b := by omega
    have cA := add_any w2 b off T cs s.all (some ⟨bb, 0, none⟩) 1 [p] hB2 (by omega) hs2 hvl (fun b2 o2 e => by cases e; exact hne) (by simp)
    simp only [List.length_cons, List.length_nil, Nat.zero_add] at cA
    have hAt : StAt cs off s := ⟨hs1, hs2, hs3, hs4⟩
    rw [show foldP s.all [p] = adW s.all p from rfl, setSt_all hAt] at cA
    by_cases h0 : sh = 0
    · subst h0
      have hsm : starMeet s p 0 = ⟨adW s.all p, s.ends, s.n⟩ := rfl
      have hsB : ((0 : Int) != 0) = false := rfl
      go_wp2_with (first | (go_at_call 57; (with_reducible refine cA.mono ?_); rintro e W3 ⟨rfl, hg3, hB3⟩) | fail)
      first | go_end0 | (refine bodyPost_ret (results_none rfl _ _ _) rfl ?_)
      exact ⟨rfl, hg2.trans hg3, by rw [hsm]; exact hB3⟩
    · have hsm : starMeet s p sh = ⟨adW s.all p, adW s.ends p, s.n + 1⟩ := by unfold starMeet; rw [if_neg h0, if_neg h0]
      have hsB : (sh != 0) = true := by simpa using h0
      go_upto_region 3 with (first | (go_at_call 57; (with_reducible refine cA.mono ?_); rintro e W3 ⟨rfl, hg3, hB3⟩) | fail)
      have hP3 := hP2.kept hg3 (by intro e; cases e; exact hPne rfl)
      have hgA := hg2.trans hg3
      have hA3 := setSt_at hAt ⟨adW s.all p, s.ends, s.n⟩
      replace hsm := Lib.hid hsm
      have hcat := setSt_ends cs off (adW s.all p) s.ends (adW s.ends p) s.n (s.n + 1)
      replace hcat := Lib.hid hcat
      generalize setSt cs off ⟨adW s.all p, s.ends, s.n⟩ = cs1 at *
      clear hB hB2 hP2 hg2 cA hvl hbb hne hg3 p0 p1 p2 pl
      have hl3 := hB3.lt
      have p0 : W3.cell? ⟨X, 0, none⟩ = some (.int .i64 p.x) := hP3.cell 0
      have p1 : W3.cell? ⟨X, 1, none⟩ = some (.int .i64 p.y) := hP3.cell 1
      have p2 : W3.cell? ⟨X, 2, none⟩ = some (.int .i64 p.z) := hP3.cell 2
      have pl := hP3.lt
      refine wp_region_monoT 5 (RL [PE (.pointer (some ⟨b, off, none⟩)), PE (.pointer (some ⟨b, off, none⟩)), PE (.pointer (some ⟨b, off + 3, none⟩)), PE (.agg #[.int .i64 p.x, .int .i64 p.y, .int .i64 p.z]), PV (W3.heap.size) 1 [p]]) (by kernel_rfl) _ rfl (by kernel_rfl) (by kernel_rfl) (by kernel_rfl) (by kernel_rfl) (by kernel_rfl) (RL.stays ?_) ?_ ?_
      · intro p hp
        simp only [List.mem_cons, List.not_mem_nil, or_false] at hp
        rcases hp with rfl | rfl | rfl | rfl | rfl <;> first | exact PE.stays _ | exact PV.stays _ _ _
      · simp only [List.take_succ_cons, List.take_zero]
        refine ⟨?_, ?_, ?_, ?_, ?_, ?_⟩
        · refine mono_val rfl (fun a w hB hk hp => ?_)
          have es0 := (hk 0 (keep_of (by kernel_rfl))).trans (show _ = some (.pointer (some ⟨b, off, none⟩)) from rfl)
          exact ⟨.pointer (some ⟨b, off, none⟩), w, by simp [execOp, go_sem, es0], Below.refl _ _, fun _ _ => rfl⟩
        · refine mono_val rfl (fun a w hB hk hp => ?_)
          obtain ⟨x0, ex0, rx0⟩ := hp ⟨0, .data⟩ (by simp) rfl _ _ rfl rfl
          obtain rfl : x0 = _ := rx0
          exact ⟨.pointer (some ⟨b, off, none⟩), w, by simp [execOp, go_sem, ex0], Below.refl _ _, fun _ _ => rfl⟩
        · refine mono_val rfl (fun a w hB hk hp => ?_)
          obtain ⟨x1, ex1, rx1⟩ := hp ⟨1, .data⟩ (by simp) rfl _ _ rfl rfl
          obtain rfl : x1 = _ := rx1
          exact ⟨.pointer (some ⟨b, off + 3, none⟩), w, by simp [execOp, go_sem, ex1], Below.refl _ _, fun _ _ => rfl⟩
        · refine mono_val rfl (fun a w hB hk hp => ?_)
          have es4 := (hk 4 (keep_of (by kernel_rfl))).trans (show _ = some (.pointer (some ⟨X, 0, none⟩)) from rfl)
          have fc0 := (hB.cell (p := ⟨X, 0, none⟩) pl).trans p0
          have fc1 := (hB.cell (p := ⟨X, 0 + 1, none⟩) pl).trans p1
          have fc2 := (hB.cell (p := ⟨X, 0 + 2, none⟩) pl).trans p2
          exact ⟨.agg #[.int .i64 p.x, .int .i64 p.y, .int .i64 p.z], w, ldmS_run _ _ _ 30 _ rfl (X) (0) (eval_tmp es4) _ _ (rng3V fc0 fc1 fc2) Try.underlying30 rfl infoV3, Below.refl _ _, fun _ _ => rfl⟩
        · refine mono_val rfl (fun a w hB hk hp => ?_)
          obtain ⟨x3, ex3, rx3⟩ := hp ⟨3, .data⟩ (by simp) rfl _ _ rfl rfl
          obtain rfl : x3 = _ := rx3
          exact ⟨.slice (some ⟨w.heap.size, 0, none⟩) 1 1, w.alloc (.cells #[.int .i64 p.x, .int .i64 p.y, .int .i64 p.z] 30), by simp [execOp, go_sem, ex3], bel_alloc (Below.refl _ _) _, fun _ _ => ⟨w.heap.size, rfl, hB.size, VL1 w p⟩⟩
        · trivial
      · intro a w4 hB hsz hdf hk hgot
        obtain ⟨v2, ev2, rv2⟩ := hgot 2 _ 16 rfl rfl
        obtain rfl : v2 = _ := rv2
        obtain ⟨v4, ev4, rv4⟩ := hgot 4 _ 18 rfl rfl
        obtain ⟨bb, rfl, hbb, hvl⟩ : PV (W3.heap.size) 1 [p] w4 v4 := rv4
        obtain ⟨f, hf, rfl⟩ := frame_eq hsz hdf hk [14, 15, 16, 17, 18] (by rfl)
        have f16 := hf 16 _ ev2
        have f18 := hf 18 _ ev4
        clear hsz hdf hk hgot hf ev2 ev4
        simp only [List.drop_succ_cons, List.drop_zero, setAll, List.setIfInBounds_toArray, List.set_cons_succ, List.set_cons_zero, f16, f18]
        clear f16 f18
        generalize f 14 = uu14; generalize f 15 = uu15; generalize f 17 = uu17
        have hB4 := hB3.below hB
        have hg4 := hgA.trans ((grown_of hB).but _)
        have hne : bb ≠ b := by omega
        obtain ⟨k1, k2, k3, k4⟩ := hA3
        have cA := add_any w4 b (off + 3) T cs1 s.ends (some ⟨bb, 0, none⟩) 1 [p] hB4 (by omega) k3 hvl (fun b2 o2 e => by cases e; exact hne) (by simp)
        simp only [List.length_cons, List.length_nil, Nat.zero_add] at cA
        rw [show foldP s.ends [p] = adW s.ends p from rfl] at cA
        go_upto_region 4 with (first | (go_at_call 57; (with_reducible refine cA.mono ?_); rintro e W5 ⟨rfl, hg5, hB5⟩) | fail)
        have z0 : W5.cell? ⟨b, off + 6, none⟩ = some (.int .i64 (s.n : Int)) := by rw [hB5.cell, set3_far _ (by omega)]; exact k4
        have z1 := hB5.frozen (off + 6)
        have z2 := hB5.lt
        have hw : ((s.n : Int) + 1) = ((s.n + 1 : Nat) : Int) := by omega
        have hB6 := hB5.set (off + 6) (.int .i64 ((s.n + 1 : Nat) : Int))
        have hg6 := (hg4.trans hg5).trans (set_grown W5 b (off + 6) (.int .i64 ((s.n + 1 : Nat) : Int)))
        rw [hcat.out] at hB6
        rw [← hw] at hB6 hg6
        clear hB5 hg5 hg4 hB4 cA hw
        go_wp2
        first | go_end0 | (refine bodyPost_ret (results_none rfl _ _ _) rfl ?_)
        exact ⟨rfl, hg6, by rw [hsm.out]; exact hB6⟩
end Go.Proofs.Ytpdnaceggpdleab
namespace Go.Proofs.Ytpdnaceggpdleab
open Go.RowKit
set_option linter.unusedVariables false
set_option linter.unusedSimpArgs false
set_option linter.unnecessarySimpa false
set_option maxRecDepth 100000
def starE (vs : List P3) (v : Int) (s : St) (q : Ed × Int) : St := if q.1.a = v then starMeet s (vat vs q.1.b) q.2 else if q.1.b = v then starMeet s (vat vs q.1.a) q.2 else s
def star0 (ms : List P3) (fan : List Int) : St := ⟨foldP Z3 (fan.map (vat ms)), Z3, 0⟩
def starF (vs ms : List P3) (fan : List Int) (L : List (Ed × Int)) (v : Int) : St := L.foldl (starE vs v) (star0 ms fan)
theorem starE_n (vs : List P3) (v : Int) (s : St) (q : Ed × Int) : (starE vs v s q).n ≤ s.n + 1 := by
  unfold starE starMeet
  (repeat' split) <;> simp
theorem starF_n (vs ms : List P3) (fan : List Int) (v : Int) : ∀ L : List (Ed × Int), (starF vs ms fan L v).n ≤ L.length := by
  have : ∀ (L : List (Ed × Int)) (s : St), (L.foldl (starE vs v) s).n ≤ s.n + L.length := fun L => by
    induction L with
    | nil => intro s; simp
    | cons q r ih =>
      intro s
      have h1 := ih (starE vs v s q)
      have h2 := starE_n vs v s q
      simp only [List.foldl_cons, List.length_cons]; omega
  intro L
  have := this L (star0 ms fan)
  unfold starF
  simp only [star0] at this ⊢; omega
theorem infoSt : (Try.prog.info? 125).map (fun i => (i.zero, i.size, i.bytes)) = some (some (.agg #[.int .i64 0, .int .i64 0, .int .i64 0, .int .i64 0, .int .i64 0, .int .i64 0, .int .i64 0]), 7, 56) := by kernel_rfl
/-- Stars up to number k, one under way. -/
def sMid (f : Nat → St) (k : Nat) (p : P3) : Nat → St := fun v => if v < k then f v else if v = k then ⟨p, Z3, 0⟩ else St0
set_option maxHeartbeats 4000000 in
theorem stars_any (W : World) (A1 A2 A3 B1 B2 B3 S M : Option Addr) (n2 n3 m3 k1 k2 k3 d1 d2 d3 s1 s2 : Nat) (vs ms : List P3) (es : List Ed) (sh : List Int) (fans : List (List Int)) (hV : VL W A1 vs) (hE : EL W B1 es) (hS : IL W S sh) (hM : VL W M ms) (hF : FL W B2 fans) (hsl : sh.length = es.length) (hfl : fans.length = vs.length) (hab : ∀ e ∈ es, (0 ≤ e.a ∧ e.a < vs.length) ∧ (0 ≤ e.b ∧ e.b < vs.length) ∧ e.a ≠ e.b) (hfan : ∀ x ∈ fans, ∀ y ∈ x, 0 ≤ y ∧ y < ms.length) (hxl : ∀ x ∈ fans, x.length < 1099511627776) (hl : es.length < 1099511627776) (hvl : vs.length < 1099511627776) :
    Calls Try.prog 60 #[.agg #[.slice A1 vs.length k1, .slice A2 n2 k2, .slice A3 n3 k3, .slice B1 es.length d1, .slice B2 fans.length d2, .slice B3 m3 d3, .slice S sh.length s1, .slice M ms.length s2]] W fun e W' => ∃ g, e = .returned (.slice (some ⟨g, 0, none⟩) vs.length vs.length) ∧ W.heap.size ≤ g ∧ Blk W' g 125 (rowCs 7 vs.length (sC fun v => starF vs ms (fans.getD v []) (es.zip sh) (v : Int))) ∧ Below W.heap.size W W' := by
  obtain ⟨i0, hi0, hz0, hz1, hz2⟩ := info_parts infoSt
  obtain ⟨ns, hns⟩ : ∃ ns, sh.length = ns := ⟨_, rfl⟩
  obtain ⟨nf, hnf⟩ : ∃ nf, fans.length = nf := ⟨_, rfl⟩
  rw [hns, hnf]
  have hb0 : Below W.heap.size W (W.alloc (.cells #[.slice A1 vs.length k1, .slice A2 n2 k2, .slice A3 n3 k3, .slice B1 es.length d1, .slice B2 nf d2, .slice B3 m3 d3, .slice S ns s1, .slice M ms.length s2] 91)) := bel_alloc (Below.refl _ _) _
  have hC0 : Blk (W.alloc (.cells #[.slice A1 vs.length k1, .slice A2 n2 k2, .slice A3 n3 k3, .slice B1 es.length d1, .slice B2 nf d2, .slice B3 m3 d3, .slice S ns s1, .slice M ms.length s2] 91)) W.heap.size 91 #[.slice A1 vs.length k1, .slice A2 n2 k2, .slice A3 n3 k3, .slice B1 es.length d1, .slice B2 nf d2, .slice B3 m3 d3, .slice S ns s1, .slice M ms.length s2] := Blk.new _ _ _ _ rfl
  have hsz0 : (W.alloc (.cells #[.slice A1 vs.length k1, .slice A2 n2 k2, .slice A3 n3 k3, .slice B1 es.length d1, .slice B2 nf d2, .slice B3 m3 d3, .slice S ns s1, .slice M ms.length s2] 91)).heap.size = W.heap.size + 1 := World.size_alloc _ _
  have hsl2 := Lib.hid (hns.symm.trans hsl)
  have hnv : nf = vs.length := hnf.symm.trans hfl
  have hnv1 : nf < 1099511627776 := by omega
  replace hnv := Lib.hid hnv
  replace hns := Lib.hid hns
  replace hnf := Lib.hid hnf
  clear hsl hfl
  go_enter Try.func60, Try.ntmps60
  go_upto_region 1 with (fail)
  generalize hCe : W.alloc (.cells #[.slice A1 vs.length k1, .slice A2 n2 k2, .slice A3 n3 k3, .slice B1 es.length d1, .slice B2 nf d2, .slice B3 m3 d3, .slice S ns s1, .slice M ms.length s2] 91) = W0 at *
  clear hCe
  have x0 : W0.cell? ⟨W.heap.size, 0, none⟩ = some (.slice A1 vs.length k1) := hC0.cell 0
  have xl := hC0.lt
  go_upto_region 2 with (first | ((refine wpList_make_full _ rfl _ _ 122 rfl W0.heap.size 125 i0 _ 7 Try.underlying122 hi0 hz0 hz1 .i64 .i64 (vs.length : Int) (vs.length : Int) vs.length rfl rfl rfl rfl (by rw [hz2]; omega) (by unfold maxLen; omega) (Nat.le_refl _) ?_); intro W1 own1 hg1) | fail)
  have hG1 : Blk W1 W0.heap.size 125 (rowCs 7 vs.length (sC fun _ => St0)) := by
    have := made_blk own1
    rw [show (Value.agg #[Value.int .i64 0, Value.int .i64 0, Value.int .i64 0, Value.int .i64 0, Value.int .i64 0, Value.int .i64 0, Value.int .i64 0]).cells = #[.int .i64 0, .int .i64 0, .int .i64 0, .int .i64 0, .int .i64 0, .int .i64 0, .int .i64 0] from rfl, sC_made] at this
    exact this
  have hb1 : Below W0.heap.size W0 W1 := bel_own (Below.refl _ _) hg1 (by intro k h; cases h)
  have hC1 := hC0.below hb1
  have hB1 := bel_trans hb0 hb1
  rw [hsz0] at hG1
  clear own1 hg1 hb1 hC0 hb0 x0 xl
  have x4 : W1.cell? ⟨W.heap.size, 4, none⟩ = some (.slice B2 nf d2) := hC1.cell 4
  have xl := hC1.lt
  go_wp2
  obtain ⟨FS, hFS⟩ : ∃ f : Nat → St, f = fun v => star0 ms (fans.getD v []) := ⟨_, rfl⟩
  go_loopw [19] (fun iv wr => ∃ k : Nat, iv = .int .i64 (k : Int) ∧ k ≤ nf ∧ Below W.heap.size W wr ∧ Blk wr W.heap.size 91 #[.slice A1 vs.length k1, .slice A2 n2 k2, .slice A3 n3 k3, .slice B1 es.length d1, .slice B2 nf d2, .slice B3 m3 d3, .slice S ns s1, .slice M ms.length s2] ∧ Blk wr (W.heap.size + 1) 125 (rowCs 7 vs.length (sC fun v => if v < k then FS v else St0))) (fun iv _ => nf - (intOf iv).toNat)
  case atStart => exact ⟨0, rfl, by omega, hB1, hC1, by simpa using hG1⟩
  case round =>
    obtain ⟨k, rfl, hk, hBr, hCr, hGr⟩ := hrel
    clear hB1 hC1 hG1 x4 xl
    by_cases hlt : k < nf
    · have hkf : k < fans.length := by rw [hnf.out]; exact hlt
      have hkv : k < vs.length := by rw [← hnv.out]; exact hlt
      obtain ⟨b2, o2, B, m, rfl, hl2w, hcellw, hIL⟩ := hF.at_ k hkf
      have hcell := (hBr.cell (p := ⟨b2, o2 + k, none⟩) hl2w).trans hcellw
      have hl2 := Nat.lt_of_lt_of_le hl2w hBr.size
      clear hcellw
      have hgd : FS k = star0 ms fans[k] := by rw [hFS]; simp only [List.getD_eq_getElem?_getD, List.getElem?_eq_getElem hkf, Option.getD_some]
      have hin1 := hfan _ (List.getElem_mem hkf)
      have hxl1 := hxl _ (List.getElem_mem hkf)
      generalize fans[k] = x at *
      replace hgd := Lib.hid hgd
      have q0 : (0 : Int) ≤ (k : Int) := by omega
      have q1 : (k : Int) < (nf : Int) := by omega
      have q1v : (k : Int) < (vs.length : Int) := by omega
      have hG2 : Blk wr (W.heap.size + 1) 125 (rowCs 7 vs.length (sC (sMid FS k (foldP Z3 [])))) := by
        rw [sC_ext (g := fun v => if v < k then FS v else St0) fun v hv => by unfold sMid; (repeat' split) <;> first | rfl | omega]
        exact hGr
      clear hGr
      go_wp2
      go_loopw [26] (fun jv wq => ∃ j : Nat, jv = .int .i64 (j : Int) ∧ j ≤ x.length ∧ Below W.heap.size W wq ∧ Blk wq W.heap.size 91 #[.slice A1 vs.length k1, .slice A2 n2 k2, .slice A3 n3 k3, .slice B1 es.length d1, .slice (some ⟨b2, o2, none⟩) nf d2, .slice B3 m3 d3, .slice S ns s1, .slice M ms.length s2] ∧ Blk wq (W.heap.size + 1) 125 (rowCs 7 vs.length (sC (sMid FS k (foldP Z3 ((x.take j).map (vat ms))))))) (fun jv _ => x.length - (intOf jv).toNat)
      case atStart => exact ⟨0, rfl, by omega, hBr, hCr, by simpa using hG2⟩
      case round =>
        obtain ⟨j, rfl, hj, hBq, hCq, hGq⟩ := hrel
        clear hBr hCr hG2 hcell hl2
        rename World => wq
        by_cases hjl : j < x.length
        · obtain ⟨b9, o9, rfl, hl9, hc9⟩ := (hIL.below hBq).at_ j hjl
          obtain ⟨hy0, hy1⟩ := hin1 _ (List.getElem_mem hjl)
          have htk : x.take (j + 1) = x.take j ++ [x[j]] := List.take_succ_eq_append_getElem hjl
          generalize x[j] = y at *
          obtain ⟨v, rfl⟩ := Int.eq_ofNat_of_zero_le hy0
          have hv : v < ms.length := by omega
          obtain ⟨bv, ov, rfl, hlv, c1, c2, c3⟩ := (hM.below hBq).at_ v hv
          rw [← vat_get hv] at c1 c2 c3
          have htm : (x.take (j + 1)).map (vat ms) = (x.take j).map (vat ms) ++ [vat ms (v : Int)] := by rw [htk]; simp
          clear htk
          replace htm := Lib.hid htm
          generalize vat ms (v : Int) = p at *
          generalize hsv : foldP Z3 ((x.take j).map (vat ms)) = sv at *
          replace hsv := Lib.hid hsv
          have x7 : wq.cell? ⟨W.heap.size, 7, none⟩ = some (.slice (some ⟨bv, ov, none⟩) ms.length s2) := hCq.cell 7
          have xl := hCq.lt
          have q2 : (0 : Int) ≤ (j : Int) := by omega
          have q3 : (j : Int) < (x.length : Int) := by omega
          have q4 : (v : Int) < (ms.length : Int) := by omega
          have q5 : (0 : Int) ≤ (v : Int) := by omega
          have hat := sC_at (sMid FS k sv) hkv
          have hall := sC_all (sMid FS k sv) hkv
          have hmk : sMid FS k sv k = ⟨sv, Z3, 0⟩ := by unfold sMid; rw [if_neg (by omega), if_pos rfl]
          rw [hmk] at hat
          have hnx : ∀ p, rowCs 7 vs.length (sC fun u => if u = k then ⟨p, (sMid FS k sv k).ends, (sMid FS k sv k).n⟩ else sMid FS k sv u) = rowCs 7 vs.length (sC (sMid FS k p)) := fun p => sC_ext fun u hu => by
            rw [hmk]
            by_cases e : u = k
            · subst e; rw [if_pos rfl]; unfold sMid; rw [if_neg (by omega), if_pos rfl]
            · rw [if_neg e]; unfold sMid; rw [if_neg e, if_neg e]
          have hfin := fun p => (hall p).trans (hnx p)
          replace hfin := Lib.hid hfin
          clear hall hnx hmk
          generalize hCC : sC (sMid FS k sv) = CC at *
          replace hCC := Lib.hid hCC
          have hGl := hGq.lt
          obtain ⟨ha1, ha2, _, _⟩ := hat
          go_upto_region 8 with (fail)
          refine wp_region_monoT 10 (RL [PE (.slice (some ⟨W.heap.size + 1, 0, none⟩) vs.length vs.length), PE (.int .i64 (k : Int)), PE (.pointer (some ⟨W.heap.size + 1, k * 7, none⟩)), PE (.pointer (some ⟨W.heap.size + 1, k * 7, none⟩)), PE (.pointer (some ⟨W.heap.size, 7, none⟩)), PE (.slice (some ⟨bv, ov, none⟩) ms.length s2), PE (.int .i64 (v : Int)), PE (.pointer (some ⟨bv, ov + v * 3, none⟩)), PE (.agg #[.int .i64 p.x, .int .i64 p.y, .int .i64 p.z]), PV (wq.heap.size) 1 [p]]) (by kernel_rfl) _ rfl (by kernel_rfl) (by kernel_rfl) (by kernel_rfl) (by kernel_rfl) (by kernel_rfl) (RL.stays ?_) ?_ ?_
          · intro p hp
            simp only [List.mem_cons, List.not_mem_nil, or_false] at hp
            rcases hp with rfl | rfl | rfl | rfl | rfl | rfl | rfl | rfl | rfl | rfl <;> first | exact PE.stays _ | exact PV.stays _ _ _
          · simp only [List.take_succ_cons, List.take_zero]
            refine ⟨?_, ?_, ?_, ?_, ?_, ?_, ?_, ?_, ?_, ?_, ?_⟩
            · refine mono_val rfl (fun a w hB hk hp => ?_)
              have es3 := (hk 3 (keep_of (by kernel_rfl))).trans (show _ = some (.slice (some ⟨W.heap.size + 1, 0, none⟩) vs.length vs.length) from rfl)
              exact ⟨.slice (some ⟨W.heap.size + 1, 0, none⟩) vs.length vs.length, w, by simp [execOp, go_sem, es3], Below.refl _ _, fun _ _ => rfl⟩
            · refine mono_val rfl (fun a w hB hk hp => ?_)
              have es4 := (hk 4 (keep_of (by kernel_rfl))).trans (show _ = some (.int .i64 (k : Int)) from rfl)
              exact ⟨.int .i64 (k : Int), w, by simp [execOp, go_sem, es4], Below.refl _ _, fun _ _ => rfl⟩
            · refine mono_val rfl (fun a w hB hk hp => ?_)
              obtain ⟨x0, ex0, rx0⟩ := hp ⟨0, .data⟩ (by simp) rfl _ _ rfl rfl
              obtain rfl : x0 = _ := rx0
              obtain ⟨x1, ex1, rx1⟩ := hp ⟨1, .data⟩ (by simp) rfl _ _ rfl rfl
              obtain rfl : x1 = _ := rx1
              have fc0 := q0
              have fc1 := q1v
              exact ⟨.pointer (some ⟨W.heap.size + 1, k * 7, none⟩), w, by simp [execOp, go_sem, ex0, ex1, fc0, fc1], Below.refl _ _, fun _ _ => rfl⟩
            · refine mono_val rfl (fun a w hB hk hp => ?_)
              obtain ⟨x2, ex2, rx2⟩ := hp ⟨2, .data⟩ (by simp) rfl _ _ rfl rfl
              obtain rfl : x2 = _ := rx2
              exact ⟨.pointer (some ⟨W.heap.size + 1, k * 7, none⟩), w, by simp [execOp, go_sem, ex2], Below.refl _ _, fun _ _ => rfl⟩
            · refine mono_val rfl (fun a w hB hk hp => ?_)
              have es1 := (hk 1 (keep_of (by kernel_rfl))).trans (show _ = some (.pointer (some ⟨W.heap.size, 0, none⟩)) from rfl)
              exact ⟨.pointer (some ⟨W.heap.size, 7, none⟩), w, by simp [execOp, go_sem, es1], Below.refl _ _, fun _ _ => rfl⟩
            · refine mono_val rfl (fun a w hB hk hp => ?_)
              obtain ⟨x4, ex4, rx4⟩ := hp ⟨4, .data⟩ (by simp) rfl _ _ rfl rfl
              obtain rfl : x4 = _ := rx4
              have fc0 := (hB.cell (p := ⟨W.heap.size, 7, none⟩) xl).trans x7
              exact ⟨.slice (some ⟨bv, ov, none⟩) ms.length s2, w, by simp [execOp, go_sem, ex4, fc0], Below.refl _ _, fun _ _ => rfl⟩
            · refine mono_val rfl (fun a w hB hk hp => ?_)
              have es7 := (hk 7 (keep_of (by kernel_rfl))).trans (show _ = some (.int .i64 (v : Int)) from rfl)
              exact ⟨.int .i64 (v : Int), w, by simp [execOp, go_sem, es7], Below.refl _ _, fun _ _ => rfl⟩
            · refine mono_val rfl (fun a w hB hk hp => ?_)
              obtain ⟨x5, ex5, rx5⟩ := hp ⟨5, .data⟩ (by simp) rfl _ _ rfl rfl
              obtain rfl : x5 = _ := rx5
              obtain ⟨x6, ex6, rx6⟩ := hp ⟨6, .data⟩ (by simp) rfl _ _ rfl rfl
              obtain rfl : x6 = _ := rx6
              have fc0 := q4
              have fc1 := q5
              exact ⟨.pointer (some ⟨bv, ov + v * 3, none⟩), w, by simp [execOp, go_sem, ex5, ex6, fc0, fc1], Below.refl _ _, fun _ _ => rfl⟩
            · refine mono_val rfl (fun a w hB hk hp => ?_)
              obtain ⟨x7, ex7, rx7⟩ := hp ⟨7, .data⟩ (by simp) rfl _ _ rfl rfl
              obtain rfl : x7 = _ := rx7
              have fc0 := (hB.cell (p := ⟨bv, ov + v * 3, none⟩) hlv).trans c1
              have fc1 := (hB.cell (p := ⟨bv, ov + v * 3 + 1, none⟩) hlv).trans c2
              have fc2 := (hB.cell (p := ⟨bv, ov + v * 3 + 2, none⟩) hlv).trans c3
              exact ⟨.agg #[.int .i64 p.x, .int .i64 p.y, .int .i64 p.z], w, ldmS_run _ _ _ 30 _ rfl (bv) (ov + v * 3) (eval_tmp ex7) _ _ (rng3V fc0 fc1 fc2) Try.underlying30 rfl infoV3, Below.refl _ _, fun _ _ => rfl⟩
            · refine mono_val rfl (fun a w hB hk hp => ?_)
              obtain ⟨x8, ex8, rx8⟩ := hp ⟨8, .data⟩ (by simp) rfl _ _ rfl rfl
              obtain rfl : x8 = _ := rx8
              exact ⟨.slice (some ⟨w.heap.size, 0, none⟩) 1 1, w.alloc (.cells #[.int .i64 p.x, .int .i64 p.y, .int .i64 p.z] 30), by simp [execOp, go_sem, ex8], bel_alloc (Below.refl _ _) _, fun _ _ => ⟨w.heap.size, rfl, hB.size, VL1 w p⟩⟩
            · trivial
          · intro a w2 hB hsz hdf hk hgot
            obtain ⟨v3, ev3, rv3⟩ := hgot 3 _ 33 rfl rfl
            obtain rfl : v3 = _ := rv3
            obtain ⟨v9, ev9, rv9⟩ := hgot 9 _ 39 rfl rfl
            obtain ⟨bb, rfl, hbb, hvl⟩ : PV (wq.heap.size) 1 [p] w2 v9 := rv9
            obtain ⟨f, hf, rfl⟩ := frame_eq hsz hdf hk [30, 31, 32, 33, 34, 35, 36, 37, 38, 39] (by rfl)
            have f33 := hf 33 _ ev3
            have f39 := hf 39 _ ev9
            clear hsz hdf hk hgot hf ev3 ev9
            simp only [List.drop_succ_cons, List.drop_zero, setAll, List.setIfInBounds_toArray, List.set_cons_succ, List.set_cons_zero, f33, f39]
            clear f33 f39
            generalize f 30 = uu30; generalize f 31 = uu31; generalize f 32 = uu32; generalize f 34 = uu34; generalize f 35 = uu35; generalize f 36 = uu36; generalize f 37 = uu37; generalize f 38 = uu38
            have hB2 := bel_trans hBq hB
            have hC2 := hCq.below hB
            have hG2 := hGq.below hB
            have hne : bb ≠ W.heap.size + 1 := by omega
            have cA := add_any w2 (W.heap.size + 1) (k * 7) 125 (rowCs 7 vs.length CC) sv (some ⟨bb, 0, none⟩) 1 [p] hG2 (by omega) ha2 hvl (fun b2 o2 e => by cases e; exact hne) (by simp)
            simp only [List.length_cons, List.length_nil, Nat.zero_add] at cA
            rw [show foldP sv [p] = adW sv p from rfl, hfin.out] at cA
            clear hvl
            go_wp2_with (first | (go_at_call 57; (with_reducible refine cA.mono ?_); rintro e W3 ⟨rfl, hg3, hG3⟩) | fail)
            go_roundw
            case rel =>
              refine ⟨j + 1, by go_num, by omega, bel_turn hB2 hg3 (by omega), hC2.kept hg3 (by intro e; simp at e), ?_⟩
              rw [htm.out, foldP_snoc, hsv.out]
              exact hG3
            case measure => simp [intOf]; omega
        · obtain rfl : j = x.length := by omega
          rw [List.take_length] at hGq
          go_wp2
          go_roundw
          case rel =>
            refine ⟨k + 1, by go_num, by omega, hBq, hCq, ?_⟩
            rw [sC_ext (g := sMid FS k (foldP Z3 (x.map (vat ms)))) fun v hv => by
              unfold sMid
              by_cases e : v = k
              · subst e; rw [if_pos (by omega), if_neg (by omega), if_pos rfl, hgd.out]; rfl
              · by_cases e2 : v < k
                · rw [if_pos e2, if_pos (by omega)]
                · rw [if_neg e2, if_neg (by omega), if_neg e]]
            exact hGq
          case measure => simp [intOf]; omega
    · obtain rfl : k = nf := by omega
      have hGr2 : Blk wr (W.heap.size + 1) 125 (rowCs 7 vs.length (sC fun v => ((es.zip sh).take 0).foldl (starE vs (v : Int)) (FS v))) := by
        rw [sC_ext (g := fun v => if v < k then FS v else St0) fun v hv => by rw [if_pos (by rw [hnv.out]; exact hv)]; rfl]
        exact hGr
      clear hGr
      have x3 : wr.cell? ⟨W.heap.size, 3, none⟩ = some (.slice B1 es.length d1) := hCr.cell 3
      have xl := hCr.lt
      go_wp2
      go_loopw [47] (fun jv wq => ∃ j : Nat, jv = .int .i64 (j : Int) ∧ j ≤ es.length ∧ Below W.heap.size W wq ∧ Blk wq W.heap.size 91 #[.slice A1 vs.length k1, .slice A2 n2 k2, .slice A3 n3 k3, .slice B1 es.length d1, .slice B2 k d2, .slice B3 m3 d3, .slice S ns s1, .slice M ms.length s2] ∧ Blk wq (W.heap.size + 1) 125 (rowCs 7 vs.length (sC fun v => ((es.zip sh).take j).foldl (starE vs (v : Int)) (FS v)))) (fun jv _ => es.length - (intOf jv).toNat)
      case atStart => exact ⟨0, rfl, by omega, hBr, hCr, hGr2⟩
      case round =>
        obtain ⟨j, rfl, hj, hBq, hCq, hGq⟩ := hrel
        clear hBr hCr hGr2 x3 xl
        rename World => wq
        by_cases hjl : j < es.length
        · have hjs : j < sh.length := by rw [hns.out, hsl2.out]; exact hjl
          obtain ⟨be, oe, rfl, hbe, c0, c1, c2, c3⟩ : ∃ b off, B1 = some ⟨b, off, none⟩ ∧ b < wq.heap.size ∧ _ := by
            obtain ⟨b, off, h1, h2, h3⟩ := (hE.below hBq) (by omega)
            exact ⟨b, off, h1, h2, h3 j hjl⟩
          obtain ⟨bs, os, rfl, hbs, cs⟩ := (hS.below hBq).at_ j hjs
          obtain ⟨⟨ha0, ha1⟩, ⟨hb0, hb1⟩, hne⟩ := hab _ (List.getElem_mem hjl)
          have hzl : j < (es.zip sh).length := by simp; omega
          have htk : (es.zip sh).take (j + 1) = (es.zip sh).take j ++ [(es[j], sh[j])] := by
            rw [List.take_succ_eq_append_getElem hzl]; simp
          have hjn : (j : Int) < (ns : Int) := by have := hsl2.out; omega
          generalize es[j] = e at *
          generalize sh[j] = sv at *
          replace htk := Lib.hid htk
          obtain ⟨va, hva⟩ := Int.eq_ofNat_of_zero_le ha0
          obtain ⟨vb, hvb⟩ := Int.eq_ofNat_of_zero_le hb0
          rw [hva] at c0 ha1
          rw [hvb] at c1 hb1
          have hva2 : va < vs.length := by omega
          have hvb2 : vb < vs.length := by omega
          have hvn : va ≠ vb := by omega
          obtain ⟨bv, ov, rfl, hbv, a0, a1, a2⟩ := (hV.below hBq).at_ va hva2
          obtain ⟨bv2, ov2, ev2, _, b0, b1, b2⟩ := (hV.below hBq).at_ vb hvb2
          obtain ⟨rfl, rfl⟩ : bv = bv2 ∧ ov = ov2 := by simpa using ev2
          rw [← vat_get hva2, ← hva] at a0 a1 a2
          rw [← vat_get hvb2, ← hvb] at b0 b1 b2
          have hstep : ∀ (v : Nat) (s : St), starE vs (v : Int) s (e, sv) = if v = vb then starMeet s (vat vs e.a) sv else if v = va then starMeet s (vat vs e.b) sv else s := fun v s => by
            unfold starE
            simp only
            by_cases e1 : v = vb
            · rw [if_neg (by omega), if_pos (by omega), if_pos e1]
            · by_cases e2 : v = va
              · rw [if_pos (by omega), if_neg e1, if_pos e2]
              · rw [if_neg (by omega), if_neg (by omega), if_neg e1, if_neg e2]
          replace hstep := Lib.hid hstep
          generalize vat vs e.a = pa at *
          generalize vat vs e.b = pb at *
          replace hva := Lib.hid hva
          replace hvb := Lib.hid hvb
          obtain ⟨ff, hff⟩ : ∃ f : Nat → St, f = fun (v : Nat) => ((es.zip sh).take j).foldl (starE vs (v : Int)) (FS v) := ⟨_, rfl⟩
          have hbn : ∀ v, (ff v).n < 1099511627776 := fun v => by
            have h1 := starF_n vs ms (fans.getD v []) (v : Int) ((es.zip sh).take j)
            have h2 : ff v = starF vs ms (fans.getD v []) ((es.zip sh).take j) (v : Int) := by rw [hff, hFS]; rfl
            rw [h2]
            have h3 : ((es.zip sh).take j).length ≤ j := by simp; omega
            omega
          rw [← hff] at hGq
          replace hff := Lib.hid hff
          have q0 : (0 : Int) ≤ (j : Int) := by omega
          have q1 : (j : Int) < (es.length : Int) := by omega
          have hb2 : Below wq.heap.size wq (wq.alloc (.cells #[.int .i64 va, .int .i64 vb, .int .i64 e.f, .int .i64 e.g] 79)) := bel_alloc (Below.refl _ _) _
          have hP2 : Blk (wq.alloc (.cells #[.int .i64 va, .int .i64 vb, .int .i64 e.f, .int .i64 e.g] 79)) wq.heap.size 79 #[.int .i64 va, .int .i64 vb, .int .i64 e.f, .int .i64 e.g] := Blk.new _ _ _ _ rfl
          have hB2 := bel_trans hBq hb2
          have hC2 := hCq.below hb2
          have hG2 := hGq.below hb2
          have hCl := hCq.lt
          have hGl := hGq.lt
          have hbvw : bv < W.heap.size := by
            obtain ⟨b9, o9, e9, h9, _⟩ := hV (by omega)
            have : bv = b9 := by simp at e9; exact e9.1
            omega
          have hbsw : bs < W.heap.size := by
            obtain ⟨b9, o9, e9, h9, _⟩ := hS (by omega)
            have : bs = b9 := by simp at e9; exact e9.1
            omega
          have tr := fun (b j : Nat) (v : Value) (hb : b < wq.heap.size) (h : wq.cell? ⟨b, j, none⟩ = some v) => (hb2.cell (p := ⟨b, j, none⟩) hb).trans h
          replace a0 := tr _ _ _ hbv a0
          replace a1 := tr _ _ _ hbv a1
          replace a2 := tr _ _ _ hbv a2
          replace b0 := tr _ _ _ hbv b0
          replace b1 := tr _ _ _ hbv b1
          replace b2 := tr _ _ _ hbv b2
          replace cs := tr _ _ _ hbs cs
          clear hBq hCq hGq
          go_upto_region 14 with (fail)
          generalize wq.alloc (.cells #[.int .i64 va, .int .i64 vb, .int .i64 e.f, .int .i64 e.g] 79) = W2 at *
          obtain ⟨X, hX⟩ : ∃ X, wq.heap.size = X := ⟨_, rfl⟩
          simp only [hX] at *
          clear hX tr c0 c1 c2 c3 hbe hb2
          have hXl := hP2.lt
          have hva3 : (va : Int) < (vs.length : Int) := by omega
          have hvb3 : (vb : Int) < (vs.length : Int) := by omega
          have hva4 : (0 : Int) ≤ (va : Int) := by omega
          have hvb4 : (0 : Int) ≤ (vb : Int) := by omega
          have hbv9 : bv < W2.heap.size := by omega
          have hbs9 : bs < W2.heap.size := by omega
          have x0 : W2.cell? ⟨W.heap.size, 0, none⟩ = some (.slice (some ⟨bv, ov, none⟩) vs.length k1) := hC2.cell 0
          have x6 : W2.cell? ⟨W.heap.size, 6, none⟩ = some (.slice (some ⟨bs, os, none⟩) ns s1) := hC2.cell 6
          have xl := hC2.lt
          have y0 : W2.cell? ⟨X, 0, none⟩ = some (.int .i64 va) := hP2.cell 0
          have y1 : W2.cell? ⟨X, 1, none⟩ = some (.int .i64 vb) := hP2.cell 1
          refine wp_region_tail 16 ?_ (by kernel_rfl) (by kernel_rfl) (by kernel_rfl) (fun x => ?_) (fun x => ?_)
          rotate_left
          · simp only [List.take_succ_cons, List.take_zero]
            repeat (go_big_quiet_step (((fail))))
            refine wpQuiet_nil ?_
            exact rfl
          simp only [List.drop_succ_cons, List.drop_zero]
          try simp only [Act.put, List.setIfInBounds_toArray, List.set_cons_succ, List.set_cons_zero]
          have hB3 := bel_grow hB2 x
          have hC3 := hC2.grow x
          have hG3 := hG2.grow x
          have hP3 := hP2.grow x
          have cM := meet_any (grow W2 x) (W.heap.size + 1) (va * 7) 125 _ (ff va) pb sv hG3 (sC_at ff hva2) (hbn va)
          rw [sC_set ff hva2] at cM
          have tr := fun (b j : Nat) (v : Value) (hb : b < W2.heap.size) (h : W2.cell? ⟨b, j, none⟩ = some v) => ((bel_grow (Below.refl _ W2) x).cell (p := ⟨b, j, none⟩) hb).trans h
          replace a0 := tr _ _ _ hbv9 a0
          replace a1 := tr _ _ _ hbv9 a1
          replace a2 := tr _ _ _ hbv9 a2
          replace cs := tr _ _ _ hbs9 cs
          have hgs := (bel_grow (Below.refl _ W2) x).size
          clear hB2 hC2 hG2 hP2 x0 x6 xl y0 y1 b0 b1 b2 tr
          generalize grow W2 x = W3 at *
          go_upto_region 15 with (first | (go_at_call 69; (with_reducible refine cM.mono ?_); rintro e W4 ⟨rfl, hg4, hG4⟩) | fail)
          have hB4 := bel_turn hB3 hg4 (by omega)
          have hC4 := hC3.kept hg4 (by intro e; simp at e)
          have hP4 := hP3.kept hg4 (by intro e; cases e; omega)
          have tr := fun (b j : Nat) (v : Value) (hb : b < W.heap.size) (h : W3.cell? ⟨b, j, none⟩ = some v) => hg4.cell (a := ⟨b, j, none⟩) h (by simp only; intro e; cases e; omega)
          replace a0 := tr _ _ _ hbvw a0
          replace a1 := tr _ _ _ hbvw a1
          replace a2 := tr _ _ _ hbvw a2
          replace cs := tr _ _ _ hbsw cs
          have hgs4 := hg4.size
          clear tr hB3 hC3 hG3 hP3 cM hg4
          have x0 : W4.cell? ⟨W.heap.size, 0, none⟩ = some (.slice (some ⟨bv, ov, none⟩) vs.length k1) := hC4.cell 0
          have x6 : W4.cell? ⟨W.heap.size, 6, none⟩ = some (.slice (some ⟨bs, os, none⟩) ns s1) := hC4.cell 6
          have xl := hC4.lt
          have y0 : W4.cell? ⟨X, 0, none⟩ = some (.int .i64 va) := hP4.cell 0
          have y1 : W4.cell? ⟨X, 1, none⟩ = some (.int .i64 vb) := hP4.cell 1
          have yl := hP4.lt
          replace hbv9 : bv < W4.heap.size := by omega
          replace hbs9 : bs < W4.heap.size := by omega
          refine wp_region_tail 16 ?_ (by kernel_rfl) (by kernel_rfl) (by kernel_rfl) (fun x => ?_) (fun x => ?_)
          rotate_left
          · simp only [List.take_succ_cons, List.take_zero]
            repeat (go_big_quiet_step (((fail))))
            refine wpQuiet_nil ?_
            exact rfl
          simp only [List.drop_succ_cons, List.drop_zero]
          try simp only [Act.put, List.setIfInBounds_toArray, List.set_cons_succ, List.set_cons_zero]
          have hB5 := bel_grow hB4 x
          have hC5 := hC4.grow x
          have hG5 := hG4.grow x
          have cM := meet_any (grow W4 x) (W.heap.size + 1) (vb * 7) 125 _ _ pa sv hG5 (sC_at _ hvb2) (by rw [if_neg (Ne.symm hvn)]; exact hbn vb)
          rw [sC_set _ hvb2] at cM
          generalize grow W4 x = W5 at *
          go_wp2_with (first | (go_at_call 69; (with_reducible refine cM.mono ?_); rintro e W6 ⟨rfl, hg6, hG6⟩) | fail)
          go_roundw
          case rel =>
            refine ⟨j + 1, by go_num, by omega, bel_turn hB5 hg6 (by omega), hC5.kept hg6 (by intro e; simp at e), ?_⟩
            rw [sC_ext (g := fun u => if u = vb then starMeet (if vb = va then starMeet (ff va) pb sv else ff vb) pa sv else if u = va then starMeet (ff va) pb sv else ff u) fun v hv => by
              rw [htk.out, List.foldl_append]
              show starE vs (v : Int) (((es.zip sh).take j).foldl (starE vs (v : Int)) (FS v)) (e, sv) = _
              rw [show ((es.zip sh).take j).foldl (starE vs (v : Int)) (FS v) = ff v by rw [hff.out], hstep.out, if_neg (Ne.symm hvn)]
              by_cases e1 : v = vb
              · subst e1; rw [if_pos rfl, if_pos rfl]
              · rw [if_neg e1, if_neg e1]
                by_cases e2 : v = va
                · subst e2; simp
                · rw [if_neg e2, if_neg e2]]
            exact hG6
          case measure => simp [intOf]; omega
        · obtain rfl : j = es.length := by omega
          have hGf : Blk wq (W.heap.size + 1) 125 (rowCs 7 vs.length (sC fun v => starF vs ms (fans.getD v []) (es.zip sh) (v : Int))) := by
            rw [sC_ext (g := fun v => ((es.zip sh).take es.length).foldl (starE vs (v : Int)) (FS v)) fun v hv => by
              rw [List.take_of_length_le (by simp; omega), hFS]; rfl]
            exact hGq
          go_wp2
          go_ret
          exact ⟨W.heap.size + 1, rfl, by omega, hGf, hBq⟩
end Go.Proofs.Ytpdnaceggpdleab
namespace Go.Proofs.Ytpdnaceggpdleab
open Go.RowKit
set_option linter.unusedVariables false
set_option linter.unusedSimpArgs false
set_option linter.unnecessarySimpa false
set_option maxRecDepth 100000
def scW (a : P3) (k : Int) : P3 := ⟨wrap64 (a.x * k), wrap64 (a.y * k), wrap64 (a.z * k)⟩
def placeP (s : St) (v : P3) (n : Nat) : P3 := if 2 < s.n then v else if s.n = 2 then ofP (foldP Z3 [scW v 6, s.ends]) 8 else adW v (ofP (foldP Z3 [s.all, scW v (-2 * (n : Int))]) ((n : Int) * (n : Int)))
set_option maxHeartbeats 4000000 in
theorem place_G (s : St) (v : P3) (n : Nat) (hsn : s.n < 1099511627776) (hn : n < 1048576) : Gives Try.prog 61 #[.agg #[.int .i64 s.all.x, .int .i64 s.all.y, .int .i64 s.all.z, .int .i64 s.ends.x, .int .i64 s.ends.y, .int .i64 s.ends.z, .int .i64 (s.n : Int)], .agg #[.int .i64 v.x, .int .i64 v.y, .int .i64 v.z], .int .i64 (n : Int)] (.agg #[.int .i64 (placeP s v n).x, .int .i64 (placeP s v n).y, .int .i64 (placeP s v n).z]) := by
  refine Gives.mk fun W => ?_
  obtain ⟨W0, hW0⟩ : ∃ W0, W0 = ((W.alloc (.cells #[.int .i64 s.all.x, .int .i64 s.all.y, .int .i64 s.all.z, .int .i64 s.ends.x, .int .i64 s.ends.y, .int .i64 s.ends.z, .int .i64 (s.n : Int)] 125)).alloc (.cells #[.int .i64 v.x, .int .i64 v.y, .int .i64 v.z] 30)).alloc (.cells #[.int .i64 0, .int .i64 0, .int .i64 0] 30) := ⟨_, rfl⟩
  have hb0 : Below W.heap.size W W0 := by rw [hW0]; exact bel_alloc (bel_alloc (bel_alloc (Below.refl _ _) _) _) _
  have hS0 : Blk W0 W.heap.size 125 #[.int .i64 s.all.x, .int .i64 s.all.y, .int .i64 s.all.z, .int .i64 s.ends.x, .int .i64 s.ends.y, .int .i64 s.ends.z, .int .i64 (s.n : Int)] := by rw [hW0]; exact ((Blk.new _ _ _ _ rfl).alloc _).alloc _
  have hV0 : Blk W0 (W.heap.size + 1) 30 #[.int .i64 v.x, .int .i64 v.y, .int .i64 v.z] := by rw [hW0]; exact (Blk.new _ _ _ _ (by simp)).alloc _
  have hR0 : Blk W0 (W.heap.size + 2) 30 #[.int .i64 0, .int .i64 0, .int .i64 0] := by rw [hW0]; exact Blk.new _ _ _ _ (by simp)
  go_enter Try.func61, Try.ntmps61
  go_upto_region 1 with (fail)
  simp only [← hW0]
  clear hW0
  obtain ⟨X, hX⟩ : ∃ X, W.heap.size = X := ⟨_, rfl⟩
  simp only [World.size_alloc, hX, Nat.add_assoc, Nat.reduceAdd] at hb0 hS0 hV0 hR0 ⊢
  have s0 : W0.cell? ⟨X, 0, none⟩ = some (.int .i64 s.all.x) := hS0.cell 0
  have s1 : W0.cell? ⟨X, 1, none⟩ = some (.int .i64 s.all.y) := hS0.cell 1
  have s2 : W0.cell? ⟨X, 2, none⟩ = some (.int .i64 s.all.z) := hS0.cell 2
  have s3 : W0.cell? ⟨X, 3, none⟩ = some (.int .i64 s.ends.x) := hS0.cell 3
  have s4 : W0.cell? ⟨X, 4, none⟩ = some (.int .i64 s.ends.y) := hS0.cell 4
  have s5 : W0.cell? ⟨X, 5, none⟩ = some (.int .i64 s.ends.z) := hS0.cell 5
  have s6 : W0.cell? ⟨X, 6, none⟩ = some (.int .i64 (s.n : Int)) := hS0.cell 6
  have sl := hS0.lt
  have v0 : W0.cell? ⟨X + 1, 0, none⟩ = some (.int .i64 v.x) := hV0.cell 0
  have v1 : W0.cell? ⟨X + 1, 1, none⟩ = some (.int .i64 v.y) := hV0.cell 1
  have v2 : W0.cell? ⟨X + 1, 2, none⟩ = some (.int .i64 v.z) := hV0.cell 2
  have vl := hV0.lt
  have hq : W.heap.size ≤ X + 2 := by omega
  -- what is stored is answered
  have fin : ∀ (W' : World) (p : P3), Below W0.heap.size W0 W' → (W'.cell? ⟨X + 2, 0, none⟩ = some (.int .i64 0) ∧ W'.cell? ⟨X + 2, 1, none⟩ = some (.int .i64 0) ∧ W'.cell? ⟨X + 2, 2, none⟩ = some (.int .i64 0)) ∧ X + 2 < W'.heap.size ∧ W'.frozen? ⟨X + 2, 0, none⟩ = false ∧ W'.frozen? ⟨X + 2, 1, none⟩ = false ∧ W'.frozen? ⟨X + 2, 2, none⟩ = false ∧ (∀ x : More, (grow (((W'.setCell ⟨X + 2, 0, none⟩ (.int .i64 p.x)).setCell ⟨X + 2, 1, none⟩ (.int .i64 p.y)).setCell ⟨X + 2, 2, none⟩ (.int .i64 p.z)) x).cell? ⟨X + 2, 0, none⟩ = some (.int .i64 p.x) ∧ (grow (((W'.setCell ⟨X + 2, 0, none⟩ (.int .i64 p.x)).setCell ⟨X + 2, 1, none⟩ (.int .i64 p.y)).setCell ⟨X + 2, 2, none⟩ (.int .i64 p.z)) x).cell? ⟨X + 2, 1, none⟩ = some (.int .i64 p.y) ∧ (grow (((W'.setCell ⟨X + 2, 0, none⟩ (.int .i64 p.x)).setCell ⟨X + 2, 1, none⟩ (.int .i64 p.y)).setCell ⟨X + 2, 2, none⟩ (.int .i64 p.z)) x).cell? ⟨X + 2, 2, none⟩ = some (.int .i64 p.z) ∧ Below W.heap.size W (grow (((W'.setCell ⟨X + 2, 0, none⟩ (.int .i64 p.x)).setCell ⟨X + 2, 1, none⟩ (.int .i64 p.y)).setCell ⟨X + 2, 2, none⟩ (.int .i64 p.z)) x)) := fun W' p hb => by
    have hR := hR0.below hb
    have h9 := ((hR.set 0 (.int .i64 p.x)).set 1 (.int .i64 p.y)).set 2 (.int .i64 p.z)
    refine ⟨⟨hR.cell 0, hR.cell 1, hR.cell 2⟩, hR.lt, hR.frozen _, hR.frozen _, hR.frozen _, fun x => ?_⟩
    have h10 := h9.grow x
    refine ⟨h10.cell 0, h10.cell 1, h10.cell 2, bel_grow ?_ x⟩
    have hbb : Below W.heap.size W W' := by subst hX; exact bel_trans hb0 hb
    exact bel_set (bel_set (bel_set hbb (p := ⟨X + 2, 0, none⟩) hq _) (p := ⟨X + 2, 1, none⟩) hq _) (p := ⟨X + 2, 2, none⟩) hq _
  replace fin := Lib.hid fin
  by_cases c1 : 2 < s.n
  · have hp : placeP s v n = v := by unfold placeP; rw [if_pos c1]
    have c1i : (2 : Int) < (s.n : Int) := by omega
    obtain ⟨⟨r0, r1, r2⟩, rl, e0, e1, e2, hfin⟩ := fin.out W0 v (Below.refl _ _)
    replace hfin := Lib.hid hfin
    go_wp2
    obtain ⟨f0, f1, f2, f3⟩ := hfin.out More.none_
    simp only [grow_none] at f0 f1 f2 f3
    refine bodyPost_ret (v := .agg #[.int .i64 v.x, .int .i64 v.y, .int .i64 v.z]) (by simp [results, Try.results61, go_sem, f0, f1, f2]) rfl ?_
    exact ⟨by rw [hp], by subst hX; exact f3⟩
  · have c1i : ¬ (2 : Int) < (s.n : Int) := by omega
    by_cases c2 : s.n = 2
    · have hp : placeP s v n = ofP (foldP Z3 [scW v 6, s.ends]) 8 := by unfold placeP; rw [if_neg c1, if_pos c2]
      have c2i : ((s.n : Int) == 2) = true := by rw [c2]; rfl
      have k1 := vScale_any v.x v.y v.z 6
      have kO := of_G (foldP Z3 [scW v 6, s.ends]) 8 (fold_Z _) (by unfold i64B; omega)
      generalize hop : ofP (foldP Z3 [scW v 6, s.ends]) 8 = op at *
      clear hop
      replace hp := Lib.hid hp
      go_upto_region 4 with (fail)
      refine wp_region_tail 5 ?_ (by kernel_rfl) (by kernel_rfl) (by kernel_rfl) (fun x => ?_) (fun x => ?_)
      rotate_left
      · simp only [List.take_succ_cons, List.take_zero]
        repeat (go_big_quiet_step (((first | with_reducible exact k1.quiet _ | with_reducible exact k1.quiet2 _ _))))
        refine wpQuiet_nil ?_
        exact rfl
      simp only [List.drop_succ_cons, List.drop_zero]
      try simp only [Act.put, List.setIfInBounds_toArray, List.set_cons_succ, List.set_cons_zero]
      have cT := together_any _ _ 2 [scW v 6, s.ends] (VL2 (grow W0 x) (scW v 6) s.ends) (by simp) (by simp)
      simp only [List.length_cons, List.length_nil, Nat.zero_add, Nat.reduceAdd] at cT
      have hg0 := bel_grow (Below.refl _ W0) x
      generalize hfz : foldP Z3 [scW v 6, s.ends] = fz at *
      clear hfz
      simp only [scW] at cT
      generalize grow W0 x = W1 at *
      go_wp2_with (first | (go_at_call 62; (with_reducible refine cT.mono ?_); rintro e W6 ⟨rfl, hb6⟩; have hb7 := bel_trans hg0 (bel_then_alloc hb6); obtain ⟨⟨r0, r1, r2⟩, rl, e0, e1, e2, hfin⟩ := fin.out W6 op hb7; replace hfin := Lib.hid hfin) | (go_at_call 58; (with_reducible refine (kO.at_ _).mono ?_); rintro e w' ⟨rfl, xg, rfl⟩) | fail)
      obtain ⟨f0, f1, f2, f3⟩ := hfin.out (((xg.setC W6 (X + 2) 0 (.int .i64 op.x)).setC (W6.setCell ⟨X + 2, 0, none⟩ (.int .i64 op.x)) (X + 2) 1 (.int .i64 op.y)).setC ((W6.setCell ⟨X + 2, 0, none⟩ (.int .i64 op.x)).setCell ⟨X + 2, 1, none⟩ (.int .i64 op.y)) (X + 2) 2 (.int .i64 op.z))
      refine bodyPost_ret (v := .agg #[.int .i64 op.x, .int .i64 op.y, .int .i64 op.z]) (by simp [results, Try.results61, go_sem, f0, f1, f2]) rfl ?_
      exact ⟨by rw [hp.out], by subst hX; exact f3⟩
    · have hp : placeP s v n = adW v (ofP (foldP Z3 [s.all, scW v (-2 * (n : Int))]) ((n : Int) * (n : Int))) := by unfold placeP; rw [if_neg c1, if_neg c2]
      have c2i : ((s.n : Int) == 2) = false := by simp; omega
      have hnn : (n : Int) * (n : Int) ≤ 1048576 * 1048576 := Int.mul_le_mul (by omega) (by omega) (by omega) (by omega)
      have hnn0 : (0 : Int) ≤ (n : Int) * (n : Int) := Int.mul_nonneg (by omega) (by omega)
      have w1 : IntKind.i64.wrap (-2 * (n : Int)) = -2 * (n : Int) := by simp [IntKind.wrap, IntKind.bits, IntKind.signed]; omega
      have w2 : IntKind.i64.wrap ((n : Int) * (n : Int)) = (n : Int) * (n : Int) := by generalize (n : Int) * (n : Int) = nn at *; simp [IntKind.wrap, IntKind.bits, IntKind.signed]; omega
      have k1 := vScale_any v.x v.y v.z (-2 * (n : Int))
      have kO := of_G (foldP Z3 [s.all, scW v (-2 * (n : Int))]) ((n : Int) * (n : Int)) (fold_Z _) (by generalize (n : Int) * (n : Int) = nn at *; unfold i64B; omega)
      generalize hop : ofP (foldP Z3 [s.all, scW v (-2 * (n : Int))]) ((n : Int) * (n : Int)) = op at *
      clear hop
      have k2 := vAdd_any v.x v.y v.z op.x op.y op.z
      replace hp := Lib.hid hp
      go_upto_region 5 with (fail)
      refine wp_region_monoT 15 (RL [PE (.agg #[.int .i64 v.x, .int .i64 v.y, .int .i64 v.z]), PE (.pointer (some ⟨X, 0, none⟩)), PE (.pointer (some ⟨X, 0, none⟩)), PE (.agg #[.int .i64 (s.all).x, .int .i64 (s.all).y, .int .i64 (s.all).z]), PE (.agg #[.int .i64 v.x, .int .i64 v.y, .int .i64 v.z]), PE (.int .i64 (n : Int)), PE (.int .i64 (-2 * (n : Int))), PE (.agg #[.int .i64 (scW v (-2 * (n : Int))).x, .int .i64 (scW v (-2 * (n : Int))).y, .int .i64 (scW v (-2 * (n : Int))).z]), PV (W0.heap.size) 2 [s.all, scW v (-2 * (n : Int))], PE (.agg #[.int .i64 (foldP Z3 [s.all, scW v (-2 * (n : Int))]).x, .int .i64 (foldP Z3 [s.all, scW v (-2 * (n : Int))]).y, .int .i64 (foldP Z3 [s.all, scW v (-2 * (n : Int))]).z]), PE (.int .i64 (n : Int)), PE (.int .i64 (n : Int)), PE (.int .i64 ((n : Int) * (n : Int))), PE (.agg #[.int .i64 op.x, .int .i64 op.y, .int .i64 op.z]), PE (.agg #[.int .i64 (adW v op).x, .int .i64 (adW v op).y, .int .i64 (adW v op).z])]) (by kernel_rfl) _ rfl (by kernel_rfl) (by kernel_rfl) (by kernel_rfl) (by kernel_rfl) (by kernel_rfl) (RL.stays ?_) ?_ ?_
      · intro p hp
        simp only [List.mem_cons, List.not_mem_nil, or_false] at hp
        rcases hp with rfl | rfl | rfl | rfl | rfl | rfl | rfl | rfl | rfl | rfl | rfl | rfl | rfl | rfl | rfl <;> first | exact PE.stays _ | exact PV.stays _ _ _
      · simp only [List.take_succ_cons, List.take_zero]
        refine ⟨?_, ?_, ?_, ?_, ?_, ?_, ?_, ?_, ?_, ?_, ?_, ?_, ?_, ?_, ?_, ?_⟩
        · refine mono_val rfl (fun a w hB hk hp => ?_)
          have es4 := (hk 4 (keep_of (by kernel_rfl))).trans (show _ = some (.pointer (some ⟨X + 1, 0, none⟩)) from rfl)
          have fc0 := (hB.cell (p := ⟨X + 1, 0, none⟩) vl).trans v0
          have fc1 := (hB.cell (p := ⟨X + 1, 0 + 1, none⟩) vl).trans v1
          have fc2 := (hB.cell (p := ⟨X + 1, 0 + 2, none⟩) vl).trans v2
          exact ⟨.agg #[.int .i64 v.x, .int .i64 v.y, .int .i64 v.z], w, ldmS_run _ _ _ 30 _ rfl (X + 1) (0) (eval_tmp es4) _ _ (rng3V fc0 fc1 fc2) Try.underlying30 rfl infoV3, Below.refl _ _, fun _ _ => rfl⟩
        · refine mono_val rfl (fun a w hB hk hp => ?_)
          have es3 := (hk 3 (keep_of (by kernel_rfl))).trans (show _ = some (.pointer (some ⟨X, 0, none⟩)) from rfl)
          exact ⟨.pointer (some ⟨X, 0, none⟩), w, by simp [execOp, go_sem, es3], Below.refl _ _, fun _ _ => rfl⟩
        · refine mono_val rfl (fun a w hB hk hp => ?_)
          obtain ⟨x1, ex1, rx1⟩ := hp ⟨1, .data⟩ (by simp) rfl _ _ rfl rfl
          obtain rfl : x1 = _ := rx1
          exact ⟨.pointer (some ⟨X, 0, none⟩), w, by simp [execOp, go_sem, ex1], Below.refl _ _, fun _ _ => rfl⟩
        · refine mono_val rfl (fun a w hB hk hp => ?_)
          obtain ⟨x2, ex2, rx2⟩ := hp ⟨2, .data⟩ (by simp) rfl _ _ rfl rfl
          obtain rfl : x2 = _ := rx2
          have fc0 := (hB.cell (p := ⟨X, 0, none⟩) sl).trans s0
          have fc1 := (hB.cell (p := ⟨X, 0 + 1, none⟩) sl).trans s1
          have fc2 := (hB.cell (p := ⟨X, 0 + 2, none⟩) sl).trans s2
          exact ⟨.agg #[.int .i64 (s.all).x, .int .i64 (s.all).y, .int .i64 (s.all).z], w, ldmS_run _ _ _ 30 _ rfl (X) (0) (eval_tmp ex2) _ _ (rng3V fc0 fc1 fc2) Try.underlying30 rfl infoV3, Below.refl _ _, fun _ _ => rfl⟩
        · refine mono_val rfl (fun a w hB hk hp => ?_)
          have es4 := (hk 4 (keep_of (by kernel_rfl))).trans (show _ = some (.pointer (some ⟨X + 1, 0, none⟩)) from rfl)
          have fc0 := (hB.cell (p := ⟨X + 1, 0, none⟩) vl).trans v0
          have fc1 := (hB.cell (p := ⟨X + 1, 0 + 1, none⟩) vl).trans v1
          have fc2 := (hB.cell (p := ⟨X + 1, 0 + 2, none⟩) vl).trans v2
          exact ⟨.agg #[.int .i64 v.x, .int .i64 v.y, .int .i64 v.z], w, ldmS_run _ _ _ 30 _ rfl (X + 1) (0) (eval_tmp es4) _ _ (rng3V fc0 fc1 fc2) Try.underlying30 rfl infoV3, Below.refl _ _, fun _ _ => rfl⟩
        · refine mono_val rfl (fun a w hB hk hp => ?_)
          have es2 := (hk 2 (keep_of (by kernel_rfl))).trans (show _ = some (.int .i64 (n : Int)) from rfl)
          exact ⟨.int .i64 (n : Int), w, by simp [execOp, go_sem, es2], Below.refl _ _, fun _ _ => rfl⟩
        · refine mono_val rfl (fun a w hB hk hp => ?_)
          obtain ⟨x5, ex5, rx5⟩ := hp ⟨5, .data⟩ (by simp) rfl _ _ rfl rfl
          obtain rfl : x5 = _ := rx5
          have fc0 := w1
          exact ⟨.int .i64 (-2 * (n : Int)), w, by simp [execOp, go_sem, ex5, fc0], Below.refl _ _, fun _ _ => rfl⟩
        · refine mono_call rfl (fun a w hB hk hp => ?_)
          obtain ⟨x4, ex4, rx4⟩ := hp ⟨4, .data⟩ (by simp) rfl _ _ rfl rfl
          obtain rfl : x4 = _ := rx4
          obtain ⟨x6, ex6, rx6⟩ := hp ⟨6, .data⟩ (by simp) rfl _ _ rfl rfl
          obtain rfl : x6 = _ := rx6
          exact ⟨52, #[.agg #[.int .i64 v.x, .int .i64 v.y, .int .i64 v.z], .int .i64 (-2 * (n : Int))], by simp [execOp, go_sem, ex4, ex6], (k1.at_ w).mono fun e w' ⟨h1, xg, h2⟩ => ⟨_, h1, h2 ▸ bel_grow (Below.refl _ _) xg, fun _ _ => rfl⟩⟩
        · refine mono_val rfl (fun a w hB hk hp => ?_)
          obtain ⟨x3, ex3, rx3⟩ := hp ⟨3, .data⟩ (by simp) rfl _ _ rfl rfl
          obtain rfl : x3 = _ := rx3
          obtain ⟨x7, ex7, rx7⟩ := hp ⟨7, .data⟩ (by simp) rfl _ _ rfl rfl
          obtain rfl : x7 = _ := rx7
          exact ⟨.slice (some ⟨w.heap.size, 0, none⟩) 2 2, w.alloc (.cells #[.int .i64 s.all.x, .int .i64 s.all.y, .int .i64 s.all.z, .int .i64 (scW v (-2 * (n : Int))).x, .int .i64 (scW v (-2 * (n : Int))).y, .int .i64 (scW v (-2 * (n : Int))).z] 30), by simp [execOp, go_sem, ex3, ex7], bel_alloc (Below.refl _ _) _, fun _ _ => ⟨w.heap.size, rfl, hB.size, VL2 w s.all (scW v (-2 * (n : Int)))⟩⟩
        · refine mono_call rfl (fun a w hB hk hp => ?_)
          obtain ⟨x8, ex8, rx8⟩ := hp ⟨8, .data⟩ (by simp) rfl _ _ rfl rfl
          obtain ⟨bb, rfl, hbb, hvl⟩ : PV (W0.heap.size) 2 [s.all, scW v (-2 * (n : Int))] w x8 := rx8
          exact ⟨62, #[.slice (some ⟨bb, 0, none⟩) 2 2], by simp [execOp, go_sem, ex8], (together_any w (some ⟨bb, 0, none⟩) 2 [s.all, scW v (-2 * (n : Int))] hvl (by simp) (by simp)).mono fun e w' ⟨h1, h2⟩ => ⟨_, h1, h2, fun _ _ => rfl⟩⟩
        · refine mono_val rfl (fun a w hB hk hp => ?_)
          have es2 := (hk 2 (keep_of (by kernel_rfl))).trans (show _ = some (.int .i64 (n : Int)) from rfl)
          exact ⟨.int .i64 (n : Int), w, by simp [execOp, go_sem, es2], Below.refl _ _, fun _ _ => rfl⟩
        · refine mono_val rfl (fun a w hB hk hp => ?_)
          have es2 := (hk 2 (keep_of (by kernel_rfl))).trans (show _ = some (.int .i64 (n : Int)) from rfl)
          exact ⟨.int .i64 (n : Int), w, by simp [execOp, go_sem, es2], Below.refl _ _, fun _ _ => rfl⟩
        · refine mono_val rfl (fun a w hB hk hp => ?_)
          obtain ⟨x10, ex10, rx10⟩ := hp ⟨10, .data⟩ (by simp) rfl _ _ rfl rfl
          obtain rfl : x10 = _ := rx10
          obtain ⟨x11, ex11, rx11⟩ := hp ⟨11, .data⟩ (by simp) rfl _ _ rfl rfl
          obtain rfl : x11 = _ := rx11
          have fc0 := w2
          exact ⟨.int .i64 ((n : Int) * (n : Int)), w, by simp [execOp, go_sem, ex10, ex11, fc0], Below.refl _ _, fun _ _ => rfl⟩
        · refine mono_call rfl (fun a w hB hk hp => ?_)
          obtain ⟨x9, ex9, rx9⟩ := hp ⟨9, .data⟩ (by simp) rfl _ _ rfl rfl
          obtain rfl : x9 = _ := rx9
          obtain ⟨x12, ex12, rx12⟩ := hp ⟨12, .data⟩ (by simp) rfl _ _ rfl rfl
          obtain rfl : x12 = _ := rx12
          exact ⟨58, #[.agg #[.int .i64 (foldP Z3 [s.all, scW v (-2 * (n : Int))]).x, .int .i64 (foldP Z3 [s.all, scW v (-2 * (n : Int))]).y, .int .i64 (foldP Z3 [s.all, scW v (-2 * (n : Int))]).z], .int .i64 ((n : Int) * (n : Int))], by simp [execOp, go_sem, ex9, ex12], (kO.at_ w).mono fun e w' ⟨h1, xg, h2⟩ => ⟨_, h1, h2 ▸ bel_grow (Below.refl _ _) xg, fun _ _ => rfl⟩⟩
        · refine mono_call rfl (fun a w hB hk hp => ?_)
          obtain ⟨x0, ex0, rx0⟩ := hp ⟨0, .data⟩ (by simp) rfl _ _ rfl rfl
          obtain rfl : x0 = _ := rx0
          obtain ⟨x13, ex13, rx13⟩ := hp ⟨13, .data⟩ (by simp) rfl _ _ rfl rfl
          obtain rfl : x13 = _ := rx13
          exact ⟨32, #[.agg #[.int .i64 v.x, .int .i64 v.y, .int .i64 v.z], .agg #[.int .i64 op.x, .int .i64 op.y, .int .i64 op.z]], by simp [execOp, go_sem, ex0, ex13], (k2.at_ w).mono fun e w' ⟨h1, xg, h2⟩ => ⟨_, h1, h2 ▸ bel_grow (Below.refl _ _) xg, fun _ _ => rfl⟩⟩
        · trivial
      · intro a u4 hB hsz hdf hk hgot
        obtain ⟨v14, ev14, rv14⟩ := hgot 14 _ 38 rfl rfl
        obtain rfl : v14 = _ := rv14
        obtain ⟨f, hf, rfl⟩ := frame_eq hsz hdf hk [24, 25, 26, 27, 28, 29, 30, 31, 32, 33, 34, 35, 36, 37, 38] (by rfl)
        have f38 := hf 38 _ ev14
        clear hsz hdf hk hgot hf ev14
        simp only [List.drop_succ_cons, List.drop_zero, setAll, List.setIfInBounds_toArray, List.set_cons_succ, List.set_cons_zero, f38]
        clear f38
        generalize f 24 = uu24; generalize f 25 = uu25; generalize f 26 = uu26; generalize f 27 = uu27; generalize f 28 = uu28; generalize f 29 = uu29; generalize f 30 = uu30; generalize f 31 = uu31; generalize f 32 = uu32; generalize f 33 = uu33; generalize f 34 = uu34; generalize f 35 = uu35; generalize f 36 = uu36; generalize f 37 = uu37
        obtain ⟨⟨r0, r1, r2⟩, rl, e0, e1, e2, hfin⟩ := fin.out u4 (adW v op) hB
        replace hfin := Lib.hid hfin
        go_wp2
        obtain ⟨f0, f1, f2, f3⟩ := hfin.out More.none_
        simp only [grow_none] at f0 f1 f2 f3
        refine bodyPost_ret (v := .agg #[.int .i64 (adW v op).x, .int .i64 (adW v op).y, .int .i64 (adW v op).z]) (by simp [results, Try.results61, go_sem, f0, f1, f2]) rfl ?_
        exact ⟨by rw [hp.out], by subst hX; exact f3⟩
end Go.Proofs.Ytpdnaceggpdleab
namespace Go.Proofs.Ytpdnaceggpdleab
open Go.RowKit
set_option linter.unusedVariables false
set_option linter.unusedSimpArgs false
set_option linter.unnecessarySimpa false
set_option maxRecDepth 100000
def placeA (vs ms : List P3) (fans : List (List Int)) (L : List (Ed × Int)) (v : Nat) : P3 := placeP (starF vs ms (fans.getD v []) L (v : Int)) (vat vs (v : Int)) (fans.getD v []).length
set_option maxHeartbeats 4000000 in
theorem moved_any (W : World) (A1 A2 A3 B1 B2 B3 S M : Option Addr) (n2 n3 m3 k1 k2 k3 d1 d2 d3 s1 s2 : Nat) (vs ms : List P3) (es : List Ed) (sh : List Int) (fans : List (List Int)) (hV : VL W A1 vs) (hE : EL W B1 es) (hS : IL W S sh) (hM : VL W M ms) (hF : FL W B2 fans) (hsl : sh.length = es.length) (hfl : fans.length = vs.length) (hab : ∀ e ∈ es, (0 ≤ e.a ∧ e.a < vs.length) ∧ (0 ≤ e.b ∧ e.b < vs.length) ∧ e.a ≠ e.b) (hfan : ∀ x ∈ fans, ∀ y ∈ x, 0 ≤ y ∧ y < ms.length) (hxl : ∀ x ∈ fans, x.length < 1048576) (hl : es.length < 1099511627776) (hvl : vs.length < 1099511627776) :
    Calls Try.prog 40 #[.agg #[.slice A1 vs.length k1, .slice A2 n2 k2, .slice A3 n3 k3, .slice B1 es.length d1, .slice B2 fans.length d2, .slice B3 m3 d3, .slice S sh.length s1, .slice M ms.length s2]] W fun e W' => ∃ g, e = .returned (.slice (some ⟨g, 0, none⟩) vs.length vs.length) ∧ W.heap.size ≤ g ∧ Blk W' g 30 (rowCs 3 vs.length (pC fun v => placeA vs ms fans (es.zip sh) v)) ∧ Below W.heap.size W W' := by
  obtain ⟨i0, hi0, hz0, hz1, hz2⟩ := info_parts infoV
  have cS := fun (W1 : World) (hb : Below W.heap.size W W1) => stars_any W1 A1 A2 A3 B1 B2 B3 S M n2 n3 m3 k1 k2 k3 d1 d2 d3 s1 s2 vs ms es sh fans (hV.below hb) (hE.below hb) (hS.below hb) (hM.below hb) (hF.below hb) hsl hfl hab hfan (fun x hx => by have := hxl x hx; omega) hl hvl
  obtain ⟨ns, hns⟩ : ∃ ns, sh.length = ns := ⟨_, rfl⟩
  obtain ⟨nf, hnf⟩ : ∃ nf, fans.length = nf := ⟨_, rfl⟩
  have hnv : nf = vs.length := hnf.symm.trans hfl
  simp only [hns, hnf] at cS ⊢
  have hb0 : Below W.heap.size W (W.alloc (.cells #[.slice A1 vs.length k1, .slice A2 n2 k2, .slice A3 n3 k3, .slice B1 es.length d1, .slice B2 nf d2, .slice B3 m3 d3, .slice S ns s1, .slice M ms.length s2] 91)) := bel_alloc (Below.refl _ _) _
  have hC0 : Blk (W.alloc (.cells #[.slice A1 vs.length k1, .slice A2 n2 k2, .slice A3 n3 k3, .slice B1 es.length d1, .slice B2 nf d2, .slice B3 m3 d3, .slice S ns s1, .slice M ms.length s2] 91)) W.heap.size 91 #[.slice A1 vs.length k1, .slice A2 n2 k2, .slice A3 n3 k3, .slice B1 es.length d1, .slice B2 nf d2, .slice B3 m3 d3, .slice S ns s1, .slice M ms.length s2] := Blk.new _ _ _ _ rfl
  have hsz0 : (W.alloc (.cells #[.slice A1 vs.length k1, .slice A2 n2 k2, .slice A3 n3 k3, .slice B1 es.length d1, .slice B2 nf d2, .slice B3 m3 d3, .slice S ns s1, .slice M ms.length s2] 91)).heap.size = W.heap.size + 1 := World.size_alloc _ _
  replace hnv := Lib.hid hnv
  replace hnf := Lib.hid hnf
  have hzl : (es.zip sh).length < 1099511627776 := by simp; omega
  replace cS := Lib.hid cS
  clear hsl hfl hns
  go_enter Try.func40, Try.ntmps40
  go_upto_region 1 with (fail)
  generalize hCe : W.alloc (.cells #[.slice A1 vs.length k1, .slice A2 n2 k2, .slice A3 n3 k3, .slice B1 es.length d1, .slice B2 nf d2, .slice B3 m3 d3, .slice S ns s1, .slice M ms.length s2] 91) = W0 at *
  clear hCe
  have x0 : W0.cell? ⟨W.heap.size, 0, none⟩ = some (.slice A1 vs.length k1) := hC0.cell 0
  have xl := hC0.lt
  go_upto_region 2 with (first | ((refine wpList_make_full _ rfl _ _ 22 rfl W0.heap.size 30 i0 _ 3 Try.underlying22 hi0 hz0 hz1 .i64 .i64 (vs.length : Int) (vs.length : Int) vs.length rfl rfl rfl rfl (by rw [hz2]; omega) (by unfold maxLen; omega) (Nat.le_refl _) ?_); intro W1 own1 hg1) | fail)
  have hG1 : Blk W1 W0.heap.size 30 (rowCs 3 vs.length (pC fun _ => Z3)) := by
    have := made_blk own1
    rw [show (Value.agg #[Value.int .i64 0, Value.int .i64 0, Value.int .i64 0]).cells = #[.int .i64 Z3.x, .int .i64 Z3.y, .int .i64 Z3.z] from rfl, pC_made] at this
    exact this
  have hb1 : Below W0.heap.size W0 W1 := bel_own (Below.refl _ _) hg1 (by intro k h; cases h)
  have hC1 := hC0.below hb1
  have hB1 := bel_trans hb0 hb1
  rw [hsz0] at hG1
  clear own1 hg1 hb1 hC0 hb0 x0 xl
  have x0 : W1.cell? ⟨W.heap.size, 0, none⟩ = some (.slice A1 vs.length k1) := hC1.cell 0
  have x1 : W1.cell? ⟨W.heap.size, 1, none⟩ = some (.slice A2 n2 k2) := hC1.cell 1
  have x2 : W1.cell? ⟨W.heap.size, 2, none⟩ = some (.slice A3 n3 k3) := hC1.cell 2
  have x3 : W1.cell? ⟨W.heap.size, 3, none⟩ = some (.slice B1 es.length d1) := hC1.cell 3
  have x4 : W1.cell? ⟨W.heap.size, 4, none⟩ = some (.slice B2 nf d2) := hC1.cell 4
  have x5 : W1.cell? ⟨W.heap.size, 5, none⟩ = some (.slice B3 m3 d3) := hC1.cell 5
  have x6 : W1.cell? ⟨W.heap.size, 6, none⟩ = some (.slice S ns s1) := hC1.cell 6
  have x7 : W1.cell? ⟨W.heap.size, 7, none⟩ = some (.slice M ms.length s2) := hC1.cell 7
  have xl := hC1.lt
  have hGl := hG1.lt
  have cS1 := cS.out W1 hB1
  clear cS
  go_upto_region 3 with (first | (go_at_call 60; (with_reducible refine cS1.mono ?_); rintro e W2 ⟨g, rfl, hgg, hSt, hb2⟩) | fail)
  have hC2 := hC1.below hb2
  have hG2 := hG1.below hb2
  have hB2 := bel_trans hB1 hb2
  have hgne : W.heap.size + 1 < g := by omega
  clear hC1 hG1 hB1 hb2 cS1 x0 x1 x2 x3 x4 x5 x6 x7 xl
  obtain ⟨PF, hPF⟩ : ∃ f : Nat → P3, f = fun v => placeA vs ms fans (es.zip sh) v := ⟨_, rfl⟩
  go_loopw [14] (fun iv wr => ∃ k : Nat, iv = .int .i64 (k : Int) ∧ k ≤ vs.length ∧ Below W.heap.size W wr ∧ Blk wr W.heap.size 91 #[.slice A1 vs.length k1, .slice A2 n2 k2, .slice A3 n3 k3, .slice B1 es.length d1, .slice B2 nf d2, .slice B3 m3 d3, .slice S ns s1, .slice M ms.length s2] ∧ Blk wr (W.heap.size + 1) 30 (rowCs 3 vs.length (pC fun i => if i < k then PF i else Z3)) ∧ Blk wr g 125 (rowCs 7 vs.length (sC fun v => starF vs ms (fans.getD v []) (es.zip sh) (v : Int)))) (fun iv _ => vs.length - (intOf iv).toNat)
  case atStart => exact ⟨0, rfl, by omega, hB2, hC2, by simpa using hG2, hSt⟩
  case round =>
    obtain ⟨k, rfl, hk, hBr, hCr, hGr, hSr⟩ := hrel
    clear hB2 hC2 hG2 hSt
    by_cases hlt : k < vs.length
    · have hkn : k < nf := by rw [hnv.out]; exact hlt
      have hkf : k < fans.length := by rw [hnf.out]; exact hkn
      obtain ⟨bf, of_, B, mf, rfl, hlf, hcf, _⟩ := (hF.below hBr).at_ k hkf
      obtain ⟨bv, ov, rfl, hbv, a0, a1, a2⟩ := (hV.below hBr).at_ k hlt
      rw [← vat_get hlt] at a0 a1 a2
      have hPk : PF k = placeP (starF vs ms fans[k] (es.zip sh) (k : Int)) (vat vs (k : Int)) fans[k].length := by
        rw [hPF]
        simp only [placeA, List.getD_eq_getElem?_getD, List.getElem?_eq_getElem hkf, Option.getD_some]
      have hat := sC_at (fun v => starF vs ms (fans.getD v []) (es.zip sh) (v : Int)) hlt
      simp only [show fans.getD k [] = fans[k] by rw [List.getD_eq_getElem?_getD, List.getElem?_eq_getElem hkf]; rfl] at hat
      have hxl1 := hxl _ (List.getElem_mem hkf)
      have hsn := starF_n vs ms fans[k] (k : Int) (es.zip sh)
      have kP := place_G (starF vs ms fans[k] (es.zip sh) (k : Int)) (vat vs (k : Int)) fans[k].length (by omega) hxl1
      rw [← hPk] at kP
      generalize fans[k] = fn at *
      generalize starF vs ms fn (es.zip sh) (k : Int) = st at *
      generalize vat vs (k : Int) = p at *
      clear hsn hPk
      obtain ⟨hat0, ⟨b0, b1, b2⟩, ⟨b3, b4, b5⟩, b6⟩ := hat
      rw [← hSr.cell] at b0 b1 b2 b3 b4 b5 b6
      have hSl := hSr.lt
      have q0 : (0 : Int) ≤ (k : Int) := by omega
      have q1 : (k : Int) < (vs.length : Int) := by omega
      have q1n : (k : Int) < (nf : Int) := by omega
      have hb2 : Below wr.heap.size wr (wr.alloc (.cells #[.int .i64 st.all.x, .int .i64 st.all.y, .int .i64 st.all.z, .int .i64 st.ends.x, .int .i64 st.ends.y, .int .i64 st.ends.z, .int .i64 (st.n : Int)] 125)) := bel_alloc (Below.refl _ _) _
      have hP2 : Blk (wr.alloc (.cells #[.int .i64 st.all.x, .int .i64 st.all.y, .int .i64 st.all.z, .int .i64 st.ends.x, .int .i64 st.ends.y, .int .i64 st.ends.z, .int .i64 (st.n : Int)] 125)) wr.heap.size 125 #[.int .i64 st.all.x, .int .i64 st.all.y, .int .i64 st.all.z, .int .i64 st.ends.x, .int .i64 st.ends.y, .int .i64 st.ends.z, .int .i64 (st.n : Int)] := Blk.new _ _ _ _ rfl
      have hB2 := bel_trans hBr hb2
      have hC2 := hCr.below hb2
      have hG2 := hGr.below hb2
      have hS2 := hSr.below hb2
      have tr := fun (b j : Nat) (v : Value) (hb : b < wr.heap.size) (h : wr.cell? ⟨b, j, none⟩ = some v) => (hb2.cell (p := ⟨b, j, none⟩) hb).trans h
      replace a0 := tr _ _ _ hbv a0
      replace a1 := tr _ _ _ hbv a1
      replace a2 := tr _ _ _ hbv a2
      replace hcf := tr _ _ _ hlf hcf
      have hCl := hCr.lt
      have hGl2 := hGr.lt
      clear hBr hCr hGr hSr
      go_upto_region 5 with (fail)
      generalize wr.alloc (.cells #[.int .i64 st.all.x, .int .i64 st.all.y, .int .i64 st.all.z, .int .i64 st.ends.x, .int .i64 st.ends.y, .int .i64 st.ends.z, .int .i64 (st.n : Int)] 125) = W3 at *
      obtain ⟨X, hX⟩ : ∃ X, wr.heap.size = X := ⟨_, rfl⟩
      simp only [hX] at *
      clear hX tr b0 b1 b2 b3 b4 b5 b6 hb2
      have hXl := hP2.lt
      have y0 : W3.cell? ⟨X, 0, none⟩ = some (.int .i64 st.all.x) := hP2.cell 0
      have y1 : W3.cell? ⟨X, 1, none⟩ = some (.int .i64 st.all.y) := hP2.cell 1
      have y2 : W3.cell? ⟨X, 2, none⟩ = some (.int .i64 st.all.z) := hP2.cell 2
      have y3 : W3.cell? ⟨X, 3, none⟩ = some (.int .i64 st.ends.x) := hP2.cell 3
      have y4 : W3.cell? ⟨X, 4, none⟩ = some (.int .i64 st.ends.y) := hP2.cell 4
      have y5 : W3.cell? ⟨X, 5, none⟩ = some (.int .i64 st.ends.z) := hP2.cell 5
      have y6 : W3.cell? ⟨X, 6, none⟩ = some (.int .i64 (st.n : Int)) := hP2.cell 6
      have x0 : W3.cell? ⟨W.heap.size, 0, none⟩ = some (.slice (some ⟨bv, ov, none⟩) vs.length k1) := hC2.cell 0
      have x4 : W3.cell? ⟨W.heap.size, 4, none⟩ = some (.slice (some ⟨bf, of_, none⟩) nf d2) := hC2.cell 4
      have xl := hC2.lt
      have hbv9 : bv < W3.heap.size := by omega
      have hlf9 : bf < W3.heap.size := by omega
      refine wp_region_tail 17 ?_ (by kernel_rfl) (by kernel_rfl) (by kernel_rfl) (fun x => ?_) (fun x => ?_)
      rotate_left
      · simp only [List.take_succ_cons, List.take_zero]
        repeat (go_big_quiet_step (((first | with_reducible exact kP.quiet _ | with_reducible exact kP.quiet2 _ _))))
        refine wpQuiet_nil ?_
        exact rfl
      simp only [List.drop_succ_cons, List.drop_zero]
      try simp only [Act.put, List.setIfInBounds_toArray, List.set_cons_succ, List.set_cons_zero]
      have hB4 := bel_grow hB2 x
      have hC4 := hC2.grow x
      have hG4 := hG2.grow x
      have hS4 := hS2.grow x
      have hset := pC_next PF hlt
      clear hB2 hC2 hG2 hS2 hP2 y0 y1 y2 y3 y4 y5 y6 x0 x4 xl a0 a1 a2 hcf
      generalize grow W3 x = W4 at *
      obtain ⟨⟨g0, g1, g2⟩, gl, e0, e1, e2⟩ := row3P hG4 hlt
      generalize hCC : pC (fun i => if i < k then PF i else Z3) = CC at *
      clear hCC
      replace hset := Lib.hid hset
      generalize CC k 0 = v0 at *
      generalize CC k 1 = v1 at *
      generalize CC k 2 = v2 at *
      generalize hpk : PF k = hp at *
      clear kP hpk
      go_wp2
      go_roundw
      case rel =>
        refine ⟨k + 1, by go_num, by omega, ?_, ?_, ?_, ?_⟩
        · exact bel_set (bel_set (bel_set hB4 (p := ⟨W.heap.size + 1, _, none⟩) (by simp) _) (p := ⟨W.heap.size + 1, _, none⟩) (by simp) _) (p := ⟨W.heap.size + 1, _, none⟩) (by simp) _
        · exact ((hC4.far (b := W.heap.size + 1) _ _ (by omega)).far (b := W.heap.size + 1) _ _ (by omega)).far (b := W.heap.size + 1) _ _ (by omega)
        · rw [← hset.out]
          exact ((hG4.set (k * 3) (.int .i64 hp.x)).set (k * 3 + 1) (.int .i64 hp.y)).set (k * 3 + 2) (.int .i64 hp.z)
        · exact ((hS4.far (b := W.heap.size + 1) _ _ (by omega)).far (b := W.heap.size + 1) _ _ (by omega)).far (b := W.heap.size + 1) _ _ (by omega)
      case measure => simp [intOf]; omega
    · obtain rfl : k = vs.length := by omega
      have hGr2 : Blk wr (W.heap.size + 1) 30 (rowCs 3 vs.length (pC fun v => placeA vs ms fans (es.zip sh) v)) := by
        rw [← pC_ext (f := fun f => if f < vs.length then PF f else Z3) fun v hv => by rw [if_pos hv, hPF]]
        exact hGr
      go_wp2
      go_ret
      exact ⟨W.heap.size + 1, rfl, by omega, hGr2, hBr⟩
end Go.Proofs.Ytpdnaceggpdleab
namespace Go.Proofs.Ytpdnaceggpdleab
open Go.RowKit
set_option linter.unusedVariables false
set_option linter.unusedSimpArgs false
def midsL (vs : List P3) (fs : List (List Int)) : List P3 := (List.range fs.length).map fun f => midP vs (fs.getD f [])
def halvesL (vs ms : List P3) (es : List Ed) (sh : List Int) : List P3 := (List.range es.length).map fun i => halfP vs ms (es.getD i ed0) (sh.getD i 0)
def movedL (vs ms : List P3) (fans : List (List Int)) (L : List (Ed × Int)) : List P3 := (List.range vs.length).map fun v => placeA vs ms fans L v
theorem midsL_len (vs : List P3) (fs : List (List Int)) : (midsL vs fs).length = fs.length := by simp [midsL]
theorem halvesL_len (vs ms : List P3) (es : List Ed) (sh : List Int) : (halvesL vs ms es sh).length = es.length := by simp [halvesL]
theorem movedL_len (vs ms : List P3) (fans : List (List Int)) (L : List (Ed × Int)) : (movedL vs ms fans L).length = vs.length := by simp [movedL]
/-- A cage one level finer, by its surface and its edges' sharpness. -/
def levC (c : Cg) (t : TopoT) (sh : List Int) : Cg :=
  ⟨movedL c.vs (midsL c.vs c.fs) t.fans (t.es.zip sh) ++ halvesL c.vs (midsL c.vs c.fs) t.es sh ++ midsL c.vs c.fs, fine (c.vs.length : Int) t.es c.fs, restP (c.vs.length : Int) 0 (t.es.zip sh)⟩
def Cg0 : Cg := ⟨[], [], []⟩
/-- What Level answers: the cage and the error. -/
inductive LevR (c : Cg) : Cg → Int → Prop where
  | noSurf (h : ¬ Surf (c.vs.length : Int) c.fs) : LevR c Cg0 14
  | noEdge (t : TopoT) (hT : TopoS (c.vs.length : Int) c.fs t) (h : sharpP t.es c.ks = none) : LevR c Cg0 14
  | large (t : TopoT) (hT : TopoS (c.vs.length : Int) c.fs t) (sh : List Int) (h : sharpP t.es c.ks = some sh) (hf : ¬ ∀ p ∈ c.vs, InP 65536 p) : LevR c Cg0 21
  | fine (t : TopoT) (hT : TopoS (c.vs.length : Int) c.fs t) (sh : List Int) (h : sharpP t.es c.ks = some sh) (hf : ∀ p ∈ c.vs, InP 65536 p) : LevR c (levC c t sh) 0
theorem edge_way {n : Int} {fs : List (List Int)} {t : TopoT} (h : TopoS n fs t) {e : Ed} (he : e ∈ t.es) : ∃ w ∈ waysL 0 fs, e = edOf (waysL 0 fs) (min w.a w.b) (max w.a w.b) := (h.edges.mem e).1 he
theorem edge_rng {n : Int} {fs : List (List Int)} {t : TopoT} (h : TopoS n fs t) {e : Ed} (he : e ∈ t.es) : (0 ≤ e.a ∧ e.a < n) ∧ (0 ≤ e.b ∧ e.b < n) ∧ e.a ≠ e.b ∧ e.a < e.b := by
  obtain ⟨w, hw, rfl⟩ := edge_way h he
  obtain ⟨h1, h2, _⟩ := h.walk.rng hw
  have := h.walk.ne hw
  simp only [edOf]; omega
theorem fan_rng {n : Int} {fs : List (List Int)} {t : TopoT} (h : TopoS n fs t) {x : List Int} (hx : x ∈ t.fans) : (∀ y ∈ x, 0 ≤ y ∧ y < fs.length) ∧ x.length ≤ tot fs := by
  obtain ⟨v, hv, rfl⟩ := List.getElem_of_mem hx
  have h1 := h.nf
  have h2 := h.nr
  obtain ⟨L, hF, hl, e⟩ := h.fan v hv (by omega)
  rw [e]
  constructor
  · intro y hy
    obtain ⟨w, hw, rfl⟩ := List.mem_map.1 hy
    exact h.walk.frng (hF.mem w hw).1
  · rw [List.length_map, hl, ← waysL_len fs 0]
    exact List.length_filter_le _ _
theorem face_rng {fs : List (List Int)} (hl : Long fs) (a b : Int) : faceOf (waysL 0 fs) a b < fs.length := by
  unfold faceOf
  cases h : look (waysL 0 fs) a b with
  | none => simp; omega
  | some w =>
    obtain ⟨hw, _, _⟩ := look_some h
    obtain ⟨j, hj, hm⟩ := (mem_waysL fs 0 w).1 hw
    have := waysF_fc hm
    simp; omega
theorem soft_rng {n : Int} {fs : List (List Int)} {t : TopoT} (h : TopoS n fs t) {ks : List P3} {sh : List Int} (hs : sharpP t.es ks = some sh) : ∀ i (h1 : i < t.es.length) (h2 : i < sh.length), sh[i] = 0 → (0 ≤ t.es[i].f ∧ t.es[i].f < fs.length) ∧ (0 ≤ t.es[i].g ∧ t.es[i].g < fs.length) := fun i h1 h2 h0 => by
  have hge := sharpK_ge hs i (by simpa using h1) h2
  rw [List.getElem_map, h0] at hge
  have he := List.getElem_mem h1
  obtain ⟨e1, e2, e3⟩ := edge_one h.walk h.edges _ he
  have hb : ¬ ((t.es[i].f == -1) != (t.es[i].g == -1)) = true := fun hb => by
    unfold base0 at hge; rw [if_pos hb] at hge; omega
  have h3 : ¬ t.es[i].f = -1 ∧ ¬ t.es[i].g = -1 := by
    by_cases c1 : t.es[i].f = -1 <;> by_cases c2 : t.es[i].g = -1
    · exact absurd ⟨c1, c2⟩ e3
    · exfalso; apply hb; simp [c1, c2]
    · exfalso; apply hb; simp [c1, c2]
    · exact ⟨c1, c2⟩
  have hr := edge_is (n := n) h.edges he
  have g1 := face_rng h.walk.long t.es[i].a t.es[i].b
  have g2 := face_rng h.walk.long t.es[i].b t.es[i].a
  have f1 : t.es[i].f = faceOf (waysL 0 fs) t.es[i].a t.es[i].b := congrArg Ed.f hr
  have f2 : t.es[i].g = faceOf (waysL 0 fs) t.es[i].b t.es[i].a := congrArg Ed.g hr
  omega
theorem sharpK_i64 {es : List Ed} : ∀ {ks : List P3} {l m : List Int}, (∀ p ∈ ks, I3 p) → (∀ s ∈ l, i64B s) → sharpK es l ks = some m → ∀ s ∈ m, i64B s
  | [], l, m, hk, hl, h => by simp only [sharpK, Option.some.injEq] at h; subst h; exact hl
  | k :: r, l, m, hk, hl, h => by
    rw [sharpK] at h
    split at h
    · refine sharpK_i64 (fun p hp => hk p (List.mem_cons_of_mem _ hp)) (fun s hs => ?_) h
      rcases List.mem_or_eq_of_mem_set hs with hs | rfl
      · exact hl s hs
      · have h1 := (hk k (by simp)).2.2
        have h2 : i64B (l.getD (eix es k.x k.y) 0) := by
          rw [List.getD_eq_getElem?_getD]
          cases hq : l[eix es k.x k.y]? with
          | none => simp [i64B]
          | some q => exact hl q (List.mem_of_getElem? hq)
        unfold i64B at *; omega
    · cases h
theorem sharpP_i64 {es : List Ed} {ks : List P3} {sh : List Int} (hk : ∀ p ∈ ks, I3 p) (h : sharpP es ks = some sh) : ∀ s ∈ sh, i64B s := sharpK_i64 hk (fun s hs => by
  obtain ⟨e, _, rfl⟩ := List.mem_map.1 hs
  unfold base0 i64B; split <;> omega) h
theorem sharpP_len {es : List Ed} {ks : List P3} {sh : List Int} (h : sharpP es ks = some sh) : sh.length = es.length := by
  have := sharpK_len h; simpa using this
theorem corn_eix {n : Int} {fs : List (List Int)} {t : TopoT} (h : TopoS n fs t) : ∀ x ∈ fs, ∀ j, j < x.length → eix t.es (x.getD j 0) (x.getD ((j + 1) % x.length) 0) < t.es.length := fun x hx j hj => by
  obtain ⟨f, hf, rfl⟩ := List.getElem_of_mem hx
  obtain ⟨c, hw⟩ := side_way h.walk f j hf hj
  obtain ⟨hl, _⟩ := eix_spec h.walk h.edges hw
  exact hl
/-- No vertices, no faces. -/
theorem empty_all {n : Int} {fs : List (List Int)} {t : TopoT} (h : TopoS n fs t) : (n = 0 → fs = [] ∧ t.es = []) ∧ (0 < n → 0 < fs.length ∧ 0 < t.es.length) := by
  constructor
  · intro h0
    have hno : ∀ w ∈ waysL 0 fs, False := fun w hw => by have := h.walk.inr w hw; omega
    constructor
    · cases fs with
      | nil => rfl
      | cons x r =>
        have := h.walk.long x (by simp)
        exact absurd (cw_mem (f := 0) (x := x) (by omega) (i := 0) (by omega)) (fun hm => hno _ ((mem_waysL _ 0 _).2 ⟨0, by simp, hm⟩))
    · cases he : t.es with
      | nil => rfl
      | cons e r =>
        obtain ⟨w, hw, _⟩ := edge_way h (e := e) (by rw [he]; simp)
        exact absurd (hno w hw) id
  · intro h0
    obtain ⟨w, hw, _⟩ := h.walk.all 0 (by omega) h0
    obtain ⟨j, hj, _⟩ := (mem_waysL fs 0 w).1 hw
    obtain ⟨hl, _⟩ := eix_spec h.walk h.edges hw
    exact ⟨by omega, by omega⟩
end Go.Proofs.Ytpdnaceggpdleab
