/- The program's own range. -/
import Derived.Test.YtngkimcnolmmoaaSlab2
namespace Go.Proofs.Ytngkimcnolmmoaa
open Go.RowKit
set_option linter.unusedVariables false
set_option linter.unusedSimpArgs false
theorem spI_small {f s l h : Int} (bf : -65536 ≤ f ∧ f ≤ 65536) (bs : -32768 ≤ s ∧ s ≤ 32768) (bl : -131072 ≤ l ∧ l ≤ 131072) (bh : -131072 ≤ h ∧ h ≤ 131072) : (smallF (spI f s l h) ∧ RightF (spI f s l h)) ∧ smallF (spO f s l h) ∧ RightF (spO f s l h) := by
  obtain ⟨i1, i2⟩ := in_small bf bs bl bh
  unfold spI spO
  by_cases hs : s = 0
  · rw [if_pos hs, if_pos hs]
    split
    · exact ⟨⟨by unfold smallF; simp, .inl (by decide)⟩, by unfold smallF; simp, .inr ⟨rfl, rfl⟩⟩
    · exact ⟨⟨by unfold smallF; simp, .inr ⟨rfl, rfl⟩⟩, by unfold smallF; simp, .inl (by decide)⟩
  · rw [if_neg hs, if_neg hs]
    exact ⟨⟨i1, .inl (inF_d hs)⟩, i2, .inl (outF_d hs)⟩
theorem span_any (f s l h : Int) (bf : -65536 ≤ f ∧ f ≤ 65536) (bs : -32768 ≤ s ∧ s ≤ 32768) (bl : -131072 ≤ l ∧ l ≤ 131072) (bh : -131072 ≤ h ∧ h ≤ 131072) : Gives Try.prog 22 #[.agg #[.int .i64 f, .int .i64 s, .int .i64 l, .int .i64 h]] (.tuple #[.agg #[.int .i64 (spI f s l h).n, .int .i64 (spI f s l h).d], .agg #[.int .i64 (spO f s l h).n, .int .i64 (spO f s l h).d]]) := by
  unfold spI spO inF outF
  by_cases hs : s = 0
  · subst hs
    rw [if_pos rfl, if_pos rfl]
    by_cases q1 : l ≤ f
    · by_cases q2 : f ≤ h
      · rw [if_pos ⟨q1, q2⟩, if_pos ⟨q1, q2⟩]
        exact span_zero f l h 0 1 1 0 (still_yes f 0 l h q1 q2)
      · rw [if_neg (by omega), if_neg (by omega)]
        exact span_zero f l h 1 0 0 1 (still_nob f 0 l h q1 (by omega))
    · rw [if_neg (by omega), if_neg (by omega)]
      exact span_zero f l h 1 0 0 1 (still_noa f 0 l h (by omega))
  · rw [if_neg hs, if_neg hs]
    by_cases hp : 0 < s
    · rw [if_pos hp, if_pos hp]
      exact span_pos f s l h bf bs bl bh hp
    · rw [if_neg hp, if_neg hp]
      exact span_neg f s l h bf bs bl bh (by omega)
/-- The program's range so far. -/
def stC (o d l h : P3) : Nat → Fr × Fr
  | 0 => (⟨0, 1⟩, ⟨1, 0⟩)
  | k + 1 => (if ltF (stC o d l h k).1 (spI (pick3 o k) (pick3 d k) (pick3 l k) (pick3 h k)) then spI (pick3 o k) (pick3 d k) (pick3 l k) (pick3 h k) else (stC o d l h k).1,
     if ltF (spO (pick3 o k) (pick3 d k) (pick3 l k) (pick3 h k)) (stC o d l h k).2 then spO (pick3 o k) (pick3 d k) (pick3 l k) (pick3 h k) else (stC o d l h k).2)
def rangeC (o d l h : P3) : Option (Fr × Fr) := lastR (some (stC o d l h 3))
theorem slRange_out (o d l h : P3) (b : Gives Try.prog 21 #[.agg #[.int .i64 o.x, .int .i64 o.y, .int .i64 o.z], .agg #[.int .i64 d.x, .int .i64 d.y, .int .i64 d.z], .agg #[.int .i64 l.x, .int .i64 l.y, .int .i64 l.z, .int .i64 h.x, .int .i64 h.y, .int .i64 h.z]] (.bool false)) : Gives Try.prog 11 #[.agg #[.int .i64 o.x, .int .i64 o.y, .int .i64 o.z], .agg #[.int .i64 d.x, .int .i64 d.y, .int .i64 d.z], .agg #[.int .i64 l.x, .int .i64 l.y, .int .i64 l.z, .int .i64 h.x, .int .i64 h.y, .int .i64 h.z]] (.tuple #[.agg #[.int .i64 0, .int .i64 0], .agg #[.int .i64 0, .int .i64 0], .bool false, .int .i64 21]) := by
  refine Gives.mk fun w => ?_
  go_enter Try.func11, Try.ntmps11
  go_wp2_with (first | (go_at_call 21; first | ((with_reducible refine (b.at_ _).mono ?_); rintro e w' ⟨rfl, xg, rfl⟩)))
  refine bodyPost_ret (v := .tuple #[.agg #[.int .i64 0, .int .i64 0], .agg #[.int .i64 0, .int .i64 0], .bool false, .int .i64 21]) (by simp [results, Try.results11, go_sem]) rfl ⟨rfl, (by repeat (first | with_reducible exact Below.refl _ _ | with_reducible refine bel_then ?_ _ | with_reducible refine bel_grow ?_ _ | with_reducible refine bel_alloc ?_ _ | with_reducible refine bel_drew ?_ | with_reducible refine bel_set ?_ (by simp) _ | with_reducible refine bel_setRow ?_ (by first | omega | (simp; done) | (refine Nat.le_trans ?_ (top_le _ _); simp; done) | (refine Nat.le_succ_of_le (Nat.le_trans ?_ (top_le _ _)); simp; done)) _))⟩
theorem ne_far {W : World} {g : Nat} (h : g < W.heap.size) (o : Obj) (x : More) (n : Nat) : g ≠ (grow (W.alloc o) x).heap.size + n := by
  have k := top_le (W.alloc o) x
  rw [World.size_alloc] at k
  rw [grow_size]
  omega
theorem ne_far0 {W : World} {g : Nat} (h : g < W.heap.size) (o : Obj) (x : More) : g ≠ (grow (W.alloc o) x).heap.size := ne_far h o x 0
theorem infoF : (Try.prog.info? 28).map (·.size) = some 2 := by kernel_rfl
theorem Blk.set0 {W : World} {g : Nat} {t : TypeId} {x y u : Value} (h : Blk W g t #[x, y]) : Blk (W.setCell ⟨g, 0, none⟩ u) g t #[u, y] := h.set 0 u
theorem Blk.set1 {W : World} {g : Nat} {t : TypeId} {x y u : Value} (h : Blk W g t #[x, y]) : Blk (W.setCell ⟨g, 1, none⟩ u) g t #[x, u] := h.set 1 u
theorem Blk.far_ {W : World} {g : Nat} {t : TypeId} {cs : Array Value} {b : Nat} (hb : b ≠ g) (i : Nat) (u : Value) (h : Blk W g t cs) : Blk (W.setCell ⟨b, i, none⟩ u) g t cs := h.far i u hb
theorem Blk.farRow_ {W : World} {g : Nat} {t : TypeId} {cs : Array Value} {b : Nat} (hb : b ≠ g) (cs' : Array Value) (h : Blk W g t cs) : Blk (W.setRow b cs') g t cs := h.farRow cs' hb
/-! a block with a fraction in it: loads and stores of the whole -/
theorem wpF_load {ops : Array Oper} {rest : List Oper} {op : Oper} {a : Act} {w : World} {Q : Exit → Act → World → Prop} (hgd : op.guard = none) (x : Operand) (ho : op.op = .load 28 x)
    (g : Nat) (hx : a.eval x = .pointer (some ⟨g, 0, none⟩)) (m n : Int) (hb : Blk w g 28 #[.int .i64 m, .int .i64 n])
    (h : wpList Try.prog ops Q rest (a.put op.dst (.agg #[.int .i64 m, .int .i64 n])) w) : wpList Try.prog ops Q (op :: rest) a w :=
  wpList_load_row hgd 28 x ho g hx 28 _ (0, 0) _ hb Try.underlying28 rfl infoF h
theorem wpF_store {ops : Array Oper} {rest : List Oper} {op : Oper} {a : Act} {w : World} {Q : Exit → Act → World → Prop} (hgd : op.guard = none) (x y : Operand) (ho : op.op = .store 28 x y)
    (g : Nat) (hx : a.eval x = .pointer (some ⟨g, 0, none⟩)) (m n : Int) (hy : a.eval y = .agg #[.int .i64 m, .int .i64 n]) (m' n' : Int) (hb : Blk w g 28 #[.int .i64 m', .int .i64 n'])
    (h : wpList Try.prog ops Q rest (a.put op.dst undef) (w.setRow g #[.int .i64 m, .int .i64 n])) : wpList Try.prog ops Q (op :: rest) a w :=
  wpList_store_row hgd 28 x y ho g _ hx hy 28 _ hb infoF rfl (by simp [Value.oneCell']) h
theorem idx0 (a : Act) (o : Oper) (x i : Operand) (w : World) (ho : o.op = .index 55 x i) (c0 c1 c2 c3 c4 c5 c6 c7 c8 c9 c10 c11 : Int) (hx : a.eval x = .agg #[.int .i64 c0, .int .i64 c1, .int .i64 c2, .int .i64 c3, .int .i64 c4, .int .i64 c5, .int .i64 c6, .int .i64 c7, .int .i64 c8, .int .i64 c9, .int .i64 c10, .int .i64 c11]) (hi : a.eval i = .int .i64 0) : (execOp a.eval o).run Try.prog w = .ok (.value (.agg #[.int .i64 c0, .int .i64 c1, .int .i64 c2, .int .i64 c3])) w := by
  unfold execOp
  rw [ho]
  simp only [hx, hi]
  kernel_rfl
theorem idx1 (a : Act) (o : Oper) (x i : Operand) (w : World) (ho : o.op = .index 55 x i) (c0 c1 c2 c3 c4 c5 c6 c7 c8 c9 c10 c11 : Int) (hx : a.eval x = .agg #[.int .i64 c0, .int .i64 c1, .int .i64 c2, .int .i64 c3, .int .i64 c4, .int .i64 c5, .int .i64 c6, .int .i64 c7, .int .i64 c8, .int .i64 c9, .int .i64 c10, .int .i64 c11]) (hi : a.eval i = .int .i64 1) : (execOp a.eval o).run Try.prog w = .ok (.value (.agg #[.int .i64 c4, .int .i64 c5, .int .i64 c6, .int .i64 c7])) w := by
  unfold execOp
  rw [ho]
  simp only [hx, hi]
  kernel_rfl
theorem idx2 (a : Act) (o : Oper) (x i : Operand) (w : World) (ho : o.op = .index 55 x i) (c0 c1 c2 c3 c4 c5 c6 c7 c8 c9 c10 c11 : Int) (hx : a.eval x = .agg #[.int .i64 c0, .int .i64 c1, .int .i64 c2, .int .i64 c3, .int .i64 c4, .int .i64 c5, .int .i64 c6, .int .i64 c7, .int .i64 c8, .int .i64 c9, .int .i64 c10, .int .i64 c11]) (hi : a.eval i = .int .i64 2) : (execOp a.eval o).run Try.prog w = .ok (.value (.agg #[.int .i64 c8, .int .i64 c9, .int .i64 c10, .int .i64 c11])) w := by
  unfold execOp
  rw [ho]
  simp only [hx, hi]
  kernel_rfl
/-- What is answered of a range. -/
def rv (r : Option (Fr × Fr)) : Fr × Fr × Bool :=
  match r with
  | none => (⟨0, 0⟩, ⟨0, 0⟩, false)
  | some (a, b) => (a, b, true)
set_option maxRecDepth 100000 in
set_option maxHeartbeats 20000000 in
theorem slRange_core (o d l h : P3) (ho : Sp o) (hd : Dr d) (hl : InP 131072 l) (hh : InP 131072 h) (b : Gives Try.prog 21 #[.agg #[.int .i64 o.x, .int .i64 o.y, .int .i64 o.z], .agg #[.int .i64 d.x, .int .i64 d.y, .int .i64 d.z], .agg #[.int .i64 l.x, .int .i64 l.y, .int .i64 l.z, .int .i64 h.x, .int .i64 h.y, .int .i64 h.z]] (.bool true)) (R1 R2 : Fr) (R3 : Bool) (hR : rv (rangeC o d l h) = (R1, R2, R3)) : Gives Try.prog 11 #[.agg #[.int .i64 o.x, .int .i64 o.y, .int .i64 o.z], .agg #[.int .i64 d.x, .int .i64 d.y, .int .i64 d.z], .agg #[.int .i64 l.x, .int .i64 l.y, .int .i64 l.z, .int .i64 h.x, .int .i64 h.y, .int .i64 h.z]] (.tuple #[.agg #[.int .i64 R1.n, .int .i64 R1.d], .agg #[.int .i64 R2.n, .int .i64 R2.d], .bool R3, .int .i64 0]) := by
  refine Gives.mk fun w => ?_
  have HR := Lib.hid hR
  clear hR
  go_enter Try.func11, Try.ntmps11
  go_wp2_with (first | (go_at_call 21; first | ((with_reducible refine (b.at_ _).mono ?_); rintro e w' ⟨rfl, xg, rfl⟩)))
  have g0 : w.heap.size + 1 + 1 + 1 + 1 + 1 ≤ (grow (((((w.alloc (.cells #[.int .i64 o.x, .int .i64 o.y, .int .i64 o.z] 23)).alloc (.cells #[.int .i64 d.x, .int .i64 d.y, .int .i64 d.z] 23)).alloc (.cells #[.int .i64 l.x, .int .i64 l.y, .int .i64 l.z, .int .i64 h.x, .int .i64 h.y, .int .i64 h.z] 25)).alloc (.cells #[.int .i64 0, .int .i64 0] 28)).alloc (.cells #[.int .i64 0, .int .i64 0] 28)) xg).heap.size := Nat.le_trans (Nat.le_of_eq (by simp)) (top_le _ _)
  have B1 : Blk ((((grow (((((w.alloc (.cells #[.int .i64 o.x, .int .i64 o.y, .int .i64 o.z] 23)).alloc (.cells #[.int .i64 d.x, .int .i64 d.y, .int .i64 d.z] 23)).alloc (.cells #[.int .i64 l.x, .int .i64 l.y, .int .i64 l.z, .int .i64 h.x, .int .i64 h.y, .int .i64 h.z] 25)).alloc (.cells #[.int .i64 0, .int .i64 0] 28)).alloc (.cells #[.int .i64 0, .int .i64 0] 28)) xg).alloc (.cells #[.int .i64 o.x, .int .i64 d.x, .int .i64 l.x, .int .i64 h.x, .int .i64 o.y, .int .i64 d.y, .int .i64 l.y, .int .i64 h.y, .int .i64 o.z, .int .i64 d.z, .int .i64 l.z, .int .i64 h.z] 55)).alloc (.cells #[.int .i64 0, .int .i64 1] 28)).alloc (.cells #[.int .i64 1, .int .i64 0] 28)) ((grow (((((w.alloc (.cells #[.int .i64 o.x, .int .i64 o.y, .int .i64 o.z] 23)).alloc (.cells #[.int .i64 d.x, .int .i64 d.y, .int .i64 d.z] 23)).alloc (.cells #[.int .i64 l.x, .int .i64 l.y, .int .i64 l.z, .int .i64 h.x, .int .i64 h.y, .int .i64 h.z] 25)).alloc (.cells #[.int .i64 0, .int .i64 0] 28)).alloc (.cells #[.int .i64 0, .int .i64 0] 28)) xg).heap.size + 1) 28 #[.int .i64 0, .int .i64 1] := Blk.alloc (Blk.new _ _ _ _ (by simp)) _
  have B2 : Blk ((((grow (((((w.alloc (.cells #[.int .i64 o.x, .int .i64 o.y, .int .i64 o.z] 23)).alloc (.cells #[.int .i64 d.x, .int .i64 d.y, .int .i64 d.z] 23)).alloc (.cells #[.int .i64 l.x, .int .i64 l.y, .int .i64 l.z, .int .i64 h.x, .int .i64 h.y, .int .i64 h.z] 25)).alloc (.cells #[.int .i64 0, .int .i64 0] 28)).alloc (.cells #[.int .i64 0, .int .i64 0] 28)) xg).alloc (.cells #[.int .i64 o.x, .int .i64 d.x, .int .i64 l.x, .int .i64 h.x, .int .i64 o.y, .int .i64 d.y, .int .i64 l.y, .int .i64 h.y, .int .i64 o.z, .int .i64 d.z, .int .i64 l.z, .int .i64 h.z] 55)).alloc (.cells #[.int .i64 0, .int .i64 1] 28)).alloc (.cells #[.int .i64 1, .int .i64 0] 28)) ((grow (((((w.alloc (.cells #[.int .i64 o.x, .int .i64 o.y, .int .i64 o.z] 23)).alloc (.cells #[.int .i64 d.x, .int .i64 d.y, .int .i64 d.z] 23)).alloc (.cells #[.int .i64 l.x, .int .i64 l.y, .int .i64 l.z, .int .i64 h.x, .int .i64 h.y, .int .i64 h.z] 25)).alloc (.cells #[.int .i64 0, .int .i64 0] 28)).alloc (.cells #[.int .i64 0, .int .i64 0] 28)) xg).heap.size + 1 + 1) 28 #[.int .i64 1, .int .i64 0] := Blk.new _ _ _ _ (by simp)
  have B3 : Blk ((((grow (((((w.alloc (.cells #[.int .i64 o.x, .int .i64 o.y, .int .i64 o.z] 23)).alloc (.cells #[.int .i64 d.x, .int .i64 d.y, .int .i64 d.z] 23)).alloc (.cells #[.int .i64 l.x, .int .i64 l.y, .int .i64 l.z, .int .i64 h.x, .int .i64 h.y, .int .i64 h.z] 25)).alloc (.cells #[.int .i64 0, .int .i64 0] 28)).alloc (.cells #[.int .i64 0, .int .i64 0] 28)) xg).alloc (.cells #[.int .i64 o.x, .int .i64 d.x, .int .i64 l.x, .int .i64 h.x, .int .i64 o.y, .int .i64 d.y, .int .i64 l.y, .int .i64 h.y, .int .i64 o.z, .int .i64 d.z, .int .i64 l.z, .int .i64 h.z] 55)).alloc (.cells #[.int .i64 0, .int .i64 1] 28)).alloc (.cells #[.int .i64 1, .int .i64 0] 28)) (w.heap.size + 1 + 1 + 1) 28 #[.int .i64 0, .int .i64 0] := Blk.alloc (Blk.alloc (Blk.alloc (Blk.grow (Blk.alloc (Blk.new _ _ _ _ (by simp)) _) _) _) _) _
  have B4 : Blk ((((grow (((((w.alloc (.cells #[.int .i64 o.x, .int .i64 o.y, .int .i64 o.z] 23)).alloc (.cells #[.int .i64 d.x, .int .i64 d.y, .int .i64 d.z] 23)).alloc (.cells #[.int .i64 l.x, .int .i64 l.y, .int .i64 l.z, .int .i64 h.x, .int .i64 h.y, .int .i64 h.z] 25)).alloc (.cells #[.int .i64 0, .int .i64 0] 28)).alloc (.cells #[.int .i64 0, .int .i64 0] 28)) xg).alloc (.cells #[.int .i64 o.x, .int .i64 d.x, .int .i64 l.x, .int .i64 h.x, .int .i64 o.y, .int .i64 d.y, .int .i64 l.y, .int .i64 h.y, .int .i64 o.z, .int .i64 d.z, .int .i64 l.z, .int .i64 h.z] 55)).alloc (.cells #[.int .i64 0, .int .i64 1] 28)).alloc (.cells #[.int .i64 1, .int .i64 0] 28)) (w.heap.size + 1 + 1 + 1 + 1) 28 #[.int .i64 0, .int .i64 0] := Blk.alloc (Blk.alloc (Blk.alloc (Blk.grow (Blk.new _ _ _ _ (by simp)) _) _) _) _
  have HB : Below w.heap.size w ((((grow (((((w.alloc (.cells #[.int .i64 o.x, .int .i64 o.y, .int .i64 o.z] 23)).alloc (.cells #[.int .i64 d.x, .int .i64 d.y, .int .i64 d.z] 23)).alloc (.cells #[.int .i64 l.x, .int .i64 l.y, .int .i64 l.z, .int .i64 h.x, .int .i64 h.y, .int .i64 h.z] 25)).alloc (.cells #[.int .i64 0, .int .i64 0] 28)).alloc (.cells #[.int .i64 0, .int .i64 0] 28)) xg).alloc (.cells #[.int .i64 o.x, .int .i64 d.x, .int .i64 l.x, .int .i64 h.x, .int .i64 o.y, .int .i64 d.y, .int .i64 l.y, .int .i64 h.y, .int .i64 o.z, .int .i64 d.z, .int .i64 l.z, .int .i64 h.z] 55)).alloc (.cells #[.int .i64 0, .int .i64 1] 28)).alloc (.cells #[.int .i64 1, .int .i64 0] 28)) := (by repeat (first | with_reducible exact Below.refl _ _ | with_reducible refine bel_then ?_ _ | with_reducible refine bel_grow ?_ _ | with_reducible refine bel_alloc ?_ _ | with_reducible refine bel_drew ?_ | with_reducible refine bel_set ?_ (by simp) _ | with_reducible refine bel_setRow ?_ (by first | omega | (simp; done) | (refine Nat.le_trans ?_ (top_le _ _); simp; done) | (refine Nat.le_succ_of_le (Nat.le_trans ?_ (top_le _ _)); simp; done)) _))
  generalize (grow (((((w.alloc (.cells #[.int .i64 o.x, .int .i64 o.y, .int .i64 o.z] 23)).alloc (.cells #[.int .i64 d.x, .int .i64 d.y, .int .i64 d.z] 23)).alloc (.cells #[.int .i64 l.x, .int .i64 l.y, .int .i64 l.z, .int .i64 h.x, .int .i64 h.y, .int .i64 h.z] 25)).alloc (.cells #[.int .i64 0, .int .i64 0] 28)).alloc (.cells #[.int .i64 0, .int .i64 0] 28)) xg).heap.size = G at *
  generalize ((((grow (((((w.alloc (.cells #[.int .i64 o.x, .int .i64 o.y, .int .i64 o.z] 23)).alloc (.cells #[.int .i64 d.x, .int .i64 d.y, .int .i64 d.z] 23)).alloc (.cells #[.int .i64 l.x, .int .i64 l.y, .int .i64 l.z, .int .i64 h.x, .int .i64 h.y, .int .i64 h.z] 25)).alloc (.cells #[.int .i64 0, .int .i64 0] 28)).alloc (.cells #[.int .i64 0, .int .i64 0] 28)) xg).alloc (.cells #[.int .i64 o.x, .int .i64 d.x, .int .i64 l.x, .int .i64 h.x, .int .i64 o.y, .int .i64 d.y, .int .i64 l.y, .int .i64 h.y, .int .i64 o.z, .int .i64 d.z, .int .i64 l.z, .int .i64 h.z] 55)).alloc (.cells #[.int .i64 0, .int .i64 1] 28)).alloc (.cells #[.int .i64 1, .int .i64 0] 28)) = W at *
  clear xg
  have hne : G + 1 ≠ G + 1 + 1 := by omega
  have hr1 : w.heap.size ≤ G + 1 := by omega
  have hr2 : w.heap.size ≤ G + 1 + 1 := by omega
  have hr3 : w.heap.size + 1 + 1 + 1 ≠ G + 1 := by omega
  have hr4 : w.heap.size + 1 + 1 + 1 + 1 ≠ G + 1 := by omega
  have hr5 : w.heap.size + 1 + 1 + 1 ≠ G + 1 + 1 := by omega
  have hr6 : w.heap.size + 1 + 1 + 1 + 1 ≠ G + 1 + 1 := by omega
  generalize G + 1 + 1 = g2 at *
  generalize G + 1 = g1 at *
  go_loopw [61] (fun i wr => ∃ (k : Nat) (v : Int) (a b : Fr), i = .int .i64 v ∧ v = (k : Int) ∧ k ≤ 3 ∧ Hid (stC o d l h k = (a, b)) ∧ ((smallF a ∧ RightF a) ∧ smallF b ∧ RightF b) ∧ (Blk wr g1 28 #[.int .i64 a.n, .int .i64 a.d] ∧ Blk wr g2 28 #[.int .i64 b.n, .int .i64 b.d] ∧ Blk wr (w.heap.size + 1 + 1 + 1) 28 #[.int .i64 0, .int .i64 0] ∧ Blk wr (w.heap.size + 1 + 1 + 1 + 1) 28 #[.int .i64 0, .int .i64 0]) ∧ Below w.heap.size w wr) (fun i _ => (3 - intOf i).toNat)
  case atStart => exact ⟨0, 0, ⟨0, 1⟩, ⟨1, 0⟩, rfl, rfl, by omega, Lib.hid rfl, ⟨⟨by unfold smallF; simp, .inl (by decide)⟩, by unfold smallF; simp, .inr ⟨rfl, rfl⟩⟩, ⟨B1, B2, B3, B4⟩, HB⟩
  case round =>
    clear B1 B2 B3 B4 HB
    obtain ⟨k, v, a, b, rfl, hv, hk, hst, ⟨⟨sa, ra⟩, sb', rb⟩, ⟨hb1, hb2, hb3, hb4⟩, hbel⟩ := hrel
    have hk4 : (k = 0 ∧ v = 0) ∨ (k = 1 ∧ v = 1) ∨ (k = 2 ∧ v = 2) ∨ (k = 3 ∧ v = 3) := by omega
    clear hv hk
    rcases hk4 with ⟨rfl, rfl⟩ | ⟨rfl, rfl⟩ | ⟨rfl, rfl⟩ | ⟨rfl, rfl⟩
    · obtain ⟨⟨is_, ir⟩, us, ur⟩ := spI_small (f := o.x) (s := d.x) (l := l.x) (h := h.x) ho.1 hd.1 hl.1 hh.1
      have sp := span_any (o.x) (d.x) (l.x) (h.x) ho.1 hd.1 hl.1 hh.1
      have hnext : stC o d l h 1 = (if ltF a (spI (o.x) (d.x) (l.x) (h.x)) then spI (o.x) (d.x) (l.x) (h.x) else a, if ltF (spO (o.x) (d.x) (l.x) (h.x)) b then spO (o.x) (d.x) (l.x) (h.x) else b) := by
        show (if ltF (stC o d l h 0).1 _ then _ else (stC o d l h 0).1, if ltF _ (stC o d l h 0).2 then _ else (stC o d l h 0).2) = _
        rw [hst.out]; rfl
      generalize spI (o.x) (d.x) (l.x) (h.x) = I at *
      generalize spO (o.x) (d.x) (l.x) (h.x) = O at *
      have ab1 := above_any I a (smallF_in is_) (smallF_in sa) ir ra
      have ab2 := above_any b O (smallF_in sb') (smallF_in us) rb ur
      replace hnext := Lib.hid hnext
      clear hst HR
      go_upto_region 9 with (first | (go_at_call 22; first | ((with_reducible refine (sp.at_ _).mono ?_); rintro e w' ⟨rfl, xg, rfl⟩)) | (refine wpList_val rfl _ _ (idx0 _ _ _ _ _ rfl _ _ _ _ _ _ _ _ _ _ _ _ rfl rfl) ?_))
      have C1 : Blk (((grow (wr.alloc (.cells #[.int .i64 o.x, .int .i64 d.x, .int .i64 l.x, .int .i64 h.x] 54)) xg).alloc (.cells #[.int .i64 I.n, .int .i64 I.d] 28)).alloc (.cells #[.int .i64 O.n, .int .i64 O.d] 28)) g1 28 #[.int .i64 a.n, .int .i64 a.d] := (by repeat (first | with_reducible exact hb1 | with_reducible exact hb2 | with_reducible exact hb3 | with_reducible exact hb4 | with_reducible exact Blk.new _ _ _ _ rfl | (with_reducible refine Blk.new _ _ _ _ ?_; simp; done) | with_reducible refine Blk.alloc ?_ _ | with_reducible refine Blk.grow ?_ _ | with_reducible apply Blk.setRow | with_reducible apply Blk.set0 | with_reducible apply Blk.set1 | (with_reducible refine Blk.far_ ?_ _ _ ?_; (first | exact hne | exact Ne.symm hne | exact ne_far hb1.lt _ _ _ | exact ne_far0 hb1.lt _ _ | exact ne_far hb2.lt _ _ _ | exact ne_far0 hb2.lt _ _ | exact ne_far hb3.lt _ _ _ | exact ne_far hb4.lt _ _ _ | omega)) | (with_reducible refine Blk.farRow_ ?_ _ ?_; (first | exact hne | exact Ne.symm hne | exact ne_far hb1.lt _ _ _ | exact ne_far0 hb1.lt _ _ | exact ne_far hb2.lt _ _ _ | exact ne_far0 hb2.lt _ _ | exact ne_far hb3.lt _ _ _ | exact ne_far hb4.lt _ _ _ | omega))))
      have C2 : Blk (((grow (wr.alloc (.cells #[.int .i64 o.x, .int .i64 d.x, .int .i64 l.x, .int .i64 h.x] 54)) xg).alloc (.cells #[.int .i64 I.n, .int .i64 I.d] 28)).alloc (.cells #[.int .i64 O.n, .int .i64 O.d] 28)) g2 28 #[.int .i64 b.n, .int .i64 b.d] := (by repeat (first | with_reducible exact hb1 | with_reducible exact hb2 | with_reducible exact hb3 | with_reducible exact hb4 | with_reducible exact Blk.new _ _ _ _ rfl | (with_reducible refine Blk.new _ _ _ _ ?_; simp; done) | with_reducible refine Blk.alloc ?_ _ | with_reducible refine Blk.grow ?_ _ | with_reducible apply Blk.setRow | with_reducible apply Blk.set0 | with_reducible apply Blk.set1 | (with_reducible refine Blk.far_ ?_ _ _ ?_; (first | exact hne | exact Ne.symm hne | exact ne_far hb1.lt _ _ _ | exact ne_far0 hb1.lt _ _ | exact ne_far hb2.lt _ _ _ | exact ne_far0 hb2.lt _ _ | exact ne_far hb3.lt _ _ _ | exact ne_far hb4.lt _ _ _ | omega)) | (with_reducible refine Blk.farRow_ ?_ _ ?_; (first | exact hne | exact Ne.symm hne | exact ne_far hb1.lt _ _ _ | exact ne_far0 hb1.lt _ _ | exact ne_far hb2.lt _ _ _ | exact ne_far0 hb2.lt _ _ | exact ne_far hb3.lt _ _ _ | exact ne_far hb4.lt _ _ _ | omega))))
      have C3 : Blk (((grow (wr.alloc (.cells #[.int .i64 o.x, .int .i64 d.x, .int .i64 l.x, .int .i64 h.x] 54)) xg).alloc (.cells #[.int .i64 I.n, .int .i64 I.d] 28)).alloc (.cells #[.int .i64 O.n, .int .i64 O.d] 28)) (w.heap.size + 1 + 1 + 1) 28 #[.int .i64 0, .int .i64 0] := (by repeat (first | with_reducible exact hb1 | with_reducible exact hb2 | with_reducible exact hb3 | with_reducible exact hb4 | with_reducible exact Blk.new _ _ _ _ rfl | (with_reducible refine Blk.new _ _ _ _ ?_; simp; done) | with_reducible refine Blk.alloc ?_ _ | with_reducible refine Blk.grow ?_ _ | with_reducible apply Blk.setRow | with_reducible apply Blk.set0 | with_reducible apply Blk.set1 | (with_reducible refine Blk.far_ ?_ _ _ ?_; (first | exact hne | exact Ne.symm hne | exact ne_far hb1.lt _ _ _ | exact ne_far0 hb1.lt _ _ | exact ne_far hb2.lt _ _ _ | exact ne_far0 hb2.lt _ _ | exact ne_far hb3.lt _ _ _ | exact ne_far hb4.lt _ _ _ | omega)) | (with_reducible refine Blk.farRow_ ?_ _ ?_; (first | exact hne | exact Ne.symm hne | exact ne_far hb1.lt _ _ _ | exact ne_far0 hb1.lt _ _ | exact ne_far hb2.lt _ _ _ | exact ne_far0 hb2.lt _ _ | exact ne_far hb3.lt _ _ _ | exact ne_far hb4.lt _ _ _ | omega))))
      have C4 : Blk (((grow (wr.alloc (.cells #[.int .i64 o.x, .int .i64 d.x, .int .i64 l.x, .int .i64 h.x] 54)) xg).alloc (.cells #[.int .i64 I.n, .int .i64 I.d] 28)).alloc (.cells #[.int .i64 O.n, .int .i64 O.d] 28)) (w.heap.size + 1 + 1 + 1 + 1) 28 #[.int .i64 0, .int .i64 0] := (by repeat (first | with_reducible exact hb1 | with_reducible exact hb2 | with_reducible exact hb3 | with_reducible exact hb4 | with_reducible exact Blk.new _ _ _ _ rfl | (with_reducible refine Blk.new _ _ _ _ ?_; simp; done) | with_reducible refine Blk.alloc ?_ _ | with_reducible refine Blk.grow ?_ _ | with_reducible apply Blk.setRow | with_reducible apply Blk.set0 | with_reducible apply Blk.set1 | (with_reducible refine Blk.far_ ?_ _ _ ?_; (first | exact hne | exact Ne.symm hne | exact ne_far hb1.lt _ _ _ | exact ne_far0 hb1.lt _ _ | exact ne_far hb2.lt _ _ _ | exact ne_far0 hb2.lt _ _ | exact ne_far hb3.lt _ _ _ | exact ne_far hb4.lt _ _ _ | omega)) | (with_reducible refine Blk.farRow_ ?_ _ ?_; (first | exact hne | exact Ne.symm hne | exact ne_far hb1.lt _ _ _ | exact ne_far0 hb1.lt _ _ | exact ne_far hb2.lt _ _ _ | exact ne_far0 hb2.lt _ _ | exact ne_far hb3.lt _ _ _ | exact ne_far hb4.lt _ _ _ | omega))))
      have C5 : Blk (((grow (wr.alloc (.cells #[.int .i64 o.x, .int .i64 d.x, .int .i64 l.x, .int .i64 h.x] 54)) xg).alloc (.cells #[.int .i64 I.n, .int .i64 I.d] 28)).alloc (.cells #[.int .i64 O.n, .int .i64 O.d] 28)) ((grow (wr.alloc (.cells #[.int .i64 o.x, .int .i64 d.x, .int .i64 l.x, .int .i64 h.x] 54)) xg).heap.size) 28 #[.int .i64 I.n, .int .i64 I.d] := (by repeat (first | with_reducible exact hb1 | with_reducible exact hb2 | with_reducible exact hb3 | with_reducible exact hb4 | with_reducible exact Blk.new _ _ _ _ rfl | (with_reducible refine Blk.new _ _ _ _ ?_; simp; done) | with_reducible refine Blk.alloc ?_ _ | with_reducible refine Blk.grow ?_ _ | with_reducible apply Blk.setRow | with_reducible apply Blk.set0 | with_reducible apply Blk.set1 | (with_reducible refine Blk.far_ ?_ _ _ ?_; (first | exact hne | exact Ne.symm hne | exact ne_far hb1.lt _ _ _ | exact ne_far0 hb1.lt _ _ | exact ne_far hb2.lt _ _ _ | exact ne_far0 hb2.lt _ _ | exact ne_far hb3.lt _ _ _ | exact ne_far hb4.lt _ _ _ | omega)) | (with_reducible refine Blk.farRow_ ?_ _ ?_; (first | exact hne | exact Ne.symm hne | exact ne_far hb1.lt _ _ _ | exact ne_far0 hb1.lt _ _ | exact ne_far hb2.lt _ _ _ | exact ne_far0 hb2.lt _ _ | exact ne_far hb3.lt _ _ _ | exact ne_far hb4.lt _ _ _ | omega))))
      have C6 : Blk (((grow (wr.alloc (.cells #[.int .i64 o.x, .int .i64 d.x, .int .i64 l.x, .int .i64 h.x] 54)) xg).alloc (.cells #[.int .i64 I.n, .int .i64 I.d] 28)).alloc (.cells #[.int .i64 O.n, .int .i64 O.d] 28)) ((grow (wr.alloc (.cells #[.int .i64 o.x, .int .i64 d.x, .int .i64 l.x, .int .i64 h.x] 54)) xg).heap.size + 1) 28 #[.int .i64 O.n, .int .i64 O.d] := (by repeat (first | with_reducible exact hb1 | with_reducible exact hb2 | with_reducible exact hb3 | with_reducible exact hb4 | with_reducible exact Blk.new _ _ _ _ rfl | (with_reducible refine Blk.new _ _ _ _ ?_; simp; done) | with_reducible refine Blk.alloc ?_ _ | with_reducible refine Blk.grow ?_ _ | with_reducible apply Blk.setRow | with_reducible apply Blk.set0 | with_reducible apply Blk.set1 | (with_reducible refine Blk.far_ ?_ _ _ ?_; (first | exact hne | exact Ne.symm hne | exact ne_far hb1.lt _ _ _ | exact ne_far0 hb1.lt _ _ | exact ne_far hb2.lt _ _ _ | exact ne_far0 hb2.lt _ _ | exact ne_far hb3.lt _ _ _ | exact ne_far hb4.lt _ _ _ | omega)) | (with_reducible refine Blk.farRow_ ?_ _ ?_; (first | exact hne | exact Ne.symm hne | exact ne_far hb1.lt _ _ _ | exact ne_far0 hb1.lt _ _ | exact ne_far hb2.lt _ _ _ | exact ne_far0 hb2.lt _ _ | exact ne_far hb3.lt _ _ _ | exact ne_far hb4.lt _ _ _ | omega))))
      have CB : Below w.heap.size w (((grow (wr.alloc (.cells #[.int .i64 o.x, .int .i64 d.x, .int .i64 l.x, .int .i64 h.x] 54)) xg).alloc (.cells #[.int .i64 I.n, .int .i64 I.d] 28)).alloc (.cells #[.int .i64 O.n, .int .i64 O.d] 28)) := (by repeat (first | with_reducible exact hbel | with_reducible refine bel_then ?_ _ | with_reducible refine bel_grow ?_ _ | with_reducible refine bel_alloc ?_ _ | with_reducible refine bel_drew ?_ | with_reducible refine bel_set ?_ (by simp) _ | with_reducible refine bel_setRow ?_ (by first | omega | (simp; done) | (refine Nat.le_trans ?_ (top_le _ _); simp; done) | (refine Nat.le_succ_of_le (Nat.le_trans ?_ (top_le _ _)); simp; done)) _))
      have n1 : (grow (wr.alloc (.cells #[.int .i64 o.x, .int .i64 d.x, .int .i64 l.x, .int .i64 h.x] 54)) xg).heap.size ≠ g1 := Ne.symm (ne_far0 hb1.lt _ _)
      have n2 : (grow (wr.alloc (.cells #[.int .i64 o.x, .int .i64 d.x, .int .i64 l.x, .int .i64 h.x] 54)) xg).heap.size ≠ g2 := Ne.symm (ne_far0 hb2.lt _ _)
      have n3 : (grow (wr.alloc (.cells #[.int .i64 o.x, .int .i64 d.x, .int .i64 l.x, .int .i64 h.x] 54)) xg).heap.size + 1 ≠ g1 := Ne.symm (ne_far hb1.lt _ _ 1)
      have n4 : (grow (wr.alloc (.cells #[.int .i64 o.x, .int .i64 d.x, .int .i64 l.x, .int .i64 h.x] 54)) xg).heap.size + 1 ≠ g2 := Ne.symm (ne_far hb2.lt _ _ 1)
      generalize (grow (wr.alloc (.cells #[.int .i64 o.x, .int .i64 d.x, .int .i64 l.x, .int .i64 h.x] 54)) xg).heap.size + 1 = go_ at *
      generalize (grow (wr.alloc (.cells #[.int .i64 o.x, .int .i64 d.x, .int .i64 l.x, .int .i64 h.x] 54)) xg).heap.size = gi at *
      generalize (((grow (wr.alloc (.cells #[.int .i64 o.x, .int .i64 d.x, .int .i64 l.x, .int .i64 h.x] 54)) xg).alloc (.cells #[.int .i64 I.n, .int .i64 I.d] 28)).alloc (.cells #[.int .i64 O.n, .int .i64 O.d] 28)) = V at *
      clear hb1 hb2 hb3 hb4 hbel sp
      have l1 := C1.lt
      have l2 := C2.lt
      have l3 := C3.lt
      have l4 := C4.lt
      have l5 := C5.lt
      have l6 := C6.lt
      have f1 := C1.frozen
      have f2 := C2.frozen
      have c10 := C1.cell 0
      have c11 := C1.cell 1
      have c20 := C2.cell 0
      have c21 := C2.cell 1
      have c50 := C5.cell 0
      have c51 := C5.cell 1
      have c60 := C6.cell 0
      have c61 := C6.cell 1
      simp at c10 c11 c20 c21 c50 c51 c60 c61
      by_cases c1 : ltF a I = true
      · rw [c1] at ab1
        by_cases c2 : ltF O b = true
        · rw [c2] at ab2
          have next := Lib.hid (show stC o d l h 1 = (I, O) by rw [hnext.out, c1, c2]; rfl)
          clear hnext c1 c2
          have GOOD := Lib.hid (show (smallF I ∧ RightF I) ∧ smallF O ∧ RightF O from ⟨⟨is_, ir⟩, us, ur⟩)
          clear is_ ir us ur sa ra sb' rb
          go_wp2_with (first | (go_at_call 23; first | ((with_reducible refine (ab1.at_ _).mono ?_); rintro e w' ⟨rfl, xg, rfl⟩) | ((with_reducible refine (ab2.at_ _).mono ?_); rintro e w' ⟨rfl, xg, rfl⟩)) | (refine wpF_store rfl _ _ rfl _ rfl _ _ rfl ?xm ?xn ?hb ?hk; case hb => (repeat (first | with_reducible exact C1 | with_reducible exact C2 | with_reducible exact C3 | with_reducible exact C4 | with_reducible exact Blk.new _ _ _ _ rfl | (with_reducible refine Blk.new _ _ _ _ ?_; simp; done) | with_reducible refine Blk.alloc ?_ _ | with_reducible refine Blk.grow ?_ _ | with_reducible apply Blk.setRow | with_reducible apply Blk.set0 | with_reducible apply Blk.set1 | (with_reducible refine Blk.far_ ?_ _ _ ?_; (first | exact hne | exact Ne.symm hne | assumption | (refine Ne.symm ?_; assumption))) | (with_reducible refine Blk.farRow_ ?_ _ ?_; (first | exact hne | exact Ne.symm hne | assumption | (refine Ne.symm ?_; assumption)))); done)))
          go_roundw
          case rel => exact ⟨1, 1, I, O, by go_num, by omega, by omega, next, GOOD.out, ⟨(by repeat (first | with_reducible exact C1 | with_reducible exact C2 | with_reducible exact C3 | with_reducible exact C4 | with_reducible exact Blk.new _ _ _ _ rfl | (with_reducible refine Blk.new _ _ _ _ ?_; simp; done) | with_reducible refine Blk.alloc ?_ _ | with_reducible refine Blk.grow ?_ _ | with_reducible apply Blk.setRow | with_reducible apply Blk.set0 | with_reducible apply Blk.set1 | (with_reducible refine Blk.far_ ?_ _ _ ?_; (first | exact hne | exact Ne.symm hne | assumption | (refine Ne.symm ?_; assumption))) | (with_reducible refine Blk.farRow_ ?_ _ ?_; (first | exact hne | exact Ne.symm hne | assumption | (refine Ne.symm ?_; assumption))))), (by repeat (first | with_reducible exact C1 | with_reducible exact C2 | with_reducible exact C3 | with_reducible exact C4 | with_reducible exact Blk.new _ _ _ _ rfl | (with_reducible refine Blk.new _ _ _ _ ?_; simp; done) | with_reducible refine Blk.alloc ?_ _ | with_reducible refine Blk.grow ?_ _ | with_reducible apply Blk.setRow | with_reducible apply Blk.set0 | with_reducible apply Blk.set1 | (with_reducible refine Blk.far_ ?_ _ _ ?_; (first | exact hne | exact Ne.symm hne | assumption | (refine Ne.symm ?_; assumption))) | (with_reducible refine Blk.farRow_ ?_ _ ?_; (first | exact hne | exact Ne.symm hne | assumption | (refine Ne.symm ?_; assumption))))), (by repeat (first | with_reducible exact C1 | with_reducible exact C2 | with_reducible exact C3 | with_reducible exact C4 | with_reducible exact Blk.new _ _ _ _ rfl | (with_reducible refine Blk.new _ _ _ _ ?_; simp; done) | with_reducible refine Blk.alloc ?_ _ | with_reducible refine Blk.grow ?_ _ | with_reducible apply Blk.setRow | with_reducible apply Blk.set0 | with_reducible apply Blk.set1 | (with_reducible refine Blk.far_ ?_ _ _ ?_; (first | exact hne | exact Ne.symm hne | assumption | (refine Ne.symm ?_; assumption))) | (with_reducible refine Blk.farRow_ ?_ _ ?_; (first | exact hne | exact Ne.symm hne | assumption | (refine Ne.symm ?_; assumption))))), (by repeat (first | with_reducible exact C1 | with_reducible exact C2 | with_reducible exact C3 | with_reducible exact C4 | with_reducible exact Blk.new _ _ _ _ rfl | (with_reducible refine Blk.new _ _ _ _ ?_; simp; done) | with_reducible refine Blk.alloc ?_ _ | with_reducible refine Blk.grow ?_ _ | with_reducible apply Blk.setRow | with_reducible apply Blk.set0 | with_reducible apply Blk.set1 | (with_reducible refine Blk.far_ ?_ _ _ ?_; (first | exact hne | exact Ne.symm hne | assumption | (refine Ne.symm ?_; assumption))) | (with_reducible refine Blk.farRow_ ?_ _ ?_; (first | exact hne | exact Ne.symm hne | assumption | (refine Ne.symm ?_; assumption)))))⟩, (by repeat (first | with_reducible exact CB | with_reducible refine bel_then ?_ _ | with_reducible refine bel_grow ?_ _ | with_reducible refine bel_alloc ?_ _ | with_reducible refine bel_drew ?_ | with_reducible refine bel_set ?_ (by first | exact hr1 | exact hr2) _ | with_reducible refine bel_setRow ?_ (by first | exact hr1 | exact hr2 | omega | (simp; done) | (refine Nat.le_trans ?_ (top_le _ _); simp; done) | (refine Nat.le_succ_of_le (Nat.le_trans ?_ (top_le _ _)); simp; done)) _))⟩
          case measure => simp [intOf]
        · have c2 : ltF O b = false := by simpa using c2
          rw [c2] at ab2
          have next := Lib.hid (show stC o d l h 1 = (I, b) by rw [hnext.out, c1, c2]; rfl)
          clear hnext c1 c2
          have GOOD := Lib.hid (show (smallF I ∧ RightF I) ∧ smallF b ∧ RightF b from ⟨⟨is_, ir⟩, sb', rb⟩)
          clear is_ ir us ur sa ra sb' rb
          go_wp2_with (first | (go_at_call 23; first | ((with_reducible refine (ab1.at_ _).mono ?_); rintro e w' ⟨rfl, xg, rfl⟩) | ((with_reducible refine (ab2.at_ _).mono ?_); rintro e w' ⟨rfl, xg, rfl⟩)) | (refine wpF_store rfl _ _ rfl _ rfl _ _ rfl ?xm ?xn ?hb ?hk; case hb => (repeat (first | with_reducible exact C1 | with_reducible exact C2 | with_reducible exact C3 | with_reducible exact C4 | with_reducible exact Blk.new _ _ _ _ rfl | (with_reducible refine Blk.new _ _ _ _ ?_; simp; done) | with_reducible refine Blk.alloc ?_ _ | with_reducible refine Blk.grow ?_ _ | with_reducible apply Blk.setRow | with_reducible apply Blk.set0 | with_reducible apply Blk.set1 | (with_reducible refine Blk.far_ ?_ _ _ ?_; (first | exact hne | exact Ne.symm hne | assumption | (refine Ne.symm ?_; assumption))) | (with_reducible refine Blk.farRow_ ?_ _ ?_; (first | exact hne | exact Ne.symm hne | assumption | (refine Ne.symm ?_; assumption)))); done)))
          go_roundw
          case rel => exact ⟨1, 1, I, b, by go_num, by omega, by omega, next, GOOD.out, ⟨(by repeat (first | with_reducible exact C1 | with_reducible exact C2 | with_reducible exact C3 | with_reducible exact C4 | with_reducible exact Blk.new _ _ _ _ rfl | (with_reducible refine Blk.new _ _ _ _ ?_; simp; done) | with_reducible refine Blk.alloc ?_ _ | with_reducible refine Blk.grow ?_ _ | with_reducible apply Blk.setRow | with_reducible apply Blk.set0 | with_reducible apply Blk.set1 | (with_reducible refine Blk.far_ ?_ _ _ ?_; (first | exact hne | exact Ne.symm hne | assumption | (refine Ne.symm ?_; assumption))) | (with_reducible refine Blk.farRow_ ?_ _ ?_; (first | exact hne | exact Ne.symm hne | assumption | (refine Ne.symm ?_; assumption))))), (by repeat (first | with_reducible exact C1 | with_reducible exact C2 | with_reducible exact C3 | with_reducible exact C4 | with_reducible exact Blk.new _ _ _ _ rfl | (with_reducible refine Blk.new _ _ _ _ ?_; simp; done) | with_reducible refine Blk.alloc ?_ _ | with_reducible refine Blk.grow ?_ _ | with_reducible apply Blk.setRow | with_reducible apply Blk.set0 | with_reducible apply Blk.set1 | (with_reducible refine Blk.far_ ?_ _ _ ?_; (first | exact hne | exact Ne.symm hne | assumption | (refine Ne.symm ?_; assumption))) | (with_reducible refine Blk.farRow_ ?_ _ ?_; (first | exact hne | exact Ne.symm hne | assumption | (refine Ne.symm ?_; assumption))))), (by repeat (first | with_reducible exact C1 | with_reducible exact C2 | with_reducible exact C3 | with_reducible exact C4 | with_reducible exact Blk.new _ _ _ _ rfl | (with_reducible refine Blk.new _ _ _ _ ?_; simp; done) | with_reducible refine Blk.alloc ?_ _ | with_reducible refine Blk.grow ?_ _ | with_reducible apply Blk.setRow | with_reducible apply Blk.set0 | with_reducible apply Blk.set1 | (with_reducible refine Blk.far_ ?_ _ _ ?_; (first | exact hne | exact Ne.symm hne | assumption | (refine Ne.symm ?_; assumption))) | (with_reducible refine Blk.farRow_ ?_ _ ?_; (first | exact hne | exact Ne.symm hne | assumption | (refine Ne.symm ?_; assumption))))), (by repeat (first | with_reducible exact C1 | with_reducible exact C2 | with_reducible exact C3 | with_reducible exact C4 | with_reducible exact Blk.new _ _ _ _ rfl | (with_reducible refine Blk.new _ _ _ _ ?_; simp; done) | with_reducible refine Blk.alloc ?_ _ | with_reducible refine Blk.grow ?_ _ | with_reducible apply Blk.setRow | with_reducible apply Blk.set0 | with_reducible apply Blk.set1 | (with_reducible refine Blk.far_ ?_ _ _ ?_; (first | exact hne | exact Ne.symm hne | assumption | (refine Ne.symm ?_; assumption))) | (with_reducible refine Blk.farRow_ ?_ _ ?_; (first | exact hne | exact Ne.symm hne | assumption | (refine Ne.symm ?_; assumption)))))⟩, (by repeat (first | with_reducible exact CB | with_reducible refine bel_then ?_ _ | with_reducible refine bel_grow ?_ _ | with_reducible refine bel_alloc ?_ _ | with_reducible refine bel_drew ?_ | with_reducible refine bel_set ?_ (by first | exact hr1 | exact hr2) _ | with_reducible refine bel_setRow ?_ (by first | exact hr1 | exact hr2 | omega | (simp; done) | (refine Nat.le_trans ?_ (top_le _ _); simp; done) | (refine Nat.le_succ_of_le (Nat.le_trans ?_ (top_le _ _)); simp; done)) _))⟩
          case measure => simp [intOf]
      · have c1 : ltF a I = false := by simpa using c1
        rw [c1] at ab1
        by_cases c2 : ltF O b = true
        · rw [c2] at ab2
          have next := Lib.hid (show stC o d l h 1 = (a, O) by rw [hnext.out, c1, c2]; rfl)
          clear hnext c1 c2
          have GOOD := Lib.hid (show (smallF a ∧ RightF a) ∧ smallF O ∧ RightF O from ⟨⟨sa, ra⟩, us, ur⟩)
          clear is_ ir us ur sa ra sb' rb
          go_wp2_with (first | (go_at_call 23; first | ((with_reducible refine (ab1.at_ _).mono ?_); rintro e w' ⟨rfl, xg, rfl⟩) | ((with_reducible refine (ab2.at_ _).mono ?_); rintro e w' ⟨rfl, xg, rfl⟩)) | (refine wpF_store rfl _ _ rfl _ rfl _ _ rfl ?xm ?xn ?hb ?hk; case hb => (repeat (first | with_reducible exact C1 | with_reducible exact C2 | with_reducible exact C3 | with_reducible exact C4 | with_reducible exact Blk.new _ _ _ _ rfl | (with_reducible refine Blk.new _ _ _ _ ?_; simp; done) | with_reducible refine Blk.alloc ?_ _ | with_reducible refine Blk.grow ?_ _ | with_reducible apply Blk.setRow | with_reducible apply Blk.set0 | with_reducible apply Blk.set1 | (with_reducible refine Blk.far_ ?_ _ _ ?_; (first | exact hne | exact Ne.symm hne | assumption | (refine Ne.symm ?_; assumption))) | (with_reducible refine Blk.farRow_ ?_ _ ?_; (first | exact hne | exact Ne.symm hne | assumption | (refine Ne.symm ?_; assumption)))); done)))
          go_roundw
          case rel => exact ⟨1, 1, a, O, by go_num, by omega, by omega, next, GOOD.out, ⟨(by repeat (first | with_reducible exact C1 | with_reducible exact C2 | with_reducible exact C3 | with_reducible exact C4 | with_reducible exact Blk.new _ _ _ _ rfl | (with_reducible refine Blk.new _ _ _ _ ?_; simp; done) | with_reducible refine Blk.alloc ?_ _ | with_reducible refine Blk.grow ?_ _ | with_reducible apply Blk.setRow | with_reducible apply Blk.set0 | with_reducible apply Blk.set1 | (with_reducible refine Blk.far_ ?_ _ _ ?_; (first | exact hne | exact Ne.symm hne | assumption | (refine Ne.symm ?_; assumption))) | (with_reducible refine Blk.farRow_ ?_ _ ?_; (first | exact hne | exact Ne.symm hne | assumption | (refine Ne.symm ?_; assumption))))), (by repeat (first | with_reducible exact C1 | with_reducible exact C2 | with_reducible exact C3 | with_reducible exact C4 | with_reducible exact Blk.new _ _ _ _ rfl | (with_reducible refine Blk.new _ _ _ _ ?_; simp; done) | with_reducible refine Blk.alloc ?_ _ | with_reducible refine Blk.grow ?_ _ | with_reducible apply Blk.setRow | with_reducible apply Blk.set0 | with_reducible apply Blk.set1 | (with_reducible refine Blk.far_ ?_ _ _ ?_; (first | exact hne | exact Ne.symm hne | assumption | (refine Ne.symm ?_; assumption))) | (with_reducible refine Blk.farRow_ ?_ _ ?_; (first | exact hne | exact Ne.symm hne | assumption | (refine Ne.symm ?_; assumption))))), (by repeat (first | with_reducible exact C1 | with_reducible exact C2 | with_reducible exact C3 | with_reducible exact C4 | with_reducible exact Blk.new _ _ _ _ rfl | (with_reducible refine Blk.new _ _ _ _ ?_; simp; done) | with_reducible refine Blk.alloc ?_ _ | with_reducible refine Blk.grow ?_ _ | with_reducible apply Blk.setRow | with_reducible apply Blk.set0 | with_reducible apply Blk.set1 | (with_reducible refine Blk.far_ ?_ _ _ ?_; (first | exact hne | exact Ne.symm hne | assumption | (refine Ne.symm ?_; assumption))) | (with_reducible refine Blk.farRow_ ?_ _ ?_; (first | exact hne | exact Ne.symm hne | assumption | (refine Ne.symm ?_; assumption))))), (by repeat (first | with_reducible exact C1 | with_reducible exact C2 | with_reducible exact C3 | with_reducible exact C4 | with_reducible exact Blk.new _ _ _ _ rfl | (with_reducible refine Blk.new _ _ _ _ ?_; simp; done) | with_reducible refine Blk.alloc ?_ _ | with_reducible refine Blk.grow ?_ _ | with_reducible apply Blk.setRow | with_reducible apply Blk.set0 | with_reducible apply Blk.set1 | (with_reducible refine Blk.far_ ?_ _ _ ?_; (first | exact hne | exact Ne.symm hne | assumption | (refine Ne.symm ?_; assumption))) | (with_reducible refine Blk.farRow_ ?_ _ ?_; (first | exact hne | exact Ne.symm hne | assumption | (refine Ne.symm ?_; assumption)))))⟩, (by repeat (first | with_reducible exact CB | with_reducible refine bel_then ?_ _ | with_reducible refine bel_grow ?_ _ | with_reducible refine bel_alloc ?_ _ | with_reducible refine bel_drew ?_ | with_reducible refine bel_set ?_ (by first | exact hr1 | exact hr2) _ | with_reducible refine bel_setRow ?_ (by first | exact hr1 | exact hr2 | omega | (simp; done) | (refine Nat.le_trans ?_ (top_le _ _); simp; done) | (refine Nat.le_succ_of_le (Nat.le_trans ?_ (top_le _ _)); simp; done)) _))⟩
          case measure => simp [intOf]
        · have c2 : ltF O b = false := by simpa using c2
          rw [c2] at ab2
          have next := Lib.hid (show stC o d l h 1 = (a, b) by rw [hnext.out, c1, c2]; rfl)
          clear hnext c1 c2
          have GOOD := Lib.hid (show (smallF a ∧ RightF a) ∧ smallF b ∧ RightF b from ⟨⟨sa, ra⟩, sb', rb⟩)
          clear is_ ir us ur sa ra sb' rb
          go_wp2_with (first | (go_at_call 23; first | ((with_reducible refine (ab1.at_ _).mono ?_); rintro e w' ⟨rfl, xg, rfl⟩) | ((with_reducible refine (ab2.at_ _).mono ?_); rintro e w' ⟨rfl, xg, rfl⟩)) | (refine wpF_store rfl _ _ rfl _ rfl _ _ rfl ?xm ?xn ?hb ?hk; case hb => (repeat (first | with_reducible exact C1 | with_reducible exact C2 | with_reducible exact C3 | with_reducible exact C4 | with_reducible exact Blk.new _ _ _ _ rfl | (with_reducible refine Blk.new _ _ _ _ ?_; simp; done) | with_reducible refine Blk.alloc ?_ _ | with_reducible refine Blk.grow ?_ _ | with_reducible apply Blk.setRow | with_reducible apply Blk.set0 | with_reducible apply Blk.set1 | (with_reducible refine Blk.far_ ?_ _ _ ?_; (first | exact hne | exact Ne.symm hne | assumption | (refine Ne.symm ?_; assumption))) | (with_reducible refine Blk.farRow_ ?_ _ ?_; (first | exact hne | exact Ne.symm hne | assumption | (refine Ne.symm ?_; assumption)))); done)))
          go_roundw
          case rel => exact ⟨1, 1, a, b, by go_num, by omega, by omega, next, GOOD.out, ⟨(by repeat (first | with_reducible exact C1 | with_reducible exact C2 | with_reducible exact C3 | with_reducible exact C4 | with_reducible exact Blk.new _ _ _ _ rfl | (with_reducible refine Blk.new _ _ _ _ ?_; simp; done) | with_reducible refine Blk.alloc ?_ _ | with_reducible refine Blk.grow ?_ _ | with_reducible apply Blk.setRow | with_reducible apply Blk.set0 | with_reducible apply Blk.set1 | (with_reducible refine Blk.far_ ?_ _ _ ?_; (first | exact hne | exact Ne.symm hne | assumption | (refine Ne.symm ?_; assumption))) | (with_reducible refine Blk.farRow_ ?_ _ ?_; (first | exact hne | exact Ne.symm hne | assumption | (refine Ne.symm ?_; assumption))))), (by repeat (first | with_reducible exact C1 | with_reducible exact C2 | with_reducible exact C3 | with_reducible exact C4 | with_reducible exact Blk.new _ _ _ _ rfl | (with_reducible refine Blk.new _ _ _ _ ?_; simp; done) | with_reducible refine Blk.alloc ?_ _ | with_reducible refine Blk.grow ?_ _ | with_reducible apply Blk.setRow | with_reducible apply Blk.set0 | with_reducible apply Blk.set1 | (with_reducible refine Blk.far_ ?_ _ _ ?_; (first | exact hne | exact Ne.symm hne | assumption | (refine Ne.symm ?_; assumption))) | (with_reducible refine Blk.farRow_ ?_ _ ?_; (first | exact hne | exact Ne.symm hne | assumption | (refine Ne.symm ?_; assumption))))), (by repeat (first | with_reducible exact C1 | with_reducible exact C2 | with_reducible exact C3 | with_reducible exact C4 | with_reducible exact Blk.new _ _ _ _ rfl | (with_reducible refine Blk.new _ _ _ _ ?_; simp; done) | with_reducible refine Blk.alloc ?_ _ | with_reducible refine Blk.grow ?_ _ | with_reducible apply Blk.setRow | with_reducible apply Blk.set0 | with_reducible apply Blk.set1 | (with_reducible refine Blk.far_ ?_ _ _ ?_; (first | exact hne | exact Ne.symm hne | assumption | (refine Ne.symm ?_; assumption))) | (with_reducible refine Blk.farRow_ ?_ _ ?_; (first | exact hne | exact Ne.symm hne | assumption | (refine Ne.symm ?_; assumption))))), (by repeat (first | with_reducible exact C1 | with_reducible exact C2 | with_reducible exact C3 | with_reducible exact C4 | with_reducible exact Blk.new _ _ _ _ rfl | (with_reducible refine Blk.new _ _ _ _ ?_; simp; done) | with_reducible refine Blk.alloc ?_ _ | with_reducible refine Blk.grow ?_ _ | with_reducible apply Blk.setRow | with_reducible apply Blk.set0 | with_reducible apply Blk.set1 | (with_reducible refine Blk.far_ ?_ _ _ ?_; (first | exact hne | exact Ne.symm hne | assumption | (refine Ne.symm ?_; assumption))) | (with_reducible refine Blk.farRow_ ?_ _ ?_; (first | exact hne | exact Ne.symm hne | assumption | (refine Ne.symm ?_; assumption)))))⟩, (by repeat (first | with_reducible exact CB | with_reducible refine bel_then ?_ _ | with_reducible refine bel_grow ?_ _ | with_reducible refine bel_alloc ?_ _ | with_reducible refine bel_drew ?_ | with_reducible refine bel_set ?_ (by first | exact hr1 | exact hr2) _ | with_reducible refine bel_setRow ?_ (by first | exact hr1 | exact hr2 | omega | (simp; done) | (refine Nat.le_trans ?_ (top_le _ _); simp; done) | (refine Nat.le_succ_of_le (Nat.le_trans ?_ (top_le _ _)); simp; done)) _))⟩
          case measure => simp [intOf]
    · obtain ⟨⟨is_, ir⟩, us, ur⟩ := spI_small (f := o.y) (s := d.y) (l := l.y) (h := h.y) ho.2.1 hd.2.1 hl.2.1 hh.2.1
      have sp := span_any (o.y) (d.y) (l.y) (h.y) ho.2.1 hd.2.1 hl.2.1 hh.2.1
      have hnext : stC o d l h 2 = (if ltF a (spI (o.y) (d.y) (l.y) (h.y)) then spI (o.y) (d.y) (l.y) (h.y) else a, if ltF (spO (o.y) (d.y) (l.y) (h.y)) b then spO (o.y) (d.y) (l.y) (h.y) else b) := by
        show (if ltF (stC o d l h 1).1 _ then _ else (stC o d l h 1).1, if ltF _ (stC o d l h 1).2 then _ else (stC o d l h 1).2) = _
        rw [hst.out]; rfl
      generalize spI (o.y) (d.y) (l.y) (h.y) = I at *
      generalize spO (o.y) (d.y) (l.y) (h.y) = O at *
      have ab1 := above_any I a (smallF_in is_) (smallF_in sa) ir ra
      have ab2 := above_any b O (smallF_in sb') (smallF_in us) rb ur
      replace hnext := Lib.hid hnext
      clear hst HR
      go_upto_region 9 with (first | (go_at_call 22; first | ((with_reducible refine (sp.at_ _).mono ?_); rintro e w' ⟨rfl, xg, rfl⟩)) | (refine wpList_val rfl _ _ (idx1 _ _ _ _ _ rfl _ _ _ _ _ _ _ _ _ _ _ _ rfl rfl) ?_))
      have C1 : Blk (((grow (wr.alloc (.cells #[.int .i64 o.y, .int .i64 d.y, .int .i64 l.y, .int .i64 h.y] 54)) xg).alloc (.cells #[.int .i64 I.n, .int .i64 I.d] 28)).alloc (.cells #[.int .i64 O.n, .int .i64 O.d] 28)) g1 28 #[.int .i64 a.n, .int .i64 a.d] := (by repeat (first | with_reducible exact hb1 | with_reducible exact hb2 | with_reducible exact hb3 | with_reducible exact hb4 | with_reducible exact Blk.new _ _ _ _ rfl | (with_reducible refine Blk.new _ _ _ _ ?_; simp; done) | with_reducible refine Blk.alloc ?_ _ | with_reducible refine Blk.grow ?_ _ | with_reducible apply Blk.setRow | with_reducible apply Blk.set0 | with_reducible apply Blk.set1 | (with_reducible refine Blk.far_ ?_ _ _ ?_; (first | exact hne | exact Ne.symm hne | exact ne_far hb1.lt _ _ _ | exact ne_far0 hb1.lt _ _ | exact ne_far hb2.lt _ _ _ | exact ne_far0 hb2.lt _ _ | exact ne_far hb3.lt _ _ _ | exact ne_far hb4.lt _ _ _ | omega)) | (with_reducible refine Blk.farRow_ ?_ _ ?_; (first | exact hne | exact Ne.symm hne | exact ne_far hb1.lt _ _ _ | exact ne_far0 hb1.lt _ _ | exact ne_far hb2.lt _ _ _ | exact ne_far0 hb2.lt _ _ | exact ne_far hb3.lt _ _ _ | exact ne_far hb4.lt _ _ _ | omega))))
      have C2 : Blk (((grow (wr.alloc (.cells #[.int .i64 o.y, .int .i64 d.y, .int .i64 l.y, .int .i64 h.y] 54)) xg).alloc (.cells #[.int .i64 I.n, .int .i64 I.d] 28)).alloc (.cells #[.int .i64 O.n, .int .i64 O.d] 28)) g2 28 #[.int .i64 b.n, .int .i64 b.d] := (by repeat (first | with_reducible exact hb1 | with_reducible exact hb2 | with_reducible exact hb3 | with_reducible exact hb4 | with_reducible exact Blk.new _ _ _ _ rfl | (with_reducible refine Blk.new _ _ _ _ ?_; simp; done) | with_reducible refine Blk.alloc ?_ _ | with_reducible refine Blk.grow ?_ _ | with_reducible apply Blk.setRow | with_reducible apply Blk.set0 | with_reducible apply Blk.set1 | (with_reducible refine Blk.far_ ?_ _ _ ?_; (first | exact hne | exact Ne.symm hne | exact ne_far hb1.lt _ _ _ | exact ne_far0 hb1.lt _ _ | exact ne_far hb2.lt _ _ _ | exact ne_far0 hb2.lt _ _ | exact ne_far hb3.lt _ _ _ | exact ne_far hb4.lt _ _ _ | omega)) | (with_reducible refine Blk.farRow_ ?_ _ ?_; (first | exact hne | exact Ne.symm hne | exact ne_far hb1.lt _ _ _ | exact ne_far0 hb1.lt _ _ | exact ne_far hb2.lt _ _ _ | exact ne_far0 hb2.lt _ _ | exact ne_far hb3.lt _ _ _ | exact ne_far hb4.lt _ _ _ | omega))))
      have C3 : Blk (((grow (wr.alloc (.cells #[.int .i64 o.y, .int .i64 d.y, .int .i64 l.y, .int .i64 h.y] 54)) xg).alloc (.cells #[.int .i64 I.n, .int .i64 I.d] 28)).alloc (.cells #[.int .i64 O.n, .int .i64 O.d] 28)) (w.heap.size + 1 + 1 + 1) 28 #[.int .i64 0, .int .i64 0] := (by repeat (first | with_reducible exact hb1 | with_reducible exact hb2 | with_reducible exact hb3 | with_reducible exact hb4 | with_reducible exact Blk.new _ _ _ _ rfl | (with_reducible refine Blk.new _ _ _ _ ?_; simp; done) | with_reducible refine Blk.alloc ?_ _ | with_reducible refine Blk.grow ?_ _ | with_reducible apply Blk.setRow | with_reducible apply Blk.set0 | with_reducible apply Blk.set1 | (with_reducible refine Blk.far_ ?_ _ _ ?_; (first | exact hne | exact Ne.symm hne | exact ne_far hb1.lt _ _ _ | exact ne_far0 hb1.lt _ _ | exact ne_far hb2.lt _ _ _ | exact ne_far0 hb2.lt _ _ | exact ne_far hb3.lt _ _ _ | exact ne_far hb4.lt _ _ _ | omega)) | (with_reducible refine Blk.farRow_ ?_ _ ?_; (first | exact hne | exact Ne.symm hne | exact ne_far hb1.lt _ _ _ | exact ne_far0 hb1.lt _ _ | exact ne_far hb2.lt _ _ _ | exact ne_far0 hb2.lt _ _ | exact ne_far hb3.lt _ _ _ | exact ne_far hb4.lt _ _ _ | omega))))
      have C4 : Blk (((grow (wr.alloc (.cells #[.int .i64 o.y, .int .i64 d.y, .int .i64 l.y, .int .i64 h.y] 54)) xg).alloc (.cells #[.int .i64 I.n, .int .i64 I.d] 28)).alloc (.cells #[.int .i64 O.n, .int .i64 O.d] 28)) (w.heap.size + 1 + 1 + 1 + 1) 28 #[.int .i64 0, .int .i64 0] := (by repeat (first | with_reducible exact hb1 | with_reducible exact hb2 | with_reducible exact hb3 | with_reducible exact hb4 | with_reducible exact Blk.new _ _ _ _ rfl | (with_reducible refine Blk.new _ _ _ _ ?_; simp; done) | with_reducible refine Blk.alloc ?_ _ | with_reducible refine Blk.grow ?_ _ | with_reducible apply Blk.setRow | with_reducible apply Blk.set0 | with_reducible apply Blk.set1 | (with_reducible refine Blk.far_ ?_ _ _ ?_; (first | exact hne | exact Ne.symm hne | exact ne_far hb1.lt _ _ _ | exact ne_far0 hb1.lt _ _ | exact ne_far hb2.lt _ _ _ | exact ne_far0 hb2.lt _ _ | exact ne_far hb3.lt _ _ _ | exact ne_far hb4.lt _ _ _ | omega)) | (with_reducible refine Blk.farRow_ ?_ _ ?_; (first | exact hne | exact Ne.symm hne | exact ne_far hb1.lt _ _ _ | exact ne_far0 hb1.lt _ _ | exact ne_far hb2.lt _ _ _ | exact ne_far0 hb2.lt _ _ | exact ne_far hb3.lt _ _ _ | exact ne_far hb4.lt _ _ _ | omega))))
      have C5 : Blk (((grow (wr.alloc (.cells #[.int .i64 o.y, .int .i64 d.y, .int .i64 l.y, .int .i64 h.y] 54)) xg).alloc (.cells #[.int .i64 I.n, .int .i64 I.d] 28)).alloc (.cells #[.int .i64 O.n, .int .i64 O.d] 28)) ((grow (wr.alloc (.cells #[.int .i64 o.y, .int .i64 d.y, .int .i64 l.y, .int .i64 h.y] 54)) xg).heap.size) 28 #[.int .i64 I.n, .int .i64 I.d] := (by repeat (first | with_reducible exact hb1 | with_reducible exact hb2 | with_reducible exact hb3 | with_reducible exact hb4 | with_reducible exact Blk.new _ _ _ _ rfl | (with_reducible refine Blk.new _ _ _ _ ?_; simp; done) | with_reducible refine Blk.alloc ?_ _ | with_reducible refine Blk.grow ?_ _ | with_reducible apply Blk.setRow | with_reducible apply Blk.set0 | with_reducible apply Blk.set1 | (with_reducible refine Blk.far_ ?_ _ _ ?_; (first | exact hne | exact Ne.symm hne | exact ne_far hb1.lt _ _ _ | exact ne_far0 hb1.lt _ _ | exact ne_far hb2.lt _ _ _ | exact ne_far0 hb2.lt _ _ | exact ne_far hb3.lt _ _ _ | exact ne_far hb4.lt _ _ _ | omega)) | (with_reducible refine Blk.farRow_ ?_ _ ?_; (first | exact hne | exact Ne.symm hne | exact ne_far hb1.lt _ _ _ | exact ne_far0 hb1.lt _ _ | exact ne_far hb2.lt _ _ _ | exact ne_far0 hb2.lt _ _ | exact ne_far hb3.lt _ _ _ | exact ne_far hb4.lt _ _ _ | omega))))
      have C6 : Blk (((grow (wr.alloc (.cells #[.int .i64 o.y, .int .i64 d.y, .int .i64 l.y, .int .i64 h.y] 54)) xg).alloc (.cells #[.int .i64 I.n, .int .i64 I.d] 28)).alloc (.cells #[.int .i64 O.n, .int .i64 O.d] 28)) ((grow (wr.alloc (.cells #[.int .i64 o.y, .int .i64 d.y, .int .i64 l.y, .int .i64 h.y] 54)) xg).heap.size + 1) 28 #[.int .i64 O.n, .int .i64 O.d] := (by repeat (first | with_reducible exact hb1 | with_reducible exact hb2 | with_reducible exact hb3 | with_reducible exact hb4 | with_reducible exact Blk.new _ _ _ _ rfl | (with_reducible refine Blk.new _ _ _ _ ?_; simp; done) | with_reducible refine Blk.alloc ?_ _ | with_reducible refine Blk.grow ?_ _ | with_reducible apply Blk.setRow | with_reducible apply Blk.set0 | with_reducible apply Blk.set1 | (with_reducible refine Blk.far_ ?_ _ _ ?_; (first | exact hne | exact Ne.symm hne | exact ne_far hb1.lt _ _ _ | exact ne_far0 hb1.lt _ _ | exact ne_far hb2.lt _ _ _ | exact ne_far0 hb2.lt _ _ | exact ne_far hb3.lt _ _ _ | exact ne_far hb4.lt _ _ _ | omega)) | (with_reducible refine Blk.farRow_ ?_ _ ?_; (first | exact hne | exact Ne.symm hne | exact ne_far hb1.lt _ _ _ | exact ne_far0 hb1.lt _ _ | exact ne_far hb2.lt _ _ _ | exact ne_far0 hb2.lt _ _ | exact ne_far hb3.lt _ _ _ | exact ne_far hb4.lt _ _ _ | omega))))
      have CB : Below w.heap.size w (((grow (wr.alloc (.cells #[.int .i64 o.y, .int .i64 d.y, .int .i64 l.y, .int .i64 h.y] 54)) xg).alloc (.cells #[.int .i64 I.n, .int .i64 I.d] 28)).alloc (.cells #[.int .i64 O.n, .int .i64 O.d] 28)) := (by repeat (first | with_reducible exact hbel | with_reducible refine bel_then ?_ _ | with_reducible refine bel_grow ?_ _ | with_reducible refine bel_alloc ?_ _ | with_reducible refine bel_drew ?_ | with_reducible refine bel_set ?_ (by simp) _ | with_reducible refine bel_setRow ?_ (by first | omega | (simp; done) | (refine Nat.le_trans ?_ (top_le _ _); simp; done) | (refine Nat.le_succ_of_le (Nat.le_trans ?_ (top_le _ _)); simp; done)) _))
      have n1 : (grow (wr.alloc (.cells #[.int .i64 o.y, .int .i64 d.y, .int .i64 l.y, .int .i64 h.y] 54)) xg).heap.size ≠ g1 := Ne.symm (ne_far0 hb1.lt _ _)
      have n2 : (grow (wr.alloc (.cells #[.int .i64 o.y, .int .i64 d.y, .int .i64 l.y, .int .i64 h.y] 54)) xg).heap.size ≠ g2 := Ne.symm (ne_far0 hb2.lt _ _)
      have n3 : (grow (wr.alloc (.cells #[.int .i64 o.y, .int .i64 d.y, .int .i64 l.y, .int .i64 h.y] 54)) xg).heap.size + 1 ≠ g1 := Ne.symm (ne_far hb1.lt _ _ 1)
      have n4 : (grow (wr.alloc (.cells #[.int .i64 o.y, .int .i64 d.y, .int .i64 l.y, .int .i64 h.y] 54)) xg).heap.size + 1 ≠ g2 := Ne.symm (ne_far hb2.lt _ _ 1)
      generalize (grow (wr.alloc (.cells #[.int .i64 o.y, .int .i64 d.y, .int .i64 l.y, .int .i64 h.y] 54)) xg).heap.size + 1 = go_ at *
      generalize (grow (wr.alloc (.cells #[.int .i64 o.y, .int .i64 d.y, .int .i64 l.y, .int .i64 h.y] 54)) xg).heap.size = gi at *
      generalize (((grow (wr.alloc (.cells #[.int .i64 o.y, .int .i64 d.y, .int .i64 l.y, .int .i64 h.y] 54)) xg).alloc (.cells #[.int .i64 I.n, .int .i64 I.d] 28)).alloc (.cells #[.int .i64 O.n, .int .i64 O.d] 28)) = V at *
      clear hb1 hb2 hb3 hb4 hbel sp
      have l1 := C1.lt
      have l2 := C2.lt
      have l3 := C3.lt
      have l4 := C4.lt
      have l5 := C5.lt
      have l6 := C6.lt
      have f1 := C1.frozen
      have f2 := C2.frozen
      have c10 := C1.cell 0
      have c11 := C1.cell 1
      have c20 := C2.cell 0
      have c21 := C2.cell 1
      have c50 := C5.cell 0
      have c51 := C5.cell 1
      have c60 := C6.cell 0
      have c61 := C6.cell 1
      simp at c10 c11 c20 c21 c50 c51 c60 c61
      by_cases c1 : ltF a I = true
      · rw [c1] at ab1
        by_cases c2 : ltF O b = true
        · rw [c2] at ab2
          have next := Lib.hid (show stC o d l h 2 = (I, O) by rw [hnext.out, c1, c2]; rfl)
          clear hnext c1 c2
          have GOOD := Lib.hid (show (smallF I ∧ RightF I) ∧ smallF O ∧ RightF O from ⟨⟨is_, ir⟩, us, ur⟩)
          clear is_ ir us ur sa ra sb' rb
          go_wp2_with (first | (go_at_call 23; first | ((with_reducible refine (ab1.at_ _).mono ?_); rintro e w' ⟨rfl, xg, rfl⟩) | ((with_reducible refine (ab2.at_ _).mono ?_); rintro e w' ⟨rfl, xg, rfl⟩)) | (refine wpF_store rfl _ _ rfl _ rfl _ _ rfl ?xm ?xn ?hb ?hk; case hb => (repeat (first | with_reducible exact C1 | with_reducible exact C2 | with_reducible exact C3 | with_reducible exact C4 | with_reducible exact Blk.new _ _ _ _ rfl | (with_reducible refine Blk.new _ _ _ _ ?_; simp; done) | with_reducible refine Blk.alloc ?_ _ | with_reducible refine Blk.grow ?_ _ | with_reducible apply Blk.setRow | with_reducible apply Blk.set0 | with_reducible apply Blk.set1 | (with_reducible refine Blk.far_ ?_ _ _ ?_; (first | exact hne | exact Ne.symm hne | assumption | (refine Ne.symm ?_; assumption))) | (with_reducible refine Blk.farRow_ ?_ _ ?_; (first | exact hne | exact Ne.symm hne | assumption | (refine Ne.symm ?_; assumption)))); done)))
          go_roundw
          case rel => exact ⟨2, 2, I, O, by go_num, by omega, by omega, next, GOOD.out, ⟨(by repeat (first | with_reducible exact C1 | with_reducible exact C2 | with_reducible exact C3 | with_reducible exact C4 | with_reducible exact Blk.new _ _ _ _ rfl | (with_reducible refine Blk.new _ _ _ _ ?_; simp; done) | with_reducible refine Blk.alloc ?_ _ | with_reducible refine Blk.grow ?_ _ | with_reducible apply Blk.setRow | with_reducible apply Blk.set0 | with_reducible apply Blk.set1 | (with_reducible refine Blk.far_ ?_ _ _ ?_; (first | exact hne | exact Ne.symm hne | assumption | (refine Ne.symm ?_; assumption))) | (with_reducible refine Blk.farRow_ ?_ _ ?_; (first | exact hne | exact Ne.symm hne | assumption | (refine Ne.symm ?_; assumption))))), (by repeat (first | with_reducible exact C1 | with_reducible exact C2 | with_reducible exact C3 | with_reducible exact C4 | with_reducible exact Blk.new _ _ _ _ rfl | (with_reducible refine Blk.new _ _ _ _ ?_; simp; done) | with_reducible refine Blk.alloc ?_ _ | with_reducible refine Blk.grow ?_ _ | with_reducible apply Blk.setRow | with_reducible apply Blk.set0 | with_reducible apply Blk.set1 | (with_reducible refine Blk.far_ ?_ _ _ ?_; (first | exact hne | exact Ne.symm hne | assumption | (refine Ne.symm ?_; assumption))) | (with_reducible refine Blk.farRow_ ?_ _ ?_; (first | exact hne | exact Ne.symm hne | assumption | (refine Ne.symm ?_; assumption))))), (by repeat (first | with_reducible exact C1 | with_reducible exact C2 | with_reducible exact C3 | with_reducible exact C4 | with_reducible exact Blk.new _ _ _ _ rfl | (with_reducible refine Blk.new _ _ _ _ ?_; simp; done) | with_reducible refine Blk.alloc ?_ _ | with_reducible refine Blk.grow ?_ _ | with_reducible apply Blk.setRow | with_reducible apply Blk.set0 | with_reducible apply Blk.set1 | (with_reducible refine Blk.far_ ?_ _ _ ?_; (first | exact hne | exact Ne.symm hne | assumption | (refine Ne.symm ?_; assumption))) | (with_reducible refine Blk.farRow_ ?_ _ ?_; (first | exact hne | exact Ne.symm hne | assumption | (refine Ne.symm ?_; assumption))))), (by repeat (first | with_reducible exact C1 | with_reducible exact C2 | with_reducible exact C3 | with_reducible exact C4 | with_reducible exact Blk.new _ _ _ _ rfl | (with_reducible refine Blk.new _ _ _ _ ?_; simp; done) | with_reducible refine Blk.alloc ?_ _ | with_reducible refine Blk.grow ?_ _ | with_reducible apply Blk.setRow | with_reducible apply Blk.set0 | with_reducible apply Blk.set1 | (with_reducible refine Blk.far_ ?_ _ _ ?_; (first | exact hne | exact Ne.symm hne | assumption | (refine Ne.symm ?_; assumption))) | (with_reducible refine Blk.farRow_ ?_ _ ?_; (first | exact hne | exact Ne.symm hne | assumption | (refine Ne.symm ?_; assumption)))))⟩, (by repeat (first | with_reducible exact CB | with_reducible refine bel_then ?_ _ | with_reducible refine bel_grow ?_ _ | with_reducible refine bel_alloc ?_ _ | with_reducible refine bel_drew ?_ | with_reducible refine bel_set ?_ (by first | exact hr1 | exact hr2) _ | with_reducible refine bel_setRow ?_ (by first | exact hr1 | exact hr2 | omega | (simp; done) | (refine Nat.le_trans ?_ (top_le _ _); simp; done) | (refine Nat.le_succ_of_le (Nat.le_trans ?_ (top_le _ _)); simp; done)) _))⟩
          case measure => simp [intOf]
        · have c2 : ltF O b = false := by simpa using c2
          rw [c2] at ab2
          have next := Lib.hid (show stC o d l h 2 = (I, b) by rw [hnext.out, c1, c2]; rfl)
          clear hnext c1 c2
          have GOOD := Lib.hid (show (smallF I ∧ RightF I) ∧ smallF b ∧ RightF b from ⟨⟨is_, ir⟩, sb', rb⟩)
          clear is_ ir us ur sa ra sb' rb
          go_wp2_with (first | (go_at_call 23; first | ((with_reducible refine (ab1.at_ _).mono ?_); rintro e w' ⟨rfl, xg, rfl⟩) | ((with_reducible refine (ab2.at_ _).mono ?_); rintro e w' ⟨rfl, xg, rfl⟩)) | (refine wpF_store rfl _ _ rfl _ rfl _ _ rfl ?xm ?xn ?hb ?hk; case hb => (repeat (first | with_reducible exact C1 | with_reducible exact C2 | with_reducible exact C3 | with_reducible exact C4 | with_reducible exact Blk.new _ _ _ _ rfl | (with_reducible refine Blk.new _ _ _ _ ?_; simp; done) | with_reducible refine Blk.alloc ?_ _ | with_reducible refine Blk.grow ?_ _ | with_reducible apply Blk.setRow | with_reducible apply Blk.set0 | with_reducible apply Blk.set1 | (with_reducible refine Blk.far_ ?_ _ _ ?_; (first | exact hne | exact Ne.symm hne | assumption | (refine Ne.symm ?_; assumption))) | (with_reducible refine Blk.farRow_ ?_ _ ?_; (first | exact hne | exact Ne.symm hne | assumption | (refine Ne.symm ?_; assumption)))); done)))
          go_roundw
          case rel => exact ⟨2, 2, I, b, by go_num, by omega, by omega, next, GOOD.out, ⟨(by repeat (first | with_reducible exact C1 | with_reducible exact C2 | with_reducible exact C3 | with_reducible exact C4 | with_reducible exact Blk.new _ _ _ _ rfl | (with_reducible refine Blk.new _ _ _ _ ?_; simp; done) | with_reducible refine Blk.alloc ?_ _ | with_reducible refine Blk.grow ?_ _ | with_reducible apply Blk.setRow | with_reducible apply Blk.set0 | with_reducible apply Blk.set1 | (with_reducible refine Blk.far_ ?_ _ _ ?_; (first | exact hne | exact Ne.symm hne | assumption | (refine Ne.symm ?_; assumption))) | (with_reducible refine Blk.farRow_ ?_ _ ?_; (first | exact hne | exact Ne.symm hne | assumption | (refine Ne.symm ?_; assumption))))), (by repeat (first | with_reducible exact C1 | with_reducible exact C2 | with_reducible exact C3 | with_reducible exact C4 | with_reducible exact Blk.new _ _ _ _ rfl | (with_reducible refine Blk.new _ _ _ _ ?_; simp; done) | with_reducible refine Blk.alloc ?_ _ | with_reducible refine Blk.grow ?_ _ | with_reducible apply Blk.setRow | with_reducible apply Blk.set0 | with_reducible apply Blk.set1 | (with_reducible refine Blk.far_ ?_ _ _ ?_; (first | exact hne | exact Ne.symm hne | assumption | (refine Ne.symm ?_; assumption))) | (with_reducible refine Blk.farRow_ ?_ _ ?_; (first | exact hne | exact Ne.symm hne | assumption | (refine Ne.symm ?_; assumption))))), (by repeat (first | with_reducible exact C1 | with_reducible exact C2 | with_reducible exact C3 | with_reducible exact C4 | with_reducible exact Blk.new _ _ _ _ rfl | (with_reducible refine Blk.new _ _ _ _ ?_; simp; done) | with_reducible refine Blk.alloc ?_ _ | with_reducible refine Blk.grow ?_ _ | with_reducible apply Blk.setRow | with_reducible apply Blk.set0 | with_reducible apply Blk.set1 | (with_reducible refine Blk.far_ ?_ _ _ ?_; (first | exact hne | exact Ne.symm hne | assumption | (refine Ne.symm ?_; assumption))) | (with_reducible refine Blk.farRow_ ?_ _ ?_; (first | exact hne | exact Ne.symm hne | assumption | (refine Ne.symm ?_; assumption))))), (by repeat (first | with_reducible exact C1 | with_reducible exact C2 | with_reducible exact C3 | with_reducible exact C4 | with_reducible exact Blk.new _ _ _ _ rfl | (with_reducible refine Blk.new _ _ _ _ ?_; simp; done) | with_reducible refine Blk.alloc ?_ _ | with_reducible refine Blk.grow ?_ _ | with_reducible apply Blk.setRow | with_reducible apply Blk.set0 | with_reducible apply Blk.set1 | (with_reducible refine Blk.far_ ?_ _ _ ?_; (first | exact hne | exact Ne.symm hne | assumption | (refine Ne.symm ?_; assumption))) | (with_reducible refine Blk.farRow_ ?_ _ ?_; (first | exact hne | exact Ne.symm hne | assumption | (refine Ne.symm ?_; assumption)))))⟩, (by repeat (first | with_reducible exact CB | with_reducible refine bel_then ?_ _ | with_reducible refine bel_grow ?_ _ | with_reducible refine bel_alloc ?_ _ | with_reducible refine bel_drew ?_ | with_reducible refine bel_set ?_ (by first | exact hr1 | exact hr2) _ | with_reducible refine bel_setRow ?_ (by first | exact hr1 | exact hr2 | omega | (simp; done) | (refine Nat.le_trans ?_ (top_le _ _); simp; done) | (refine Nat.le_succ_of_le (Nat.le_trans ?_ (top_le _ _)); simp; done)) _))⟩
          case measure => simp [intOf]
      · have c1 : ltF a I = false := by simpa using c1
        rw [c1] at ab1
        by_cases c2 : ltF O b = true
        · rw [c2] at ab2
          have next := Lib.hid (show stC o d l h 2 = (a, O) by rw [hnext.out, c1, c2]; rfl)
          clear hnext c1 c2
          have GOOD := Lib.hid (show (smallF a ∧ RightF a) ∧ smallF O ∧ RightF O from ⟨⟨sa, ra⟩, us, ur⟩)
          clear is_ ir us ur sa ra sb' rb
          go_wp2_with (first | (go_at_call 23; first | ((with_reducible refine (ab1.at_ _).mono ?_); rintro e w' ⟨rfl, xg, rfl⟩) | ((with_reducible refine (ab2.at_ _).mono ?_); rintro e w' ⟨rfl, xg, rfl⟩)) | (refine wpF_store rfl _ _ rfl _ rfl _ _ rfl ?xm ?xn ?hb ?hk; case hb => (repeat (first | with_reducible exact C1 | with_reducible exact C2 | with_reducible exact C3 | with_reducible exact C4 | with_reducible exact Blk.new _ _ _ _ rfl | (with_reducible refine Blk.new _ _ _ _ ?_; simp; done) | with_reducible refine Blk.alloc ?_ _ | with_reducible refine Blk.grow ?_ _ | with_reducible apply Blk.setRow | with_reducible apply Blk.set0 | with_reducible apply Blk.set1 | (with_reducible refine Blk.far_ ?_ _ _ ?_; (first | exact hne | exact Ne.symm hne | assumption | (refine Ne.symm ?_; assumption))) | (with_reducible refine Blk.farRow_ ?_ _ ?_; (first | exact hne | exact Ne.symm hne | assumption | (refine Ne.symm ?_; assumption)))); done)))
          go_roundw
          case rel => exact ⟨2, 2, a, O, by go_num, by omega, by omega, next, GOOD.out, ⟨(by repeat (first | with_reducible exact C1 | with_reducible exact C2 | with_reducible exact C3 | with_reducible exact C4 | with_reducible exact Blk.new _ _ _ _ rfl | (with_reducible refine Blk.new _ _ _ _ ?_; simp; done) | with_reducible refine Blk.alloc ?_ _ | with_reducible refine Blk.grow ?_ _ | with_reducible apply Blk.setRow | with_reducible apply Blk.set0 | with_reducible apply Blk.set1 | (with_reducible refine Blk.far_ ?_ _ _ ?_; (first | exact hne | exact Ne.symm hne | assumption | (refine Ne.symm ?_; assumption))) | (with_reducible refine Blk.farRow_ ?_ _ ?_; (first | exact hne | exact Ne.symm hne | assumption | (refine Ne.symm ?_; assumption))))), (by repeat (first | with_reducible exact C1 | with_reducible exact C2 | with_reducible exact C3 | with_reducible exact C4 | with_reducible exact Blk.new _ _ _ _ rfl | (with_reducible refine Blk.new _ _ _ _ ?_; simp; done) | with_reducible refine Blk.alloc ?_ _ | with_reducible refine Blk.grow ?_ _ | with_reducible apply Blk.setRow | with_reducible apply Blk.set0 | with_reducible apply Blk.set1 | (with_reducible refine Blk.far_ ?_ _ _ ?_; (first | exact hne | exact Ne.symm hne | assumption | (refine Ne.symm ?_; assumption))) | (with_reducible refine Blk.farRow_ ?_ _ ?_; (first | exact hne | exact Ne.symm hne | assumption | (refine Ne.symm ?_; assumption))))), (by repeat (first | with_reducible exact C1 | with_reducible exact C2 | with_reducible exact C3 | with_reducible exact C4 | with_reducible exact Blk.new _ _ _ _ rfl | (with_reducible refine Blk.new _ _ _ _ ?_; simp; done) | with_reducible refine Blk.alloc ?_ _ | with_reducible refine Blk.grow ?_ _ | with_reducible apply Blk.setRow | with_reducible apply Blk.set0 | with_reducible apply Blk.set1 | (with_reducible refine Blk.far_ ?_ _ _ ?_; (first | exact hne | exact Ne.symm hne | assumption | (refine Ne.symm ?_; assumption))) | (with_reducible refine Blk.farRow_ ?_ _ ?_; (first | exact hne | exact Ne.symm hne | assumption | (refine Ne.symm ?_; assumption))))), (by repeat (first | with_reducible exact C1 | with_reducible exact C2 | with_reducible exact C3 | with_reducible exact C4 | with_reducible exact Blk.new _ _ _ _ rfl | (with_reducible refine Blk.new _ _ _ _ ?_; simp; done) | with_reducible refine Blk.alloc ?_ _ | with_reducible refine Blk.grow ?_ _ | with_reducible apply Blk.setRow | with_reducible apply Blk.set0 | with_reducible apply Blk.set1 | (with_reducible refine Blk.far_ ?_ _ _ ?_; (first | exact hne | exact Ne.symm hne | assumption | (refine Ne.symm ?_; assumption))) | (with_reducible refine Blk.farRow_ ?_ _ ?_; (first | exact hne | exact Ne.symm hne | assumption | (refine Ne.symm ?_; assumption)))))⟩, (by repeat (first | with_reducible exact CB | with_reducible refine bel_then ?_ _ | with_reducible refine bel_grow ?_ _ | with_reducible refine bel_alloc ?_ _ | with_reducible refine bel_drew ?_ | with_reducible refine bel_set ?_ (by first | exact hr1 | exact hr2) _ | with_reducible refine bel_setRow ?_ (by first | exact hr1 | exact hr2 | omega | (simp; done) | (refine Nat.le_trans ?_ (top_le _ _); simp; done) | (refine Nat.le_succ_of_le (Nat.le_trans ?_ (top_le _ _)); simp; done)) _))⟩
          case measure => simp [intOf]
        · have c2 : ltF O b = false := by simpa using c2
          rw [c2] at ab2
          have next := Lib.hid (show stC o d l h 2 = (a, b) by rw [hnext.out, c1, c2]; rfl)
          clear hnext c1 c2
          have GOOD := Lib.hid (show (smallF a ∧ RightF a) ∧ smallF b ∧ RightF b from ⟨⟨sa, ra⟩, sb', rb⟩)
          clear is_ ir us ur sa ra sb' rb
          go_wp2_with (first | (go_at_call 23; first | ((with_reducible refine (ab1.at_ _).mono ?_); rintro e w' ⟨rfl, xg, rfl⟩) | ((with_reducible refine (ab2.at_ _).mono ?_); rintro e w' ⟨rfl, xg, rfl⟩)) | (refine wpF_store rfl _ _ rfl _ rfl _ _ rfl ?xm ?xn ?hb ?hk; case hb => (repeat (first | with_reducible exact C1 | with_reducible exact C2 | with_reducible exact C3 | with_reducible exact C4 | with_reducible exact Blk.new _ _ _ _ rfl | (with_reducible refine Blk.new _ _ _ _ ?_; simp; done) | with_reducible refine Blk.alloc ?_ _ | with_reducible refine Blk.grow ?_ _ | with_reducible apply Blk.setRow | with_reducible apply Blk.set0 | with_reducible apply Blk.set1 | (with_reducible refine Blk.far_ ?_ _ _ ?_; (first | exact hne | exact Ne.symm hne | assumption | (refine Ne.symm ?_; assumption))) | (with_reducible refine Blk.farRow_ ?_ _ ?_; (first | exact hne | exact Ne.symm hne | assumption | (refine Ne.symm ?_; assumption)))); done)))
          go_roundw
          case rel => exact ⟨2, 2, a, b, by go_num, by omega, by omega, next, GOOD.out, ⟨(by repeat (first | with_reducible exact C1 | with_reducible exact C2 | with_reducible exact C3 | with_reducible exact C4 | with_reducible exact Blk.new _ _ _ _ rfl | (with_reducible refine Blk.new _ _ _ _ ?_; simp; done) | with_reducible refine Blk.alloc ?_ _ | with_reducible refine Blk.grow ?_ _ | with_reducible apply Blk.setRow | with_reducible apply Blk.set0 | with_reducible apply Blk.set1 | (with_reducible refine Blk.far_ ?_ _ _ ?_; (first | exact hne | exact Ne.symm hne | assumption | (refine Ne.symm ?_; assumption))) | (with_reducible refine Blk.farRow_ ?_ _ ?_; (first | exact hne | exact Ne.symm hne | assumption | (refine Ne.symm ?_; assumption))))), (by repeat (first | with_reducible exact C1 | with_reducible exact C2 | with_reducible exact C3 | with_reducible exact C4 | with_reducible exact Blk.new _ _ _ _ rfl | (with_reducible refine Blk.new _ _ _ _ ?_; simp; done) | with_reducible refine Blk.alloc ?_ _ | with_reducible refine Blk.grow ?_ _ | with_reducible apply Blk.setRow | with_reducible apply Blk.set0 | with_reducible apply Blk.set1 | (with_reducible refine Blk.far_ ?_ _ _ ?_; (first | exact hne | exact Ne.symm hne | assumption | (refine Ne.symm ?_; assumption))) | (with_reducible refine Blk.farRow_ ?_ _ ?_; (first | exact hne | exact Ne.symm hne | assumption | (refine Ne.symm ?_; assumption))))), (by repeat (first | with_reducible exact C1 | with_reducible exact C2 | with_reducible exact C3 | with_reducible exact C4 | with_reducible exact Blk.new _ _ _ _ rfl | (with_reducible refine Blk.new _ _ _ _ ?_; simp; done) | with_reducible refine Blk.alloc ?_ _ | with_reducible refine Blk.grow ?_ _ | with_reducible apply Blk.setRow | with_reducible apply Blk.set0 | with_reducible apply Blk.set1 | (with_reducible refine Blk.far_ ?_ _ _ ?_; (first | exact hne | exact Ne.symm hne | assumption | (refine Ne.symm ?_; assumption))) | (with_reducible refine Blk.farRow_ ?_ _ ?_; (first | exact hne | exact Ne.symm hne | assumption | (refine Ne.symm ?_; assumption))))), (by repeat (first | with_reducible exact C1 | with_reducible exact C2 | with_reducible exact C3 | with_reducible exact C4 | with_reducible exact Blk.new _ _ _ _ rfl | (with_reducible refine Blk.new _ _ _ _ ?_; simp; done) | with_reducible refine Blk.alloc ?_ _ | with_reducible refine Blk.grow ?_ _ | with_reducible apply Blk.setRow | with_reducible apply Blk.set0 | with_reducible apply Blk.set1 | (with_reducible refine Blk.far_ ?_ _ _ ?_; (first | exact hne | exact Ne.symm hne | assumption | (refine Ne.symm ?_; assumption))) | (with_reducible refine Blk.farRow_ ?_ _ ?_; (first | exact hne | exact Ne.symm hne | assumption | (refine Ne.symm ?_; assumption)))))⟩, (by repeat (first | with_reducible exact CB | with_reducible refine bel_then ?_ _ | with_reducible refine bel_grow ?_ _ | with_reducible refine bel_alloc ?_ _ | with_reducible refine bel_drew ?_ | with_reducible refine bel_set ?_ (by first | exact hr1 | exact hr2) _ | with_reducible refine bel_setRow ?_ (by first | exact hr1 | exact hr2 | omega | (simp; done) | (refine Nat.le_trans ?_ (top_le _ _); simp; done) | (refine Nat.le_succ_of_le (Nat.le_trans ?_ (top_le _ _)); simp; done)) _))⟩
          case measure => simp [intOf]
    · obtain ⟨⟨is_, ir⟩, us, ur⟩ := spI_small (f := o.z) (s := d.z) (l := l.z) (h := h.z) ho.2.2 hd.2.2 hl.2.2 hh.2.2
      have sp := span_any (o.z) (d.z) (l.z) (h.z) ho.2.2 hd.2.2 hl.2.2 hh.2.2
      have hnext : stC o d l h 3 = (if ltF a (spI (o.z) (d.z) (l.z) (h.z)) then spI (o.z) (d.z) (l.z) (h.z) else a, if ltF (spO (o.z) (d.z) (l.z) (h.z)) b then spO (o.z) (d.z) (l.z) (h.z) else b) := by
        show (if ltF (stC o d l h 2).1 _ then _ else (stC o d l h 2).1, if ltF _ (stC o d l h 2).2 then _ else (stC o d l h 2).2) = _
        rw [hst.out]; rfl
      generalize spI (o.z) (d.z) (l.z) (h.z) = I at *
      generalize spO (o.z) (d.z) (l.z) (h.z) = O at *
      have ab1 := above_any I a (smallF_in is_) (smallF_in sa) ir ra
      have ab2 := above_any b O (smallF_in sb') (smallF_in us) rb ur
      replace hnext := Lib.hid hnext
      clear hst HR
      go_upto_region 9 with (first | (go_at_call 22; first | ((with_reducible refine (sp.at_ _).mono ?_); rintro e w' ⟨rfl, xg, rfl⟩)) | (refine wpList_val rfl _ _ (idx2 _ _ _ _ _ rfl _ _ _ _ _ _ _ _ _ _ _ _ rfl rfl) ?_))
      have C1 : Blk (((grow (wr.alloc (.cells #[.int .i64 o.z, .int .i64 d.z, .int .i64 l.z, .int .i64 h.z] 54)) xg).alloc (.cells #[.int .i64 I.n, .int .i64 I.d] 28)).alloc (.cells #[.int .i64 O.n, .int .i64 O.d] 28)) g1 28 #[.int .i64 a.n, .int .i64 a.d] := (by repeat (first | with_reducible exact hb1 | with_reducible exact hb2 | with_reducible exact hb3 | with_reducible exact hb4 | with_reducible exact Blk.new _ _ _ _ rfl | (with_reducible refine Blk.new _ _ _ _ ?_; simp; done) | with_reducible refine Blk.alloc ?_ _ | with_reducible refine Blk.grow ?_ _ | with_reducible apply Blk.setRow | with_reducible apply Blk.set0 | with_reducible apply Blk.set1 | (with_reducible refine Blk.far_ ?_ _ _ ?_; (first | exact hne | exact Ne.symm hne | exact ne_far hb1.lt _ _ _ | exact ne_far0 hb1.lt _ _ | exact ne_far hb2.lt _ _ _ | exact ne_far0 hb2.lt _ _ | exact ne_far hb3.lt _ _ _ | exact ne_far hb4.lt _ _ _ | omega)) | (with_reducible refine Blk.farRow_ ?_ _ ?_; (first | exact hne | exact Ne.symm hne | exact ne_far hb1.lt _ _ _ | exact ne_far0 hb1.lt _ _ | exact ne_far hb2.lt _ _ _ | exact ne_far0 hb2.lt _ _ | exact ne_far hb3.lt _ _ _ | exact ne_far hb4.lt _ _ _ | omega))))
      have C2 : Blk (((grow (wr.alloc (.cells #[.int .i64 o.z, .int .i64 d.z, .int .i64 l.z, .int .i64 h.z] 54)) xg).alloc (.cells #[.int .i64 I.n, .int .i64 I.d] 28)).alloc (.cells #[.int .i64 O.n, .int .i64 O.d] 28)) g2 28 #[.int .i64 b.n, .int .i64 b.d] := (by repeat (first | with_reducible exact hb1 | with_reducible exact hb2 | with_reducible exact hb3 | with_reducible exact hb4 | with_reducible exact Blk.new _ _ _ _ rfl | (with_reducible refine Blk.new _ _ _ _ ?_; simp; done) | with_reducible refine Blk.alloc ?_ _ | with_reducible refine Blk.grow ?_ _ | with_reducible apply Blk.setRow | with_reducible apply Blk.set0 | with_reducible apply Blk.set1 | (with_reducible refine Blk.far_ ?_ _ _ ?_; (first | exact hne | exact Ne.symm hne | exact ne_far hb1.lt _ _ _ | exact ne_far0 hb1.lt _ _ | exact ne_far hb2.lt _ _ _ | exact ne_far0 hb2.lt _ _ | exact ne_far hb3.lt _ _ _ | exact ne_far hb4.lt _ _ _ | omega)) | (with_reducible refine Blk.farRow_ ?_ _ ?_; (first | exact hne | exact Ne.symm hne | exact ne_far hb1.lt _ _ _ | exact ne_far0 hb1.lt _ _ | exact ne_far hb2.lt _ _ _ | exact ne_far0 hb2.lt _ _ | exact ne_far hb3.lt _ _ _ | exact ne_far hb4.lt _ _ _ | omega))))
      have C3 : Blk (((grow (wr.alloc (.cells #[.int .i64 o.z, .int .i64 d.z, .int .i64 l.z, .int .i64 h.z] 54)) xg).alloc (.cells #[.int .i64 I.n, .int .i64 I.d] 28)).alloc (.cells #[.int .i64 O.n, .int .i64 O.d] 28)) (w.heap.size + 1 + 1 + 1) 28 #[.int .i64 0, .int .i64 0] := (by repeat (first | with_reducible exact hb1 | with_reducible exact hb2 | with_reducible exact hb3 | with_reducible exact hb4 | with_reducible exact Blk.new _ _ _ _ rfl | (with_reducible refine Blk.new _ _ _ _ ?_; simp; done) | with_reducible refine Blk.alloc ?_ _ | with_reducible refine Blk.grow ?_ _ | with_reducible apply Blk.setRow | with_reducible apply Blk.set0 | with_reducible apply Blk.set1 | (with_reducible refine Blk.far_ ?_ _ _ ?_; (first | exact hne | exact Ne.symm hne | exact ne_far hb1.lt _ _ _ | exact ne_far0 hb1.lt _ _ | exact ne_far hb2.lt _ _ _ | exact ne_far0 hb2.lt _ _ | exact ne_far hb3.lt _ _ _ | exact ne_far hb4.lt _ _ _ | omega)) | (with_reducible refine Blk.farRow_ ?_ _ ?_; (first | exact hne | exact Ne.symm hne | exact ne_far hb1.lt _ _ _ | exact ne_far0 hb1.lt _ _ | exact ne_far hb2.lt _ _ _ | exact ne_far0 hb2.lt _ _ | exact ne_far hb3.lt _ _ _ | exact ne_far hb4.lt _ _ _ | omega))))
      have C4 : Blk (((grow (wr.alloc (.cells #[.int .i64 o.z, .int .i64 d.z, .int .i64 l.z, .int .i64 h.z] 54)) xg).alloc (.cells #[.int .i64 I.n, .int .i64 I.d] 28)).alloc (.cells #[.int .i64 O.n, .int .i64 O.d] 28)) (w.heap.size + 1 + 1 + 1 + 1) 28 #[.int .i64 0, .int .i64 0] := (by repeat (first | with_reducible exact hb1 | with_reducible exact hb2 | with_reducible exact hb3 | with_reducible exact hb4 | with_reducible exact Blk.new _ _ _ _ rfl | (with_reducible refine Blk.new _ _ _ _ ?_; simp; done) | with_reducible refine Blk.alloc ?_ _ | with_reducible refine Blk.grow ?_ _ | with_reducible apply Blk.setRow | with_reducible apply Blk.set0 | with_reducible apply Blk.set1 | (with_reducible refine Blk.far_ ?_ _ _ ?_; (first | exact hne | exact Ne.symm hne | exact ne_far hb1.lt _ _ _ | exact ne_far0 hb1.lt _ _ | exact ne_far hb2.lt _ _ _ | exact ne_far0 hb2.lt _ _ | exact ne_far hb3.lt _ _ _ | exact ne_far hb4.lt _ _ _ | omega)) | (with_reducible refine Blk.farRow_ ?_ _ ?_; (first | exact hne | exact Ne.symm hne | exact ne_far hb1.lt _ _ _ | exact ne_far0 hb1.lt _ _ | exact ne_far hb2.lt _ _ _ | exact ne_far0 hb2.lt _ _ | exact ne_far hb3.lt _ _ _ | exact ne_far hb4.lt _ _ _ | omega))))
      have C5 : Blk (((grow (wr.alloc (.cells #[.int .i64 o.z, .int .i64 d.z, .int .i64 l.z, .int .i64 h.z] 54)) xg).alloc (.cells #[.int .i64 I.n, .int .i64 I.d] 28)).alloc (.cells #[.int .i64 O.n, .int .i64 O.d] 28)) ((grow (wr.alloc (.cells #[.int .i64 o.z, .int .i64 d.z, .int .i64 l.z, .int .i64 h.z] 54)) xg).heap.size) 28 #[.int .i64 I.n, .int .i64 I.d] := (by repeat (first | with_reducible exact hb1 | with_reducible exact hb2 | with_reducible exact hb3 | with_reducible exact hb4 | with_reducible exact Blk.new _ _ _ _ rfl | (with_reducible refine Blk.new _ _ _ _ ?_; simp; done) | with_reducible refine Blk.alloc ?_ _ | with_reducible refine Blk.grow ?_ _ | with_reducible apply Blk.setRow | with_reducible apply Blk.set0 | with_reducible apply Blk.set1 | (with_reducible refine Blk.far_ ?_ _ _ ?_; (first | exact hne | exact Ne.symm hne | exact ne_far hb1.lt _ _ _ | exact ne_far0 hb1.lt _ _ | exact ne_far hb2.lt _ _ _ | exact ne_far0 hb2.lt _ _ | exact ne_far hb3.lt _ _ _ | exact ne_far hb4.lt _ _ _ | omega)) | (with_reducible refine Blk.farRow_ ?_ _ ?_; (first | exact hne | exact Ne.symm hne | exact ne_far hb1.lt _ _ _ | exact ne_far0 hb1.lt _ _ | exact ne_far hb2.lt _ _ _ | exact ne_far0 hb2.lt _ _ | exact ne_far hb3.lt _ _ _ | exact ne_far hb4.lt _ _ _ | omega))))
      have C6 : Blk (((grow (wr.alloc (.cells #[.int .i64 o.z, .int .i64 d.z, .int .i64 l.z, .int .i64 h.z] 54)) xg).alloc (.cells #[.int .i64 I.n, .int .i64 I.d] 28)).alloc (.cells #[.int .i64 O.n, .int .i64 O.d] 28)) ((grow (wr.alloc (.cells #[.int .i64 o.z, .int .i64 d.z, .int .i64 l.z, .int .i64 h.z] 54)) xg).heap.size + 1) 28 #[.int .i64 O.n, .int .i64 O.d] := (by repeat (first | with_reducible exact hb1 | with_reducible exact hb2 | with_reducible exact hb3 | with_reducible exact hb4 | with_reducible exact Blk.new _ _ _ _ rfl | (with_reducible refine Blk.new _ _ _ _ ?_; simp; done) | with_reducible refine Blk.alloc ?_ _ | with_reducible refine Blk.grow ?_ _ | with_reducible apply Blk.setRow | with_reducible apply Blk.set0 | with_reducible apply Blk.set1 | (with_reducible refine Blk.far_ ?_ _ _ ?_; (first | exact hne | exact Ne.symm hne | exact ne_far hb1.lt _ _ _ | exact ne_far0 hb1.lt _ _ | exact ne_far hb2.lt _ _ _ | exact ne_far0 hb2.lt _ _ | exact ne_far hb3.lt _ _ _ | exact ne_far hb4.lt _ _ _ | omega)) | (with_reducible refine Blk.farRow_ ?_ _ ?_; (first | exact hne | exact Ne.symm hne | exact ne_far hb1.lt _ _ _ | exact ne_far0 hb1.lt _ _ | exact ne_far hb2.lt _ _ _ | exact ne_far0 hb2.lt _ _ | exact ne_far hb3.lt _ _ _ | exact ne_far hb4.lt _ _ _ | omega))))
      have CB : Below w.heap.size w (((grow (wr.alloc (.cells #[.int .i64 o.z, .int .i64 d.z, .int .i64 l.z, .int .i64 h.z] 54)) xg).alloc (.cells #[.int .i64 I.n, .int .i64 I.d] 28)).alloc (.cells #[.int .i64 O.n, .int .i64 O.d] 28)) := (by repeat (first | with_reducible exact hbel | with_reducible refine bel_then ?_ _ | with_reducible refine bel_grow ?_ _ | with_reducible refine bel_alloc ?_ _ | with_reducible refine bel_drew ?_ | with_reducible refine bel_set ?_ (by simp) _ | with_reducible refine bel_setRow ?_ (by first | omega | (simp; done) | (refine Nat.le_trans ?_ (top_le _ _); simp; done) | (refine Nat.le_succ_of_le (Nat.le_trans ?_ (top_le _ _)); simp; done)) _))
      have n1 : (grow (wr.alloc (.cells #[.int .i64 o.z, .int .i64 d.z, .int .i64 l.z, .int .i64 h.z] 54)) xg).heap.size ≠ g1 := Ne.symm (ne_far0 hb1.lt _ _)
      have n2 : (grow (wr.alloc (.cells #[.int .i64 o.z, .int .i64 d.z, .int .i64 l.z, .int .i64 h.z] 54)) xg).heap.size ≠ g2 := Ne.symm (ne_far0 hb2.lt _ _)
      have n3 : (grow (wr.alloc (.cells #[.int .i64 o.z, .int .i64 d.z, .int .i64 l.z, .int .i64 h.z] 54)) xg).heap.size + 1 ≠ g1 := Ne.symm (ne_far hb1.lt _ _ 1)
      have n4 : (grow (wr.alloc (.cells #[.int .i64 o.z, .int .i64 d.z, .int .i64 l.z, .int .i64 h.z] 54)) xg).heap.size + 1 ≠ g2 := Ne.symm (ne_far hb2.lt _ _ 1)
      generalize (grow (wr.alloc (.cells #[.int .i64 o.z, .int .i64 d.z, .int .i64 l.z, .int .i64 h.z] 54)) xg).heap.size + 1 = go_ at *
      generalize (grow (wr.alloc (.cells #[.int .i64 o.z, .int .i64 d.z, .int .i64 l.z, .int .i64 h.z] 54)) xg).heap.size = gi at *
      generalize (((grow (wr.alloc (.cells #[.int .i64 o.z, .int .i64 d.z, .int .i64 l.z, .int .i64 h.z] 54)) xg).alloc (.cells #[.int .i64 I.n, .int .i64 I.d] 28)).alloc (.cells #[.int .i64 O.n, .int .i64 O.d] 28)) = V at *
      clear hb1 hb2 hb3 hb4 hbel sp
      have l1 := C1.lt
      have l2 := C2.lt
      have l3 := C3.lt
      have l4 := C4.lt
      have l5 := C5.lt
      have l6 := C6.lt
      have f1 := C1.frozen
      have f2 := C2.frozen
      have c10 := C1.cell 0
      have c11 := C1.cell 1
      have c20 := C2.cell 0
      have c21 := C2.cell 1
      have c50 := C5.cell 0
      have c51 := C5.cell 1
      have c60 := C6.cell 0
      have c61 := C6.cell 1
      simp at c10 c11 c20 c21 c50 c51 c60 c61
      by_cases c1 : ltF a I = true
      · rw [c1] at ab1
        by_cases c2 : ltF O b = true
        · rw [c2] at ab2
          have next := Lib.hid (show stC o d l h 3 = (I, O) by rw [hnext.out, c1, c2]; rfl)
          clear hnext c1 c2
          have GOOD := Lib.hid (show (smallF I ∧ RightF I) ∧ smallF O ∧ RightF O from ⟨⟨is_, ir⟩, us, ur⟩)
          clear is_ ir us ur sa ra sb' rb
          go_wp2_with (first | (go_at_call 23; first | ((with_reducible refine (ab1.at_ _).mono ?_); rintro e w' ⟨rfl, xg, rfl⟩) | ((with_reducible refine (ab2.at_ _).mono ?_); rintro e w' ⟨rfl, xg, rfl⟩)) | (refine wpF_store rfl _ _ rfl _ rfl _ _ rfl ?xm ?xn ?hb ?hk; case hb => (repeat (first | with_reducible exact C1 | with_reducible exact C2 | with_reducible exact C3 | with_reducible exact C4 | with_reducible exact Blk.new _ _ _ _ rfl | (with_reducible refine Blk.new _ _ _ _ ?_; simp; done) | with_reducible refine Blk.alloc ?_ _ | with_reducible refine Blk.grow ?_ _ | with_reducible apply Blk.setRow | with_reducible apply Blk.set0 | with_reducible apply Blk.set1 | (with_reducible refine Blk.far_ ?_ _ _ ?_; (first | exact hne | exact Ne.symm hne | assumption | (refine Ne.symm ?_; assumption))) | (with_reducible refine Blk.farRow_ ?_ _ ?_; (first | exact hne | exact Ne.symm hne | assumption | (refine Ne.symm ?_; assumption)))); done)))
          go_roundw
          case rel => exact ⟨3, 3, I, O, by go_num, by omega, by omega, next, GOOD.out, ⟨(by repeat (first | with_reducible exact C1 | with_reducible exact C2 | with_reducible exact C3 | with_reducible exact C4 | with_reducible exact Blk.new _ _ _ _ rfl | (with_reducible refine Blk.new _ _ _ _ ?_; simp; done) | with_reducible refine Blk.alloc ?_ _ | with_reducible refine Blk.grow ?_ _ | with_reducible apply Blk.setRow | with_reducible apply Blk.set0 | with_reducible apply Blk.set1 | (with_reducible refine Blk.far_ ?_ _ _ ?_; (first | exact hne | exact Ne.symm hne | assumption | (refine Ne.symm ?_; assumption))) | (with_reducible refine Blk.farRow_ ?_ _ ?_; (first | exact hne | exact Ne.symm hne | assumption | (refine Ne.symm ?_; assumption))))), (by repeat (first | with_reducible exact C1 | with_reducible exact C2 | with_reducible exact C3 | with_reducible exact C4 | with_reducible exact Blk.new _ _ _ _ rfl | (with_reducible refine Blk.new _ _ _ _ ?_; simp; done) | with_reducible refine Blk.alloc ?_ _ | with_reducible refine Blk.grow ?_ _ | with_reducible apply Blk.setRow | with_reducible apply Blk.set0 | with_reducible apply Blk.set1 | (with_reducible refine Blk.far_ ?_ _ _ ?_; (first | exact hne | exact Ne.symm hne | assumption | (refine Ne.symm ?_; assumption))) | (with_reducible refine Blk.farRow_ ?_ _ ?_; (first | exact hne | exact Ne.symm hne | assumption | (refine Ne.symm ?_; assumption))))), (by repeat (first | with_reducible exact C1 | with_reducible exact C2 | with_reducible exact C3 | with_reducible exact C4 | with_reducible exact Blk.new _ _ _ _ rfl | (with_reducible refine Blk.new _ _ _ _ ?_; simp; done) | with_reducible refine Blk.alloc ?_ _ | with_reducible refine Blk.grow ?_ _ | with_reducible apply Blk.setRow | with_reducible apply Blk.set0 | with_reducible apply Blk.set1 | (with_reducible refine Blk.far_ ?_ _ _ ?_; (first | exact hne | exact Ne.symm hne | assumption | (refine Ne.symm ?_; assumption))) | (with_reducible refine Blk.farRow_ ?_ _ ?_; (first | exact hne | exact Ne.symm hne | assumption | (refine Ne.symm ?_; assumption))))), (by repeat (first | with_reducible exact C1 | with_reducible exact C2 | with_reducible exact C3 | with_reducible exact C4 | with_reducible exact Blk.new _ _ _ _ rfl | (with_reducible refine Blk.new _ _ _ _ ?_; simp; done) | with_reducible refine Blk.alloc ?_ _ | with_reducible refine Blk.grow ?_ _ | with_reducible apply Blk.setRow | with_reducible apply Blk.set0 | with_reducible apply Blk.set1 | (with_reducible refine Blk.far_ ?_ _ _ ?_; (first | exact hne | exact Ne.symm hne | assumption | (refine Ne.symm ?_; assumption))) | (with_reducible refine Blk.farRow_ ?_ _ ?_; (first | exact hne | exact Ne.symm hne | assumption | (refine Ne.symm ?_; assumption)))))⟩, (by repeat (first | with_reducible exact CB | with_reducible refine bel_then ?_ _ | with_reducible refine bel_grow ?_ _ | with_reducible refine bel_alloc ?_ _ | with_reducible refine bel_drew ?_ | with_reducible refine bel_set ?_ (by first | exact hr1 | exact hr2) _ | with_reducible refine bel_setRow ?_ (by first | exact hr1 | exact hr2 | omega | (simp; done) | (refine Nat.le_trans ?_ (top_le _ _); simp; done) | (refine Nat.le_succ_of_le (Nat.le_trans ?_ (top_le _ _)); simp; done)) _))⟩
          case measure => simp [intOf]
        · have c2 : ltF O b = false := by simpa using c2
          rw [c2] at ab2
          have next := Lib.hid (show stC o d l h 3 = (I, b) by rw [hnext.out, c1, c2]; rfl)
          clear hnext c1 c2
          have GOOD := Lib.hid (show (smallF I ∧ RightF I) ∧ smallF b ∧ RightF b from ⟨⟨is_, ir⟩, sb', rb⟩)
          clear is_ ir us ur sa ra sb' rb
          go_wp2_with (first | (go_at_call 23; first | ((with_reducible refine (ab1.at_ _).mono ?_); rintro e w' ⟨rfl, xg, rfl⟩) | ((with_reducible refine (ab2.at_ _).mono ?_); rintro e w' ⟨rfl, xg, rfl⟩)) | (refine wpF_store rfl _ _ rfl _ rfl _ _ rfl ?xm ?xn ?hb ?hk; case hb => (repeat (first | with_reducible exact C1 | with_reducible exact C2 | with_reducible exact C3 | with_reducible exact C4 | with_reducible exact Blk.new _ _ _ _ rfl | (with_reducible refine Blk.new _ _ _ _ ?_; simp; done) | with_reducible refine Blk.alloc ?_ _ | with_reducible refine Blk.grow ?_ _ | with_reducible apply Blk.setRow | with_reducible apply Blk.set0 | with_reducible apply Blk.set1 | (with_reducible refine Blk.far_ ?_ _ _ ?_; (first | exact hne | exact Ne.symm hne | assumption | (refine Ne.symm ?_; assumption))) | (with_reducible refine Blk.farRow_ ?_ _ ?_; (first | exact hne | exact Ne.symm hne | assumption | (refine Ne.symm ?_; assumption)))); done)))
          go_roundw
          case rel => exact ⟨3, 3, I, b, by go_num, by omega, by omega, next, GOOD.out, ⟨(by repeat (first | with_reducible exact C1 | with_reducible exact C2 | with_reducible exact C3 | with_reducible exact C4 | with_reducible exact Blk.new _ _ _ _ rfl | (with_reducible refine Blk.new _ _ _ _ ?_; simp; done) | with_reducible refine Blk.alloc ?_ _ | with_reducible refine Blk.grow ?_ _ | with_reducible apply Blk.setRow | with_reducible apply Blk.set0 | with_reducible apply Blk.set1 | (with_reducible refine Blk.far_ ?_ _ _ ?_; (first | exact hne | exact Ne.symm hne | assumption | (refine Ne.symm ?_; assumption))) | (with_reducible refine Blk.farRow_ ?_ _ ?_; (first | exact hne | exact Ne.symm hne | assumption | (refine Ne.symm ?_; assumption))))), (by repeat (first | with_reducible exact C1 | with_reducible exact C2 | with_reducible exact C3 | with_reducible exact C4 | with_reducible exact Blk.new _ _ _ _ rfl | (with_reducible refine Blk.new _ _ _ _ ?_; simp; done) | with_reducible refine Blk.alloc ?_ _ | with_reducible refine Blk.grow ?_ _ | with_reducible apply Blk.setRow | with_reducible apply Blk.set0 | with_reducible apply Blk.set1 | (with_reducible refine Blk.far_ ?_ _ _ ?_; (first | exact hne | exact Ne.symm hne | assumption | (refine Ne.symm ?_; assumption))) | (with_reducible refine Blk.farRow_ ?_ _ ?_; (first | exact hne | exact Ne.symm hne | assumption | (refine Ne.symm ?_; assumption))))), (by repeat (first | with_reducible exact C1 | with_reducible exact C2 | with_reducible exact C3 | with_reducible exact C4 | with_reducible exact Blk.new _ _ _ _ rfl | (with_reducible refine Blk.new _ _ _ _ ?_; simp; done) | with_reducible refine Blk.alloc ?_ _ | with_reducible refine Blk.grow ?_ _ | with_reducible apply Blk.setRow | with_reducible apply Blk.set0 | with_reducible apply Blk.set1 | (with_reducible refine Blk.far_ ?_ _ _ ?_; (first | exact hne | exact Ne.symm hne | assumption | (refine Ne.symm ?_; assumption))) | (with_reducible refine Blk.farRow_ ?_ _ ?_; (first | exact hne | exact Ne.symm hne | assumption | (refine Ne.symm ?_; assumption))))), (by repeat (first | with_reducible exact C1 | with_reducible exact C2 | with_reducible exact C3 | with_reducible exact C4 | with_reducible exact Blk.new _ _ _ _ rfl | (with_reducible refine Blk.new _ _ _ _ ?_; simp; done) | with_reducible refine Blk.alloc ?_ _ | with_reducible refine Blk.grow ?_ _ | with_reducible apply Blk.setRow | with_reducible apply Blk.set0 | with_reducible apply Blk.set1 | (with_reducible refine Blk.far_ ?_ _ _ ?_; (first | exact hne | exact Ne.symm hne | assumption | (refine Ne.symm ?_; assumption))) | (with_reducible refine Blk.farRow_ ?_ _ ?_; (first | exact hne | exact Ne.symm hne | assumption | (refine Ne.symm ?_; assumption)))))⟩, (by repeat (first | with_reducible exact CB | with_reducible refine bel_then ?_ _ | with_reducible refine bel_grow ?_ _ | with_reducible refine bel_alloc ?_ _ | with_reducible refine bel_drew ?_ | with_reducible refine bel_set ?_ (by first | exact hr1 | exact hr2) _ | with_reducible refine bel_setRow ?_ (by first | exact hr1 | exact hr2 | omega | (simp; done) | (refine Nat.le_trans ?_ (top_le _ _); simp; done) | (refine Nat.le_succ_of_le (Nat.le_trans ?_ (top_le _ _)); simp; done)) _))⟩
          case measure => simp [intOf]
      · have c1 : ltF a I = false := by simpa using c1
        rw [c1] at ab1
        by_cases c2 : ltF O b = true
        · rw [c2] at ab2
          have next := Lib.hid (show stC o d l h 3 = (a, O) by rw [hnext.out, c1, c2]; rfl)
          clear hnext c1 c2
          have GOOD := Lib.hid (show (smallF a ∧ RightF a) ∧ smallF O ∧ RightF O from ⟨⟨sa, ra⟩, us, ur⟩)
          clear is_ ir us ur sa ra sb' rb
          go_wp2_with (first | (go_at_call 23; first | ((with_reducible refine (ab1.at_ _).mono ?_); rintro e w' ⟨rfl, xg, rfl⟩) | ((with_reducible refine (ab2.at_ _).mono ?_); rintro e w' ⟨rfl, xg, rfl⟩)) | (refine wpF_store rfl _ _ rfl _ rfl _ _ rfl ?xm ?xn ?hb ?hk; case hb => (repeat (first | with_reducible exact C1 | with_reducible exact C2 | with_reducible exact C3 | with_reducible exact C4 | with_reducible exact Blk.new _ _ _ _ rfl | (with_reducible refine Blk.new _ _ _ _ ?_; simp; done) | with_reducible refine Blk.alloc ?_ _ | with_reducible refine Blk.grow ?_ _ | with_reducible apply Blk.setRow | with_reducible apply Blk.set0 | with_reducible apply Blk.set1 | (with_reducible refine Blk.far_ ?_ _ _ ?_; (first | exact hne | exact Ne.symm hne | assumption | (refine Ne.symm ?_; assumption))) | (with_reducible refine Blk.farRow_ ?_ _ ?_; (first | exact hne | exact Ne.symm hne | assumption | (refine Ne.symm ?_; assumption)))); done)))
          go_roundw
          case rel => exact ⟨3, 3, a, O, by go_num, by omega, by omega, next, GOOD.out, ⟨(by repeat (first | with_reducible exact C1 | with_reducible exact C2 | with_reducible exact C3 | with_reducible exact C4 | with_reducible exact Blk.new _ _ _ _ rfl | (with_reducible refine Blk.new _ _ _ _ ?_; simp; done) | with_reducible refine Blk.alloc ?_ _ | with_reducible refine Blk.grow ?_ _ | with_reducible apply Blk.setRow | with_reducible apply Blk.set0 | with_reducible apply Blk.set1 | (with_reducible refine Blk.far_ ?_ _ _ ?_; (first | exact hne | exact Ne.symm hne | assumption | (refine Ne.symm ?_; assumption))) | (with_reducible refine Blk.farRow_ ?_ _ ?_; (first | exact hne | exact Ne.symm hne | assumption | (refine Ne.symm ?_; assumption))))), (by repeat (first | with_reducible exact C1 | with_reducible exact C2 | with_reducible exact C3 | with_reducible exact C4 | with_reducible exact Blk.new _ _ _ _ rfl | (with_reducible refine Blk.new _ _ _ _ ?_; simp; done) | with_reducible refine Blk.alloc ?_ _ | with_reducible refine Blk.grow ?_ _ | with_reducible apply Blk.setRow | with_reducible apply Blk.set0 | with_reducible apply Blk.set1 | (with_reducible refine Blk.far_ ?_ _ _ ?_; (first | exact hne | exact Ne.symm hne | assumption | (refine Ne.symm ?_; assumption))) | (with_reducible refine Blk.farRow_ ?_ _ ?_; (first | exact hne | exact Ne.symm hne | assumption | (refine Ne.symm ?_; assumption))))), (by repeat (first | with_reducible exact C1 | with_reducible exact C2 | with_reducible exact C3 | with_reducible exact C4 | with_reducible exact Blk.new _ _ _ _ rfl | (with_reducible refine Blk.new _ _ _ _ ?_; simp; done) | with_reducible refine Blk.alloc ?_ _ | with_reducible refine Blk.grow ?_ _ | with_reducible apply Blk.setRow | with_reducible apply Blk.set0 | with_reducible apply Blk.set1 | (with_reducible refine Blk.far_ ?_ _ _ ?_; (first | exact hne | exact Ne.symm hne | assumption | (refine Ne.symm ?_; assumption))) | (with_reducible refine Blk.farRow_ ?_ _ ?_; (first | exact hne | exact Ne.symm hne | assumption | (refine Ne.symm ?_; assumption))))), (by repeat (first | with_reducible exact C1 | with_reducible exact C2 | with_reducible exact C3 | with_reducible exact C4 | with_reducible exact Blk.new _ _ _ _ rfl | (with_reducible refine Blk.new _ _ _ _ ?_; simp; done) | with_reducible refine Blk.alloc ?_ _ | with_reducible refine Blk.grow ?_ _ | with_reducible apply Blk.setRow | with_reducible apply Blk.set0 | with_reducible apply Blk.set1 | (with_reducible refine Blk.far_ ?_ _ _ ?_; (first | exact hne | exact Ne.symm hne | assumption | (refine Ne.symm ?_; assumption))) | (with_reducible refine Blk.farRow_ ?_ _ ?_; (first | exact hne | exact Ne.symm hne | assumption | (refine Ne.symm ?_; assumption)))))⟩, (by repeat (first | with_reducible exact CB | with_reducible refine bel_then ?_ _ | with_reducible refine bel_grow ?_ _ | with_reducible refine bel_alloc ?_ _ | with_reducible refine bel_drew ?_ | with_reducible refine bel_set ?_ (by first | exact hr1 | exact hr2) _ | with_reducible refine bel_setRow ?_ (by first | exact hr1 | exact hr2 | omega | (simp; done) | (refine Nat.le_trans ?_ (top_le _ _); simp; done) | (refine Nat.le_succ_of_le (Nat.le_trans ?_ (top_le _ _)); simp; done)) _))⟩
          case measure => simp [intOf]
        · have c2 : ltF O b = false := by simpa using c2
          rw [c2] at ab2
          have next := Lib.hid (show stC o d l h 3 = (a, b) by rw [hnext.out, c1, c2]; rfl)
          clear hnext c1 c2
          have GOOD := Lib.hid (show (smallF a ∧ RightF a) ∧ smallF b ∧ RightF b from ⟨⟨sa, ra⟩, sb', rb⟩)
          clear is_ ir us ur sa ra sb' rb
          go_wp2_with (first | (go_at_call 23; first | ((with_reducible refine (ab1.at_ _).mono ?_); rintro e w' ⟨rfl, xg, rfl⟩) | ((with_reducible refine (ab2.at_ _).mono ?_); rintro e w' ⟨rfl, xg, rfl⟩)) | (refine wpF_store rfl _ _ rfl _ rfl _ _ rfl ?xm ?xn ?hb ?hk; case hb => (repeat (first | with_reducible exact C1 | with_reducible exact C2 | with_reducible exact C3 | with_reducible exact C4 | with_reducible exact Blk.new _ _ _ _ rfl | (with_reducible refine Blk.new _ _ _ _ ?_; simp; done) | with_reducible refine Blk.alloc ?_ _ | with_reducible refine Blk.grow ?_ _ | with_reducible apply Blk.setRow | with_reducible apply Blk.set0 | with_reducible apply Blk.set1 | (with_reducible refine Blk.far_ ?_ _ _ ?_; (first | exact hne | exact Ne.symm hne | assumption | (refine Ne.symm ?_; assumption))) | (with_reducible refine Blk.farRow_ ?_ _ ?_; (first | exact hne | exact Ne.symm hne | assumption | (refine Ne.symm ?_; assumption)))); done)))
          go_roundw
          case rel => exact ⟨3, 3, a, b, by go_num, by omega, by omega, next, GOOD.out, ⟨(by repeat (first | with_reducible exact C1 | with_reducible exact C2 | with_reducible exact C3 | with_reducible exact C4 | with_reducible exact Blk.new _ _ _ _ rfl | (with_reducible refine Blk.new _ _ _ _ ?_; simp; done) | with_reducible refine Blk.alloc ?_ _ | with_reducible refine Blk.grow ?_ _ | with_reducible apply Blk.setRow | with_reducible apply Blk.set0 | with_reducible apply Blk.set1 | (with_reducible refine Blk.far_ ?_ _ _ ?_; (first | exact hne | exact Ne.symm hne | assumption | (refine Ne.symm ?_; assumption))) | (with_reducible refine Blk.farRow_ ?_ _ ?_; (first | exact hne | exact Ne.symm hne | assumption | (refine Ne.symm ?_; assumption))))), (by repeat (first | with_reducible exact C1 | with_reducible exact C2 | with_reducible exact C3 | with_reducible exact C4 | with_reducible exact Blk.new _ _ _ _ rfl | (with_reducible refine Blk.new _ _ _ _ ?_; simp; done) | with_reducible refine Blk.alloc ?_ _ | with_reducible refine Blk.grow ?_ _ | with_reducible apply Blk.setRow | with_reducible apply Blk.set0 | with_reducible apply Blk.set1 | (with_reducible refine Blk.far_ ?_ _ _ ?_; (first | exact hne | exact Ne.symm hne | assumption | (refine Ne.symm ?_; assumption))) | (with_reducible refine Blk.farRow_ ?_ _ ?_; (first | exact hne | exact Ne.symm hne | assumption | (refine Ne.symm ?_; assumption))))), (by repeat (first | with_reducible exact C1 | with_reducible exact C2 | with_reducible exact C3 | with_reducible exact C4 | with_reducible exact Blk.new _ _ _ _ rfl | (with_reducible refine Blk.new _ _ _ _ ?_; simp; done) | with_reducible refine Blk.alloc ?_ _ | with_reducible refine Blk.grow ?_ _ | with_reducible apply Blk.setRow | with_reducible apply Blk.set0 | with_reducible apply Blk.set1 | (with_reducible refine Blk.far_ ?_ _ _ ?_; (first | exact hne | exact Ne.symm hne | assumption | (refine Ne.symm ?_; assumption))) | (with_reducible refine Blk.farRow_ ?_ _ ?_; (first | exact hne | exact Ne.symm hne | assumption | (refine Ne.symm ?_; assumption))))), (by repeat (first | with_reducible exact C1 | with_reducible exact C2 | with_reducible exact C3 | with_reducible exact C4 | with_reducible exact Blk.new _ _ _ _ rfl | (with_reducible refine Blk.new _ _ _ _ ?_; simp; done) | with_reducible refine Blk.alloc ?_ _ | with_reducible refine Blk.grow ?_ _ | with_reducible apply Blk.setRow | with_reducible apply Blk.set0 | with_reducible apply Blk.set1 | (with_reducible refine Blk.far_ ?_ _ _ ?_; (first | exact hne | exact Ne.symm hne | assumption | (refine Ne.symm ?_; assumption))) | (with_reducible refine Blk.farRow_ ?_ _ ?_; (first | exact hne | exact Ne.symm hne | assumption | (refine Ne.symm ?_; assumption)))))⟩, (by repeat (first | with_reducible exact CB | with_reducible refine bel_then ?_ _ | with_reducible refine bel_grow ?_ _ | with_reducible refine bel_alloc ?_ _ | with_reducible refine bel_drew ?_ | with_reducible refine bel_set ?_ (by first | exact hr1 | exact hr2) _ | with_reducible refine bel_setRow ?_ (by first | exact hr1 | exact hr2 | omega | (simp; done) | (refine Nat.le_trans ?_ (top_le _ _); simp; done) | (refine Nat.le_succ_of_le (Nat.le_trans ?_ (top_le _ _)); simp; done)) _))⟩
          case measure => simp [intOf]
    · have l1 := hb1.lt
      have f1 := hb1.frozen
      have c10 := hb1.cell 0
      have c11 := hb1.cell 1
      have l2 := hb2.lt
      have f2 := hb2.frozen
      have c20 := hb2.cell 0
      have c21 := hb2.cell 1
      have l3 := hb3.lt
      have f3 := hb3.frozen
      have c30 := hb3.cell 0
      have c31 := hb3.cell 1
      have l4 := hb4.lt
      have f4 := hb4.frozen
      have c40 := hb4.cell 0
      have c41 := hb4.cell 1
      simp at c10 c11 c20 c21 c30 c31 c40 c41
      have ab := above_any a b (smallF_in sa) (smallF_in sb') ra rb
      have hq := HR.out
      unfold rangeC at hq
      rw [hst.out] at hq
      unfold lastR at hq
      simp only at hq
      clear hst HR
      by_cases c : ltF b a = true
      · rw [if_pos c] at hq
        rw [c] at ab
        have HE := Lib.hid (show R1 = ⟨0, 0⟩ ∧ R2 = ⟨0, 0⟩ ∧ R3 = false from by
          have q' : ((⟨0, 0⟩ : Fr), (⟨0, 0⟩ : Fr), false) = (R1, R2, R3) := hq
          simp only [Prod.mk.injEq] at q'
          exact ⟨q'.1.symm, q'.2.1.symm, q'.2.2.symm⟩)
        clear hq c
        go_wp2_with (first | (go_at_call 23; first | ((with_reducible refine (ab.at_ _).mono ?_); rintro e w' ⟨rfl, xg, rfl⟩)))
        refine bodyPost_ret (v := .tuple #[.agg #[.int .i64 0, .int .i64 0], .agg #[.int .i64 0, .int .i64 0], .bool false, .int .i64 0]) (by simp [results, Try.results11, go_sem, c10, c11, c20, c21, c30, c31, c40, c41, f3, f4, l1, l2, l3, l4, hr3, hr4, hr5, hr6, hne]) rfl ⟨by obtain ⟨e1, e2, e3⟩ := HE.out; rw [e1, e2, e3], (by repeat (first | with_reducible exact hbel | with_reducible refine bel_then ?_ _ | with_reducible refine bel_grow ?_ _ | with_reducible refine bel_alloc ?_ _ | with_reducible refine bel_drew ?_ | with_reducible refine bel_set ?_ (by simp; omega) _ | with_reducible refine bel_setRow ?_ (by first | (simp; omega) | (simp; done) | (refine Nat.le_trans ?_ (top_le _ _); simp; done) | (refine Nat.le_succ_of_le (Nat.le_trans ?_ (top_le _ _)); simp; done)) _))⟩
      · have c : ltF b a = false := by simpa using c
        rw [if_neg (by rw [c]; exact Bool.false_ne_true)] at hq
        rw [c] at ab
        have HE := Lib.hid (show R1 = a ∧ R2 = b ∧ R3 = true from by
          have q' : (a, b, true) = (R1, R2, R3) := hq
          simp only [Prod.mk.injEq] at q'
          exact ⟨q'.1.symm, q'.2.1.symm, q'.2.2.symm⟩)
        clear hq c
        go_upto_region 16 with (first | (go_at_call 23; first | ((with_reducible refine (ab.at_ _).mono ?_); rintro e w' ⟨rfl, xg, rfl⟩)))
        replace hb1 := hb1.grow xg
        replace hb2 := hb2.grow xg
        replace hb3 := hb3.grow xg
        replace hb4 := hb4.grow xg
        replace hbel := bel_grow hbel xg
        clear l1 f1 c10 c11 l2 f2 c20 c21 l3 f3 c30 c31 l4 f4 c40 c41
        generalize grow wr xg = V at *
        have l1 := hb1.lt
        have f1 := hb1.frozen
        have c10 := hb1.cell 0
        have c11 := hb1.cell 1
        have l2 := hb2.lt
        have f2 := hb2.frozen
        have c20 := hb2.cell 0
        have c21 := hb2.cell 1
        have l3 := hb3.lt
        have f3 := hb3.frozen
        have c30 := hb3.cell 0
        have c31 := hb3.cell 1
        have l4 := hb4.lt
        have f4 := hb4.frozen
        have c40 := hb4.cell 0
        have c41 := hb4.cell 1
        simp at c10 c11 c20 c21 c30 c31 c40 c41
        go_region_held3 (fun w' => w'.cell? ⟨g1, 0, none⟩ = some (.int .i64 a.n) ∧ w'.cell? ⟨g1, 1, none⟩ = some (.int .i64 a.d) ∧ w'.cell? ⟨g2, 0, none⟩ = some (.int .i64 b.n) ∧ w'.cell? ⟨g2, 1, none⟩ = some (.int .i64 b.d)) (first | go_keep | (simp [go_sem]; done) | (simp [*, go_sem]; done)) (fail)
        all_goals
          go_wp2
          refine bodyPost_ret (v := .tuple #[.agg #[.int .i64 a.n, .int .i64 a.d], .agg #[.int .i64 b.n, .int .i64 b.d], .bool true, .int .i64 0]) (by simp [results, Try.results11, go_sem, c10, c11, c20, c21, c30, c31, c40, c41, f3, f4, l1, l2, l3, l4, hr3, hr4, hr5, hr6, hne]) rfl ⟨by obtain ⟨e1, e2, e3⟩ := HE.out; rw [e1, e2, e3], (by repeat (first | with_reducible exact hbel | with_reducible refine bel_then ?_ _ | with_reducible refine bel_grow ?_ _ | with_reducible refine bel_alloc ?_ _ | with_reducible refine bel_drew ?_ | with_reducible refine bel_set ?_ (by simp; omega) _ | with_reducible refine bel_setRow ?_ (by first | (simp; omega) | (simp; done) | (refine Nat.le_trans ?_ (top_le _ _); simp; done) | (refine Nat.le_succ_of_le (Nat.le_trans ?_ (top_le _ _)); simp; done)) _))⟩
theorem spI_right (f s l h : Int) : RightF (spI f s l h) ∧ RightF (spO f s l h) := by
  unfold spI spO
  by_cases hs : s = 0
  · rw [if_pos hs, if_pos hs]
    split
    · exact ⟨.inl (by decide), .inr ⟨rfl, rfl⟩⟩
    · exact ⟨.inr ⟨rfl, rfl⟩, .inl (by decide)⟩
  · rw [if_neg hs, if_neg hs]
    exact ⟨.inl (inF_d hs), .inl (outF_d hs)⟩
theorem lt_chain {x y a b : Fr} (hx : RightF x) (hy : RightF y) (ha : RightF a) (hb : RightF b) (h : ltF y x = true) (h1 : leF x a) (h2 : leF b y) : ltF b a = true := by
  refine (lt_not_le b a).2 fun h3 => (lt_not_le y x).1 h ?_
  have nx : 0 ≤ x.d := by rcases hx with q | ⟨_, q⟩ <;> omega
  have yd : 0 < y.d := by
    rcases hy with q | ⟨q, q'⟩
    · exact q
    · exfalso
      unfold ltF at h
      rw [q, q'] at h
      simp at h
      omega
  have bd : 0 < b.d := by
    rcases hb with q | ⟨q, q'⟩
    · exact q
    · unfold leF at h2; rw [q, q'] at h2; omega
  have ad : 0 < a.d := by
    rcases ha with q | ⟨q, q'⟩
    · exact q
    · unfold leF at h3; rw [q, q'] at h3; omega
  exact le_mid nx bd (by omega) (le_mid nx ad (by omega) h1 h3) h2
def Dead (p : Fr × Fr) : Prop := RightF p.1 ∧ RightF p.2 ∧ ltF p.2 p.1 = true
def stepC (p : Fr × Fr) (f s l h : Int) : Fr × Fr := (if ltF p.1 (spI f s l h) then spI f s l h else p.1, if ltF (spO f s l h) p.2 then spO f s l h else p.2)
theorem stepC_right {p : Fr × Fr} (f s l h : Int) (h1 : RightF p.1) (h2 : RightF p.2) : RightF (stepC p f s l h).1 ∧ RightF (stepC p f s l h).2 := by
  obtain ⟨q1, q2⟩ := spI_right f s l h
  unfold stepC
  constructor
  · simp only; split <;> assumption
  · simp only; split <;> assumption
theorem stepC_up (p : Fr × Fr) (f s l h : Int) : (leF p.1 (stepC p f s l h).1 ∧ leF (spI f s l h) (stepC p f s l h).1) ∧ leF (stepC p f s l h).2 p.2 ∧ leF (stepC p f s l h).2 (spO f s l h) := by
  unfold stepC
  simp only
  refine ⟨?_, ?_⟩
  · rcases pick_lo (lo := p.1) (i := spI f s l h) with ⟨e, g⟩ | ⟨e, g⟩ <;> rw [e]
    · exact ⟨le_refl_F _, g⟩
    · exact ⟨g, le_refl_F _⟩
  · rcases pick_hi (hi := p.2) (u := spO f s l h) with ⟨e, g⟩ | ⟨e, g⟩ <;> rw [e]
    · exact ⟨le_refl_F _, g⟩
    · exact ⟨g, le_refl_F _⟩
theorem dead_next {p : Fr × Fr} (f s l h : Int) (hp : Dead p) : Dead (stepC p f s l h) := by
  obtain ⟨h1, h2, h3⟩ := hp
  obtain ⟨r1, r2⟩ := stepC_right f s l h h1 h2
  obtain ⟨⟨u1, _⟩, u2, _⟩ := stepC_up p f s l h
  exact ⟨r1, r2, lt_chain h1 h2 r1 r2 h3 u1 u2⟩
theorem part_some {p r : Fr × Fr} {f s l h : Int} (h1 : okLo p.1) (h2 : okHi p.2) (hr : partR (some p) f s l h = some r) : stepC p f s l h = r := by
  unfold partR at hr
  simp only at hr
  split at hr
  · cases hr
  · split at hr
    · rename_i hl hs
      split at hr
      · cases hr
      · rename_i hf
        cases hr
        have hP : l ≤ f ∧ f ≤ h := by omega
        have a1 : spI f s l h = ⟨0, 1⟩ := by unfold spI; rw [if_pos hs, if_pos hP]
        have a2 : spO f s l h = ⟨1, 0⟩ := by unfold spO; rw [if_pos hs, if_pos hP]
        unfold stepC
        rw [a1, a2]
        have e1 : ltF p.1 ⟨0, 1⟩ = false := lt_false.2 (by unfold leF; have := h1.2; simp only; omega)
        have e2 : ltF ⟨1, 0⟩ p.2 = false := lt_false.2 (by unfold leF; simp only; rcases h2 with q | ⟨_, q⟩ <;> omega)
        rw [e1, e2]
        rfl
    · rename_i hs
      cases hr
      unfold stepC spI spO
      rw [if_neg hs, if_neg hs]
theorem part_none {p : Fr × Fr} {f s l h : Int} (h1 : okLo p.1) (h2 : okHi p.2) (hr : partR (some p) f s l h = none) : Dead (stepC p f s l h) := by
  have r1 : RightF p.1 := okLo_right h1
  have r2 : RightF p.2 := h2
  obtain ⟨s1, s2⟩ := stepC_right f s l h r1 r2
  obtain ⟨q1, q2⟩ := spI_right f s l h
  obtain ⟨⟨_, u1⟩, _, u2⟩ := stepC_up p f s l h
  refine ⟨s1, s2, lt_chain q1 q2 s1 s2 ?_ u1 u2⟩
  unfold partR at hr
  simp only at hr
  unfold spI spO
  split at hr
  · rename_i hl
    by_cases hs : s = 0
    · rw [if_pos hs, if_pos hs, if_neg (by omega), if_neg (by omega)]; rfl
    · rw [if_neg hs, if_neg hs]
      refine (lt_not_le _ _).2 ?_
      unfold leF inF outF
      intro hc
      split at hc
      · rename_i hp
        simp only at hc
        have := le_of_mul hp hc
        omega
      · simp only at hc
        have := le_of_mul (by omega) hc
        omega
  · rename_i hl
    split at hr
    · rename_i hs
      split at hr
      · rename_i hf
        rw [if_pos hs, if_pos hs, if_neg (by omega), if_neg (by omega)]; rfl
      · cases hr
    · cases hr
theorem stC_step (o d l h : P3) (k : Nat) : stC o d l h (k + 1) = stepC (stC o d l h k) (pick3 o k) (pick3 d k) (pick3 l k) (pick3 h k) := rfl
theorem stC_right (o d l h : P3) : ∀ k, (∃ r, stR o d l h k = some r ∧ stC o d l h k = r ∧ okLo r.1 ∧ okHi r.2) ∨ (stR o d l h k = none ∧ Dead (stC o d l h k))
  | 0 => .inl ⟨_, rfl, rfl, ⟨by decide, by decide⟩, .inr ⟨rfl, rfl⟩⟩
  | k + 1 => by
    rcases stC_right o d l h k with ⟨r, e1, e2, k1, k2⟩ | ⟨e1, e2⟩
    · cases hp : partR (some r) (pick3 o k) (pick3 d k) (pick3 l k) (pick3 h k) with
      | none =>
        refine .inr ⟨?_, ?_⟩
        · show partR (stR o d l h k) _ _ _ _ = none
          rw [e1]; exact hp
        · rw [stC_step, e2]; exact part_none k1 k2 hp
      | some q =>
        obtain ⟨j1, j2⟩ := part_ok (lo := r.1) (hi := r.2) k1 k2 hp
        refine .inl ⟨q, ?_, ?_, j1, j2⟩
        · show partR (stR o d l h k) _ _ _ _ = some q
          rw [e1]; exact hp
        · rw [stC_step, e2]; exact part_some k1 k2 hp
    · refine .inr ⟨?_, ?_⟩
      · show partR (stR o d l h k) _ _ _ _ = none
        rw [e1]; rfl
      · rw [stC_step]; exact dead_next _ _ _ _ e2
theorem rangeC_eq (o d l h : P3) : rangeC o d l h = rangeM o d l h := by
  rw [← stR_three]
  unfold rangeC
  rcases stC_right o d l h 3 with ⟨r, e1, e2, _, _⟩ | ⟨e1, e2⟩
  · rw [e1, e2]
  · rw [e1]
    unfold lastR
    simp only
    rw [if_pos e2.2.2]
/-- Within the bounds. -/
theorem rbB_in {o d l h : P3} (hb : rbB o d l h = true) : Sp o ∧ Dr d ∧ InP 131072 l ∧ InP 131072 h := by
  unfold rbB lnB corn at hb
  simp only [Bool.and_eq_true] at hb
  obtain ⟨⟨⟨⟨_, h1⟩, h2⟩, h3⟩, h4⟩ := hb
  have a1 := (wiB_iff _ _ _ _).1 h1
  have a2 := (wiB_iff _ _ _ _).1 h2
  have a3 := (wiB_iff _ _ _ _).1 h3
  have a4 := (wiB_iff _ _ _ _).1 h4
  exact ⟨a2.2, a1.2, a3.2, a4.2⟩
theorem slRange_no (o d l h : P3) (hb : rbB o d l h = false) : Gives Try.prog 11 #[.agg #[.int .i64 o.x, .int .i64 o.y, .int .i64 o.z], .agg #[.int .i64 d.x, .int .i64 d.y, .int .i64 d.z], .agg #[.int .i64 l.x, .int .i64 l.y, .int .i64 l.z, .int .i64 h.x, .int .i64 h.y, .int .i64 h.z]] (.tuple #[.agg #[.int .i64 0, .int .i64 0], .agg #[.int .i64 0, .int .i64 0], .bool false, .int .i64 21]) := slRange_out o d l h (by have := slB_any o d l h; rw [hb] at this; exact this)
theorem slRange_yes (o d l h : P3) (hb : rbB o d l h = true) (R1 R2 : Fr) (R3 : Bool) (hR : rv (rangeM o d l h) = (R1, R2, R3)) : Gives Try.prog 11 #[.agg #[.int .i64 o.x, .int .i64 o.y, .int .i64 o.z], .agg #[.int .i64 d.x, .int .i64 d.y, .int .i64 d.z], .agg #[.int .i64 l.x, .int .i64 l.y, .int .i64 l.z, .int .i64 h.x, .int .i64 h.y, .int .i64 h.z]] (.tuple #[.agg #[.int .i64 R1.n, .int .i64 R1.d], .agg #[.int .i64 R2.n, .int .i64 R2.d], .bool R3, .int .i64 0]) := by
  obtain ⟨h1, h2, h3, h4⟩ := rbB_in hb
  exact slRange_core o d l h h1 h2 h3 h4 (by have := slB_any o d l h; rw [hb] at this; exact this) R1 R2 R3 (by rw [rangeC_eq]; exact hR)
end Go.Proofs.Ytngkimcnolmmoaa
