/- The laws of patch: the points along a side. -/
import Derived.Test.YtgmifpicilfcdabC19
namespace Go.Proofs.Ytgmifpicilfcdab
open Go.RowKit
set_option linter.unusedVariables false
set_option linter.unusedSimpArgs false
set_option linter.unnecessarySimpa false
set_option maxRecDepth 100000
/-- The numbers of the points along a side. -/
def rowN (a i : Nat) : Nat := if a = 0 then i else if a = 1 then 4 * i + 3 else if a = 2 then 15 - i else 12 - 4 * i
def sideP (p : PtD) (a i : Nat) : P3 := p.pt (rowN a i)
theorem rowN_lt {a i : Nat} (ha : a < 4) (hi : i < 4) : rowN a i < 16 := by unfold rowN; split; omega; split; omega; split <;> omega
def tabC : Array Value := #[.int .i64 0, .int .i64 1, .int .i64 2, .int .i64 3, .int .i64 3, .int .i64 7, .int .i64 11, .int .i64 15, .int .i64 15, .int .i64 14, .int .i64 13, .int .i64 12, .int .i64 12, .int .i64 8, .int .i64 4, .int .i64 0]
theorem tabC_at {a i : Nat} (ha : a < 4) (hi : i < 4) : tabC[a * 4 + i]? = some (.int .i64 (rowN a i : Int)) := by
  rcases (by omega : a = 0 ∨ a = 1 ∨ a = 2 ∨ a = 3) with rfl | rfl | rfl | rfl <;> rcases (by omega : i = 0 ∨ i = 1 ∨ i = 2 ∨ i = 3) with rfl | rfl | rfl | rfl <;> rfl
theorem info4V : (Try.prog.info? 46).map (·.size) = some 12 := by kernel_rfl
theorem load_P4 {ops : Array Oper} {rest : List Oper} {op : Oper} {a : Act} {w : World} {Q : Exit → Act → World → Prop} (hgd : op.guard = none) (x : Operand) (ho : op.op = .load 46 x) (b : Nat) (hx : a.eval x = .pointer (some ⟨b, 0, none⟩)) (f : Nat → P3) (h : Blk w b 46 (rowCs 3 4 (pC f)))
    (k : wpList Try.prog ops Q rest (a.put op.dst (.agg (rowCs 3 4 (pC f)))) w) : wpList Try.prog ops Q (op :: rest) a w := by
  refine wpList_load_mid hgd 46 x ho b 0 hx (rowCs 3 4 (pC f)).toList _ (rng_blkN h) Try.underlying46 rfl (by rw [Array.length_toList, rowCs_size]; exact info4V) ?_
  rw [Array.toArray_toList]
  exact k
theorem store_P4 {ops : Array Oper} {rest : List Oper} {o : Oper} {a : Act} {w : World} {Q : Exit → Act → World → Prop} (hgd : o.guard = none) (x y : Operand) (ho : o.op = .store 46 x y) (g : Nat) (f e : Nat → P3) (hx : a.eval x = .pointer (some ⟨g, 0, none⟩)) (hy : a.eval y = .agg (rowCs 3 4 (pC f))) (h : Blk w g 46 (rowCs 3 4 (pC e)))
    (k : wpList Try.prog ops Q rest (a.put o.dst undef) (w.setRow g (rowCs 3 4 (pC f)))) : wpList Try.prog ops Q (o :: rest) a w :=
  wpList_store_row hgd 46 x y ho g _ hx hy 46 _ h (by rw [rowCs_size]; exact info4V) (by rw [rowCs_size, rowCs_size]) (pC_one _ _) k
set_option maxHeartbeats 4000000 in
theorem alongS_any (W : World) (p : PtD) (a : Nat) (ha : a < 4) :
    Calls Try.prog 11 #[.agg p.row, .int .i64 (a : Int)] W fun e W' => e = .returned (.agg (rowCs 3 4 (pC (sideP p a)))) ∧ Below W.heap.size W W' := by
  have hz : #[.int .i64 0, .int .i64 0, .int .i64 0, .int .i64 0, .int .i64 0, .int .i64 0, .int .i64 0, .int .i64 0, .int .i64 0, .int .i64 0, .int .i64 0, .int .i64 0] = rowCs 3 4 (pC fun _ => Z3) := by kernel_rfl
  obtain ⟨W4, hW4⟩ : ∃ W4, W4 = (((W.alloc (.cells p.row 48)).alloc (.cells #[.int .i64 0, .int .i64 0, .int .i64 0, .int .i64 0, .int .i64 0, .int .i64 0, .int .i64 0, .int .i64 0, .int .i64 0, .int .i64 0, .int .i64 0, .int .i64 0] 46)).alloc (.cells #[.int .i64 0, .int .i64 1, .int .i64 2, .int .i64 3, .int .i64 3, .int .i64 7, .int .i64 11, .int .i64 15, .int .i64 15, .int .i64 14, .int .i64 13, .int .i64 12, .int .i64 12, .int .i64 8, .int .i64 4, .int .i64 0] 58)).alloc (.cells #[.int .i64 0, .int .i64 0, .int .i64 0, .int .i64 0, .int .i64 0, .int .i64 0, .int .i64 0, .int .i64 0, .int .i64 0, .int .i64 0, .int .i64 0, .int .i64 0] 46) := ⟨_, rfl⟩
  have hB : Below W.heap.size W W4 := by rw [hW4]; exact bel_alloc (bel_alloc (bel_alloc (bel_alloc (Below.refl _ _) _) _) _) _
  have hP : Blk W4 W.heap.size 48 p.row := by rw [hW4]; exact (((Blk.new _ _ _ _ rfl).alloc _).alloc _).alloc _
  have hR : Blk W4 (W.heap.size + 1) 46 (rowCs 3 4 (pC fun _ => Z3)) := by rw [hW4, ← hz]; exact ((Blk.new _ _ _ _ (by simp)).alloc _).alloc _
  have hT : Blk W4 (W.heap.size + 1 + 1) 58 tabC := by rw [hW4]; exact (Blk.new _ _ _ _ (by simp)).alloc _
  have hQ : Blk W4 (W.heap.size + 1 + 1 + 1) 46 (rowCs 3 4 (pC fun _ => Z3)) := by rw [hW4, ← hz]; exact Blk.new _ _ _ _ (by simp)
  clear hz
  replace hW4 := Lib.hid hW4
  go_enter Try.func11, Try.ntmps11
  go_upto_region 4 with (fail)
  rw [← hW4.out]
  clear hW4
  go_loopw [7] (fun iv wr => ∃ i : Nat, iv = .int .i64 (i : Int) ∧ i ≤ 4 ∧ Below W.heap.size W wr ∧ Blk wr W.heap.size 48 p.row ∧ Blk wr (W.heap.size + 1) 46 (rowCs 3 4 (pC fun _ => Z3)) ∧ Blk wr (W.heap.size + 1 + 1) 58 tabC ∧ Blk wr (W.heap.size + 1 + 1 + 1) 46 (rowCs 3 4 (pC fun j => if j < i then sideP p a j else Z3))) (fun iv _ => 4 - (intOf iv).toNat)
  case atStart => exact ⟨0, rfl, by omega, hB, hP, hR, hT, by simpa using hQ⟩
  case round =>
    obtain ⟨i, rfl, hi, hBr, hPr, hRr, hTr, hQr⟩ := hrel
    clear hB hP hR hT hQ
    rename World => wr
    by_cases hlt : i < 4
    · have u0 : wr.cell? ⟨W.heap.size + 1 + 1, a * 4 + i, none⟩ = some (.int .i64 (rowN a i : Int)) := by rw [hTr.cell]; exact tabC_at ha hlt
      have ul := hTr.lt
      have hrn := rowN_lt ha hlt
      have hsp : sideP p a i = p.pt (rowN a i) := rfl
      have hnx := pC_set (fun j => if j < i then sideP p a j else Z3) hlt (sideP p a i)
      have hst : rowCs 3 4 (pC fun u => if u = i then sideP p a i else (fun j => if j < i then sideP p a j else Z3) u) = rowCs 3 4 (pC fun j => if j < i + 1 then sideP p a j else Z3) := pC_ext fun v hv => by
        by_cases e : v = i
        · subst e; simp
        · by_cases e2 : v < i
          · simp [e, e2, Nat.lt_succ_of_lt e2]
          · simp [e, e2, show ¬ v < i + 1 by omega]
      rw [hst] at hnx
      clear hst
      generalize rowN a i = m at *
      have p0 : wr.cell? ⟨W.heap.size, m * 3, none⟩ = some (.int .i64 (p.pt m).x) := by rw [hPr.cell, p.at_ (by omega)]; unfold PtD.c pC; rw [if_pos (by omega), if_pos (by omega), show m * 3 / 3 = m by omega]
      have p1 : wr.cell? ⟨W.heap.size, m * 3 + 1, none⟩ = some (.int .i64 (p.pt m).y) := by rw [hPr.cell, p.at_ (by omega)]; unfold PtD.c pC; rw [if_pos (by omega), if_neg (by omega), if_pos (by omega), show (m * 3 + 1) / 3 = m by omega]
      have p2 : wr.cell? ⟨W.heap.size, m * 3 + 2, none⟩ = some (.int .i64 (p.pt m).z) := by rw [hPr.cell, p.at_ (by omega)]; unfold PtD.c pC; rw [if_pos (by omega), if_neg (by omega), if_neg (by omega), show (m * 3 + 2) / 3 = m by omega]
      have pl := hPr.lt
      obtain ⟨⟨g0, g1, g2⟩, gl, f0, f1, f2⟩ := row3P hQr hlt
      have q0 : (0 : Int) ≤ (a : Int) := by omega
      have q1 : (a : Int) < 4 := by omega
      have q2 : (0 : Int) ≤ (i : Int) := by omega
      have q3 : (i : Int) < 4 := by omega
      have q4 : (0 : Int) ≤ (m : Int) := by omega
      have q5 : (m : Int) < 16 := by omega
      rw [hsp] at hnx
      generalize p.pt m = u at *
      clear hsp
      replace hnx := Lib.hid hnx
      go_wp2
      go_roundw
      case rel =>
        have hs := ((hQr.set (i * 3) (.int .i64 u.x)).set (i * 3 + 1) (.int .i64 u.y)).set (i * 3 + 2) (.int .i64 u.z)
        have hnx2 := hnx.out
        unfold set3 at hnx2
        rw [hnx2] at hs
        exact ⟨i + 1, by go_num, by omega, bel_set (bel_set (bel_set hBr (by show W.heap.size ≤ W.heap.size + 1 + 1 + 1; omega) _) (by show W.heap.size ≤ W.heap.size + 1 + 1 + 1; omega) _) (by show W.heap.size ≤ W.heap.size + 1 + 1 + 1; omega) _, ((hPr.far _ _ (by omega)).far _ _ (by omega)).far _ _ (by omega), ((hRr.far _ _ (by omega)).far _ _ (by omega)).far _ _ (by omega), ((hTr.far _ _ (by omega)).far _ _ (by omega)).far _ _ (by omega), hs⟩
      case measure => simp [intOf]; omega
    · obtain rfl : i = 4 := by omega
      have hst : rowCs 3 4 (pC fun j => if j < 4 then sideP p a j else Z3) = rowCs 3 4 (pC (sideP p a)) := pC_ext fun v hv => by simp [hv]
      rw [hst] at hQr
      clear hst
      have gl := hQr.lt
      go_wp2_with (first | (refine load_P4 rfl _ rfl (W.heap.size + 1 + 1 + 1) rfl (sideP p a) hQr ?_; simp only [Act.put, List.setIfInBounds_toArray, List.set_cons_succ, List.set_cons_zero]) | (refine store_P4 rfl _ _ rfl (W.heap.size + 1) (sideP p a) (fun _ => Z3) rfl rfl hRr ?_; simp only [Act.put, List.setIfInBounds_toArray, List.set_cons_succ, List.set_cons_zero]) | fail)
      have hRe := hRr.setRow (rowCs 3 4 (pC (sideP p a)))
      exact bodyPost_ret (results_cell_row rfl _ _ (W.heap.size + 1) 46 _ (0, 0) _ rfl hRe Try.underlying46 rfl (by rw [rowCs_size]; exact info4V)) rfl ⟨rfl, bel_setRow hBr (by omega) _⟩
/-- The points along a side, by its corners. -/
theorem sideP_is (N : NetD) (sk : Int) (f : Nat) {a : Nat} (ha : a < 4) : sideP (N.patch sk f) a 0 = N.corner ((N.fs.getD f []).getD a 0) ∧ sideP (N.patch sk f) a 1 = N.near ((N.fs.getD f []).getD a 0) ((N.fs.getD f []).getD ((a + 1) % 4) 0) ∧ sideP (N.patch sk f) a 2 = N.near ((N.fs.getD f []).getD ((a + 1) % 4) 0) ((N.fs.getD f []).getD a 0) ∧ sideP (N.patch sk f) a 3 = N.corner ((N.fs.getD f []).getD ((a + 1) % 4) 0) := by
  rcases (by omega : a = 0 ∨ a = 1 ∨ a = 2 ∨ a = 3) with rfl | rfl | rfl | rfl <;> exact ⟨rfl, rfl, rfl, rfl⟩
theorem nm_is (N : NetD) (sk : Int) (f : Nat) {a : Nat} (ha : a < 4) : (N.patch sk f).nm a = N.normal ((N.fs.getD f []).getD a 0) := by
  rcases (by omega : a = 0 ∨ a = 1 ∨ a = 2 ∨ a = 3) with rfl | rfl | rfl | rfl <;> rfl
/-- Two patches with an edge in common. -/
theorem side_share (N : NetD) (sk : Int) {f g a b : Nat} (ha : a < 4) (hb : b < 4) (h1 : (N.fs.getD f []).getD a 0 = (N.fs.getD g []).getD ((b + 1) % 4) 0) (h2 : (N.fs.getD f []).getD ((a + 1) % 4) 0 = (N.fs.getD g []).getD b 0) :
    (sideP (N.patch sk f) a 0 = sideP (N.patch sk g) b 3 ∧ sideP (N.patch sk f) a 1 = sideP (N.patch sk g) b 2 ∧ sideP (N.patch sk f) a 2 = sideP (N.patch sk g) b 1 ∧ sideP (N.patch sk f) a 3 = sideP (N.patch sk g) b 0) ∧ (N.patch sk f).nm a = (N.patch sk g).nm ((b + 1) % 4) ∧ (N.patch sk f).nm ((a + 1) % 4) = (N.patch sk g).nm b := by
  obtain ⟨p0, p1, p2, p3⟩ := sideP_is N sk f ha
  obtain ⟨q0, q1, q2, q3⟩ := sideP_is N sk g hb
  rw [p0, p1, p2, p3, q0, q1, q2, q3, nm_is N sk f ha, nm_is N sk f (Nat.mod_lt _ (by omega)), nm_is N sk g hb, nm_is N sk g (Nat.mod_lt _ (by omega)), h1, h2]
  exact ⟨⟨rfl, rfl, rfl, rfl⟩, rfl, rfl⟩
end Go.Proofs.Ytgmifpicilfcdab
