/- Arguments opened: arrays of four and of sixteen points. An array of sixteen points, read as a whole. Sides of both. Two arrays of four whole numbers compared. Layer 13, in numbers: the spots and the triangles over a square, as lists. Layer 13, in numbers: the edges of the triangles, each gone along once. -/
import Derived.Deep.MidRow
import Derived.DeepKeys
import Derived.Test.YtpaehkjnefgaiaaC0
import Derived.Test.YtpaehkjnefgaiaaC3
import Derived.Test.YtpaehkjnefgaiaaC4
namespace Go.Proofs.Ytpaehkjnefgaiaa
open Go.ChangeShapes Go.WideShapes Go.ChangeAt Go.RowKit
set_option linter.unusedVariables false
set_option linter.unusedSimpArgs false
set_option maxRecDepth 100000
section
variable {H : Type} {enc : TypeId × Value → H} {w : World} {base b0 : Nat} {spare : Nat → Bool} {held : Bool} {v : Value} {d : DataW H} {p : List MemPlace} {r : Reach}
end
end Go.Proofs.Ytpaehkjnefgaiaa
namespace Go.Proofs.Ytpaehkjnefgaiaa
open Go.RowKit
set_option linter.unusedVariables false
set_option linter.unusedSimpArgs false
set_option maxRecDepth 100000
set_option linter.unnecessarySimpa false
theorem rng_pts {W : World} {b n : Nat} {t : TypeId} {p : Nat → P3} (h : Blk W b t (ptsC n p)) : W.rangeAt b 0 (ptsC n p).toList := by
  intro j v hv
  rw [h.cell, Nat.zero_add]
  simpa using hv
theorem size16 (p : Nat → P3) : (Try.prog.info? 24).map (·.size) = some (ptsC 16 p).toList.length := by
  rw [Array.length_toList, ptsC_size]; kernel_rfl
theorem load16 {ops : Array Oper} {rest : List Oper} {op : Oper} {a : Act} {w : World} {Q : Exit → Act → World → Prop} (hgd : op.guard = none) (x : Operand) (ho : op.op = .load 24 x) (b : Nat) (hx : a.eval x = .pointer (some ⟨b, 0, none⟩)) (p : Nat → P3) (h : Blk w b 24 (ptsC 16 p))
    (k : wpList Try.prog ops Q rest (a.put op.dst (.agg (ptsC 16 p))) w) : wpList Try.prog ops Q (op :: rest) a w := by
  refine wpList_load_mid hgd 24 x ho b 0 hx (ptsC 16 p).toList _ (rng_pts h) Try.underlying24 rfl (size16 p) ?_
  rw [Array.toArray_toList]
  exact k
theorem quiet_by2 {P : Program} {ops : Array Oper} {C : World → Prop} {Q : Act → Prop} {o : Oper} {rest : List Oper} {a : Act} (hg : Region.wanted o (yielded ops a.tmps) = true) (v : Value) (h : ∀ u, C u → (execOp a.eval o).run P u = .ok (.value v) u)
    (k : wpQuiet P ops C Q rest (a.put o.dst v)) : wpQuiet P ops C Q (o :: rest) a := by
  unfold wpQuiet
  rw [if_pos hg]
  exact ⟨v, fun u hu => by unfold Oper.quietAt; rw [h u hu]; exact ⟨rfl, rfl⟩, k⟩
end Go.Proofs.Ytpaehkjnefgaiaa
namespace Go.Proofs.Ytpaehkjnefgaiaa
open Go.RowKit
set_option linter.unusedVariables false
set_option linter.unusedSimpArgs false
set_option linter.unnecessarySimpa false
set_option maxRecDepth 100000
def sdV (p : Nat → P3) (u : Int) : Value := .agg #[.int .i64 (edK (rowF p 0) u), .int .i64 (edK (rowF p 1) u), .int .i64 (edK (rowF p 2) u), .int .i64 (edK (rowF p 3) u)]
set_option maxHeartbeats 4000000 in
theorem sides_any (p : Nat → P3) (u : Int) : Gives Try.prog 24 #[.agg (ptsC 16 p), .int .i64 u] (sdV p u) := by
  have r0 := vRow_any p 0
  have m0 := edge_any (rowF p 0) u
  have r1 := vRow_any p 1
  have m1 := edge_any (rowF p 1) u
  have r2 := vRow_any p 2
  have m2 := edge_any (rowF p 2) u
  have r3 := vRow_any p 3
  have m3 := edge_any (rowF p 3) u
  unfold sdV
  generalize edK (rowF p 0) u = e0 at *
  generalize edK (rowF p 1) u = e1 at *
  generalize edK (rowF p 2) u = e2 at *
  generalize edK (rowF p 3) u = e3 at *
  refine Gives.mk fun w => ?_
  have hP0 : Blk (((w.alloc (.cells (ptsC 16 p) 24)).alloc (.cells #[.int .i64 0, .int .i64 0, .int .i64 0, .int .i64 0] 25)).alloc (.cells #[.int .i64 0, .int .i64 0, .int .i64 0, .int .i64 0] 25)) w.heap.size 24 (ptsC 16 p) := ((Blk.new _ _ _ _ rfl).alloc _).alloc _
  have hQ0 : Blk (((w.alloc (.cells (ptsC 16 p) 24)).alloc (.cells #[.int .i64 0, .int .i64 0, .int .i64 0, .int .i64 0] 25)).alloc (.cells #[.int .i64 0, .int .i64 0, .int .i64 0, .int .i64 0] 25)) (w.heap.size + 1) 25 #[.int .i64 0, .int .i64 0, .int .i64 0, .int .i64 0] := (Blk.new _ _ _ _ (by simp)).alloc _
  have hR0 : Blk (((w.alloc (.cells (ptsC 16 p) 24)).alloc (.cells #[.int .i64 0, .int .i64 0, .int .i64 0, .int .i64 0] 25)).alloc (.cells #[.int .i64 0, .int .i64 0, .int .i64 0, .int .i64 0] 25)) (w.heap.size + 1 + 1) 25 #[.int .i64 0, .int .i64 0, .int .i64 0, .int .i64 0] := Blk.new _ _ _ _ (by simp)
  have hB0 : Below w.heap.size w (((w.alloc (.cells (ptsC 16 p) 24)).alloc (.cells #[.int .i64 0, .int .i64 0, .int .i64 0, .int .i64 0] 25)).alloc (.cells #[.int .i64 0, .int .i64 0, .int .i64 0, .int .i64 0] 25)) := bel_alloc (bel_alloc (bel_alloc (Below.refl _ _) _) _) _
  go_enter Try.func24, Try.ntmps24
  go_upto_region 2 with (fail)
  generalize (((w.alloc (.cells (ptsC 16 p) 24)).alloc (.cells #[.int .i64 0, .int .i64 0, .int .i64 0, .int .i64 0] 25)).alloc (.cells #[.int .i64 0, .int .i64 0, .int .i64 0, .int .i64 0] 25)) = W0 at *
  go_wp2
  go_loopw [7] (fun iv wr => Below w.heap.size w wr ∧ Blk wr w.heap.size 24 (ptsC 16 p) ∧ Blk wr (w.heap.size + 1) 25 #[.int .i64 0, .int .i64 0, .int .i64 0, .int .i64 0] ∧ ((iv = .int .i64 0 ∧ Blk wr (w.heap.size + 1 + 1) 25 #[.int .i64 0, .int .i64 0, .int .i64 0, .int .i64 0]) ∨ (iv = .int .i64 1 ∧ Blk wr (w.heap.size + 1 + 1) 25 #[.int .i64 e0, .int .i64 0, .int .i64 0, .int .i64 0]) ∨ (iv = .int .i64 2 ∧ Blk wr (w.heap.size + 1 + 1) 25 #[.int .i64 e0, .int .i64 e1, .int .i64 0, .int .i64 0]) ∨ (iv = .int .i64 3 ∧ Blk wr (w.heap.size + 1 + 1) 25 #[.int .i64 e0, .int .i64 e1, .int .i64 e2, .int .i64 0]) ∨ (iv = .int .i64 4 ∧ Blk wr (w.heap.size + 1 + 1) 25 #[.int .i64 e0, .int .i64 e1, .int .i64 e2, .int .i64 e3]))) (fun iv _ => 4 - (intOf iv).toNat)
  case atStart => exact ⟨hB0, hP0, hQ0, .inl ⟨rfl, hR0⟩⟩
  case round =>
    obtain ⟨hBr, hPr, hQr, hi⟩ := hrel
    clear hB0 hP0 hQ0 hR0
    rename World => wr
    rcases hi with ⟨rfl, hRr⟩ | ⟨rfl, hRr⟩ | ⟨rfl, hRr⟩ | ⟨rfl, hRr⟩ | ⟨rfl, hRr⟩
    · have pl := hPr.lt
      go_upto_region 5 with (fail)
      go_wp2_with (first | ((refine load16 rfl _ rfl w.heap.size rfl p hPr ?_); simp only [Act.put, List.setIfInBounds_toArray, List.set_cons_succ, List.set_cons_zero]) | (go_at_call 42; (with_reducible refine (r0.at_ _).mono ?_); rintro e w' ⟨rfl, xr, rfl⟩) | (go_at_call 41; (with_reducible refine (m0.at_ _).mono ?_); rintro e Wo ⟨rfl, xe, hWo⟩; have hP3 : Blk Wo w.heap.size 24 (ptsC 16 p) := hWo ▸ (hPr.grow xr).grow xe; have hQ3 : Blk Wo (w.heap.size + 1) 25 #[.int .i64 0, .int .i64 0, .int .i64 0, .int .i64 0] := hWo ▸ (hQr.grow xr).grow xe; have hR3 : Blk Wo (w.heap.size + 1 + 1) 25 #[.int .i64 0, .int .i64 0, .int .i64 0, .int .i64 0] := hWo ▸ (hRr.grow xr).grow xe; have hB3 : Below w.heap.size w Wo := hWo ▸ bel_grow (bel_grow hBr xr) xe; clear hWo; have rl := hR3.lt; have f0 := hR3.frozen 0; have q0 := hR3.cell 0) | fail)
      go_roundw
      case rel => exact ⟨bel_set hB3 (by show w.heap.size ≤ w.heap.size + 1 + 1; omega) _, hP3.far _ _ (by omega), hQ3.far _ _ (by omega), .inr (.inl ⟨rfl, hR3.set 0 _⟩)⟩
      case measure => simp [intOf]
    · have pl := hPr.lt
      go_upto_region 5 with (fail)
      go_wp2_with (first | ((refine load16 rfl _ rfl w.heap.size rfl p hPr ?_); simp only [Act.put, List.setIfInBounds_toArray, List.set_cons_succ, List.set_cons_zero]) | (go_at_call 42; (with_reducible refine (r1.at_ _).mono ?_); rintro e w' ⟨rfl, xr, rfl⟩) | (go_at_call 41; (with_reducible refine (m1.at_ _).mono ?_); rintro e Wo ⟨rfl, xe, hWo⟩; have hP3 : Blk Wo w.heap.size 24 (ptsC 16 p) := hWo ▸ (hPr.grow xr).grow xe; have hQ3 : Blk Wo (w.heap.size + 1) 25 #[.int .i64 0, .int .i64 0, .int .i64 0, .int .i64 0] := hWo ▸ (hQr.grow xr).grow xe; have hR3 : Blk Wo (w.heap.size + 1 + 1) 25 #[.int .i64 e0, .int .i64 0, .int .i64 0, .int .i64 0] := hWo ▸ (hRr.grow xr).grow xe; have hB3 : Below w.heap.size w Wo := hWo ▸ bel_grow (bel_grow hBr xr) xe; clear hWo; have rl := hR3.lt; have f0 := hR3.frozen 1; have q0 := hR3.cell 1) | fail)
      go_roundw
      case rel => exact ⟨bel_set hB3 (by show w.heap.size ≤ w.heap.size + 1 + 1; omega) _, hP3.far _ _ (by omega), hQ3.far _ _ (by omega), .inr (.inr (.inl ⟨rfl, hR3.set 1 _⟩))⟩
      case measure => simp [intOf]
    · have pl := hPr.lt
      go_upto_region 5 with (fail)
      go_wp2_with (first | ((refine load16 rfl _ rfl w.heap.size rfl p hPr ?_); simp only [Act.put, List.setIfInBounds_toArray, List.set_cons_succ, List.set_cons_zero]) | (go_at_call 42; (with_reducible refine (r2.at_ _).mono ?_); rintro e w' ⟨rfl, xr, rfl⟩) | (go_at_call 41; (with_reducible refine (m2.at_ _).mono ?_); rintro e Wo ⟨rfl, xe, hWo⟩; have hP3 : Blk Wo w.heap.size 24 (ptsC 16 p) := hWo ▸ (hPr.grow xr).grow xe; have hQ3 : Blk Wo (w.heap.size + 1) 25 #[.int .i64 0, .int .i64 0, .int .i64 0, .int .i64 0] := hWo ▸ (hQr.grow xr).grow xe; have hR3 : Blk Wo (w.heap.size + 1 + 1) 25 #[.int .i64 e0, .int .i64 e1, .int .i64 0, .int .i64 0] := hWo ▸ (hRr.grow xr).grow xe; have hB3 : Below w.heap.size w Wo := hWo ▸ bel_grow (bel_grow hBr xr) xe; clear hWo; have rl := hR3.lt; have f0 := hR3.frozen 2; have q0 := hR3.cell 2) | fail)
      go_roundw
      case rel => exact ⟨bel_set hB3 (by show w.heap.size ≤ w.heap.size + 1 + 1; omega) _, hP3.far _ _ (by omega), hQ3.far _ _ (by omega), .inr (.inr (.inr (.inl ⟨rfl, hR3.set 2 _⟩)))⟩
      case measure => simp [intOf]
    · have pl := hPr.lt
      go_upto_region 5 with (fail)
      go_wp2_with (first | ((refine load16 rfl _ rfl w.heap.size rfl p hPr ?_); simp only [Act.put, List.setIfInBounds_toArray, List.set_cons_succ, List.set_cons_zero]) | (go_at_call 42; (with_reducible refine (r3.at_ _).mono ?_); rintro e w' ⟨rfl, xr, rfl⟩) | (go_at_call 41; (with_reducible refine (m3.at_ _).mono ?_); rintro e Wo ⟨rfl, xe, hWo⟩; have hP3 : Blk Wo w.heap.size 24 (ptsC 16 p) := hWo ▸ (hPr.grow xr).grow xe; have hQ3 : Blk Wo (w.heap.size + 1) 25 #[.int .i64 0, .int .i64 0, .int .i64 0, .int .i64 0] := hWo ▸ (hQr.grow xr).grow xe; have hR3 : Blk Wo (w.heap.size + 1 + 1) 25 #[.int .i64 e0, .int .i64 e1, .int .i64 e2, .int .i64 0] := hWo ▸ (hRr.grow xr).grow xe; have hB3 : Below w.heap.size w Wo := hWo ▸ bel_grow (bel_grow hBr xr) xe; clear hWo; have rl := hR3.lt; have f0 := hR3.frozen 3; have q0 := hR3.cell 3) | fail)
      go_roundw
      case rel => exact ⟨bel_set hB3 (by show w.heap.size ≤ w.heap.size + 1 + 1; omega) _, hP3.far _ _ (by omega), hQ3.far _ _ (by omega), .inr (.inr (.inr (.inr (⟨rfl, hR3.set 3 _⟩))))⟩
      case measure => simp [intOf]
    · have rl := hRr.lt
      have ql := hQr.lt
      have c0 := hRr.cell 0
      have o0 := hQr.cell 0
      have f0 := hQr.frozen 0
      have c1 := hRr.cell 1
      have o1 := hQr.cell 1
      have f1 := hQr.frozen 1
      have c2 := hRr.cell 2
      have o2 := hQr.cell 2
      have f2 := hQr.frozen 2
      have c3 := hRr.cell 3
      have o3 := hQr.cell 3
      have f3 := hQr.frozen 3
      go_wp2
      have hQ5 := (((hQr.set 0 (.int .i64 e0)).set 1 (.int .i64 e1)).set 2 (.int .i64 e2)).set 3 (.int .i64 e3)
      have hB5 : Below w.heap.size w ((((wr.setCell ⟨w.heap.size + 1, 0, none⟩ (.int .i64 e0)).setCell ⟨w.heap.size + 1, 1, none⟩ (.int .i64 e1)).setCell ⟨w.heap.size + 1, 2, none⟩ (.int .i64 e2)).setCell ⟨w.heap.size + 1, 3, none⟩ (.int .i64 e3)) := bel_set (bel_set (bel_set (bel_set hBr (by simp) _) (by simp) _) (by simp) _) (by simp) _
      generalize ((((wr.setCell ⟨w.heap.size + 1, 0, none⟩ (.int .i64 e0)).setCell ⟨w.heap.size + 1, 1, none⟩ (.int .i64 e1)).setCell ⟨w.heap.size + 1, 2, none⟩ (.int .i64 e2)).setCell ⟨w.heap.size + 1, 3, none⟩ (.int .i64 e3)) = WE at *
      have w0 : WE.cell? ⟨w.heap.size + 1, 0, none⟩ = some (.int .i64 e0) := hQ5.cell 0
      have w1 : WE.cell? ⟨w.heap.size + 1, 1, none⟩ = some (.int .i64 e1) := hQ5.cell 1
      have w2 : WE.cell? ⟨w.heap.size + 1, 2, none⟩ = some (.int .i64 e2) := hQ5.cell 2
      have w3 : WE.cell? ⟨w.heap.size + 1, 3, none⟩ = some (.int .i64 e3) := hQ5.cell 3
      refine bodyPost_ret (v := .agg #[.int .i64 e0, .int .i64 e1, .int .i64 e2, .int .i64 e3]) (by simp [results, Try.results24, go_sem, w0, w1, w2, w3]) rfl ⟨rfl, hB5⟩
end Go.Proofs.Ytpaehkjnefgaiaa
namespace Go.Proofs.Ytpaehkjnefgaiaa
open Go.RowKit
set_option linter.unusedVariables false
set_option linter.unusedSimpArgs false
set_option linter.unnecessarySimpa false
set_option maxRecDepth 100000
end Go.Proofs.Ytpaehkjnefgaiaa
namespace Go.Proofs.Ytpaehkjnefgaiaa
set_option linter.unusedVariables false
set_option linter.unusedSimpArgs false
set_option linter.unnecessarySimpa false
abbrev Spt := Int × Int × Int
abbrev Tri := Spt × Spt × Spt
def corS (k : Nat) : Spt := (1, (k : Int), 0)
def edgS (k i : Nat) : Spt := (2, (k : Int), (i : Int))
def innS (a b : Nat) : Spt := (3, (a : Int), (b : Int))
def outS (k r i : Nat) : Spt := if i = 0 then corS k else if i = r then corS ((k + 1) % 4) else edgS k i
def besS (k t R : Nat) : Spt := if k = 0 then innS t 1 else if k = 1 then innS (R - 1) t else if k = 2 then innS (R - t) (R - 1) else innS 1 (R - t)
/-- What a loop makes, in n rounds. -/
def upTo {α : Type} (f : Nat → List α) : Nat → List α
  | 0 => []
  | n + 1 => upTo f n ++ f n
def mxR (r : Nat → Nat) : Nat → Nat
  | 0 => 0
  | k + 1 => max (mxR r k) (r k)
def corsS (n : Nat) : List Spt := upTo (fun k => [corS k]) n
def edgeS (k m : Nat) : List Spt := upTo (fun i => [edgS k (i + 1)]) m
def edgesS (r : Nat → Nat) (n : Nat) : List Spt := upTo (fun k => edgeS k (r k - 1)) n
def rowS (b m : Nat) : List Spt := upTo (fun a => [innS (a + 1) (b + 1)]) m
def rowsS (R n : Nat) : List Spt := upTo (fun b => rowS b (R - 1)) n
def spotsR (r : Nat → Nat) (R : Nat) : List Spt := corsS 4 ++ edgesS r 4 ++ rowsS R (R - 1)
def sqS (p q x y : Spt) : List Tri := [(p, q, x), (p, x, y)]
def sqA (a b : Nat) : List Tri := sqS (innS a b) (innS (a + 1) b) (innS (a + 1) (b + 1)) (innS a (b + 1))
def sqRow (b m : Nat) : List Tri := upTo (fun a => sqA (a + 1) (b + 1)) m
def sqRows (R n : Nat) : List Tri := upTo (fun b => sqRow b (R - 2)) n
def goA (r R i t : Nat) : Prop := i < r ∧ (t = R - 1 ∨ (2 * i + 1) * R ≤ (2 * t + 1) * r)
instance (r R i t : Nat) : Decidable (goA r R i t) := by unfold goA; infer_instance
def stpS (k r R : Nat) : Nat → Nat → Nat → List Tri
  | 0, _, _ => []
  | n + 1, i, t => if goA r R i t then (outS k r i, outS k r (i + 1), besS k t R) :: stpS k r R n (i + 1) t
      else (outS k r i, besS k (t + 1) R, besS k t R) :: stpS k r R n i (t + 1)
def leftS (r R i t : Nat) : Nat := (r - i) + (R - 1 - t)
def stripS (k r R : Nat) : List Tri := stpS k r R (leftS r R 0 1) 0 1
def stripsS (r : Nat → Nat) (R n : Nat) : List Tri := upTo (fun k => stripS k (r k) R) n
def trisR (r : Nat → Nat) (R : Nat) : List Tri := if R = 1 then sqS (corS 0) (corS 1) (corS 2) (corS 3) else sqRows R (R - 2) ++ stripsS r R 4
theorem stp_A {k r R i t : Nat} (h : goA r R i t) : stpS k r R (leftS r R i t) i t = (outS k r i, outS k r (i + 1), besS k t R) :: stpS k r R (leftS r R (i + 1) t) (i + 1) t := by
  have e : leftS r R i t = leftS r R (i + 1) t + 1 := by have := h.1; unfold leftS; omega
  rw [e]
  exact if_pos h
theorem stp_B {k r R i t : Nat} (h : ¬ goA r R i t) (ht : t < R - 1) : stpS k r R (leftS r R i t) i t = (outS k r i, besS k (t + 1) R, besS k t R) :: stpS k r R (leftS r R i (t + 1)) i (t + 1) := by
  have e : leftS r R i t = leftS r R i (t + 1) + 1 := by unfold leftS; omega
  rw [e]
  exact if_neg h
/-- Without the last of the loop's test: where neither goes on, both are at their ends. -/
theorem goA_end {r R i t : Nat} (h : ¬ goA r R i t) (hl : i < r ∨ t < R - 1) (ht : t ≤ R - 1) : t < R - 1 := by
  unfold goA at h
  omega
theorem mem_upTo {α : Type} {f : Nat → List α} {x : α} : ∀ {n : Nat}, x ∈ upTo f n ↔ ∃ i, i < n ∧ x ∈ f i
  | 0 => by simp [upTo]
  | n + 1 => by
    simp only [upTo, List.mem_append, mem_upTo]
    constructor
    · rintro (⟨i, h1, h2⟩ | h)
      · exact ⟨i, by omega, h2⟩
      · exact ⟨n, by omega, h⟩
    · rintro ⟨i, h1, h2⟩
      by_cases e : i = n
      · subst e; exact .inr h2
      · exact .inl ⟨i, by omega, h2⟩
theorem upTo_len {α : Type} {f : Nat → List α} {c : Nat} : ∀ n : Nat, (∀ i, i < n → (f i).length = c) → (upTo f n).length = n * c
  | 0, _ => by simp [upTo]
  | n + 1, h => by
    show (upTo f n ++ f n).length = _
    rw [List.length_append, upTo_len n (fun i hi => h i (by omega)), h n (by omega), Nat.add_mul, Nat.one_mul]
/-! Where a spot is in a list. -/
def nof : List Spt → Spt → Nat
  | [], _ => 0
  | q :: l, s => if q = s then 0 else nof l s + 1
theorem nof_app : ∀ {l m : List Spt} {s : Spt}, s ∈ l → nof (l ++ m) s = nof l s
  | q :: l, m, s, h => by
    show nof (q :: (l ++ m)) s = _
    unfold nof
    split
    · rfl
    · rename_i e
      have : s ∈ l := by
        rcases List.mem_cons.1 h with h | h
        · exact absurd h.symm e
        · exact h
      rw [nof_app this]
theorem nof_snoc : ∀ {l : List Spt} {s : Spt}, s ∉ l → nof (l ++ [s]) s = l.length
  | [], s, _ => by simp [nof]
  | q :: l, s, h => by
    show nof (q :: (l ++ [s])) s = _
    unfold nof
    rw [if_neg (by rintro rfl; exact h List.mem_cons_self), nof_snoc (fun h2 => h (List.mem_cons_of_mem _ h2))]
    simp
/-! The spots: each once. -/
theorem mem_spots {r : Nat → Nat} {R : Nat} {s : Spt} : s ∈ spotsR r R ↔ (∃ k, k < 4 ∧ s = corS k) ∨ (∃ k i, k < 4 ∧ 1 ≤ i ∧ i < r k ∧ s = edgS k i) ∨ (∃ a b, 1 ≤ a ∧ a < R ∧ 1 ≤ b ∧ b < R ∧ s = innS a b) := by
  unfold spotsR corsS edgesS edgeS rowsS rowS
  simp only [List.mem_append, mem_upTo, List.mem_singleton]
  constructor
  · rintro ((⟨k, h1, h2⟩ | ⟨k, h1, i, h2, h3⟩) | ⟨b, h1, a, h2, h3⟩)
    · exact .inl ⟨k, h1, h2⟩
    · exact .inr (.inl ⟨k, i + 1, h1, by omega, by omega, h3⟩)
    · exact .inr (.inr ⟨a + 1, b + 1, by omega, by omega, by omega, by omega, h3⟩)
  · rintro (⟨k, h1, h2⟩ | ⟨k, i, h1, h2, h3, h4⟩ | ⟨a, b, h1, h2, h3, h4, h5⟩)
    · exact .inl (.inl ⟨k, h1, h2⟩)
    · exact .inl (.inr ⟨k, h1, i - 1, by omega, by rw [show i - 1 + 1 = i by omega]; exact h4⟩)
    · exact .inr ⟨b - 1, by omega, a - 1, by omega, by rw [show a - 1 + 1 = a by omega, show b - 1 + 1 = b by omega]; exact h5⟩
theorem corS_inj {j k : Nat} (h : corS j = corS k) : j = k := by
  unfold corS at h; simp only [Prod.mk.injEq] at h; omega
theorem edgS_inj {j k i l : Nat} (h : edgS j i = edgS k l) : j = k ∧ i = l := by
  unfold edgS at h; simp only [Prod.mk.injEq] at h; omega
theorem innS_inj {j k i l : Nat} (h : innS j i = innS k l) : j = k ∧ i = l := by
  unfold innS at h; simp only [Prod.mk.injEq] at h; omega
theorem cors_len (n : Nat) : (corsS n).length = n := by
  have := upTo_len (f := fun k => [corS k]) (c := 1) n (fun i _ => rfl)
  unfold corsS; omega
theorem edge_len (k m : Nat) : (edgeS k m).length = m := by
  have := upTo_len (f := fun i => [edgS k (i + 1)]) (c := 1) m (fun i _ => rfl)
  unfold edgeS; omega
theorem row_len (b m : Nat) : (rowS b m).length = m := by
  have := upTo_len (f := fun a => [innS (a + 1) (b + 1)]) (c := 1) m (fun i _ => rfl)
  unfold rowS; omega
theorem rows_len (R n : Nat) : (rowsS R n).length = n * (R - 1) := upTo_len n (fun i _ => row_len i _)
theorem spots_len (r : Nat → Nat) (R : Nat) (h : ∀ k, k < 4 → 1 ≤ r k) : (spotsR r R).length = r 0 + r 1 + r 2 + r 3 + (R - 1) * (R - 1) := by
  unfold spotsR
  rw [List.length_append, List.length_append, cors_len, rows_len]
  unfold edgesS upTo upTo upTo upTo upTo
  simp only [List.length_append, edge_len, List.length_nil]
  have := h 0 (by omega)
  have := h 1 (by omega)
  have := h 2 (by omega)
  have := h 3 (by omega)
  omega
theorem stp_len (k r R : Nat) : ∀ n i t, (stpS k r R n i t).length = n
  | 0, i, t => rfl
  | n + 1, i, t => by
    unfold stpS
    split
    · simp [stp_len k r R n]
    · simp [stp_len k r R n]
theorem strip_len (k r R : Nat) : (stripS k r R).length = r + (R - 2) := by
  unfold stripS
  rw [stp_len]
  unfold leftS
  omega
theorem sqRow_len (b m : Nat) : (sqRow b m).length = m * 2 := upTo_len m (fun i _ => rfl)
theorem sqRows_len (R n : Nat) : (sqRows R n).length = n * ((R - 2) * 2) := upTo_len n (fun i _ => sqRow_len i _)
theorem tris_len (r : Nat → Nat) (R : Nat) (h1 : 2 ≤ R) : (trisR r R).length = (R - 2) * ((R - 2) * 2) + (r 0 + r 1 + r 2 + r 3 + 4 * (R - 2)) := by
  unfold trisR
  rw [if_neg (by omega), List.length_append, sqRows_len]
  unfold stripsS upTo upTo upTo upTo upTo
  simp only [List.length_append, strip_len, List.length_nil]
  omega
end Go.Proofs.Ytpaehkjnefgaiaa
namespace Go.Proofs.Ytpaehkjnefgaiaa
set_option linter.unusedVariables false
set_option linter.unusedSimpArgs false
set_option linter.unnecessarySimpa false
abbrev Edg := Spt × Spt
theorem out_end {k r : Nat} (hr : 1 ≤ r) : outS k r r = corS ((k + 1) % 4) := by
  unfold outS; rw [if_neg (by omega), if_pos rfl]
theorem out_mid {k r i : Nat} (h1 : 1 ≤ i) (h2 : i < r) : outS k r i = edgS k i := by
  unfold outS; rw [if_neg (by omega), if_neg (by omega)]
theorem not_goA {r R i t : Nat} (h : ¬ goA r R i t) (hi : i ≤ r) (ht : t ≤ R - 1) {n : Nat} (hn : leftS r R i t = n + 1) : t < R - 1 := by
  unfold leftS at hn
  exact goA_end h (by omega) ht
theorem left_A {r R i t n : Nat} (h : goA r R i t) (hn : leftS r R i t = n + 1) : leftS r R (i + 1) t = n ∧ i + 1 ≤ r := by
  have := h.1; unfold leftS at *; omega
theorem left_B {r R i t n : Nat} (h : t < R - 1) (hn : leftS r R i t = n + 1) : leftS r R i (t + 1) = n ∧ t + 1 ≤ R - 1 := by
  unfold leftS at *; omega
end Go.Proofs.Ytpaehkjnefgaiaa
