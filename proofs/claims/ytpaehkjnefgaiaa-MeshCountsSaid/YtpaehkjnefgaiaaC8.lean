/- Arguments opened down to their single cells, whatever their structs and arrays. No program is imported. Arguments opened: points, boxes, rows of points. Arguments opened: points and triangles. Arguments opened: arrays of four and of sixteen points. An array of sixteen points, read as a whole. Sides of both. -/
import Derived.ProofKit
import Derived.OpenShut
import Derived.Deep.Slices
import Derived.Deep.MidRow
import Derived.DeepKeys
import Derived.Test.YtpaehkjnefgaiaaProg
import Derived.Test.YtpaehkjnefgaiaaC4
import Derived.Test.YtpaehkjnefgaiaaC5
import Derived.Test.YtpaehkjnefgaiaaC7
namespace Go.Proofs.Ytpaehkjnefgaiaa
open Go.ChangeShapes Go.WideShapes Go.ChangeAt Go.RowKit
set_option linter.unusedVariables false
set_option linter.unusedSimpArgs false
/-- The single cells of a type: where each lies, and its type. -/
def leavesAt (P : Program) : Nat → Nat → TypeId → List (Nat × TypeId)
  | 0, _, _ => []
  | f + 1, off, t => match P.underlying t with
    | some (.struct fs) => fs.toList.flatMap fun fd => leavesAt P f (off + fd.offset) fd.type
    | some (.array n e) => (List.range n).flatMap fun i => leavesAt P f (off + i * P.cellsOf e) e
    | _ => [(off, t)]
section
variable {H : Type} {enc : TypeId × Value → H} {P : Program} {w : World} {base : Nat} {spare : Nat → Bool} {held : Bool}
theorem trod_single {fuel : Nat} {t : TypeId} {cs : List Value} {x : DataW H × List MemPlace} (h : DataW.trod enc P w base spare held fuel t cs = some x) (hs : ∀ fs, P.underlying t ≠ some (.struct fs)) (ha : ∀ n e, P.underlying t ≠ some (.array n e)) : ∃ c, cs = [c] := by
  cases fuel with
  | zero => simp [DataW.trod] at h
  | succ n =>
    unfold DataW.trod at h
    split at h <;> first | exact ⟨_, rfl⟩ | (rename_i hu; first | exact absurd hu (hs _) | exact absurd hu (ha _ _)) | cases h
theorem leaf_trod : ∀ (f : Nat) (t : TypeId) (off0 o : Nat) (lt : TypeId), (o, lt) ∈ leavesAt P f off0 t → ∀ (n : Nat) (cs : List Value) (x : DataW H × List MemPlace), DataW.trod enc P w base spare held n t cs = some x →
    off0 ≤ o ∧ ∃ c m y, cs[o - off0]? = some c ∧ DataW.trod enc P w base spare held m lt [c] = some y
  | 0, _, _, _, _, h, _, _, _, _ => by simp [leavesAt] at h
  | f + 1, t, off0, o, lt, h, n, cs, x, hx => by
    unfold leavesAt at h
    split at h
    · rename_i fs hu
      obtain ⟨fd, hfd, hm⟩ := List.mem_flatMap.1 h
      obtain ⟨ys, n', _, _, hlen, hyl, hf⟩ := DataW.trod_struct hu hx
      obtain ⟨j, hj⟩ := List.getElem?_of_mem hfd
      have hj' : fs[j]? = some fd := by simpa using hj
      have h1 := hf j fd hj'
      have hjl : j < ys.length := by rw [hyl]; exact (Array.getElem?_eq_some_iff.1 hj').1
      rw [List.getElem?_eq_getElem hjl] at h1
      obtain ⟨hle, c, m, y, hc, hy⟩ := leaf_trod f fd.type (off0 + fd.offset) o lt hm _ _ _ h1
      refine ⟨by omega, c, m, y, ?_, hy⟩
      rw [List.getElem?_take] at hc
      split at hc
      · rw [List.getElem?_drop] at hc
        rw [← hc]; congr 1; omega
      · cases hc
    · rename_i k e hu
      obtain ⟨i, hi, hm⟩ := List.mem_flatMap.1 h
      rw [List.mem_range] at hi
      obtain ⟨ys, n', _, _, hlen, hyl, hf⟩ := DataW.trod_array hu hx
      have h1 := hf i hi
      have hjl : i < ys.length := by rw [hyl]; exact hi
      rw [List.getElem?_eq_getElem hjl] at h1
      obtain ⟨hle, c, m, y, hc, hy⟩ := leaf_trod f e (off0 + i * P.cellsOf e) o lt hm _ _ _ h1
      refine ⟨by omega, c, m, y, ?_, hy⟩
      rw [List.getElem?_take] at hc
      split at hc
      · rw [List.getElem?_drop] at hc
        rw [← hc]; congr 1; omega
      · cases hc
    · rename_i hs ha
      simp only [List.mem_singleton, Prod.mk.injEq] at h
      obtain ⟨rfl, rfl⟩ := h
      obtain ⟨c, rfl⟩ := trod_single hx (fun fs hu => hs fs hu) (fun k e hu => ha k e hu)
      exact ⟨Nat.le_refl _, c, n, x, by simp, hx⟩
/-- All cells whole numbers of 64 bits. -/
theorem ints_trod {t ti : TypeId} {f k n : Nat} {cs : List Value} {x : DataW H × List MemPlace} (hl : leavesAt P f 0 t = (List.range k).map fun i => (i, ti)) (hti : P.underlying ti = some (.int .i64)) (hk : cs.length = k)
    (h : DataW.trod enc P w base spare held n t cs = some x) : ∃ g : Nat → Int, cs = (List.range k).map (fun i => .int .i64 (g i)) ∧ ∀ i, i < k → -9223372036854775808 ≤ g i ∧ g i ≤ 9223372036854775807 := by
  have each : ∀ i, i < k → ∃ a : Int, cs[i]? = some (.int .i64 a) ∧ (-9223372036854775808 ≤ a ∧ a ≤ 9223372036854775807) := fun i hi => by
    obtain ⟨_, c, m, y, hc, hy⟩ := leaf_trod f t 0 i ti (by rw [hl]; exact List.mem_map.2 ⟨i, List.mem_range.2 hi, rfl⟩) n cs x h
    obtain ⟨a, e0, _, wa⟩ := DataW.trod_int hti hy
    simp at e0
    subst e0
    exact ⟨a, by simpa using hc, bounds_i64 wa⟩
  refine ⟨fun i => if h : i < k then Classical.choose (each i h) else 0, ?_, fun i hi => by simp only [hi, dif_pos]; exact (Classical.choose_spec (each i hi)).2⟩
  apply List.ext_getElem?
  intro i
  by_cases hi : i < k
  · rw [(Classical.choose_spec (each i hi)).1]
    simp [hi]
  · rw [List.getElem?_eq_none (by omega), List.getElem?_eq_none (by simp; omega)]
end
end Go.Proofs.Ytpaehkjnefgaiaa
namespace Go.Proofs.Ytpaehkjnefgaiaa
open Go.ChangeShapes Go.WideShapes Go.ChangeAt Go.RowKit
set_option linter.unusedVariables false
set_option linter.unusedSimpArgs false
set_option maxRecDepth 100000
section
variable {H : Type} {enc : TypeId × Value → H} {w : World} {base b0 : Nat} {spare : Nat → Bool} {held : Bool} {v : Value} {d : DataW H} {p : List MemPlace} {r : Reach}
def In64 (a : Int) : Prop := -9223372036854775808 ≤ a ∧ a ≤ 9223372036854775807
end
end Go.Proofs.Ytpaehkjnefgaiaa
namespace Go.Proofs.Ytpaehkjnefgaiaa
open Go.ChangeShapes Go.WideShapes Go.ChangeAt Go.RowKit
set_option linter.unusedVariables false
set_option linter.unusedSimpArgs false
set_option maxRecDepth 100000
variable {H : Type} {enc : TypeId × Value → H} {w : World} {base b0 : Nat} {spare : Nat → Bool} {held : Bool} {v : Value} {d : DataW H} {p : List MemPlace} {r : Reach}
def In3 (a : P3) : Prop := In64 a.x ∧ In64 a.y ∧ In64 a.z
end Go.Proofs.Ytpaehkjnefgaiaa
namespace Go.Proofs.Ytpaehkjnefgaiaa
open Go.ChangeShapes Go.WideShapes Go.ChangeAt Go.RowKit
set_option linter.unusedVariables false
set_option linter.unusedSimpArgs false
set_option maxRecDepth 100000
section
variable {H : Type} {enc : TypeId × Value → H} {w : World} {base b0 : Nat} {spare : Nat → Bool} {held : Bool} {v : Value} {d : DataW H} {p : List MemPlace} {r : Reach}
end
end Go.Proofs.Ytpaehkjnefgaiaa
namespace Go.Proofs.Ytpaehkjnefgaiaa
open Go.RowKit
set_option linter.unusedVariables false
set_option linter.unusedSimpArgs false
set_option maxRecDepth 100000
set_option linter.unnecessarySimpa false
theorem rng_pts {W : World} {b n : Nat} {t : TypeId} {p : Nat → P3} (h : Blk W b t (ptsC n p)) : W.rangeAt b 0 (ptsC n p).toList := by
  intro j v hv
  rw [h.cell, Nat.zero_add]
  simpa using hv
theorem size16 (p : Nat → P3) : (Try.prog.info? 24).map (·.size) = some (ptsC 16 p).toList.length := by
  rw [Array.length_toList, ptsC_size]; kernel_rfl
theorem load16 {ops : Array Oper} {rest : List Oper} {op : Oper} {a : Act} {w : World} {Q : Exit → Act → World → Prop} (hgd : op.guard = none) (x : Operand) (ho : op.op = .load 24 x) (b : Nat) (hx : a.eval x = .pointer (some ⟨b, 0, none⟩)) (p : Nat → P3) (h : Blk w b 24 (ptsC 16 p))
    (k : wpList Try.prog ops Q rest (a.put op.dst (.agg (ptsC 16 p))) w) : wpList Try.prog ops Q (op :: rest) a w := by
  refine wpList_load_mid hgd 24 x ho b 0 hx (ptsC 16 p).toList _ (rng_pts h) Try.underlying24 rfl (size16 p) ?_
  rw [Array.toArray_toList]
  exact k
theorem quiet_by2 {P : Program} {ops : Array Oper} {C : World → Prop} {Q : Act → Prop} {o : Oper} {rest : List Oper} {a : Act} (hg : Region.wanted o (yielded ops a.tmps) = true) (v : Value) (h : ∀ u, C u → (execOp a.eval o).run P u = .ok (.value v) u)
    (k : wpQuiet P ops C Q rest (a.put o.dst v)) : wpQuiet P ops C Q (o :: rest) a := by
  unfold wpQuiet
  rw [if_pos hg]
  exact ⟨v, fun u hu => by unfold Oper.quietAt; rw [h u hu]; exact ⟨rfl, rfl⟩, k⟩
end Go.Proofs.Ytpaehkjnefgaiaa
namespace Go.Proofs.Ytpaehkjnefgaiaa
open Go.RowKit
set_option linter.unusedVariables false
set_option linter.unusedSimpArgs false
set_option linter.unnecessarySimpa false
set_option maxRecDepth 100000
def sdV (p : Nat → P3) (u : Int) : Value := .agg #[.int .i64 (edK (rowF p 0) u), .int .i64 (edK (rowF p 1) u), .int .i64 (edK (rowF p 2) u), .int .i64 (edK (rowF p 3) u)]
set_option maxHeartbeats 4000000 in
theorem sides_any (p : Nat → P3) (u : Int) : Gives Try.prog 24 #[.agg (ptsC 16 p), .int .i64 u] (sdV p u) := by
  have r0 := vRow_any p 0
  have m0 := edge_any (rowF p 0) u
  have r1 := vRow_any p 1
  have m1 := edge_any (rowF p 1) u
  have r2 := vRow_any p 2
  have m2 := edge_any (rowF p 2) u
  have r3 := vRow_any p 3
  have m3 := edge_any (rowF p 3) u
  unfold sdV
  generalize edK (rowF p 0) u = e0 at *
  generalize edK (rowF p 1) u = e1 at *
  generalize edK (rowF p 2) u = e2 at *
  generalize edK (rowF p 3) u = e3 at *
  refine Gives.mk fun w => ?_
  have hP0 : Blk (((w.alloc (.cells (ptsC 16 p) 24)).alloc (.cells #[.int .i64 0, .int .i64 0, .int .i64 0, .int .i64 0] 25)).alloc (.cells #[.int .i64 0, .int .i64 0, .int .i64 0, .int .i64 0] 25)) w.heap.size 24 (ptsC 16 p) := ((Blk.new _ _ _ _ rfl).alloc _).alloc _
  have hQ0 : Blk (((w.alloc (.cells (ptsC 16 p) 24)).alloc (.cells #[.int .i64 0, .int .i64 0, .int .i64 0, .int .i64 0] 25)).alloc (.cells #[.int .i64 0, .int .i64 0, .int .i64 0, .int .i64 0] 25)) (w.heap.size + 1) 25 #[.int .i64 0, .int .i64 0, .int .i64 0, .int .i64 0] := (Blk.new _ _ _ _ (by simp)).alloc _
  have hR0 : Blk (((w.alloc (.cells (ptsC 16 p) 24)).alloc (.cells #[.int .i64 0, .int .i64 0, .int .i64 0, .int .i64 0] 25)).alloc (.cells #[.int .i64 0, .int .i64 0, .int .i64 0, .int .i64 0] 25)) (w.heap.size + 1 + 1) 25 #[.int .i64 0, .int .i64 0, .int .i64 0, .int .i64 0] := Blk.new _ _ _ _ (by simp)
  have hB0 : Below w.heap.size w (((w.alloc (.cells (ptsC 16 p) 24)).alloc (.cells #[.int .i64 0, .int .i64 0, .int .i64 0, .int .i64 0] 25)).alloc (.cells #[.int .i64 0, .int .i64 0, .int .i64 0, .int .i64 0] 25)) := bel_alloc (bel_alloc (bel_alloc (Below.refl _ _) _) _) _
  go_enter Try.func24, Try.ntmps24
  go_upto_region 2 with (fail)
  generalize (((w.alloc (.cells (ptsC 16 p) 24)).alloc (.cells #[.int .i64 0, .int .i64 0, .int .i64 0, .int .i64 0] 25)).alloc (.cells #[.int .i64 0, .int .i64 0, .int .i64 0, .int .i64 0] 25)) = W0 at *
  go_wp2
  go_loopw [7] (fun iv wr => Below w.heap.size w wr ∧ Blk wr w.heap.size 24 (ptsC 16 p) ∧ Blk wr (w.heap.size + 1) 25 #[.int .i64 0, .int .i64 0, .int .i64 0, .int .i64 0] ∧ ((iv = .int .i64 0 ∧ Blk wr (w.heap.size + 1 + 1) 25 #[.int .i64 0, .int .i64 0, .int .i64 0, .int .i64 0]) ∨ (iv = .int .i64 1 ∧ Blk wr (w.heap.size + 1 + 1) 25 #[.int .i64 e0, .int .i64 0, .int .i64 0, .int .i64 0]) ∨ (iv = .int .i64 2 ∧ Blk wr (w.heap.size + 1 + 1) 25 #[.int .i64 e0, .int .i64 e1, .int .i64 0, .int .i64 0]) ∨ (iv = .int .i64 3 ∧ Blk wr (w.heap.size + 1 + 1) 25 #[.int .i64 e0, .int .i64 e1, .int .i64 e2, .int .i64 0]) ∨ (iv = .int .i64 4 ∧ Blk wr (w.heap.size + 1 + 1) 25 #[.int .i64 e0, .int .i64 e1, .int .i64 e2, .int .i64 e3]))) (fun iv _ => 4 - (intOf iv).toNat)
  case atStart => exact ⟨hB0, hP0, hQ0, .inl ⟨rfl, hR0⟩⟩
  case round =>
    obtain ⟨hBr, hPr, hQr, hi⟩ := hrel
    clear hB0 hP0 hQ0 hR0
    rename World => wr
    rcases hi with ⟨rfl, hRr⟩ | ⟨rfl, hRr⟩ | ⟨rfl, hRr⟩ | ⟨rfl, hRr⟩ | ⟨rfl, hRr⟩
    · have pl := hPr.lt
      go_upto_region 5 with (fail)
      go_wp2_with (first | ((refine load16 rfl _ rfl w.heap.size rfl p hPr ?_); simp only [Act.put, List.setIfInBounds_toArray, List.set_cons_succ, List.set_cons_zero]) | (go_at_call 42; (with_reducible refine (r0.at_ _).mono ?_); rintro e w' ⟨rfl, xr, rfl⟩) | (go_at_call 41; (with_reducible refine (m0.at_ _).mono ?_); rintro e Wo ⟨rfl, xe, hWo⟩; have hP3 : Blk Wo w.heap.size 24 (ptsC 16 p) := hWo ▸ (hPr.grow xr).grow xe; have hQ3 : Blk Wo (w.heap.size + 1) 25 #[.int .i64 0, .int .i64 0, .int .i64 0, .int .i64 0] := hWo ▸ (hQr.grow xr).grow xe; have hR3 : Blk Wo (w.heap.size + 1 + 1) 25 #[.int .i64 0, .int .i64 0, .int .i64 0, .int .i64 0] := hWo ▸ (hRr.grow xr).grow xe; have hB3 : Below w.heap.size w Wo := hWo ▸ bel_grow (bel_grow hBr xr) xe; clear hWo; have rl := hR3.lt; have f0 := hR3.frozen 0; have q0 := hR3.cell 0) | fail)
      go_roundw
      case rel => exact ⟨bel_set hB3 (by show w.heap.size ≤ w.heap.size + 1 + 1; omega) _, hP3.far _ _ (by omega), hQ3.far _ _ (by omega), .inr (.inl ⟨rfl, hR3.set 0 _⟩)⟩
      case measure => simp [intOf]
    · have pl := hPr.lt
      go_upto_region 5 with (fail)
      go_wp2_with (first | ((refine load16 rfl _ rfl w.heap.size rfl p hPr ?_); simp only [Act.put, List.setIfInBounds_toArray, List.set_cons_succ, List.set_cons_zero]) | (go_at_call 42; (with_reducible refine (r1.at_ _).mono ?_); rintro e w' ⟨rfl, xr, rfl⟩) | (go_at_call 41; (with_reducible refine (m1.at_ _).mono ?_); rintro e Wo ⟨rfl, xe, hWo⟩; have hP3 : Blk Wo w.heap.size 24 (ptsC 16 p) := hWo ▸ (hPr.grow xr).grow xe; have hQ3 : Blk Wo (w.heap.size + 1) 25 #[.int .i64 0, .int .i64 0, .int .i64 0, .int .i64 0] := hWo ▸ (hQr.grow xr).grow xe; have hR3 : Blk Wo (w.heap.size + 1 + 1) 25 #[.int .i64 e0, .int .i64 0, .int .i64 0, .int .i64 0] := hWo ▸ (hRr.grow xr).grow xe; have hB3 : Below w.heap.size w Wo := hWo ▸ bel_grow (bel_grow hBr xr) xe; clear hWo; have rl := hR3.lt; have f0 := hR3.frozen 1; have q0 := hR3.cell 1) | fail)
      go_roundw
      case rel => exact ⟨bel_set hB3 (by show w.heap.size ≤ w.heap.size + 1 + 1; omega) _, hP3.far _ _ (by omega), hQ3.far _ _ (by omega), .inr (.inr (.inl ⟨rfl, hR3.set 1 _⟩))⟩
      case measure => simp [intOf]
    · have pl := hPr.lt
      go_upto_region 5 with (fail)
      go_wp2_with (first | ((refine load16 rfl _ rfl w.heap.size rfl p hPr ?_); simp only [Act.put, List.setIfInBounds_toArray, List.set_cons_succ, List.set_cons_zero]) | (go_at_call 42; (with_reducible refine (r2.at_ _).mono ?_); rintro e w' ⟨rfl, xr, rfl⟩) | (go_at_call 41; (with_reducible refine (m2.at_ _).mono ?_); rintro e Wo ⟨rfl, xe, hWo⟩; have hP3 : Blk Wo w.heap.size 24 (ptsC 16 p) := hWo ▸ (hPr.grow xr).grow xe; have hQ3 : Blk Wo (w.heap.size + 1) 25 #[.int .i64 0, .int .i64 0, .int .i64 0, .int .i64 0] := hWo ▸ (hQr.grow xr).grow xe; have hR3 : Blk Wo (w.heap.size + 1 + 1) 25 #[.int .i64 e0, .int .i64 e1, .int .i64 0, .int .i64 0] := hWo ▸ (hRr.grow xr).grow xe; have hB3 : Below w.heap.size w Wo := hWo ▸ bel_grow (bel_grow hBr xr) xe; clear hWo; have rl := hR3.lt; have f0 := hR3.frozen 2; have q0 := hR3.cell 2) | fail)
      go_roundw
      case rel => exact ⟨bel_set hB3 (by show w.heap.size ≤ w.heap.size + 1 + 1; omega) _, hP3.far _ _ (by omega), hQ3.far _ _ (by omega), .inr (.inr (.inr (.inl ⟨rfl, hR3.set 2 _⟩)))⟩
      case measure => simp [intOf]
    · have pl := hPr.lt
      go_upto_region 5 with (fail)
      go_wp2_with (first | ((refine load16 rfl _ rfl w.heap.size rfl p hPr ?_); simp only [Act.put, List.setIfInBounds_toArray, List.set_cons_succ, List.set_cons_zero]) | (go_at_call 42; (with_reducible refine (r3.at_ _).mono ?_); rintro e w' ⟨rfl, xr, rfl⟩) | (go_at_call 41; (with_reducible refine (m3.at_ _).mono ?_); rintro e Wo ⟨rfl, xe, hWo⟩; have hP3 : Blk Wo w.heap.size 24 (ptsC 16 p) := hWo ▸ (hPr.grow xr).grow xe; have hQ3 : Blk Wo (w.heap.size + 1) 25 #[.int .i64 0, .int .i64 0, .int .i64 0, .int .i64 0] := hWo ▸ (hQr.grow xr).grow xe; have hR3 : Blk Wo (w.heap.size + 1 + 1) 25 #[.int .i64 e0, .int .i64 e1, .int .i64 e2, .int .i64 0] := hWo ▸ (hRr.grow xr).grow xe; have hB3 : Below w.heap.size w Wo := hWo ▸ bel_grow (bel_grow hBr xr) xe; clear hWo; have rl := hR3.lt; have f0 := hR3.frozen 3; have q0 := hR3.cell 3) | fail)
      go_roundw
      case rel => exact ⟨bel_set hB3 (by show w.heap.size ≤ w.heap.size + 1 + 1; omega) _, hP3.far _ _ (by omega), hQ3.far _ _ (by omega), .inr (.inr (.inr (.inr (⟨rfl, hR3.set 3 _⟩))))⟩
      case measure => simp [intOf]
    · have rl := hRr.lt
      have ql := hQr.lt
      have c0 := hRr.cell 0
      have o0 := hQr.cell 0
      have f0 := hQr.frozen 0
      have c1 := hRr.cell 1
      have o1 := hQr.cell 1
      have f1 := hQr.frozen 1
      have c2 := hRr.cell 2
      have o2 := hQr.cell 2
      have f2 := hQr.frozen 2
      have c3 := hRr.cell 3
      have o3 := hQr.cell 3
      have f3 := hQr.frozen 3
      go_wp2
      have hQ5 := (((hQr.set 0 (.int .i64 e0)).set 1 (.int .i64 e1)).set 2 (.int .i64 e2)).set 3 (.int .i64 e3)
      have hB5 : Below w.heap.size w ((((wr.setCell ⟨w.heap.size + 1, 0, none⟩ (.int .i64 e0)).setCell ⟨w.heap.size + 1, 1, none⟩ (.int .i64 e1)).setCell ⟨w.heap.size + 1, 2, none⟩ (.int .i64 e2)).setCell ⟨w.heap.size + 1, 3, none⟩ (.int .i64 e3)) := bel_set (bel_set (bel_set (bel_set hBr (by simp) _) (by simp) _) (by simp) _) (by simp) _
      generalize ((((wr.setCell ⟨w.heap.size + 1, 0, none⟩ (.int .i64 e0)).setCell ⟨w.heap.size + 1, 1, none⟩ (.int .i64 e1)).setCell ⟨w.heap.size + 1, 2, none⟩ (.int .i64 e2)).setCell ⟨w.heap.size + 1, 3, none⟩ (.int .i64 e3)) = WE at *
      have w0 : WE.cell? ⟨w.heap.size + 1, 0, none⟩ = some (.int .i64 e0) := hQ5.cell 0
      have w1 : WE.cell? ⟨w.heap.size + 1, 1, none⟩ = some (.int .i64 e1) := hQ5.cell 1
      have w2 : WE.cell? ⟨w.heap.size + 1, 2, none⟩ = some (.int .i64 e2) := hQ5.cell 2
      have w3 : WE.cell? ⟨w.heap.size + 1, 3, none⟩ = some (.int .i64 e3) := hQ5.cell 3
      refine bodyPost_ret (v := .agg #[.int .i64 e0, .int .i64 e1, .int .i64 e2, .int .i64 e3]) (by simp [results, Try.results24, go_sem, w0, w1, w2, w3]) rfl ⟨rfl, hB5⟩
end Go.Proofs.Ytpaehkjnefgaiaa
