/- Arguments opened down to their single cells, whatever their structs and arrays. No program is imported. Arguments opened: points, boxes, rows of points. Arguments opened: points and triangles. Arguments opened: arrays of four and of sixteen points. Calls in drawn regions by contracts at a world; what least boxes are like. The last step of a law's row: it answered true, and all that was there is as it was. No program is imported. -/
import Derived.ProofKit
import Derived.OpenShut
import Derived.Deep.Slices
import Derived.Carry
import Derived.Test.YtiaikceoodeboabProg
import Derived.Test.YtiaikceoodeboabC0
import Derived.Test.YtiaikceoodeboabC1
import Derived.Test.YtiaikceoodeboabC3
namespace Go.Proofs.Ytiaikceoodeboab
open Go.ChangeShapes Go.WideShapes Go.ChangeAt Go.RowKit
set_option linter.unusedVariables false
set_option linter.unusedSimpArgs false
/-- The single cells of a type: where each lies, and its type. -/
def leavesAt (P : Program) : Nat → Nat → TypeId → List (Nat × TypeId)
  | 0, _, _ => []
  | f + 1, off, t => match P.underlying t with
    | some (.struct fs) => fs.toList.flatMap fun fd => leavesAt P f (off + fd.offset) fd.type
    | some (.array n e) => (List.range n).flatMap fun i => leavesAt P f (off + i * P.cellsOf e) e
    | _ => [(off, t)]
section
variable {H : Type} {enc : TypeId × Value → H} {P : Program} {w : World} {base : Nat} {spare : Nat → Bool} {held : Bool}
theorem trod_single {fuel : Nat} {t : TypeId} {cs : List Value} {x : DataW H × List MemPlace} (h : DataW.trod enc P w base spare held fuel t cs = some x) (hs : ∀ fs, P.underlying t ≠ some (.struct fs)) (ha : ∀ n e, P.underlying t ≠ some (.array n e)) : ∃ c, cs = [c] := by
  cases fuel with
  | zero => simp [DataW.trod] at h
  | succ n =>
    unfold DataW.trod at h
    split at h <;> first | exact ⟨_, rfl⟩ | (rename_i hu; first | exact absurd hu (hs _) | exact absurd hu (ha _ _)) | cases h
theorem leaf_trod : ∀ (f : Nat) (t : TypeId) (off0 o : Nat) (lt : TypeId), (o, lt) ∈ leavesAt P f off0 t → ∀ (n : Nat) (cs : List Value) (x : DataW H × List MemPlace), DataW.trod enc P w base spare held n t cs = some x →
    off0 ≤ o ∧ ∃ c m y, cs[o - off0]? = some c ∧ DataW.trod enc P w base spare held m lt [c] = some y
  | 0, _, _, _, _, h, _, _, _, _ => by simp [leavesAt] at h
  | f + 1, t, off0, o, lt, h, n, cs, x, hx => by
    unfold leavesAt at h
    split at h
    · rename_i fs hu
      obtain ⟨fd, hfd, hm⟩ := List.mem_flatMap.1 h
      obtain ⟨ys, n', _, _, hlen, hyl, hf⟩ := DataW.trod_struct hu hx
      obtain ⟨j, hj⟩ := List.getElem?_of_mem hfd
      have hj' : fs[j]? = some fd := by simpa using hj
      have h1 := hf j fd hj'
      have hjl : j < ys.length := by rw [hyl]; exact (Array.getElem?_eq_some_iff.1 hj').1
      rw [List.getElem?_eq_getElem hjl] at h1
      obtain ⟨hle, c, m, y, hc, hy⟩ := leaf_trod f fd.type (off0 + fd.offset) o lt hm _ _ _ h1
      refine ⟨by omega, c, m, y, ?_, hy⟩
      rw [List.getElem?_take] at hc
      split at hc
      · rw [List.getElem?_drop] at hc
        rw [← hc]; congr 1; omega
      · cases hc
    · rename_i k e hu
      obtain ⟨i, hi, hm⟩ := List.mem_flatMap.1 h
      rw [List.mem_range] at hi
      obtain ⟨ys, n', _, _, hlen, hyl, hf⟩ := DataW.trod_array hu hx
      have h1 := hf i hi
      have hjl : i < ys.length := by rw [hyl]; exact hi
      rw [List.getElem?_eq_getElem hjl] at h1
      obtain ⟨hle, c, m, y, hc, hy⟩ := leaf_trod f e (off0 + i * P.cellsOf e) o lt hm _ _ _ h1
      refine ⟨by omega, c, m, y, ?_, hy⟩
      rw [List.getElem?_take] at hc
      split at hc
      · rw [List.getElem?_drop] at hc
        rw [← hc]; congr 1; omega
      · cases hc
    · rename_i hs ha
      simp only [List.mem_singleton, Prod.mk.injEq] at h
      obtain ⟨rfl, rfl⟩ := h
      obtain ⟨c, rfl⟩ := trod_single hx (fun fs hu => hs fs hu) (fun k e hu => ha k e hu)
      exact ⟨Nat.le_refl _, c, n, x, by simp, hx⟩
/-- All cells whole numbers of 64 bits. -/
theorem ints_trod {t ti : TypeId} {f k n : Nat} {cs : List Value} {x : DataW H × List MemPlace} (hl : leavesAt P f 0 t = (List.range k).map fun i => (i, ti)) (hti : P.underlying ti = some (.int .i64)) (hk : cs.length = k)
    (h : DataW.trod enc P w base spare held n t cs = some x) : ∃ g : Nat → Int, cs = (List.range k).map (fun i => .int .i64 (g i)) ∧ ∀ i, i < k → -9223372036854775808 ≤ g i ∧ g i ≤ 9223372036854775807 := by
  have each : ∀ i, i < k → ∃ a : Int, cs[i]? = some (.int .i64 a) ∧ (-9223372036854775808 ≤ a ∧ a ≤ 9223372036854775807) := fun i hi => by
    obtain ⟨_, c, m, y, hc, hy⟩ := leaf_trod f t 0 i ti (by rw [hl]; exact List.mem_map.2 ⟨i, List.mem_range.2 hi, rfl⟩) n cs x h
    obtain ⟨a, e0, _, wa⟩ := DataW.trod_int hti hy
    simp at e0
    subst e0
    exact ⟨a, by simpa using hc, bounds_i64 wa⟩
  refine ⟨fun i => if h : i < k then Classical.choose (each i h) else 0, ?_, fun i hi => by simp only [hi, dif_pos]; exact (Classical.choose_spec (each i hi)).2⟩
  apply List.ext_getElem?
  intro i
  by_cases hi : i < k
  · rw [(Classical.choose_spec (each i hi)).1]
    simp [hi]
  · rw [List.getElem?_eq_none (by omega), List.getElem?_eq_none (by simp; omega)]
theorem open_ints_agg {r : Reach} {b0 : Nat} {t ti : TypeId} {fs : Array Field} {f k : Nat} {v : Value} {d : DataW H} {p : List MemPlace} (hs : P.underlying t = some (.struct fs)) (hC : P.cellsOf t = k) (hl : leavesAt P f 0 t = (List.range k).map fun i => (i, ti)) (hti : P.underlying ti = some (.int .i64))
    (hv : Value.okWide P w r b0 t v) (h : DataW.Trod enc P w base spare held t v d p) : ∃ g : Nat → Int, v = .agg ((List.range k).map fun i => .int .i64 (g i)).toArray ∧ ∀ i, i < k → -9223372036854775808 ≤ g i ∧ g i ≤ 9223372036854775807 := by
  obtain ⟨cs, rfl, hsz⟩ := okWide_struct hs hv
  obtain ⟨n, hn⟩ := h
  obtain ⟨g, hg, hb⟩ := ints_trod hl hti (by simpa [Value.cells] using hsz.trans hC) hn
  refine ⟨g, ?_, hb⟩
  simp only [Value.cells] at hg
  rw [← hg]
end
end Go.Proofs.Ytiaikceoodeboab
namespace Go.Proofs.Ytiaikceoodeboab
open Go.ChangeShapes Go.WideShapes Go.ChangeAt Go.RowKit
set_option linter.unusedVariables false
set_option linter.unusedSimpArgs false
section
variable {H : Type} {enc : TypeId × Value → H} {w : World} {base b0 : Nat} {spare : Nat → Bool} {held : Bool} {v : Value} {d : DataW H} {p : List MemPlace} {r : Reach}
theorem cellsV : Try.prog.cellsOf 23 = 3 := by kernel_rfl
theorem cellsBox : Try.prog.cellsOf 35 = 6 := by kernel_rfl
theorem leavesV : leavesAt Try.prog 10 0 23 = (List.range 3).map fun i => (i, 3) := by kernel_rfl
theorem leavesBox : leavesAt Try.prog 10 0 35 = (List.range 6).map fun i => (i, 3) := by kernel_rfl
def In64 (a : Int) : Prop := -9223372036854775808 ≤ a ∧ a ≤ 9223372036854775807
theorem open_int64 (hv : Value.okWide Try.prog w r b0 3 v) (h : DataW.Trod enc Try.prog w base spare held 3 v d p) : ∃ a : Int, v = .int .i64 a ∧ In64 a := by
  obtain ⟨a, rfl, _, _, wa⟩ := open_int Try.underlying3 hv h
  exact ⟨a, rfl, bounds_i64 wa⟩
theorem open_V (hv : Value.okWide Try.prog w r b0 23 v) (h : DataW.Trod enc Try.prog w base spare held 23 v d p) :
    ∃ x y z : Int, v = .agg #[.int .i64 x, .int .i64 y, .int .i64 z] ∧ In64 x ∧ In64 y ∧ In64 z := by
  obtain ⟨g, rfl, hb⟩ := open_ints_agg Try.underlying23 cellsV leavesV Try.underlying3 hv h
  exact ⟨g 0, g 1, g 2, rfl, hb 0 (by omega), hb 1 (by omega), hb 2 (by omega)⟩
theorem open_Box (hv : Value.okWide Try.prog w r b0 35 v) (h : DataW.Trod enc Try.prog w base spare held 35 v d p) :
    ∃ lx ly lz hx hy hz : Int, v = .agg #[.int .i64 lx, .int .i64 ly, .int .i64 lz, .int .i64 hx, .int .i64 hy, .int .i64 hz] ∧ (In64 lx ∧ In64 ly ∧ In64 lz) ∧ In64 hx ∧ In64 hy ∧ In64 hz := by
  obtain ⟨g, rfl, hb⟩ := open_ints_agg Try.underlying35 cellsBox leavesBox Try.underlying3 hv h
  exact ⟨g 0, g 1, g 2, g 3, g 4, g 5, rfl, ⟨hb 0 (by omega), hb 1 (by omega), hb 2 (by omega)⟩, hb 3 (by omega), hb 4 (by omega), hb 5 (by omega)⟩
theorem lt_of_cell {W : World} {b o : Nat} {s : Option Nat} {u : Value} (h : W.cell? ⟨b, o, s⟩ = some u) : b < W.heap.size ∧ s = none := by
  unfold World.cell? at h
  rcases Nat.lt_or_ge b W.heap.size with hb | hb
  · refine ⟨hb, ?_⟩
    cases s with
    | none => rfl
    | some k =>
      simp only [Option.isSome_some, if_true] at h
      split at h <;> cases h
  · simp only [Array.getElem?_eq_none hb] at h; cases h
theorem open_Vs (hv : Value.okWide Try.prog w r b0 38 v) (h : DataW.Trod enc Try.prog w base spare held 38 v d p) :
    ∃ (A : Option Addr) (n c : Nat) (q : Nat → Int × Int × Int), v = .slice A n c ∧ SL A n c ∧ VF w A n q ∧ ∀ i, i < n → In64 (q i).1 ∧ In64 (q i).2.1 ∧ In64 (q i).2.2 := by
  obtain ⟨fuel, hf⟩ := h
  have hcells : v.cells.toList = [v] := by
    simp only [Value.okWide, Try.underlying38, Cell.okWide] at hv
    cases v <;> simp_all [Cell.ok, Value.cells]
  rw [hcells] at hf
  rcases Go.Deep.open_slice Try.underlying38 hf with ⟨h0, _⟩ | ⟨a, len, cap, m, n, D, Pl, hcs, hb, hl, hm, hmm, _, hi⟩
  · simp only [List.cons.injEq, and_true] at h0
    exact ⟨none, 0, 0, fun _ => (0, 0, 0), h0, ⟨Nat.le_refl _, by unfold maxLen; omega, fun _ => rfl⟩, VF.zero _ _ _, fun i h => absurd h (by omega)⟩
  · simp only [List.cons.injEq, and_true] at hcs
    have hlm : len ≤ m := by rw [hmm]; split <;> omega
    have each : ∀ i, i < len → ∃ q : Int × Int × Int, (w.cell? (a.add (i * 3)) = some (.int .i64 q.1) ∧ w.cell? ((a.add (i * 3)).add 1) = some (.int .i64 q.2.1) ∧ w.cell? ((a.add (i * 3)).add 2) = some (.int .i64 q.2.2)) ∧ In64 q.1 ∧ In64 q.2.1 ∧ In64 q.2.2 := fun i hlt => by
      obtain ⟨cs', hc, ht⟩ := hi i (by omega)
      rw [cellsV] at hc
      obtain ⟨_, hlen, hat⟩ := World.cells?_some hc
      obtain ⟨g, hg, hbd⟩ := ints_trod leavesV Try.underlying3 hlen ht
      subst hg
      refine ⟨(g 0, g 1, g 2), ⟨?_, ?_, ?_⟩, hbd 0 (by omega), hbd 1 (by omega), hbd 2 (by omega)⟩
      · have := hat 0 (by omega); simpa [Addr.add] using this
      · have := hat 1 (by omega); simpa using this
      · have := hat 2 (by omega); simpa using this
    obtain ⟨q, hq⟩ : ∃ q : Nat → Int × Int × Int, ∀ i, i < len → (w.cell? (a.add (i * 3)) = some (.int .i64 (q i).1) ∧ w.cell? ((a.add (i * 3)).add 1) = some (.int .i64 (q i).2.1) ∧ w.cell? ((a.add (i * 3)).add 2) = some (.int .i64 (q i).2.2)) ∧ In64 (q i).1 ∧ In64 (q i).2.1 ∧ In64 (q i).2.2 :=
      ⟨fun i => if h : i < len then Classical.choose (each i h) else (0, 0, 0), fun i hi => by simp only [hi, dif_pos]; exact Classical.choose_spec (each i hi)⟩
    refine ⟨some a, len, cap, q, hcs, ⟨hl, hm, fun h => by cases h⟩, fun hn => ?_, fun i hlt => (hq i hlt).2⟩
    obtain ⟨b, o, s⟩ := a
    have h0 := (hq 0 hn).1.1
    simp only [Nat.zero_mul] at h0
    obtain ⟨hlt, rfl⟩ := lt_of_cell (o := o) (by simpa [Addr.add] using h0)
    refine ⟨b, o, rfl, hlt, fun i hi => ?_⟩
    have hs := (hq i hi).1
    simp only [add_lit] at hs
    exact hs
end
end Go.Proofs.Ytiaikceoodeboab
namespace Go.Proofs.Ytiaikceoodeboab
open Go.ChangeShapes Go.WideShapes Go.ChangeAt Go.RowKit
set_option linter.unusedVariables false
set_option linter.unusedSimpArgs false
variable {H : Type} {enc : TypeId × Value → H} {w : World} {base b0 : Nat} {spare : Nat → Bool} {held : Bool} {v : Value} {d : DataW H} {p : List MemPlace} {r : Reach}
def In3 (a : P3) : Prop := In64 a.x ∧ In64 a.y ∧ In64 a.z
theorem open_V3 (hv : Value.okWide Try.prog w r b0 23 v) (h : DataW.Trod enc Try.prog w base spare held 23 v d p) :
    ∃ a : P3, v = .agg #[.int .i64 a.x, .int .i64 a.y, .int .i64 a.z] ∧ In3 a := by
  obtain ⟨x, y, z, rfl, hx, hy, hz⟩ := open_V hv h
  exact ⟨⟨x, y, z⟩, rfl, hx, hy, hz⟩
end Go.Proofs.Ytiaikceoodeboab
namespace Go.Proofs.Ytiaikceoodeboab
open Go.ChangeShapes Go.WideShapes Go.ChangeAt Go.RowKit
set_option linter.unusedVariables false
set_option linter.unusedSimpArgs false
section
variable {H : Type} {enc : TypeId × Value → H} {w : World} {base b0 : Nat} {spare : Nat → Bool} {held : Bool} {v : Value} {d : DataW H} {p : List MemPlace} {r : Reach}
theorem okWide_array {P : Program} {t e : TypeId} {n : Nat} (ht : P.underlying t = some (.array n e)) (h : Value.okWide P w r b0 t v) : ∃ cs, v = .agg cs ∧ cs.size = P.cellsOf t := by
  unfold Value.okWide at h
  rw [ht] at h
  obtain ⟨cs, h1, h2, _⟩ := h
  exact ⟨cs, h1, h2⟩
theorem open_ints_arr {P : Program} {t ti e : TypeId} {m f k : Nat} (hs : P.underlying t = some (.array m e)) (hC : P.cellsOf t = k) (hl : leavesAt P f 0 t = (List.range k).map fun i => (i, ti)) (hti : P.underlying ti = some (.int .i64))
    (hv : Value.okWide P w r b0 t v) (h : DataW.Trod enc P w base spare held t v d p) : ∃ g : Nat → Int, v = .agg ((List.range k).map fun i => .int .i64 (g i)).toArray ∧ ∀ i, i < k → -9223372036854775808 ≤ g i ∧ g i ≤ 9223372036854775807 := by
  obtain ⟨cs, rfl, hsz⟩ := okWide_array hs hv
  obtain ⟨n, hn⟩ := h
  obtain ⟨g, hg, hb⟩ := ints_trod hl hti (by simpa [Value.cells] using hsz.trans hC) hn
  refine ⟨g, ?_, hb⟩
  simp only [Value.cells] at hg
  rw [← hg]
theorem ptsC_of (n : Nat) (g : Nat → Int) : ((List.range (n * 3)).map fun i => Value.int .i64 (g i)).toArray = ptsC n fun k => ⟨g (k * 3), g (k * 3 + 1), g (k * 3 + 2)⟩ := by
  unfold ptsC rowCs
  congr 1
  apply List.map_congr_left
  intro j _
  unfold qC
  rcases (by omega : j % 3 = 0 ∨ j % 3 = 1 ∨ j % 3 = 2) with e | e | e
  · rw [if_pos e]; simp only []; rw [show j / 3 * 3 = j by omega]
  · rw [if_neg (by omega), if_pos e]; simp only []; rw [show j / 3 * 3 + 1 = j by omega]
  · rw [if_neg (by omega), if_neg (by omega)]; simp only []; rw [show j / 3 * 3 + 2 = j by omega]
theorem cellsA4 : Try.prog.cellsOf 26 = 12 := by kernel_rfl
theorem leavesA4 : leavesAt Try.prog 10 0 26 = (List.range 12).map fun i => (i, 3) := by kernel_rfl
theorem open_A4 (hv : Value.okWide Try.prog w r b0 26 v) (h : DataW.Trod enc Try.prog w base spare held 26 v d p) :
    ∃ q : Nat → P3, v = .agg (ptsC 4 q) ∧ ∀ k, k < 4 → In3 (q k) := by
  obtain ⟨g, rfl, hb⟩ := open_ints_arr Try.underlying26 cellsA4 leavesA4 Try.underlying3 hv h
  exact ⟨fun k => ⟨g (k * 3), g (k * 3 + 1), g (k * 3 + 2)⟩, by rw [← ptsC_of 4 g], fun k hk => ⟨hb _ (by omega), hb _ (by omega), hb _ (by omega)⟩⟩
theorem cellsA16 : Try.prog.cellsOf 24 = 48 := by kernel_rfl
theorem leavesA16 : leavesAt Try.prog 10 0 24 = (List.range 48).map fun i => (i, 3) := by kernel_rfl
theorem open_A16 (hv : Value.okWide Try.prog w r b0 24 v) (h : DataW.Trod enc Try.prog w base spare held 24 v d p) :
    ∃ q : Nat → P3, v = .agg (ptsC 16 q) ∧ ∀ k, k < 16 → In3 (q k) := by
  obtain ⟨g, rfl, hb⟩ := open_ints_arr Try.underlying24 cellsA16 leavesA16 Try.underlying3 hv h
  exact ⟨fun k => ⟨g (k * 3), g (k * 3 + 1), g (k * 3 + 2)⟩, by rw [← ptsC_of 16 g], fun k hk => ⟨hb _ (by omega), hb _ (by omega), hb _ (by omega)⟩⟩
end
end Go.Proofs.Ytiaikceoodeboab
namespace Go.Proofs.Ytiaikceoodeboab
open Go.RowKit
set_option linter.unusedVariables false
set_option linter.unusedSimpArgs false
section
variable {P : Program} {f : FuncId} {args : Array Value} {v : Value} {w : World}
theorem q1 {y : More} (h : Calls P f args (grow w y) fun e w'' => e = .returned v ∧ ∃ z, w'' = grow (grow w y) z) : Calls P f args (grow w y) fun e w'' => e = .returned v ∧ ∃ z, w'' = grow w z :=
  h.mono fun _ _ ⟨he, z, hz⟩ => ⟨he, y.then z, hz⟩
theorem q2 {x y : More} (h : Calls P f args (grow w (x.then y)) fun e w'' => e = .returned v ∧ ∃ z, w'' = grow (grow w (x.then y)) z) : Calls P f args (grow w (x.then y)) fun e w'' => e = .returned v ∧ ∃ z, w'' = grow w (x.then z) :=
  h.mono fun _ _ ⟨he, z, hz⟩ => ⟨he, y.then z, hz⟩
end
theorem append_step {W w1 : World} {xg : More} {v : Value} {e : TypeId} {k n : Nat} {xs : List Value} (hown : (grow W xg).ownsRow W.heap.size e k v n xs) (hg : (grow W xg).grownBy w1 v.ownBlock) : ∃ x1, w1 = grow W x1 :=
  grow_of ((bel_grow (Below.refl _ _) xg).grown hg (top_le _ _) (fun k hk => (hown.lt k hk).1))
/-! least boxes -/
def inP (b : (Int × Int × Int) × (Int × Int × Int)) (q : Int × Int × Int) : Prop := (b.1.1 ≤ q.1 ∧ q.1 ≤ b.2.1) ∧ (b.1.2.1 ≤ q.2.1 ∧ q.2.1 ≤ b.2.2.1) ∧ b.1.2.2 ≤ q.2.2 ∧ q.2.2 ≤ b.2.2.2
theorem inP_join_left {b : (Int × Int × Int) × (Int × Int × Int)} {q r : Int × Int × Int} (h : inP b r) : inP (joinP b q) r := by
  unfold inP joinP at *; simp only []; omega
theorem inP_join_right {b : (Int × Int × Int) × (Int × Int × Int)} {q : Int × Int × Int} : inP (joinP b q) q := by
  unfold inP joinP; simp only []; omega
theorem boxF_has (p : Nat → Int × Int × Int) : ∀ n i, i ≤ n → inP (boxF p n) (p i)
  | 0, i, h => by
    obtain rfl : i = 0 := by omega
    unfold inP boxF; simp only []; omega
  | n + 1, i, h => by
    by_cases hi : i ≤ n
    · exact inP_join_left (boxF_has p n i hi)
    · obtain rfl : i = n + 1 := by omega
      exact inP_join_right
/-- Each side of the least box has a point. -/
def sideOf (b : (Int × Int × Int) × (Int × Int × Int)) (q : Int × Int × Int) (k : Nat) : Bool :=
  if k = 0 then q.1 == b.1.1 else if k = 1 then q.2.1 == b.1.2.1 else if k = 2 then q.2.2 == b.1.2.2 else if k = 3 then q.1 == b.2.1 else if k = 4 then q.2.1 == b.2.2.1 else q.2.2 == b.2.2.2
theorem boxF_touch (p : Nat → Int × Int × Int) : ∀ n, (∃ i, i ≤ n ∧ (p i).1 = (boxF p n).1.1) ∧ (∃ i, i ≤ n ∧ (p i).2.1 = (boxF p n).1.2.1) ∧ (∃ i, i ≤ n ∧ (p i).2.2 = (boxF p n).1.2.2) ∧ (∃ i, i ≤ n ∧ (p i).1 = (boxF p n).2.1) ∧ (∃ i, i ≤ n ∧ (p i).2.1 = (boxF p n).2.2.1) ∧ ∃ i, i ≤ n ∧ (p i).2.2 = (boxF p n).2.2.2
  | 0 => ⟨⟨0, by omega, rfl⟩, ⟨0, by omega, rfl⟩, ⟨0, by omega, rfl⟩, ⟨0, by omega, rfl⟩, ⟨0, by omega, rfl⟩, ⟨0, by omega, rfl⟩⟩
  | n + 1 => by
    obtain ⟨⟨i0, a0, b0⟩, ⟨i1, a1, b1⟩, ⟨i2, a2, b2⟩, ⟨i3, a3, b3⟩, ⟨i4, a4, b4⟩, i5, a5, b5⟩ := boxF_touch p n
    have lo : ∀ (x y : Int) (f : Nat → Int) (i : Nat), i ≤ n → f i = x → ∃ j, j ≤ n + 1 ∧ f j = min x (f (n + 1)) := fun x y f i hi hf => by
      by_cases h : x ≤ f (n + 1)
      · exact ⟨i, by omega, by rw [hf]; omega⟩
      · exact ⟨n + 1, by omega, by omega⟩
    have hi : ∀ (x y : Int) (f : Nat → Int) (i : Nat), i ≤ n → f i = x → ∃ j, j ≤ n + 1 ∧ f j = max x (f (n + 1)) := fun x y f i hi hf => by
      by_cases h : f (n + 1) ≤ x
      · exact ⟨i, by omega, by rw [hf]; omega⟩
      · exact ⟨n + 1, by omega, by omega⟩
    exact ⟨lo _ 0 (fun i => (p i).1) i0 a0 b0, lo _ 0 (fun i => (p i).2.1) i1 a1 b1, lo _ 0 (fun i => (p i).2.2) i2 a2 b2, hi _ 0 (fun i => (p i).1) i3 a3 b3, hi _ 0 (fun i => (p i).2.1) i4 a4 b4, hi _ 0 (fun i => (p i).2.2) i5 a5 b5⟩
/-- Has a point up to number i touched side k? -/
def touF (b : (Int × Int × Int) × (Int × Int × Int)) (p : Nat → Int × Int × Int) : Nat → Nat → Bool
  | 0, _ => false
  | i + 1, k => touF b p i k || sideOf b (p i) k
theorem touF_of (b : (Int × Int × Int) × (Int × Int × Int)) (p : Nat → Int × Int × Int) (k i : Nat) (h : sideOf b (p i) k = true) : ∀ n, i < n → touF b p n k = true
  | 0, hi => by omega
  | n + 1, hi => by
    unfold touF
    by_cases e : i < n
    · rw [touF_of b p k i h n e]; rfl
    · obtain rfl : i = n := by omega
      rw [h]; simp
theorem touF_all (p : Nat → Int × Int × Int) (n : Nat) (k : Nat) (hk : k < 6) : touF (boxF p n) p (n + 1) k = true := by
  obtain ⟨⟨i0, a0, b0⟩, ⟨i1, a1, b1⟩, ⟨i2, a2, b2⟩, ⟨i3, a3, b3⟩, ⟨i4, a4, b4⟩, i5, a5, b5⟩ := boxF_touch p n
  match k, hk with
  | 0, _ => exact touF_of _ p 0 i0 (by unfold sideOf; simp [b0]) _ (by omega)
  | 1, _ => exact touF_of _ p 1 i1 (by unfold sideOf; simp [b1]) _ (by omega)
  | 2, _ => exact touF_of _ p 2 i2 (by unfold sideOf; simp [b2]) _ (by omega)
  | 3, _ => exact touF_of _ p 3 i3 (by unfold sideOf; simp [b3]) _ (by omega)
  | 4, _ => exact touF_of _ p 4 i4 (by unfold sideOf; simp [b4]) _ (by omega)
  | 5, _ => exact touF_of _ p 5 i5 (by unfold sideOf; simp [b5]) _ (by omega)
/-! two rows one behind the other -/
def catF (n : Nat) (p q : Nat → Int × Int × Int) : Nat → Int × Int × Int := fun i => if i < n then p i else q (i - n)
def joinB (a b : (Int × Int × Int) × (Int × Int × Int)) : (Int × Int × Int) × (Int × Int × Int) :=
  ((min a.1.1 b.1.1, min a.1.2.1 b.1.2.1, min a.1.2.2 b.1.2.2), (max a.2.1 b.2.1, max a.2.2.1 b.2.2.1, max a.2.2.2 b.2.2.2))
theorem boxF_cat_low (n : Nat) (p q : Nat → Int × Int × Int) : ∀ k, k ≤ n → boxF (catF (n + 1) p q) k = boxF p k
  | 0, h => by unfold boxF catF; simp
  | k + 1, h => by
    show joinP (boxF (catF (n + 1) p q) k) (catF (n + 1) p q (k + 1)) = joinP (boxF p k) (p (k + 1))
    rw [boxF_cat_low n p q k (by omega)]
    unfold catF; rw [if_pos (by omega)]
theorem boxF_cat (n : Nat) (p q : Nat → Int × Int × Int) : ∀ m, boxF (catF (n + 1) p q) (n + 1 + m) = joinB (boxF p n) (boxF q m)
  | 0 => by
    show joinP (boxF (catF (n + 1) p q) n) (catF (n + 1) p q (n + 1)) = _
    rw [boxF_cat_low n p q n (Nat.le_refl _)]
    unfold catF; rw [if_neg (by omega), Nat.sub_self]
    rfl
  | m + 1 => by
    show joinP (boxF (catF (n + 1) p q) (n + 1 + m)) (catF (n + 1) p q (n + 1 + m + 1)) = joinB (boxF p n) (joinP (boxF q m) (q (m + 1)))
    rw [boxF_cat n p q m]
    unfold catF; rw [if_neg (by omega), show n + 1 + m + 1 - (n + 1) = m + 1 by omega]
    unfold joinB joinP
    simp only [Int.min_assoc, Int.max_assoc]
theorem newsV_cat (n m : Nat) (p q : Nat → Int × Int × Int) : newsV p n ++ newsV q m = newsV (catF n p q) (n + m) := by
  apply List.ext_getElem?
  intro j
  by_cases hj : j < n * 3
  · rw [List.getElem?_append_left (by rw [newsV_len]; exact hj), newsV_get _ _ _ hj, newsV_get _ _ _ (by omega)]
    unfold catF; rw [if_pos (by omega)]
  · rw [List.getElem?_append_right (by rw [newsV_len]; omega), newsV_len]
    by_cases hm : j < (n + m) * 3
    · rw [newsV_get _ _ _ (by omega), newsV_get _ _ _ hm]
      unfold catF; rw [if_neg (by omega), show (j - n * 3) / 3 = j / 3 - n by omega, show (j - n * 3) % 3 = j % 3 by omega]
    · rw [List.getElem?_eq_none (by rw [newsV_len]; omega), List.getElem?_eq_none (by rw [newsV_len]; omega)]

end Go.Proofs.Ytiaikceoodeboab
namespace Go.Proofs.Ytiaikceoodeboab
open Go.ChangeShapes Go.WideShapes Go.ChangeAt Go.RowKit
set_option linter.unusedVariables false
set_option linter.unusedSimpArgs false
variable {H : Type} {enc : TypeId × Value → H} {P : Program}
theorem args_below (hl : laidOutB P = true) {W W' : World} (hb : Below W.heap.size W W') : ∀ (ts : List TypeId) (vs : List Value) (ds : List (DataW H)) (ps : List MemPlace),
    (ts.all fun t => P.readableRec t && decide (t < P.types.size)) = true → (∀ x ∈ ps, x.block < W.heap.size) →
    DataW.TrodAll enc P W 0 (fun _ => true) true ts vs ds ps → DataW.TrodAll enc P W' 0 (fun b => decide (b < W.heap.size)) true ts vs ds ps := by
  intro ts
  induction ts with
  | nil =>
    intro vs ds ps _ _ h
    obtain ⟨rfl, rfl, rfl⟩ := trodAll_nil h
    exact trodAll_mk0
  | cons t ts ih =>
    intro vs ds ps ht hx h
    simp only [List.all_cons, Bool.and_eq_true, decide_eq_true_eq] at ht
    obtain ⟨v, vs', d, ds', p, q, rfl, rfl, rfl, h0, h1⟩ := trodAll_cons h
    exact trodAll_cons_mk (Below.trod hl ht.1.1 ht.1.2 h0 hb fun x hp => hx x (by simp [hp])) (ih vs' ds' q ht.2 (fun x hp => hx x (by simp [hp])) h1)
theorem law_post {f : Func} {s : ChangeSpec} {W W' : World} {args : Array Value} {ds gs : List (DataW H)} {before : List MemPlace} {tb : TypeId}
    (hl : laidOutB P = true) (hts : (f.params.toList.all fun t => P.readableRec t && decide (t < P.types.size)) = true) (hv : s.vars = [])
    (hres : f.resultTypes = #[tb]) (htb : P.underlying tb = some .bool) (hr : (s.fn H ds).results = [.lit (.bool true)]) (ha : (s.fn H ds).args = ds) (hg : (s.fn H ds).vars = [])
    (hW : DataW.Whole enc P f.params.toList s.vars false W args.toList ds gs before) (hb : Below W.heap.size W W') :
    s.post enc P f false true false false W args (.bool true) W' := by
  have hlt := fun p hp => hW.lt (p := p) hp
  have hW0 := hW
  obtain ⟨p, q, h1, h2, rfl, hz, hn⟩ := hW
  rw [hv] at h2
  obtain ⟨rfl, rfl⟩ := trodVars_none h2
  simp only [List.append_nil] at *
  refine ⟨ds, [], p, [], p, [], hW0, ?_, ?_, ?_, World.keptBut_mono (fun _ h => h.elim) (hb.frame fun _ => False), fun h => by cases h⟩
  · simp only [List.append_nil, hr, hres]
    exact trodAll_cons_mk (shut_bool htb true) trodAll_mk0
  · simp only [List.append_nil, ha]
    exact args_below hl hb _ _ _ _ hts (fun x hx => hlt x hx) h1
  · simp only [List.append_nil, hg, hv]
    rfl
end Go.Proofs.Ytiaikceoodeboab
