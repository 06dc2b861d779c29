/- The numbers that the document fixes for layer 2: alive answers true; facts on wrapped sums. A block whose cells are all known, in worlds that go on. No program is imported. Rows of structs of k cells, cell by cell. No program is imported. Package curve: what lies within bounds, weights, and points together; the closures that tell weights. Package curve: are all points within bounds? A cubic's weights, and the closures that tell them. Package curve: points together, each as often as its weight. -/
import Derived.Laws.Rows
import Derived.RegionTactic
import Derived.BigRegion
import Derived.Test.YtgmifpicilfcdaaC0
import Derived.Test.YtgmifpicilfcdaaC1
namespace Go.Proofs.Ytgmifpicilfcdaa
open Go.RowKit
set_option linter.unusedVariables false
set_option linter.unusedSimpArgs false
theorem wrap_bmod (x : Int) : wrap64 x = Int.bmod x 18446744073709551616 := by
  unfold wrap64 Int.bmod; simp only []; split <;> omega
theorem wrap_id {x : Int} (h0 : -9223372036854775808 ≤ x) (h1 : x ≤ 9223372036854775807) : wrap64 x = x := by unfold wrap64; omega
end Go.Proofs.Ytgmifpicilfcdaa
namespace Go.Proofs.Ytgmifpicilfcdaa
open Go.RowKit
set_option linter.unusedVariables false
set_option linter.unusedSimpArgs false
def Blk (W : World) (g : Nat) (t : TypeId) (cs : Array Value) : Prop := W.heap[g]? = some (.cells cs t (0, 0))
section
variable {W W' : World} {g : Nat} {t : TypeId} {cs : Array Value}
theorem Blk.lt (h : Blk W g t cs) : g < W.heap.size := (Array.getElem?_eq_some_iff.1 h).1
theorem Blk.cell (h : Blk W g t cs) (i : Nat) : W.cell? ⟨g, i, none⟩ = cs[i]? := cell_of_row W g i cs t (0, 0) h
theorem Blk.frozen (h : Blk W g t cs) (i : Nat) : W.frozen? ⟨g, i, none⟩ = false := by
  unfold Blk at h; simp [World.frozen?, h]
theorem Blk.new (W : World) (t : TypeId) (cs : Array Value) (g : Nat) (hg : g = W.heap.size) : Blk (W.alloc (.cells cs t)) g t cs := by
  subst hg; exact heap_alloc_new W _
theorem Blk.below (h : Blk W g t cs) (hb : Below W.heap.size W W') : Blk W' g t cs := (hb.block g h.lt).trans h
theorem Blk.alloc (h : Blk W g t cs) (o : Obj) : Blk (W.alloc o) g t cs := h.below (bel_alloc (Below.refl _ _) o)
theorem Blk.grow (h : Blk W g t cs) (x : More) : Blk (grow W x) g t cs := h.below (x.kept W)
theorem Blk.then (x y : More) (h : Blk (Go.Proofs.Ytgmifpicilfcdaa.grow W x) g t cs) : Blk (Go.Proofs.Ytgmifpicilfcdaa.grow W (x.then y)) g t cs := Blk.grow h y
theorem Blk.drew (h : Blk W g t cs) : Blk W.drew g t cs := h
theorem Blk.set (h : Blk W g t cs) (i : Nat) (u : Value) : Blk (W.setCell ⟨g, i, none⟩ u) g t (cs.setIfInBounds i u) := by
  unfold Blk at h ⊢
  simp [World.setCell, Array.getElem?_modify, h]
theorem Blk.far (h : Blk W g t cs) {b : Nat} (i : Nat) (u : Value) (hb : b ≠ g) : Blk (W.setCell ⟨b, i, none⟩ u) g t cs := by
  unfold Blk at h ⊢
  simp [World.setCell, Array.getElem?_modify, h, hb]
theorem Blk.setRow (h : Blk W g t cs) (cs' : Array Value) : Blk (W.setRow g cs') g t cs' := setRow_heap W g cs cs' t (0, 0) h
theorem Blk.farRow (h : Blk W g t cs) {b : Nat} (cs' : Array Value) (hb : b ≠ g) : Blk (W.setRow b cs') g t cs := (setRow_other W b g cs' (Ne.symm hb)).trans h
theorem Blk.ne_ {g' : Nat} {t' : TypeId} {cs' : Array Value} (h : Blk W g t cs) (h' : Blk W g' t' cs') (hne : t ≠ t') : g ≠ g' := by
  rintro rfl
  unfold Blk at h h'
  rw [h] at h'
  injection h' with h'
  injection h' with _ ht
  exact hne ht
end
end Go.Proofs.Ytgmifpicilfcdaa
namespace Go.Proofs.Ytgmifpicilfcdaa
open Go.RowKit
set_option linter.unusedVariables false
set_option linter.unusedSimpArgs false
/-- The cells of n structs of k cells each. -/
def rowCs (k n : Nat) (h : Nat → Nat → Value) : Array Value := ((List.range (n * k)).map fun j => h (j / k) (j % k)).toArray
theorem rowCs_size (k n : Nat) (h : Nat → Nat → Value) : (rowCs k n h).size = n * k := by simp [rowCs]
theorem row_split {k v j : Nat} (hj : j < k) : (v * k + j) / k = v ∧ (v * k + j) % k = j := by
  have hk : 0 < k := by omega
  have h1 : (v * k + j) / k = v := by rw [Nat.mul_comm, Nat.mul_add_div hk, Nat.div_eq_of_lt hj, Nat.add_zero]
  have h2 : (v * k + j) % k = j := by rw [Nat.mul_comm, Nat.mul_add_mod, Nat.mod_eq_of_lt hj]
  exact ⟨h1, h2⟩
theorem row_lt {k n v j : Nat} (hv : v < n) (hj : j < k) : v * k + j < n * k := by
  have : (v + 1) * k ≤ n * k := Nat.mul_le_mul_right k hv
  rw [Nat.add_mul] at this; omega
theorem rowCs_at {k n : Nat} (h : Nat → Nat → Value) {v j : Nat} (hv : v < n) (hj : j < k) : (rowCs k n h)[v * k + j]? = some (h v j) := by
  unfold rowCs
  rw [List.getElem?_toArray, List.getElem?_map, List.getElem?_range (row_lt hv hj)]
  obtain ⟨e1, e2⟩ := row_split (v := v) hj
  simp [e1, e2]
def setC (h : Nat → Nat → Value) (v j : Nat) (u : Value) : Nat → Nat → Value := fun a b => if a = v ∧ b = j then u else h a b
theorem rowCs_set {k n : Nat} (h : Nat → Nat → Value) {v j : Nat} (hv : v < n) (hj : j < k) (u : Value) : (rowCs k n h).setIfInBounds (v * k + j) u = rowCs k n (setC h v j u) := by
  have hk : 0 < k := by omega
  apply Array.ext
  · simp [rowCs_size]
  · intro i h1 h2
    have hi : i < n * k := by simpa [rowCs_size] using h1
    rw [Array.getElem_setIfInBounds (by simpa [rowCs_size] using hi)]
    simp only [rowCs, List.getElem_toArray, List.getElem_map, List.getElem_range, setC]
    obtain ⟨e1, e2⟩ := row_split (v := v) hj
    split
    · rename_i e
      subst e
      rw [if_pos ⟨e1, e2⟩]
    · rename_i e
      rw [if_neg]
      rintro ⟨a, b⟩
      apply e
      have := Nat.div_add_mod i k
      rw [a, b, Nat.mul_comm] at this
      exact this
theorem rowCs_ext {k n : Nat} {h g : Nat → Nat → Value} (e : ∀ v j, v < n → j < k → h v j = g v j) : rowCs k n h = rowCs k n g := by
  rcases Nat.eq_zero_or_pos k with rfl | hk
  · simp [rowCs]
  unfold rowCs
  congr 1
  apply List.map_congr_left
  intro i hi
  have hi2 : i < n * k := by simpa using hi
  have : i / k < n := Nat.div_lt_of_lt_mul (by rw [Nat.mul_comm]; exact hi2)
  exact e _ _ this (Nat.mod_lt _ hk)
theorem rowCs_made {z : Array Value} {k n : Nat} (hz : z.size = k) (hk : 0 < k) : madeCells z (n * k) = rowCs k n (fun _ j => z.getD j default) := by
  apply Array.ext
  · simp [size_madeCells, rowCs_size]
  · intro i h1 h2
    simp only [madeCells, rowCs, Array.getElem_map, Array.getElem_range, List.getElem_toArray, List.getElem_map, List.getElem_range]
    rw [hz]
    have : i % k < z.size := by rw [hz]; exact Nat.mod_lt _ hk
    simp [Array.getD, this, getElem!_pos]
end Go.Proofs.Ytgmifpicilfcdaa
namespace Go.Proofs.Ytgmifpicilfcdaa
open Go.RowKit
set_option linter.unusedVariables false
set_option linter.unusedSimpArgs false
set_option linter.unnecessarySimpa false
set_option maxRecDepth 100000
/-- The cells of n points in a row. -/
def qC (f : Nat → P3) : Nat → Nat → Value := fun v j => .int .i64 (if j = 0 then (f v).x else if j = 1 then (f v).y else (f v).z)
def ptsC (n : Nat) (p : Nat → P3) : Array Value := rowCs 3 n (qC p)
theorem ptsC_size (n : Nat) (p : Nat → P3) : (ptsC n p).size = n * 3 := rowCs_size 3 n _
theorem ptsC_at {n : Nat} (p : Nat → P3) {k : Nat} (h : k < n) : (ptsC n p)[k * 3]? = some (.int .i64 (p k).x) ∧ (ptsC n p)[k * 3 + 1]? = some (.int .i64 (p k).y) ∧ (ptsC n p)[k * 3 + 2]? = some (.int .i64 (p k).z) :=
  ⟨rowCs_at (qC p) h (show 0 < 3 by omega), rowCs_at (qC p) h (show 1 < 3 by omega), rowCs_at (qC p) h (show 2 < 3 by omega)⟩
theorem ptsB {W : World} {b n : Nat} {t : TypeId} {p : Nat → P3} (h : Blk W b t (ptsC n p)) {k : Nat} (hk : k < n) : W.cell? ⟨b, k * 3, none⟩ = some (.int .i64 (p k).x) ∧ W.cell? ⟨b, k * 3 + 1, none⟩ = some (.int .i64 (p k).y) ∧ W.cell? ⟨b, k * 3 + 2, none⟩ = some (.int .i64 (p k).z) := by
  obtain ⟨h1, h2, h3⟩ := ptsC_at p hk
  exact ⟨(h.cell _).trans h1, (h.cell _).trans h2, (h.cell _).trans h3⟩
def wi (q : P3) : Bool := wiB q.x q.y q.z 65536
def okB (p : Nat → P3) : Nat → Bool
  | 0 => true
  | k + 1 => okB p k && wi (p k)
theorem okB_all {p : Nat → P3} : ∀ {n : Nat}, okB p n = true ↔ ∀ k, k < n → wi (p k) = true
  | 0 => by simp [okB]
  | n + 1 => by
    rw [okB, Bool.and_eq_true, okB_all]
    exact ⟨fun h k hk => if e : k < n then h.1 k e else by rw [show k = n by omega]; exact h.2, fun h => ⟨fun k hk => h k (by omega), h n (by omega)⟩⟩
theorem okB_no {p : Nat → P3} {n k : Nat} (hk : k < n) (h : wi (p k) = false) : okB p n = false := by
  cases e : okB p n
  · rfl
  · rw [okB_all.1 e k hk] at h; cases h
def thB (i n : Int) : Bool := decide (1 ≤ n ∧ n ≤ 16 ∧ 0 ≤ i ∧ i ≤ n)
theorem thB_yes {i n : Int} (h : 1 ≤ n ∧ n ≤ 16 ∧ 0 ≤ i ∧ i ≤ n) : thB i n = true := decide_eq_true h
theorem thB_no {i n : Int} (h : ¬ (1 ≤ n ∧ n ≤ 16 ∧ 0 ≤ i ∧ i ≤ n)) : thB i n = false := decide_eq_false h
theorem uWithin_G (q : P3) : Gives Try.prog 19 #[.agg #[.int .i64 q.x, .int .i64 q.y, .int .i64 q.z], .int .i64 65536] (.bool (wi q)) := by
  refine Gives.mk fun w => ?_
  go_enter Try.func19, Try.ntmps19
  go_wp2
  all_goals
    go_ret
    refine ⟨ret_bool ?_, (by repeat (first | exact Below.refl _ _ | refine bel_grow ?_ _ | refine bel_alloc ?_ _ | refine bel_set ?_ (by simp) _))⟩
    first | (symm; unfold wi; rw [wiB_iff]; omega) | (symm; unfold wi; apply wiB_no; omega) | (unfold wi wiB inB; simp [*])
theorem vWithin_G (q : P3) : Gives Try.prog 14 #[.agg #[.int .i64 q.x, .int .i64 q.y, .int .i64 q.z], .int .i64 65536] (.bool (wi q)) := vWithin_any q.x q.y q.z 65536 (by omega)
end Go.Proofs.Ytgmifpicilfcdaa
namespace Go.Proofs.Ytgmifpicilfcdaa
open Go.RowKit
set_option linter.unusedVariables false
set_option linter.unusedSimpArgs false
set_option linter.unnecessarySimpa false
set_option maxRecDepth 100000
theorem wt_small {i n : Int} (h0 : 0 ≤ i) (h1 : i ≤ n) (h2 : n ≤ 16) : (wrap64 (n - i) = n - i ∧ wrap64 (3 * (n - i)) = 3 * (n - i) ∧ wrap64 (3 * (n - i) * (n - i)) = 3 * (n - i) * (n - i) ∧ wrap64 (3 * (n - i) * (n - i) * i) = 3 * (n - i) * (n - i) * i) ∧ (wrap64 (3 * (n - i) * i) = 3 * (n - i) * i ∧ wrap64 (3 * (n - i) * i * i) = 3 * (n - i) * i * i) ∧ (wrap64 ((n - i) * (n - i)) = (n - i) * (n - i) ∧ wrap64 ((n - i) * (n - i) * (n - i)) = (n - i) * (n - i) * (n - i)) ∧ wrap64 (i * i) = i * i ∧ wrap64 (i * i * i) = i * i * i := by
  have a0 : 0 ≤ n - i := by omega
  have a1 : n - i ≤ 16 := by omega
  have i1 : i ≤ 16 := by omega
  generalize n - i = a at *
  have m2 : ∀ {x y B C : Int}, 0 ≤ x → x ≤ B → 0 ≤ y → y ≤ C → 0 ≤ B → 0 ≤ x * y ∧ x * y ≤ B * C := fun hx hB hy hC hb => ⟨Int.mul_nonneg hx hy, Int.mul_le_mul hB hC hy hb⟩
  have t1 : 0 ≤ 3 * a ∧ 3 * a ≤ 48 := by omega
  have t2 := m2 t1.1 t1.2 a0 a1 (by omega)
  have t3 := m2 t2.1 t2.2 h0 i1 (by omega)
  have t4 := m2 t1.1 t1.2 h0 i1 (by omega)
  have t5 := m2 t4.1 t4.2 h0 i1 (by omega)
  have t6 := m2 a0 a1 a0 a1 (by omega)
  have t7 := m2 t6.1 t6.2 a0 a1 (by omega)
  have t8 := m2 h0 i1 h0 i1 (by omega)
  have t9 := m2 t8.1 t8.2 h0 i1 (by omega)
  refine ⟨⟨?_, ?_, ?_, ?_⟩, ⟨?_, ?_⟩, ⟨?_, ?_⟩, ?_, ?_⟩ <;> (apply wrap_id <;> omega)
def wtV (i n : Int) : Value := .agg #[.int .i64 (wt i n 0), .int .i64 (wt i n 1), .int .i64 (wt i n 2), .int .i64 (wt i n 3)]
/-- Four weights in a block. -/
def WtB (W : World) (b : Nat) (u : Nat → Int) : Prop := b < W.heap.size ∧ ∀ k, k < 4 → W.cell? ⟨b, k, none⟩ = some (.int .i64 (u k))
theorem WtB.below {W W' : World} {b : Nat} {u : Nat → Int} (h : WtB W b u) (hb : Below W.heap.size W W') : WtB W' b u :=
  ⟨Nat.lt_of_lt_of_le h.1 hb.size, fun k hk => (hb.cell (p := ⟨b, k, none⟩) h.1).trans (h.2 k hk)⟩
theorem WtB.of {W : World} {b : Nat} {t : TypeId} {i n : Int} (h : Blk W b t #[.int .i64 (wt i n 0), .int .i64 (wt i n 1), .int .i64 (wt i n 2), .int .i64 (wt i n 3)]) : WtB W b (wt i n) := ⟨h.lt, fun k hk => by
  rw [h.cell]
  rcases (by omega : k = 0 ∨ k = 1 ∨ k = 2 ∨ k = 3) with rfl | rfl | rfl | rfl <;> rfl⟩
end Go.Proofs.Ytgmifpicilfcdaa
namespace Go.Proofs.Ytgmifpicilfcdaa
open Go.RowKit
set_option linter.unusedVariables false
set_option linter.unusedSimpArgs false
set_option linter.unnecessarySimpa false
set_option maxRecDepth 100000
theorem cq1 {P : Program} {f : FuncId} {args : Array Value} {v : Value} {w : World} (x : More) (h : Calls P f args (grow w x) fun e w' => e = .returned v ∧ Below (grow w x).heap.size (grow w x) w') : Calls P f args (grow w x) fun e w'' => e = .returned v ∧ ∃ y, w'' = grow w y :=
  h.mono fun e w' ⟨he, hb⟩ => ⟨he, grow_of (bel_trans (bel_grow (Below.refl _ _) x) hb)⟩
theorem cq2 {P : Program} {f : FuncId} {args : Array Value} {v : Value} {w : World} (x y : More) (h : Calls P f args (grow w (x.then y)) fun e w' => e = .returned v ∧ Below (grow w (x.then y)).heap.size (grow w (x.then y)) w') : Calls P f args (grow w (x.then y)) fun e w'' => e = .returned v ∧ ∃ z, w'' = grow w (x.then z) :=
  h.mono fun e w' ⟨he, hb⟩ => ⟨he, by obtain ⟨z, hz⟩ := grow_of hb; exact ⟨y.then z, hz⟩⟩
def sumP (u : Nat → Int) (p : Nat → P3) (n : Nat) : P3 := ⟨sumW u (fun k => (p k).x) n, sumW u (fun k => (p k).y) n, sumW u (fun k => (p k).z) n⟩
def rnP (s : P3) (d : Int) : P3 := ⟨rnd s.x d, rnd s.y d, rnd s.z d⟩
theorem wi_bd {q : P3} (h : wi q = true) : (-65536 ≤ q.x ∧ q.x ≤ 65536) ∧ (-65536 ≤ q.y ∧ q.y ≤ 65536) ∧ -65536 ≤ q.z ∧ q.z ≤ 65536 := ((wiB_iff _ _ _ _).1 h).2
theorem part_bd {u x : Nat → Int} {m : Nat} (hu : ∀ k, k < m → 0 ≤ u k) (hx : ∀ k, k < m → -65536 ≤ x k ∧ x k ≤ 65536) (ht : totW u m ≤ 16777216) {k : Nat} (hk : k ≤ m) : -1099511627776 ≤ sumW u x k ∧ sumW u x k ≤ 1099511627776 := by
  obtain ⟨a, b⟩ := sumW_bd k (fun j h => hu j (by omega)) (fun j h => hx j (by omega))
  obtain ⟨c, d⟩ := totW_le hu k hk
  omega
theorem prod_bd {u x : Int} (h0 : 0 ≤ u) (h1 : u ≤ 16777216) (hx : -65536 ≤ x ∧ x ≤ 65536) : -1099511627776 ≤ x * u ∧ x * u ≤ 1099511627776 := by
  have a := Int.mul_le_mul_of_nonneg_right hx.1 h0
  have b := Int.mul_le_mul_of_nonneg_right hx.2 h0
  omega
theorem sumP_bd {u : Nat → Int} {p : Nat → P3} {m : Nat} (hu : ∀ k, k < m → 0 ≤ u k) (hp : okB p m = true) (ht : totW u m ≤ 16777216) {k : Nat} (hk : k ≤ m) : (-1099511627776 ≤ (sumP u p k).x ∧ (sumP u p k).x ≤ 1099511627776) ∧ (-1099511627776 ≤ (sumP u p k).y ∧ (sumP u p k).y ≤ 1099511627776) ∧ -1099511627776 ≤ (sumP u p k).z ∧ (sumP u p k).z ≤ 1099511627776 :=
  ⟨part_bd hu (fun j h => (wi_bd (okB_all.1 hp j h)).1) ht hk, part_bd hu (fun j h => (wi_bd (okB_all.1 hp j h)).2.1) ht hk, part_bd hu (fun j h => (wi_bd (okB_all.1 hp j h)).2.2) ht hk⟩
theorem sumP_succ (u : Nat → Int) (p : Nat → P3) (k : Nat) : sumP u p (k + 1) = ⟨(sumP u p k).x + (p k).x * u k, (sumP u p k).y + (p k).y * u k, (sumP u p k).z + (p k).z * u k⟩ := rfl
/-- One step of a sum of weights: nothing goes round. -/
theorem step_bd {u : Nat → Int} {p : Nat → P3} {m : Nat} (hu : ∀ k, k < m → 0 ≤ u k) (hp : okB p m = true) (ht : totW u m ≤ 16777216) {k : Nat} (hk : k < m) :
    (wrap64 ((p k).x * u k) = (p k).x * u k ∧ wrap64 ((p k).y * u k) = (p k).y * u k ∧ wrap64 ((p k).z * u k) = (p k).z * u k) ∧ wrap64 ((sumP u p k).x + (p k).x * u k) = (sumP u p k).x + (p k).x * u k ∧ wrap64 ((sumP u p k).y + (p k).y * u k) = (sumP u p k).y + (p k).y * u k ∧ wrap64 ((sumP u p k).z + (p k).z * u k) = (sumP u p k).z + (p k).z * u k := by
  have b := sumP_bd hu hp ht (k := k + 1) (by omega)
  rw [sumP_succ] at b
  have w := wi_bd (okB_all.1 hp k hk)
  have h0 := hu k hk
  have h1 := one_le hu k hk
  have px := prod_bd h0 (by omega) w.1
  have py := prod_bd h0 (by omega) w.2.1
  have pz := prod_bd h0 (by omega) w.2.2
  simp only [] at b
  exact ⟨⟨wrap_id (by omega) (by omega), wrap_id (by omega) (by omega), wrap_id (by omega) (by omega)⟩, wrap_id (by omega) (by omega), wrap_id (by omega) (by omega), wrap_id (by omega) (by omega)⟩
end Go.Proofs.Ytgmifpicilfcdaa
