/- The numbers that the document fixes for layer 2: alive answers true; facts on wrapped sums. A block whose cells are all known, in worlds that go on. No program is imported. Rows of structs of k cells, cell by cell. No program is imported. Package curve: what lies within bounds, weights, and points together; the closures that tell weights. Package curve: are all points within bounds? A cubic's weights, and the closures that tell them. Package curve: points together, each as often as its weight. -/
import Derived.Laws.Rows
import Derived.RegionTactic
import Derived.BigRegion
import Derived.Test.YtpaehkjnefgaiaaC0
import Derived.Test.YtpaehkjnefgaiaaC1
namespace Go.Proofs.Ytpaehkjnefgaiaa
open Go.RowKit
set_option linter.unusedVariables false
set_option linter.unusedSimpArgs false
theorem wrap_id {x : Int} (h0 : -9223372036854775808 ≤ x) (h1 : x ≤ 9223372036854775807) : wrap64 x = x := by unfold wrap64; omega
end Go.Proofs.Ytpaehkjnefgaiaa
namespace Go.Proofs.Ytpaehkjnefgaiaa
open Go.RowKit
set_option linter.unusedVariables false
set_option linter.unusedSimpArgs false
def Blk (W : World) (g : Nat) (t : TypeId) (cs : Array Value) : Prop := W.heap[g]? = some (.cells cs t (0, 0))
section
variable {W W' : World} {g : Nat} {t : TypeId} {cs : Array Value}
theorem Blk.lt (h : Blk W g t cs) : g < W.heap.size := (Array.getElem?_eq_some_iff.1 h).1
theorem Blk.cell (h : Blk W g t cs) (i : Nat) : W.cell? ⟨g, i, none⟩ = cs[i]? := cell_of_row W g i cs t (0, 0) h
theorem Blk.frozen (h : Blk W g t cs) (i : Nat) : W.frozen? ⟨g, i, none⟩ = false := by
  unfold Blk at h; simp [World.frozen?, h]
theorem Blk.new (W : World) (t : TypeId) (cs : Array Value) (g : Nat) (hg : g = W.heap.size) : Blk (W.alloc (.cells cs t)) g t cs := by
  subst hg; exact heap_alloc_new W _
theorem Blk.below (h : Blk W g t cs) (hb : Below W.heap.size W W') : Blk W' g t cs := (hb.block g h.lt).trans h
theorem Blk.alloc (h : Blk W g t cs) (o : Obj) : Blk (W.alloc o) g t cs := h.below (bel_alloc (Below.refl _ _) o)
theorem Blk.grow (h : Blk W g t cs) (x : More) : Blk (grow W x) g t cs := h.below (x.kept W)
theorem Blk.then (x y : More) (h : Blk (Go.Proofs.Ytpaehkjnefgaiaa.grow W x) g t cs) : Blk (Go.Proofs.Ytpaehkjnefgaiaa.grow W (x.then y)) g t cs := Blk.grow h y
theorem Blk.drew (h : Blk W g t cs) : Blk W.drew g t cs := h
theorem Blk.set (h : Blk W g t cs) (i : Nat) (u : Value) : Blk (W.setCell ⟨g, i, none⟩ u) g t (cs.setIfInBounds i u) := by
  unfold Blk at h ⊢
  simp [World.setCell, Array.getElem?_modify, h]
theorem Blk.far (h : Blk W g t cs) {b : Nat} (i : Nat) (u : Value) (hb : b ≠ g) : Blk (W.setCell ⟨b, i, none⟩ u) g t cs := by
  unfold Blk at h ⊢
  simp [World.setCell, Array.getElem?_modify, h, hb]
theorem Blk.setRow (h : Blk W g t cs) (cs' : Array Value) : Blk (W.setRow g cs') g t cs' := setRow_heap W g cs cs' t (0, 0) h
theorem Blk.farRow (h : Blk W g t cs) {b : Nat} (cs' : Array Value) (hb : b ≠ g) : Blk (W.setRow b cs') g t cs := (setRow_other W b g cs' (Ne.symm hb)).trans h
theorem Blk.ne_ {g' : Nat} {t' : TypeId} {cs' : Array Value} (h : Blk W g t cs) (h' : Blk W g' t' cs') (hne : t ≠ t') : g ≠ g' := by
  rintro rfl
  unfold Blk at h h'
  rw [h] at h'
  injection h' with h'
  injection h' with _ ht
  exact hne ht
end
end Go.Proofs.Ytpaehkjnefgaiaa
namespace Go.Proofs.Ytpaehkjnefgaiaa
open Go.RowKit
set_option linter.unusedVariables false
set_option linter.unusedSimpArgs false
/-- The cells of n structs of k cells each. -/
def rowCs (k n : Nat) (h : Nat → Nat → Value) : Array Value := ((List.range (n * k)).map fun j => h (j / k) (j % k)).toArray
theorem rowCs_size (k n : Nat) (h : Nat → Nat → Value) : (rowCs k n h).size = n * k := by simp [rowCs]
theorem row_split {k v j : Nat} (hj : j < k) : (v * k + j) / k = v ∧ (v * k + j) % k = j := by
  have hk : 0 < k := by omega
  have h1 : (v * k + j) / k = v := by rw [Nat.mul_comm, Nat.mul_add_div hk, Nat.div_eq_of_lt hj, Nat.add_zero]
  have h2 : (v * k + j) % k = j := by rw [Nat.mul_comm, Nat.mul_add_mod, Nat.mod_eq_of_lt hj]
  exact ⟨h1, h2⟩
theorem row_lt {k n v j : Nat} (hv : v < n) (hj : j < k) : v * k + j < n * k := by
  have : (v + 1) * k ≤ n * k := Nat.mul_le_mul_right k hv
  rw [Nat.add_mul] at this; omega
theorem rowCs_at {k n : Nat} (h : Nat → Nat → Value) {v j : Nat} (hv : v < n) (hj : j < k) : (rowCs k n h)[v * k + j]? = some (h v j) := by
  unfold rowCs
  rw [List.getElem?_toArray, List.getElem?_map, List.getElem?_range (row_lt hv hj)]
  obtain ⟨e1, e2⟩ := row_split (v := v) hj
  simp [e1, e2]
def setC (h : Nat → Nat → Value) (v j : Nat) (u : Value) : Nat → Nat → Value := fun a b => if a = v ∧ b = j then u else h a b
theorem rowCs_ext {k n : Nat} {h g : Nat → Nat → Value} (e : ∀ v j, v < n → j < k → h v j = g v j) : rowCs k n h = rowCs k n g := by
  rcases Nat.eq_zero_or_pos k with rfl | hk
  · simp [rowCs]
  unfold rowCs
  congr 1
  apply List.map_congr_left
  intro i hi
  have hi2 : i < n * k := by simpa using hi
  have : i / k < n := Nat.div_lt_of_lt_mul (by rw [Nat.mul_comm]; exact hi2)
  exact e _ _ this (Nat.mod_lt _ hk)
theorem rowCs_made {z : Array Value} {k n : Nat} (hz : z.size = k) (hk : 0 < k) : madeCells z (n * k) = rowCs k n (fun _ j => z.getD j default) := by
  apply Array.ext
  · simp [size_madeCells, rowCs_size]
  · intro i h1 h2
    simp only [madeCells, rowCs, Array.getElem_map, Array.getElem_range, List.getElem_toArray, List.getElem_map, List.getElem_range]
    rw [hz]
    have : i % k < z.size := by rw [hz]; exact Nat.mod_lt _ hk
    simp [Array.getD, this, getElem!_pos]
end Go.Proofs.Ytpaehkjnefgaiaa
namespace Go.Proofs.Ytpaehkjnefgaiaa
open Go.RowKit
set_option linter.unusedVariables false
set_option linter.unusedSimpArgs false
set_option linter.unnecessarySimpa false
set_option maxRecDepth 100000
/-- The cells of n points in a row. -/
def qC (f : Nat → P3) : Nat → Nat → Value := fun v j => .int .i64 (if j = 0 then (f v).x else if j = 1 then (f v).y else (f v).z)
def ptsC (n : Nat) (p : Nat → P3) : Array Value := rowCs 3 n (qC p)
theorem ptsC_size (n : Nat) (p : Nat → P3) : (ptsC n p).size = n * 3 := rowCs_size 3 n _
theorem ptsC_at {n : Nat} (p : Nat → P3) {k : Nat} (h : k < n) : (ptsC n p)[k * 3]? = some (.int .i64 (p k).x) ∧ (ptsC n p)[k * 3 + 1]? = some (.int .i64 (p k).y) ∧ (ptsC n p)[k * 3 + 2]? = some (.int .i64 (p k).z) :=
  ⟨rowCs_at (qC p) h (show 0 < 3 by omega), rowCs_at (qC p) h (show 1 < 3 by omega), rowCs_at (qC p) h (show 2 < 3 by omega)⟩
theorem ptsB {W : World} {b n : Nat} {t : TypeId} {p : Nat → P3} (h : Blk W b t (ptsC n p)) {k : Nat} (hk : k < n) : W.cell? ⟨b, k * 3, none⟩ = some (.int .i64 (p k).x) ∧ W.cell? ⟨b, k * 3 + 1, none⟩ = some (.int .i64 (p k).y) ∧ W.cell? ⟨b, k * 3 + 2, none⟩ = some (.int .i64 (p k).z) := by
  obtain ⟨h1, h2, h3⟩ := ptsC_at p hk
  exact ⟨(h.cell _).trans h1, (h.cell _).trans h2, (h.cell _).trans h3⟩
def wi (q : P3) : Bool := wiB q.x q.y q.z 65536
def okB (p : Nat → P3) : Nat → Bool
  | 0 => true
  | k + 1 => okB p k && wi (p k)
theorem okB_all {p : Nat → P3} : ∀ {n : Nat}, okB p n = true ↔ ∀ k, k < n → wi (p k) = true
  | 0 => by simp [okB]
  | n + 1 => by
    rw [okB, Bool.and_eq_true, okB_all]
    exact ⟨fun h k hk => if e : k < n then h.1 k e else by rw [show k = n by omega]; exact h.2, fun h => ⟨fun k hk => h k (by omega), h n (by omega)⟩⟩
theorem okB_no {p : Nat → P3} {n k : Nat} (hk : k < n) (h : wi (p k) = false) : okB p n = false := by
  cases e : okB p n
  · rfl
  · rw [okB_all.1 e k hk] at h; cases h
def thB (i n : Int) : Bool := decide (1 ≤ n ∧ n ≤ 16 ∧ 0 ≤ i ∧ i ≤ n)
theorem thB_yes {i n : Int} (h : 1 ≤ n ∧ n ≤ 16 ∧ 0 ≤ i ∧ i ≤ n) : thB i n = true := decide_eq_true h
theorem thB_no {i n : Int} (h : ¬ (1 ≤ n ∧ n ≤ 16 ∧ 0 ≤ i ∧ i ≤ n)) : thB i n = false := decide_eq_false h
theorem parted_any (i n : Int) : Gives Try.prog 96 #[.int .i64 i, .int .i64 n] (.bool (thB i n)) := by
  refine Gives.mk fun w => ?_
  go_enter Try.func96, Try.ntmps96
  go_wp2
  all_goals
    go_ret
    refine ⟨ret_bool ?_, (by repeat (first | exact Below.refl _ _ | refine bel_grow ?_ _ | refine bel_alloc ?_ _ | refine bel_set ?_ (by simp) _))⟩
    first | (symm; apply thB_yes; omega) | (symm; apply thB_no; omega) | (unfold thB; simp [*])
theorem vWithin_G (q : P3) : Gives Try.prog 19 #[.agg #[.int .i64 q.x, .int .i64 q.y, .int .i64 q.z], .int .i64 65536] (.bool (wi q)) := vWithin_any q.x q.y q.z 65536 (by omega)
theorem cube_G {n : Int} (h0 : 0 ≤ n) (h1 : n ≤ 16) : Gives Try.prog 100 #[.int .i64 n] (.int .i64 (n * n * n)) := by
  have a : 0 ≤ n * n ∧ n * n ≤ 256 := ⟨Int.mul_nonneg h0 h0, Int.mul_le_mul h1 h1 h0 (by omega)⟩
  have b : 0 ≤ n * n * n ∧ n * n * n ≤ 4096 := ⟨Int.mul_nonneg a.1 h0, Int.mul_le_mul a.2 h1 h0 (by omega)⟩
  have e1 : wrap64 (n * n) = n * n := wrap_id (by omega) (by omega)
  have e2 : wrap64 (n * n * n) = n * n * n := wrap_id (by omega) (by omega)
  clear a b
  refine Gives.mk fun w => ?_
  go_enter Try.func100, Try.ntmps100
  go_wp2
  go_ret
  exact ⟨ret_i64 (by first | rfl | simp only [e1, e2]), (by repeat (first | exact Below.refl _ _ | refine bel_then ?_ _ | refine bel_grow ?_ _ | refine bel_alloc ?_ _ | refine bel_drew ?_ | refine bel_set ?_ (by simp) _ | refine bel_setRow ?_ (by first | omega | (simp; done) | (refine Nat.le_trans ?_ (top_le _ _); simp; done) | (refine Nat.le_succ_of_le (Nat.le_trans ?_ (top_le _ _)); simp; done) | (refine Nat.le_trans ?_ (top_le _ _); simp only [World.size_alloc]; refine Nat.le_succ_of_le (Nat.le_trans ?_ (top_le _ _)); simp; done)) _))⟩
end Go.Proofs.Ytpaehkjnefgaiaa
namespace Go.Proofs.Ytpaehkjnefgaiaa
open Go.RowKit
set_option linter.unusedVariables false
set_option linter.unusedSimpArgs false
set_option linter.unnecessarySimpa false
set_option maxRecDepth 100000
theorem bounded_any (W : World) (b n c : Nat) (t : TypeId) (p : Nat → P3) (hB : Blk W b t (ptsC n p)) (hn : n < 1000) :
    Calls Try.prog 97 #[.slice (some ⟨b, 0, none⟩) n c] W fun e W' => e = .returned (.bool (okB p n)) ∧ Below W.heap.size W W' := by
  go_enter Try.func97, Try.ntmps97
  go_wp2
  go_loopw [7] (fun iv wr => ∃ k : Nat, iv = .int .i64 (k : Int) ∧ k ≤ n ∧ (∀ j, j < k → wi (p j) = true) ∧ Below W.heap.size W wr) (fun iv _ => n - (intOf iv).toNat)
  case atStart => exact ⟨0, rfl, by omega, fun j hj => by omega, Below.refl _ _⟩
  case round =>
    obtain ⟨k, rfl, hk, hal, hBr⟩ := hrel
    by_cases hlt : k < n
    · have hB1 := hB.below hBr
      obtain ⟨c1, c2, c3⟩ := ptsB hB1 hlt
      have hbl := hB1.lt
      have cW := vWithin_G (p k)
      have hno := okB_no (p := p) hlt
      have hnx : wi (p k) = true → ∀ j, j < k + 1 → wi (p j) = true := fun h j hj => if e : j < k then hal j e else by rw [show j = k by omega]; exact h
      generalize p k = q at *
      have q0 : (0 : Int) ≤ (k : Int) := by omega
      have q1 : (k : Int) < (n : Int) := by omega
      cases hw : wi q
      · rw [hw] at cW
        have hno := hno hw
        replace hnx := trivial
        replace hw := trivial
        replace hno := Lib.hid hno
        go_wp2_with (first | (go_at_call 19; (with_reducible refine (cW.at_ _).mono ?_); rintro e w' ⟨rfl, xg, rfl⟩) | fail)
        first | go_ret | (refine bodyPost_ret (results_none rfl _ _ _) rfl ?_)
        exact ⟨by rw [hno.out]; rfl, bel_trans hBr (by repeat (first | exact Below.refl _ _ | refine bel_then ?_ _ | refine bel_grow ?_ _ | refine bel_alloc ?_ _ | refine bel_drew ?_ | refine bel_set ?_ (by simp) _ | refine bel_setRow ?_ (by first | omega | (simp; done) | (refine Nat.le_trans ?_ (top_le _ _); simp; done) | (refine Nat.le_succ_of_le (Nat.le_trans ?_ (top_le _ _)); simp; done) | (refine Nat.le_trans ?_ (top_le _ _); simp only [World.size_alloc]; refine Nat.le_succ_of_le (Nat.le_trans ?_ (top_le _ _)); simp; done)) _))⟩
      · rw [hw] at cW
        have hnx := hnx hw
        replace hno := trivial
        replace hw := trivial
        replace hnx := Lib.hid hnx
        go_wp2_with (first | (go_at_call 19; (with_reducible refine (cW.at_ _).mono ?_); rintro e w' ⟨rfl, xg, rfl⟩) | fail)
        go_roundw
        case rel => exact ⟨k + 1, by go_num, by omega, hnx.out, bel_trans hBr (by repeat (first | exact Below.refl _ _ | refine bel_then ?_ _ | refine bel_grow ?_ _ | refine bel_alloc ?_ _ | refine bel_drew ?_ | refine bel_set ?_ (by simp) _ | refine bel_setRow ?_ (by first | omega | (simp; done) | (refine Nat.le_trans ?_ (top_le _ _); simp; done) | (refine Nat.le_succ_of_le (Nat.le_trans ?_ (top_le _ _)); simp; done) | (refine Nat.le_trans ?_ (top_le _ _); simp only [World.size_alloc]; refine Nat.le_succ_of_le (Nat.le_trans ?_ (top_le _ _)); simp; done)) _))⟩
        case measure => simp [intOf]; omega
    · obtain rfl : k = n := by omega
      have hy : okB p k = true := okB_all.2 hal
      replace hy := Lib.hid hy
      go_wp2
      go_ret
      exact ⟨by rw [hy.out]; rfl, hBr⟩
theorem wt_small {i n : Int} (h0 : 0 ≤ i) (h1 : i ≤ n) (h2 : n ≤ 16) : (wrap64 (n - i) = n - i ∧ wrap64 (3 * (n - i)) = 3 * (n - i) ∧ wrap64 (3 * (n - i) * (n - i)) = 3 * (n - i) * (n - i) ∧ wrap64 (3 * (n - i) * (n - i) * i) = 3 * (n - i) * (n - i) * i) ∧ (wrap64 (3 * (n - i) * i) = 3 * (n - i) * i ∧ wrap64 (3 * (n - i) * i * i) = 3 * (n - i) * i * i) ∧ (wrap64 ((n - i) * (n - i)) = (n - i) * (n - i) ∧ wrap64 ((n - i) * (n - i) * (n - i)) = (n - i) * (n - i) * (n - i)) ∧ wrap64 (i * i) = i * i ∧ wrap64 (i * i * i) = i * i * i := by
  have a0 : 0 ≤ n - i := by omega
  have a1 : n - i ≤ 16 := by omega
  have i1 : i ≤ 16 := by omega
  generalize n - i = a at *
  have m2 : ∀ {x y B C : Int}, 0 ≤ x → x ≤ B → 0 ≤ y → y ≤ C → 0 ≤ B → 0 ≤ x * y ∧ x * y ≤ B * C := fun hx hB hy hC hb => ⟨Int.mul_nonneg hx hy, Int.mul_le_mul hB hC hy hb⟩
  have t1 : 0 ≤ 3 * a ∧ 3 * a ≤ 48 := by omega
  have t2 := m2 t1.1 t1.2 a0 a1 (by omega)
  have t3 := m2 t2.1 t2.2 h0 i1 (by omega)
  have t4 := m2 t1.1 t1.2 h0 i1 (by omega)
  have t5 := m2 t4.1 t4.2 h0 i1 (by omega)
  have t6 := m2 a0 a1 a0 a1 (by omega)
  have t7 := m2 t6.1 t6.2 a0 a1 (by omega)
  have t8 := m2 h0 i1 h0 i1 (by omega)
  have t9 := m2 t8.1 t8.2 h0 i1 (by omega)
  refine ⟨⟨?_, ?_, ?_, ?_⟩, ⟨?_, ?_⟩, ⟨?_, ?_⟩, ?_, ?_⟩ <;> (apply wrap_id <;> omega)
def wtV (i n : Int) : Value := .agg #[.int .i64 (wt i n 0), .int .i64 (wt i n 1), .int .i64 (wt i n 2), .int .i64 (wt i n 3)]
theorem weights_G {i n : Int} (h : 1 ≤ n ∧ n ≤ 16 ∧ 0 ≤ i ∧ i ≤ n) : Gives Try.prog 98 #[.int .i64 i, .int .i64 n] (wtV i n) := by
  obtain ⟨g1, g2, g3, g4⟩ := h
  obtain ⟨⟨e1, e2, e3, e4⟩, ⟨e5, e6⟩, ⟨e7, e8⟩, e9, ea⟩ := wt_small g3 g4 g2
  have k1 := cube_G (n := n - i) (by omega) (by omega)
  have k2 := cube_G g3 (show i ≤ 16 by omega)
  refine Gives.mk fun w => ?_
  go_enter Try.func98, Try.ntmps98
  go_wp2_with (first | (go_at_call 100; first | ((with_reducible refine (k1.at_ _).mono ?_); rintro e w' ⟨rfl, xg, rfl⟩) | ((with_reducible refine (k2.at_ _).mono ?_); rintro e w' ⟨rfl, xg, rfl⟩)) | fail)
  refine bodyPost_ret (v := wtV i n) (by simp [results, Try.results98, go_sem, wtV, wt]) rfl ⟨rfl, (by repeat (first | exact Below.refl _ _ | refine bel_then ?_ _ | refine bel_grow ?_ _ | refine bel_alloc ?_ _ | refine bel_drew ?_ | refine bel_set ?_ (by simp) _ | refine bel_setRow ?_ (by first | omega | (simp; done) | (refine Nat.le_trans ?_ (top_le _ _); simp; done) | (refine Nat.le_succ_of_le (Nat.le_trans ?_ (top_le _ _)); simp; done) | (refine Nat.le_trans ?_ (top_le _ _); simp only [World.size_alloc]; refine Nat.le_succ_of_le (Nat.le_trans ?_ (top_le _ _)); simp; done)) _))⟩
/-- Four weights in a block. -/
def WtB (W : World) (b : Nat) (u : Nat → Int) : Prop := b < W.heap.size ∧ ∀ k, k < 4 → W.cell? ⟨b, k, none⟩ = some (.int .i64 (u k))
theorem WtB.below {W W' : World} {b : Nat} {u : Nat → Int} (h : WtB W b u) (hb : Below W.heap.size W W') : WtB W' b u :=
  ⟨Nat.lt_of_lt_of_le h.1 hb.size, fun k hk => (hb.cell (p := ⟨b, k, none⟩) h.1).trans (h.2 k hk)⟩
theorem WtB.of {W : World} {b : Nat} {t : TypeId} {i n : Int} (h : Blk W b t #[.int .i64 (wt i n 0), .int .i64 (wt i n 1), .int .i64 (wt i n 2), .int .i64 (wt i n 3)]) : WtB W b (wt i n) := ⟨h.lt, fun k hk => by
  rw [h.cell]
  rcases (by omega : k = 0 ∨ k = 1 ∨ k = 2 ∨ k = 3) with rfl | rfl | rfl | rfl <;> rfl⟩
theorem fun1_any (W : World) (b : Nat) (u : Nat → Int) (hW : WtB W b u) {k : Nat} (hk : k < 4) :
    Calls Try.prog 101 #[.int .i64 (k : Int), .pointer (some ⟨b, 0, none⟩)] W fun e W' => e = .returned (.int .i64 (u k)) ∧ Below W.heap.size W W' := by
  have c := hW.2 k hk
  have hl := hW.1
  have q0 : (0 : Int) ≤ (k : Int) := by omega
  have q1 : (k : Int) < 4 := by omega
  go_enter Try.func101, Try.ntmps101
  go_wp2
  go_ret
  exact ⟨rfl, (by repeat (first | exact Below.refl _ _ | refine bel_then ?_ _ | refine bel_grow ?_ _ | refine bel_alloc ?_ _ | refine bel_drew ?_ | refine bel_set ?_ (by simp) _ | refine bel_setRow ?_ (by first | omega | (simp; done) | (refine Nat.le_trans ?_ (top_le _ _); simp; done) | (refine Nat.le_succ_of_le (Nat.le_trans ?_ (top_le _ _)); simp; done) | (refine Nat.le_trans ?_ (top_le _ _); simp only [World.size_alloc]; refine Nat.le_succ_of_le (Nat.le_trans ?_ (top_le _ _)); simp; done)) _))⟩
theorem fun2_any (W : World) (b1 b2 : Nat) (u v : Nat → Int) (hU : WtB W b1 u) (hV : WtB W b2 v) {k : Nat} (hk : k < 16) (hw : wrap64 (u (k % 4) * v (k / 4)) = u (k % 4) * v (k / 4)) :
    Calls Try.prog 102 #[.int .i64 (k : Int), .pointer (some ⟨b1, 0, none⟩), .pointer (some ⟨b2, 0, none⟩)] W fun e W' => e = .returned (.int .i64 (u (k % 4) * v (k / 4))) ∧ Below W.heap.size W W' := by
  have c1 := hU.2 (k % 4) (by omega)
  have c2 := hV.2 (k / 4) (by omega)
  have hl1 := hU.1
  have hl2 := hV.1
  have m1 : (k : Int).tmod 4 = ((k % 4 : Nat) : Int) := by rw [Int.tmod_eq_emod_of_nonneg (by omega)]; omega
  have m2 : (k : Int).tdiv 4 = ((k / 4 : Nat) : Int) := by rw [Int.tdiv_eq_ediv_of_nonneg (by omega)]; omega
  have hm4 : k % 4 < 4 := by omega
  have hd4 : k / 4 < 4 := by omega
  generalize k % 4 = m at *
  generalize k / 4 = d at *
  have q0 : (0 : Int) ≤ (m : Int) := by omega
  have q1 : (m : Int) < 4 := by omega
  have q2 : (0 : Int) ≤ (d : Int) := by omega
  have q3 : (d : Int) < 4 := by omega
  go_enter Try.func102, Try.ntmps102
  go_wp2
  go_region
  all_goals
    (try go_wp2)
    go_ret
    exact ⟨ret_i64 hw, (by repeat (first | exact Below.refl _ _ | refine bel_then ?_ _ | refine bel_grow ?_ _ | refine bel_alloc ?_ _ | refine bel_drew ?_ | refine bel_set ?_ (by simp) _ | refine bel_setRow ?_ (by first | omega | (simp; done) | (refine Nat.le_trans ?_ (top_le _ _); simp; done) | (refine Nat.le_succ_of_le (Nat.le_trans ?_ (top_le _ _)); simp; done) | (refine Nat.le_trans ?_ (top_le _ _); simp only [World.size_alloc]; refine Nat.le_succ_of_le (Nat.le_trans ?_ (top_le _ _)); simp; done)) _))⟩
end Go.Proofs.Ytpaehkjnefgaiaa
namespace Go.Proofs.Ytpaehkjnefgaiaa
open Go.RowKit
set_option linter.unusedVariables false
set_option linter.unusedSimpArgs false
set_option linter.unnecessarySimpa false
set_option maxRecDepth 100000
theorem cq1 {P : Program} {f : FuncId} {args : Array Value} {v : Value} {w : World} (x : More) (h : Calls P f args (grow w x) fun e w' => e = .returned v ∧ Below (grow w x).heap.size (grow w x) w') : Calls P f args (grow w x) fun e w'' => e = .returned v ∧ ∃ y, w'' = grow w y :=
  h.mono fun e w' ⟨he, hb⟩ => ⟨he, grow_of (bel_trans (bel_grow (Below.refl _ _) x) hb)⟩
theorem cq2 {P : Program} {f : FuncId} {args : Array Value} {v : Value} {w : World} (x y : More) (h : Calls P f args (grow w (x.then y)) fun e w' => e = .returned v ∧ Below (grow w (x.then y)).heap.size (grow w (x.then y)) w') : Calls P f args (grow w (x.then y)) fun e w'' => e = .returned v ∧ ∃ z, w'' = grow w (x.then z) :=
  h.mono fun e w' ⟨he, hb⟩ => ⟨he, by obtain ⟨z, hz⟩ := grow_of hb; exact ⟨y.then z, hz⟩⟩
def sumP (u : Nat → Int) (p : Nat → P3) (n : Nat) : P3 := ⟨sumW u (fun k => (p k).x) n, sumW u (fun k => (p k).y) n, sumW u (fun k => (p k).z) n⟩
def rnP (s : P3) (d : Int) : P3 := ⟨rnd s.x d, rnd s.y d, rnd s.z d⟩
theorem wi_bd {q : P3} (h : wi q = true) : (-65536 ≤ q.x ∧ q.x ≤ 65536) ∧ (-65536 ≤ q.y ∧ q.y ≤ 65536) ∧ -65536 ≤ q.z ∧ q.z ≤ 65536 := ((wiB_iff _ _ _ _).1 h).2
theorem part_bd {u x : Nat → Int} {m : Nat} (hu : ∀ k, k < m → 0 ≤ u k) (hx : ∀ k, k < m → -65536 ≤ x k ∧ x k ≤ 65536) (ht : totW u m ≤ 16777216) {k : Nat} (hk : k ≤ m) : -1099511627776 ≤ sumW u x k ∧ sumW u x k ≤ 1099511627776 := by
  obtain ⟨a, b⟩ := sumW_bd k (fun j h => hu j (by omega)) (fun j h => hx j (by omega))
  obtain ⟨c, d⟩ := totW_le hu k hk
  omega
theorem prod_bd {u x : Int} (h0 : 0 ≤ u) (h1 : u ≤ 16777216) (hx : -65536 ≤ x ∧ x ≤ 65536) : -1099511627776 ≤ x * u ∧ x * u ≤ 1099511627776 := by
  have a := Int.mul_le_mul_of_nonneg_right hx.1 h0
  have b := Int.mul_le_mul_of_nonneg_right hx.2 h0
  omega
theorem sumP_bd {u : Nat → Int} {p : Nat → P3} {m : Nat} (hu : ∀ k, k < m → 0 ≤ u k) (hp : okB p m = true) (ht : totW u m ≤ 16777216) {k : Nat} (hk : k ≤ m) : (-1099511627776 ≤ (sumP u p k).x ∧ (sumP u p k).x ≤ 1099511627776) ∧ (-1099511627776 ≤ (sumP u p k).y ∧ (sumP u p k).y ≤ 1099511627776) ∧ -1099511627776 ≤ (sumP u p k).z ∧ (sumP u p k).z ≤ 1099511627776 :=
  ⟨part_bd hu (fun j h => (wi_bd (okB_all.1 hp j h)).1) ht hk, part_bd hu (fun j h => (wi_bd (okB_all.1 hp j h)).2.1) ht hk, part_bd hu (fun j h => (wi_bd (okB_all.1 hp j h)).2.2) ht hk⟩
theorem sumP_succ (u : Nat → Int) (p : Nat → P3) (k : Nat) : sumP u p (k + 1) = ⟨(sumP u p k).x + (p k).x * u k, (sumP u p k).y + (p k).y * u k, (sumP u p k).z + (p k).z * u k⟩ := rfl
/-- One step of a sum of weights: nothing goes round. -/
theorem step_bd {u : Nat → Int} {p : Nat → P3} {m : Nat} (hu : ∀ k, k < m → 0 ≤ u k) (hp : okB p m = true) (ht : totW u m ≤ 16777216) {k : Nat} (hk : k < m) :
    (wrap64 ((p k).x * u k) = (p k).x * u k ∧ wrap64 ((p k).y * u k) = (p k).y * u k ∧ wrap64 ((p k).z * u k) = (p k).z * u k) ∧ wrap64 ((sumP u p k).x + (p k).x * u k) = (sumP u p k).x + (p k).x * u k ∧ wrap64 ((sumP u p k).y + (p k).y * u k) = (sumP u p k).y + (p k).y * u k ∧ wrap64 ((sumP u p k).z + (p k).z * u k) = (sumP u p k).z + (p k).z * u k := by
  have b := sumP_bd hu hp ht (k := k + 1) (by omega)
  rw [sumP_succ] at b
  have w := wi_bd (okB_all.1 hp k hk)
  have h0 := hu k hk
  have h1 := one_le hu k hk
  have px := prod_bd h0 (by omega) w.1
  have py := prod_bd h0 (by omega) w.2.1
  have pz := prod_bd h0 (by omega) w.2.2
  simp only [] at b
  exact ⟨⟨wrap_id (by omega) (by omega), wrap_id (by omega) (by omega), wrap_id (by omega) (by omega)⟩, wrap_id (by omega) (by omega), wrap_id (by omega) (by omega), wrap_id (by omega) (by omega)⟩
set_option maxHeartbeats 4000000 in
theorem mean1_any (W : World) (b1 : Nat) (u : Nat → Int) (hU : WtB W b1 u) (b c : Nat) (t : TypeId) (p : Nat → P3) (hB : Blk W b t (ptsC 4 p)) (d : Int) (hu : ∀ k, k < 4 → 0 ≤ u k) (ht : totW u 4 ≤ 16777216) (hp : okB p 4 = true) (d0 : 1 ≤ d) (d1 : d ≤ 16777216) :
    Calls Try.prog 99 #[.int .i64 d, .slice (some ⟨b, 0, none⟩) 4 c, .func (.func 101) #[] #[.pointer (some ⟨b1, 0, none⟩)]] W fun e W' => e = .returned (.agg #[.int .i64 (rnP (sumP u p 4) d).x, .int .i64 (rnP (sumP u p 4) d).y, .int .i64 (rnP (sumP u p 4) d).z]) ∧ Below W.heap.size W W' := by
  have hb0 : Below W.heap.size W ((W.alloc (.cells #[.int .i64 0, .int .i64 0, .int .i64 0] 23)).alloc (.cells #[.int .i64 0, .int .i64 0, .int .i64 0] 23)) := bel_alloc (bel_alloc (Below.refl _ _) _) _
  have hR0 : Blk ((W.alloc (.cells #[.int .i64 0, .int .i64 0, .int .i64 0] 23)).alloc (.cells #[.int .i64 0, .int .i64 0, .int .i64 0] 23)) W.heap.size 23 #[.int .i64 0, .int .i64 0, .int .i64 0] := (Blk.new _ _ _ _ rfl).alloc _
  have hS0 : Blk ((W.alloc (.cells #[.int .i64 0, .int .i64 0, .int .i64 0] 23)).alloc (.cells #[.int .i64 0, .int .i64 0, .int .i64 0] 23)) (W.heap.size + 1) 23 #[.int .i64 0, .int .i64 0, .int .i64 0] := Blk.new _ _ _ _ (by simp)
  go_enter Try.func99, Try.ntmps99
  go_upto_region 3 with (fail)
  generalize (W.alloc (.cells #[.int .i64 0, .int .i64 0, .int .i64 0] 23)).alloc (.cells #[.int .i64 0, .int .i64 0, .int .i64 0] 23) = W0 at *
  go_loopw [12] (fun iv wr => ∃ k : Nat, iv = .int .i64 (k : Int) ∧ k ≤ 4 ∧ Below W.heap.size W wr ∧ Blk wr W.heap.size 23 #[.int .i64 0, .int .i64 0, .int .i64 0] ∧ Blk wr (W.heap.size + 1) 23 #[.int .i64 (sumP u p k).x, .int .i64 (sumP u p k).y, .int .i64 (sumP u p k).z]) (fun iv _ => 4 - (intOf iv).toNat)
  case atStart => exact ⟨0, rfl, by omega, hb0, hR0, hS0⟩
  case round =>
    obtain ⟨k, rfl, hk, hBr, hRr, hSr⟩ := hrel
    clear hb0 hR0 hS0
    by_cases hlt : k < 4
    · have hB1 := hB.below hBr
      obtain ⟨c1, c2, c3⟩ := ptsB hB1 hlt
      have hbl := hB1.lt
      have hbne : b < W.heap.size := hB.lt
      obtain ⟨⟨e1, e2, e3⟩, e4, e5, e6⟩ := step_bd hu hp ht hlt
      have hsucc := sumP_succ u p k
      generalize hsk : sumP u p (k + 1) = sk at *
      replace hsk := Lib.hid hsk
      generalize p k = q at *
      generalize sumP u p k = sv at *
      have q0 : (0 : Int) ≤ (k : Int) := by omega
      have q1 : (k : Int) < 4 := by omega
      have hb4 : Below wr.heap.size wr (wr.alloc (.cells #[.int .i64 q.x, .int .i64 q.y, .int .i64 q.z] 23)) := bel_alloc (Below.refl _ _) _
      have hS1 : Blk (wr.alloc (.cells #[.int .i64 q.x, .int .i64 q.y, .int .i64 q.z] 23)) (W.heap.size + 1) 23 #[.int .i64 sv.x, .int .i64 sv.y, .int .i64 sv.z] := hSr.alloc _
      have hP1 : Blk (wr.alloc (.cells #[.int .i64 q.x, .int .i64 q.y, .int .i64 q.z] 23)) wr.heap.size 23 #[.int .i64 q.x, .int .i64 q.y, .int .i64 q.z] := Blk.new _ _ _ _ rfl
      have hR1 : Blk (wr.alloc (.cells #[.int .i64 q.x, .int .i64 q.y, .int .i64 q.z] 23)) W.heap.size 23 #[.int .i64 0, .int .i64 0, .int .i64 0] := hRr.alloc _
      have hWr : W.heap.size + 1 < wr.heap.size := hSr.lt
      go_upto_region 5 with (fail)
      generalize wr.alloc (.cells #[.int .i64 q.x, .int .i64 q.y, .int .i64 q.z] 23) = W1 at *
      have kF : ∀ x : More, Calls Try.prog 101 #[.int .i64 (k : Int), .pointer (some ⟨b1, 0, none⟩)] (grow W1 x) fun e w' => e = .returned (.int .i64 (u k)) ∧ Below (grow W1 x).heap.size (grow W1 x) w' := fun x => fun1_any (grow W1 x) b1 u (hU.below (bel_trans (bel_trans hBr hb4) (bel_grow (Below.refl _ _) x))) hlt
      generalize u k = uk at *
      have k1 := vScale_any q.x q.y q.z uk
      rw [e1, e2, e3] at k1
      have k2 := vAdd_any sv.x sv.y sv.z (q.x * uk) (q.y * uk) (q.z * uk)
      rw [e4, e5, e6] at k2
      clear e1 e2 e3 e4 e5 e6 c1 c2 c3 hbl hB1
      have y0 := hP1.cell 0
      have y1 := hP1.cell 1
      have y2 := hP1.cell 2
      have yl := hP1.lt
      have z0 := hS1.cell 0
      have z1 := hS1.cell 1
      have z2 := hS1.cell 2
      have zl := hS1.lt
      have hB4 := bel_trans hBr hb4
      refine wp_region_tail 7 ?_ (by kernel_rfl) (by kernel_rfl) (by kernel_rfl) (fun x => ?_) (fun x => ?_)
      rotate_left
      · simp only [List.take_succ_cons, List.take_zero]
        repeat (go_big_quiet_step (((first | with_reducible exact k1.quiet _ | with_reducible exact k1.quiet2 _ _ | with_reducible exact k2.quiet _ | with_reducible exact k2.quiet2 _ _ | exact cq1 _ (kF _) | exact cq2 _ _ (kF _)))))
        refine wpQuiet_nil ?_
        exact rfl
      simp only [List.drop_succ_cons, List.drop_zero]
      try simp only [Act.put, List.setIfInBounds_toArray, List.set_cons_succ, List.set_cons_zero]
      have hS2 := hS1.grow x
      have hR2 := hR1.grow x
      have hB5 := bel_grow hB4 x
      clear hS1 hP1 hR1 hB4 k1 k2 kF y0 y1 y2 yl z0 z1 z2 zl
      generalize grow W1 x = W2 at *
      have r0 := hS2.cell 0
      have r1 := hS2.cell 1
      have r2 := hS2.cell 2
      have rl := hS2.lt
      have f0 := hS2.frozen 0
      have f1 := hS2.frozen 1
      have f2 := hS2.frozen 2
      have hS3 := ((hS2.set 0 (.int .i64 (sv.x + q.x * uk))).set 1 (.int .i64 (sv.y + q.y * uk))).set 2 (.int .i64 (sv.z + q.z * uk))
      have hR3 := ((hR2.far (b := W.heap.size + 1) 0 (.int .i64 (sv.x + q.x * uk)) (by omega)).far (b := W.heap.size + 1) 1 (.int .i64 (sv.y + q.y * uk)) (by omega)).far (b := W.heap.size + 1) 2 (.int .i64 (sv.z + q.z * uk)) (by omega)
      have hB6 : Below W.heap.size W (((W2.setCell ⟨W.heap.size + 1, 0, none⟩ (.int .i64 (sv.x + q.x * uk))).setCell ⟨W.heap.size + 1, 1, none⟩ (.int .i64 (sv.y + q.y * uk))).setCell ⟨W.heap.size + 1, 2, none⟩ (.int .i64 (sv.z + q.z * uk))) := bel_set (bel_set (bel_set hB5 (p := ⟨W.heap.size + 1, 0, none⟩) (by simp) _) (p := ⟨W.heap.size + 1, 1, none⟩) (by simp) _) (p := ⟨W.heap.size + 1, 2, none⟩) (by simp) _
      replace hsucc := Lib.hid hsucc
      go_wp2
      go_roundw
      case rel =>
        refine ⟨k + 1, by go_num, by omega, hB6, hR3, ?_⟩
        rw [hsk.out, hsucc.out]
        exact hS3
      case measure => simp [intOf]; omega
    · obtain rfl : k = 4 := by omega
      have sb := sumP_bd hu hp ht (k := 4) (Nat.le_refl _)
      have z0 := hSr.cell 0
      have z1 := hSr.cell 1
      have z2 := hSr.cell 2
      have zl := hSr.lt
      have k1 := vRound_any (sumP u p 4).x d (by omega) (by omega) (by omega) (by omega)
      have k2 := vRound_any (sumP u p 4).y d (by omega) (by omega) (by omega) (by omega)
      have k3 := vRound_any (sumP u p 4).z d (by omega) (by omega) (by omega) (by omega)
      generalize hsv : sumP u p 4 = sv at *
      replace hsv := Lib.hid hsv
      go_upto_region 7 with (fail)
      refine wp_region_tail 13 ?_ (by kernel_rfl) (by kernel_rfl) (by kernel_rfl) (fun x => ?_) (fun x => ?_)
      rotate_left
      · simp only [List.take_succ_cons, List.take_zero]
        repeat (go_big_quiet_step (((first | with_reducible exact k1.quiet _ | with_reducible exact k1.quiet2 _ _ | with_reducible exact k2.quiet _ | with_reducible exact k2.quiet2 _ _ | with_reducible exact k3.quiet _ | with_reducible exact k3.quiet2 _ _))))
        refine wpQuiet_nil ?_
        exact rfl
      simp only [List.drop_succ_cons, List.drop_zero]
      try simp only [Act.put, List.setIfInBounds_toArray, List.set_cons_succ, List.set_cons_zero]
      have hR2 := hRr.grow x
      have hB5 := bel_grow hBr x
      clear hSr hRr hBr k1 k2 k3 z0 z1 z2 zl
      generalize grow wr x = W2 at *
      have r0 := hR2.cell 0
      have r1 := hR2.cell 1
      have r2 := hR2.cell 2
      have rl := hR2.lt
      have f0 := hR2.frozen 0
      have f1 := hR2.frozen 1
      have f2 := hR2.frozen 2
      have hR3 := ((hR2.set 0 (.int .i64 (rnd sv.x d))).set 1 (.int .i64 (rnd sv.y d))).set 2 (.int .i64 (rnd sv.z d))
      have hB6 : Below W.heap.size W (((W2.setCell ⟨W.heap.size, 0, none⟩ (.int .i64 (rnd sv.x d))).setCell ⟨W.heap.size, 1, none⟩ (.int .i64 (rnd sv.y d))).setCell ⟨W.heap.size, 2, none⟩ (.int .i64 (rnd sv.z d))) := bel_set (bel_set (bel_set hB5 (p := ⟨W.heap.size, 0, none⟩) (Nat.le_refl _) _) (p := ⟨W.heap.size, 1, none⟩) (Nat.le_refl _) _) (p := ⟨W.heap.size, 2, none⟩) (Nat.le_refl _) _
      go_wp2
      generalize ((W2.setCell ⟨W.heap.size, 0, none⟩ (.int .i64 (rnd sv.x d))).setCell ⟨W.heap.size, 1, none⟩ (.int .i64 (rnd sv.y d))).setCell ⟨W.heap.size, 2, none⟩ (.int .i64 (rnd sv.z d)) = WE at *
      have w0 := hR3.cell 0
      have w1 := hR3.cell 1
      have w2 := hR3.cell 2
      refine bodyPost_ret (v := .agg #[.int .i64 (rnd sv.x d), .int .i64 (rnd sv.y d), .int .i64 (rnd sv.z d)]) (by simp [results, Try.results99, go_sem, w0, w1, w2]) rfl ⟨by rw [hsv.out]; rfl, hB6⟩
set_option maxHeartbeats 4000000 in
theorem mean2_any (W : World) (b1 b2 : Nat) (v1 v2 : Nat → Int) (u : Nat → Int) (hu2 : u = fun k => v1 (k % 4) * v2 (k / 4)) (hU : WtB W b1 v1) (hV : WtB W b2 v2) (b c : Nat) (t : TypeId) (p : Nat → P3) (hB : Blk W b t (ptsC 16 p)) (d : Int) (hu : ∀ k, k < 16 → 0 ≤ u k) (ht : totW u 16 ≤ 16777216) (hp : okB p 16 = true) (d0 : 1 ≤ d) (d1 : d ≤ 16777216) :
    Calls Try.prog 99 #[.int .i64 d, .slice (some ⟨b, 0, none⟩) 16 c, .func (.func 102) #[] #[.pointer (some ⟨b1, 0, none⟩), .pointer (some ⟨b2, 0, none⟩)]] W fun e W' => e = .returned (.agg #[.int .i64 (rnP (sumP u p 16) d).x, .int .i64 (rnP (sumP u p 16) d).y, .int .i64 (rnP (sumP u p 16) d).z]) ∧ Below W.heap.size W W' := by
  have hb0 : Below W.heap.size W ((W.alloc (.cells #[.int .i64 0, .int .i64 0, .int .i64 0] 23)).alloc (.cells #[.int .i64 0, .int .i64 0, .int .i64 0] 23)) := bel_alloc (bel_alloc (Below.refl _ _) _) _
  have hR0 : Blk ((W.alloc (.cells #[.int .i64 0, .int .i64 0, .int .i64 0] 23)).alloc (.cells #[.int .i64 0, .int .i64 0, .int .i64 0] 23)) W.heap.size 23 #[.int .i64 0, .int .i64 0, .int .i64 0] := (Blk.new _ _ _ _ rfl).alloc _
  have hS0 : Blk ((W.alloc (.cells #[.int .i64 0, .int .i64 0, .int .i64 0] 23)).alloc (.cells #[.int .i64 0, .int .i64 0, .int .i64 0] 23)) (W.heap.size + 1) 23 #[.int .i64 0, .int .i64 0, .int .i64 0] := Blk.new _ _ _ _ (by simp)
  go_enter Try.func99, Try.ntmps99
  go_upto_region 3 with (fail)
  generalize (W.alloc (.cells #[.int .i64 0, .int .i64 0, .int .i64 0] 23)).alloc (.cells #[.int .i64 0, .int .i64 0, .int .i64 0] 23) = W0 at *
  go_loopw [12] (fun iv wr => ∃ k : Nat, iv = .int .i64 (k : Int) ∧ k ≤ 16 ∧ Below W.heap.size W wr ∧ Blk wr W.heap.size 23 #[.int .i64 0, .int .i64 0, .int .i64 0] ∧ Blk wr (W.heap.size + 1) 23 #[.int .i64 (sumP u p k).x, .int .i64 (sumP u p k).y, .int .i64 (sumP u p k).z]) (fun iv _ => 16 - (intOf iv).toNat)
  case atStart => exact ⟨0, rfl, by omega, hb0, hR0, hS0⟩
  case round =>
    obtain ⟨k, rfl, hk, hBr, hRr, hSr⟩ := hrel
    clear hb0 hR0 hS0
    by_cases hlt : k < 16
    · have hB1 := hB.below hBr
      obtain ⟨c1, c2, c3⟩ := ptsB hB1 hlt
      have hbl := hB1.lt
      have hbne : b < W.heap.size := hB.lt
      obtain ⟨⟨e1, e2, e3⟩, e4, e5, e6⟩ := step_bd hu hp ht hlt
      have hsucc := sumP_succ u p k
      have hwu : wrap64 (v1 (k % 4) * v2 (k / 4)) = v1 (k % 4) * v2 (k / 4) := by
        have h0 := hu k hlt
        have h1 := one_le hu k hlt
        rw [hu2] at h0 h1 ht
        exact wrap_id (by simp only [] at h0 h1; omega) (by simp only [] at h0 h1; omega)
      generalize hsk : sumP u p (k + 1) = sk at *
      replace hsk := Lib.hid hsk
      generalize p k = q at *
      generalize sumP u p k = sv at *
      have q0 : (0 : Int) ≤ (k : Int) := by omega
      have q1 : (k : Int) < 16 := by omega
      have hb4 : Below wr.heap.size wr (wr.alloc (.cells #[.int .i64 q.x, .int .i64 q.y, .int .i64 q.z] 23)) := bel_alloc (Below.refl _ _) _
      have hS1 : Blk (wr.alloc (.cells #[.int .i64 q.x, .int .i64 q.y, .int .i64 q.z] 23)) (W.heap.size + 1) 23 #[.int .i64 sv.x, .int .i64 sv.y, .int .i64 sv.z] := hSr.alloc _
      have hP1 : Blk (wr.alloc (.cells #[.int .i64 q.x, .int .i64 q.y, .int .i64 q.z] 23)) wr.heap.size 23 #[.int .i64 q.x, .int .i64 q.y, .int .i64 q.z] := Blk.new _ _ _ _ rfl
      have hR1 : Blk (wr.alloc (.cells #[.int .i64 q.x, .int .i64 q.y, .int .i64 q.z] 23)) W.heap.size 23 #[.int .i64 0, .int .i64 0, .int .i64 0] := hRr.alloc _
      have hWr : W.heap.size + 1 < wr.heap.size := hSr.lt
      go_upto_region 5 with (fail)
      generalize wr.alloc (.cells #[.int .i64 q.x, .int .i64 q.y, .int .i64 q.z] 23) = W1 at *
      have kF : ∀ x : More, Calls Try.prog 102 #[.int .i64 (k : Int), .pointer (some ⟨b1, 0, none⟩), .pointer (some ⟨b2, 0, none⟩)] (grow W1 x) fun e w' => e = .returned (.int .i64 (u k)) ∧ Below (grow W1 x).heap.size (grow W1 x) w' := fun x => by rw [hu2]; exact fun2_any (grow W1 x) b1 b2 v1 v2 (hU.below (bel_trans (bel_trans hBr hb4) (bel_grow (Below.refl _ _) x))) (hV.below (bel_trans (bel_trans hBr hb4) (bel_grow (Below.refl _ _) x))) hlt hwu
      generalize u k = uk at *
      have k1 := vScale_any q.x q.y q.z uk
      rw [e1, e2, e3] at k1
      have k2 := vAdd_any sv.x sv.y sv.z (q.x * uk) (q.y * uk) (q.z * uk)
      rw [e4, e5, e6] at k2
      clear e1 e2 e3 e4 e5 e6 c1 c2 c3 hbl hB1
      have y0 := hP1.cell 0
      have y1 := hP1.cell 1
      have y2 := hP1.cell 2
      have yl := hP1.lt
      have z0 := hS1.cell 0
      have z1 := hS1.cell 1
      have z2 := hS1.cell 2
      have zl := hS1.lt
      have hB4 := bel_trans hBr hb4
      refine wp_region_tail 7 ?_ (by kernel_rfl) (by kernel_rfl) (by kernel_rfl) (fun x => ?_) (fun x => ?_)
      rotate_left
      · simp only [List.take_succ_cons, List.take_zero]
        repeat (go_big_quiet_step (((first | with_reducible exact k1.quiet _ | with_reducible exact k1.quiet2 _ _ | with_reducible exact k2.quiet _ | with_reducible exact k2.quiet2 _ _ | exact cq1 _ (kF _) | exact cq2 _ _ (kF _)))))
        refine wpQuiet_nil ?_
        exact rfl
      simp only [List.drop_succ_cons, List.drop_zero]
      try simp only [Act.put, List.setIfInBounds_toArray, List.set_cons_succ, List.set_cons_zero]
      have hS2 := hS1.grow x
      have hR2 := hR1.grow x
      have hB5 := bel_grow hB4 x
      clear hS1 hP1 hR1 hB4 k1 k2 kF y0 y1 y2 yl z0 z1 z2 zl
      generalize grow W1 x = W2 at *
      have r0 := hS2.cell 0
      have r1 := hS2.cell 1
      have r2 := hS2.cell 2
      have rl := hS2.lt
      have f0 := hS2.frozen 0
      have f1 := hS2.frozen 1
      have f2 := hS2.frozen 2
      have hS3 := ((hS2.set 0 (.int .i64 (sv.x + q.x * uk))).set 1 (.int .i64 (sv.y + q.y * uk))).set 2 (.int .i64 (sv.z + q.z * uk))
      have hR3 := ((hR2.far (b := W.heap.size + 1) 0 (.int .i64 (sv.x + q.x * uk)) (by omega)).far (b := W.heap.size + 1) 1 (.int .i64 (sv.y + q.y * uk)) (by omega)).far (b := W.heap.size + 1) 2 (.int .i64 (sv.z + q.z * uk)) (by omega)
      have hB6 : Below W.heap.size W (((W2.setCell ⟨W.heap.size + 1, 0, none⟩ (.int .i64 (sv.x + q.x * uk))).setCell ⟨W.heap.size + 1, 1, none⟩ (.int .i64 (sv.y + q.y * uk))).setCell ⟨W.heap.size + 1, 2, none⟩ (.int .i64 (sv.z + q.z * uk))) := bel_set (bel_set (bel_set hB5 (p := ⟨W.heap.size + 1, 0, none⟩) (by simp) _) (p := ⟨W.heap.size + 1, 1, none⟩) (by simp) _) (p := ⟨W.heap.size + 1, 2, none⟩) (by simp) _
      replace hsucc := Lib.hid hsucc
      go_wp2
      go_roundw
      case rel =>
        refine ⟨k + 1, by go_num, by omega, hB6, hR3, ?_⟩
        rw [hsk.out, hsucc.out]
        exact hS3
      case measure => simp [intOf]; omega
    · obtain rfl : k = 16 := by omega
      have sb := sumP_bd hu hp ht (k := 16) (Nat.le_refl _)
      have z0 := hSr.cell 0
      have z1 := hSr.cell 1
      have z2 := hSr.cell 2
      have zl := hSr.lt
      have k1 := vRound_any (sumP u p 16).x d (by omega) (by omega) (by omega) (by omega)
      have k2 := vRound_any (sumP u p 16).y d (by omega) (by omega) (by omega) (by omega)
      have k3 := vRound_any (sumP u p 16).z d (by omega) (by omega) (by omega) (by omega)
      generalize hsv : sumP u p 16 = sv at *
      replace hsv := Lib.hid hsv
      go_upto_region 7 with (fail)
      refine wp_region_tail 13 ?_ (by kernel_rfl) (by kernel_rfl) (by kernel_rfl) (fun x => ?_) (fun x => ?_)
      rotate_left
      · simp only [List.take_succ_cons, List.take_zero]
        repeat (go_big_quiet_step (((first | with_reducible exact k1.quiet _ | with_reducible exact k1.quiet2 _ _ | with_reducible exact k2.quiet _ | with_reducible exact k2.quiet2 _ _ | with_reducible exact k3.quiet _ | with_reducible exact k3.quiet2 _ _))))
        refine wpQuiet_nil ?_
        exact rfl
      simp only [List.drop_succ_cons, List.drop_zero]
      try simp only [Act.put, List.setIfInBounds_toArray, List.set_cons_succ, List.set_cons_zero]
      have hR2 := hRr.grow x
      have hB5 := bel_grow hBr x
      clear hSr hRr hBr k1 k2 k3 z0 z1 z2 zl
      generalize grow wr x = W2 at *
      have r0 := hR2.cell 0
      have r1 := hR2.cell 1
      have r2 := hR2.cell 2
      have rl := hR2.lt
      have f0 := hR2.frozen 0
      have f1 := hR2.frozen 1
      have f2 := hR2.frozen 2
      have hR3 := ((hR2.set 0 (.int .i64 (rnd sv.x d))).set 1 (.int .i64 (rnd sv.y d))).set 2 (.int .i64 (rnd sv.z d))
      have hB6 : Below W.heap.size W (((W2.setCell ⟨W.heap.size, 0, none⟩ (.int .i64 (rnd sv.x d))).setCell ⟨W.heap.size, 1, none⟩ (.int .i64 (rnd sv.y d))).setCell ⟨W.heap.size, 2, none⟩ (.int .i64 (rnd sv.z d))) := bel_set (bel_set (bel_set hB5 (p := ⟨W.heap.size, 0, none⟩) (Nat.le_refl _) _) (p := ⟨W.heap.size, 1, none⟩) (Nat.le_refl _) _) (p := ⟨W.heap.size, 2, none⟩) (Nat.le_refl _) _
      go_wp2
      generalize ((W2.setCell ⟨W.heap.size, 0, none⟩ (.int .i64 (rnd sv.x d))).setCell ⟨W.heap.size, 1, none⟩ (.int .i64 (rnd sv.y d))).setCell ⟨W.heap.size, 2, none⟩ (.int .i64 (rnd sv.z d)) = WE at *
      have w0 := hR3.cell 0
      have w1 := hR3.cell 1
      have w2 := hR3.cell 2
      refine bodyPost_ret (v := .agg #[.int .i64 (rnd sv.x d), .int .i64 (rnd sv.y d), .int .i64 (rnd sv.z d)]) (by simp [results, Try.results99, go_sem, w0, w1, w2]) rfl ⟨by rw [hsv.out]; rfl, hB6⟩
end Go.Proofs.Ytpaehkjnefgaiaa
