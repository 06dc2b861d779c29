/- Package curve: what lies within bounds, weights, and points together; the closures that tell weights. Package curve: are all points within bounds? A cubic's weights, and the closures that tell them. Package curve: points together, each as often as its weight. Package curve: a curve's point, a patch's point. What textures tell: cells, blends of directions, lifted points. No program is reached but by the contracts' own numbers. The document's curves: a curve's point, a patch's point. -/
import Derived.RegionTactic
import Derived.BigRegion
import Derived.Test.YtpaehkjnefgaiaaC0
import Derived.Test.YtpaehkjnefgaiaaC4
import Derived.Test.YtpaehkjnefgaiaaC5
namespace Go.Proofs.Ytpaehkjnefgaiaa
open Go.RowKit
set_option linter.unusedVariables false
set_option linter.unusedSimpArgs false
set_option linter.unnecessarySimpa false
set_option maxRecDepth 100000
/-- The cells of n points in a row. -/
def qC (f : Nat → P3) : Nat → Nat → Value := fun v j => .int .i64 (if j = 0 then (f v).x else if j = 1 then (f v).y else (f v).z)
def ptsC (n : Nat) (p : Nat → P3) : Array Value := rowCs 3 n (qC p)
theorem ptsC_size (n : Nat) (p : Nat → P3) : (ptsC n p).size = n * 3 := rowCs_size 3 n _
theorem ptsC_at {n : Nat} (p : Nat → P3) {k : Nat} (h : k < n) : (ptsC n p)[k * 3]? = some (.int .i64 (p k).x) ∧ (ptsC n p)[k * 3 + 1]? = some (.int .i64 (p k).y) ∧ (ptsC n p)[k * 3 + 2]? = some (.int .i64 (p k).z) :=
  ⟨rowCs_at (qC p) h (show 0 < 3 by omega), rowCs_at (qC p) h (show 1 < 3 by omega), rowCs_at (qC p) h (show 2 < 3 by omega)⟩
theorem ptsB {W : World} {b n : Nat} {t : TypeId} {p : Nat → P3} (h : Blk W b t (ptsC n p)) {k : Nat} (hk : k < n) : W.cell? ⟨b, k * 3, none⟩ = some (.int .i64 (p k).x) ∧ W.cell? ⟨b, k * 3 + 1, none⟩ = some (.int .i64 (p k).y) ∧ W.cell? ⟨b, k * 3 + 2, none⟩ = some (.int .i64 (p k).z) := by
  obtain ⟨h1, h2, h3⟩ := ptsC_at p hk
  exact ⟨(h.cell _).trans h1, (h.cell _).trans h2, (h.cell _).trans h3⟩
def wi (q : P3) : Bool := wiB q.x q.y q.z 65536
def okB (p : Nat → P3) : Nat → Bool
  | 0 => true
  | k + 1 => okB p k && wi (p k)
theorem okB_all {p : Nat → P3} : ∀ {n : Nat}, okB p n = true ↔ ∀ k, k < n → wi (p k) = true
  | 0 => by simp [okB]
  | n + 1 => by
    rw [okB, Bool.and_eq_true, okB_all]
    exact ⟨fun h k hk => if e : k < n then h.1 k e else by rw [show k = n by omega]; exact h.2, fun h => ⟨fun k hk => h k (by omega), h n (by omega)⟩⟩
theorem okB_no {p : Nat → P3} {n k : Nat} (hk : k < n) (h : wi (p k) = false) : okB p n = false := by
  cases e : okB p n
  · rfl
  · rw [okB_all.1 e k hk] at h; cases h
def thB (i n : Int) : Bool := decide (1 ≤ n ∧ n ≤ 16 ∧ 0 ≤ i ∧ i ≤ n)
theorem thB_yes {i n : Int} (h : 1 ≤ n ∧ n ≤ 16 ∧ 0 ≤ i ∧ i ≤ n) : thB i n = true := decide_eq_true h
theorem thB_no {i n : Int} (h : ¬ (1 ≤ n ∧ n ≤ 16 ∧ 0 ≤ i ∧ i ≤ n)) : thB i n = false := decide_eq_false h
theorem parted_any (i n : Int) : Gives Try.prog 96 #[.int .i64 i, .int .i64 n] (.bool (thB i n)) := by
  refine Gives.mk fun w => ?_
  go_enter Try.func96, Try.ntmps96
  go_wp2
  all_goals
    go_ret
    refine ⟨ret_bool ?_, (by repeat (first | exact Below.refl _ _ | refine bel_grow ?_ _ | refine bel_alloc ?_ _ | refine bel_set ?_ (by simp) _))⟩
    first | (symm; apply thB_yes; omega) | (symm; apply thB_no; omega) | (unfold thB; simp [*])
theorem vWithin_G (q : P3) : Gives Try.prog 19 #[.agg #[.int .i64 q.x, .int .i64 q.y, .int .i64 q.z], .int .i64 65536] (.bool (wi q)) := vWithin_any q.x q.y q.z 65536 (by omega)
theorem cube_G {n : Int} (h0 : 0 ≤ n) (h1 : n ≤ 16) : Gives Try.prog 100 #[.int .i64 n] (.int .i64 (n * n * n)) := by
  have a : 0 ≤ n * n ∧ n * n ≤ 256 := ⟨Int.mul_nonneg h0 h0, Int.mul_le_mul h1 h1 h0 (by omega)⟩
  have b : 0 ≤ n * n * n ∧ n * n * n ≤ 4096 := ⟨Int.mul_nonneg a.1 h0, Int.mul_le_mul a.2 h1 h0 (by omega)⟩
  have e1 : wrap64 (n * n) = n * n := wrap_id (by omega) (by omega)
  have e2 : wrap64 (n * n * n) = n * n * n := wrap_id (by omega) (by omega)
  clear a b
  refine Gives.mk fun w => ?_
  go_enter Try.func100, Try.ntmps100
  go_wp2
  go_ret
  exact ⟨ret_i64 (by first | rfl | simp only [e1, e2]), (by repeat (first | exact Below.refl _ _ | refine bel_then ?_ _ | refine bel_grow ?_ _ | refine bel_alloc ?_ _ | refine bel_drew ?_ | refine bel_set ?_ (by simp) _ | refine bel_setRow ?_ (by first | omega | (simp; done) | (refine Nat.le_trans ?_ (top_le _ _); simp; done) | (refine Nat.le_succ_of_le (Nat.le_trans ?_ (top_le _ _)); simp; done) | (refine Nat.le_trans ?_ (top_le _ _); simp only [World.size_alloc]; refine Nat.le_succ_of_le (Nat.le_trans ?_ (top_le _ _)); simp; done)) _))⟩
end Go.Proofs.Ytpaehkjnefgaiaa
namespace Go.Proofs.Ytpaehkjnefgaiaa
open Go.RowKit
set_option linter.unusedVariables false
set_option linter.unusedSimpArgs false
set_option linter.unnecessarySimpa false
set_option maxRecDepth 100000
theorem bounded_any (W : World) (b n c : Nat) (t : TypeId) (p : Nat → P3) (hB : Blk W b t (ptsC n p)) (hn : n < 1000) :
    Calls Try.prog 97 #[.slice (some ⟨b, 0, none⟩) n c] W fun e W' => e = .returned (.bool (okB p n)) ∧ Below W.heap.size W W' := by
  go_enter Try.func97, Try.ntmps97
  go_wp2
  go_loopw [7] (fun iv wr => ∃ k : Nat, iv = .int .i64 (k : Int) ∧ k ≤ n ∧ (∀ j, j < k → wi (p j) = true) ∧ Below W.heap.size W wr) (fun iv _ => n - (intOf iv).toNat)
  case atStart => exact ⟨0, rfl, by omega, fun j hj => by omega, Below.refl _ _⟩
  case round =>
    obtain ⟨k, rfl, hk, hal, hBr⟩ := hrel
    by_cases hlt : k < n
    · have hB1 := hB.below hBr
      obtain ⟨c1, c2, c3⟩ := ptsB hB1 hlt
      have hbl := hB1.lt
      have cW := vWithin_G (p k)
      have hno := okB_no (p := p) hlt
      have hnx : wi (p k) = true → ∀ j, j < k + 1 → wi (p j) = true := fun h j hj => if e : j < k then hal j e else by rw [show j = k by omega]; exact h
      generalize p k = q at *
      have q0 : (0 : Int) ≤ (k : Int) := by omega
      have q1 : (k : Int) < (n : Int) := by omega
      cases hw : wi q
      · rw [hw] at cW
        have hno := hno hw
        replace hnx := trivial
        replace hw := trivial
        replace hno := Lib.hid hno
        go_wp2_with (first | (go_at_call 19; (with_reducible refine (cW.at_ _).mono ?_); rintro e w' ⟨rfl, xg, rfl⟩) | fail)
        first | go_ret | (refine bodyPost_ret (results_none rfl _ _ _) rfl ?_)
        exact ⟨by rw [hno.out]; rfl, bel_trans hBr (by repeat (first | exact Below.refl _ _ | refine bel_then ?_ _ | refine bel_grow ?_ _ | refine bel_alloc ?_ _ | refine bel_drew ?_ | refine bel_set ?_ (by simp) _ | refine bel_setRow ?_ (by first | omega | (simp; done) | (refine Nat.le_trans ?_ (top_le _ _); simp; done) | (refine Nat.le_succ_of_le (Nat.le_trans ?_ (top_le _ _)); simp; done) | (refine Nat.le_trans ?_ (top_le _ _); simp only [World.size_alloc]; refine Nat.le_succ_of_le (Nat.le_trans ?_ (top_le _ _)); simp; done)) _))⟩
      · rw [hw] at cW
        have hnx := hnx hw
        replace hno := trivial
        replace hw := trivial
        replace hnx := Lib.hid hnx
        go_wp2_with (first | (go_at_call 19; (with_reducible refine (cW.at_ _).mono ?_); rintro e w' ⟨rfl, xg, rfl⟩) | fail)
        go_roundw
        case rel => exact ⟨k + 1, by go_num, by omega, hnx.out, bel_trans hBr (by repeat (first | exact Below.refl _ _ | refine bel_then ?_ _ | refine bel_grow ?_ _ | refine bel_alloc ?_ _ | refine bel_drew ?_ | refine bel_set ?_ (by simp) _ | refine bel_setRow ?_ (by first | omega | (simp; done) | (refine Nat.le_trans ?_ (top_le _ _); simp; done) | (refine Nat.le_succ_of_le (Nat.le_trans ?_ (top_le _ _)); simp; done) | (refine Nat.le_trans ?_ (top_le _ _); simp only [World.size_alloc]; refine Nat.le_succ_of_le (Nat.le_trans ?_ (top_le _ _)); simp; done)) _))⟩
        case measure => simp [intOf]; omega
    · obtain rfl : k = n := by omega
      have hy : okB p k = true := okB_all.2 hal
      replace hy := Lib.hid hy
      go_wp2
      go_ret
      exact ⟨by rw [hy.out]; rfl, hBr⟩
theorem wt_small {i n : Int} (h0 : 0 ≤ i) (h1 : i ≤ n) (h2 : n ≤ 16) : (wrap64 (n - i) = n - i ∧ wrap64 (3 * (n - i)) = 3 * (n - i) ∧ wrap64 (3 * (n - i) * (n - i)) = 3 * (n - i) * (n - i) ∧ wrap64 (3 * (n - i) * (n - i) * i) = 3 * (n - i) * (n - i) * i) ∧ (wrap64 (3 * (n - i) * i) = 3 * (n - i) * i ∧ wrap64 (3 * (n - i) * i * i) = 3 * (n - i) * i * i) ∧ (wrap64 ((n - i) * (n - i)) = (n - i) * (n - i) ∧ wrap64 ((n - i) * (n - i) * (n - i)) = (n - i) * (n - i) * (n - i)) ∧ wrap64 (i * i) = i * i ∧ wrap64 (i * i * i) = i * i * i := by
  have a0 : 0 ≤ n - i := by omega
  have a1 : n - i ≤ 16 := by omega
  have i1 : i ≤ 16 := by omega
  generalize n - i = a at *
  have m2 : ∀ {x y B C : Int}, 0 ≤ x → x ≤ B → 0 ≤ y → y ≤ C → 0 ≤ B → 0 ≤ x * y ∧ x * y ≤ B * C := fun hx hB hy hC hb => ⟨Int.mul_nonneg hx hy, Int.mul_le_mul hB hC hy hb⟩
  have t1 : 0 ≤ 3 * a ∧ 3 * a ≤ 48 := by omega
  have t2 := m2 t1.1 t1.2 a0 a1 (by omega)
  have t3 := m2 t2.1 t2.2 h0 i1 (by omega)
  have t4 := m2 t1.1 t1.2 h0 i1 (by omega)
  have t5 := m2 t4.1 t4.2 h0 i1 (by omega)
  have t6 := m2 a0 a1 a0 a1 (by omega)
  have t7 := m2 t6.1 t6.2 a0 a1 (by omega)
  have t8 := m2 h0 i1 h0 i1 (by omega)
  have t9 := m2 t8.1 t8.2 h0 i1 (by omega)
  refine ⟨⟨?_, ?_, ?_, ?_⟩, ⟨?_, ?_⟩, ⟨?_, ?_⟩, ?_, ?_⟩ <;> (apply wrap_id <;> omega)
def wtV (i n : Int) : Value := .agg #[.int .i64 (wt i n 0), .int .i64 (wt i n 1), .int .i64 (wt i n 2), .int .i64 (wt i n 3)]
theorem weights_G {i n : Int} (h : 1 ≤ n ∧ n ≤ 16 ∧ 0 ≤ i ∧ i ≤ n) : Gives Try.prog 98 #[.int .i64 i, .int .i64 n] (wtV i n) := by
  obtain ⟨g1, g2, g3, g4⟩ := h
  obtain ⟨⟨e1, e2, e3, e4⟩, ⟨e5, e6⟩, ⟨e7, e8⟩, e9, ea⟩ := wt_small g3 g4 g2
  have k1 := cube_G (n := n - i) (by omega) (by omega)
  have k2 := cube_G g3 (show i ≤ 16 by omega)
  refine Gives.mk fun w => ?_
  go_enter Try.func98, Try.ntmps98
  go_wp2_with (first | (go_at_call 100; first | ((with_reducible refine (k1.at_ _).mono ?_); rintro e w' ⟨rfl, xg, rfl⟩) | ((with_reducible refine (k2.at_ _).mono ?_); rintro e w' ⟨rfl, xg, rfl⟩)) | fail)
  refine bodyPost_ret (v := wtV i n) (by simp [results, Try.results98, go_sem, wtV, wt]) rfl ⟨rfl, (by repeat (first | exact Below.refl _ _ | refine bel_then ?_ _ | refine bel_grow ?_ _ | refine bel_alloc ?_ _ | refine bel_drew ?_ | refine bel_set ?_ (by simp) _ | refine bel_setRow ?_ (by first | omega | (simp; done) | (refine Nat.le_trans ?_ (top_le _ _); simp; done) | (refine Nat.le_succ_of_le (Nat.le_trans ?_ (top_le _ _)); simp; done) | (refine Nat.le_trans ?_ (top_le _ _); simp only [World.size_alloc]; refine Nat.le_succ_of_le (Nat.le_trans ?_ (top_le _ _)); simp; done)) _))⟩
/-- Four weights in a block. -/
def WtB (W : World) (b : Nat) (u : Nat → Int) : Prop := b < W.heap.size ∧ ∀ k, k < 4 → W.cell? ⟨b, k, none⟩ = some (.int .i64 (u k))
theorem WtB.below {W W' : World} {b : Nat} {u : Nat → Int} (h : WtB W b u) (hb : Below W.heap.size W W') : WtB W' b u :=
  ⟨Nat.lt_of_lt_of_le h.1 hb.size, fun k hk => (hb.cell (p := ⟨b, k, none⟩) h.1).trans (h.2 k hk)⟩
theorem WtB.of {W : World} {b : Nat} {t : TypeId} {i n : Int} (h : Blk W b t #[.int .i64 (wt i n 0), .int .i64 (wt i n 1), .int .i64 (wt i n 2), .int .i64 (wt i n 3)]) : WtB W b (wt i n) := ⟨h.lt, fun k hk => by
  rw [h.cell]
  rcases (by omega : k = 0 ∨ k = 1 ∨ k = 2 ∨ k = 3) with rfl | rfl | rfl | rfl <;> rfl⟩
theorem fun1_any (W : World) (b : Nat) (u : Nat → Int) (hW : WtB W b u) {k : Nat} (hk : k < 4) :
    Calls Try.prog 101 #[.int .i64 (k : Int), .pointer (some ⟨b, 0, none⟩)] W fun e W' => e = .returned (.int .i64 (u k)) ∧ Below W.heap.size W W' := by
  have c := hW.2 k hk
  have hl := hW.1
  have q0 : (0 : Int) ≤ (k : Int) := by omega
  have q1 : (k : Int) < 4 := by omega
  go_enter Try.func101, Try.ntmps101
  go_wp2
  go_ret
  exact ⟨rfl, (by repeat (first | exact Below.refl _ _ | refine bel_then ?_ _ | refine bel_grow ?_ _ | refine bel_alloc ?_ _ | refine bel_drew ?_ | refine bel_set ?_ (by simp) _ | refine bel_setRow ?_ (by first | omega | (simp; done) | (refine Nat.le_trans ?_ (top_le _ _); simp; done) | (refine Nat.le_succ_of_le (Nat.le_trans ?_ (top_le _ _)); simp; done) | (refine Nat.le_trans ?_ (top_le _ _); simp only [World.size_alloc]; refine Nat.le_succ_of_le (Nat.le_trans ?_ (top_le _ _)); simp; done)) _))⟩
theorem fun2_any (W : World) (b1 b2 : Nat) (u v : Nat → Int) (hU : WtB W b1 u) (hV : WtB W b2 v) {k : Nat} (hk : k < 16) (hw : wrap64 (u (k % 4) * v (k / 4)) = u (k % 4) * v (k / 4)) :
    Calls Try.prog 102 #[.int .i64 (k : Int), .pointer (some ⟨b1, 0, none⟩), .pointer (some ⟨b2, 0, none⟩)] W fun e W' => e = .returned (.int .i64 (u (k % 4) * v (k / 4))) ∧ Below W.heap.size W W' := by
  have c1 := hU.2 (k % 4) (by omega)
  have c2 := hV.2 (k / 4) (by omega)
  have hl1 := hU.1
  have hl2 := hV.1
  have m1 : (k : Int).tmod 4 = ((k % 4 : Nat) : Int) := by rw [Int.tmod_eq_emod_of_nonneg (by omega)]; omega
  have m2 : (k : Int).tdiv 4 = ((k / 4 : Nat) : Int) := by rw [Int.tdiv_eq_ediv_of_nonneg (by omega)]; omega
  have hm4 : k % 4 < 4 := by omega
  have hd4 : k / 4 < 4 := by omega
  generalize k % 4 = m at *
  generalize k / 4 = d at *
  have q0 : (0 : Int) ≤ (m : Int) := by omega
  have q1 : (m : Int) < 4 := by omega
  have q2 : (0 : Int) ≤ (d : Int) := by omega
  have q3 : (d : Int) < 4 := by omega
  go_enter Try.func102, Try.ntmps102
  go_wp2
  go_region
  all_goals
    (try go_wp2)
    go_ret
    exact ⟨ret_i64 hw, (by repeat (first | exact Below.refl _ _ | refine bel_then ?_ _ | refine bel_grow ?_ _ | refine bel_alloc ?_ _ | refine bel_drew ?_ | refine bel_set ?_ (by simp) _ | refine bel_setRow ?_ (by first | omega | (simp; done) | (refine Nat.le_trans ?_ (top_le _ _); simp; done) | (refine Nat.le_succ_of_le (Nat.le_trans ?_ (top_le _ _)); simp; done) | (refine Nat.le_trans ?_ (top_le _ _); simp only [World.size_alloc]; refine Nat.le_succ_of_le (Nat.le_trans ?_ (top_le _ _)); simp; done)) _))⟩
end Go.Proofs.Ytpaehkjnefgaiaa
namespace Go.Proofs.Ytpaehkjnefgaiaa
open Go.RowKit
set_option linter.unusedVariables false
set_option linter.unusedSimpArgs false
set_option linter.unnecessarySimpa false
set_option maxRecDepth 100000
theorem cq1 {P : Program} {f : FuncId} {args : Array Value} {v : Value} {w : World} (x : More) (h : Calls P f args (grow w x) fun e w' => e = .returned v ∧ Below (grow w x).heap.size (grow w x) w') : Calls P f args (grow w x) fun e w'' => e = .returned v ∧ ∃ y, w'' = grow w y :=
  h.mono fun e w' ⟨he, hb⟩ => ⟨he, grow_of (bel_trans (bel_grow (Below.refl _ _) x) hb)⟩
theorem cq2 {P : Program} {f : FuncId} {args : Array Value} {v : Value} {w : World} (x y : More) (h : Calls P f args (grow w (x.then y)) fun e w' => e = .returned v ∧ Below (grow w (x.then y)).heap.size (grow w (x.then y)) w') : Calls P f args (grow w (x.then y)) fun e w'' => e = .returned v ∧ ∃ z, w'' = grow w (x.then z) :=
  h.mono fun e w' ⟨he, hb⟩ => ⟨he, by obtain ⟨z, hz⟩ := grow_of hb; exact ⟨y.then z, hz⟩⟩
def sumP (u : Nat → Int) (p : Nat → P3) (n : Nat) : P3 := ⟨sumW u (fun k => (p k).x) n, sumW u (fun k => (p k).y) n, sumW u (fun k => (p k).z) n⟩
def rnP (s : P3) (d : Int) : P3 := ⟨rnd s.x d, rnd s.y d, rnd s.z d⟩
theorem wi_bd {q : P3} (h : wi q = true) : (-65536 ≤ q.x ∧ q.x ≤ 65536) ∧ (-65536 ≤ q.y ∧ q.y ≤ 65536) ∧ -65536 ≤ q.z ∧ q.z ≤ 65536 := ((wiB_iff _ _ _ _).1 h).2
theorem part_bd {u x : Nat → Int} {m : Nat} (hu : ∀ k, k < m → 0 ≤ u k) (hx : ∀ k, k < m → -65536 ≤ x k ∧ x k ≤ 65536) (ht : totW u m ≤ 16777216) {k : Nat} (hk : k ≤ m) : -1099511627776 ≤ sumW u x k ∧ sumW u x k ≤ 1099511627776 := by
  obtain ⟨a, b⟩ := sumW_bd k (fun j h => hu j (by omega)) (fun j h => hx j (by omega))
  obtain ⟨c, d⟩ := totW_le hu k hk
  omega
theorem prod_bd {u x : Int} (h0 : 0 ≤ u) (h1 : u ≤ 16777216) (hx : -65536 ≤ x ∧ x ≤ 65536) : -1099511627776 ≤ x * u ∧ x * u ≤ 1099511627776 := by
  have a := Int.mul_le_mul_of_nonneg_right hx.1 h0
  have b := Int.mul_le_mul_of_nonneg_right hx.2 h0
  omega
theorem sumP_bd {u : Nat → Int} {p : Nat → P3} {m : Nat} (hu : ∀ k, k < m → 0 ≤ u k) (hp : okB p m = true) (ht : totW u m ≤ 16777216) {k : Nat} (hk : k ≤ m) : (-1099511627776 ≤ (sumP u p k).x ∧ (sumP u p k).x ≤ 1099511627776) ∧ (-1099511627776 ≤ (sumP u p k).y ∧ (sumP u p k).y ≤ 1099511627776) ∧ -1099511627776 ≤ (sumP u p k).z ∧ (sumP u p k).z ≤ 1099511627776 :=
  ⟨part_bd hu (fun j h => (wi_bd (okB_all.1 hp j h)).1) ht hk, part_bd hu (fun j h => (wi_bd (okB_all.1 hp j h)).2.1) ht hk, part_bd hu (fun j h => (wi_bd (okB_all.1 hp j h)).2.2) ht hk⟩
theorem sumP_succ (u : Nat → Int) (p : Nat → P3) (k : Nat) : sumP u p (k + 1) = ⟨(sumP u p k).x + (p k).x * u k, (sumP u p k).y + (p k).y * u k, (sumP u p k).z + (p k).z * u k⟩ := rfl
/-- One step of a sum of weights: nothing goes round. -/
theorem step_bd {u : Nat → Int} {p : Nat → P3} {m : Nat} (hu : ∀ k, k < m → 0 ≤ u k) (hp : okB p m = true) (ht : totW u m ≤ 16777216) {k : Nat} (hk : k < m) :
    (wrap64 ((p k).x * u k) = (p k).x * u k ∧ wrap64 ((p k).y * u k) = (p k).y * u k ∧ wrap64 ((p k).z * u k) = (p k).z * u k) ∧ wrap64 ((sumP u p k).x + (p k).x * u k) = (sumP u p k).x + (p k).x * u k ∧ wrap64 ((sumP u p k).y + (p k).y * u k) = (sumP u p k).y + (p k).y * u k ∧ wrap64 ((sumP u p k).z + (p k).z * u k) = (sumP u p k).z + (p k).z * u k := by
  have b := sumP_bd hu hp ht (k := k + 1) (by omega)
  rw [sumP_succ] at b
  have w := wi_bd (okB_all.1 hp k hk)
  have h0 := hu k hk
  have h1 := one_le hu k hk
  have px := prod_bd h0 (by omega) w.1
  have py := prod_bd h0 (by omega) w.2.1
  have pz := prod_bd h0 (by omega) w.2.2
  simp only [] at b
  exact ⟨⟨wrap_id (by omega) (by omega), wrap_id (by omega) (by omega), wrap_id (by omega) (by omega)⟩, wrap_id (by omega) (by omega), wrap_id (by omega) (by omega), wrap_id (by omega) (by omega)⟩
set_option maxHeartbeats 4000000 in
theorem mean1_any (W : World) (b1 : Nat) (u : Nat → Int) (hU : WtB W b1 u) (b c : Nat) (t : TypeId) (p : Nat → P3) (hB : Blk W b t (ptsC 4 p)) (d : Int) (hu : ∀ k, k < 4 → 0 ≤ u k) (ht : totW u 4 ≤ 16777216) (hp : okB p 4 = true) (d0 : 1 ≤ d) (d1 : d ≤ 16777216) :
    Calls Try.prog 99 #[.int .i64 d, .slice (some ⟨b, 0, none⟩) 4 c, .func (.func 101) #[] #[.pointer (some ⟨b1, 0, none⟩)]] W fun e W' => e = .returned (.agg #[.int .i64 (rnP (sumP u p 4) d).x, .int .i64 (rnP (sumP u p 4) d).y, .int .i64 (rnP (sumP u p 4) d).z]) ∧ Below W.heap.size W W' := by
  have hb0 : Below W.heap.size W ((W.alloc (.cells #[.int .i64 0, .int .i64 0, .int .i64 0] 23)).alloc (.cells #[.int .i64 0, .int .i64 0, .int .i64 0] 23)) := bel_alloc (bel_alloc (Below.refl _ _) _) _
  have hR0 : Blk ((W.alloc (.cells #[.int .i64 0, .int .i64 0, .int .i64 0] 23)).alloc (.cells #[.int .i64 0, .int .i64 0, .int .i64 0] 23)) W.heap.size 23 #[.int .i64 0, .int .i64 0, .int .i64 0] := (Blk.new _ _ _ _ rfl).alloc _
  have hS0 : Blk ((W.alloc (.cells #[.int .i64 0, .int .i64 0, .int .i64 0] 23)).alloc (.cells #[.int .i64 0, .int .i64 0, .int .i64 0] 23)) (W.heap.size + 1) 23 #[.int .i64 0, .int .i64 0, .int .i64 0] := Blk.new _ _ _ _ (by simp)
  go_enter Try.func99, Try.ntmps99
  go_upto_region 3 with (fail)
  generalize (W.alloc (.cells #[.int .i64 0, .int .i64 0, .int .i64 0] 23)).alloc (.cells #[.int .i64 0, .int .i64 0, .int .i64 0] 23) = W0 at *
  go_loopw [12] (fun iv wr => ∃ k : Nat, iv = .int .i64 (k : Int) ∧ k ≤ 4 ∧ Below W.heap.size W wr ∧ Blk wr W.heap.size 23 #[.int .i64 0, .int .i64 0, .int .i64 0] ∧ Blk wr (W.heap.size + 1) 23 #[.int .i64 (sumP u p k).x, .int .i64 (sumP u p k).y, .int .i64 (sumP u p k).z]) (fun iv _ => 4 - (intOf iv).toNat)
  case atStart => exact ⟨0, rfl, by omega, hb0, hR0, hS0⟩
  case round =>
    obtain ⟨k, rfl, hk, hBr, hRr, hSr⟩ := hrel
    clear hb0 hR0 hS0
    by_cases hlt : k < 4
    · have hB1 := hB.below hBr
      obtain ⟨c1, c2, c3⟩ := ptsB hB1 hlt
      have hbl := hB1.lt
      have hbne : b < W.heap.size := hB.lt
      obtain ⟨⟨e1, e2, e3⟩, e4, e5, e6⟩ := step_bd hu hp ht hlt
      have hsucc := sumP_succ u p k
      generalize hsk : sumP u p (k + 1) = sk at *
      replace hsk := Lib.hid hsk
      generalize p k = q at *
      generalize sumP u p k = sv at *
      have q0 : (0 : Int) ≤ (k : Int) := by omega
      have q1 : (k : Int) < 4 := by omega
      have hb4 : Below wr.heap.size wr (wr.alloc (.cells #[.int .i64 q.x, .int .i64 q.y, .int .i64 q.z] 23)) := bel_alloc (Below.refl _ _) _
      have hS1 : Blk (wr.alloc (.cells #[.int .i64 q.x, .int .i64 q.y, .int .i64 q.z] 23)) (W.heap.size + 1) 23 #[.int .i64 sv.x, .int .i64 sv.y, .int .i64 sv.z] := hSr.alloc _
      have hP1 : Blk (wr.alloc (.cells #[.int .i64 q.x, .int .i64 q.y, .int .i64 q.z] 23)) wr.heap.size 23 #[.int .i64 q.x, .int .i64 q.y, .int .i64 q.z] := Blk.new _ _ _ _ rfl
      have hR1 : Blk (wr.alloc (.cells #[.int .i64 q.x, .int .i64 q.y, .int .i64 q.z] 23)) W.heap.size 23 #[.int .i64 0, .int .i64 0, .int .i64 0] := hRr.alloc _
      have hWr : W.heap.size + 1 < wr.heap.size := hSr.lt
      go_upto_region 5 with (fail)
      generalize wr.alloc (.cells #[.int .i64 q.x, .int .i64 q.y, .int .i64 q.z] 23) = W1 at *
      have kF : ∀ x : More, Calls Try.prog 101 #[.int .i64 (k : Int), .pointer (some ⟨b1, 0, none⟩)] (grow W1 x) fun e w' => e = .returned (.int .i64 (u k)) ∧ Below (grow W1 x).heap.size (grow W1 x) w' := fun x => fun1_any (grow W1 x) b1 u (hU.below (bel_trans (bel_trans hBr hb4) (bel_grow (Below.refl _ _) x))) hlt
      generalize u k = uk at *
      have k1 := vScale_any q.x q.y q.z uk
      rw [e1, e2, e3] at k1
      have k2 := vAdd_any sv.x sv.y sv.z (q.x * uk) (q.y * uk) (q.z * uk)
      rw [e4, e5, e6] at k2
      clear e1 e2 e3 e4 e5 e6 c1 c2 c3 hbl hB1
      have y0 := hP1.cell 0
      have y1 := hP1.cell 1
      have y2 := hP1.cell 2
      have yl := hP1.lt
      have z0 := hS1.cell 0
      have z1 := hS1.cell 1
      have z2 := hS1.cell 2
      have zl := hS1.lt
      have hB4 := bel_trans hBr hb4
      refine wp_region_tail 7 ?_ (by kernel_rfl) (by kernel_rfl) (by kernel_rfl) (fun x => ?_) (fun x => ?_)
      rotate_left
      · simp only [List.take_succ_cons, List.take_zero]
        repeat (go_big_quiet_step (((first | with_reducible exact k1.quiet _ | with_reducible exact k1.quiet2 _ _ | with_reducible exact k2.quiet _ | with_reducible exact k2.quiet2 _ _ | exact cq1 _ (kF _) | exact cq2 _ _ (kF _)))))
        refine wpQuiet_nil ?_
        exact rfl
      simp only [List.drop_succ_cons, List.drop_zero]
      try simp only [Act.put, List.setIfInBounds_toArray, List.set_cons_succ, List.set_cons_zero]
      have hS2 := hS1.grow x
      have hR2 := hR1.grow x
      have hB5 := bel_grow hB4 x
      clear hS1 hP1 hR1 hB4 k1 k2 kF y0 y1 y2 yl z0 z1 z2 zl
      generalize grow W1 x = W2 at *
      have r0 := hS2.cell 0
      have r1 := hS2.cell 1
      have r2 := hS2.cell 2
      have rl := hS2.lt
      have f0 := hS2.frozen 0
      have f1 := hS2.frozen 1
      have f2 := hS2.frozen 2
      have hS3 := ((hS2.set 0 (.int .i64 (sv.x + q.x * uk))).set 1 (.int .i64 (sv.y + q.y * uk))).set 2 (.int .i64 (sv.z + q.z * uk))
      have hR3 := ((hR2.far (b := W.heap.size + 1) 0 (.int .i64 (sv.x + q.x * uk)) (by omega)).far (b := W.heap.size + 1) 1 (.int .i64 (sv.y + q.y * uk)) (by omega)).far (b := W.heap.size + 1) 2 (.int .i64 (sv.z + q.z * uk)) (by omega)
      have hB6 : Below W.heap.size W (((W2.setCell ⟨W.heap.size + 1, 0, none⟩ (.int .i64 (sv.x + q.x * uk))).setCell ⟨W.heap.size + 1, 1, none⟩ (.int .i64 (sv.y + q.y * uk))).setCell ⟨W.heap.size + 1, 2, none⟩ (.int .i64 (sv.z + q.z * uk))) := bel_set (bel_set (bel_set hB5 (p := ⟨W.heap.size + 1, 0, none⟩) (by simp) _) (p := ⟨W.heap.size + 1, 1, none⟩) (by simp) _) (p := ⟨W.heap.size + 1, 2, none⟩) (by simp) _
      replace hsucc := Lib.hid hsucc
      go_wp2
      go_roundw
      case rel =>
        refine ⟨k + 1, by go_num, by omega, hB6, hR3, ?_⟩
        rw [hsk.out, hsucc.out]
        exact hS3
      case measure => simp [intOf]; omega
    · obtain rfl : k = 4 := by omega
      have sb := sumP_bd hu hp ht (k := 4) (Nat.le_refl _)
      have z0 := hSr.cell 0
      have z1 := hSr.cell 1
      have z2 := hSr.cell 2
      have zl := hSr.lt
      have k1 := vRound_any (sumP u p 4).x d (by omega) (by omega) (by omega) (by omega)
      have k2 := vRound_any (sumP u p 4).y d (by omega) (by omega) (by omega) (by omega)
      have k3 := vRound_any (sumP u p 4).z d (by omega) (by omega) (by omega) (by omega)
      generalize hsv : sumP u p 4 = sv at *
      replace hsv := Lib.hid hsv
      go_upto_region 7 with (fail)
      refine wp_region_tail 13 ?_ (by kernel_rfl) (by kernel_rfl) (by kernel_rfl) (fun x => ?_) (fun x => ?_)
      rotate_left
      · simp only [List.take_succ_cons, List.take_zero]
        repeat (go_big_quiet_step (((first | with_reducible exact k1.quiet _ | with_reducible exact k1.quiet2 _ _ | with_reducible exact k2.quiet _ | with_reducible exact k2.quiet2 _ _ | with_reducible exact k3.quiet _ | with_reducible exact k3.quiet2 _ _))))
        refine wpQuiet_nil ?_
        exact rfl
      simp only [List.drop_succ_cons, List.drop_zero]
      try simp only [Act.put, List.setIfInBounds_toArray, List.set_cons_succ, List.set_cons_zero]
      have hR2 := hRr.grow x
      have hB5 := bel_grow hBr x
      clear hSr hRr hBr k1 k2 k3 z0 z1 z2 zl
      generalize grow wr x = W2 at *
      have r0 := hR2.cell 0
      have r1 := hR2.cell 1
      have r2 := hR2.cell 2
      have rl := hR2.lt
      have f0 := hR2.frozen 0
      have f1 := hR2.frozen 1
      have f2 := hR2.frozen 2
      have hR3 := ((hR2.set 0 (.int .i64 (rnd sv.x d))).set 1 (.int .i64 (rnd sv.y d))).set 2 (.int .i64 (rnd sv.z d))
      have hB6 : Below W.heap.size W (((W2.setCell ⟨W.heap.size, 0, none⟩ (.int .i64 (rnd sv.x d))).setCell ⟨W.heap.size, 1, none⟩ (.int .i64 (rnd sv.y d))).setCell ⟨W.heap.size, 2, none⟩ (.int .i64 (rnd sv.z d))) := bel_set (bel_set (bel_set hB5 (p := ⟨W.heap.size, 0, none⟩) (Nat.le_refl _) _) (p := ⟨W.heap.size, 1, none⟩) (Nat.le_refl _) _) (p := ⟨W.heap.size, 2, none⟩) (Nat.le_refl _) _
      go_wp2
      generalize ((W2.setCell ⟨W.heap.size, 0, none⟩ (.int .i64 (rnd sv.x d))).setCell ⟨W.heap.size, 1, none⟩ (.int .i64 (rnd sv.y d))).setCell ⟨W.heap.size, 2, none⟩ (.int .i64 (rnd sv.z d)) = WE at *
      have w0 := hR3.cell 0
      have w1 := hR3.cell 1
      have w2 := hR3.cell 2
      refine bodyPost_ret (v := .agg #[.int .i64 (rnd sv.x d), .int .i64 (rnd sv.y d), .int .i64 (rnd sv.z d)]) (by simp [results, Try.results99, go_sem, w0, w1, w2]) rfl ⟨by rw [hsv.out]; rfl, hB6⟩
set_option maxHeartbeats 4000000 in
theorem mean2_any (W : World) (b1 b2 : Nat) (v1 v2 : Nat → Int) (u : Nat → Int) (hu2 : u = fun k => v1 (k % 4) * v2 (k / 4)) (hU : WtB W b1 v1) (hV : WtB W b2 v2) (b c : Nat) (t : TypeId) (p : Nat → P3) (hB : Blk W b t (ptsC 16 p)) (d : Int) (hu : ∀ k, k < 16 → 0 ≤ u k) (ht : totW u 16 ≤ 16777216) (hp : okB p 16 = true) (d0 : 1 ≤ d) (d1 : d ≤ 16777216) :
    Calls Try.prog 99 #[.int .i64 d, .slice (some ⟨b, 0, none⟩) 16 c, .func (.func 102) #[] #[.pointer (some ⟨b1, 0, none⟩), .pointer (some ⟨b2, 0, none⟩)]] W fun e W' => e = .returned (.agg #[.int .i64 (rnP (sumP u p 16) d).x, .int .i64 (rnP (sumP u p 16) d).y, .int .i64 (rnP (sumP u p 16) d).z]) ∧ Below W.heap.size W W' := by
  have hb0 : Below W.heap.size W ((W.alloc (.cells #[.int .i64 0, .int .i64 0, .int .i64 0] 23)).alloc (.cells #[.int .i64 0, .int .i64 0, .int .i64 0] 23)) := bel_alloc (bel_alloc (Below.refl _ _) _) _
  have hR0 : Blk ((W.alloc (.cells #[.int .i64 0, .int .i64 0, .int .i64 0] 23)).alloc (.cells #[.int .i64 0, .int .i64 0, .int .i64 0] 23)) W.heap.size 23 #[.int .i64 0, .int .i64 0, .int .i64 0] := (Blk.new _ _ _ _ rfl).alloc _
  have hS0 : Blk ((W.alloc (.cells #[.int .i64 0, .int .i64 0, .int .i64 0] 23)).alloc (.cells #[.int .i64 0, .int .i64 0, .int .i64 0] 23)) (W.heap.size + 1) 23 #[.int .i64 0, .int .i64 0, .int .i64 0] := Blk.new _ _ _ _ (by simp)
  go_enter Try.func99, Try.ntmps99
  go_upto_region 3 with (fail)
  generalize (W.alloc (.cells #[.int .i64 0, .int .i64 0, .int .i64 0] 23)).alloc (.cells #[.int .i64 0, .int .i64 0, .int .i64 0] 23) = W0 at *
  go_loopw [12] (fun iv wr => ∃ k : Nat, iv = .int .i64 (k : Int) ∧ k ≤ 16 ∧ Below W.heap.size W wr ∧ Blk wr W.heap.size 23 #[.int .i64 0, .int .i64 0, .int .i64 0] ∧ Blk wr (W.heap.size + 1) 23 #[.int .i64 (sumP u p k).x, .int .i64 (sumP u p k).y, .int .i64 (sumP u p k).z]) (fun iv _ => 16 - (intOf iv).toNat)
  case atStart => exact ⟨0, rfl, by omega, hb0, hR0, hS0⟩
  case round =>
    obtain ⟨k, rfl, hk, hBr, hRr, hSr⟩ := hrel
    clear hb0 hR0 hS0
    by_cases hlt : k < 16
    · have hB1 := hB.below hBr
      obtain ⟨c1, c2, c3⟩ := ptsB hB1 hlt
      have hbl := hB1.lt
      have hbne : b < W.heap.size := hB.lt
      obtain ⟨⟨e1, e2, e3⟩, e4, e5, e6⟩ := step_bd hu hp ht hlt
      have hsucc := sumP_succ u p k
      have hwu : wrap64 (v1 (k % 4) * v2 (k / 4)) = v1 (k % 4) * v2 (k / 4) := by
        have h0 := hu k hlt
        have h1 := one_le hu k hlt
        rw [hu2] at h0 h1 ht
        exact wrap_id (by simp only [] at h0 h1; omega) (by simp only [] at h0 h1; omega)
      generalize hsk : sumP u p (k + 1) = sk at *
      replace hsk := Lib.hid hsk
      generalize p k = q at *
      generalize sumP u p k = sv at *
      have q0 : (0 : Int) ≤ (k : Int) := by omega
      have q1 : (k : Int) < 16 := by omega
      have hb4 : Below wr.heap.size wr (wr.alloc (.cells #[.int .i64 q.x, .int .i64 q.y, .int .i64 q.z] 23)) := bel_alloc (Below.refl _ _) _
      have hS1 : Blk (wr.alloc (.cells #[.int .i64 q.x, .int .i64 q.y, .int .i64 q.z] 23)) (W.heap.size + 1) 23 #[.int .i64 sv.x, .int .i64 sv.y, .int .i64 sv.z] := hSr.alloc _
      have hP1 : Blk (wr.alloc (.cells #[.int .i64 q.x, .int .i64 q.y, .int .i64 q.z] 23)) wr.heap.size 23 #[.int .i64 q.x, .int .i64 q.y, .int .i64 q.z] := Blk.new _ _ _ _ rfl
      have hR1 : Blk (wr.alloc (.cells #[.int .i64 q.x, .int .i64 q.y, .int .i64 q.z] 23)) W.heap.size 23 #[.int .i64 0, .int .i64 0, .int .i64 0] := hRr.alloc _
      have hWr : W.heap.size + 1 < wr.heap.size := hSr.lt
      go_upto_region 5 with (fail)
      generalize wr.alloc (.cells #[.int .i64 q.x, .int .i64 q.y, .int .i64 q.z] 23) = W1 at *
      have kF : ∀ x : More, Calls Try.prog 102 #[.int .i64 (k : Int), .pointer (some ⟨b1, 0, none⟩), .pointer (some ⟨b2, 0, none⟩)] (grow W1 x) fun e w' => e = .returned (.int .i64 (u k)) ∧ Below (grow W1 x).heap.size (grow W1 x) w' := fun x => by rw [hu2]; exact fun2_any (grow W1 x) b1 b2 v1 v2 (hU.below (bel_trans (bel_trans hBr hb4) (bel_grow (Below.refl _ _) x))) (hV.below (bel_trans (bel_trans hBr hb4) (bel_grow (Below.refl _ _) x))) hlt hwu
      generalize u k = uk at *
      have k1 := vScale_any q.x q.y q.z uk
      rw [e1, e2, e3] at k1
      have k2 := vAdd_any sv.x sv.y sv.z (q.x * uk) (q.y * uk) (q.z * uk)
      rw [e4, e5, e6] at k2
      clear e1 e2 e3 e4 e5 e6 c1 c2 c3 hbl hB1
      have y0 := hP1.cell 0
      have y1 := hP1.cell 1
      have y2 := hP1.cell 2
      have yl := hP1.lt
      have z0 := hS1.cell 0
      have z1 := hS1.cell 1
      have z2 := hS1.cell 2
      have zl := hS1.lt
      have hB4 := bel_trans hBr hb4
      refine wp_region_tail 7 ?_ (by kernel_rfl) (by kernel_rfl) (by kernel_rfl) (fun x => ?_) (fun x => ?_)
      rotate_left
      · simp only [List.take_succ_cons, List.take_zero]
        repeat (go_big_quiet_step (((first | with_reducible exact k1.quiet _ | with_reducible exact k1.quiet2 _ _ | with_reducible exact k2.quiet _ | with_reducible exact k2.quiet2 _ _ | exact cq1 _ (kF _) | exact cq2 _ _ (kF _)))))
        refine wpQuiet_nil ?_
        exact rfl
      simp only [List.drop_succ_cons, List.drop_zero]
      try simp only [Act.put, List.setIfInBounds_toArray, List.set_cons_succ, List.set_cons_zero]
      have hS2 := hS1.grow x
      have hR2 := hR1.grow x
      have hB5 := bel_grow hB4 x
      clear hS1 hP1 hR1 hB4 k1 k2 kF y0 y1 y2 yl z0 z1 z2 zl
      generalize grow W1 x = W2 at *
      have r0 := hS2.cell 0
      have r1 := hS2.cell 1
      have r2 := hS2.cell 2
      have rl := hS2.lt
      have f0 := hS2.frozen 0
      have f1 := hS2.frozen 1
      have f2 := hS2.frozen 2
      have hS3 := ((hS2.set 0 (.int .i64 (sv.x + q.x * uk))).set 1 (.int .i64 (sv.y + q.y * uk))).set 2 (.int .i64 (sv.z + q.z * uk))
      have hR3 := ((hR2.far (b := W.heap.size + 1) 0 (.int .i64 (sv.x + q.x * uk)) (by omega)).far (b := W.heap.size + 1) 1 (.int .i64 (sv.y + q.y * uk)) (by omega)).far (b := W.heap.size + 1) 2 (.int .i64 (sv.z + q.z * uk)) (by omega)
      have hB6 : Below W.heap.size W (((W2.setCell ⟨W.heap.size + 1, 0, none⟩ (.int .i64 (sv.x + q.x * uk))).setCell ⟨W.heap.size + 1, 1, none⟩ (.int .i64 (sv.y + q.y * uk))).setCell ⟨W.heap.size + 1, 2, none⟩ (.int .i64 (sv.z + q.z * uk))) := bel_set (bel_set (bel_set hB5 (p := ⟨W.heap.size + 1, 0, none⟩) (by simp) _) (p := ⟨W.heap.size + 1, 1, none⟩) (by simp) _) (p := ⟨W.heap.size + 1, 2, none⟩) (by simp) _
      replace hsucc := Lib.hid hsucc
      go_wp2
      go_roundw
      case rel =>
        refine ⟨k + 1, by go_num, by omega, hB6, hR3, ?_⟩
        rw [hsk.out, hsucc.out]
        exact hS3
      case measure => simp [intOf]; omega
    · obtain rfl : k = 16 := by omega
      have sb := sumP_bd hu hp ht (k := 16) (Nat.le_refl _)
      have z0 := hSr.cell 0
      have z1 := hSr.cell 1
      have z2 := hSr.cell 2
      have zl := hSr.lt
      have k1 := vRound_any (sumP u p 16).x d (by omega) (by omega) (by omega) (by omega)
      have k2 := vRound_any (sumP u p 16).y d (by omega) (by omega) (by omega) (by omega)
      have k3 := vRound_any (sumP u p 16).z d (by omega) (by omega) (by omega) (by omega)
      generalize hsv : sumP u p 16 = sv at *
      replace hsv := Lib.hid hsv
      go_upto_region 7 with (fail)
      refine wp_region_tail 13 ?_ (by kernel_rfl) (by kernel_rfl) (by kernel_rfl) (fun x => ?_) (fun x => ?_)
      rotate_left
      · simp only [List.take_succ_cons, List.take_zero]
        repeat (go_big_quiet_step (((first | with_reducible exact k1.quiet _ | with_reducible exact k1.quiet2 _ _ | with_reducible exact k2.quiet _ | with_reducible exact k2.quiet2 _ _ | with_reducible exact k3.quiet _ | with_reducible exact k3.quiet2 _ _))))
        refine wpQuiet_nil ?_
        exact rfl
      simp only [List.drop_succ_cons, List.drop_zero]
      try simp only [Act.put, List.setIfInBounds_toArray, List.set_cons_succ, List.set_cons_zero]
      have hR2 := hRr.grow x
      have hB5 := bel_grow hBr x
      clear hSr hRr hBr k1 k2 k3 z0 z1 z2 zl
      generalize grow wr x = W2 at *
      have r0 := hR2.cell 0
      have r1 := hR2.cell 1
      have r2 := hR2.cell 2
      have rl := hR2.lt
      have f0 := hR2.frozen 0
      have f1 := hR2.frozen 1
      have f2 := hR2.frozen 2
      have hR3 := ((hR2.set 0 (.int .i64 (rnd sv.x d))).set 1 (.int .i64 (rnd sv.y d))).set 2 (.int .i64 (rnd sv.z d))
      have hB6 : Below W.heap.size W (((W2.setCell ⟨W.heap.size, 0, none⟩ (.int .i64 (rnd sv.x d))).setCell ⟨W.heap.size, 1, none⟩ (.int .i64 (rnd sv.y d))).setCell ⟨W.heap.size, 2, none⟩ (.int .i64 (rnd sv.z d))) := bel_set (bel_set (bel_set hB5 (p := ⟨W.heap.size, 0, none⟩) (Nat.le_refl _) _) (p := ⟨W.heap.size, 1, none⟩) (Nat.le_refl _) _) (p := ⟨W.heap.size, 2, none⟩) (Nat.le_refl _) _
      go_wp2
      generalize ((W2.setCell ⟨W.heap.size, 0, none⟩ (.int .i64 (rnd sv.x d))).setCell ⟨W.heap.size, 1, none⟩ (.int .i64 (rnd sv.y d))).setCell ⟨W.heap.size, 2, none⟩ (.int .i64 (rnd sv.z d)) = WE at *
      have w0 := hR3.cell 0
      have w1 := hR3.cell 1
      have w2 := hR3.cell 2
      refine bodyPost_ret (v := .agg #[.int .i64 (rnd sv.x d), .int .i64 (rnd sv.y d), .int .i64 (rnd sv.z d)]) (by simp [results, Try.results99, go_sem, w0, w1, w2]) rfl ⟨by rw [hsv.out]; rfl, hB6⟩
end Go.Proofs.Ytpaehkjnefgaiaa
namespace Go.Proofs.Ytpaehkjnefgaiaa
open Go.RowKit
set_option linter.unusedVariables false
set_option linter.unusedSimpArgs false
set_option linter.unnecessarySimpa false
set_option maxRecDepth 100000
def N3 : P3 := ⟨0, 0, 0⟩
def cubK (p : Nat → P3) (i n : Int) : Bool := thB i n && okB p 4
def cubP (p : Nat → P3) (i n : Int) : P3 := if cubK p i n = true then rnP (sumP (wt i n) p 4) (n * n * n) else N3
def ptK (p : Nat → P3) (i n j m : Int) : Bool := thB i n && thB j m && okB p 16
def ptP (p : Nat → P3) (i n j m : Int) : P3 := if ptK p i n j m = true then rnP (sumP (wt2 i n j m) p 16) (n * n * n * (m * m * m)) else N3
theorem thB_iff {i n : Int} : thB i n = true ↔ 1 ≤ n ∧ n ≤ 16 ∧ 0 ≤ i ∧ i ≤ n := decide_eq_true_iff
theorem cube2_bd {n m : Int} (h0 : 1 ≤ n) (h1 : n ≤ 16) (g0 : 1 ≤ m) (g1 : m ≤ 16) : 1 ≤ n * n * n * (m * m * m) ∧ n * n * n * (m * m * m) ≤ 16777216 := by
  obtain ⟨a, b⟩ := cube_bd h0 h1
  obtain ⟨c, d⟩ := cube_bd g0 g1
  generalize n * n * n = x at *
  generalize m * m * m = y at *
  have e := Int.mul_le_mul b d (by omega) (by omega)
  have f := Int.mul_le_mul a c (by omega) (by omega)
  omega
theorem cub_tn (p : Nat → P3) (i n : Int) (h : thB i n = false) : Gives Try.prog 83 #[.agg (ptsC 4 p), .int .i64 i, .int .i64 n] (.tuple #[.agg #[.int .i64 (cubP p i n).x, .int .i64 (cubP p i n).y, .int .i64 (cubP p i n).z], .bool (cubK p i n)]) := by
  have hk : cubK p i n = false := by unfold cubK; simp [h]
  rw [show cubP p i n = N3 by unfold cubP; rw [hk]; rfl, hk]
  have p1 := parted_any i n
  rw [h] at p1
  refine Gives.mk fun W => ?_
  go_enter Try.func83, Try.ntmps83
  go_wp2_with (first | (go_at_call 96; first | ((with_reducible refine (p1.at_ _).mono ?_); rintro e w' ⟨rfl, xg, rfl⟩)) | fail)
  refine bodyPost_ret (v := .tuple #[.agg #[.int .i64 N3.x, .int .i64 N3.y, .int .i64 N3.z], .bool false]) (by simp [results, Try.results83, go_sem, N3]) rfl ⟨rfl, (by repeat (first | exact Below.refl _ _ | refine bel_then ?_ _ | refine bel_grow ?_ _ | refine bel_alloc ?_ _ | refine bel_drew ?_ | refine bel_set ?_ (by simp) _ | refine bel_setRow ?_ (by first | omega | (simp; done) | (refine Nat.le_trans ?_ (top_le _ _); simp; done) | (refine Nat.le_succ_of_le (Nat.le_trans ?_ (top_le _ _)); simp; done) | (refine Nat.le_trans ?_ (top_le _ _); simp only [World.size_alloc]; refine Nat.le_succ_of_le (Nat.le_trans ?_ (top_le _ _)); simp; done)) _))⟩
set_option maxHeartbeats 1000000 in
theorem cub_bn (p : Nat → P3) (i n : Int) (h : thB i n = true) (hp : okB p 4 = false) : Gives Try.prog 83 #[.agg (ptsC 4 p), .int .i64 i, .int .i64 n] (.tuple #[.agg #[.int .i64 (cubP p i n).x, .int .i64 (cubP p i n).y, .int .i64 (cubP p i n).z], .bool (cubK p i n)]) := by
  have hk : cubK p i n = false := by unfold cubK; simp [hp]
  rw [show cubP p i n = N3 by unfold cubP; rw [hk]; rfl, hk]
  refine Gives.mk fun W => ?_
  have hB0 : Blk ((W.alloc (.cells (ptsC 4 p) 26)).alloc (.cells #[.int .i64 0, .int .i64 0, .int .i64 0] 23)) W.heap.size 26 (ptsC 4 p) := (Blk.new _ _ _ _ rfl).alloc _
  have hR0 : Blk ((W.alloc (.cells (ptsC 4 p) 26)).alloc (.cells #[.int .i64 0, .int .i64 0, .int .i64 0] 23)) (W.heap.size + 1) 23 #[.int .i64 0, .int .i64 0, .int .i64 0] := Blk.new _ _ _ _ (by simp)
  have hb0 : Below W.heap.size W ((W.alloc (.cells (ptsC 4 p) 26)).alloc (.cells #[.int .i64 0, .int .i64 0, .int .i64 0] 23)) := bel_alloc (bel_alloc (Below.refl _ _) _) _
  have p1 := parted_any i n
  rw [h] at p1
  go_enter Try.func83, Try.ntmps83
  go_upto_region 1 with (fail)
  generalize (W.alloc (.cells (ptsC 4 p) 26)).alloc (.cells #[.int .i64 0, .int .i64 0, .int .i64 0] 23) = W0 at *
  have hbx := hB0.lt
  have cB : ∀ x : More, Calls Try.prog 97 #[.slice (some ⟨W.heap.size, 0, none⟩) 4 4] (grow W0 x) fun e W' => e = .returned (.bool false) ∧ Below (grow W0 x).heap.size (grow W0 x) W' := fun x => by
    have := bounded_any (grow W0 x) W.heap.size 4 4 26 p (hB0.grow x) (by omega)
    rwa [hp] at this
  go_upto_region 2 with (first | (go_at_call 96; first | ((with_reducible refine (p1.at_ _).mono ?_); rintro e w' ⟨rfl, xg, rfl⟩)) | (go_at_call 97; (with_reducible refine (cB _).mono ?_); rintro e W1 ⟨rfl, hb1⟩) | fail)
  have hR1 : Blk W1 (W.heap.size + 1) 23 #[.int .i64 0, .int .i64 0, .int .i64 0] := (hR0.grow _ : Blk (grow W0 _) _ _ _).below hb1
  have hB1 : Below W.heap.size W W1 := bel_trans (bel_grow hb0 _) hb1
  clear hb1 cB
  have r0 := hR1.cell 0
  have r1 := hR1.cell 1
  have r2 := hR1.cell 2
  have rl := hR1.lt
  have f0 := hR1.frozen 0
  have f1 := hR1.frozen 1
  have f2 := hR1.frozen 2
  have hR3 := ((hR1.set 0 (.int .i64 0)).set 1 (.int .i64 0)).set 2 (.int .i64 0)
  have hB6 : Below W.heap.size W (((W1.setCell ⟨W.heap.size + 1, 0, none⟩ (.int .i64 0)).setCell ⟨W.heap.size + 1, 1, none⟩ (.int .i64 0)).setCell ⟨W.heap.size + 1, 2, none⟩ (.int .i64 0)) := bel_set (bel_set (bel_set hB1 (p := ⟨W.heap.size + 1, 0, none⟩) (by simp) _) (p := ⟨W.heap.size + 1, 1, none⟩) (by simp) _) (p := ⟨W.heap.size + 1, 2, none⟩) (by simp) _
  go_wp2
  generalize ((W1.setCell ⟨W.heap.size + 1, 0, none⟩ (.int .i64 0)).setCell ⟨W.heap.size + 1, 1, none⟩ (.int .i64 0)).setCell ⟨W.heap.size + 1, 2, none⟩ (.int .i64 0) = WE at *
  have w0 := hR3.cell 0
  have w1 := hR3.cell 1
  have w2 := hR3.cell 2
  refine bodyPost_ret (v := .tuple #[.agg #[.int .i64 N3.x, .int .i64 N3.y, .int .i64 N3.z], .bool false]) (by simp [results, Try.results83, go_sem, N3, w0, w1, w2]) rfl ⟨rfl, hB6⟩
set_option maxHeartbeats 2000000 in
theorem cub_ys (p : Nat → P3) (i n : Int) (h : thB i n = true) (hp : okB p 4 = true) : Gives Try.prog 83 #[.agg (ptsC 4 p), .int .i64 i, .int .i64 n] (.tuple #[.agg #[.int .i64 (cubP p i n).x, .int .i64 (cubP p i n).y, .int .i64 (cubP p i n).z], .bool (cubK p i n)]) := by
  have hk : cubK p i n = true := by unfold cubK; simp [h, hp]
  rw [show cubP p i n = rnP (sumP (wt i n) p 4) (n * n * n) by unfold cubP; rw [hk]; rfl, hk]
  refine Gives.mk fun W => ?_
  have hB0 : Blk ((W.alloc (.cells (ptsC 4 p) 26)).alloc (.cells #[.int .i64 0, .int .i64 0, .int .i64 0] 23)) W.heap.size 26 (ptsC 4 p) := (Blk.new _ _ _ _ rfl).alloc _
  have hR0 : Blk ((W.alloc (.cells (ptsC 4 p) 26)).alloc (.cells #[.int .i64 0, .int .i64 0, .int .i64 0] 23)) (W.heap.size + 1) 23 #[.int .i64 0, .int .i64 0, .int .i64 0] := Blk.new _ _ _ _ (by simp)
  have hb0 : Below W.heap.size W ((W.alloc (.cells (ptsC 4 p) 26)).alloc (.cells #[.int .i64 0, .int .i64 0, .int .i64 0] 23)) := bel_alloc (bel_alloc (Below.refl _ _) _) _
  have p1 := parted_any i n
  rw [h] at p1
  go_enter Try.func83, Try.ntmps83
  go_upto_region 1 with (fail)
  generalize (W.alloc (.cells (ptsC 4 p) 26)).alloc (.cells #[.int .i64 0, .int .i64 0, .int .i64 0] 23) = W0 at *
  have hbx := hB0.lt
  have kw := weights_G (thB_iff.1 h)
  have kc := cube_G (n := n) (by have := thB_iff.1 h; omega) (by have := thB_iff.1 h; omega)
  have cB : ∀ x : More, Calls Try.prog 97 #[.slice (some ⟨W.heap.size, 0, none⟩) 4 4] (grow W0 x) fun e W' => e = .returned (.bool true) ∧ Below (grow W0 x).heap.size (grow W0 x) W' := fun x => by
    have := bounded_any (grow W0 x) W.heap.size 4 4 26 p (hB0.grow x) (by omega)
    rwa [hp] at this
  go_upto_region 3 with (first | (go_at_call 96; first | ((with_reducible refine (p1.at_ _).mono ?_); rintro e w' ⟨rfl, xg, rfl⟩)) | (go_at_call 97; (with_reducible refine (cB _).mono ?_); rintro e W1 ⟨rfl, hb1⟩) | fail)
  have hP1 : Blk W1 W.heap.size 26 (ptsC 4 p) := (hB0.grow _ : Blk (grow W0 _) _ _ _).below hb1
  have hR1 : Blk W1 (W.heap.size + 1) 23 #[.int .i64 0, .int .i64 0, .int .i64 0] := (hR0.grow _ : Blk (grow W0 _) _ _ _).below hb1
  have hB1 : Below W.heap.size W W1 := bel_trans (bel_grow hb0 _) hb1
  have hW1 : W.heap.size + 1 < W1.heap.size := hR1.lt
  clear hb1 cB hb0 hB0 hR0 hbx
  unfold wtV at kw
  go_upto_region 4 with (first | (go_at_call 98; first | ((with_reducible refine (kw.at_ _).mono ?_); rintro e w' ⟨rfl, xg, rfl⟩)) | fail)
  have hP2 : Blk ((grow W1 xg).alloc (.cells #[.int .i64 (wt i n 0), .int .i64 (wt i n 1), .int .i64 (wt i n 2), .int .i64 (wt i n 3)] 25)) W.heap.size 26 (ptsC 4 p) := (hP1.grow xg).alloc _
  have hR2 : Blk ((grow W1 xg).alloc (.cells #[.int .i64 (wt i n 0), .int .i64 (wt i n 1), .int .i64 (wt i n 2), .int .i64 (wt i n 3)] 25)) (W.heap.size + 1) 23 #[.int .i64 0, .int .i64 0, .int .i64 0] := (hR1.grow xg).alloc _
  have hU2 : WtB ((grow W1 xg).alloc (.cells #[.int .i64 (wt i n 0), .int .i64 (wt i n 1), .int .i64 (wt i n 2), .int .i64 (wt i n 3)] 25)) (grow W1 xg).heap.size (wt i n) := WtB.of (Blk.new _ _ _ _ rfl)
  have hB2 : Below W.heap.size W ((grow W1 xg).alloc (.cells #[.int .i64 (wt i n 0), .int .i64 (wt i n 1), .int .i64 (wt i n 2), .int .i64 (wt i n 3)] 25)) := bel_alloc (bel_grow hB1 xg) _
  generalize ((grow W1 xg).alloc (.cells #[.int .i64 (wt i n 0), .int .i64 (wt i n 1), .int .i64 (wt i n 2), .int .i64 (wt i n 3)] 25)) = W2 at *
  generalize (grow W1 xg).heap.size = bw at *
  have hbp := hP2.lt
  have hbu := hU2.1
  have kM : ∀ x : More, Calls Try.prog 99 #[.int .i64 (n * n * n), .slice (some ⟨W.heap.size, 0, none⟩) 4 4, .func (.func 101) #[] #[.pointer (some ⟨bw, 0, none⟩)]] (grow W2 x) fun e w' => e = .returned (.agg #[.int .i64 (rnP (sumP (wt i n) p 4) (n * n * n)).x, .int .i64 (rnP (sumP (wt i n) p 4) (n * n * n)).y, .int .i64 (rnP (sumP (wt i n) p 4) (n * n * n)).z]) ∧ Below (grow W2 x).heap.size (grow W2 x) w' := fun x =>
    mean1_any (grow W2 x) bw (wt i n) (hU2.below (x.kept W2)) W.heap.size 4 26 p (hP2.grow x) (n * n * n) (fun k _ => wt_pos (by have := thB_iff.1 h; omega) (by have := thB_iff.1 h; omega) k) (by rw [wt_tot]; have := cube_bd (n := n) (by have := thB_iff.1 h; omega) (by have := thB_iff.1 h; omega); omega) hp (by have := cube_bd (n := n) (by have := thB_iff.1 h; omega) (by have := thB_iff.1 h; omega); omega) (by have := cube_bd (n := n) (by have := thB_iff.1 h; omega) (by have := thB_iff.1 h; omega); omega)
  generalize hrn : rnP (sumP (wt i n) p 4) (n * n * n) = rn at *
  replace hrn := Lib.hid hrn
  refine wp_region_tail 5 ?_ (by kernel_rfl) (by kernel_rfl) (by kernel_rfl) (fun x => ?_) (fun x => ?_)
  rotate_left
  · simp only [List.take_succ_cons, List.take_zero]
    repeat (go_big_quiet_step (((first | with_reducible exact kc.quiet _ | with_reducible exact kc.quiet2 _ _ | with_reducible exact cq1 _ (kM _) | with_reducible exact cq2 _ _ (kM _)))))
    refine wpQuiet_nil ?_
    exact rfl
  simp only [List.drop_succ_cons, List.drop_zero]
  try simp only [Act.put, List.setIfInBounds_toArray, List.set_cons_succ, List.set_cons_zero]
  have hR3 := hR2.grow x
  have hB3 := bel_grow hB2 x
  clear hR2 hB2 hP2 hU2 kM
  generalize grow W2 x = W3 at *
  have r0 := hR3.cell 0
  have r1 := hR3.cell 1
  have r2 := hR3.cell 2
  have rl := hR3.lt
  have f0 := hR3.frozen 0
  have f1 := hR3.frozen 1
  have f2 := hR3.frozen 2
  have hR4 := ((hR3.set 0 (.int .i64 rn.x)).set 1 (.int .i64 rn.y)).set 2 (.int .i64 rn.z)
  have hB6 : Below W.heap.size W (((W3.setCell ⟨W.heap.size + 1, 0, none⟩ (.int .i64 rn.x)).setCell ⟨W.heap.size + 1, 1, none⟩ (.int .i64 rn.y)).setCell ⟨W.heap.size + 1, 2, none⟩ (.int .i64 rn.z)) := bel_set (bel_set (bel_set hB3 (p := ⟨W.heap.size + 1, 0, none⟩) (by simp) _) (p := ⟨W.heap.size + 1, 1, none⟩) (by simp) _) (p := ⟨W.heap.size + 1, 2, none⟩) (by simp) _
  go_wp2
  generalize ((W3.setCell ⟨W.heap.size + 1, 0, none⟩ (.int .i64 rn.x)).setCell ⟨W.heap.size + 1, 1, none⟩ (.int .i64 rn.y)).setCell ⟨W.heap.size + 1, 2, none⟩ (.int .i64 rn.z) = WE at *
  have w0 := hR4.cell 0
  have w1 := hR4.cell 1
  have w2 := hR4.cell 2
  refine bodyPost_ret (v := .tuple #[.agg #[.int .i64 rn.x, .int .i64 rn.y, .int .i64 rn.z], .bool true]) (by simp [results, Try.results83, go_sem, w0, w1, w2]) rfl ⟨by rw [hrn.out], hB6⟩
theorem pt_tn (p : Nat → P3) (i n j m : Int) (h : thB i n = false) : Gives Try.prog 84 #[.agg (ptsC 16 p), .int .i64 i, .int .i64 n, .int .i64 j, .int .i64 m] (.tuple #[.agg #[.int .i64 (ptP p i n j m).x, .int .i64 (ptP p i n j m).y, .int .i64 (ptP p i n j m).z], .bool (ptK p i n j m)]) := by
  have hk : ptK p i n j m = false := by unfold ptK; simp [h]
  rw [show ptP p i n j m = N3 by unfold ptP; rw [hk]; rfl, hk]
  have p1 := parted_any i n
  have p2 := parted_any j m
  rw [h] at p1
  refine Gives.mk fun W => ?_
  go_enter Try.func84, Try.ntmps84
  go_wp2_with (first | (go_at_call 96; first | ((with_reducible refine (p1.at_ _).mono ?_); rintro e w' ⟨rfl, xg, rfl⟩) | ((with_reducible refine (p2.at_ _).mono ?_); rintro e w' ⟨rfl, xg, rfl⟩)) | fail)
  refine bodyPost_ret (v := .tuple #[.agg #[.int .i64 N3.x, .int .i64 N3.y, .int .i64 N3.z], .bool false]) (by simp [results, Try.results84, go_sem, N3]) rfl ⟨rfl, (by repeat (first | exact Below.refl _ _ | refine bel_then ?_ _ | refine bel_grow ?_ _ | refine bel_alloc ?_ _ | refine bel_drew ?_ | refine bel_set ?_ (by simp) _ | refine bel_setRow ?_ (by first | omega | (simp; done) | (refine Nat.le_trans ?_ (top_le _ _); simp; done) | (refine Nat.le_succ_of_le (Nat.le_trans ?_ (top_le _ _)); simp; done) | (refine Nat.le_trans ?_ (top_le _ _); simp only [World.size_alloc]; refine Nat.le_succ_of_le (Nat.le_trans ?_ (top_le _ _)); simp; done)) _))⟩
theorem pt_tm (p : Nat → P3) (i n j m : Int) (h : thB i n = true ∧ thB j m = false) : Gives Try.prog 84 #[.agg (ptsC 16 p), .int .i64 i, .int .i64 n, .int .i64 j, .int .i64 m] (.tuple #[.agg #[.int .i64 (ptP p i n j m).x, .int .i64 (ptP p i n j m).y, .int .i64 (ptP p i n j m).z], .bool (ptK p i n j m)]) := by
  have hk : ptK p i n j m = false := by unfold ptK; simp [h]
  rw [show ptP p i n j m = N3 by unfold ptP; rw [hk]; rfl, hk]
  have p1 := parted_any i n
  have p2 := parted_any j m
  rw [h.1] at p1
  rw [h.2] at p2
  refine Gives.mk fun W => ?_
  go_enter Try.func84, Try.ntmps84
  go_wp2_with (first | (go_at_call 96; first | ((with_reducible refine (p1.at_ _).mono ?_); rintro e w' ⟨rfl, xg, rfl⟩) | ((with_reducible refine (p2.at_ _).mono ?_); rintro e w' ⟨rfl, xg, rfl⟩)) | fail)
  refine bodyPost_ret (v := .tuple #[.agg #[.int .i64 N3.x, .int .i64 N3.y, .int .i64 N3.z], .bool false]) (by simp [results, Try.results84, go_sem, N3]) rfl ⟨rfl, (by repeat (first | exact Below.refl _ _ | refine bel_then ?_ _ | refine bel_grow ?_ _ | refine bel_alloc ?_ _ | refine bel_drew ?_ | refine bel_set ?_ (by simp) _ | refine bel_setRow ?_ (by first | omega | (simp; done) | (refine Nat.le_trans ?_ (top_le _ _); simp; done) | (refine Nat.le_succ_of_le (Nat.le_trans ?_ (top_le _ _)); simp; done) | (refine Nat.le_trans ?_ (top_le _ _); simp only [World.size_alloc]; refine Nat.le_succ_of_le (Nat.le_trans ?_ (top_le _ _)); simp; done)) _))⟩
set_option maxHeartbeats 1000000 in
theorem pt_bn (p : Nat → P3) (i n j m : Int) (h : thB i n = true ∧ thB j m = true) (hp : okB p 16 = false) : Gives Try.prog 84 #[.agg (ptsC 16 p), .int .i64 i, .int .i64 n, .int .i64 j, .int .i64 m] (.tuple #[.agg #[.int .i64 (ptP p i n j m).x, .int .i64 (ptP p i n j m).y, .int .i64 (ptP p i n j m).z], .bool (ptK p i n j m)]) := by
  have hk : ptK p i n j m = false := by unfold ptK; simp [hp]
  rw [show ptP p i n j m = N3 by unfold ptP; rw [hk]; rfl, hk]
  refine Gives.mk fun W => ?_
  have hB0 : Blk ((W.alloc (.cells (ptsC 16 p) 24)).alloc (.cells #[.int .i64 0, .int .i64 0, .int .i64 0] 23)) W.heap.size 24 (ptsC 16 p) := (Blk.new _ _ _ _ rfl).alloc _
  have hR0 : Blk ((W.alloc (.cells (ptsC 16 p) 24)).alloc (.cells #[.int .i64 0, .int .i64 0, .int .i64 0] 23)) (W.heap.size + 1) 23 #[.int .i64 0, .int .i64 0, .int .i64 0] := Blk.new _ _ _ _ (by simp)
  have hb0 : Below W.heap.size W ((W.alloc (.cells (ptsC 16 p) 24)).alloc (.cells #[.int .i64 0, .int .i64 0, .int .i64 0] 23)) := bel_alloc (bel_alloc (Below.refl _ _) _) _
  have p1 := parted_any i n
  have p2 := parted_any j m
  rw [h.1] at p1
  rw [h.2] at p2
  go_enter Try.func84, Try.ntmps84
  go_upto_region 1 with (fail)
  generalize (W.alloc (.cells (ptsC 16 p) 24)).alloc (.cells #[.int .i64 0, .int .i64 0, .int .i64 0] 23) = W0 at *
  have hbx := hB0.lt
  have cB : ∀ x : More, Calls Try.prog 97 #[.slice (some ⟨W.heap.size, 0, none⟩) 16 16] (grow W0 x) fun e W' => e = .returned (.bool false) ∧ Below (grow W0 x).heap.size (grow W0 x) W' := fun x => by
    have := bounded_any (grow W0 x) W.heap.size 16 16 24 p (hB0.grow x) (by omega)
    rwa [hp] at this
  go_upto_region 2 with (first | (go_at_call 96; first | ((with_reducible refine (p1.at_ _).mono ?_); rintro e w' ⟨rfl, xg, rfl⟩) | ((with_reducible refine (p2.at_ _).mono ?_); rintro e w' ⟨rfl, xg, rfl⟩)) | (go_at_call 97; (with_reducible refine (cB _).mono ?_); rintro e W1 ⟨rfl, hb1⟩) | fail)
  have hR1 : Blk W1 (W.heap.size + 1) 23 #[.int .i64 0, .int .i64 0, .int .i64 0] := (hR0.grow _ : Blk (grow W0 _) _ _ _).below hb1
  have hB1 : Below W.heap.size W W1 := bel_trans (bel_grow hb0 _) hb1
  clear hb1 cB
  have r0 := hR1.cell 0
  have r1 := hR1.cell 1
  have r2 := hR1.cell 2
  have rl := hR1.lt
  have f0 := hR1.frozen 0
  have f1 := hR1.frozen 1
  have f2 := hR1.frozen 2
  have hR3 := ((hR1.set 0 (.int .i64 0)).set 1 (.int .i64 0)).set 2 (.int .i64 0)
  have hB6 : Below W.heap.size W (((W1.setCell ⟨W.heap.size + 1, 0, none⟩ (.int .i64 0)).setCell ⟨W.heap.size + 1, 1, none⟩ (.int .i64 0)).setCell ⟨W.heap.size + 1, 2, none⟩ (.int .i64 0)) := bel_set (bel_set (bel_set hB1 (p := ⟨W.heap.size + 1, 0, none⟩) (by simp) _) (p := ⟨W.heap.size + 1, 1, none⟩) (by simp) _) (p := ⟨W.heap.size + 1, 2, none⟩) (by simp) _
  go_wp2
  generalize ((W1.setCell ⟨W.heap.size + 1, 0, none⟩ (.int .i64 0)).setCell ⟨W.heap.size + 1, 1, none⟩ (.int .i64 0)).setCell ⟨W.heap.size + 1, 2, none⟩ (.int .i64 0) = WE at *
  have w0 := hR3.cell 0
  have w1 := hR3.cell 1
  have w2 := hR3.cell 2
  refine bodyPost_ret (v := .tuple #[.agg #[.int .i64 N3.x, .int .i64 N3.y, .int .i64 N3.z], .bool false]) (by simp [results, Try.results84, go_sem, N3, w0, w1, w2]) rfl ⟨rfl, hB6⟩
set_option maxHeartbeats 2000000 in
theorem pt_ys (p : Nat → P3) (i n j m : Int) (h : thB i n = true ∧ thB j m = true) (hp : okB p 16 = true) : Gives Try.prog 84 #[.agg (ptsC 16 p), .int .i64 i, .int .i64 n, .int .i64 j, .int .i64 m] (.tuple #[.agg #[.int .i64 (ptP p i n j m).x, .int .i64 (ptP p i n j m).y, .int .i64 (ptP p i n j m).z], .bool (ptK p i n j m)]) := by
  have hk : ptK p i n j m = true := by unfold ptK; simp [h, hp]
  rw [show ptP p i n j m = rnP (sumP (wt2 i n j m) p 16) (n * n * n * (m * m * m)) by unfold ptP; rw [hk]; rfl, hk]
  refine Gives.mk fun W => ?_
  have hB0 : Blk ((W.alloc (.cells (ptsC 16 p) 24)).alloc (.cells #[.int .i64 0, .int .i64 0, .int .i64 0] 23)) W.heap.size 24 (ptsC 16 p) := (Blk.new _ _ _ _ rfl).alloc _
  have hR0 : Blk ((W.alloc (.cells (ptsC 16 p) 24)).alloc (.cells #[.int .i64 0, .int .i64 0, .int .i64 0] 23)) (W.heap.size + 1) 23 #[.int .i64 0, .int .i64 0, .int .i64 0] := Blk.new _ _ _ _ (by simp)
  have hb0 : Below W.heap.size W ((W.alloc (.cells (ptsC 16 p) 24)).alloc (.cells #[.int .i64 0, .int .i64 0, .int .i64 0] 23)) := bel_alloc (bel_alloc (Below.refl _ _) _) _
  have p1 := parted_any i n
  have p2 := parted_any j m
  rw [h.1] at p1
  rw [h.2] at p2
  go_enter Try.func84, Try.ntmps84
  go_upto_region 1 with (fail)
  generalize (W.alloc (.cells (ptsC 16 p) 24)).alloc (.cells #[.int .i64 0, .int .i64 0, .int .i64 0] 23) = W0 at *
  have hbx := hB0.lt
  have kw := weights_G (thB_iff.1 h.1)
  have kw2 := weights_G (thB_iff.1 h.2)
  have kc := cube_G (n := n) (by have := thB_iff.1 h.1; omega) (by have := thB_iff.1 h.1; omega)
  have kc2 := cube_G (n := m) (by have := thB_iff.1 h.2; omega) (by have := thB_iff.1 h.2; omega)
  have ed : wrap64 (n * n * n * (m * m * m)) = n * n * n * (m * m * m) := wrap_id (by have := cube2_bd (n := n) (m := m) (by have := thB_iff.1 h.1; omega) (by have := thB_iff.1 h.1; omega) (by have := thB_iff.1 h.2; omega) (by have := thB_iff.1 h.2; omega); omega) (by have := cube2_bd (n := n) (m := m) (by have := thB_iff.1 h.1; omega) (by have := thB_iff.1 h.1; omega) (by have := thB_iff.1 h.2; omega) (by have := thB_iff.1 h.2; omega); omega)
  have cB : ∀ x : More, Calls Try.prog 97 #[.slice (some ⟨W.heap.size, 0, none⟩) 16 16] (grow W0 x) fun e W' => e = .returned (.bool true) ∧ Below (grow W0 x).heap.size (grow W0 x) W' := fun x => by
    have := bounded_any (grow W0 x) W.heap.size 16 16 24 p (hB0.grow x) (by omega)
    rwa [hp] at this
  go_upto_region 3 with (first | (go_at_call 96; first | ((with_reducible refine (p1.at_ _).mono ?_); rintro e w' ⟨rfl, xg, rfl⟩) | ((with_reducible refine (p2.at_ _).mono ?_); rintro e w' ⟨rfl, xg, rfl⟩)) | (go_at_call 97; (with_reducible refine (cB _).mono ?_); rintro e W1 ⟨rfl, hb1⟩) | fail)
  have hP1 : Blk W1 W.heap.size 24 (ptsC 16 p) := (hB0.grow _ : Blk (grow W0 _) _ _ _).below hb1
  have hR1 : Blk W1 (W.heap.size + 1) 23 #[.int .i64 0, .int .i64 0, .int .i64 0] := (hR0.grow _ : Blk (grow W0 _) _ _ _).below hb1
  have hB1 : Below W.heap.size W W1 := bel_trans (bel_grow hb0 _) hb1
  have hW1 : W.heap.size + 1 < W1.heap.size := hR1.lt
  clear hb1 cB hb0 hB0 hR0 hbx
  unfold wtV at kw kw2
  go_upto_region 4 with (first | (go_at_call 98; first | ((with_reducible refine (kw.at_ _).mono ?_); rintro e w' ⟨rfl, xg, rfl⟩) | ((with_reducible refine (kw2.at_ _).mono ?_); rintro e w' ⟨rfl, xh, rfl⟩)) | fail)
  have hP2 : Blk (((grow W1 (xg.then xh)).alloc (.cells #[.int .i64 (wt i n 0), .int .i64 (wt i n 1), .int .i64 (wt i n 2), .int .i64 (wt i n 3)] 25)).alloc (.cells #[.int .i64 (wt j m 0), .int .i64 (wt j m 1), .int .i64 (wt j m 2), .int .i64 (wt j m 3)] 25)) W.heap.size 24 (ptsC 16 p) := ((hP1.grow _).alloc _).alloc _
  have hR2 : Blk (((grow W1 (xg.then xh)).alloc (.cells #[.int .i64 (wt i n 0), .int .i64 (wt i n 1), .int .i64 (wt i n 2), .int .i64 (wt i n 3)] 25)).alloc (.cells #[.int .i64 (wt j m 0), .int .i64 (wt j m 1), .int .i64 (wt j m 2), .int .i64 (wt j m 3)] 25)) (W.heap.size + 1) 23 #[.int .i64 0, .int .i64 0, .int .i64 0] := ((hR1.grow _).alloc _).alloc _
  have hU2 : WtB (((grow W1 (xg.then xh)).alloc (.cells #[.int .i64 (wt i n 0), .int .i64 (wt i n 1), .int .i64 (wt i n 2), .int .i64 (wt i n 3)] 25)).alloc (.cells #[.int .i64 (wt j m 0), .int .i64 (wt j m 1), .int .i64 (wt j m 2), .int .i64 (wt j m 3)] 25)) (grow W1 (xg.then xh)).heap.size (wt i n) := WtB.of ((Blk.new _ _ _ _ rfl).alloc _)
  have hV2 : WtB (((grow W1 (xg.then xh)).alloc (.cells #[.int .i64 (wt i n 0), .int .i64 (wt i n 1), .int .i64 (wt i n 2), .int .i64 (wt i n 3)] 25)).alloc (.cells #[.int .i64 (wt j m 0), .int .i64 (wt j m 1), .int .i64 (wt j m 2), .int .i64 (wt j m 3)] 25)) ((grow W1 (xg.then xh)).heap.size + 1) (wt j m) := WtB.of (Blk.new _ _ _ _ (by simp))
  have hB2 : Below W.heap.size W (((grow W1 (xg.then xh)).alloc (.cells #[.int .i64 (wt i n 0), .int .i64 (wt i n 1), .int .i64 (wt i n 2), .int .i64 (wt i n 3)] 25)).alloc (.cells #[.int .i64 (wt j m 0), .int .i64 (wt j m 1), .int .i64 (wt j m 2), .int .i64 (wt j m 3)] 25)) := bel_alloc (bel_alloc (bel_grow hB1 _) _) _
  generalize (((grow W1 (xg.then xh)).alloc (.cells #[.int .i64 (wt i n 0), .int .i64 (wt i n 1), .int .i64 (wt i n 2), .int .i64 (wt i n 3)] 25)).alloc (.cells #[.int .i64 (wt j m 0), .int .i64 (wt j m 1), .int .i64 (wt j m 2), .int .i64 (wt j m 3)] 25)) = W2 at *
  generalize (grow W1 (xg.then xh)).heap.size = bw at *
  have hbp := hP2.lt
  have hbu := hU2.1
  have hbv := hV2.1
  have kM : ∀ x : More, Calls Try.prog 99 #[.int .i64 (n * n * n * (m * m * m)), .slice (some ⟨W.heap.size, 0, none⟩) 16 16, .func (.func 102) #[] #[.pointer (some ⟨bw, 0, none⟩), .pointer (some ⟨bw + 1, 0, none⟩)]] (grow W2 x) fun e w' => e = .returned (.agg #[.int .i64 (rnP (sumP (wt2 i n j m) p 16) (n * n * n * (m * m * m))).x, .int .i64 (rnP (sumP (wt2 i n j m) p 16) (n * n * n * (m * m * m))).y, .int .i64 (rnP (sumP (wt2 i n j m) p 16) (n * n * n * (m * m * m))).z]) ∧ Below (grow W2 x).heap.size (grow W2 x) w' := fun x =>
    mean2_any (grow W2 x) bw (bw + 1) (wt i n) (wt j m) (wt2 i n j m) rfl (hU2.below (x.kept W2)) (hV2.below (x.kept W2)) W.heap.size 16 24 p (hP2.grow x) (n * n * n * (m * m * m)) (fun k _ => wt2_pos (by have := thB_iff.1 h.1; omega) (by have := thB_iff.1 h.1; omega) (by have := thB_iff.1 h.2; omega) (by have := thB_iff.1 h.2; omega) k) (by rw [wt2_tot]; exact (cube2_bd (by have := thB_iff.1 h.1; omega) (by have := thB_iff.1 h.1; omega) (by have := thB_iff.1 h.2; omega) (by have := thB_iff.1 h.2; omega)).2) hp (cube2_bd (by have := thB_iff.1 h.1; omega) (by have := thB_iff.1 h.1; omega) (by have := thB_iff.1 h.2; omega) (by have := thB_iff.1 h.2; omega)).1 (cube2_bd (by have := thB_iff.1 h.1; omega) (by have := thB_iff.1 h.1; omega) (by have := thB_iff.1 h.2; omega) (by have := thB_iff.1 h.2; omega)).2
  generalize hrn : rnP (sumP (wt2 i n j m) p 16) (n * n * n * (m * m * m)) = rn at *
  replace hrn := Lib.hid hrn
  generalize n * n * n = cn at kc ed kM
  generalize m * m * m = cm at kc2 ed kM
  refine wp_region_tail 8 ?_ (by kernel_rfl) (by kernel_rfl) (by kernel_rfl) (fun x => ?_) (fun x => ?_)
  rotate_left
  · simp only [List.take_succ_cons, List.take_zero]
    repeat (go_big_quiet_step (((first | with_reducible exact kc.quiet _ | with_reducible exact kc.quiet2 _ _ | with_reducible exact kc2.quiet _ | with_reducible exact kc2.quiet2 _ _ | with_reducible exact cq1 _ (kM _) | with_reducible exact cq2 _ _ (kM _)))))
    refine wpQuiet_nil ?_
    exact rfl
  simp only [List.drop_succ_cons, List.drop_zero]
  try simp only [Act.put, List.setIfInBounds_toArray, List.set_cons_succ, List.set_cons_zero]
  have hR3 := hR2.grow x
  have hB3 := bel_grow hB2 x
  clear hR2 hB2 hP2 hU2 hV2 kM
  generalize grow W2 x = W3 at *
  have r0 := hR3.cell 0
  have r1 := hR3.cell 1
  have r2 := hR3.cell 2
  have rl := hR3.lt
  have f0 := hR3.frozen 0
  have f1 := hR3.frozen 1
  have f2 := hR3.frozen 2
  have hR4 := ((hR3.set 0 (.int .i64 rn.x)).set 1 (.int .i64 rn.y)).set 2 (.int .i64 rn.z)
  have hB6 : Below W.heap.size W (((W3.setCell ⟨W.heap.size + 1, 0, none⟩ (.int .i64 rn.x)).setCell ⟨W.heap.size + 1, 1, none⟩ (.int .i64 rn.y)).setCell ⟨W.heap.size + 1, 2, none⟩ (.int .i64 rn.z)) := bel_set (bel_set (bel_set hB3 (p := ⟨W.heap.size + 1, 0, none⟩) (by simp) _) (p := ⟨W.heap.size + 1, 1, none⟩) (by simp) _) (p := ⟨W.heap.size + 1, 2, none⟩) (by simp) _
  go_wp2
  generalize ((W3.setCell ⟨W.heap.size + 1, 0, none⟩ (.int .i64 rn.x)).setCell ⟨W.heap.size + 1, 1, none⟩ (.int .i64 rn.y)).setCell ⟨W.heap.size + 1, 2, none⟩ (.int .i64 rn.z) = WE at *
  have w0 := hR4.cell 0
  have w1 := hR4.cell 1
  have w2 := hR4.cell 2
  refine bodyPost_ret (v := .tuple #[.agg #[.int .i64 rn.x, .int .i64 rn.y, .int .i64 rn.z], .bool true]) (by simp [results, Try.results84, go_sem, w0, w1, w2]) rfl ⟨by rw [hrn.out], hB6⟩
theorem cub_any (p : Nat → P3) (i n : Int) : Gives Try.prog 83 #[.agg (ptsC 4 p), .int .i64 i, .int .i64 n] (.tuple #[.agg #[.int .i64 (cubP p i n).x, .int .i64 (cubP p i n).y, .int .i64 (cubP p i n).z], .bool (cubK p i n)]) := by
  cases h : thB i n
  · exact cub_tn p i n h
  · cases hp : okB p 4
    · exact cub_bn p i n h hp
    · exact cub_ys p i n h hp
theorem pt_any (p : Nat → P3) (i n j m : Int) : Gives Try.prog 84 #[.agg (ptsC 16 p), .int .i64 i, .int .i64 n, .int .i64 j, .int .i64 m] (.tuple #[.agg #[.int .i64 (ptP p i n j m).x, .int .i64 (ptP p i n j m).y, .int .i64 (ptP p i n j m).z], .bool (ptK p i n j m)]) := by
  cases h : thB i n
  · exact pt_tn p i n j m h
  · cases g : thB j m
    · exact pt_tm p i n j m ⟨h, g⟩
    · cases hp : okB p 16
      · exact pt_bn p i n j m ⟨h, g⟩ hp
      · exact pt_ys p i n j m ⟨h, g⟩ hp
end Go.Proofs.Ytpaehkjnefgaiaa
namespace Go.Proofs.Ytpaehkjnefgaiaa
open Go.RowKit
set_option linter.unusedVariables false
set_option linter.unusedSimpArgs false
set_option linter.unnecessarySimpa false
def adE (a b : P3) : P3 := ⟨a.x + b.x, a.y + b.y, a.z + b.z⟩
def scE (a : P3) (k : Int) : P3 := ⟨a.x * k, a.y * k, a.z * k⟩
/-- In which of c cells of sixteen units a place lies. -/
def cellN (x c : Int) : Int := (x / 16) % c
theorem cellN_bd {x c : Int} (h : 1 ≤ c) : 0 ≤ cellN x c ∧ cellN x c < c := ⟨Int.emod_nonneg _ (by omega), Int.emod_lt_of_pos _ (by omega)⟩
theorem cell16 (x c : Int) (h1 : 1 ≤ c) (h2 : c ≤ 16) (r q u : Int) (e : x = q * (c * 16) + r) (r1 : 0 ≤ r) (r2 : r < c * 16) (hu : u = r / 16) : u = cellN x c := by
  subst hu
  unfold cellN
  have e1 : x / 16 = q * c + r / 16 := by
    rw [e, show q * (c * 16) + r = r + (q * c) * 16 by grind, Int.add_mul_ediv_right _ _ (by omega)]; omega
  rw [e1, show q * c + r / 16 = r / 16 + q * c by omega, Int.add_mul_emod_self_right, Int.emod_eq_of_lt (by omega) (by omega)]
/-- A texture's shape is right. -/
def rightF (W H : Int) (rows : List Int) : Bool := decide (1 ≤ W ∧ W ≤ 16 ∧ 1 ≤ H ∧ H ≤ 16 ∧ (rows.length : Int) = W * H) && rows.all fun x => decide (0 ≤ x ∧ x ≤ 255)
theorem rightF_size {W H : Int} {rows : List Int} (h : ¬ (1 ≤ W ∧ W ≤ 16 ∧ 1 ≤ H ∧ H ≤ 16 ∧ (rows.length : Int) = W * H)) : rightF W H rows = false := by
  unfold rightF; rw [decide_eq_false h]; rfl
theorem rightF_cell {W H : Int} {rows : List Int} {k : Nat} (hk : k < rows.length) (h : ¬ (0 ≤ rows[k] ∧ rows[k] ≤ 255)) : rightF W H rows = false := by
  unfold rightF
  rw [show (rows.all fun x => decide (0 ≤ x ∧ x ≤ 255)) = false by rw [List.all_eq_false]; exact ⟨_, List.getElem_mem hk, by simpa using h⟩, Bool.and_false]
theorem rightF_all {W H : Int} {rows : List Int} (h : 1 ≤ W ∧ W ≤ 16 ∧ 1 ≤ H ∧ H ≤ 16 ∧ (rows.length : Int) = W * H) (ha : ∀ k (hk : k < rows.length), 0 ≤ rows[k] ∧ rows[k] ≤ 255) : rightF W H rows = true := by
  unfold rightF
  rw [decide_eq_true h, Bool.true_and, List.all_eq_true]
  intro x hx
  obtain ⟨k, hk, rfl⟩ := List.getElem_of_mem hx
  exact decide_eq_true (ha k hk)
theorem rightF_yes {W H : Int} {rows : List Int} (h : rightF W H rows = true) : (1 ≤ W ∧ W ≤ 16) ∧ (1 ≤ H ∧ H ≤ 16) ∧ (rows.length : Int) = W * H ∧ ∀ x ∈ rows, 0 ≤ x ∧ x ≤ 255 := by
  unfold rightF at h
  rw [Bool.and_eq_true, List.all_eq_true] at h
  obtain ⟨h1, h2⟩ := h
  obtain ⟨a, b, c, d, e⟩ := of_decide_eq_true h1
  exact ⟨⟨a, b⟩, ⟨c, d⟩, e, fun x hx => of_decide_eq_true (h2 x hx)⟩
theorem WH_bd {W H : Int} (h : (1 ≤ W ∧ W ≤ 16) ∧ (1 ≤ H ∧ H ≤ 16)) : 1 ≤ W * H ∧ W * H ≤ 256 := by
  obtain ⟨⟨a, b⟩, c, d⟩ := h
  have h1 := Int.mul_le_mul b d (by omega) (by omega)
  have h2 := Int.mul_pos (show 0 < W by omega) (show 0 < H by omega)
  omega
/-- A cell's number within its bounds. -/
theorem at_bd {W H r c : Int} (hr : 0 ≤ r ∧ r < H) (hc : 0 ≤ c ∧ c < W) : 0 ≤ r * W + c ∧ r * W + c < W * H := by
  have h1 := Int.mul_nonneg hr.1 (show 0 ≤ W by omega)
  have h2 := Int.mul_le_mul_of_nonneg_right (show r ≤ H - 1 by omega) (show 0 ≤ W by omega)
  rw [Int.sub_mul, Int.mul_comm H W] at h2
  omega
def texN (W H : Int) (p : P3) : Int := cellN (p.y + p.z) H * W + cellN p.x W
def texK (W H : Int) (rows : List Int) (p : P3) : Bool := rightF W H rows && wi p
def texV (W H : Int) (rows : List Int) (p : P3) : Int := if texK W H rows p = true then rows.getD (texN W H p).toNat 0 else 0
theorem texV_no {W H : Int} {rows : List Int} {p : P3} (h : texK W H rows p = false) : texV W H rows p = 0 := by unfold texV; rw [h]; rfl
theorem texV_yes {W H : Int} {rows : List Int} {p : P3} (h : texK W H rows p = true) : ∃ (hb : 0 ≤ texN W H p) (hk : (texN W H p).toNat < rows.length), texV W H rows p = rows[(texN W H p).toNat] := by
  have h0 := h
  unfold texK at h0
  rw [Bool.and_eq_true] at h0
  obtain ⟨hw, hh, hl, ha⟩ := rightF_yes h0.1
  have b := at_bd (cellN_bd (x := p.y + p.z) hh.1) (cellN_bd (x := p.x) hw.1)
  have b' : 0 ≤ texN W H p ∧ texN W H p < W * H := b
  have hk : (texN W H p).toNat < rows.length := by omega
  refine ⟨b'.1, hk, ?_⟩
  unfold texV
  rw [if_pos h, List.getD_eq_getElem?_getD, List.getElem?_eq_getElem hk]
  rfl
def wB (q : P3) (m : Int) : Bool := wiB q.x q.y q.z m
theorem wB_iff {q : P3} {m : Int} : wB q m = true ↔ 0 ≤ m ∧ (-m ≤ q.x ∧ q.x ≤ m) ∧ (-m ≤ q.y ∧ q.y ≤ m) ∧ -m ≤ q.z ∧ q.z ≤ m := wiB_iff _ _ _ _
def plK (i n : Int) : Bool := decide (1 ≤ n ∧ n ≤ 16 ∧ 0 ≤ i ∧ i ≤ n)
def blK (a b : P3) (i n : Int) : Bool := plK i n && wB a 1023 && wB b 1023
def blS (a b : P3) (i n : Int) : P3 := adE (scE a (n - i)) (scE b i)
def blP (a b : P3) (i n : Int) : P3 := if blK a b i n = true then rnP (blS a b i n) n else N3
theorem blP_no {a b : P3} {i n : Int} (h : blK a b i n = false) : blP a b i n = N3 := by unfold blP; rw [h]; rfl
theorem blP_yes {a b : P3} {i n : Int} (h : blK a b i n = true) : blP a b i n = rnP (blS a b i n) n := by unfold blP; rw [if_pos h]
theorem blK_yes {a b : P3} {i n : Int} (h : blK a b i n = true) : (1 ≤ n ∧ n ≤ 16 ∧ 0 ≤ i ∧ i ≤ n) ∧ wB a 1023 = true ∧ wB b 1023 = true := by
  unfold blK at h
  rw [Bool.and_eq_true, Bool.and_eq_true] at h
  exact ⟨of_decide_eq_true h.1.1, h.1.2, h.2⟩
/-- Between two, by parts that come to n. -/
theorem bl1 {x y lo hi i n : Int} (hn : 1 ≤ n) (hi0 : 0 ≤ i) (hin : i ≤ n) (hx : lo ≤ x ∧ x ≤ hi) (hy : lo ≤ y ∧ y ≤ hi) : lo * n ≤ x * (n - i) + y * i ∧ x * (n - i) + y * i ≤ hi * n := by
  have a1 := Int.mul_le_mul_of_nonneg_right hx.1 (show 0 ≤ n - i by omega)
  have a2 := Int.mul_le_mul_of_nonneg_right hx.2 (show 0 ≤ n - i by omega)
  have a3 := Int.mul_le_mul_of_nonneg_right hy.1 hi0
  have a4 := Int.mul_le_mul_of_nonneg_right hy.2 hi0
  have e1 : lo * (n - i) + lo * i = lo * n := by rw [← Int.mul_add]; congr 1; omega
  have e2 : hi * (n - i) + hi * i = hi * n := by rw [← Int.mul_add]; congr 1; omega
  omega
theorem rnd_mid {s lo hi n : Int} (hn : 1 ≤ n) (hn2 : n ≤ 2305843009213693952) (h1 : lo * n ≤ s) (h2 : s ≤ hi * n) (hs : -2305843009213693952 ≤ s ∧ s ≤ 2305843009213693952) : lo ≤ rnd s n ∧ rnd s n ≤ hi := by
  rw [rnd_in (by omega)]
  constructor
  · rw [Int.le_ediv_iff_mul_le (by omega)]
    have : lo * (2 * n) = 2 * (lo * n) := by rw [Int.mul_left_comm]
    omega
  · have : (2 * s + n) / (2 * n) < hi + 1 := by
      rw [Int.ediv_lt_iff_lt_mul (by omega)]
      have : (hi + 1) * (2 * n) = 2 * (hi * n) + 2 * n := by rw [Int.add_mul, Int.mul_left_comm]; omega
      omega
    omega
theorem bl1_bd {x y i n : Int} (h : 1 ≤ n ∧ n ≤ 16 ∧ 0 ≤ i ∧ i ≤ n) (hx : -1023 ≤ x ∧ x ≤ 1023) (hy : -1023 ≤ y ∧ y ≤ 1023) : -16368 ≤ x * (n - i) + y * i ∧ x * (n - i) + y * i ≤ 16368 := by
  have := bl1 h.1 h.2.2.1 h.2.2.2 hx hy
  omega
theorem mul_1023 {x k : Int} (hx : -1023 ≤ x ∧ x ≤ 1023) (hk : 0 ≤ k ∧ k ≤ 16) : -16368 ≤ x * k ∧ x * k ≤ 16368 := by
  have a1 := Int.mul_le_mul_of_nonneg_right hx.1 hk.1
  have a2 := Int.mul_le_mul_of_nonneg_right hx.2 hk.1
  omega
theorem blP_within {a b : P3} {i n : Int} (h : blK a b i n = true) : wB (blP a b i n) 1023 = true := by
  rw [blP_yes h]
  obtain ⟨h1, h2, h3⟩ := blK_yes h
  rw [wB_iff] at *
  obtain ⟨_, a1, a2, a3⟩ := h2
  obtain ⟨_, b1, b2, b3⟩ := h3
  have c1 := bl1 h1.1 h1.2.2.1 h1.2.2.2 a1 b1
  have c2 := bl1 h1.1 h1.2.2.1 h1.2.2.2 a2 b2
  have c3 := bl1 h1.1 h1.2.2.1 h1.2.2.2 a3 b3
  have g1 := rnd_mid (n := n) (s := a.x * (n - i) + b.x * i) (by omega) (by omega) c1.1 c1.2 (by omega)
  have g2 := rnd_mid (n := n) (s := a.y * (n - i) + b.y * i) (by omega) (by omega) c2.1 c2.2 (by omega)
  have g3 := rnd_mid (n := n) (s := a.z * (n - i) + b.z * i) (by omega) (by omega) c3.1 c3.2 (by omega)
  exact ⟨by omega, g1, g2, g3⟩
/-- Among four. -/
def mxK (n : Nat → P3) (i k j m : Int) : Bool := blK (n 0) (n 1) i k && blK (n 3) (n 2) i k && blK (blP (n 0) (n 1) i k) (blP (n 3) (n 2) i k) j m
def mxP (n : Nat → P3) (i k j m : Int) : P3 := if mxK n i k j m = true then blP (blP (n 0) (n 1) i k) (blP (n 3) (n 2) i k) j m else N3
/-- Lifted. -/
def lfK (p n : P3) (t h : Int) : Bool := wB p 65024 && wB n 1023 && decide (0 ≤ t ∧ t ≤ 255) && decide (0 ≤ h ∧ h ≤ 255)
def lfH (t h : Int) : Int := rnd (t * h) 255
def lfD (n : P3) (t h : Int) : P3 := rnP (scE n (lfH t h)) 1024
def lfP (p n : P3) (t h : Int) : P3 := if lfK p n t h = true then adE p (lfD n t h) else N3
theorem lfP_no {p n : P3} {t h : Int} (e : lfK p n t h = false) : lfP p n t h = N3 := by unfold lfP; rw [e]; rfl
theorem lfP_yes {p n : P3} {t h : Int} (e : lfK p n t h = true) : lfP p n t h = adE p (lfD n t h) := by unfold lfP; rw [if_pos e]
theorem lfK_yes {p n : P3} {t h : Int} (e : lfK p n t h = true) : wB p 65024 = true ∧ wB n 1023 = true ∧ (0 ≤ t ∧ t ≤ 255) ∧ 0 ≤ h ∧ h ≤ 255 := by
  unfold lfK at e
  simp only [Bool.and_eq_true] at e
  exact ⟨e.1.1.1, e.1.1.2, of_decide_eq_true e.1.2, of_decide_eq_true e.2⟩
theorem th_bd {t h : Int} (ht : 0 ≤ t ∧ t ≤ 255) (hh : 0 ≤ h ∧ h ≤ 255) : 0 ≤ t * h ∧ t * h ≤ h * 255 := by
  have a := Int.mul_nonneg ht.1 hh.1
  have b := Int.mul_le_mul_of_nonneg_right ht.2 hh.1
  rw [Int.mul_comm 255 h] at b
  exact ⟨a, b⟩
theorem lfH_bd {t h : Int} (ht : 0 ≤ t ∧ t ≤ 255) (hh : 0 ≤ h ∧ h ≤ 255) : 0 ≤ lfH t h ∧ lfH t h ≤ h := by
  have b := th_bd ht hh
  exact rnd_mid (by omega) (by omega) (by omega) b.2 (by omega)
theorem lf1_bd {x t h : Int} (hx : -1023 ≤ x ∧ x ≤ 1023) (ht : 0 ≤ t ∧ t ≤ 255) (hh : 0 ≤ h ∧ h ≤ 255) : -260865 ≤ x * lfH t h ∧ x * lfH t h ≤ 260865 ∧ -h * 1024 ≤ x * lfH t h ∧ x * lfH t h ≤ h * 1024 := by
  have b := lfH_bd ht hh
  have a1 := Int.mul_le_mul_of_nonneg_right hx.1 b.1
  have a2 := Int.mul_le_mul_of_nonneg_right hx.2 b.1
  omega
theorem lfD_bd {n : P3} {t h : Int} (hn : wB n 1023 = true) (ht : 0 ≤ t ∧ t ≤ 255) (hh : 0 ≤ h ∧ h ≤ 255) : (-h ≤ (lfD n t h).x ∧ (lfD n t h).x ≤ h) ∧ (-h ≤ (lfD n t h).y ∧ (lfD n t h).y ≤ h) ∧ -h ≤ (lfD n t h).z ∧ (lfD n t h).z ≤ h := by
  rw [wB_iff] at hn
  obtain ⟨_, n1, n2, n3⟩ := hn
  have a1 := lf1_bd n1 ht hh
  have a2 := lf1_bd n2 ht hh
  have a3 := lf1_bd n3 ht hh
  have g1 := rnd_mid (n := 1024) (s := n.x * lfH t h) (by omega) (by omega) a1.2.2.1 a1.2.2.2 (by omega)
  have g2 := rnd_mid (n := 1024) (s := n.y * lfH t h) (by omega) (by omega) a2.2.2.1 a2.2.2.2 (by omega)
  have g3 := rnd_mid (n := 1024) (s := n.z * lfH t h) (by omega) (by omega) a3.2.2.1 a3.2.2.2 (by omega)
  exact ⟨g1, g2, g3⟩
end Go.Proofs.Ytpaehkjnefgaiaa
namespace Go.Proofs.Ytpaehkjnefgaiaa
open Go.RowKit
set_option linter.unusedVariables false
set_option linter.unusedSimpArgs false
set_option linter.unnecessarySimpa false
set_option maxRecDepth 100000
end Go.Proofs.Ytpaehkjnefgaiaa
