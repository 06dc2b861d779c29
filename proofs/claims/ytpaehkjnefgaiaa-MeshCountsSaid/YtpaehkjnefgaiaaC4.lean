/- Package weave: what Weave answers, by the rates alone; the square that the document fixes. Contracts of vec's calls and the document's own, part 1: sums and products. Contracts of vec's calls and the document's own, part 2: boxes, bounds, rounding. Contracts of vec's calls and the document's own, part 3: bounds and rounding. Lines against edges and triangles, in whole numbers. No program is imported. Sums of weights, rounded: a cubic's weights, what they come to, and how a curve lies among its points. -/
import Derived.WalkKit
import Derived.Below
import Derived.Outline
import Derived.Lib.Hide
import Derived.WalkLawsBesides
import Derived.Test.YtpaehkjnefgaiaaProg
import Derived.Test.YtpaehkjnefgaiaaC0
import Derived.Test.YtpaehkjnefgaiaaC3
namespace Go.Proofs.Ytpaehkjnefgaiaa
open Go.RowKit
set_option linter.unusedVariables false
set_option linter.unusedSimpArgs false
set_option linter.unnecessarySimpa false
set_option maxRecDepth 100000
def rQ (q : Nat → Int) : Nat → Nat := fun k => (q k).toNat
theorem mxR_ext {r s : Nat → Nat} : ∀ n, (∀ k, k < n → r k = s k) → mxR r n = mxR s n
  | 0, _ => rfl
  | n + 1, h => by
    show max (mxR r n) (r n) = max (mxR s n) (s n)
    rw [mxR_ext n (fun k hk => h k (by omega)), h n (by omega)]
theorem spotsW_ext {r s : Nat → Nat} (h : ∀ k, k < 4 → r k = s k) : spotsW r = spotsW s := by
  unfold spotsW
  rw [mxR_ext 4 h]
  unfold spotsR edgesS upTo upTo upTo upTo upTo
  rw [h 0 (by omega), h 1 (by omega), h 2 (by omega), h 3 (by omega)]
theorem trisW_ext {r s : Nat → Nat} (h : ∀ k, k < 4 → r k = s k) : trisW r = trisW s := by
  unfold trisW
  rw [spotsW_ext h, mxR_ext 4 h]
  unfold trisR stripsS upTo upTo upTo upTo upTo
  rw [h 0 (by omega), h 1 (by omega), h 2 (by omega), h 3 (by omega)]
def WvB (W' : World) (q : Nat → Int) (e : Ending) : Prop :=
  (okQ q ∧ ∃ (A1 A2 : Option Addr) (c1 c2 : Nat), e = .returned (.tuple #[.slice A1 (spotsW (rQ q)).length c1, .slice A2 (trisW (rQ q)).length c2, .bool true]) ∧ (spotsW (rQ q)).length ≤ c1 ∧ (trisW (rQ q)).length ≤ c2 ∧ L3 W' A1 (spotsW (rQ q)) ∧ L3 W' A2 ((trisW (rQ q)).map trZ)) ∨
  (¬ okQ q ∧ e = .returned (.tuple #[.slice none 0 0, .slice none 0 0, .bool false]))
theorem WvB_of {W' : World} {q : Nat → Int} {e : Ending} (h : WvA W' q e spotsW trisW) : WvB W' q e := by
  rcases h with ⟨hok, r, A1, A2, c1, c2, h1, h2, h3, h4, h5, h6, h7⟩ | h
  · have hr : ∀ k, k < 4 → r k = rQ q k := fun k hk => by
      have := h1 k hk
      unfold rQ
      omega
    rw [spotsW_ext hr] at h3 h4 h6
    rw [trisW_ext hr] at h3 h5 h7
    exact .inl ⟨hok, A1, A2, c1, c2, h3, h4, h5, h6, h7⟩
  · exact .inr h
theorem weaveF (W : World) (q : Nat → Int) (hq : ∀ k, k < 4 → i64W (q k)) : Calls Try.prog 43 #[.agg (q4C q)] W fun e W' => Below W.heap.size W W' ∧ WvB W' q e ∧ WvFr W.heap.size e :=
  (weave_anyF W q hq).mono fun e W' ⟨h1, h2, h3⟩ => ⟨h1, WvB_of h2, h3⟩
theorem okQ_r {q : Nat → Int} (h : okQ q) : ∀ k, k < 4 → 1 ≤ rQ q k ∧ rQ q k ≤ 16 := fun k hk => by
  have := h k hk
  unfold rQ
  omega
theorem okQ_eq {q : Nat → Int} (h : okQ q) : ∀ k, k < 4 → q k = (rQ q k : Int) := fun k hk => by
  have := h k hk
  unfold rQ
  omega
theorem most_bd {r : Nat → Nat} (h : ∀ k, k < 4 → 1 ≤ r k ∧ r k ≤ 16) : 1 ≤ mxR r 4 ∧ mxR r 4 ≤ 16 := by
  have h1 := mxR_le 4 (fun k hk => (h k hk).2)
  have h0 := (h 3 (by omega)).1
  have : r 3 ≤ mxR r 4 := Nat.le_max_right _ _
  omega
theorem spotsW_len {r : Nat → Nat} (h : ∀ k, k < 4 → 1 ≤ r k ∧ r k ≤ 16) : (spotsW r).length = r 0 + r 1 + r 2 + r 3 + (mxR r 4 - 1) * (mxR r 4 - 1) := spots_len r _ (fun k hk => (h k hk).1)
theorem trisW_two {r : Nat → Nat} (h2 : 2 ≤ mxR r 4) : (trisW r).length = (mxR r 4 - 2) * ((mxR r 4 - 2) * 2) + (r 0 + r 1 + r 2 + r 3 + 4 * (mxR r 4 - 2)) := by
  unfold trisW
  rw [numT_len, tris_len r _ h2]
theorem trisW_one {r : Nat → Nat} (h1 : mxR r 4 = 1) : (trisW r).length = 2 := by
  unfold trisW
  rw [numT_len, h1]
  rfl
theorem spotsW_lt {r : Nat → Nat} (h : ∀ k, k < 4 → 1 ≤ r k ∧ r k ≤ 16) : (spotsW r).length ≤ 400 := by
  rw [spotsW_len h]
  obtain ⟨_, h2⟩ := most_bd h
  have : (mxR r 4 - 1) * (mxR r 4 - 1) ≤ 15 * 15 := Nat.mul_le_mul (by omega) (by omega)
  have := h 0 (by omega)
  have := h 1 (by omega)
  have := h 2 (by omega)
  have := h 3 (by omega)
  omega
theorem trisW_lt {r : Nat → Nat} (h : ∀ k, k < 4 → 1 ≤ r k ∧ r k ≤ 16) : (trisW r).length ≤ 600 := by
  obtain ⟨h1, h2⟩ := most_bd h
  by_cases e : mxR r 4 = 1
  · rw [trisW_one e]; omega
  · rw [trisW_two (by omega)]
    have : (mxR r 4 - 2) * ((mxR r 4 - 2) * 2) ≤ 14 * 28 := Nat.mul_le_mul (by omega) (by omega)
    have := h 0 (by omega)
    have := h 1 (by omega)
    have := h 2 (by omega)
    have := h 3 (by omega)
    omega
end Go.Proofs.Ytpaehkjnefgaiaa
namespace Go.Proofs.Ytpaehkjnefgaiaa
open Go.RowKit
set_option linter.unusedVariables false
set_option linter.unusedSimpArgs false

theorem vAdd_any (ax : Int) (ay : Int) (az : Int) (bx : Int) (by_ : Int) (bz : Int) :
    Gives Try.prog 35 #[.agg #[.int .i64 ax, .int .i64 ay, .int .i64 az], .agg #[.int .i64 bx, .int .i64 by_, .int .i64 bz]] (.agg #[.int .i64 (wrap64 (ax + bx)), .int .i64 (wrap64 (ay + by_)), .int .i64 (wrap64 (az + bz))]) := by
  refine Gives.mk fun w => ?_
  go_enter Try.func35, Try.ntmps35
  go_wp2
  refine bodyPost_ret (v := .agg #[.int .i64 (wrap64 (ax + bx)), .int .i64 (wrap64 (ay + by_)), .int .i64 (wrap64 (az + bz))]) (by simp [results, Try.results35, go_sem]) rfl ⟨rfl, (by repeat (first | exact Below.refl _ _ | refine bel_grow ?_ _ | refine bel_alloc ?_ _ | refine bel_set ?_ (by simp) _))⟩

theorem vSub_any (ax : Int) (ay : Int) (az : Int) (bx : Int) (by_ : Int) (bz : Int) :
    Gives Try.prog 34 #[.agg #[.int .i64 ax, .int .i64 ay, .int .i64 az], .agg #[.int .i64 bx, .int .i64 by_, .int .i64 bz]] (.agg #[.int .i64 (wrap64 (ax - bx)), .int .i64 (wrap64 (ay - by_)), .int .i64 (wrap64 (az - bz))]) := by
  refine Gives.mk fun w => ?_
  go_enter Try.func34, Try.ntmps34
  go_wp2
  refine bodyPost_ret (v := .agg #[.int .i64 (wrap64 (ax - bx)), .int .i64 (wrap64 (ay - by_)), .int .i64 (wrap64 (az - bz))]) (by simp [results, Try.results34, go_sem]) rfl ⟨rfl, (by repeat (first | exact Below.refl _ _ | refine bel_grow ?_ _ | refine bel_alloc ?_ _ | refine bel_set ?_ (by simp) _))⟩

theorem vScale_any (ax : Int) (ay : Int) (az : Int) (k : Int) :
    Gives Try.prog 90 #[.agg #[.int .i64 ax, .int .i64 ay, .int .i64 az], .int .i64 k] (.agg #[.int .i64 (wrap64 (ax * k)), .int .i64 (wrap64 (ay * k)), .int .i64 (wrap64 (az * k))]) := by
  refine Gives.mk fun w => ?_
  go_enter Try.func90, Try.ntmps90
  go_wp2
  refine bodyPost_ret (v := .agg #[.int .i64 (wrap64 (ax * k)), .int .i64 (wrap64 (ay * k)), .int .i64 (wrap64 (az * k))]) (by simp [results, Try.results90, go_sem]) rfl ⟨rfl, (by repeat (first | exact Below.refl _ _ | refine bel_grow ?_ _ | refine bel_alloc ?_ _ | refine bel_set ?_ (by simp) _))⟩

end Go.Proofs.Ytpaehkjnefgaiaa
namespace Go.Proofs.Ytpaehkjnefgaiaa
open Go.RowKit
set_option linter.unusedVariables false
set_option linter.unusedSimpArgs false
/-- Is a point within a box? -/
def inB (lx ly lz hx hy hz x y z : Int) : Bool := decide (lx ≤ x) && decide (x ≤ hx) && (decide (ly ≤ y) && decide (y ≤ hy)) && (decide (lz ≤ z) && decide (z ≤ hz))
theorem inB_iff (lx ly lz hx hy hz x y z : Int) : inB lx ly lz hx hy hz x y z = true ↔ (lx ≤ x ∧ x ≤ hx) ∧ (ly ≤ y ∧ y ≤ hy) ∧ lz ≤ z ∧ z ≤ hz := by
  unfold inB; simp; omega
theorem inB_no (lx ly lz hx hy hz x y z : Int) (h : ¬ ((lx ≤ x ∧ x ≤ hx) ∧ (ly ≤ y ∧ y ≤ hy) ∧ lz ≤ z ∧ z ≤ hz)) : inB lx ly lz hx hy hz x y z = false := by
  rw [← inB_iff] at h; simpa using h
theorem if_min (x y : Int) : (if y < x then y else x) = min x y := by rw [Int.min_def]; split <;> split <;> omega
theorem if_max (x y : Int) : (if x < y then y else x) = max x y := by rw [Int.max_def]; split <;> split <;> omega
attribute [go_sem] if_min if_max
theorem ret_bool {a b : Bool} (h : a = b) : Ending.returned (.bool a) = .returned (.bool b) := by rw [h]

theorem vHas_any (lx : Int) (ly : Int) (lz : Int) (hx : Int) (hy : Int) (hz : Int) (x : Int) (y : Int) (z : Int) :
    Gives Try.prog 18 #[.agg #[.int .i64 lx, .int .i64 ly, .int .i64 lz, .int .i64 hx, .int .i64 hy, .int .i64 hz], .agg #[.int .i64 x, .int .i64 y, .int .i64 z]] (.bool (inB lx ly lz hx hy hz x y z)) := by
  refine Gives.mk fun w => ?_
  go_enter Try.func18, Try.ntmps18
  go_wp2
  all_goals
    go_ret
    refine ⟨ret_bool ?_, (by repeat (first | exact Below.refl _ _ | refine bel_grow ?_ _ | refine bel_alloc ?_ _ | refine bel_set ?_ (by simp) _))⟩
    first | (symm; rw [inB_iff]; omega) | (symm; apply inB_no; omega) | (unfold inB; simp [*])

theorem vJoin_any (alx : Int) (aly : Int) (alz : Int) (ahx : Int) (ahy : Int) (ahz : Int) (blx : Int) (bly : Int) (blz : Int) (bhx : Int) (bhy : Int) (bhz : Int) :
    Gives Try.prog 62 #[.agg #[.int .i64 alx, .int .i64 aly, .int .i64 alz, .int .i64 ahx, .int .i64 ahy, .int .i64 ahz], .agg #[.int .i64 blx, .int .i64 bly, .int .i64 blz, .int .i64 bhx, .int .i64 bhy, .int .i64 bhz]] (.agg #[.int .i64 (min alx blx), .int .i64 (min aly bly), .int .i64 (min alz blz), .int .i64 (max ahx bhx), .int .i64 (max ahy bhy), .int .i64 (max ahz bhz)]) := by
  refine Gives.mk fun w => ?_
  go_enter Try.func62, Try.ntmps62
  go_wp2
  refine bodyPost_ret (v := .agg #[.int .i64 (min alx blx), .int .i64 (min aly bly), .int .i64 (min alz blz), .int .i64 (max ahx bhx), .int .i64 (max ahy bhy), .int .i64 (max ahz bhz)]) (by simp [results, Try.results62, go_sem]) rfl ⟨rfl, (by repeat (first | exact Below.refl _ _ | refine bel_grow ?_ _ | refine bel_alloc ?_ _ | refine bel_set ?_ (by simp) _))⟩

end Go.Proofs.Ytpaehkjnefgaiaa
namespace Go.Proofs.Ytpaehkjnefgaiaa
open Go.RowKit
set_option linter.unusedVariables false
set_option linter.unusedSimpArgs false
/-- Is each part within a bound? -/
def wiB (x y z m : Int) : Bool := decide (0 ≤ m) && inB (-m) (-m) (-m) m m m x y z
theorem wiB_iff (x y z m : Int) : wiB x y z m = true ↔ 0 ≤ m ∧ (-m ≤ x ∧ x ≤ m) ∧ (-m ≤ y ∧ y ≤ m) ∧ -m ≤ z ∧ z ≤ m := by
  unfold wiB; simp [inB_iff]
theorem wiB_no (x y z m : Int) (h : ¬ (0 ≤ m ∧ (-m ≤ x ∧ x ≤ m) ∧ (-m ≤ y ∧ y ≤ m) ∧ -m ≤ z ∧ z ≤ m)) : wiB x y z m = false := by
  rw [← wiB_iff] at h; simpa using h
theorem wiB_in (x y z m : Int) (h : 0 ≤ m) : inB (-m) (-m) (-m) m m m x y z = wiB x y z m := by
  unfold wiB; simp [h]
theorem vWithin_any (x y z m : Int) (m1 : m ≤ 9223372036854775807) :
    Gives Try.prog 19 #[.agg #[.int .i64 x, .int .i64 y, .int .i64 z], .int .i64 m] (.bool (wiB x y z m)) := by
  refine Gives.mk fun w => ?_
  by_cases h : m < 0
  · have e : Ending.returned (.bool (wiB x y z m)) = .returned (.bool false) := ret_bool (wiB_no _ _ _ _ (by omega))
    rw [e]
    clear e
    go_enter Try.func19, Try.ntmps19
    go_wp2
    go_ret
    exact ⟨rfl, (by repeat (first | exact Below.refl _ _ | refine bel_grow ?_ _ | refine bel_alloc ?_ _ | refine bel_set ?_ (by simp) _))⟩
  · have h0 : 0 ≤ m := by omega
    have k := vHas_any (-m) (-m) (-m) m m m x y z
    rw [wiB_in x y z m h0] at k
    clear h
    go_enter Try.func19, Try.ntmps19
    go_wp2_with (go_at_call 18; ((with_reducible refine (k.at_ _).mono ?_); rintro e w' ⟨rfl, xg, rfl⟩))
    go_ret
    exact ⟨rfl, (by repeat (first | exact Below.refl _ _ | refine bel_grow ?_ _ | refine bel_alloc ?_ _ | refine bel_set ?_ (by simp) _))⟩
/-- The whole number nearest to n/d, the greater one of two; 0 outside the bounds. -/
def rnd (n d : Int) : Int := if n < -2305843009213693952 ∨ 2305843009213693952 < n ∨ d < 1 ∨ 2305843009213693952 < d then 0 else (2 * n + d) / (2 * d)
theorem rnd_out {n d : Int} (h : n < -2305843009213693952 ∨ 2305843009213693952 < n ∨ d < 1 ∨ 2305843009213693952 < d) : rnd n d = 0 := by unfold rnd; rw [if_pos h]
theorem rnd_in {n d : Int} (h : ¬ (n < -2305843009213693952 ∨ 2305843009213693952 < n ∨ d < 1 ∨ 2305843009213693952 < d)) : rnd n d = (2 * n + d) / (2 * d) := by unfold rnd; rw [if_neg h]
theorem floor_mk {a b q r : Int} (hb : 0 < b) (h0 : 0 ≤ r) (h1 : r < b) (e : a = q * b + r) : a / b = q := by
  subst e
  rw [Int.add_comm, Int.add_mul_ediv_right _ _ (by omega), Int.ediv_eq_zero_of_lt h0 h1]; omega
/-- The quotient toward 0 and what is left. -/
theorem tq (a b : Int) (hb : 0 < b) : ∃ q r : Int, a.tdiv b = q ∧ a.tmod b = r ∧ a = q * b + r ∧ -b < r ∧ r < b ∧ (0 ≤ a → 0 ≤ r) ∧ (a ≤ 0 → r ≤ 0) ∧ (0 ≤ a → 0 ≤ q ∧ q ≤ a) ∧ (a ≤ 0 → a ≤ q ∧ q ≤ 0) := by
  refine ⟨a.tdiv b, a.tmod b, rfl, rfl, ?_, ?_, ?_, ?_, ?_, ?_, ?_⟩
  · have := Int.tmod_add_mul_tdiv a b; rw [Int.mul_comm] at this; omega
  · have := Int.lt_tmod_of_pos a hb; omega
  · exact Int.tmod_lt_of_pos a hb
  · intro h; exact Int.tmod_nonneg b h
  · intro h; have := Int.tmod_nonneg b (a := -a) (by omega); rw [Int.neg_tmod] at this; omega
  · intro h
    refine ⟨Int.tdiv_nonneg h (by omega), ?_⟩
    rw [Int.tdiv_eq_ediv_of_nonneg h]; exact Int.ediv_le_self b h
  · intro h
    have h1 := Int.tdiv_nonneg (a := -a) (b := b) (by omega) (by omega)
    have h2 : (-a).tdiv b ≤ -a := by rw [Int.tdiv_eq_ediv_of_nonneg (by omega)]; exact Int.ediv_le_self b (by omega)
    rw [Int.neg_tdiv] at h1 h2
    omega
theorem ret_i64 {a b : Int} (h : a = b) : Ending.returned (.int .i64 a) = .returned (.int .i64 b) := by rw [h]
theorem vRound_any (n d : Int) (n0 : -9223372036854775808 ≤ n) (n1 : n ≤ 9223372036854775807) (d0 : -9223372036854775808 ≤ d) (d1 : d ≤ 9223372036854775807) :
    Gives Try.prog 88 #[.int .i64 n, .int .i64 d] (.int .i64 (rnd n d)) := by
  refine Gives.mk fun w => ?_
  by_cases h : n < -2305843009213693952 ∨ 2305843009213693952 < n ∨ d < 1 ∨ 2305843009213693952 < d
  · rw [rnd_out h]
    go_enter Try.func88, Try.ntmps88
    go_wp2
    all_goals first | (go_ret; exact ⟨rfl, (by repeat (first | exact Below.refl _ _ | refine bel_grow ?_ _ | refine bel_alloc ?_ _ | refine bel_set ?_ (by simp) _))⟩) | (exfalso; omega)
  · rw [rnd_in h]
    have a1 : -2305843009213693952 ≤ n := by omega
    have a2 : n ≤ 2305843009213693952 := by omega
    have a3 : 1 ≤ d := by omega
    have a4 : d ≤ 2305843009213693952 := by omega
    obtain ⟨q, r, e1, e2, e3, b1, b2, b3, b4, b5, b6⟩ := tq (2 * n + d) (2 * d) (by omega)
    have fin : Hid (∀ u, (r < 0 → u = q - 1) → (¬ r < 0 → u = q) → u = (2 * n + d) / (2 * d)) := by
      intro u h1 h2
      symm
      by_cases hr : r < 0
      · rw [h1 hr]; exact floor_mk (r := r + 2 * d) (by omega) (by omega) (by omega) (by rw [Int.sub_mul]; omega)
      · rw [h2 hr]; exact floor_mk (r := r) (by omega) (by omega) (by omega) e3
    have q0 : -9223372036854775808 < q ∧ q ≤ 9223372036854775807 := by rcases Int.le_total 0 (2 * n + d) with h | h <;> omega
    clear h e3 b3 b4 b5 b6 b1 b2 n0 n1 d0 d1
    go_enter Try.func88, Try.ntmps88
    go_wp2
    all_goals
      go_ret
      refine ⟨ret_i64 (fin.out _ ?_ ?_), (by repeat (first | exact Below.refl _ _ | refine bel_grow ?_ _ | refine bel_alloc ?_ _ | refine bel_set ?_ (by simp) _))⟩ <;> intro _ <;> omega

end Go.Proofs.Ytpaehkjnefgaiaa
namespace Go.Proofs.Ytpaehkjnefgaiaa
set_option linter.unusedVariables false
set_option linter.unusedSimpArgs false
structure P3 where
  x : Int
  y : Int
  z : Int
def sb (a b : P3) : P3 := ⟨a.x - b.x, a.y - b.y, a.z - b.z⟩
def cr (a b : P3) : P3 := ⟨a.y * b.z - a.z * b.y, a.z * b.x - a.x * b.z, a.x * b.y - a.y * b.x⟩
def nrm (a b c : P3) : P3 := cr (sb b a) (sb c a)
/-- Within the bounds of points, of directions. -/
def InP (m : Int) (a : P3) : Prop := (-m ≤ a.x ∧ a.x ≤ m) ∧ (-m ≤ a.y ∧ a.y ≤ m) ∧ -m ≤ a.z ∧ a.z ≤ m
end Go.Proofs.Ytpaehkjnefgaiaa
namespace Go.Proofs.Ytpaehkjnefgaiaa
open Go.RowKit
set_option linter.unusedVariables false
set_option linter.unusedSimpArgs false
def wt (i n : Int) (k : Nat) : Int := match k with |0 => (n-i)*(n-i)*(n-i) | 1 => 3*(n-i)*(n-i)*i | 2 => 3*(n-i)*i*i | _ => i*i*i
def sumW (u x : Nat → Int) : Nat → Int
  | 0 => 0
  | k+1 => sumW u x k + x k * u k
def totW (u : Nat → Int) : Nat → Int
  | 0 => 0
  | k+1 => totW u k + u k
theorem sumW_bd {u x : Nat → Int} {lo hi : Int} : ∀ (m : Nat), (∀ k, k < m → 0 ≤ u k) → (∀ k, k < m → lo ≤ x k ∧ x k ≤ hi) → lo * totW u m ≤ sumW u x m ∧ sumW u x m ≤ hi * totW u m
  | 0, _, _ => by simp [sumW, totW]
  | m + 1, hu, hx => by
    obtain ⟨a, b⟩ := sumW_bd m (fun k h => hu k (by omega)) (fun k h => hx k (by omega))
    have h1 := Int.mul_le_mul_of_nonneg_right (hx m (by omega)).1 (hu m (by omega))
    have h2 := Int.mul_le_mul_of_nonneg_right (hx m (by omega)).2 (hu m (by omega))
    simp only [sumW, totW, Int.mul_add]
    omega
theorem wt_pos {i n : Int} (h0 : 0 ≤ i) (h1 : i ≤ n) (k : Nat) : 0 ≤ wt i n k := by
  have a : 0 ≤ n - i := by omega
  unfold wt; split
  · exact Int.mul_nonneg (Int.mul_nonneg a a) a
  · exact Int.mul_nonneg (Int.mul_nonneg (Int.mul_nonneg (by omega) a) a) h0
  · exact Int.mul_nonneg (Int.mul_nonneg (Int.mul_nonneg (by omega) a) h0) h0
  · exact Int.mul_nonneg (Int.mul_nonneg h0 h0) h0
theorem wt_tot (i n : Int) : totW (wt i n) 4 = n * n * n := by simp only [totW, wt]; grind
theorem cube_bd {n : Int} (h0 : 1 ≤ n) (h1 : n ≤ 16) : 1 ≤ n * n * n ∧ n * n * n ≤ 4096 := by
  have a : n = 1 ∨ n = 2 ∨ n = 3 ∨ n = 4 ∨ n = 5 ∨ n = 6 ∨ n = 7 ∨ n = 8 ∨ n = 9 ∨ n = 10 ∨ n = 11 ∨ n = 12 ∨ n = 13 ∨ n = 14 ∨ n = 15 ∨ n = 16 := by omega
  rcases a with rfl | rfl | rfl | rfl | rfl | rfl | rfl | rfl | rfl | rfl | rfl | rfl | rfl | rfl | rfl | rfl <;> omega
def wt2 (i n j m : Int) (k : Nat) : Int := wt i n (k % 4) * wt j m (k / 4)
theorem wt2_pos {i n j m : Int} (h0 : 0 ≤ i) (h1 : i ≤ n) (g0 : 0 ≤ j) (g1 : j ≤ m) (k : Nat) : 0 ≤ wt2 i n j m k := Int.mul_nonneg (wt_pos h0 h1 _) (wt_pos g0 g1 _)
theorem wt2_tot (i n j m : Int) : totW (wt2 i n j m) 16 = n * n * n * (m * m * m) := by
  have e : totW (wt2 i n j m) 16 = totW (wt i n) 4 * totW (wt j m) 4 := by
    simp only [totW, wt2, Nat.reduceMod, Nat.reduceDiv]; generalize wt i n 0 = a0; generalize wt i n 1 = a1; generalize wt i n 2 = a2; generalize wt i n 3 = a3; generalize wt j m 0 = b0; generalize wt j m 1 = b1; generalize wt j m 2 = b2; generalize wt j m 3 = b3; grind
  rw [e, wt_tot, wt_tot]
theorem totW_le {u : Nat → Int} {m : Nat} (hu : ∀ k, k < m → 0 ≤ u k) : ∀ k, k ≤ m → 0 ≤ totW u k ∧ totW u k ≤ totW u m := by
  induction m with
  | zero => intro k h; obtain rfl : k = 0 := by omega
            simp [totW]
  | succ m ih =>
    intro k h
    have a := ih (fun k hk => hu k (by omega))
    have b := hu m (by omega)
    by_cases hk : k = m + 1
    · subst hk; have := a m (by omega); simp only [totW]; omega
    · have := a k (by omega); simp only [totW]; omega
theorem one_le {u : Nat → Int} {m : Nat} (hu : ∀ k, k < m → 0 ≤ u k) (k : Nat) (hk : k < m) : u k ≤ totW u m := by
  have a := totW_le hu k (by omega)
  have b := totW_le hu (k + 1) (by omega)
  simp only [totW] at b
  omega
/-- As many as a sum of weights may come to. -/
def smB (n d : Int) : Prop := (-1099511627776 ≤ n ∧ n ≤ 1099511627776) ∧ 1 ≤ d ∧ d ≤ 16777216
theorem rnd_sm {n d : Int} (h : smB n d) : rnd n d = (2 * n + d) / (2 * d) := rnd_in (by unfold smB at h; omega)
theorem rnd_mean {s d lo hi : Int} (h : smB s d) (h1 : lo * d ≤ s) (h2 : s ≤ hi * d) : lo ≤ rnd s d ∧ rnd s d ≤ hi := by
  rw [rnd_sm h]
  obtain ⟨_, hd, _⟩ := h
  refine ⟨?_, ?_⟩
  · rw [Int.le_ediv_iff_mul_le (by omega)]
    have : lo * (2 * d) = 2 * (lo * d) := by grind
    omega
  · apply Int.le_of_lt_add_one
    rw [Int.ediv_lt_iff_lt_mul (by omega)]
    have : (hi + 1) * (2 * d) = 2 * (hi * d) + 2 * d := by grind
    omega
end Go.Proofs.Ytpaehkjnefgaiaa
