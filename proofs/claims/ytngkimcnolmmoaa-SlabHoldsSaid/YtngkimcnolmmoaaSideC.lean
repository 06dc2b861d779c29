/- Of a tetrahedron a line meets as many from the front as from the back. -/
import Derived.Test.YtngkimcnolmmoaaMSideB
namespace Go.Proofs.Ytngkimcnolmmoaa
set_option linter.unusedVariables false
set_option linter.unusedSimpArgs false
theorem sgn_mul (a b : Int) : sgn (a * b) = sgn a * sgn b := by
  rcases sgn_cases a with ⟨h1, e1⟩ | ⟨h1, e1⟩ | ⟨h1, e1⟩ <;> rcases sgn_cases b with ⟨h2, e2⟩ | ⟨h2, e2⟩ | ⟨h2, e2⟩ <;> rw [e1, e2]
  · have := Int.mul_pos_of_neg_of_neg h1 h2; have := sgn_cases (a * b); omega
  · rw [h2, Int.mul_zero]; rfl
  · have := Int.mul_neg_of_neg_of_pos h1 h2; have := sgn_cases (a * b); omega
  · rw [h1, Int.zero_mul]; rfl
  · rw [h1, Int.zero_mul]; rfl
  · rw [h1, Int.zero_mul]; rfl
  · have := Int.mul_neg_of_pos_of_neg h1 h2; have := sgn_cases (a * b); omega
  · rw [h2, Int.mul_zero]; rfl
  · have := Int.mul_pos h1 h2; have := sgn_cases (a * b); omega
theorem sgn_zero {n : Int} (h : sgn n = 0) : n = 0 := by have := sgn_cases n; omega
theorem sgn_three (n : Int) : sgn n ∈ ([-1, 0, 1] : List Int) := by
  have := sgn_cases n
  simp only [List.mem_cons, List.not_mem_nil, or_false]; omega
/-- Passed on no side, an edge lies along the line. -/
theorem FF_along {o d a b : P3} (ho : Sp o) (hd : Dr d) (ha : Sp a) (hb : Sp b) (h : FF o d a b big = 0) : turn o d a b = 0 ∧ (grw d a b).x = 0 ∧ (grw d a b).y = 0 ∧ (grw d a b).z = 0 := by
  have e := pS_eq ho hd ha hb
  rw [h] at e
  have e2 : orI (turn o d a b) (grw d a b).x (grw d a b).y (grw d a b).z = 0 := sgn_zero (by unfold pS at e; rw [e]; rfl)
  unfold orI at e2
  split at e2
  · omega
  · split at e2
    · omega
    · split at e2 <;> omega
theorem FF_same {o d a b c : P3} (k : Int) (h1 : (grw d a b).x = 0) (h2 : (grw d a b).y = 0) (h3 : (grw d a b).z = 0) : FF o d a c k = FF o d b c k := by
  have e : FF o d a c k - FF o d b c k = -((c.x - o.x) * (grw d a b).x + (c.y - o.y) * (grw d a b).y + (c.z - o.z) * (grw d a b).z) * (k * k * k) + (grw d a b).x * (k * k) + (grw d a b).y * k + (grw d a b).z := by
    unfold FF turn grw dt cr sb; simp only; grind
  rw [h1, h2, h3] at e
  have : FF o d a c k - FF o d b c k = 0 := by rw [e]; grind
  omega
theorem FF_far {o d a b : P3} (ho : Sp o) (hd : Dr d) (ha : Sp a) (hb : Sp b) (h : FF o d a b big = 0) (c : P3) : FF o d a c big = FF o d b c big := by
  obtain ⟨_, h1, h2, h3⟩ := FF_along ho hd ha hb h
  exact FF_same _ h1 h2 h3
/-- Plücker's relation, of the line moved. -/
theorem brk (d p q r s : P3) : dt d (cr p q) * dt d (cr r s) - dt d (cr p r) * dt d (cr q s) + dt d (cr p s) * dt d (cr q r) = 0 := by
  unfold dt cr; simp only; grind
def up (o a : P3) (k : Int) : P3 := ⟨k * k * k * (a.x - o.x) - k * k, k * k * k * (a.y - o.y) - k, k * k * k * (a.z - o.z) - 1⟩
theorem FF_up (o d a b : P3) (k : Int) : dt d (cr (up o a k) (up o b k)) = k * k * k * FF o d a b k := by
  unfold FF turn grw up dt cr sb; simp only; grind
theorem FF_brk (o d a b c p : P3) (k : Int) (hk : 0 < k) : FF o d a b k * FF o d c p k - FF o d a c k * FF o d b p k + FF o d a p k * FF o d b c k = 0 := by
  have h := brk d (up o a k) (up o b k) (up o c k) (up o p k)
  simp only [FF_up] at h
  generalize FF o d a b k = A at *
  generalize FF o d c p k = B at *
  generalize FF o d a c k = C at *
  generalize FF o d b p k = D at *
  generalize FF o d a p k = E at *
  generalize FF o d b c k = F at *
  have e : (k * k * k) * (k * k * k) * (A * B - C * D + E * F) = 0 := by rw [← h]; grind
  have hp : 0 < (k * k * k) * (k * k * k) := Int.mul_pos (Int.mul_pos (Int.mul_pos hk hk) hk) (Int.mul_pos (Int.mul_pos hk hk) hk)
  rcases Int.mul_eq_zero.1 e with h' | h'
  · omega
  · exact h'
/-- The six edges' sides as a closed tetrahedron may have them. -/
def okS (x1 x2 x3 y1 y2 z : Int) : Bool :=
  !(decide (0 ≤ x1 * z) && decide (0 ≤ -(x2 * y2)) && decide (0 ≤ x3 * y1) && decide (0 < x1 * z + -(x2 * y2) + x3 * y1)) &&
  !(decide (x1 * z ≤ 0) && decide (-(x2 * y2) ≤ 0) && decide (x3 * y1 ≤ 0) && decide (x1 * z + -(x2 * y2) + x3 * y1 < 0)) &&
  (x1 != 0 || (x2 == y1 && x3 == y2)) && (x2 != 0 || (x1 == -y1 && x3 == z)) && (x3 != 0 || (x1 == -y2 && x2 == -z)) &&
  (y1 != 0 || (x1 == x2 && y2 == z)) && (y2 != 0 || (x1 == x3 && y1 == -z)) && (z != 0 || (x2 == x3 && y1 == y2))
theorem all_okS : ∀ x1 ∈ ([-1, 0, 1] : List Int), ∀ x2 ∈ ([-1, 0, 1] : List Int), ∀ x3 ∈ ([-1, 0, 1] : List Int), ∀ y1 ∈ ([-1, 0, 1] : List Int), ∀ y2 ∈ ([-1, 0, 1] : List Int), ∀ z ∈ ([-1, 0, 1] : List Int),
    okS x1 x2 x3 y1 y2 z = true → sd3 (-x2) x1 y1 + sd3 (-x3) x2 z + sd3 (-x1) x3 (-y2) + sd3 (-y1) y2 (-z) = 0 := by decide +kernel
theorem closed {o d a b c p : P3} (ho : Sp o) (hd : Dr d) (ha : Sp a) (hb : Sp b) (hc : Sp c) (hp : Sp p) :
    allS o d a b c + allS o d a c p + allS o d a p b + allS o d b p c = 0 := by
  have hk := FF_brk o d a b c p big (by decide)
  have z1 := fun h => And.intro (FF_far ho hd ha hb h c) (FF_far ho hd ha hb h p)
  have z2 := fun h => And.intro (FF_far ho hd ha hc h b) (FF_far ho hd ha hc h p)
  have z3 := fun h => And.intro (FF_far ho hd ha hp h b) (FF_far ho hd ha hp h c)
  have z4 := fun h => And.intro (FF_far ho hd hb hc h a) (FF_far ho hd hb hc h p)
  have z5 := fun h => And.intro (FF_far ho hd hb hp h a) (FF_far ho hd hb hp h c)
  have z6 := fun h => And.intro (FF_far ho hd hc hp h a) (FF_far ho hd hc hp h b)
  rw [FF_turned o d b c] at z2
  rw [FF_turned o d b p, FF_turned o d c p] at z3
  rw [FF_turned o d a b, FF_turned o d a c] at z4
  rw [FF_turned o d a b, FF_turned o d a p, FF_turned o d c p] at z5
  rw [FF_turned o d a c, FF_turned o d a p, FF_turned o d b c, FF_turned o d b p] at z6
  unfold allS
  rw [pS_turned o d a c, pS_turned o d a p, pS_turned o d a b, pS_turned o d b c, pS_turned o d b p, pS_turned o d c p]
  rw [pS_eq ho hd ha hb, pS_eq ho hd ha hc, pS_eq ho hd ha hp, pS_eq ho hd hb hc, pS_eq ho hd hb hp, pS_eq ho hd hc hp]
  generalize FF o d a b big = x1 at *
  generalize FF o d a c big = x2 at *
  generalize FF o d a p big = x3 at *
  generalize FF o d b c big = y1 at *
  generalize FF o d b p big = y2 at *
  generalize FF o d c p big = z at *
  refine all_okS _ (sgn_three x1) _ (sgn_three x2) _ (sgn_three x3) _ (sgn_three y1) _ (sgn_three y2) _ (sgn_three z) ?_
  have m1 := sgn_mul x1 z
  have m2 := sgn_mul x2 y2
  have m3 := sgn_mul x3 y1
  unfold okS
  rw [← m1, ← m2, ← m3]
  have c1 := sgn_cases (x1 * z)
  have c2 := sgn_cases (x2 * y2)
  have c3 := sgn_cases (x3 * y1)
  have n0 : sgn (-z) = -sgn z := sgn_neg z
  have n1 : sgn (-y1) = -sgn y1 := sgn_neg y1
  have n2 : sgn (-y2) = -sgn y2 := sgn_neg y2
  simp only [Bool.and_eq_true, Bool.not_eq_true', Bool.or_eq_true, bne_iff_ne, ne_eq, beq_iff_eq, Bool.and_eq_false_iff, decide_eq_false_iff_not]
  refine ⟨⟨⟨⟨⟨⟨⟨?_, ?_⟩, ?_⟩, ?_⟩, ?_⟩, ?_⟩, ?_⟩, ?_⟩
  · omega
  · omega
  · by_cases h : x1 = 0
    · obtain ⟨h1, h2⟩ := z1 h; right; rw [h1, h2]; exact ⟨rfl, rfl⟩
    · left; intro h'; exact h (sgn_zero h')
  · by_cases h : x2 = 0
    · obtain ⟨h1, h2⟩ := z2 h; right; rw [h1, h2, n1]; exact ⟨rfl, rfl⟩
    · left; intro h'; exact h (sgn_zero h')
  · by_cases h : x3 = 0
    · obtain ⟨h1, h2⟩ := z3 h; right; rw [h1, h2, n2, n0]; exact ⟨rfl, rfl⟩
    · left; intro h'; exact h (sgn_zero h')
  · by_cases h : y1 = 0
    · obtain ⟨h1, h2⟩ := z4 h; right; rw [show x1 = x2 by omega, h2]; exact ⟨rfl, rfl⟩
    · left; intro h'; exact h (sgn_zero h')
  · by_cases h : y2 = 0
    · obtain ⟨h1, h2⟩ := z5 h; right; rw [show x1 = x3 by omega, h2, n0]; exact ⟨rfl, rfl⟩
    · left; intro h'; exact h (sgn_zero h')
  · by_cases h : z = 0
    · obtain ⟨h1, h2⟩ := z6 h; right; rw [show x2 = x3 by omega, show y1 = y2 by omega]; exact ⟨rfl, rfl⟩
    · left; intro h'; exact h (sgn_zero h')
/-- Met just where all three edges are passed on one side. -/
theorem allS_sd {o d a b c : P3} : allS o d a b c ≠ 0 → pS o d a b = allS o d a b c ∧ pS o d b c = allS o d a b c ∧ pS o d c a = allS o d a b c := by
  unfold allS sd3
  by_cases h : pS o d a b = pS o d c a ∧ pS o d b c = pS o d c a
  · rw [if_pos h]; intro _; omega
  · rw [if_neg h]; intro h; exact absurd rfl h
theorem allS_stp {o d a b c : P3} (ho : Sp o) (hd : Dr d) (ha : Sp a) (hb : Sp b) (hc : Sp c) (h : allS o d a b c ≠ 0) : sgn (stp d a b c) = allS o d a b c := by
  obtain ⟨h1, h2, h3⟩ := allS_sd h
  have := all_step ho hd ha hb hc (by rw [h1, h2]) (by rw [h2, h3]) (by rw [h1]; exact h)
  rw [h1] at this
  exact this
theorem pS_three (o d a b : P3) : pS o d a b = -1 ∨ pS o d a b = 0 ∨ pS o d a b = 1 := by
  unfold pS; have := sgn_cases (orI (turn o d a b) (grw d a b).x (grw d a b).y (grw d a b).z); omega
theorem allS_three (o d a b c : P3) : allS o d a b c = -1 ∨ allS o d a b c = 0 ∨ allS o d a b c = 1 := by
  by_cases h : allS o d a b c = 0
  · omega
  · have := (allS_sd h).1; have := pS_three o d a b; omega
theorem hK_sd {o d a b c : P3} (h : bdB o d a b c = true) : hK o d a b c = decide (allS o d a b c ≠ 0) := by
  rw [(h_in h).2.2.2.1]
  obtain ⟨ho, hd, ha, hb, hc⟩ := bdB_in h
  unfold mK
  refine decide_eq_decide.2 ⟨fun h => h.2, fun h => ⟨fun h0 => ?_, h⟩⟩
  have := allS_stp ho hd ha hb hc h
  rw [h0] at this
  exact h this.symm
theorem hF_sd {o d a b c : P3} (h : bdB o d a b c = true) : hF o d a b c = decide (allS o d a b c < 0) := by
  rw [(h_in h).2.2.1]
  obtain ⟨ho, hd, ha, hb, hc⟩ := bdB_in h
  unfold mF
  refine decide_eq_decide.2 ⟨fun h => h.2.2, fun h => ⟨fun h0 => ?_, by omega, h⟩⟩
  have := allS_stp ho hd ha hb hc (by omega)
  rw [h0] at this
  have e : sgn 0 = 0 := rfl
  omega
end Go.Proofs.Ytngkimcnolmmoaa
