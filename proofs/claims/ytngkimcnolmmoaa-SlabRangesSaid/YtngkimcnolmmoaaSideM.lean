/- Lines against edges and triangles, in whole numbers. No program is imported. -/
namespace Go.Proofs.Ytngkimcnolmmoaa
set_option linter.unusedVariables false
set_option linter.unusedSimpArgs false
structure P3 where
  x : Int
  y : Int
  z : Int
def dt (a b : P3) : Int := a.x * b.x + a.y * b.y + a.z * b.z
def sb (a b : P3) : P3 := ⟨a.x - b.x, a.y - b.y, a.z - b.z⟩
def cr (a b : P3) : P3 := ⟨a.y * b.z - a.z * b.y, a.z * b.x - a.x * b.z, a.x * b.y - a.y * b.x⟩
def turn (o d a b : P3) : Int := dt d (cr (sb a o) (sb b o))
def grw (d a b : P3) : P3 := cr (sb a b) d
def nrm (a b c : P3) : P3 := cr (sb b a) (sb c a)
def sgn (n : Int) : Int := if n < 0 then -1 else if 0 < n then 1 else 0
def orI (t x y z : Int) : Int := if t ≠ 0 then t else if x ≠ 0 then x else if y ≠ 0 then y else z
/-- The side on which a line passes an edge. -/
def pS (o d a b : P3) : Int := sgn (orI (turn o d a b) (grw d a b).x (grw d a b).y (grw d a b).z)
/-- The same as one number's sign, the origin moved by 1/k, 1/kk, 1/kkk. -/
def FF (o d a b : P3) (k : Int) : Int := turn o d a b * (k * k * k) + (grw d a b).x * (k * k) + (grw d a b).y * k + (grw d a b).z
def big : Int := 1152921504606846976
/-- Within the bounds of points, of directions. -/
def InP (m : Int) (a : P3) : Prop := (-m ≤ a.x ∧ a.x ≤ m) ∧ (-m ≤ a.y ∧ a.y ≤ m) ∧ -m ≤ a.z ∧ a.z ≤ m
theorem mul_bd {a b m n : Int} (ha : -m ≤ a ∧ a ≤ m) (hb : -n ≤ b ∧ b ≤ n) : -(m * n) ≤ a * b ∧ a * b ≤ m * n := by
  have h1 : 0 ≤ (m - a) * (n - b) := Int.mul_nonneg (by omega) (by omega)
  have h2 : 0 ≤ (m + a) * (n + b) := Int.mul_nonneg (by omega) (by omega)
  have h3 : 0 ≤ (m - a) * (n + b) := Int.mul_nonneg (by omega) (by omega)
  have h4 : 0 ≤ (m + a) * (n - b) := Int.mul_nonneg (by omega) (by omega)
  have e1 : (m - a) * (n - b) = m * n - m * b - a * n + a * b := by grind
  have e2 : (m + a) * (n + b) = m * n + m * b + a * n + a * b := by grind
  have e3 : (m - a) * (n + b) = m * n + m * b - a * n - a * b := by grind
  have e4 : (m + a) * (n - b) = m * n - m * b + a * n - a * b := by grind
  omega
theorem sb_in {a b : P3} {m : Int} (ha : InP m a) (hb : InP m b) : InP (m + m) (sb a b) := by
  unfold InP at *; unfold sb; simp only; omega
theorem cr_in {a b : P3} {m n : Int} (ha : InP m a) (hb : InP n b) : InP (m * n + m * n) (cr a b) := by
  obtain ⟨a1, a2, a3⟩ := ha
  obtain ⟨b1, b2, b3⟩ := hb
  have h1 := mul_bd a2 b3
  have h2 := mul_bd a3 b2
  have h3 := mul_bd a3 b1
  have h4 := mul_bd a1 b3
  have h5 := mul_bd a1 b2
  have h6 := mul_bd a2 b1
  unfold InP cr; simp only; omega
theorem dt_in {a b : P3} {m n : Int} (ha : InP m a) (hb : InP n b) : -(m * n + m * n + m * n) ≤ dt a b ∧ dt a b ≤ m * n + m * n + m * n := by
  obtain ⟨a1, a2, a3⟩ := ha
  obtain ⟨b1, b2, b3⟩ := hb
  have h1 := mul_bd a1 b1
  have h2 := mul_bd a2 b2
  have h3 := mul_bd a3 b3
  unfold dt; omega
def Sp (a : P3) : Prop := InP 65536 a
def Dr (a : P3) : Prop := InP 32768 a
theorem grw_in {d a b : P3} (hd : Dr d) (ha : Sp a) (hb : Sp b) : InP 8589934592 (grw d a b) := cr_in (sb_in ha hb) hd
theorem turn_in {o d a b : P3} (ho : Sp o) (hd : Dr d) (ha : Sp a) (hb : Sp b) : -3377699720527872 ≤ turn o d a b ∧ turn o d a b ≤ 3377699720527872 :=
  dt_in hd (cr_in (sb_in ha ho) (sb_in hb ho))
theorem nrm_in {a b c : P3} (ha : Sp a) (hb : Sp b) (hc : Sp c) : InP 34359738368 (nrm a b c) := cr_in (sb_in hb ha) (sb_in hc ha)
theorem far_in {o a b c : P3} (ho : Sp o) (ha : Sp a) (hb : Sp b) (hc : Sp c) : -13510798882111488 ≤ dt (nrm a b c) (sb a o) ∧ dt (nrm a b c) (sb a o) ≤ 13510798882111488 :=
  dt_in (nrm_in ha hb hc) (sb_in ha ho)
theorem step_in {d a b c : P3} (hd : Dr d) (ha : Sp a) (hb : Sp b) (hc : Sp c) : -3377699720527872 ≤ dt (nrm a b c) d ∧ dt (nrm a b c) d ≤ 3377699720527872 :=
  dt_in (nrm_in ha hb hc) hd
theorem sgn_cases (n : Int) : (n < 0 ∧ sgn n = -1) ∨ (n = 0 ∧ sgn n = 0) ∨ (0 < n ∧ sgn n = 1) := by
  unfold sgn; split <;> (try split) <;> omega
theorem sgn_neg (n : Int) : sgn (-n) = -sgn n := by
  have := sgn_cases n; have := sgn_cases (-n); omega
theorem lex_sgn {t x y z : Int} (hx : -8589934592 ≤ x ∧ x ≤ 8589934592) (hy : -8589934592 ≤ y ∧ y ≤ 8589934592) (hz : -8589934592 ≤ z ∧ z ≤ 8589934592) :
    sgn (orI t x y z) = sgn (t * (big * big * big) + x * (big * big) + y * big + z) := by
  unfold big orI
  simp only [Int.reduceMul]
  repeat' split
  all_goals
    have h1 := sgn_cases t
    have h2 := sgn_cases x
    have h3 := sgn_cases y
    have h4 := sgn_cases z
    generalize hS : t * 1532495540865888858358347027150309183618739122183602176 + x * 1329227995784915872903807060280344576 + y * 1152921504606846976 + z = S
    have h5 := sgn_cases S
    omega
theorem pS_eq {o d a b : P3} (ho : Sp o) (hd : Dr d) (ha : Sp a) (hb : Sp b) : pS o d a b = sgn (FF o d a b big) := by
  obtain ⟨g1, g2, g3⟩ := grw_in hd ha hb
  exact lex_sgn g1 g2 g3
theorem turn_turned (o d a b : P3) : turn o d b a = -turn o d a b := by unfold turn dt cr sb; grind
theorem grw_turned (d a b : P3) : (grw d b a).x = -(grw d a b).x ∧ (grw d b a).y = -(grw d a b).y ∧ (grw d b a).z = -(grw d a b).z := by
  unfold grw cr sb; simp only; refine ⟨?_, ?_, ?_⟩ <;> grind
theorem FF_turned (o d a b : P3) (k : Int) : FF o d b a k = -FF o d a b k := by
  obtain ⟨h1, h2, h3⟩ := grw_turned d a b
  unfold FF; rw [turn_turned, h1, h2, h3]; grind
theorem pS_turned (o d a b : P3) : pS o d b a = -pS o d a b := by
  obtain ⟨h1, h2, h3⟩ := grw_turned d a b
  unfold pS; rw [turn_turned, h1, h2, h3, ← sgn_neg]
  congr 1
  unfold orI
  repeat' split
  all_goals omega
theorem turn_sum (o d a b c : P3) : turn o d a b + turn o d b c + turn o d c a = dt (nrm a b c) d := by unfold turn nrm dt cr sb; grind
theorem grw_sum (d a b c : P3) : (grw d a b).x + (grw d b c).x + (grw d c a).x = 0 ∧ (grw d a b).y + (grw d b c).y + (grw d c a).y = 0 ∧ (grw d a b).z + (grw d b c).z + (grw d c a).z = 0 := by
  unfold grw cr sb; simp only; refine ⟨?_, ?_, ?_⟩ <;> grind
theorem FF_sum (o d a b c : P3) (k : Int) : FF o d a b k + FF o d b c k + FF o d c a k = dt (nrm a b c) d * (k * k * k) := by
  obtain ⟨h1, h2, h3⟩ := grw_sum d a b c
  have h0 := turn_sum o d a b c
  unfold FF; rw [← h0]; grind
/-- Passed on one side by all three edges, that is the direction's side of the plane. -/
theorem all_step {o d a b c : P3} (ho : Sp o) (hd : Dr d) (ha : Sp a) (hb : Sp b) (hc : Sp c) (h1 : pS o d a b = pS o d b c) (h2 : pS o d b c = pS o d c a) : pS o d a b ≠ 0 → sgn (dt (nrm a b c) d) = pS o d a b := by
  rw [pS_eq ho hd ha hb, pS_eq ho hd hb hc] at h1
  rw [pS_eq ho hd hb hc, pS_eq ho hd hc ha] at h2
  rw [pS_eq ho hd ha hb]
  have hs := FF_sum o d a b c big
  generalize FF o d a b big = A at *
  generalize FF o d b c big = B at *
  generalize FF o d c a big = C at *
  generalize dt (nrm a b c) d = S at *
  have q1 := sgn_cases A
  have q2 := sgn_cases B
  have q3 := sgn_cases C
  have q4 := sgn_cases S
  unfold big at hs
  simp only [Int.reduceMul] at hs
  omega
end Go.Proofs.Ytngkimcnolmmoaa
