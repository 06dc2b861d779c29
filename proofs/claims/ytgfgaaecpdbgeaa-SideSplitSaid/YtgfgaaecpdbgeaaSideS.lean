/- A triangle cut in two. -/
import Derived.Test.YtgfgaaecpdbgeaaSideC
namespace Go.Proofs.Ytgfgaaecpdbgeaa
open Go.RowKit
set_option linter.unusedVariables false
set_option linter.unusedSimpArgs false
theorem FF_part1 (o d b e : P3) (k K : Int) : 8 * FF o d b (ad b (sc e k)) K = k * FF o d b (ad b (sc e 8)) K := by unfold FF turn grw dt cr sb ad sc; simp only; grind
theorem FF_part2 (o d b e : P3) (k K : Int) : 8 * FF o d (ad b (sc e k)) (ad b (sc e 8)) K = (8 - k) * FF o d b (ad b (sc e 8)) K := by unfold FF turn grw dt cr sb ad sc; simp only; grind
theorem FF_part3 (o d a b e : P3) (k K : Int) : 8 * FF o d a (ad b (sc e k)) K = (8 - k) * FF o d a b K + k * FF o d a (ad b (sc e 8)) K := by unfold FF turn grw dt cr sb ad sc; simp only; grind
theorem stp_part (d a b e : P3) (k : Int) : k * stp d a b (ad b (sc e 8)) = 8 * -((b.x - a.x) * (grw d a (ad b (sc e k))).x + (b.y - a.y) * (grw d a (ad b (sc e k))).y + (b.z - a.z) * (grw d a (ad b (sc e k))).z) := by
  unfold stp nrm grw dt cr sb ad sc; simp only; grind
theorem FF_stp (o d a b c : P3) (K : Int) : FF o d a b K + FF o d b c K + FF o d c a K = stp d a b c * (K * K * K) := FF_sum o d a b c K
/-- Met, in the numbers of the line moved. -/
def mt (x y z : Int) : Prop := sgn x = sgn y ∧ sgn y = sgn z ∧ sgn x ≠ 0
theorem hK_mt {o d a b c : P3} (h : bdB o d a b c = true) : hK o d a b c = true ↔ mt (FF o d a b big) (FF o d b c big) (FF o d c a big) := by
  rw [hK_sd h, decide_eq_true_eq]
  obtain ⟨ho, hd, ha, hb, hc⟩ := bdB_in h
  unfold mt
  rw [← pS_eq ho hd ha hb, ← pS_eq ho hd hb hc, ← pS_eq ho hd hc ha]
  constructor
  · intro e
    obtain ⟨h1, h2, h3⟩ := allS_sd e
    omega
  · intro ⟨e1, e2, e3⟩
    unfold allS sd3
    rw [if_pos (by omega)]; omega
theorem mt_iff (x y z : Int) : mt x y z ↔ (0 < x ∧ 0 < y ∧ 0 < z) ∨ (x < 0 ∧ y < 0 ∧ z < 0) := by
  unfold mt
  rcases sgn_cases x with ⟨h1, e1⟩ | ⟨h1, e1⟩ | ⟨h1, e1⟩ <;> rcases sgn_cases y with ⟨h2, e2⟩ | ⟨h2, e2⟩ | ⟨h2, e2⟩ <;> rcases sgn_cases z with ⟨h3, e3⟩ | ⟨h3, e3⟩ | ⟨h3, e3⟩ <;> rw [e1, e2, e3] <;> omega
theorem cut_one (x y z u v w k : Int) (h0 : 1 ≤ k ∧ k ≤ 7) (h1 : (0 < v ↔ 0 < y) ∧ (v < 0 ↔ y < 0)) (h2 : (0 < w ↔ 0 < y) ∧ (w < 0 ↔ y < 0)) (h3 : 0 < x → z < 0 → 0 < u) (h3' : x < 0 → 0 < z → u < 0) (h5 : 0 < x → u < 0 → 0 < z) (h6 : 0 < z → 0 < u → 0 < x) (h7 : x < 0 → 0 < u → z < 0) (h8 : z < 0 → u < 0 → x < 0) (h4 : u = 0 → x + y + z = 0) :
    (mt x y z ↔ mt x v (-u) ∨ mt u w z) ∧ ¬ (mt x v (-u) ∧ mt u w z) := by
  simp only [mt_iff]
  rcases Int.lt_trichotomy u 0 with hu | hu | hu <;> rcases Int.lt_trichotomy x 0 with hx | hx | hx <;> rcases Int.lt_trichotomy z 0 with hz | hz | hz <;> omega
theorem cut_math (x y z u v w k : Int) (hk : 0 ≤ k ∧ k ≤ 8) (h1 : 8 * v = k * y) (h2 : 8 * w = (8 - k) * y) (h3 : 8 * u = (8 - k) * x - k * z) (h4 : k ≠ 0 → u = 0 → x + y + z = 0) :
    (mt x y z ↔ mt x v (-u) ∨ mt u w z) ∧ ¬ (mt x v (-u) ∧ mt u w z) := by
  by_cases k0 : k = 0
  · subst k0
    obtain rfl : v = 0 := by omega
    obtain rfl : w = y := by omega
    obtain rfl : u = x := by omega
    simp only [mt_iff]; omega
  · by_cases k8 : k = 8
    · subst k8
      obtain rfl : v = y := by omega
      obtain rfl : w = 0 := by omega
      obtain rfl : u = -z := by omega
      simp only [mt_iff, Int.neg_neg]; omega
    · have p1 : 0 < k := by omega
      have p2 : 0 < 8 - k := by omega
      have pos : ∀ t m : Int, 0 < m → ((0 < m * t ↔ 0 < t) ∧ (m * t < 0 ↔ t < 0)) := fun t m hm => by
        have e := sgn_mul m t
        have e1 : sgn m = 1 := by have := sgn_cases m; omega
        rw [e1, Int.one_mul] at e
        have := sgn_cases (m * t); have := sgn_cases t; omega
      have a1 := pos y k p1
      have a2 := pos y (8 - k) p2
      have a3 := pos x (8 - k) p2
      have a4 := pos z k p1
      exact cut_one x y z u v w k (by omega) (by omega) (by omega) (by omega) (by omega) (by omega) (by omega) (by omega) (by omega) (h4 k0)
/-- Cut in two through a corner: what is met is met in one part. -/
theorem hit_split (o d a b e : P3) (k : Int) (hk : 0 ≤ k ∧ k ≤ 8) (h : bdB o d a b (ad b (sc e 8)) = true) (h1 : bdB o d a b (ad b (sc e k)) = true) (h2 : bdB o d a (ad b (sc e k)) (ad b (sc e 8)) = true) :
    (hK o d a b (ad b (sc e 8)) = (hK o d a b (ad b (sc e k)) || hK o d a (ad b (sc e k)) (ad b (sc e 8)))) ∧ (hK o d a b (ad b (sc e k)) && hK o d a (ad b (sc e k)) (ad b (sc e 8))) = false := by
  have m := hK_mt h
  have m1 := hK_mt h1
  have m2 := hK_mt h2
  obtain ⟨ho, hd, ha, hb, hc⟩ := bdB_in h
  obtain ⟨_, _, _, _, hm⟩ := bdB_in h1
  rw [FF_turned o d a (ad b (sc e k))] at m1
  have q1 := FF_part1 o d b e k big
  have q2 := FF_part2 o d b e k big
  have q3 := FF_part3 o d a b e k big
  rw [FF_turned o d (ad b (sc e 8)) a] at q3
  have q4 : k ≠ 0 → FF o d a (ad b (sc e k)) big = 0 → FF o d a b big + FF o d b (ad b (sc e 8)) big + FF o d (ad b (sc e 8)) a big = 0 := fun k0 hz => by
    obtain ⟨_, g1, g2, g3⟩ := FF_along ho hd ha hm hz
    have q := stp_part d a b e k
    rw [g1, g2, g3] at q
    have q' : k * stp d a b (ad b (sc e 8)) = 0 := by rw [q]; simp
    have q0 : stp d a b (ad b (sc e 8)) = 0 := by rcases Int.mul_eq_zero.1 q' with h' | h' <;> omega
    rw [FF_stp, q0, Int.zero_mul]
  have key := cut_math (FF o d a b big) (FF o d b (ad b (sc e 8)) big) (FF o d (ad b (sc e 8)) a big) (FF o d a (ad b (sc e k)) big) (FF o d b (ad b (sc e k)) big) (FF o d (ad b (sc e k)) (ad b (sc e 8)) big) k hk q1 q2 (by rw [q3]; grind) q4
  rw [← m, ← m1, ← m2] at key
  generalize hK o d a b (ad b (sc e 8)) = x at *
  generalize hK o d a b (ad b (sc e k)) = y at *
  generalize hK o d a (ad b (sc e k)) (ad b (sc e 8)) = z at *
  clear m m1 m2
  cases x <;> cases y <;> cases z <;> simp at key <;> simp
theorem part_in {b c e k : Int} (hb : -65536 ≤ b ∧ b ≤ 65536) (hc : -65536 ≤ c ∧ c ≤ 65536) (he : c = b + e * 8) (hk : 0 ≤ k ∧ k ≤ 8) : (-65536 ≤ b + e * k ∧ b + e * k ≤ 65536) ∧ -1000000 ≤ e * k ∧ e * k ≤ 1000000 := by
  have h : k = 0 ∨ k = 1 ∨ k = 2 ∨ k = 3 ∨ k = 4 ∨ k = 5 ∨ k = 6 ∨ k = 7 ∨ k = 8 := by omega
  rcases h with rfl | rfl | rfl | rfl | rfl | rfl | rfl | rfl | rfl <;> omega
end Go.Proofs.Ytgfgaaecpdbgeaa
