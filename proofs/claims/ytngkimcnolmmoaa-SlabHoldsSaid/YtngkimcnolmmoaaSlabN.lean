/- Where a ray meets a triangle, the point is within each box that has the triangle's corners. No program is imported. -/
import Derived.Test.YtngkimcnolmmoaaSlabM
namespace Go.Proofs.Ytngkimcnolmmoaa
set_option linter.unusedVariables false
set_option linter.unusedSimpArgs false
def InBx (l h a : P3) : Prop := (l.x ≤ a.x ∧ a.x ≤ h.x) ∧ (l.y ≤ a.y ∧ a.y ≤ h.y) ∧ l.z ≤ a.z ∧ a.z ≤ h.z
theorem wsum {u v w p q r l h : Int} (hu : 0 ≤ u) (hv : 0 ≤ v) (hw : 0 ≤ w) (hp : l ≤ p ∧ p ≤ h) (hq : l ≤ q ∧ q ≤ h) (hr : l ≤ r ∧ r ≤ h) :
    l * (u + v + w) ≤ u * p + v * q + w * r ∧ u * p + v * q + w * r ≤ h * (u + v + w) := by
  have a1 := Int.mul_nonneg hu (show 0 ≤ p - l by omega)
  have a2 := Int.mul_nonneg hv (show 0 ≤ q - l by omega)
  have a3 := Int.mul_nonneg hw (show 0 ≤ r - l by omega)
  have b1 := Int.mul_nonneg hu (show 0 ≤ h - p by omega)
  have b2 := Int.mul_nonneg hv (show 0 ≤ h - q by omega)
  have b3 := Int.mul_nonneg hw (show 0 ≤ h - r by omega)
  have e1 : u * (p - l) + v * (q - l) + w * (r - l) = u * p + v * q + w * r - l * (u + v + w) := by grind
  have e2 : u * (h - p) + v * (h - q) + w * (h - r) = h * (u + v + w) - (u * p + v * q + w * r) := by grind
  omega
theorem bary (o d a b c : P3) :
    (dt (nrm a b c) d * o.x + dt (nrm a b c) (sb a o) * d.x = turn o d b c * a.x + turn o d c a * b.x + turn o d a b * c.x) ∧
    (dt (nrm a b c) d * o.y + dt (nrm a b c) (sb a o) * d.y = turn o d b c * a.y + turn o d c a * b.y + turn o d a b * c.y) ∧
    dt (nrm a b c) d * o.z + dt (nrm a b c) (sb a o) * d.z = turn o d b c * a.z + turn o d c a * b.z + turn o d a b * c.z := by
  unfold turn nrm dt cr sb
  simp only
  refine ⟨?_, ?_, ?_⟩ <;> grind
theorem at_of {f s l h n e u v w p q r : Int} (hu : 0 ≤ u) (hv : 0 ≤ v) (hw : 0 ≤ w) (hp : l ≤ p ∧ p ≤ h) (hq : l ≤ q ∧ q ≤ h) (hr : l ≤ r ∧ r ≤ h) (he : e = u + v + w) (hb : e * f + n * s = u * p + v * q + w * r) : atP f s l h n e := by
  have k := wsum hu hv hw hp hq hr
  unfold atP
  rw [he] at hb ⊢
  have e1 : (u + v + w) * f = f * (u + v + w) := Int.mul_comm _ _
  omega
theorem holds_pos {o d a b c l h : P3} (h0 : 0 ≤ turn o d a b) (h1 : 0 ≤ turn o d b c) (h2 : 0 ≤ turn o d c a) (ba : InBx l h a) (bb : InBx l h b) (bc : InBx l h c) :
    atP o.x d.x l.x h.x (dt (nrm a b c) (sb a o)) (dt (nrm a b c) d) ∧ atP o.y d.y l.y h.y (dt (nrm a b c) (sb a o)) (dt (nrm a b c) d) ∧ atP o.z d.z l.z h.z (dt (nrm a b c) (sb a o)) (dt (nrm a b c) d) := by
  obtain ⟨e1, e2, e3⟩ := bary o d a b c
  have hs : dt (nrm a b c) d = turn o d b c + turn o d c a + turn o d a b := by have := turn_sum o d a b c; omega
  exact ⟨at_of h1 h2 h0 ba.1 bb.1 bc.1 hs e1, at_of h1 h2 h0 ba.2.1 bb.2.1 bc.2.1 hs e2, at_of h1 h2 h0 ba.2.2 bb.2.2 bc.2.2 hs e3⟩
theorem holds_neg {o d a b c l h : P3} (h0 : turn o d a b ≤ 0) (h1 : turn o d b c ≤ 0) (h2 : turn o d c a ≤ 0) (ba : InBx l h a) (bb : InBx l h b) (bc : InBx l h c) :
    atP o.x d.x l.x h.x (-dt (nrm a b c) (sb a o)) (-dt (nrm a b c) d) ∧ atP o.y d.y l.y h.y (-dt (nrm a b c) (sb a o)) (-dt (nrm a b c) d) ∧ atP o.z d.z l.z h.z (-dt (nrm a b c) (sb a o)) (-dt (nrm a b c) d) := by
  obtain ⟨e1, e2, e3⟩ := bary o d a b c
  have hs : -dt (nrm a b c) d = -turn o d b c + -turn o d c a + -turn o d a b := by have := turn_sum o d a b c; omega
  have n : ∀ u v w p q r s t x y : Int, u * s + v * t = x * p + y * q + w * r → -u * s + -v * t = -x * p + -y * q + -w * r := fun u v w p q r s t x y e => by
    have q1 : -u * s = -(u * s) := Int.neg_mul _ _
    have q2 : -v * t = -(v * t) := Int.neg_mul _ _
    have q3 : -x * p = -(x * p) := Int.neg_mul _ _
    have q4 : -y * q = -(y * q) := Int.neg_mul _ _
    have q5 : -w * r = -(w * r) := Int.neg_mul _ _
    omega
  exact ⟨at_of (by omega) (by omega) (by omega) ba.1 bb.1 bc.1 hs (n _ _ _ _ _ _ _ _ _ _ e1), at_of (by omega) (by omega) (by omega) ba.2.1 bb.2.1 bc.2.1 hs (n _ _ _ _ _ _ _ _ _ _ e2), at_of (by omega) (by omega) (by omega) ba.2.2 bb.2.2 bc.2.2 hs (n _ _ _ _ _ _ _ _ _ _ e3)⟩
end Go.Proofs.Ytngkimcnolmmoaa
