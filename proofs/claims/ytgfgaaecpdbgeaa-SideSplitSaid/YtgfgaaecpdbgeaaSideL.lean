/- What triangles that are told otherwise come to. -/
import Derived.Test.YtgfgaaecpdbgeaaSide4
namespace Go.Proofs.Ytgfgaaecpdbgeaa
set_option linter.unusedVariables false
set_option linter.unusedSimpArgs false
theorem bool_comm3 (x y z : Bool) : (x && y && z) = (x && z && y) := by cases x <;> cases y <;> cases z <;> rfl
theorem bool_turn3 (x y z : Bool) : (x && y && z) = (y && z && x) := by cases x <;> cases y <;> cases z <;> rfl
/-! the other way round -/
theorem bd_turned (o d a b c : P3) : bdB o d a c b = bdB o d a b c := by unfold bdB; rw [bool_comm3]
theorem sd3_turned (s0 s1 s2 : Int) : sd3 (-s1) (-s0) (-s2) = -sd3 s0 s1 s2 := by
  unfold sd3
  by_cases h : s1 = s0 ∧ s2 = s0
  · rw [if_pos h, if_pos (by omega)]; omega
  · rw [if_neg h, if_neg (by omega)]; rfl
theorem allS_turned (o d a b c : P3) : allS o d a c b = -allS o d a b c := by
  unfold allS
  rw [pS_turned o d a b, pS_turned o d c a, pS_turned o d b c, sd3_turned]
theorem far_turned (o a b c : P3) : far o a c b = -far o a b c := by unfold far nrm dt cr sb; grind
theorem stp_turned (d a b c : P3) : stp d a c b = -stp d a b c := by unfold stp nrm dt cr sb; grind
theorem m_turned (fa st sd : Int) : mN (-fa) (-st) (-sd) = mN fa st sd ∧ mD (-st) (-sd) = mD st sd ∧ mK (-st) (-sd) = mK st sd := by
  unfold mN mD mK
  by_cases h : st ≠ 0 ∧ sd ≠ 0
  · have h' : -st ≠ 0 ∧ -sd ≠ 0 := by omega
    rw [if_pos h, if_pos h', if_pos h, if_pos h']
    refine ⟨?_, ?_, decide_eq_decide.2 (by omega)⟩
    · by_cases g : st < 0
      · rw [if_pos g, if_neg (by omega)]
      · rw [if_neg g, if_pos (by omega)]; omega
    · by_cases g : st < 0
      · rw [if_pos g, if_neg (by omega)]
      · rw [if_neg g, if_pos (by omega)]; omega
  · have h' : ¬ (-st ≠ 0 ∧ -sd ≠ 0) := by omega
    rw [if_neg h, if_neg h', if_neg h, if_neg h']
    exact ⟨rfl, rfl, decide_eq_decide.2 (by omega)⟩
theorem mF_turned (st sd : Int) (h : mK st sd = true) : mF (-st) (-sd) = !mF st sd := by
  unfold mK at h
  have h := of_decide_eq_true h
  unfold mF
  by_cases g : sd < 0
  · rw [decide_eq_true (by omega : st ≠ 0 ∧ sd ≠ 0 ∧ sd < 0), decide_eq_false (by omega)]; rfl
  · rw [decide_eq_false (by omega : ¬ (st ≠ 0 ∧ sd ≠ 0 ∧ sd < 0)), decide_eq_true (by omega)]; rfl
theorem hit_turned (o d a b c : P3) : hN o d a c b = hN o d a b c ∧ hD o d a c b = hD o d a b c ∧ hK o d a c b = hK o d a b c ∧ hE o d a c b = hE o d a b c := by
  unfold hN hD hK hE
  rw [bd_turned, far_turned, stp_turned, allS_turned]
  obtain ⟨h1, h2, h3⟩ := m_turned (far o a b c) (stp d a b c) (allS o d a b c)
  rw [h1, h2, h3]
  exact ⟨rfl, rfl, rfl, rfl⟩
theorem hitF_turned (o d a b c : P3) (h : hK o d a b c = true) : hF o d a c b = !hF o d a b c := by
  unfold hK at h
  simp only [Bool.and_eq_true] at h
  unfold hF
  rw [bd_turned, stp_turned, allS_turned, mF_turned _ _ h.2, h.1]
  rfl
theorem si_turned (o d a b : P3) : siE o d b a = siE o d a b ∧ siV o d a b = -siV o d b a := by
  have e : siB o d b a = siB o d a b := by unfold siB; rw [Bool.and_comm (inB3 b)]
  unfold siE siV
  rw [e, pS_turned o d a b]
  refine ⟨rfl, ?_⟩
  split <;> omega
/-! from another corner -/
theorem hit_round (o d a b c : P3) : hN o d b c a = hN o d a b c ∧ hD o d b c a = hD o d a b c ∧ hF o d b c a = hF o d a b c ∧ hK o d b c a = hK o d a b c ∧ hE o d b c a = hE o d a b c := by
  have e1 : bdB o d b c a = bdB o d a b c := by unfold bdB; rw [← bool_turn3]
  have e2 : far o b c a = far o a b c := by unfold far nrm dt cr sb; grind
  have e3 : stp d b c a = stp d a b c := by unfold stp nrm dt cr sb; grind
  have e4 : allS o d b c a = allS o d a b c := by
    unfold allS sd3
    by_cases h : pS o d a b = pS o d c a ∧ pS o d b c = pS o d c a
    · rw [if_pos h, if_pos (by omega)]; omega
    · rw [if_neg h, if_neg (by omega)]
  unfold hN hD hF hK hE
  rw [e1, e2, e3, e4]
  exact ⟨rfl, rfl, rfl, rfl, rfl⟩
/-! moved -/
def ad (a b : P3) : P3 := ⟨a.x + b.x, a.y + b.y, a.z + b.z⟩
def sc (a : P3) (k : Int) : P3 := ⟨a.x * k, a.y * k, a.z * k⟩
theorem sb_moved (a b v : P3) : sb (ad a v) (ad b v) = sb a b := by
  unfold sb ad; simp only [P3.mk.injEq]; omega
theorem pS_moved (o d a b v : P3) : pS (ad o v) d (ad a v) (ad b v) = pS o d a b := by
  unfold pS turn grw; rw [sb_moved, sb_moved, sb_moved]
theorem hit_moved (o d a b c v : P3) (h : bdB o d a b c = true) (h' : bdB (ad o v) d (ad a v) (ad b v) (ad c v) = true) :
    hN (ad o v) d (ad a v) (ad b v) (ad c v) = hN o d a b c ∧ hD (ad o v) d (ad a v) (ad b v) (ad c v) = hD o d a b c ∧ hF (ad o v) d (ad a v) (ad b v) (ad c v) = hF o d a b c ∧ hK (ad o v) d (ad a v) (ad b v) (ad c v) = hK o d a b c := by
  have e2 : far (ad o v) (ad a v) (ad b v) (ad c v) = far o a b c := by unfold far nrm; rw [sb_moved, sb_moved, sb_moved]
  have e3 : stp d (ad a v) (ad b v) (ad c v) = stp d a b c := by unfold stp nrm; rw [sb_moved, sb_moved]
  have e4 : allS (ad o v) d (ad a v) (ad b v) (ad c v) = allS o d a b c := by unfold allS; rw [pS_moved, pS_moved, pS_moved]
  unfold hN hD hF hK
  rw [h, h', e2, e3, e4]
  exact ⟨rfl, rfl, rfl, rfl⟩
theorem hE_cases (o d a b c : P3) : (bdB o d a b c = true ∧ hE o d a b c = 0) ∨ (bdB o d a b c = false ∧ hE o d a b c = 21) := by
  by_cases h : bdB o d a b c = true
  · exact .inl ⟨h, (h_in h).2.2.2.2⟩
  · have h : bdB o d a b c = false := by simpa using h
    exact .inr ⟨h, (h_out h).2.2.2.2⟩
end Go.Proofs.Ytgfgaaecpdbgeaa
