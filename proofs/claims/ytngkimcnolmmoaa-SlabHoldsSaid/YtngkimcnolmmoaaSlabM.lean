/- Where a ray is within a box, in fractions of whole numbers. No program is imported. -/
import Derived.Test.YtngkimcnolmmoaaSideM
namespace Go.Proofs.Ytngkimcnolmmoaa
set_option linter.unusedVariables false
set_option linter.unusedSimpArgs false
structure Fr where
  n : Int
  d : Int
/-- Below, and no more than, by products across. -/
def ltF (a b : Fr) : Bool := decide (a.n * b.d < b.n * a.d)
def leF (a b : Fr) : Prop := a.n * b.d ≤ b.n * a.d
def inF (f s l h : Int) : Fr := if 0 < s then ⟨l - f, s⟩ else ⟨f - h, -s⟩
def outF (f s l h : Int) : Fr := if 0 < s then ⟨h - f, s⟩ else ⟨f - l, -s⟩
/-- One part of a ray against one part of a box. -/
def partR (x : Option (Fr × Fr)) (f s l h : Int) : Option (Fr × Fr) :=
  match x with
  | none => none
  | some (lo, hi) =>
    if h < l then none
    else if s = 0 then (if f < l ∨ h < f then none else some (lo, hi))
    else some (if ltF lo (inF f s l h) then inF f s l h else lo, if ltF (outF f s l h) hi then outF f s l h else hi)
def lastR (x : Option (Fr × Fr)) : Option (Fr × Fr) :=
  match x with
  | none => none
  | some (lo, hi) => if ltF hi lo then none else some (lo, hi)
/-- The range of a ray in a box. -/
def rangeM (o d l h : P3) : Option (Fr × Fr) := lastR (partR (partR (partR (some (⟨0, 1⟩, ⟨1, 0⟩)) o.x d.x l.x h.x) o.y d.y l.y h.y) o.z d.z l.z h.z)
/-- A fraction that a range's ends may be. -/
def okLo (a : Fr) : Prop := 0 < a.d ∧ 0 ≤ a.n
def okHi (a : Fr) : Prop := 0 < a.d ∨ (a.n = 1 ∧ a.d = 0)
theorem mul_le_r {a b c : Int} (h : a ≤ b) (hc : 0 ≤ c) : a * c ≤ b * c := Int.mul_le_mul_of_nonneg_right h hc
theorem le_of_mul {a b c : Int} (hc : 0 < c) (h : a * c ≤ b * c) : a ≤ b := Int.le_of_mul_le_mul_right h hc
theorem lt_of_mul {a b c : Int} (hc : 0 < c) (h : a * c < b * c) : a < b := Int.lt_of_mul_lt_mul_right h (by omega)
theorem mul_lt_r {a b c : Int} (h : a < b) (hc : 0 < c) : a * c < b * c := Int.mul_lt_mul_of_pos_right h hc
/-- From one to the next, the middle one being a true fraction. -/
theorem le_mid {a b c : Fr} (ha : 0 ≤ a.d) (hb : 0 < b.d) (hc : 0 ≤ c.d) (h1 : leF a b) (h2 : leF b c) : leF a c := by
  unfold leF at *
  have e1 := mul_le_r h1 hc
  have e2 := mul_le_r h2 ha
  refine le_of_mul hb ?_
  have f1 : a.n * c.d * b.d = a.n * b.d * c.d := by grind
  have f2 : c.n * a.d * b.d = c.n * b.d * a.d := by grind
  have f3 : b.n * a.d * c.d = b.n * c.d * a.d := by grind
  omega
theorem le_refl_F (a : Fr) : leF a a := Int.le_refl _
theorem le_total_F (a b : Fr) : leF a b ∨ leF b a := by unfold leF; omega
theorem lt_not_le (a b : Fr) : ltF a b = true ↔ ¬ leF b a := by unfold ltF leF; simp
theorem lt_false {a b : Fr} : ltF a b = false ↔ leF b a := by unfold ltF leF; simp
theorem inF_d {f s l h : Int} (hs : s ≠ 0) : 0 < (inF f s l h).d := by unfold inF; split <;> simp only <;> omega
theorem outF_d {f s l h : Int} (hs : s ≠ 0) : 0 < (outF f s l h).d := by unfold outF; split <;> simp only <;> omega
theorem in_out {f s l h : Int} (hs : s ≠ 0) (hl : l ≤ h) : leF (inF f s l h) (outF f s l h) := by
  unfold leF inF outF
  split
  · exact mul_le_r (by simp only; omega) (by simp only; omega)
  · exact mul_le_r (by simp only; omega) (by simp only; omega)
/-- Within one part of the box at n/e. -/
def atP (f s l h n e : Int) : Prop := l * e ≤ f * e + n * s ∧ f * e + n * s ≤ h * e
theorem at_in {f s l h n e : Int} (hs : s ≠ 0) : atP f s l h n e ↔ leF (inF f s l h) ⟨n, e⟩ ∧ leF ⟨n, e⟩ (outF f s l h) := by
  unfold atP leF inF outF
  have a1 : (l - f) * e = l * e - f * e := by grind
  have a2 : (h - f) * e = h * e - f * e := by grind
  have a3 : (f - h) * e = f * e - h * e := by grind
  have a4 : (f - l) * e = f * e - l * e := by grind
  have a5 : n * -s = -(n * s) := by grind
  split <;> simp only <;> omega
theorem pick_lo {lo i : Fr} : (if ltF lo i then i else lo) = lo ∧ leF i lo ∨ (if ltF lo i then i else lo) = i ∧ leF lo i := by
  by_cases h : ltF lo i = true
  · right
    rw [if_pos h]
    have := (lt_not_le _ _).1 h
    exact ⟨rfl, by rcases le_total_F lo i with g | g; exact g; exact absurd g this⟩
  · left
    rw [if_neg h]
    exact ⟨rfl, lt_false.1 (by simpa using h)⟩
theorem pick_hi {hi u : Fr} : (if ltF u hi then u else hi) = hi ∧ leF hi u ∨ (if ltF u hi then u else hi) = u ∧ leF u hi := by
  by_cases h : ltF u hi = true
  · right
    rw [if_pos h]
    have := (lt_not_le _ _).1 h
    exact ⟨rfl, by rcases le_total_F u hi with g | g; exact g; exact absurd g this⟩
  · left
    rw [if_neg h]
    exact ⟨rfl, lt_false.1 (by simpa using h)⟩
theorem part_ok {lo hi : Fr} {f s l h : Int} {r : Fr × Fr} (h1 : okLo lo) (h2 : okHi hi) (h3 : partR (some (lo, hi)) f s l h = some r) : okLo r.1 ∧ okHi r.2 := by
  unfold partR at h3
  simp only at h3
  split at h3
  · cases h3
  · split at h3
    · split at h3
      · cases h3
      · cases h3; exact ⟨h1, h2⟩
    · rename_i hs
      cases h3
      constructor
      · rcases pick_lo (lo := lo) (i := inF f s l h) with ⟨e, g⟩ | ⟨e, g⟩
        · simp only; rw [e]; exact h1
        · simp only
          rw [e]
          refine ⟨inF_d hs, ?_⟩
          unfold leF at g
          have hd := inF_d (f := f) (l := l) (h := h) hs
          have g0 : 0 ≤ lo.n * (inF f s l h).d := Int.mul_nonneg h1.2 (by omega)
          have : 0 * lo.d ≤ (inF f s l h).n * lo.d := by rw [Int.zero_mul]; omega
          exact le_of_mul h1.1 this
      · rcases pick_hi (hi := hi) (u := outF f s l h) with ⟨e, g⟩ | ⟨e, g⟩
        · simp only; rw [e]; exact h2
        · simp only; rw [e]; exact .inl (outF_d hs)
/-- A point within goes on to be within the ends. -/
theorem part_at {lo hi : Fr} {f s l h n e : Int} (h2 : okHi hi) (he : 0 < e) (ha : atP f s l h n e) (g1 : leF lo ⟨n, e⟩) (g2 : leF ⟨n, e⟩ hi) :
    ∃ r, partR (some (lo, hi)) f s l h = some r ∧ leF r.1 ⟨n, e⟩ ∧ leF ⟨n, e⟩ r.2 := by
  have hl : l ≤ h := by
    unfold atP at ha
    exact le_of_mul he (by omega)
  unfold partR
  simp only
  rw [if_neg (by omega)]
  by_cases hs : s = 0
  · rw [if_pos hs]
    subst hs
    unfold atP at ha
    have b1 : l ≤ f := le_of_mul he (by omega)
    have b2 : f ≤ h := le_of_mul he (by omega)
    rw [if_neg (by omega)]
    exact ⟨_, rfl, g1, g2⟩
  · rw [if_neg hs]
    obtain ⟨c1, c2⟩ := (at_in hs).1 ha
    refine ⟨_, rfl, ?_, ?_⟩
    · rcases pick_lo (lo := lo) (i := inF f s l h) with ⟨e, _⟩ | ⟨e, _⟩ <;> simp only <;> rw [e] <;> assumption
    · rcases pick_hi (hi := hi) (u := outF f s l h) with ⟨e, _⟩ | ⟨e, _⟩ <;> simp only <;> rw [e] <;> assumption
theorem first_at {n e : Int} (hn : 0 ≤ n) (he : 0 < e) : leF ⟨0, 1⟩ ⟨n, e⟩ ∧ leF ⟨n, e⟩ ⟨1, 0⟩ := by unfold leF; simp only; omega
/-- A point of the ray that is within the box is within the range. -/
theorem range_at {o d l h : P3} {n e : Int} (hn : 0 ≤ n) (he : 0 < e) (hx : atP o.x d.x l.x h.x n e) (hy : atP o.y d.y l.y h.y n e) (hz : atP o.z d.z l.z h.z n e) :
    ∃ r, rangeM o d l h = some r ∧ leF r.1 ⟨n, e⟩ ∧ leF ⟨n, e⟩ r.2 ∧ okLo r.1 ∧ okHi r.2 := by
  obtain ⟨a1, a2⟩ := first_at hn he
  have k0 : okLo ⟨0, 1⟩ := ⟨by decide, by decide⟩
  have k1 : okHi ⟨1, 0⟩ := .inr ⟨rfl, rfl⟩
  obtain ⟨r1, e1, b1, b2⟩ := part_at k1 he hx a1 a2
  obtain ⟨j1, j2⟩ := part_ok k0 k1 e1
  obtain ⟨r2, e2, c1, c2⟩ := part_at j2 he hy b1 b2
  obtain ⟨m1, m2⟩ := part_ok j1 j2 e2
  obtain ⟨r3, e3, d1, d2⟩ := part_at m2 he hz c1 c2
  obtain ⟨q1, q2⟩ := part_ok m1 m2 e3
  refine ⟨r3, ?_, d1, d2, q1, q2⟩
  unfold rangeM
  rw [e1]
  have e2' : partR (some r1) o.y d.y l.y h.y = some r2 := e2
  have e3' : partR (some r2) o.z d.z l.z h.z = some r3 := e3
  rw [e2', e3']
  unfold lastR
  simp only
  have : leF r3.1 r3.2 := le_mid (b := ⟨n, e⟩) (by have := q1.1; omega) he (by rcases q2 with q | ⟨_, q⟩ <;> omega) d1 d2
  rw [if_neg (by rw [lt_false.2 this]; exact Bool.false_ne_true)]
/-- A wider box. -/
theorem part_wider {lo hi lo2 hi2 : Fr} {f s l h l2 h2 : Int} {r : Fr × Fr} (k1 : okLo lo) (k2 : okHi hi) (k3 : okLo lo2) (k4 : okHi hi2) (w1 : l2 ≤ l) (w2 : h ≤ h2) (g1 : leF lo2 lo) (g2 : leF hi hi2) (hr : partR (some (lo, hi)) f s l h = some r) :
    ∃ r2, partR (some (lo2, hi2)) f s l2 h2 = some r2 ∧ leF r2.1 r.1 ∧ leF r.2 r2.2 := by
  unfold partR at hr ⊢
  simp only at hr ⊢
  split at hr
  · cases hr
  · rename_i hl
    rw [if_neg (by omega)]
    split at hr
    · rename_i hs
      split at hr
      · cases hr
      · rename_i hf
        rw [if_pos hs, if_neg (by omega)]
        cases hr
        exact ⟨_, rfl, g1, g2⟩
    · rename_i hs
      rw [if_neg hs]
      cases hr
      refine ⟨_, rfl, ?_, ?_⟩
      · have i1 : leF (inF f s l2 h2) (inF f s l h) := by
          unfold leF inF
          split <;> exact mul_le_r (by simp only; omega) (by simp only; omega)
        have d1 := inF_d (f := f) (l := l) (h := h) hs
        have d2 := inF_d (f := f) (l := l2) (h := h2) hs
        rcases pick_lo (lo := lo2) (i := inF f s l2 h2) with ⟨e, c⟩ | ⟨e, c⟩ <;> rcases pick_lo (lo := lo) (i := inF f s l h) with ⟨e', c'⟩ | ⟨e', c'⟩ <;> simp only <;> rw [e, e']
        · exact g1
        · exact le_mid (by have := k3.1; omega) k1.1 (by omega) g1 c'
        · exact le_mid (by omega) d1 (by have := k1.1; omega) i1 c'
        · exact i1
      · have i1 : leF (outF f s l h) (outF f s l2 h2) := by
          unfold leF outF
          split <;> exact mul_le_r (by simp only; omega) (by simp only; omega)
        have d1 := outF_d (f := f) (l := l) (h := h) hs
        have d2 := outF_d (f := f) (l := l2) (h := h2) hs
        have nn : ∀ {a : Fr}, okHi a → 0 ≤ a.d := fun q => by rcases q with q | ⟨_, q⟩ <;> omega
        rcases pick_hi (hi := hi2) (u := outF f s l2 h2) with ⟨e, c⟩ | ⟨e, c⟩ <;> rcases pick_hi (hi := hi) (u := outF f s l h) with ⟨e', c'⟩ | ⟨e', c'⟩ <;> simp only <;> rw [e, e']
        · exact g2
        · rcases k2 with q | ⟨q, q'⟩
          · exact le_mid (by omega) q (nn k4) c' g2
          · -- hi is without end, so hi2 is, too
            unfold leF at g2 ⊢
            rw [q, q'] at g2
            have hd : hi2.d = 0 := by have := nn k4; omega
            rcases k4 with q4 | ⟨q4, _⟩
            · omega
            · rw [hd, q4]; simp; omega
        · exact le_mid (nn k2) d1 (by omega) c' i1
        · exact i1
/-- From a point in the box the ray is in it from 0 on. -/
theorem part_inside {hi : Fr} {f s l h : Int} (k2 : okHi hi) (h0 : 0 ≤ hi.n) (hl : l ≤ f) (hh : f ≤ h) : ∃ u, partR (some (⟨0, 1⟩, hi)) f s l h = some (⟨0, 1⟩, u) ∧ 0 ≤ u.n := by
  unfold partR
  simp only
  rw [if_neg (by omega)]
  by_cases hs : s = 0
  · rw [if_pos hs, if_neg (by omega)]; exact ⟨hi, rfl, h0⟩
  · rw [if_neg hs]
    have e : ltF ⟨0, 1⟩ (inF f s l h) = false := by
      rw [lt_false]; unfold leF inF; split <;> simp only <;> omega
    rw [e]
    refine ⟨_, rfl, ?_⟩
    rcases pick_hi (hi := hi) (u := outF f s l h) with ⟨e, _⟩ | ⟨e, _⟩ <;> rw [e]
    · exact h0
    · unfold outF; split <;> simp only <;> omega
theorem range_ok {o d l h : P3} {r : Fr × Fr} (hr : rangeM o d l h = some r) : okLo r.1 ∧ okHi r.2 ∧ leF r.1 r.2 := by
  unfold rangeM at hr
  have k0 : okLo ⟨0, 1⟩ := ⟨by decide, by decide⟩
  have k1 : okHi ⟨1, 0⟩ := .inr ⟨rfl, rfl⟩
  cases h1 : partR (some (⟨0, 1⟩, ⟨1, 0⟩)) o.x d.x l.x h.x with
  | none => rw [h1] at hr; cases hr
  | some a =>
    rw [h1] at hr
    obtain ⟨j1, j2⟩ := part_ok k0 k1 h1
    cases h2 : partR (some a) o.y d.y l.y h.y with
    | none => rw [h2] at hr; cases hr
    | some b =>
      rw [h2] at hr
      obtain ⟨m1, m2⟩ := part_ok (lo := a.1) (hi := a.2) j1 j2 h2
      cases h3 : partR (some b) o.z d.z l.z h.z with
      | none => rw [h3] at hr; cases hr
      | some c =>
        rw [h3] at hr
        obtain ⟨q1, q2⟩ := part_ok (lo := b.1) (hi := b.2) m1 m2 h3
        unfold lastR at hr
        simp only at hr
        split at hr
        · cases hr
        · rename_i hn
          cases hr
          exact ⟨q1, q2, lt_false.1 (by simpa using hn)⟩
theorem ends_le {a b c d : Fr} (ha : okLo a) (hb : okHi b) (hc : okLo c) (hd : okHi d) (h1 : leF c a) (h2 : leF a b) (h3 : leF b d) : leF c d := by
  have nd : 0 ≤ d.d := by rcases hd with q | ⟨_, q⟩ <;> omega
  have nb : 0 ≤ b.d := by rcases hb with q | ⟨_, q⟩ <;> omega
  have e1 : leF c b := le_mid (by have := hc.1; omega) ha.1 nb h1 h2
  rcases hb with q | ⟨q, q'⟩
  · exact le_mid (by have := hc.1; omega) q nd e1 h3
  · unfold leF at h3 ⊢
    rw [q, q'] at h3
    have hd0 : d.d = 0 := by omega
    rcases hd with q4 | ⟨q4, _⟩
    · omega
    · rw [hd0, q4]; have := hc.1; omega
/-- A wider box is come into no later, and left no earlier. -/
theorem range_wider {o d l h l2 g2 : P3} {r : Fr × Fr} (x1 : l2.x ≤ l.x) (x2 : h.x ≤ g2.x) (y1 : l2.y ≤ l.y) (y2 : h.y ≤ g2.y) (z1 : l2.z ≤ l.z) (z2 : h.z ≤ g2.z) (hr : rangeM o d l h = some r) :
    ∃ r2, rangeM o d l2 g2 = some r2 ∧ leF r2.1 r.1 ∧ leF r.2 r2.2 := by
  have hr0 := hr
  unfold rangeM at hr
  have k0 : okLo ⟨0, 1⟩ := ⟨by decide, by decide⟩
  have k1 : okHi ⟨1, 0⟩ := .inr ⟨rfl, rfl⟩
  cases h1 : partR (some (⟨0, 1⟩, ⟨1, 0⟩)) o.x d.x l.x h.x with
  | none => rw [h1] at hr; cases hr
  | some a =>
    rw [h1] at hr
    obtain ⟨j1, j2⟩ := part_ok k0 k1 h1
    obtain ⟨a2, ea, la, ga⟩ := part_wider k0 k1 k0 k1 x1 x2 (le_refl_F _) (le_refl_F _) h1
    obtain ⟨i1, i2⟩ := part_ok k0 k1 ea
    cases h2 : partR (some a) o.y d.y l.y h.y with
    | none => rw [h2] at hr; cases hr
    | some b =>
      rw [h2] at hr
      obtain ⟨m1, m2⟩ := part_ok (lo := a.1) (hi := a.2) j1 j2 h2
      obtain ⟨b2, eb, lb, gb⟩ := part_wider (lo := a.1) (hi := a.2) (lo2 := a2.1) (hi2 := a2.2) j1 j2 i1 i2 y1 y2 la ga h2
      obtain ⟨n1, n2⟩ := part_ok (lo := a2.1) (hi := a2.2) i1 i2 eb
      cases h3 : partR (some b) o.z d.z l.z h.z with
      | none => rw [h3] at hr; cases hr
      | some c =>
        rw [h3] at hr
        obtain ⟨c2, ec, lc, gc⟩ := part_wider (lo := b.1) (hi := b.2) (lo2 := b2.1) (hi2 := b2.2) m1 m2 n1 n2 z1 z2 lb gb h3
        obtain ⟨p1, p2⟩ := part_ok (lo := b2.1) (hi := b2.2) n1 n2 ec
        obtain ⟨q1, q2, q3⟩ := range_ok hr0
        have hc : r = c := by
          unfold lastR at hr
          simp only at hr
          split at hr
          · cases hr
          · cases hr; rfl
        subst hc
        refine ⟨c2, ?_, lc, gc⟩
        unfold rangeM
        rw [ea]
        have eb' : partR (some a2) o.y d.y l2.y g2.y = some b2 := eb
        have ec' : partR (some b2) o.z d.z l2.z g2.z = some c2 := ec
        rw [eb', ec']
        unfold lastR
        simp only
        rw [if_neg (by rw [lt_false.2 (ends_le q1 q2 p1 p2 lc q3 gc)]; exact Bool.false_ne_true)]
theorem range_inside {o d l h : P3} (x1 : l.x ≤ o.x) (x2 : o.x ≤ h.x) (y1 : l.y ≤ o.y) (y2 : o.y ≤ h.y) (z1 : l.z ≤ o.z) (z2 : o.z ≤ h.z) : ∃ u, rangeM o d l h = some (⟨0, 1⟩, u) := by
  have k0 : okLo ⟨0, 1⟩ := ⟨by decide, by decide⟩
  have k1 : okHi ⟨1, 0⟩ := .inr ⟨rfl, rfl⟩
  obtain ⟨u1, e1, g1⟩ := part_inside (s := d.x) k1 (by decide) x1 x2
  obtain ⟨_, j1⟩ := part_ok k0 k1 e1
  obtain ⟨u2, e2, g2⟩ := part_inside (s := d.y) j1 g1 y1 y2
  obtain ⟨_, j2⟩ := part_ok k0 j1 e2
  obtain ⟨u3, e3, g3⟩ := part_inside (s := d.z) j2 g2 z1 z2
  refine ⟨u3, ?_⟩
  unfold rangeM
  rw [e1, e2, e3]
  unfold lastR
  simp only
  have : leF ⟨0, 1⟩ u3 := by unfold leF; simp only; omega
  rw [if_neg (by rw [lt_false.2 this]; exact Bool.false_ne_true)]
/-! moved, mirrored, faster -/
theorem part_moved (x : Option (Fr × Fr)) (f s l h v : Int) : partR x (f + v) s (l + v) (h + v) = partR x f s l h := by
  have q1 : l + v - (f + v) = l - f := by omega
  have q2 : h + v - (f + v) = h - f := by omega
  have q3 : f + v - (h + v) = f - h := by omega
  have q4 : f + v - (l + v) = f - l := by omega
  have e1 : inF (f + v) s (l + v) (h + v) = inF f s l h := by unfold inF; rw [q1, q3]
  have e2 : outF (f + v) s (l + v) (h + v) = outF f s l h := by unfold outF; rw [q2, q4]
  cases x with
  | none => rfl
  | some a =>
    unfold partR
    simp only [e1, e2, Int.add_lt_add_iff_right]
theorem part_mirror (x : Option (Fr × Fr)) (f s l h : Int) : partR x (-f) (-s) (-h) (-l) = partR x f s l h := by
  cases x with
  | none => rfl
  | some a =>
    by_cases hs : s = 0
    · subst hs
      unfold partR
      simp only [Int.neg_lt_neg_iff, Int.neg_zero, if_true]
      by_cases h1 : h < l
      · rw [if_pos h1, if_pos h1]
      · rw [if_neg h1, if_neg h1]
        by_cases h2 : f < l ∨ h < f
        · rw [if_pos h2, if_pos (by omega)]
        · rw [if_neg h2, if_neg (by omega)]
    · have e1 : inF (-f) (-s) (-h) (-l) = inF f s l h := by
        unfold inF
        by_cases h0 : 0 < s
        · have h1 : ¬ 0 < -s := by omega
          rw [if_pos h0, if_neg h1]; simp only [Fr.mk.injEq]; omega
        · have h1 : 0 < -s := by omega
          rw [if_neg h0, if_pos h1]; simp only [Fr.mk.injEq, and_true]; omega
      have e2 : outF (-f) (-s) (-h) (-l) = outF f s l h := by
        unfold outF
        by_cases h0 : 0 < s
        · have h1 : ¬ 0 < -s := by omega
          rw [if_pos h0, if_neg h1]; simp only [Fr.mk.injEq]; omega
        · have h1 : 0 < -s := by omega
          rw [if_neg h0, if_pos h1]; simp only [Fr.mk.injEq, and_true]; omega
      unfold partR
      simp only [e1, e2, Int.neg_lt_neg_iff]
      rw [if_neg (show ¬ (-s = 0) by omega), if_neg hs]
/-- The same end, told by a ray that is k times faster. -/
def fastF (k : Int) (a b : Fr) : Prop := b = ⟨a.n, k * a.d⟩ ∨ (a = ⟨0, 1⟩ ∧ b = ⟨0, 1⟩)
theorem lt_fast {k : Int} (hk : 0 < k) {a b i j : Fr} (h1 : fastF k a b) (h2 : fastF k i j) : ltF b j = ltF a i := by
  unfold ltF
  refine decide_eq_decide.2 ?_
  have key : ∀ x y : Int, x * k < y * k ↔ x < y := fun x y => ⟨fun h => lt_of_mul hk h, fun h => mul_lt_r h hk⟩
  rcases h1 with rfl | ⟨rfl, rfl⟩ <;> rcases h2 with rfl | ⟨rfl, rfl⟩
  · simp only
    rw [show a.n * (k * i.d) = a.n * i.d * k by grind, show i.n * (k * a.d) = i.n * a.d * k by grind]
    exact key _ _
  · simp only
    rw [show (0 : Int) * (k * a.d) = 0 * k by grind, Int.mul_one, Int.zero_mul, Int.zero_mul]
  · simp only
    rw [show (0 : Int) * (k * i.d) = 0 by grind, show (0 : Int) * i.d = 0 by grind]
  · exact Iff.rfl
def fastR (k : Int) : Option (Fr × Fr) → Option (Fr × Fr) → Prop
  | none, none => True
  | some a, some b => fastF k a.1 b.1 ∧ fastF k a.2 b.2
  | _, _ => False
theorem part_fast {k : Int} (hk : 0 < k) {x y : Option (Fr × Fr)} (h : fastR k x y) (f s l u : Int) : fastR k (partR x f s l u) (partR y f (s * k) l u) := by
  cases x with
  | none =>
    cases y with
    | none => exact trivial
    | some b => exact h.elim
  | some a =>
    cases y with
    | none => exact h.elim
    | some b =>
      obtain ⟨h1, h2⟩ := h
      unfold partR
      simp only
      by_cases c1 : u < l
      · rw [if_pos c1, if_pos c1]; exact trivial
      · rw [if_neg c1, if_neg c1]
        by_cases hs : s = 0
        · subst hs
          rw [if_pos rfl, if_pos (Int.zero_mul k)]
          by_cases c2 : f < l ∨ u < f
          · rw [if_pos c2, if_pos c2]; exact trivial
          · rw [if_neg c2, if_neg c2]; exact ⟨h1, h2⟩
        · have hs' : s * k ≠ 0 := fun e => by rcases Int.mul_eq_zero.1 e with q | q <;> omega
          rw [if_neg hs, if_neg hs']
          have hpos : 0 < s * k ↔ 0 < s := ⟨fun h => lt_of_mul hk (by rw [Int.zero_mul]; exact h), fun h => Int.mul_pos h hk⟩
          have i1 : fastF k (inF f s l u) (inF f (s * k) l u) := by
            left
            unfold inF
            by_cases c : 0 < s
            · rw [if_pos c, if_pos (hpos.2 c)]; simp only [Fr.mk.injEq, true_and]; exact Int.mul_comm _ _
            · rw [if_neg c, if_neg (fun q => c (hpos.1 q))]; simp only [Fr.mk.injEq, true_and]; grind
          have i2 : fastF k (outF f s l u) (outF f (s * k) l u) := by
            left
            unfold outF
            by_cases c : 0 < s
            · rw [if_pos c, if_pos (hpos.2 c)]; simp only [Fr.mk.injEq, true_and]; exact Int.mul_comm _ _
            · rw [if_neg c, if_neg (fun q => c (hpos.1 q))]; simp only [Fr.mk.injEq, true_and]; grind
          refine ⟨?_, ?_⟩
          · simp only
            rw [lt_fast hk h1 i1]
            split
            · exact i1
            · exact h1
          · simp only
            rw [lt_fast hk i2 h2]
            split
            · exact i2
            · exact h2
theorem last_fast {k : Int} (hk : 0 < k) {x y : Option (Fr × Fr)} (h : fastR k x y) : fastR k (lastR x) (lastR y) := by
  cases x with
  | none =>
    cases y with
    | none => exact trivial
    | some b => exact h.elim
  | some a =>
    cases y with
    | none => exact h.elim
    | some b =>
      obtain ⟨h1, h2⟩ := h
      unfold lastR
      simp only
      rw [lt_fast hk h2 h1]
      split
      · exact trivial
      · exact ⟨h1, h2⟩
theorem range_fast {k : Int} (hk : 0 < k) (o d l h : P3) : fastR k (rangeM o d l h) (rangeM o ⟨d.x * k, d.y * k, d.z * k⟩ l h) := by
  have h0 : fastR k (some (⟨0, 1⟩, ⟨1, 0⟩)) (some (⟨0, 1⟩, ⟨1, 0⟩)) := ⟨.inr ⟨rfl, rfl⟩, .inl (by simp only [Int.mul_zero])⟩
  exact last_fast hk (part_fast hk (part_fast hk (part_fast hk h0 _ _ _ _) _ _ _ _) _ _ _ _)
end Go.Proofs.Ytngkimcnolmmoaa
