/- Rows of points that a call makes: contracts of copies and of sameness. Calls in drawn regions by contracts at a world; what least boxes are like. Contracts of Meet. What triangles that are told otherwise come to. Contracts of the document's own bounds and sums, exact. Package sub: sums of points. -/
import Derived.Maps.AppendAt
import Derived.Laws.AppendOwnNone
import Derived.Laws.OwnMore
import Derived.OwnWalk
import Derived.Test.YtgmifpicilfcdabC1
import Derived.Test.YtgmifpicilfcdabC3
import Derived.Test.YtgmifpicilfcdabC4
import Derived.Test.YtgmifpicilfcdabC6
namespace Go.Proofs.Ytgmifpicilfcdab
open Go.RowKit
set_option linter.unusedVariables false
set_option linter.unusedSimpArgs false
/-- What a slice's value is like. -/
def SL (A : Option Addr) (n c : Nat) : Prop := n ≤ c ∧ c ≤ maxLen ∧ (A = none → c = 0)
def part (q : Int × Int × Int) (k : Nat) : Int := if k = 0 then q.1 else if k = 1 then q.2.1 else q.2.2
/-- The cells of a row of points. -/
def newsV (p : Nat → Int × Int × Int) (n : Nat) : List Value := (List.range (n * 3)).map fun j => .int .i64 (part (p (j / 3)) (j % 3))
theorem newsV_len (p : Nat → Int × Int × Int) (n : Nat) : (newsV p n).length = n * 3 := by unfold newsV; simp
theorem newsV_get (p : Nat → Int × Int × Int) (n j : Nat) (h : j < n * 3) : (newsV p n)[j]? = some (.int .i64 (part (p (j / 3)) (j % 3))) := by unfold newsV; simp [h]
theorem newsV_one (p : Nat → Int × Int × Int) (n : Nat) : ∀ u ∈ newsV p n, u.oneCell' = true := by
  intro u hu
  unfold newsV at hu
  obtain ⟨j, _, rfl⟩ := List.mem_map.1 hu
  rfl
theorem add_lit (b off k : Nat) : (⟨b, off, none⟩ : Addr).add k = ⟨b, off + k, none⟩ := by
  unfold Addr.add; split <;> simp_all
theorem VF.cellAt {W : World} {b off n : Nat} {p : Nat → Int × Int × Int} (h : VF W (some ⟨b, off, none⟩) n p) (j : Nat) (hj : j < n * 3) : W.cell? ⟨b, off + j, none⟩ = some (.int .i64 (part (p (j / 3)) (j % 3))) := by
  obtain ⟨b', off', e, hl, hc⟩ := h (by omega)
  simp only [Option.some.injEq, Addr.mk.injEq, and_true] at e
  obtain ⟨rfl, rfl⟩ := e
  obtain ⟨h1, h2, h3⟩ := hc (j / 3) (by omega)
  have hm := Nat.mod_lt j (by omega : 0 < 3)
  have hd : j = j / 3 * 3 + j % 3 := by omega
  unfold part
  by_cases e0 : j % 3 = 0
  · rw [if_pos e0, ← h1]; congr 2; omega
  · by_cases e1 : j % 3 = 1
    · rw [if_neg e0, if_pos e1, ← h2]; congr 2; omega
    · rw [if_neg e0, if_neg e1, ← h3]; congr 2; omega
theorem VF.news {W : World} {b off n : Nat} {p : Nat → Int × Int × Int} (h : VF W (some ⟨b, off, none⟩) n p) : ∀ j u, (newsV p n)[j]? = some u → W.cell? ((⟨b, off, none⟩ : Addr).add j) = some u := by
  intro j u hu
  have hj : j < n * 3 := by
    have := (List.getElem?_eq_some_iff.1 hu).1
    rw [newsV_len] at this; exact this
  rw [newsV_get p n j hj] at hu
  rw [add_lit, h.cellAt j hj, hu]
theorem VF.zero (W : World) (A : Option Addr) (p : Nat → Int × Int × Int) : VF W A 0 p := fun h => absurd h (by omega)
/-- What owns a row of points is a slice that reads so. -/
theorem VF_of_own {W : World} {base : Nat} {e : TypeId} {v : Value} {n : Nat} {p : Nat → Int × Int × Int} (h : W.ownsRow base e 3 v n (newsV p n)) :
    ∃ A c, v = .slice A n c ∧ SL A n c ∧ VF W A n p ∧ ∀ b o s, A = some ⟨b, o, s⟩ → base ≤ b := by
  have h0 := h
  obtain ⟨_, ⟨rfl, rfl⟩ | ⟨g, cap, cur, rfl, hb, hg, hnc, hcm, hcs, htake⟩⟩ := h
  · exact ⟨none, 0, rfl, ⟨Nat.le_refl _, by unfold maxLen; omega, fun _ => rfl⟩, VF.zero _ _ _, fun _ _ _ h => by cases h⟩
  · refine ⟨_, cap, rfl, ⟨hnc, hcm, fun h => by cases h⟩, fun hn => ?_, fun b o s h => by cases h; exact hb⟩
    have hlt := (h0.lt g rfl).2
    refine ⟨g, 0, rfl, hlt, fun i hi => ?_⟩
    have c0 := h0.cellAt (i * 3) (by omega)
    have c1 := h0.cellAt (i * 3 + 1) (by omega)
    have c2 := h0.cellAt (i * 3 + 2) (by omega)
    rw [newsV_get p n _ (by omega)] at c0 c1 c2
    rw [show i * 3 / 3 = i by omega, show i * 3 % 3 = 0 by omega] at c0
    rw [show (i * 3 + 1) / 3 = i by omega, show (i * 3 + 1) % 3 = 1 by omega] at c1
    rw [show (i * 3 + 2) / 3 = i by omega, show (i * 3 + 2) % 3 = 2 by omega] at c2
    simp only [Nat.zero_add]
    exact ⟨c0, c1, c2⟩
theorem infoV : (Try.prog.info? 43).map (fun i => (i.zero, i.size, i.bytes)) = some (some (.agg #[.int .i64 0, .int .i64 0, .int .i64 0]), 3, 24) := by kernel_rfl
theorem newsV_zero (p : Nat → Int × Int × Int) : newsV p 0 = [] := rfl

set_option maxHeartbeats 1000000 in
theorem copy_any (w : World) (A : Option Addr) (n c : Nat) (p : Nat → Int × Int × Int) (hv : VF w A n p) (hs : SL A n c) (hn : n ≤ 1048576) :
    Calls Try.prog 30 #[.slice A n c] w fun e w' => ∃ v, e = .returned v ∧ ∃ x, w' = grow w x ∧ (grow w x).ownsRow w.heap.size 43 3 v n (newsV p n) := by
  obtain ⟨i0, hi0, hz0, hz1, hz2⟩ := info_parts infoV
  obtain ⟨s1, s2, s3⟩ := hs
  have fin : ∀ (v1 : Value) (w1 : World), w1.ownsRow w.heap.size 43 3 v1 (0 + n) ([] ++ newsV p n) → (w.alloc (.cells #[] 43)).grownBy w1 (some w.heap.size) → ∃ x, w1 = grow w x ∧ (grow w x).ownsRow w.heap.size 43 3 v1 n (newsV p n) := by
    intro v1 w1 h1 h2
    rw [Nat.zero_add, List.nil_append] at h1
    have hb : Below w.heap.size w w1 := (bel_alloc (Below.refl _ _) _).grown h2 (by simp) (fun k hk => by simp at hk; omega)
    exact ⟨More.of w w1 hb, (grow_mk _ _ hb).symm, by rw [grow_mk]; exact h1⟩
  have fin := Lib.hid fin
  have nn := Lib.hid (newsV_len p n)
  cases A with
  | none =>
    obtain rfl : c = 0 := s3 rfl
    obtain rfl : n = 0 := by omega
    clear s3
    go_enter Try.func30, Try.ntmps30
    go_wp2_with (at_builtin; refine wpList_append_own_none _ rfl (.tmp 5) (.tmp 6) _ rfl w.heap.size 43 i0 3 Try.underlying22 hi0 (.slice (some ⟨w.heap.size, 0, none⟩) 0 0) 0 [] rfl (World.ownsRow_made _ _ _ (Nat.le_refl _) (by unfold maxLen; omega) rfl) rfl ?_)
    go_ret
    exact ⟨_, rfl, fin.out _ _ (World.ownsRow_made _ _ _ (Nat.le_refl _) (by unfold maxLen; omega) rfl) ⟨rfl, rfl, rfl, Nat.le_refl _, fun _ _ _ => rfl⟩⟩
  | some ad =>
    clear s3
    rcases Nat.eq_zero_or_pos n with hz | hz
    · subst hz
      go_enter Try.func30, Try.ntmps30
      go_wp2_with (at_builtin; refine wpList_append_own_at _ rfl (.tmp 5) (.tmp 6) _ rfl w.heap.size 43 i0 _ 3 24 Try.underlying22 hi0 hz0 hz1 hz2 rfl (by omega) (.slice (some ⟨w.heap.size, 0, none⟩) 0 0) 0 [] rfl (World.ownsRow_made _ _ _ (Nat.le_refl _) (by unfold maxLen; omega) rfl) ad 0 c [] rfl rfl (fun j u h => by cases h) (fun u h => by cases h) (by unfold maxLen; omega) (by omega) (by simp) ?_; intro v1 w1 hown1 hg1 hnil1 hat1)
      go_ret
      exact ⟨_, rfl, fin.out _ _ hown1 hg1⟩
    · obtain ⟨b, off, e, hl, _⟩ := hv hz
      cases e
      have hv' : VF (w.alloc (.cells #[] 43)) (some ⟨b, off, none⟩) n p := hv.below (bel_alloc (Below.refl _ _) _)
      have hv' := Lib.hid hv'
      clear hv
      go_enter Try.func30, Try.ntmps30
      go_wp2_with (at_builtin; refine wpList_append_own_at _ rfl (.tmp 5) (.tmp 6) _ rfl w.heap.size 43 i0 _ 3 24 Try.underlying22 hi0 hz0 hz1 hz2 rfl (by omega) (.slice (some ⟨w.heap.size, 0, none⟩) 0 0) 0 [] rfl (World.ownsRow_made _ _ _ (Nat.le_refl _) (by unfold maxLen; omega) rfl) ⟨b, off, none⟩ n c (newsV p n) rfl nn.out hv'.out.news (newsV_one p n) (by unfold maxLen; omega) (by omega) (by simp) ?_; intro v1 w1 hown1 hg1 hnil1 hat1)
      go_ret
      exact ⟨_, rfl, fin.out _ _ hown1 hg1⟩

/-- The same points, one by one. -/
def sameF (n m : Nat) (p q : Nat → Int × Int × Int) : Prop := n = m ∧ ∀ i, i < n → p i = q i
end Go.Proofs.Ytgmifpicilfcdab
namespace Go.Proofs.Ytgmifpicilfcdab
open Go.RowKit
set_option linter.unusedVariables false
set_option linter.unusedSimpArgs false
section
variable {P : Program} {f : FuncId} {args : Array Value} {v : Value} {w : World}
theorem q1 {y : More} (h : Calls P f args (grow w y) fun e w'' => e = .returned v ∧ ∃ z, w'' = grow (grow w y) z) : Calls P f args (grow w y) fun e w'' => e = .returned v ∧ ∃ z, w'' = grow w z :=
  h.mono fun _ _ ⟨he, z, hz⟩ => ⟨he, y.then z, hz⟩
theorem q2 {x y : More} (h : Calls P f args (grow w (x.then y)) fun e w'' => e = .returned v ∧ ∃ z, w'' = grow (grow w (x.then y)) z) : Calls P f args (grow w (x.then y)) fun e w'' => e = .returned v ∧ ∃ z, w'' = grow w (x.then z) :=
  h.mono fun _ _ ⟨he, z, hz⟩ => ⟨he, y.then z, hz⟩
end
theorem append_step {W w1 : World} {xg : More} {v : Value} {e : TypeId} {k n : Nat} {xs : List Value} (hown : (grow W xg).ownsRow W.heap.size e k v n xs) (hg : (grow W xg).grownBy w1 v.ownBlock) : ∃ x1, w1 = grow W x1 :=
  grow_of ((bel_grow (Below.refl _ _) xg).grown hg (top_le _ _) (fun k hk => (hown.lt k hk).1))
/-! least boxes -/
def inP (b : (Int × Int × Int) × (Int × Int × Int)) (q : Int × Int × Int) : Prop := (b.1.1 ≤ q.1 ∧ q.1 ≤ b.2.1) ∧ (b.1.2.1 ≤ q.2.1 ∧ q.2.1 ≤ b.2.2.1) ∧ b.1.2.2 ≤ q.2.2 ∧ q.2.2 ≤ b.2.2.2
theorem inP_join_left {b : (Int × Int × Int) × (Int × Int × Int)} {q r : Int × Int × Int} (h : inP b r) : inP (joinP b q) r := by
  unfold inP joinP at *; simp only []; omega
theorem inP_join_right {b : (Int × Int × Int) × (Int × Int × Int)} {q : Int × Int × Int} : inP (joinP b q) q := by
  unfold inP joinP; simp only []; omega
theorem boxF_has (p : Nat → Int × Int × Int) : ∀ n i, i ≤ n → inP (boxF p n) (p i)
  | 0, i, h => by
    obtain rfl : i = 0 := by omega
    unfold inP boxF; simp only []; omega
  | n + 1, i, h => by
    by_cases hi : i ≤ n
    · exact inP_join_left (boxF_has p n i hi)
    · obtain rfl : i = n + 1 := by omega
      exact inP_join_right
/-- Each side of the least box has a point. -/
def sideOf (b : (Int × Int × Int) × (Int × Int × Int)) (q : Int × Int × Int) (k : Nat) : Bool :=
  if k = 0 then q.1 == b.1.1 else if k = 1 then q.2.1 == b.1.2.1 else if k = 2 then q.2.2 == b.1.2.2 else if k = 3 then q.1 == b.2.1 else if k = 4 then q.2.1 == b.2.2.1 else q.2.2 == b.2.2.2
theorem boxF_touch (p : Nat → Int × Int × Int) : ∀ n, (∃ i, i ≤ n ∧ (p i).1 = (boxF p n).1.1) ∧ (∃ i, i ≤ n ∧ (p i).2.1 = (boxF p n).1.2.1) ∧ (∃ i, i ≤ n ∧ (p i).2.2 = (boxF p n).1.2.2) ∧ (∃ i, i ≤ n ∧ (p i).1 = (boxF p n).2.1) ∧ (∃ i, i ≤ n ∧ (p i).2.1 = (boxF p n).2.2.1) ∧ ∃ i, i ≤ n ∧ (p i).2.2 = (boxF p n).2.2.2
  | 0 => ⟨⟨0, by omega, rfl⟩, ⟨0, by omega, rfl⟩, ⟨0, by omega, rfl⟩, ⟨0, by omega, rfl⟩, ⟨0, by omega, rfl⟩, ⟨0, by omega, rfl⟩⟩
  | n + 1 => by
    obtain ⟨⟨i0, a0, b0⟩, ⟨i1, a1, b1⟩, ⟨i2, a2, b2⟩, ⟨i3, a3, b3⟩, ⟨i4, a4, b4⟩, i5, a5, b5⟩ := boxF_touch p n
    have lo : ∀ (x y : Int) (f : Nat → Int) (i : Nat), i ≤ n → f i = x → ∃ j, j ≤ n + 1 ∧ f j = min x (f (n + 1)) := fun x y f i hi hf => by
      by_cases h : x ≤ f (n + 1)
      · exact ⟨i, by omega, by rw [hf]; omega⟩
      · exact ⟨n + 1, by omega, by omega⟩
    have hi : ∀ (x y : Int) (f : Nat → Int) (i : Nat), i ≤ n → f i = x → ∃ j, j ≤ n + 1 ∧ f j = max x (f (n + 1)) := fun x y f i hi hf => by
      by_cases h : f (n + 1) ≤ x
      · exact ⟨i, by omega, by rw [hf]; omega⟩
      · exact ⟨n + 1, by omega, by omega⟩
    exact ⟨lo _ 0 (fun i => (p i).1) i0 a0 b0, lo _ 0 (fun i => (p i).2.1) i1 a1 b1, lo _ 0 (fun i => (p i).2.2) i2 a2 b2, hi _ 0 (fun i => (p i).1) i3 a3 b3, hi _ 0 (fun i => (p i).2.1) i4 a4 b4, hi _ 0 (fun i => (p i).2.2) i5 a5 b5⟩
/-- Has a point up to number i touched side k? -/
def touF (b : (Int × Int × Int) × (Int × Int × Int)) (p : Nat → Int × Int × Int) : Nat → Nat → Bool
  | 0, _ => false
  | i + 1, k => touF b p i k || sideOf b (p i) k
theorem touF_of (b : (Int × Int × Int) × (Int × Int × Int)) (p : Nat → Int × Int × Int) (k i : Nat) (h : sideOf b (p i) k = true) : ∀ n, i < n → touF b p n k = true
  | 0, hi => by omega
  | n + 1, hi => by
    unfold touF
    by_cases e : i < n
    · rw [touF_of b p k i h n e]; rfl
    · obtain rfl : i = n := by omega
      rw [h]; simp
theorem touF_all (p : Nat → Int × Int × Int) (n : Nat) (k : Nat) (hk : k < 6) : touF (boxF p n) p (n + 1) k = true := by
  obtain ⟨⟨i0, a0, b0⟩, ⟨i1, a1, b1⟩, ⟨i2, a2, b2⟩, ⟨i3, a3, b3⟩, ⟨i4, a4, b4⟩, i5, a5, b5⟩ := boxF_touch p n
  match k, hk with
  | 0, _ => exact touF_of _ p 0 i0 (by unfold sideOf; simp [b0]) _ (by omega)
  | 1, _ => exact touF_of _ p 1 i1 (by unfold sideOf; simp [b1]) _ (by omega)
  | 2, _ => exact touF_of _ p 2 i2 (by unfold sideOf; simp [b2]) _ (by omega)
  | 3, _ => exact touF_of _ p 3 i3 (by unfold sideOf; simp [b3]) _ (by omega)
  | 4, _ => exact touF_of _ p 4 i4 (by unfold sideOf; simp [b4]) _ (by omega)
  | 5, _ => exact touF_of _ p 5 i5 (by unfold sideOf; simp [b5]) _ (by omega)
/-! two rows one behind the other -/
def catF (n : Nat) (p q : Nat → Int × Int × Int) : Nat → Int × Int × Int := fun i => if i < n then p i else q (i - n)
def joinB (a b : (Int × Int × Int) × (Int × Int × Int)) : (Int × Int × Int) × (Int × Int × Int) :=
  ((min a.1.1 b.1.1, min a.1.2.1 b.1.2.1, min a.1.2.2 b.1.2.2), (max a.2.1 b.2.1, max a.2.2.1 b.2.2.1, max a.2.2.2 b.2.2.2))
theorem boxF_cat_low (n : Nat) (p q : Nat → Int × Int × Int) : ∀ k, k ≤ n → boxF (catF (n + 1) p q) k = boxF p k
  | 0, h => by unfold boxF catF; simp
  | k + 1, h => by
    show joinP (boxF (catF (n + 1) p q) k) (catF (n + 1) p q (k + 1)) = joinP (boxF p k) (p (k + 1))
    rw [boxF_cat_low n p q k (by omega)]
    unfold catF; rw [if_pos (by omega)]
theorem boxF_cat (n : Nat) (p q : Nat → Int × Int × Int) : ∀ m, boxF (catF (n + 1) p q) (n + 1 + m) = joinB (boxF p n) (boxF q m)
  | 0 => by
    show joinP (boxF (catF (n + 1) p q) n) (catF (n + 1) p q (n + 1)) = _
    rw [boxF_cat_low n p q n (Nat.le_refl _)]
    unfold catF; rw [if_neg (by omega), Nat.sub_self]
    rfl
  | m + 1 => by
    show joinP (boxF (catF (n + 1) p q) (n + 1 + m)) (catF (n + 1) p q (n + 1 + m + 1)) = joinB (boxF p n) (joinP (boxF q m) (q (m + 1)))
    rw [boxF_cat n p q m]
    unfold catF; rw [if_neg (by omega), show n + 1 + m + 1 - (n + 1) = m + 1 by omega]
    unfold joinB joinP
    simp only [Int.min_assoc, Int.max_assoc]
theorem newsV_cat (n m : Nat) (p q : Nat → Int × Int × Int) : newsV p n ++ newsV q m = newsV (catF n p q) (n + m) := by
  apply List.ext_getElem?
  intro j
  by_cases hj : j < n * 3
  · rw [List.getElem?_append_left (by rw [newsV_len]; exact hj), newsV_get _ _ _ hj, newsV_get _ _ _ (by omega)]
    unfold catF; rw [if_pos (by omega)]
  · rw [List.getElem?_append_right (by rw [newsV_len]; omega), newsV_len]
    by_cases hm : j < (n + m) * 3
    · rw [newsV_get _ _ _ (by omega), newsV_get _ _ _ hm]
      unfold catF; rw [if_neg (by omega), show (j - n * 3) / 3 = j / 3 - n by omega, show (j - n * 3) % 3 = j % 3 by omega]
    · rw [List.getElem?_eq_none (by rw [newsV_len]; omega), List.getElem?_eq_none (by rw [newsV_len]; omega)]

end Go.Proofs.Ytgmifpicilfcdab
namespace Go.Proofs.Ytgmifpicilfcdab
open Go.RowKit
set_option linter.unusedVariables false
set_option linter.unusedSimpArgs false
/-! what Meet answers, out of the three numbers -/
def mK (st sd : Int) : Bool := decide (st ≠ 0 ∧ sd ≠ 0)
def mN (fa st sd : Int) : Int := if st ≠ 0 ∧ sd ≠ 0 then (if st < 0 then -fa else fa) else 0
def mD (st sd : Int) : Int := if st ≠ 0 ∧ sd ≠ 0 then (if st < 0 then -st else st) else 0
def mF (st sd : Int) : Bool := decide (st ≠ 0 ∧ sd ≠ 0 ∧ sd < 0)
theorem m_none {fa st sd : Int} (h : st = 0 ∨ sd = 0) : mN fa st sd = 0 ∧ mD st sd = 0 ∧ mF st sd = false ∧ mK st sd = false := by
  unfold mN mD mF mK
  rw [if_neg (by omega), if_neg (by omega)]
  exact ⟨rfl, rfl, by simp; omega, by simp; omega⟩
theorem m_low {fa st sd : Int} (h : st < 0) (h1 : sd ≠ 0) : mN fa st sd = -fa ∧ mD st sd = -st ∧ mF st sd = decide (sd < 0) ∧ mK st sd = true := by
  unfold mN mD mF mK
  rw [if_pos (by omega), if_pos (by omega), if_pos (by omega), if_pos (by omega)]
  exact ⟨rfl, rfl, decide_eq_decide.2 (by omega), by simp; omega⟩
theorem m_high {fa st sd : Int} (h : 0 < st) (h1 : sd ≠ 0) : mN fa st sd = fa ∧ mD st sd = st ∧ mF st sd = decide (sd < 0) ∧ mK st sd = true := by
  unfold mN mD mF mK
  rw [if_pos (by omega), if_neg (by omega), if_pos (by omega), if_neg (by omega)]
  exact ⟨rfl, rfl, decide_eq_decide.2 (by omega), by simp; omega⟩
def far (o a b c : P3) : Int := dt (nrm a b c) (sb a o)
def stp (d a b c : P3) : Int := dt (nrm a b c) d
/-- The numbers of a hit; noughts, where the line or a point is out of the bounds. -/
def hN (o d a b c : P3) : Int := if bdB o d a b c then mN (far o a b c) (stp d a b c) (allS o d a b c) else 0
def hD (o d a b c : P3) : Int := if bdB o d a b c then mD (stp d a b c) (allS o d a b c) else 0
def hF (o d a b c : P3) : Bool := bdB o d a b c && mF (stp d a b c) (allS o d a b c)
def hK (o d a b c : P3) : Bool := bdB o d a b c && mK (stp d a b c) (allS o d a b c)
def hE (o d a b c : P3) : Int := if bdB o d a b c then 0 else 21
theorem h_out {o d a b c : P3} (h : bdB o d a b c = false) : hN o d a b c = 0 ∧ hD o d a b c = 0 ∧ hF o d a b c = false ∧ hK o d a b c = false ∧ hE o d a b c = 21 := by
  unfold hN hD hF hK hE; rw [h]; exact ⟨rfl, rfl, rfl, rfl, rfl⟩
theorem h_in {o d a b c : P3} (h : bdB o d a b c = true) : hN o d a b c = mN (far o a b c) (stp d a b c) (allS o d a b c) ∧ hD o d a b c = mD (stp d a b c) (allS o d a b c) ∧ hF o d a b c = mF (stp d a b c) (allS o d a b c) ∧ hK o d a b c = mK (stp d a b c) (allS o d a b c) ∧ hE o d a b c = 0 := by
  unfold hN hD hF hK hE; rw [h]; exact ⟨rfl, rfl, rfl, rfl, rfl⟩
end Go.Proofs.Ytgmifpicilfcdab
namespace Go.Proofs.Ytgmifpicilfcdab
set_option linter.unusedVariables false
set_option linter.unusedSimpArgs false
theorem bool_comm3 (x y z : Bool) : (x && y && z) = (x && z && y) := by cases x <;> cases y <;> cases z <;> rfl
theorem bool_turn3 (x y z : Bool) : (x && y && z) = (y && z && x) := by cases x <;> cases y <;> cases z <;> rfl
/-! the other way round -/
theorem bd_turned (o d a b c : P3) : bdB o d a c b = bdB o d a b c := by unfold bdB; rw [bool_comm3]
theorem sd3_turned (s0 s1 s2 : Int) : sd3 (-s1) (-s0) (-s2) = -sd3 s0 s1 s2 := by
  unfold sd3
  by_cases h : s1 = s0 ∧ s2 = s0
  · rw [if_pos h, if_pos (by omega)]; omega
  · rw [if_neg h, if_neg (by omega)]; rfl
theorem allS_turned (o d a b c : P3) : allS o d a c b = -allS o d a b c := by
  unfold allS
  rw [pS_turned o d a b, pS_turned o d c a, pS_turned o d b c, sd3_turned]
theorem far_turned (o a b c : P3) : far o a c b = -far o a b c := by unfold far nrm dt cr sb; grind
theorem stp_turned (d a b c : P3) : stp d a c b = -stp d a b c := by unfold stp nrm dt cr sb; grind
theorem m_turned (fa st sd : Int) : mN (-fa) (-st) (-sd) = mN fa st sd ∧ mD (-st) (-sd) = mD st sd ∧ mK (-st) (-sd) = mK st sd := by
  unfold mN mD mK
  by_cases h : st ≠ 0 ∧ sd ≠ 0
  · have h' : -st ≠ 0 ∧ -sd ≠ 0 := by omega
    rw [if_pos h, if_pos h', if_pos h, if_pos h']
    refine ⟨?_, ?_, decide_eq_decide.2 (by omega)⟩
    · by_cases g : st < 0
      · rw [if_pos g, if_neg (by omega)]
      · rw [if_neg g, if_pos (by omega)]; omega
    · by_cases g : st < 0
      · rw [if_pos g, if_neg (by omega)]
      · rw [if_neg g, if_pos (by omega)]; omega
  · have h' : ¬ (-st ≠ 0 ∧ -sd ≠ 0) := by omega
    rw [if_neg h, if_neg h', if_neg h, if_neg h']
    exact ⟨rfl, rfl, decide_eq_decide.2 (by omega)⟩
theorem mF_turned (st sd : Int) (h : mK st sd = true) : mF (-st) (-sd) = !mF st sd := by
  unfold mK at h
  have h := of_decide_eq_true h
  unfold mF
  by_cases g : sd < 0
  · rw [decide_eq_true (by omega : st ≠ 0 ∧ sd ≠ 0 ∧ sd < 0), decide_eq_false (by omega)]; rfl
  · rw [decide_eq_false (by omega : ¬ (st ≠ 0 ∧ sd ≠ 0 ∧ sd < 0)), decide_eq_true (by omega)]; rfl
theorem hit_turned (o d a b c : P3) : hN o d a c b = hN o d a b c ∧ hD o d a c b = hD o d a b c ∧ hK o d a c b = hK o d a b c ∧ hE o d a c b = hE o d a b c := by
  unfold hN hD hK hE
  rw [bd_turned, far_turned, stp_turned, allS_turned]
  obtain ⟨h1, h2, h3⟩ := m_turned (far o a b c) (stp d a b c) (allS o d a b c)
  rw [h1, h2, h3]
  exact ⟨rfl, rfl, rfl, rfl⟩
theorem hitF_turned (o d a b c : P3) (h : hK o d a b c = true) : hF o d a c b = !hF o d a b c := by
  unfold hK at h
  simp only [Bool.and_eq_true] at h
  unfold hF
  rw [bd_turned, stp_turned, allS_turned, mF_turned _ _ h.2, h.1]
  rfl
theorem si_turned (o d a b : P3) : siE o d b a = siE o d a b ∧ siV o d a b = -siV o d b a := by
  have e : siB o d b a = siB o d a b := by unfold siB; rw [Bool.and_comm (inB3 b)]
  unfold siE siV
  rw [e, pS_turned o d a b]
  refine ⟨rfl, ?_⟩
  split <;> omega
/-! from another corner -/
theorem hit_round (o d a b c : P3) : hN o d b c a = hN o d a b c ∧ hD o d b c a = hD o d a b c ∧ hF o d b c a = hF o d a b c ∧ hK o d b c a = hK o d a b c ∧ hE o d b c a = hE o d a b c := by
  have e1 : bdB o d b c a = bdB o d a b c := by unfold bdB; rw [← bool_turn3]
  have e2 : far o b c a = far o a b c := by unfold far nrm dt cr sb; grind
  have e3 : stp d b c a = stp d a b c := by unfold stp nrm dt cr sb; grind
  have e4 : allS o d b c a = allS o d a b c := by
    unfold allS sd3
    by_cases h : pS o d a b = pS o d c a ∧ pS o d b c = pS o d c a
    · rw [if_pos h, if_pos (by omega)]; omega
    · rw [if_neg h, if_neg (by omega)]
  unfold hN hD hF hK hE
  rw [e1, e2, e3, e4]
  exact ⟨rfl, rfl, rfl, rfl, rfl⟩
/-! moved -/
def ad (a b : P3) : P3 := ⟨a.x + b.x, a.y + b.y, a.z + b.z⟩
def sc (a : P3) (k : Int) : P3 := ⟨a.x * k, a.y * k, a.z * k⟩
theorem sb_moved (a b v : P3) : sb (ad a v) (ad b v) = sb a b := by
  unfold sb ad; simp only [P3.mk.injEq]; omega
theorem pS_moved (o d a b v : P3) : pS (ad o v) d (ad a v) (ad b v) = pS o d a b := by
  unfold pS turn grw; rw [sb_moved, sb_moved, sb_moved]
theorem hit_moved (o d a b c v : P3) (h : bdB o d a b c = true) (h' : bdB (ad o v) d (ad a v) (ad b v) (ad c v) = true) :
    hN (ad o v) d (ad a v) (ad b v) (ad c v) = hN o d a b c ∧ hD (ad o v) d (ad a v) (ad b v) (ad c v) = hD o d a b c ∧ hF (ad o v) d (ad a v) (ad b v) (ad c v) = hF o d a b c ∧ hK (ad o v) d (ad a v) (ad b v) (ad c v) = hK o d a b c := by
  have e2 : far (ad o v) (ad a v) (ad b v) (ad c v) = far o a b c := by unfold far nrm; rw [sb_moved, sb_moved, sb_moved]
  have e3 : stp d (ad a v) (ad b v) (ad c v) = stp d a b c := by unfold stp nrm; rw [sb_moved, sb_moved]
  have e4 : allS (ad o v) d (ad a v) (ad b v) (ad c v) = allS o d a b c := by unfold allS; rw [pS_moved, pS_moved, pS_moved]
  unfold hN hD hF hK
  rw [h, h', e2, e3, e4]
  exact ⟨rfl, rfl, rfl, rfl⟩
theorem hE_cases (o d a b c : P3) : (bdB o d a b c = true ∧ hE o d a b c = 0) ∨ (bdB o d a b c = false ∧ hE o d a b c = 21) := by
  by_cases h : bdB o d a b c = true
  · exact .inl ⟨h, (h_in h).2.2.2.2⟩
  · have h : bdB o d a b c = false := by simpa using h
    exact .inr ⟨h, (h_out h).2.2.2.2⟩
end Go.Proofs.Ytgmifpicilfcdab
namespace Go.Proofs.Ytgmifpicilfcdab
open Go.RowKit
set_option linter.unusedVariables false
set_option linter.unusedSimpArgs false
theorem rAdd_P (a b : P3) (h : InP 4611686018427387904 (ad a b)) : Gives Try.prog 15 #[.agg #[.int .i64 a.x, .int .i64 a.y, .int .i64 a.z], .agg #[.int .i64 b.x, .int .i64 b.y, .int .i64 b.z]] (.agg #[.int .i64 (ad a b).x, .int .i64 (ad a b).y, .int .i64 (ad a b).z]) := by
  have k := rAdd_any a.x a.y a.z b.x b.y b.z
  obtain ⟨h1, h2, h3⟩ := h
  rw [show wrap64 (a.x + b.x) = (ad a b).x from wrap_in h1, show wrap64 (a.y + b.y) = (ad a b).y from wrap_in h2, show wrap64 (a.z + b.z) = (ad a b).z from wrap_in h3] at k
  exact k
theorem rScale_P (a : P3) (s : Int) (h : InP 4611686018427387904 (sc a s)) : Gives Try.prog 16 #[.agg #[.int .i64 a.x, .int .i64 a.y, .int .i64 a.z], .int .i64 s] (.agg #[.int .i64 (sc a s).x, .int .i64 (sc a s).y, .int .i64 (sc a s).z]) := by
  have k := rScale_any a.x a.y a.z s
  obtain ⟨h1, h2, h3⟩ := h
  rw [show wrap64 (a.x * s) = (sc a s).x from wrap_in h1, show wrap64 (a.y * s) = (sc a s).y from wrap_in h2, show wrap64 (a.z * s) = (sc a s).z from wrap_in h3] at k
  exact k
theorem wi_in {a : P3} {m : Int} (h : wiB a.x a.y a.z m = true) : InP m a := ((wiB_iff _ _ _ _).1 h).2
end Go.Proofs.Ytgmifpicilfcdab
namespace Go.Proofs.Ytgmifpicilfcdab
open Go.RowKit
set_option linter.unusedVariables false
set_option linter.unusedSimpArgs false
set_option linter.unnecessarySimpa false
set_option maxRecDepth 100000
def adW (a b : P3) : P3 := ⟨wrap64 (a.x + b.x), wrap64 (a.y + b.y), wrap64 (a.z + b.z)⟩
def foldP (s : P3) (l : List P3) : P3 := l.foldl adW s
theorem foldP_snoc (s : P3) (l : List P3) (p : P3) : foldP s (l ++ [p]) = adW (foldP s l) p := by simp [foldP]
theorem adW_I3 (a b : P3) : I3 (adW a b) := ⟨wrap_bd _, wrap_bd _, wrap_bd _⟩
theorem foldP_tri (g : P3 → Int) (hg : ∀ a b, g (adW a b) = wrap64 (g a + g b)) : ∀ (l : List P3) (s : P3), g (foldP s l) = (l.map g).foldl (fun s y => wrap64 (s + y)) (g s)
  | [], _ => rfl
  | p :: r, s => by
    have := foldP_tri g hg r (adW s p)
    simp only [foldP, List.foldl_cons, List.map_cons] at this ⊢
    rw [this, hg]
theorem fold_sum (l : List P3) : foldP Z3 l = tri3 fun g => sumS (l.map g) := by
  have e1 := foldP_tri P3.x (fun _ _ => rfl) l Z3
  have e2 := foldP_tri P3.y (fun _ _ => rfl) l Z3
  have e3 := foldP_tri P3.z (fun _ _ => rfl) l Z3
  unfold tri3 sumS
  rw [show foldP Z3 l = ⟨(foldP Z3 l).x, (foldP Z3 l).y, (foldP Z3 l).z⟩ from rfl, e1, e2, e3]
  rfl
theorem fold_I3 (s : P3) (l : List P3) (hs : I3 s) : I3 (foldP s l) := by
  rcases List.eq_nil_or_concat l with rfl | ⟨m, y, rfl⟩
  · exact hs
  · rw [List.concat_eq_append, foldP_snoc]; exact adW_I3 _ _
def ofP (s : P3) (n : Int) : P3 := ⟨rnd s.x n, rnd s.y n, rnd s.z n⟩
/-- Three cells of a row, put anew. -/
def set3 (cs : Array Value) (off : Nat) (p : P3) : Array Value := ((cs.setIfInBounds off (.int .i64 p.x)).setIfInBounds (off + 1) (.int .i64 p.y)).setIfInBounds (off + 2) (.int .i64 p.z)
theorem set3_size (cs : Array Value) (off : Nat) (p : P3) : (set3 cs off p).size = cs.size := by simp [set3]
theorem set3_set3 (cs : Array Value) (off : Nat) (p q : P3) : set3 (set3 cs off p) off q = set3 cs off q := by
  unfold set3
  apply Array.ext_getElem?
  intro i
  simp only [Array.getElem?_setIfInBounds, Array.size_setIfInBounds]
  repeat' split
  all_goals first | rfl | omega | simp_all
theorem set3_at {cs : Array Value} {off : Nat} (p : P3) (h : off + 3 ≤ cs.size) : (set3 cs off p)[off]? = some (.int .i64 p.x) ∧ (set3 cs off p)[off + 1]? = some (.int .i64 p.y) ∧ (set3 cs off p)[off + 2]? = some (.int .i64 p.z) := by
  unfold set3
  refine ⟨?_, ?_, ?_⟩
  · rw [Array.getElem?_setIfInBounds, if_neg (by omega), Array.getElem?_setIfInBounds, if_neg (by omega), Array.getElem?_setIfInBounds, if_pos rfl, if_pos (by omega)]
  · rw [Array.getElem?_setIfInBounds, if_neg (by omega), Array.getElem?_setIfInBounds, if_pos rfl, if_pos (by simp; omega)]
  · rw [Array.getElem?_setIfInBounds, if_pos rfl, if_pos (by simp; omega)]
theorem set3_self {cs : Array Value} {off : Nat} {p : P3} (h : cs[off]? = some (.int .i64 p.x) ∧ cs[off + 1]? = some (.int .i64 p.y) ∧ cs[off + 2]? = some (.int .i64 p.z)) : set3 cs off p = cs := by
  apply Array.ext_getElem?
  intro i
  unfold set3
  simp only [Array.getElem?_setIfInBounds, Array.size_setIfInBounds]
  obtain ⟨h1, h2, h3⟩ := h
  repeat' split
  all_goals first | rfl | simp_all
theorem VL.kept {W W' : World} {A : Option Addr} {ps : List P3} {b : Nat} (h : VL W A ps) (hg : W.grownBy W' (some b)) (hne : ∀ b2 o2, A = some ⟨b2, o2, none⟩ → b2 ≠ b) : VL W' A ps := fun hn => by
  obtain ⟨b2, off, e, hl, hc⟩ := h hn
  have hb := hne b2 off e
  refine ⟨b2, off, e, Nat.lt_of_lt_of_le hl hg.size, fun i hi => ?_⟩
  obtain ⟨h1, h2, h3⟩ := hc i hi
  have q : ∀ j v, W.cell? ⟨b2, j, none⟩ = some v → W'.cell? ⟨b2, j, none⟩ = some v := fun j v h => hg.cell h (by simp only; intro e; cases e; exact hb rfl)
  exact ⟨q _ _ h1, q _ _ h2, q _ _ h3⟩
theorem of_G (s : P3) (n : Int) (hs : I3 s) (hn : i64B n) : Gives Try.prog 62 #[.agg #[.int .i64 s.x, .int .i64 s.y, .int .i64 s.z], .int .i64 n] (.agg #[.int .i64 (ofP s n).x, .int .i64 (ofP s n).y, .int .i64 (ofP s n).z]) := by
  have k1 := vRound_any s.x n hs.1.1 hs.1.2 hn.1 hn.2
  have k2 := vRound_any s.y n hs.2.1.1 hs.2.1.2 hn.1 hn.2
  have k3 := vRound_any s.z n hs.2.2.1 hs.2.2.2 hn.1 hn.2
  refine Gives.mk fun w => ?_
  go_enter Try.func62, Try.ntmps62
  go_upto_region 1 with (fail)
  refine wp_region_tail 16 ?_ (by kernel_rfl) (by kernel_rfl) (by kernel_rfl) (fun x => ?_) (fun x => ?_)
  rotate_left
  · simp only [List.take_succ_cons, List.take_zero]
    repeat (go_big_quiet_step (((first | with_reducible exact k1.quiet _ | with_reducible exact k1.quiet2 _ _ | with_reducible exact k2.quiet _ | with_reducible exact k2.quiet2 _ _ | with_reducible exact k3.quiet _ | with_reducible exact k3.quiet2 _ _))))
    refine wpQuiet_nil ?_
    exact rfl
  simp only [List.drop_succ_cons, List.drop_zero]
  try simp only [Act.put, List.setIfInBounds_toArray, List.set_cons_succ, List.set_cons_zero]
  go_wp2
  refine bodyPost_ret (v := .agg #[.int .i64 (ofP s n).x, .int .i64 (ofP s n).y, .int .i64 (ofP s n).z]) (by simp [results, Try.results62, go_sem, ofP]) rfl ⟨rfl, (by repeat (first | exact Below.refl _ _ | refine bel_then ?_ _ | refine bel_grow ?_ _ | refine bel_alloc ?_ _ | refine bel_drew ?_ | refine bel_set ?_ (by simp) _ | refine bel_setRow ?_ (by first | omega | (simp; done) | (refine Nat.le_trans ?_ (top_le _ _); simp; done) | (refine Nat.le_succ_of_le (Nat.le_trans ?_ (top_le _ _)); simp; done) | (refine Nat.le_trans ?_ (top_le _ _); simp only [World.size_alloc]; refine Nat.le_succ_of_le (Nat.le_trans ?_ (top_le _ _)); simp; done)) _))⟩
set_option maxHeartbeats 2000000 in
theorem add_any (W : World) (b off : Nat) (T : TypeId) (cs : Array Value) (s : P3) (A : Option Addr) (c : Nat) (ps : List P3) (hB : Blk W b T cs) (h3 : off + 3 ≤ cs.size) (hc : cs[off]? = some (.int .i64 s.x) ∧ cs[off + 1]? = some (.int .i64 s.y) ∧ cs[off + 2]? = some (.int .i64 s.z)) (hA : VL W A ps) (hne : ∀ b2 o2, A = some ⟨b2, o2, none⟩ → b2 ≠ b) (hl : ps.length < 1099511627776) :
    Calls Try.prog 61 #[.pointer (some ⟨b, off, none⟩), .slice A ps.length c] W fun e W' => e = .returned (.tuple #[]) ∧ W.grownBy W' (some b) ∧ Blk W' b T (set3 cs off (foldP s ps)) := by
  go_enter Try.func61, Try.ntmps61
  go_wp2
  go_loopw [8] (fun iv wr => ∃ k : Nat, iv = .int .i64 (k : Int) ∧ k ≤ ps.length ∧ W.grownBy wr (some b) ∧ Blk wr b T (set3 cs off (foldP s (ps.take k)))) (fun iv _ => ps.length - (intOf iv).toNat)
  case atStart => exact ⟨0, rfl, by omega, (grown_of (Below.refl _ _)).but _, by rw [List.take_zero, show foldP s [] = s from rfl, set3_self hc]; exact hB⟩
  case round =>
    obtain ⟨k, rfl, hk, hg, hBr⟩ := hrel
    by_cases hlt : k < ps.length
    · obtain ⟨b2, o2, rfl, hl2, c1, c2, c3⟩ := (hA.kept hg hne).at_ k hlt
      have hb2 := hne b2 o2 rfl
      have htk : ps.take (k + 1) = ps.take k ++ [ps[k]] := List.take_succ_eq_append_getElem hlt
      generalize ps[k] = p at *
      replace htk := Lib.hid htk
      have hz3 := set3_at (foldP s (ps.take k)) h3
      have hsz := set3_size cs off (foldP s (ps.take k))
      generalize hsv : foldP s (ps.take k) = sv at *
      replace hsv := Lib.hid hsv
      have q0 : (0 : Int) ≤ (k : Int) := by omega
      have q1 : (k : Int) < (ps.length : Int) := by omega
      have hbl := hBr.lt
      have hB1 : Blk (wr.alloc (.cells #[.int .i64 p.x, .int .i64 p.y, .int .i64 p.z] 43)) b T (set3 cs off sv) := hBr.alloc _
      have hP1 : Blk (wr.alloc (.cells #[.int .i64 p.x, .int .i64 p.y, .int .i64 p.z] 43)) wr.heap.size 43 #[.int .i64 p.x, .int .i64 p.y, .int .i64 p.z] := Blk.new _ _ _ _ rfl
      have hg1 : W.grownBy (wr.alloc (.cells #[.int .i64 p.x, .int .i64 p.y, .int .i64 p.z] 43)) (some b) := hg.trans (World.grownBy_alloc _ _ _)
      go_upto_region 3 with (fail)
      generalize hwe : wr.alloc (.cells #[.int .i64 p.x, .int .i64 p.y, .int .i64 p.z] 43) = W1 at *
      clear hwe
      have y0 := hP1.cell 0
      have y1 := hP1.cell 1
      have y2 := hP1.cell 2
      have yl := hP1.lt
      have z0 := (hB1.cell off).trans hz3.1
      have z1 := (hB1.cell (off + 1)).trans hz3.2.1
      have z2 := (hB1.cell (off + 2)).trans hz3.2.2
      have zl := hB1.lt
      have k1 := vAdd_any sv.x sv.y sv.z p.x p.y p.z
      refine wp_region_tail 7 ?_ (by kernel_rfl) (by kernel_rfl) (by kernel_rfl) (fun x => ?_) (fun x => ?_)
      rotate_left
      · simp only [List.take_succ_cons, List.take_zero]
        repeat (go_big_quiet_step (((first | with_reducible exact k1.quiet _ | with_reducible exact k1.quiet2 _ _))))
        refine wpQuiet_nil ?_
        exact rfl
      simp only [List.drop_succ_cons, List.drop_zero]
      try simp only [Act.put, List.setIfInBounds_toArray, List.set_cons_succ, List.set_cons_zero]
      have hB2 := hB1.grow x
      have hg2 := hg1.trans ((grown_of (bel_grow (Below.refl _ _) x)).but _)
      generalize grow W1 x = W2 at *
      have r0 := (hB2.cell off).trans hz3.1
      have r1 := (hB2.cell (off + 1)).trans hz3.2.1
      have r2 := (hB2.cell (off + 2)).trans hz3.2.2
      have rl := hB2.lt
      have e0 := hB2.frozen off
      have e1 := hB2.frozen (off + 1)
      have e2 := hB2.frozen (off + 2)
      have hB3 := ((hB2.set off (.int .i64 (wrap64 (sv.x + p.x)))).set (off + 1) (.int .i64 (wrap64 (sv.y + p.y)))).set (off + 2) (.int .i64 (wrap64 (sv.z + p.z)))
      have hg3 := ((hg2.trans (set_grown W2 b off (.int .i64 (wrap64 (sv.x + p.x))))).trans (set_grown _ b (off + 1) (.int .i64 (wrap64 (sv.y + p.y))))).trans (set_grown _ b (off + 2) (.int .i64 (wrap64 (sv.z + p.z))))
      go_wp2
      go_roundw
      case rel =>
        refine ⟨k + 1, by go_num, by omega, hg3, ?_⟩
        rw [htk.out, foldP_snoc, hsv.out, ← set3_set3 cs off sv (adW sv p)]
        exact hB3
      case measure => simp [intOf]; omega
    · obtain rfl : k = ps.length := by omega
      rw [List.take_length] at hBr
      go_wp2
      first | go_end0 | (refine bodyPost_ret (results_none rfl _ _ _) rfl ?_)
      exact ⟨rfl, hg, hBr⟩
set_option maxHeartbeats 1000000 in
theorem together_any (W : World) (A : Option Addr) (c : Nat) (ps : List P3) (hA : VL W A ps) (hp : 0 < ps.length) (hl : ps.length < 1099511627776) :
    Calls Try.prog 66 #[.slice A ps.length c] W fun e W' => e = .returned (.agg #[.int .i64 (foldP Z3 ps).x, .int .i64 (foldP Z3 ps).y, .int .i64 (foldP Z3 ps).z]) ∧ Below W.heap.size W W' := by
  have hb1 : Below W.heap.size W ((W.alloc (.cells #[.int .i64 Z3.x, .int .i64 Z3.y, .int .i64 Z3.z] 129)).alloc (.cells #[.int .i64 Z3.x, .int .i64 Z3.y, .int .i64 Z3.z] 129)) := bel_alloc (bel_alloc (Below.refl _ _) _) _
  have hR : Blk ((W.alloc (.cells #[.int .i64 Z3.x, .int .i64 Z3.y, .int .i64 Z3.z] 129)).alloc (.cells #[.int .i64 Z3.x, .int .i64 Z3.y, .int .i64 Z3.z] 129)) W.heap.size 129 #[.int .i64 Z3.x, .int .i64 Z3.y, .int .i64 Z3.z] := (Blk.new _ _ _ _ rfl).alloc _
  have hS : Blk ((W.alloc (.cells #[.int .i64 Z3.x, .int .i64 Z3.y, .int .i64 Z3.z] 129)).alloc (.cells #[.int .i64 Z3.x, .int .i64 Z3.y, .int .i64 Z3.z] 129)) (W.heap.size + 1) 129 #[.int .i64 Z3.x, .int .i64 Z3.y, .int .i64 Z3.z] := Blk.new _ _ _ _ (by simp)
  obtain ⟨b3, o3, rfl, h3, _⟩ := hA hp
  have hA1 := hA.below hb1
  go_enter Try.func66, Try.ntmps66
  go_upto_region 2 with (fail)
  change Code.wp _ _ _ _ ((W.alloc (.cells #[.int .i64 Z3.x, .int .i64 Z3.y, .int .i64 Z3.z] 129)).alloc (.cells #[.int .i64 Z3.x, .int .i64 Z3.y, .int .i64 Z3.z] 129))
  generalize (W.alloc (.cells #[.int .i64 Z3.x, .int .i64 Z3.y, .int .i64 Z3.z] 129)).alloc (.cells #[.int .i64 Z3.x, .int .i64 Z3.y, .int .i64 Z3.z] 129) = W1 at *
  have cA := add_any W1 (W.heap.size + 1) 0 129 #[.int .i64 Z3.x, .int .i64 Z3.y, .int .i64 Z3.z] Z3 (some ⟨b3, o3, none⟩) c ps hS (by simp) ⟨rfl, rfl, rfl⟩ hA1 (fun b2 o2 e => by cases e; omega) hl
  go_upto_region 3 with (first | (go_at_call 61; (with_reducible refine cA.mono ?_); rintro e W2 ⟨rfl, hg, hB⟩) | fail)
  have hR2 : Blk W2 W.heap.size 129 #[.int .i64 Z3.x, .int .i64 Z3.y, .int .i64 Z3.z] := (hg.block _ hR.lt (by intro e; simp at e)).trans hR
  have hB2 : Blk W2 (W.heap.size + 1) 129 #[.int .i64 (foldP Z3 ps).x, .int .i64 (foldP Z3 ps).y, .int .i64 (foldP Z3 ps).z] := hB
  have hb2 : Below W.heap.size W W2 := bel_turn hb1 hg (by omega)
  have f0 := hR2.frozen 0
  have f1 := hR2.frozen 1
  have f2 := hR2.frozen 2
  have x0 := hR2.cell 0
  have x1 := hR2.cell 1
  have x2 := hR2.cell 2
  have xl := hR2.lt
  have y0 := hB2.cell 0
  have y1 := hB2.cell 1
  have y2 := hB2.cell 2
  have yl := hB2.lt
  have hR3 := ((hR2.set 0 (.int .i64 (foldP Z3 ps).x)).set 1 (.int .i64 (foldP Z3 ps).y)).set 2 (.int .i64 (foldP Z3 ps).z)
  have hb3 : Below W.heap.size W (((W2.setCell ⟨W.heap.size, 0, none⟩ (.int .i64 (foldP Z3 ps).x)).setCell ⟨W.heap.size, 1, none⟩ (.int .i64 (foldP Z3 ps).y)).setCell ⟨W.heap.size, 2, none⟩ (.int .i64 (foldP Z3 ps).z)) := bel_set (bel_set (bel_set hb2 (p := ⟨W.heap.size, 0, none⟩) (Nat.le_refl _) _) (p := ⟨W.heap.size, 1, none⟩) (Nat.le_refl _) _) (p := ⟨W.heap.size, 2, none⟩) (Nat.le_refl _) _
  clear cA hg hB hR hS hA1 hb1
  go_wp2
  generalize ((W2.setCell ⟨W.heap.size, 0, none⟩ (.int .i64 (foldP Z3 ps).x)).setCell ⟨W.heap.size, 1, none⟩ (.int .i64 (foldP Z3 ps).y)).setCell ⟨W.heap.size, 2, none⟩ (.int .i64 (foldP Z3 ps).z) = WE at *
  have w0 := hR3.cell 0
  have w1 := hR3.cell 1
  have w2 := hR3.cell 2
  refine bodyPost_ret (v := .agg #[.int .i64 (foldP Z3 ps).x, .int .i64 (foldP Z3 ps).y, .int .i64 (foldP Z3 ps).z]) (by simp [results, Try.results66, go_sem, w0, w1, w2]) rfl ⟨rfl, hb3⟩
end Go.Proofs.Ytgmifpicilfcdab
