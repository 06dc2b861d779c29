/- Rows of points that a call makes: contracts of copies and of sameness. -/
import Derived.Test.YtgfgaaecpdbgeaaVec6
import Derived.Maps.AppendAt
import Derived.Laws.AppendOwnNone
import Derived.Laws.OwnMore
import Derived.OwnWalk
namespace Go.Proofs.Ytgfgaaecpdbgeaa
open Go.RowKit
set_option linter.unusedVariables false
set_option linter.unusedSimpArgs false
/-- What a slice's value is like. -/
def SL (A : Option Addr) (n c : Nat) : Prop := n ≤ c ∧ c ≤ maxLen ∧ (A = none → c = 0)
def part (q : Int × Int × Int) (k : Nat) : Int := if k = 0 then q.1 else if k = 1 then q.2.1 else q.2.2
/-- The cells of a row of points. -/
def newsV (p : Nat → Int × Int × Int) (n : Nat) : List Value := (List.range (n * 3)).map fun j => .int .i64 (part (p (j / 3)) (j % 3))
theorem newsV_len (p : Nat → Int × Int × Int) (n : Nat) : (newsV p n).length = n * 3 := by unfold newsV; simp
theorem newsV_get (p : Nat → Int × Int × Int) (n j : Nat) (h : j < n * 3) : (newsV p n)[j]? = some (.int .i64 (part (p (j / 3)) (j % 3))) := by unfold newsV; simp [h]
theorem newsV_one (p : Nat → Int × Int × Int) (n : Nat) : ∀ u ∈ newsV p n, u.oneCell' = true := by
  intro u hu
  unfold newsV at hu
  obtain ⟨j, _, rfl⟩ := List.mem_map.1 hu
  rfl
theorem add_lit (b off k : Nat) : (⟨b, off, none⟩ : Addr).add k = ⟨b, off + k, none⟩ := by
  unfold Addr.add; split <;> simp_all
theorem VF.cellAt {W : World} {b off n : Nat} {p : Nat → Int × Int × Int} (h : VF W (some ⟨b, off, none⟩) n p) (j : Nat) (hj : j < n * 3) : W.cell? ⟨b, off + j, none⟩ = some (.int .i64 (part (p (j / 3)) (j % 3))) := by
  obtain ⟨b', off', e, hl, hc⟩ := h (by omega)
  simp only [Option.some.injEq, Addr.mk.injEq, and_true] at e
  obtain ⟨rfl, rfl⟩ := e
  obtain ⟨h1, h2, h3⟩ := hc (j / 3) (by omega)
  have hm := Nat.mod_lt j (by omega : 0 < 3)
  have hd : j = j / 3 * 3 + j % 3 := by omega
  unfold part
  by_cases e0 : j % 3 = 0
  · rw [if_pos e0, ← h1]; congr 2; omega
  · by_cases e1 : j % 3 = 1
    · rw [if_neg e0, if_pos e1, ← h2]; congr 2; omega
    · rw [if_neg e0, if_neg e1, ← h3]; congr 2; omega
theorem VF.news {W : World} {b off n : Nat} {p : Nat → Int × Int × Int} (h : VF W (some ⟨b, off, none⟩) n p) : ∀ j u, (newsV p n)[j]? = some u → W.cell? ((⟨b, off, none⟩ : Addr).add j) = some u := by
  intro j u hu
  have hj : j < n * 3 := by
    have := (List.getElem?_eq_some_iff.1 hu).1
    rw [newsV_len] at this; exact this
  rw [newsV_get p n j hj] at hu
  rw [add_lit, h.cellAt j hj, hu]
theorem VF.zero (W : World) (A : Option Addr) (p : Nat → Int × Int × Int) : VF W A 0 p := fun h => absurd h (by omega)
/-- What owns a row of points is a slice that reads so. -/
theorem VF_of_own {W : World} {base : Nat} {e : TypeId} {v : Value} {n : Nat} {p : Nat → Int × Int × Int} (h : W.ownsRow base e 3 v n (newsV p n)) :
    ∃ A c, v = .slice A n c ∧ SL A n c ∧ VF W A n p ∧ ∀ b o s, A = some ⟨b, o, s⟩ → base ≤ b := by
  have h0 := h
  obtain ⟨_, ⟨rfl, rfl⟩ | ⟨g, cap, cur, rfl, hb, hg, hnc, hcm, hcs, htake⟩⟩ := h
  · exact ⟨none, 0, rfl, ⟨Nat.le_refl _, by unfold maxLen; omega, fun _ => rfl⟩, VF.zero _ _ _, fun _ _ _ h => by cases h⟩
  · refine ⟨_, cap, rfl, ⟨hnc, hcm, fun h => by cases h⟩, fun hn => ?_, fun b o s h => by cases h; exact hb⟩
    have hlt := (h0.lt g rfl).2
    refine ⟨g, 0, rfl, hlt, fun i hi => ?_⟩
    have c0 := h0.cellAt (i * 3) (by omega)
    have c1 := h0.cellAt (i * 3 + 1) (by omega)
    have c2 := h0.cellAt (i * 3 + 2) (by omega)
    rw [newsV_get p n _ (by omega)] at c0 c1 c2
    rw [show i * 3 / 3 = i by omega, show i * 3 % 3 = 0 by omega] at c0
    rw [show (i * 3 + 1) / 3 = i by omega, show (i * 3 + 1) % 3 = 1 by omega] at c1
    rw [show (i * 3 + 2) / 3 = i by omega, show (i * 3 + 2) % 3 = 2 by omega] at c2
    simp only [Nat.zero_add]
    exact ⟨c0, c1, c2⟩
theorem infoV : (Try.prog.info? 36).map (fun i => (i.zero, i.size, i.bytes)) = some (some (.agg #[.int .i64 0, .int .i64 0, .int .i64 0]), 3, 24) := by kernel_rfl
theorem newsV_zero (p : Nat → Int × Int × Int) : newsV p 0 = [] := rfl

/-- The same points, one by one. -/
def sameF (n m : Nat) (p q : Nat → Int × Int × Int) : Prop := n = m ∧ ∀ i, i < n → p i = q i
end Go.Proofs.Ytgfgaaecpdbgeaa
