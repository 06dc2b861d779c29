/- What laws on layer 4 have in common: the range's answer in four letters; boxes as two points; alive. -/
import Derived.Test.YtngkimcnolmmoaaSlab3
import Derived.Test.YtngkimcnolmmoaaMOpen
namespace Go.Proofs.Ytngkimcnolmmoaa
open Go.RowKit
set_option linter.unusedVariables false
set_option linter.unusedSimpArgs false
/-- What Range answers. -/
structure Rg where
  a : Fr
  b : Fr
  k : Bool
  e : Int
def rgV (o d l h : P3) : Rg := if rbB o d l h then (match rangeM o d l h with | none => ⟨⟨0, 0⟩, ⟨0, 0⟩, false, 0⟩ | some (a, b) => ⟨a, b, true, 0⟩) else ⟨⟨0, 0⟩, ⟨0, 0⟩, false, 21⟩
theorem slRange_any (o d l h : P3) : Gives Try.prog 11 #[.agg #[.int .i64 o.x, .int .i64 o.y, .int .i64 o.z], .agg #[.int .i64 d.x, .int .i64 d.y, .int .i64 d.z], .agg #[.int .i64 l.x, .int .i64 l.y, .int .i64 l.z, .int .i64 h.x, .int .i64 h.y, .int .i64 h.z]] (.tuple #[.agg #[.int .i64 (rgV o d l h).a.n, .int .i64 (rgV o d l h).a.d], .agg #[.int .i64 (rgV o d l h).b.n, .int .i64 (rgV o d l h).b.d], .bool (rgV o d l h).k, .int .i64 (rgV o d l h).e]) := by
  unfold rgV
  cases hb : rbB o d l h
  · exact slRange_no o d l h hb
  · cases hr : rangeM o d l h with
    | none => exact slRange_yes o d l h hb ⟨0, 0⟩ ⟨0, 0⟩ false (by rw [hr]; rfl)
    | some r => exact slRange_yes o d l h hb r.1 r.2 true (by rw [hr]; rfl)
theorem rg_no {o d l h : P3} (hb : rbB o d l h = false) : rgV o d l h = ⟨⟨0, 0⟩, ⟨0, 0⟩, false, 21⟩ := by unfold rgV; rw [hb]; rfl
theorem rg_none {o d l h : P3} (hb : rbB o d l h = true) (hr : rangeM o d l h = none) : rgV o d l h = ⟨⟨0, 0⟩, ⟨0, 0⟩, false, 0⟩ := by unfold rgV; rw [hb, hr]; rfl
theorem rg_some {o d l h : P3} {r : Fr × Fr} (hb : rbB o d l h = true) (hr : rangeM o d l h = some r) : rgV o d l h = ⟨r.1, r.2, true, 0⟩ := by unfold rgV; rw [hb, hr]; rfl
theorem rg_cases (o d l h : P3) : (rbB o d l h = false ∧ rgV o d l h = ⟨⟨0, 0⟩, ⟨0, 0⟩, false, 21⟩) ∨ (rbB o d l h = true ∧ rangeM o d l h = none ∧ rgV o d l h = ⟨⟨0, 0⟩, ⟨0, 0⟩, false, 0⟩) ∨ ∃ r : Fr × Fr, rbB o d l h = true ∧ rangeM o d l h = some r ∧ rgV o d l h = ⟨r.1, r.2, true, 0⟩ := by
  cases hb : rbB o d l h
  · exact .inl ⟨rfl, rg_no hb⟩
  · cases hr : rangeM o d l h with
    | none => exact .inr (.inl ⟨rfl, rfl, rg_none hb hr⟩)
    | some r => exact .inr (.inr ⟨r, rfl, rfl, rg_some hb hr⟩)
/-- The range's ends are fractions, and small. -/
theorem range_small {o d l h : P3} (hb : rbB o d l h = true) {r : Fr × Fr} (hr : rangeM o d l h = some r) : smallF r.1 ∧ smallF r.2 := by
  obtain ⟨b1, b2, b3, b4⟩ := rbB_in hb
  have key : ∀ k r, stR o d l h k = some r → smallF r.1 ∧ smallF r.2 := by
    intro k
    induction k with
    | zero => intro r hk; cases hk; exact ⟨by unfold smallF; simp, by unfold smallF; simp⟩
    | succ k ih =>
      intro r hk
      cases hp : stR o d l h k with
      | none => unfold stR at hk; rw [hp] at hk; cases hk
      | some q =>
        obtain ⟨i1, i2⟩ := ih q hp
        unfold stR at hk
        rw [hp] at hk
        exact part_small (lo := q.1) (hi := q.2) (pick3_in b1 k) (pick3_in b2 k) (pick3_in b3 k) (pick3_in b4 k) i1 i2 hk
  rw [← stR_three] at hr
  cases h3 : stR o d l h 3 with
  | none => rw [h3] at hr; cases hr
  | some q =>
    rw [h3] at hr
    unfold lastR at hr
    simp only at hr
    split at hr
    · cases hr
    · cases hr; exact key 3 _ h3
section
variable {H : Type} {enc : TypeId × Value → H} {w : World} {base b0 : Nat} {spare : Nat → Bool} {held : Bool} {v : Value} {d : DataW H} {p : List MemPlace} {r : Reach}
theorem open_B3 (hv : Value.okWide Try.prog w r b0 25 v) (h : DataW.Trod enc Try.prog w base spare held 25 v d p) :
    ∃ l h : P3, v = .agg #[.int .i64 l.x, .int .i64 l.y, .int .i64 l.z, .int .i64 h.x, .int .i64 h.y, .int .i64 h.z] ∧ In3 l ∧ In3 h := by
  obtain ⟨lx, ly, lz, hx, hy, hz, rfl, h1, h2⟩ := open_Box hv h
  exact ⟨⟨lx, ly, lz⟩, ⟨hx, hy, hz⟩, rfl, h1, h2⟩
end
set_option maxRecDepth 100000 in
theorem alive4_any : Gives Try.prog 10 #[] (.bool true) := by
  refine Gives.mk fun w => ?_
  have m1 := slRange_any ⟨0, 0, 0⟩ ⟨2, 0, 0⟩ ⟨3, 0, 0⟩ ⟨5, 1, 1⟩
  rw [show rgV ⟨0, 0, 0⟩ ⟨2, 0, 0⟩ ⟨3, 0, 0⟩ ⟨5, 1, 1⟩ = ⟨⟨3, 2⟩, ⟨5, 2⟩, true, 0⟩ from by rfl] at m1
  simp only at m1
  go_enter Try.func10, Try.ntmps10
  go_wp2_with (first | (go_at_call 11; first | ((with_reducible refine (m1.at_ _).mono ?_); rintro e w' ⟨rfl, xg, rfl⟩)))
  go_ret
  exact ⟨rfl, (by repeat (first | with_reducible exact Below.refl _ _ | with_reducible refine bel_then ?_ _ | with_reducible refine bel_grow ?_ _ | with_reducible refine bel_alloc ?_ _ | with_reducible refine bel_drew ?_ | with_reducible refine bel_set ?_ (by simp) _ | with_reducible refine bel_setRow ?_ (by first | omega | (simp; done) | (refine Nat.le_trans ?_ (top_le _ _); simp; done) | (refine Nat.le_succ_of_le (Nat.le_trans ?_ (top_le _ _)); simp; done)) _))⟩
end Go.Proofs.Ytngkimcnolmmoaa
