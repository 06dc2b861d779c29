/- Rows of points that a call makes: contracts of copies and of sameness. -/
import Derived.Test.YtlfdjnmigfdjbaaVec6
import Derived.Maps.AppendAt
import Derived.Laws.AppendOwnNone
import Derived.Laws.OwnMore
import Derived.OwnWalk
namespace Go.Proofs.Ytlfdjnmigfdjbaa
open Go.RowKit
set_option linter.unusedVariables false
set_option linter.unusedSimpArgs false
/-- What a slice's value is like. -/
def SL (A : Option Addr) (n c : Nat) : Prop := n ≤ c ∧ c ≤ maxLen ∧ (A = none → c = 0)
def part (q : Int × Int × Int) (k : Nat) : Int := if k = 0 then q.1 else if k = 1 then q.2.1 else q.2.2
/-- The cells of a row of points. -/
def newsV (p : Nat → Int × Int × Int) (n : Nat) : List Value := (List.range (n * 3)).map fun j => .int .i64 (part (p (j / 3)) (j % 3))
theorem newsV_len (p : Nat → Int × Int × Int) (n : Nat) : (newsV p n).length = n * 3 := by unfold newsV; simp
theorem newsV_get (p : Nat → Int × Int × Int) (n j : Nat) (h : j < n * 3) : (newsV p n)[j]? = some (.int .i64 (part (p (j / 3)) (j % 3))) := by unfold newsV; simp [h]
theorem newsV_one (p : Nat → Int × Int × Int) (n : Nat) : ∀ u ∈ newsV p n, u.oneCell' = true := by
  intro u hu
  unfold newsV at hu
  obtain ⟨j, _, rfl⟩ := List.mem_map.1 hu
  rfl
theorem add_lit (b off k : Nat) : (⟨b, off, none⟩ : Addr).add k = ⟨b, off + k, none⟩ := by
  unfold Addr.add; split <;> simp_all
theorem VF.cellAt {W : World} {b off n : Nat} {p : Nat → Int × Int × Int} (h : VF W (some ⟨b, off, none⟩) n p) (j : Nat) (hj : j < n * 3) : W.cell? ⟨b, off + j, none⟩ = some (.int .i64 (part (p (j / 3)) (j % 3))) := by
  obtain ⟨b', off', e, hl, hc⟩ := h (by omega)
  simp only [Option.some.injEq, Addr.mk.injEq, and_true] at e
  obtain ⟨rfl, rfl⟩ := e
  obtain ⟨h1, h2, h3⟩ := hc (j / 3) (by omega)
  have hm := Nat.mod_lt j (by omega : 0 < 3)
  have hd : j = j / 3 * 3 + j % 3 := by omega
  unfold part
  by_cases e0 : j % 3 = 0
  · rw [if_pos e0, ← h1]; congr 2; omega
  · by_cases e1 : j % 3 = 1
    · rw [if_neg e0, if_pos e1, ← h2]; congr 2; omega
    · rw [if_neg e0, if_neg e1, ← h3]; congr 2; omega
theorem VF.news {W : World} {b off n : Nat} {p : Nat → Int × Int × Int} (h : VF W (some ⟨b, off, none⟩) n p) : ∀ j u, (newsV p n)[j]? = some u → W.cell? ((⟨b, off, none⟩ : Addr).add j) = some u := by
  intro j u hu
  have hj : j < n * 3 := by
    have := (List.getElem?_eq_some_iff.1 hu).1
    rw [newsV_len] at this; exact this
  rw [newsV_get p n j hj] at hu
  rw [add_lit, h.cellAt j hj, hu]
theorem VF.zero (W : World) (A : Option Addr) (p : Nat → Int × Int × Int) : VF W A 0 p := fun h => absurd h (by omega)
/-- What owns a row of points is a slice that reads so. -/
theorem VF_of_own {W : World} {base : Nat} {e : TypeId} {v : Value} {n : Nat} {p : Nat → Int × Int × Int} (h : W.ownsRow base e 3 v n (newsV p n)) :
    ∃ A c, v = .slice A n c ∧ SL A n c ∧ VF W A n p ∧ ∀ b o s, A = some ⟨b, o, s⟩ → base ≤ b := by
  have h0 := h
  obtain ⟨_, ⟨rfl, rfl⟩ | ⟨g, cap, cur, rfl, hb, hg, hnc, hcm, hcs, htake⟩⟩ := h
  · exact ⟨none, 0, rfl, ⟨Nat.le_refl _, by unfold maxLen; omega, fun _ => rfl⟩, VF.zero _ _ _, fun _ _ _ h => by cases h⟩
  · refine ⟨_, cap, rfl, ⟨hnc, hcm, fun h => by cases h⟩, fun hn => ?_, fun b o s h => by cases h; exact hb⟩
    have hlt := (h0.lt g rfl).2
    refine ⟨g, 0, rfl, hlt, fun i hi => ?_⟩
    have c0 := h0.cellAt (i * 3) (by omega)
    have c1 := h0.cellAt (i * 3 + 1) (by omega)
    have c2 := h0.cellAt (i * 3 + 2) (by omega)
    rw [newsV_get p n _ (by omega)] at c0 c1 c2
    rw [show i * 3 / 3 = i by omega, show i * 3 % 3 = 0 by omega] at c0
    rw [show (i * 3 + 1) / 3 = i by omega, show (i * 3 + 1) % 3 = 1 by omega] at c1
    rw [show (i * 3 + 2) / 3 = i by omega, show (i * 3 + 2) % 3 = 2 by omega] at c2
    simp only [Nat.zero_add]
    exact ⟨c0, c1, c2⟩
theorem infoV : (Try.prog.info? 51).map (fun i => (i.zero, i.size, i.bytes)) = some (some (.agg #[.int .i64 0, .int .i64 0, .int .i64 0]), 3, 24) := by kernel_rfl
theorem newsV_zero (p : Nat → Int × Int × Int) : newsV p 0 = [] := rfl

set_option maxHeartbeats 1000000 in
theorem copy_any (w : World) (A : Option Addr) (n c : Nat) (p : Nat → Int × Int × Int) (hv : VF w A n p) (hs : SL A n c) (hn : n ≤ 1048576) :
    Calls Try.prog 51 #[.slice A n c] w fun e w' => ∃ v, e = .returned v ∧ ∃ x, w' = grow w x ∧ (grow w x).ownsRow w.heap.size 51 3 v n (newsV p n) := by
  obtain ⟨i0, hi0, hz0, hz1, hz2⟩ := info_parts infoV
  obtain ⟨s1, s2, s3⟩ := hs
  have fin : ∀ (v1 : Value) (w1 : World), w1.ownsRow w.heap.size 51 3 v1 (0 + n) ([] ++ newsV p n) → (w.alloc (.cells #[] 51)).grownBy w1 (some w.heap.size) → ∃ x, w1 = grow w x ∧ (grow w x).ownsRow w.heap.size 51 3 v1 n (newsV p n) := by
    intro v1 w1 h1 h2
    rw [Nat.zero_add, List.nil_append] at h1
    have hb : Below w.heap.size w w1 := (bel_alloc (Below.refl _ _) _).grown h2 (by simp) (fun k hk => by simp at hk; omega)
    exact ⟨More.of w w1 hb, (grow_mk _ _ hb).symm, by rw [grow_mk]; exact h1⟩
  have fin := Lib.hid fin
  have nn := Lib.hid (newsV_len p n)
  cases A with
  | none =>
    obtain rfl : c = 0 := s3 rfl
    obtain rfl : n = 0 := by omega
    clear s3
    go_enter Try.func51, Try.ntmps51
    go_wp2_with (at_builtin; refine wpList_append_own_none _ rfl (.tmp 5) (.tmp 6) _ rfl w.heap.size 51 i0 3 Try.underlying58 hi0 (.slice (some ⟨w.heap.size, 0, none⟩) 0 0) 0 [] rfl (World.ownsRow_made _ _ _ (Nat.le_refl _) (by unfold maxLen; omega) rfl) rfl ?_)
    go_ret
    exact ⟨_, rfl, fin.out _ _ (World.ownsRow_made _ _ _ (Nat.le_refl _) (by unfold maxLen; omega) rfl) ⟨rfl, rfl, rfl, Nat.le_refl _, fun _ _ _ => rfl⟩⟩
  | some ad =>
    clear s3
    rcases Nat.eq_zero_or_pos n with hz | hz
    · subst hz
      go_enter Try.func51, Try.ntmps51
      go_wp2_with (at_builtin; refine wpList_append_own_at _ rfl (.tmp 5) (.tmp 6) _ rfl w.heap.size 51 i0 _ 3 24 Try.underlying58 hi0 hz0 hz1 hz2 rfl (by omega) (.slice (some ⟨w.heap.size, 0, none⟩) 0 0) 0 [] rfl (World.ownsRow_made _ _ _ (Nat.le_refl _) (by unfold maxLen; omega) rfl) ad 0 c [] rfl rfl (fun j u h => by cases h) (fun u h => by cases h) (by unfold maxLen; omega) (by omega) (by simp) ?_; intro v1 w1 hown1 hg1 hnil1 hat1)
      go_ret
      exact ⟨_, rfl, fin.out _ _ hown1 hg1⟩
    · obtain ⟨b, off, e, hl, _⟩ := hv hz
      cases e
      have hv' : VF (w.alloc (.cells #[] 51)) (some ⟨b, off, none⟩) n p := hv.below (bel_alloc (Below.refl _ _) _)
      have hv' := Lib.hid hv'
      clear hv
      go_enter Try.func51, Try.ntmps51
      go_wp2_with (at_builtin; refine wpList_append_own_at _ rfl (.tmp 5) (.tmp 6) _ rfl w.heap.size 51 i0 _ 3 24 Try.underlying58 hi0 hz0 hz1 hz2 rfl (by omega) (.slice (some ⟨w.heap.size, 0, none⟩) 0 0) 0 [] rfl (World.ownsRow_made _ _ _ (Nat.le_refl _) (by unfold maxLen; omega) rfl) ⟨b, off, none⟩ n c (newsV p n) rfl nn.out hv'.out.news (newsV_one p n) (by unfold maxLen; omega) (by omega) (by simp) ?_; intro v1 w1 hown1 hg1 hnil1 hat1)
      go_ret
      exact ⟨_, rfl, fin.out _ _ hown1 hg1⟩

/-- The same points, one by one. -/
def sameF (n m : Nat) (p q : Nat → Int × Int × Int) : Prop := n = m ∧ ∀ i, i < n → p i = q i
set_option maxHeartbeats 1000000 in
theorem same_yes (w : World) (A B : Option Addr) (n c d : Nat) (p : Nat → Int × Int × Int) (hv : VF w A n p) (hu : VF w B n p) (hs : n ≤ 1048576) :
    Calls Try.prog 58 #[.slice A n c, .slice B n d] w fun e w' => e = .returned (.bool true) ∧ ∃ x, w' = grow w x := by
  rcases Nat.eq_zero_or_pos n with hz | hz
  · subst hz
    clear hv hu
    go_enter Try.func58, Try.ntmps58
    go_wp2
    go_loopw [5] (fun i wr => i = .int .i64 0 ∧ wr = w) (fun _ _ => 0)
    case atStart => exact ⟨rfl, rfl⟩
    case round =>
      obtain ⟨rfl, rfl⟩ := hrel
      go_wp2
      go_ret
      exact ⟨rfl, grow_of (Below.refl _ _)⟩
  · obtain ⟨b, off, rfl, hb, hcell⟩ := hv hz
    obtain ⟨b2, off2, rfl, hb2, hcell2⟩ := hu hz
    have hcell := Lib.hid hcell
    have hcell2 := Lib.hid hcell2
    clear hv hu
    go_enter Try.func58, Try.ntmps58
    go_wp2
    go_loopw [5] (fun i wr => ∃ k : Nat, i = .int .i64 k ∧ k ≤ n ∧ ∃ x, wr = grow w x) (fun i _ => (n - intOf i).toNat)
    case atStart => exact ⟨0, rfl, by omega, grow_of (Below.refl _ _)⟩
    case round =>
      obtain ⟨k, rfl, hk, xx, rfl⟩ := hrel
      by_cases hlt : k < n
      · obtain ⟨h1, h2, h3⟩ := hcell.out k hlt
        obtain ⟨g1, g2, g3⟩ := hcell2.out k hlt
        have hi0 : (0 : Int) ≤ (k : Int) := by omega
        have hi1 : (k : Int) < (n : Int) := by omega
        have e : ∀ w : World, (binOp .neq 51 (.agg #[.int .i64 (p k).1, .int .i64 (p k).2.1, .int .i64 (p k).2.2]) (.agg #[.int .i64 (p k).1, .int .i64 (p k).2.1, .int .i64 (p k).2.2])).run Try.prog w = .ok (.bool false) w := by
          intro w; go_simp
        go_wp2_with fail
        refine wp_region_grow (by kernel_rfl) (by kernel_rfl) ?_
        repeat (go_big_quiet_step ((fail)))
        refine wpQuiet_nil ?_
        rintro _ ⟨xg, rfl⟩
        go_wp2_with fail
        go_roundw
        case rel => exact ⟨k + 1, by go_num, by omega, grow_of (by repeat (first | exact Below.refl _ _ | refine bel_then ?_ _ | refine bel_grow ?_ _ | refine bel_alloc ?_ _ | refine bel_drew ?_ | refine bel_set ?_ (by simp) _ | refine bel_setRow ?_ (by simp) _))⟩
        case measure => simp [intOf] <;> omega
      · obtain rfl : k = n := by omega
        go_wp2
        go_ret
        exact ⟨rfl, grow_of (by repeat (first | exact Below.refl _ _ | refine bel_then ?_ _ | refine bel_grow ?_ _ | refine bel_alloc ?_ _ | refine bel_drew ?_ | refine bel_set ?_ (by simp) _ | refine bel_setRow ?_ (by simp) _))⟩

end Go.Proofs.Ytlfdjnmigfdjbaa
