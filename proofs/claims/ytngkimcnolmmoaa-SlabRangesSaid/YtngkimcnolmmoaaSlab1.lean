/- The document's own range of a ray in a box. -/
import Derived.Test.YtngkimcnolmmoaaSlabM
import Derived.Test.YtngkimcnolmmoaaMRefE
import Derived.Test.YtngkimcnolmmoaaMSideB
import Derived.Test.YtngkimcnolmmoaaMRegion
namespace Go.Proofs.Ytngkimcnolmmoaa
open Go.RowKit
set_option linter.unusedVariables false
set_option linter.unusedSimpArgs false
def InFr (a : Fr) : Prop := (-9223372036854775808 ≤ a.n ∧ a.n ≤ 9223372036854775807) ∧ -9223372036854775808 ≤ a.d ∧ a.d ≤ 9223372036854775807
def RightF (a : Fr) : Prop := Right a.n a.d
theorem cmp_lt0 (x y : Int) : decide (cmpOf x y < 0) = decide (x < y) := by
  refine decide_eq_decide.2 ?_
  unfold cmpOf
  split
  · omega
  · split <;> omega
theorem rLess_any (a b : Fr) (ha : InFr a) (hb : InFr b) (ra : RightF a) (rb : RightF b) : Gives Try.prog 26 #[.agg #[.int .i64 a.n, .int .i64 a.d], .agg #[.int .i64 b.n, .int .i64 b.d]] (.bool (ltF a b)) := by
  refine Gives.mk fun w => ?_
  have k := rOrder_yes a.n a.d b.n b.d ha.1 ha.2 hb.1 hb.2 ra rb
  have e : decide (cmpOf (a.n * b.d) (b.n * a.d) < 0) = ltF a b := cmp_lt0 _ _
  have E := Lib.hid e
  generalize cmpOf (a.n * b.d) (b.n * a.d) = v at *
  clear e ha hb ra rb
  go_enter Try.func26, Try.ntmps26
  go_wp2_with (first | (go_at_call 36; first | ((with_reducible refine (k.at_ _).mono ?_); rintro e w' ⟨rfl, xg, rfl⟩)))
  go_ret
  exact ⟨ret_bool E.out, (by repeat (first | with_reducible exact Below.refl _ _ | with_reducible refine bel_then ?_ _ | with_reducible refine bel_grow ?_ _ | with_reducible refine bel_alloc ?_ _ | with_reducible refine bel_drew ?_ | with_reducible refine bel_set ?_ (by simp) _ | with_reducible refine bel_setRow ?_ (by first | omega | (simp; done)) _))⟩
/-- Three whole numbers in a row. -/
def ar3 (A : Nat → Int) : Array Value := #[.int .i64 (A 0), .int .i64 (A 1), .int .i64 (A 2)]
theorem ar3_get (A : Nat → Int) (i : Nat) : (ar3 A)[i]? = if i < 3 then some (.int .i64 (A i)) else none := by
  match i with
  | 0 => rfl
  | 1 => rfl
  | 2 => rfl
  | n + 3 => rw [if_neg (by omega)]; rfl
theorem ar3_size (A : Nat → Int) : (ar3 A).size = 3 := rfl
theorem ar3_at (A : Nat → Int) (i : Nat) (h : i < (ar3 A).size) : (ar3 A)[i]'h = .int .i64 (A i) := by
  have hi : i < 3 := h
  have := ar3_get A i
  rw [if_pos hi] at this
  exact (Array.getElem?_eq_some_iff.1 this).2
attribute [go_sem] ar3_get ar3_at ar3_size
def pick3 (a : P3) (k : Nat) : Int := if k = 0 then a.x else if k = 1 then a.y else a.z
/-- The range so far. -/
def stR (o d l h : P3) : Nat → Option (Fr × Fr)
  | 0 => some (⟨0, 1⟩, ⟨1, 0⟩)
  | k + 1 => partR (stR o d l h k) (pick3 o k) (pick3 d k) (pick3 l k) (pick3 h k)
theorem stR_three (o d l h : P3) : lastR (stR o d l h 3) = rangeM o d l h := rfl
theorem stR_none (o d l h : P3) (k : Nat) (hk : stR o d l h k = none) : ∀ n, k ≤ n → stR o d l h n = none
  | 0, hn => by
    have e : k = 0 := by omega
    subst e
    exact hk
  | n + 1, hn => by
    by_cases e : k = n + 1
    · rw [← e]; exact hk
    · have := stR_none o d l h k hk n (by omega)
      unfold stR; rw [this]; rfl
/-- Bounds of what a range's ends may be. -/
def smallF (a : Fr) : Prop := (-262144 ≤ a.n ∧ a.n ≤ 262144) ∧ -65536 ≤ a.d ∧ a.d ≤ 65536
theorem smallF_in {a : Fr} (h : smallF a) : InFr a := by unfold smallF at h; unfold InFr; omega
theorem pick3_in {a : P3} {m : Int} (h : InP m a) (k : Nat) : -m ≤ pick3 a k ∧ pick3 a k ≤ m := by
  obtain ⟨h1, h2, h3⟩ := h
  unfold pick3; split
  · exact h1
  · split
    · exact h2
    · exact h3
theorem in_small {f s l h : Int} (hf : -65536 ≤ f ∧ f ≤ 65536) (hs : -32768 ≤ s ∧ s ≤ 32768) (hl : -131072 ≤ l ∧ l ≤ 131072) (hh : -131072 ≤ h ∧ h ≤ 131072) : smallF (inF f s l h) ∧ smallF (outF f s l h) := by
  unfold smallF inF outF
  split <;> simp only <;> omega
theorem part_small {lo hi : Fr} {f s l h : Int} {r : Fr × Fr} (hf : -65536 ≤ f ∧ f ≤ 65536) (hs : -32768 ≤ s ∧ s ≤ 32768) (hl : -131072 ≤ l ∧ l ≤ 131072) (hh : -131072 ≤ h ∧ h ≤ 131072) (h1 : smallF lo) (h2 : smallF hi) (hr : partR (some (lo, hi)) f s l h = some r) : smallF r.1 ∧ smallF r.2 := by
  obtain ⟨i1, i2⟩ := in_small hf hs hl hh
  unfold partR at hr
  simp only at hr
  split at hr
  · cases hr
  · split at hr
    · split at hr
      · cases hr
      · cases hr; exact ⟨h1, h2⟩
    · cases hr
      refine ⟨?_, ?_⟩
      · simp only; split <;> assumption
      · simp only; split <;> assumption
theorem okLo_right {a : Fr} (h : okLo a) : RightF a := .inl h.1
theorem okHi_right {a : Fr} (h : okHi a) : RightF a := h
theorem alloc_frac (a : Act) (o : Oper) (ho : o.op = .alloc 28) (w : World) : (execOp a.eval o).run Try.prog w = .ok (.value (.pointer (some ⟨w.heap.size, 0, none⟩))) (w.alloc (.cells #[.int .i64 0, .int .i64 0] 28)) := by
  unfold execOp
  rw [ho]
  kernel_rfl
set_option maxRecDepth 100000 in
set_option maxHeartbeats 2000000 in
theorem rRange_a (o d l h : P3) (ln : Gives Try.prog 24 #[.agg #[.int .i64 o.x, .int .i64 o.y, .int .i64 o.z], .agg #[.int .i64 d.x, .int .i64 d.y, .int .i64 d.z]] (.bool false)) : Gives Try.prog 12 #[.agg #[.int .i64 o.x, .int .i64 o.y, .int .i64 o.z], .agg #[.int .i64 d.x, .int .i64 d.y, .int .i64 d.z], .agg #[.int .i64 l.x, .int .i64 l.y, .int .i64 l.z, .int .i64 h.x, .int .i64 h.y, .int .i64 h.z]] (.tuple #[.agg #[.int .i64 0, .int .i64 0], .agg #[.int .i64 0, .int .i64 0], .bool false, .int .i64 21]) := by
  refine Gives.mk fun w => ?_
  go_enter Try.func12, Try.ntmps12
  go_wp2_with (first | (go_at_call 24; first | ((with_reducible refine (ln.at_ _).mono ?_); rintro e w' ⟨rfl, xg, rfl⟩)))
  refine bodyPost_ret (v := .tuple #[.agg #[.int .i64 0, .int .i64 0], .agg #[.int .i64 0, .int .i64 0], .bool false, .int .i64 21]) (by simp [results, Try.results12, go_sem]) rfl ⟨rfl, (by repeat (first | exact Below.refl _ _ | refine bel_then ?_ _ | refine bel_grow ?_ _ | refine bel_alloc ?_ _ | refine bel_drew ?_ | refine bel_set ?_ (by simp) _ | refine bel_setRow ?_ (by first | omega | (simp; done) | (refine Nat.le_trans ?_ (top_le _ _); simp; done) | (refine Nat.le_succ_of_le (Nat.le_trans ?_ (top_le _ _)); simp; done) | (refine Nat.le_trans ?_ (top_le _ _); simp only [World.size_alloc]; refine Nat.le_succ_of_le (Nat.le_trans ?_ (top_le _ _)); simp; done)) _))⟩
set_option maxRecDepth 100000 in
set_option maxHeartbeats 2000000 in
theorem rRange_b (o d l h : P3) (ln : Gives Try.prog 24 #[.agg #[.int .i64 o.x, .int .i64 o.y, .int .i64 o.z], .agg #[.int .i64 d.x, .int .i64 d.y, .int .i64 d.z]] (.bool true)) (wl : Gives Try.prog 25 #[.agg #[.int .i64 l.x, .int .i64 l.y, .int .i64 l.z], .int .i64 131072] (.bool false)) : Gives Try.prog 12 #[.agg #[.int .i64 o.x, .int .i64 o.y, .int .i64 o.z], .agg #[.int .i64 d.x, .int .i64 d.y, .int .i64 d.z], .agg #[.int .i64 l.x, .int .i64 l.y, .int .i64 l.z, .int .i64 h.x, .int .i64 h.y, .int .i64 h.z]] (.tuple #[.agg #[.int .i64 0, .int .i64 0], .agg #[.int .i64 0, .int .i64 0], .bool false, .int .i64 21]) := by
  refine Gives.mk fun w => ?_
  go_enter Try.func12, Try.ntmps12
  go_wp2_with (first | (go_at_call 24; first | ((with_reducible refine (ln.at_ _).mono ?_); rintro e w' ⟨rfl, xg, rfl⟩)) | (go_at_call 25; first | ((with_reducible refine (wl.at_ _).mono ?_); rintro e w' ⟨rfl, xg, rfl⟩)))
  refine bodyPost_ret (v := .tuple #[.agg #[.int .i64 0, .int .i64 0], .agg #[.int .i64 0, .int .i64 0], .bool false, .int .i64 21]) (by simp [results, Try.results12, go_sem]) rfl ⟨rfl, (by repeat (first | exact Below.refl _ _ | refine bel_then ?_ _ | refine bel_grow ?_ _ | refine bel_alloc ?_ _ | refine bel_drew ?_ | refine bel_set ?_ (by simp) _ | refine bel_setRow ?_ (by first | omega | (simp; done) | (refine Nat.le_trans ?_ (top_le _ _); simp; done) | (refine Nat.le_succ_of_le (Nat.le_trans ?_ (top_le _ _)); simp; done) | (refine Nat.le_trans ?_ (top_le _ _); simp only [World.size_alloc]; refine Nat.le_succ_of_le (Nat.le_trans ?_ (top_le _ _)); simp; done)) _))⟩
set_option maxRecDepth 100000 in
set_option maxHeartbeats 2000000 in
theorem rRange_c (o d l h : P3) (ln : Gives Try.prog 24 #[.agg #[.int .i64 o.x, .int .i64 o.y, .int .i64 o.z], .agg #[.int .i64 d.x, .int .i64 d.y, .int .i64 d.z]] (.bool true)) (wl : Gives Try.prog 25 #[.agg #[.int .i64 l.x, .int .i64 l.y, .int .i64 l.z], .int .i64 131072] (.bool true)) (wh : Gives Try.prog 25 #[.agg #[.int .i64 h.x, .int .i64 h.y, .int .i64 h.z], .int .i64 131072] (.bool false)) : Gives Try.prog 12 #[.agg #[.int .i64 o.x, .int .i64 o.y, .int .i64 o.z], .agg #[.int .i64 d.x, .int .i64 d.y, .int .i64 d.z], .agg #[.int .i64 l.x, .int .i64 l.y, .int .i64 l.z, .int .i64 h.x, .int .i64 h.y, .int .i64 h.z]] (.tuple #[.agg #[.int .i64 0, .int .i64 0], .agg #[.int .i64 0, .int .i64 0], .bool false, .int .i64 21]) := by
  refine Gives.mk fun w => ?_
  go_enter Try.func12, Try.ntmps12
  go_wp2_with (first | (go_at_call 24; first | ((with_reducible refine (ln.at_ _).mono ?_); rintro e w' ⟨rfl, xg, rfl⟩)) | (go_at_call 25; first | ((with_reducible refine (wl.at_ _).mono ?_); rintro e w' ⟨rfl, xg, rfl⟩) | ((with_reducible refine (wh.at_ _).mono ?_); rintro e w' ⟨rfl, xg, rfl⟩)))
  refine bodyPost_ret (v := .tuple #[.agg #[.int .i64 0, .int .i64 0], .agg #[.int .i64 0, .int .i64 0], .bool false, .int .i64 21]) (by simp [results, Try.results12, go_sem]) rfl ⟨rfl, (by repeat (first | exact Below.refl _ _ | refine bel_then ?_ _ | refine bel_grow ?_ _ | refine bel_alloc ?_ _ | refine bel_drew ?_ | refine bel_set ?_ (by simp) _ | refine bel_setRow ?_ (by first | omega | (simp; done) | (refine Nat.le_trans ?_ (top_le _ _); simp; done) | (refine Nat.le_succ_of_le (Nat.le_trans ?_ (top_le _ _)); simp; done) | (refine Nat.le_trans ?_ (top_le _ _); simp only [World.size_alloc]; refine Nat.le_succ_of_le (Nat.le_trans ?_ (top_le _ _)); simp; done)) _))⟩
end Go.Proofs.Ytngkimcnolmmoaa
