/- A region in any order in which some operations change the memory one behind the other, all the others read. No program is imported. -/
import Derived.Test.YtpdnaceggpdleabC17
namespace Go.Proofs.Ytpdnaceggpdleab
open Go.RowKit
set_option linter.unusedVariables false
set_option linter.unusedSimpArgs false
section
variable {P : Program} {Q : Exit → Act → World → Prop} {R : Nat → Value → Prop} {a0 : Act}
/-- The world, by how many of the operations ps have been done, in their order. -/
def PhN (ps : List Nat) (us : Nat → World) (listed : Array Bool) (w : World) : Prop :=
  ∃ k, k ≤ ps.length ∧ w = us k ∧ ∀ i (h : i < ps.length), ps[i] < listed.size ∧ (listed.getD ps[i] false = true ↔ i < k)
theorem phN_start {ps : List Nat} {us : Nat → World} {n : Nat} (h : ∀ p ∈ ps, p < n) : PhN ps us (Array.replicate n false) (us 0) :=
  ⟨0, Nat.zero_le _, rfl, fun i hi => ⟨by simpa using h _ (List.getElem_mem hi), by simp [Array.getD]⟩⟩
theorem monoN_read {ops : Array Oper} {ps : List Nat} {us : Nat → World} {i : Nat} {o : Oper} (hg : o.guard = none) (hp : i ∉ ps)
    (h : ∀ (a : Act) (u : World), (∃ k, k ≤ ps.length ∧ u = us k) → (∀ t, (∀ (j : Nat) (o : Oper), ops[j]? = some o → o.dst ≠ some t) → a.tmps[t]? = a0.tmps[t]?) →
      (∀ e ∈ o.after, Region.binds .any e = true → ∀ (oj : Oper) (d : Tmp), ops[e.on]? = some oj → oj.dst = some d → ∃ v, a.tmps[d]? = some v ∧ R e.on v) → ∃ v, (execOp a.eval o).run P u = .ok (.value v) u ∧ R i v) : MonoKS P ops R a0 (PhN ps us) Q i o :=
  ⟨hg, fun a w listed hJ hu hall hsz hdf hk hgot => by
    obtain ⟨k, h1, h2, h3⟩ := hJ
    obtain ⟨v, hr, hR⟩ := h a w ⟨k, h1, h2⟩ hk hgot
    refine wp_value hr ⟨v, rfl, ⟨k, h1, h2, fun j hj => ?_⟩, fun _ _ => hR⟩
    obtain ⟨h4, h5⟩ := h3 j hj
    refine ⟨by simpa using h4, ?_⟩
    rw [getD_set_ne false (fun e => hp (by rw [e]; exact List.getElem_mem hj))]
    exact h5⟩
theorem monoN_chg {ops : Array Oper} {ps : List Nat} {us : Nat → World} {i : Nat} {o : Oper} (hg : o.guard = none) (k : Nat) (hk : k < ps.length) (hps : ps[k] = i) (hnd : ps.Nodup)
    (hw : k = 0 ∨ ∃ e ∈ o.after, Region.binds .any e = true ∧ some e.on = ps[k - 1]?)
    (h : ∀ (a : Act), (∀ t, (∀ (j : Nat) (o : Oper), ops[j]? = some o → o.dst ≠ some t) → a.tmps[t]? = a0.tmps[t]?) →
      (∀ e ∈ o.after, Region.binds .any e = true → ∀ (oj : Oper) (d : Tmp), ops[e.on]? = some oj → oj.dst = some d → ∃ v, a.tmps[d]? = some v ∧ R e.on v) → ∃ v, (execOp a.eval o).run P (us k) = .ok (.value v) (us (k + 1)) ∧ R i v) : MonoKS P ops R a0 (PhN ps us) Q i o :=
  ⟨hg, fun a w listed hJ hu hall hsz hdf hkk hgot => by
    obtain ⟨k', h1, h2, h3⟩ := hJ
    obtain ⟨hif, _⟩ := getD_tf hu
    have hle : k' ≤ k := by
      have := (h3 k hk).2
      rw [hps, hif] at this
      have : ¬ k < k' := fun h => by have := this.2 h; cases this
      omega
    have hge : k ≤ k' := by
      rcases hw with h0 | ⟨e, he, hb, heq⟩
      · omega
      · rcases Nat.eq_zero_or_pos k with h0 | h0
        · omega
        · rw [List.getElem?_eq_getElem (by omega)] at heq
          have hd := hall e he hb
          rw [Option.some.inj heq] at hd
          have := (h3 (k - 1) (by omega)).2.1 hd
          omega
    obtain rfl : k = k' := by omega
    subst h2
    obtain ⟨v, hr, hR⟩ := h a hkk hgot
    refine wp_value hr ⟨v, rfl, ⟨k + 1, hk, rfl, fun j hj => ?_⟩, fun _ _ => hR⟩
    obtain ⟨h4, h5⟩ := h3 j hj
    refine ⟨by simpa using h4, ?_⟩
    by_cases e : j = k
    · subst e
      rw [hps] at h4 ⊢
      exact ⟨fun _ => by omega, fun _ => getD_self h4⟩
    · have hne : i ≠ ps[j] := fun e2 => e (((List.getElem_inj hnd).1 (e2.symm.trans hps.symm)))
      rw [getD_set_ne false hne, h5]
      omega⟩
theorem phN_end {ps : List Nat} {us : Nat → World} {n : Nat} {listed : Array Bool} {w : World} (h : PhN ps us listed w) (hq : ∀ p ∈ ps, p < n) (hall : ∀ j, j < n → listed.getD j false = true) : w = us ps.length := by
  obtain ⟨k, h1, rfl, h3⟩ := h
  rcases Nat.eq_zero_or_pos ps.length with h0 | h0
  · congr 1; omega
  · have := (h3 (ps.length - 1) (by omega)).2.1 (hall _ (hq _ (List.getElem_mem _)))
    congr 1; omega
end
end Go.Proofs.Ytpdnaceggpdleab
