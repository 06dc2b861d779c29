/- A region in any order: reads and quiet calls, one block made, one store into it, and more operations that only read or name: any of them may fall behind or between. No program is imported. -/
import Derived.Test.YteigionfaodafabC7
namespace Go.Proofs.Yteigionfaodafab
open Go.RowKit
set_option linter.unusedVariables false
set_option linter.unusedSimpArgs false
section
variable {P : Program} {ops : Array Oper} {w : World} {md : Region.Mode}
variable {n N : Nat} {alc : Tmp} {obj obj' : Obj} {L : Ph → Array Bool → Act → Prop}
def anyM (P : Program) (md : Region.Mode) (ops : Array Oper) (w : World) (n : Nat) (alc : Tmp) (obj obj' : Obj) (L : Ph → Array Bool → Act → Prop) : Nat → Ph → Array Bool → Act → Prop
  | 0, s, listed, a => L s listed a
  | f + 1, s, listed, a => Region.ready md ops listed ≠ [] ∧ ∀ i ∈ Region.ready md ops listed,
      ((i ≠ n ∧ i ≠ n + 1) ∧ sureOp P ops w i (anyM P md ops w n alc obj obj' L f s (listed.setIfInBounds i true)) a) ∨
      (i = n ∧ s = .no ∧ ∀ x, anyM P md ops w n alc obj obj' L f (.made x) (listed.setIfInBounds i true) (a.put (some alc) (pt w x))) ∨
      (i = n + 1 ∧ ∃ x o, s = .made x ∧ ops[n + 1]? = some o ∧ StoreAt P o a w x obj obj' ∧ anyM P md ops w n alc obj obj' L f (.kept x) (listed.setIfInBounds i true) (a.put none undef))
theorem anyM_sound {g : Nat} {Q' : Exit → Act → World → Prop} (hm : Makes P ops n (some alc) obj) (hL : ∀ s listed a u, At2 w obj obj' s u → L s listed a → wpAny P md ops Q' g listed a u) :
    ∀ (f : Nat) (s : Ph) (listed : Array Bool) (a : Act) (u : World), At2 w obj obj' s u → anyM P md ops w n alc obj obj' L f s listed a → wpAny P md ops Q' (f + g) listed a u
  | 0, s, listed, a, u, hu, h => by rw [Nat.zero_add]; exact hL _ _ _ _ hu h
  | f + 1, s, listed, a, u, hu, h => by
    rw [show f + 1 + g = (f + g) + 1 by omega]
    refine ⟨fun h0 => absurd h0 h.1, fun i hi => ?_⟩
    rcases h.2 i hi with ⟨_, o, v, ho, hy, hk⟩ | ⟨hin, hsn, hk⟩ | ⟨hin, x, o, hsx, ho, hst, hk⟩
    · unfold wpOp
      simp only [ho]
      rcases hy with ⟨hw, hv⟩ | ⟨hw, rfl⟩
      · rw [if_pos hw]
        left
        obtain ⟨x, rfl⟩ := hu.grows
        have h3 := hv x
        unfold Oper.quietAt at h3
        unfold Oper.wp
        generalize (execOp a.eval o).run P (grow w x) = r at *
        cases r with
        | ok nx w' =>
          cases nx <;> simp only [Oper.quietUpon] at h3 <;> simp only [Oper.upon]
          case value u' =>
            obtain ⟨e1, e2⟩ := h3
            rw [e1, e2]
            exact anyM_sound hm hL f _ _ _ _ hu hk
          case skip =>
            obtain ⟨e1, e2⟩ := h3
            rw [e1, ← e2]
            exact anyM_sound hm hL f _ _ _ _ hu hk
          case enter fn args =>
            obtain ⟨e1, hc⟩ := h3
            rw [e1]
            exact hc.mono fun e w'' ⟨he, y, hy⟩ => by
              subst he hy
              exact anyM_sound hm hL f _ _ _ _ (hu.on y) hk
        | halt x w' => simp only [Oper.quietUpon] at h3
      · rw [if_neg (by rw [hw]; exact Bool.false_ne_true)]
        exact anyM_sound hm hL f _ _ _ _ hu hk
    · obtain ⟨o, ho, hdst, hg, hrun⟩ := hm alc rfl
      rw [hsn] at hu
      obtain ⟨x, hux⟩ := hu
      unfold wpOp
      rw [hin] at hk ⊢
      simp only [ho]
      rw [if_pos (by simp [Region.wanted, hg])]
      left
      unfold Oper.wp
      rw [hrun]
      simp only [Oper.upon, hdst]
      rw [hux]
      exact anyM_sound hm hL f (.made x) _ _ _ ⟨More.none_, rfl⟩ (hk x)
    · obtain ⟨hg, hdst, hrun⟩ := hst
      rw [hsx] at hu
      obtain ⟨y, hux⟩ := hu
      unfold wpOp
      rw [hin] at hk ⊢
      simp only [ho]
      rw [if_pos (by simp [Region.wanted, hg])]
      left
      unfold Oper.wp
      obtain ⟨y', nx, hnx, hr⟩ := hrun y
      rw [hux, hr]
      rcases hnx with rfl | rfl <;> simp only [Oper.upon, hdst] <;> exact anyM_sound hm hL f (.kept x) _ _ _ ⟨y', rfl⟩ hk
theorem anyM_first {i : Nat} {oi : Oper} {v : Value} (hm : Makes P ops n (some alc) obj) (hi : ops[i]? = some oi) (hsel : ∀ (j : Nat) (o : Oper) cs b, ops[j]? = some o → o.op ≠ .select cs b) (hin : i ≠ n ∧ i ≠ n + 1)
    (hdone : ∀ s listed a, L s listed a → Region.ready md ops listed = []) :
    ∀ (f : Nat) (s : Ph) (listed : Array Bool) (a : Act),
      (∀ j oj, ops[j]? = some oj → j ≠ i → listed.getD j true = false → (∀ e ∈ oj.after, Region.binds md e = true → e.on ≠ i) → oi.apart ops oj = true) →
      i ∈ Region.ready md ops listed → Sure P ops w oi v a →
      anyM P md ops w n alc obj obj' L f s (listed.setIfInBounds i true) (a.put oi.dst v) → anyM P md ops w n alc obj obj' L (f + 1) s listed a := by
  intro f
  induction f with
  | zero =>
    intro s listed a _ hr hy H
    have hun := (mem_ready.1 hr).1
    refine ⟨fun h => (by rw [h] at hr; cases hr), fun j hj => ?_⟩
    by_cases hji : j = i
    · subst hji; exact .inl ⟨hin, oi, v, hi, hy, H⟩
    · have h1 := hdone _ _ _ H
      have h2 := ready_mono hj hji
      rw [h1] at h2
      cases h2
  | succ f ih =>
    intro s listed a hfree hr hy H
    have hun := (mem_ready.1 hr).1
    refine ⟨fun h => (by rw [h] at hr; cases hr), fun j hj => ?_⟩
    by_cases hji : j = i
    · subst hji; exact .inl ⟨hin, oi, v, hi, hy, H⟩
    · obtain ⟨hjun, oj, hoj, hall⟩ := mem_ready.1 hj
      have hnot : ∀ e ∈ oj.after, Region.binds md e = true → e.on ≠ i := fun e he hb heq => by
        have h1 := hall e he hb
        rw [heq, getD_both hun] at h1
        cases h1
      obtain ⟨p1, p2, p3⟩ := Oper.apart_spec (hfree j oj hoj hji hjun hnot)
      have hfree' : ∀ k ok, ops[k]? = some ok → k ≠ i → (listed.setIfInBounds j true).getD k true = false →
          (∀ e ∈ ok.after, Region.binds md e = true → e.on ≠ i) → oi.apart ops ok = true := fun k ok hk hki hun' hno => by
        refine hfree k ok hk hki ?_ hno
        by_cases hjk : j = k
        · subst hjk; exact hjun
        · rw [getD_set_ne true hjk] at hun'; exact hun'
      have go : ∀ (s' : Ph) (u : Value), anyM P md ops w n alc obj obj' L f s' ((listed.setIfInBounds i true).setIfInBounds j true) ((a.put oi.dst v).put oj.dst u) →
          anyM P md ops w n alc obj obj' L (f + 1) s' (listed.setIfInBounds j true) (a.put oj.dst u) := fun s' u h => by
        refine ih s' (listed.setIfInBounds j true) (a.put oj.dst u) hfree' (ready_mono hr (Ne.symm hji)) (hy.put (fun cs b => hsel i oi cs b hi) p3) ?_
        rw [Array.setIfInBounds_comm _ _ hji, ← Act.put_comm a v u p2]
        exact h
      rcases H.2 j (ready_mono hj hji) with ⟨hj2, oj', u, hoj', hyj, hk⟩ | ⟨hj2, hs2, hk⟩ | ⟨hj2, x, o, hs2, ho, hst, hk⟩
      · obtain rfl : oj = oj' := Option.some.inj (hoj.symm.trans hoj')
        exact .inl ⟨hj2, oj, u, hoj, hyj.unput (fun cs b => hsel j oj cs b hoj) p1, go s u hk⟩
      · obtain ⟨o, ho, hdst, _, _⟩ := hm alc rfl
        subst hj2
        obtain rfl : oj = o := Option.some.inj (hoj.symm.trans ho)
        refine .inr (.inl ⟨rfl, hs2, fun x => ?_⟩)
        have := go (.made x) (pt w x)
        rw [hdst] at this
        exact this (hk x)
      · subst hj2
        obtain rfl : oj = o := Option.some.inj (hoj.symm.trans ho)
        have hd0 := hst.2.1
        refine .inr (.inr ⟨rfl, x, oj, hs2, hoj, hst.of_same (execOp_put oj (fun cs b => hsel _ oj cs b hoj) a oi.dst v p1).symm, ?_⟩)
        have := go (.kept x) undef
        rw [hd0] at this
        exact this hk
theorem anyM_lex {F : Nat} {s : Ph} {fin : Array Bool → Bool} {Q : Act → Prop} (hm : Makes P ops n (some alc) obj) (hsel : Region.noSelect ops = true) (hdone : ∀ s listed a, L s listed a → Region.ready md ops listed = [])
    (hfin : ∀ listed a, fin listed = true → Q a → anyM P md ops w n alc obj obj' L F s listed a) :
    ∀ (l : List Oper) (k : Nat) (listed : Array Bool) (a : Act), (∀ j, j < l.length → l[j]? = ops[k + j]?) → (∀ j, k ≤ j → j < k + l.length → j ≠ n ∧ j ≠ n + 1) →
    lexH md ops fin l.length k listed = true → sureL P ops w Q l a → anyM P md ops w n alc obj obj' L (l.length + F) s listed a
  | [], k, listed, a, _, hk, hB, h => by
    simp only [List.length_nil, Nat.zero_add]
    exact hfin listed a (by simpa [lexH] using hB) h
  | o :: l, k, listed, a, hl, hk, hB, h => by
    have h0 : ops[k]? = some o := by simpa using (hl 0 (by simp)).symm
    simp only [List.length_cons, lexH, Bool.and_eq_true] at hB
    obtain ⟨⟨hr, hf⟩, hB'⟩ := hB
    have hr' : k ∈ Region.ready md ops listed := by simpa using hr
    obtain ⟨v, hy, hK⟩ := h
    rw [show (o :: l).length + F = (l.length + F) + 1 by simp only [List.length_cons]; omega]
    exact anyM_first hm h0 (Region.noSelect_spec hsel) (hk k (Nat.le_refl _) (by simp)) hdone (l.length + F) s listed a (Region.free_spec h0 hf) hr' hy
      (anyM_lex hm hsel hdone hfin l (k + 1) _ _ (fun j hj => by have := hl (j + 1) (by simp; omega); simpa [Nat.add_assoc, Nat.add_comm 1 j] using this) (fun j h1 h2 => hk j (by omega) (by simp only [List.length_cons]; omega)) hB' hK)
end
section
variable {P : Program} {w : World}
def midB (l : List Oper) (n : Nat) : Bool :=
  Region.noSelect l.toArray && decide (n + 1 < l.length) &&
  lexH .any l.toArray (fun listed => decide (Region.ready .any l.toArray listed = [n]) && decide (Region.ready .any l.toArray (listed.setIfInBounds n true) = [n + 1]) &&
    lexH .any l.toArray (fun listed => decide (Region.ready .any l.toArray listed = [])) (l.length - (n + 2)) (n + 2) ((listed.setIfInBounds n true).setIfInBounds (n + 1) true)) n 0 (Array.replicate l.length false)
/-- Operation n makes a block, operation n + 1 stores into it; all others are quiet, and go in any order. -/
theorem wp_region_mid {id : Nat} {Q : Exit → Act → World → Prop} {a : Act} {l : List Oper} (n : Nat) (A : Act) (d : Tmp) (obj obj' : Obj) (hm : P.follows .mixedOrders = true) (hB : midB l n = true) (hd : dstsB a.tmps.size (l.take n) = true)
    (hmk : Makes P l.toArray n (some d) obj)
    (h : ∀ x : More, wpQuiet P l.toArray (fun u => ∃ y, u = grow (grow w x) y) (fun a' => a' = A) (l.take n) a)
    (hst : ∀ x : More, ∃ o, l[n + 1]? = some o ∧ StoreAt P o (A.put (some d) (.pointer (some ⟨(grow w x).heap.size, 0, none⟩))) w x obj obj')
    (ht : ∀ p : More, ∃ A2 : Act, dstsB (A.put (some d) (.pointer (some ⟨(grow w p).heap.size, 0, none⟩))).tmps.size (l.drop (n + 2)) = true ∧
      (∀ x : More, wpQuiet P l.toArray (fun u => ∃ y, u = grow (grow w x) y) (fun a' => a' = A2) (l.drop (n + 2)) (A.put (some d) (.pointer (some ⟨(grow w p).heap.size, 0, none⟩)))) ∧
      ∀ y : More, Q .normal A2 (grow ((grow w p).alloc obj') y)) : (Code.region id l.toArray true).wp P Q a w := by
  simp only [midB, Bool.and_eq_true, decide_eq_true_eq] at hB
  obtain ⟨⟨hsel, hn⟩, hlex⟩ := hB
  have htl : (l.take n).length = n := by simp; omega
  have hdl : (l.drop (n + 2)).length = l.length - (n + 2) := by simp
  refine wp_region_any hm ?_
  have hu : At2 w obj obj' .no { w with drawn := w.drawn + 1 } := grow_of (bel_drew (Below.refl _ _))
  have hdone : ∀ (s : Ph) (listed : Array Bool) (a : Act), (Region.ready .any l.toArray listed = [] ∧ ∃ x, s = .kept x ∧ ∀ y, Q .normal a (grow ((grow w x).alloc obj') y)) → Region.ready .any l.toArray listed = [] := fun s listed a h => h.1
  have H := anyM_lex (P := P) (w := w) (md := .any) (ops := l.toArray) (n := n) (alc := d) (obj := obj) (obj' := obj') (s := .no)
    (L := fun s listed a => Region.ready .any l.toArray listed = [] ∧ ∃ x, s = .kept x ∧ ∀ y, Q .normal a (grow ((grow w x).alloc obj') y)) (F := (l.length - (n + 2)) + 2)
    (fin := fun listed => decide (Region.ready .any l.toArray listed = [n]) && decide (Region.ready .any l.toArray (listed.setIfInBounds n true) = [n + 1]) &&
      lexH .any l.toArray (fun listed => decide (Region.ready .any l.toArray listed = [])) (l.length - (n + 2)) (n + 2) ((listed.setIfInBounds n true).setIfInBounds (n + 1) true)) (Q := fun a => a = A) hmk hsel hdone
    (fun listed a hf hq => by
      simp only [Bool.and_eq_true, decide_eq_true_eq] at hf
      refine ⟨by rw [hf.1.1]; simp, fun i hi => .inr (.inl ?_)⟩
      rw [hf.1.1] at hi
      obtain rfl : i = n := by simpa using hi
      refine ⟨rfl, rfl, fun x => ⟨by rw [hf.1.2]; simp, fun j hj => .inr (.inr ?_)⟩⟩
      rw [hf.1.2] at hj
      obtain rfl : j = i + 1 := by simpa using hj
      obtain ⟨o, ho, hst'⟩ := hst x
      obtain ⟨A2, hd2, h2, h3⟩ := ht x
      refine ⟨rfl, x, o, rfl, by simpa using ho, by rw [hq]; exact hst', ?_⟩
      have key := anyM_lex (P := P) (w := w) (md := .any) (ops := l.toArray) (n := i) (alc := d) (obj := obj) (obj' := obj') (s := .kept x) (F := 0)
        (L := fun s listed a => Region.ready .any l.toArray listed = [] ∧ ∃ x, s = .kept x ∧ ∀ y, Q .normal a (grow ((grow w x).alloc obj') y))
        (fin := fun listed => decide (Region.ready .any l.toArray listed = [])) (Q := fun a => a = A2) hmk hsel hdone
        (fun listed a hf hq => ⟨by simpa using hf, x, rfl, by rw [hq]; exact h3⟩) (l.drop (i + 2)) (i + 2) ((listed.setIfInBounds i true).setIfInBounds (i + 1) true) (A.put (some d) (pt w x))
        (fun j hj => by simp [List.getElem?_drop]) (fun j h1 h2 => by omega) (by rw [hdl]; exact hf.2) (sure_of_quiet (Q := fun a => a = A2) rfl _ _ hd2 h2)
      rw [hdl, Nat.add_zero] at key
      rw [hq]
      exact key) (l.take n) 0 (Array.replicate l.length false) a (fun j hj => by
      rw [htl] at hj
      simp [hj]) (fun j _ h2 => by rw [htl] at h2; omega) (by rw [htl]; exact hlex) (sure_of_quiet (Q := fun a => a = A) rfl _ _ hd h)
  have S := anyM_sound (P := P) (Q' := Q) (g := 0) hmk (fun s listed a u hu hl => by
    obtain ⟨hq, x, rfl, h3⟩ := hl
    obtain ⟨y, rfl⟩ := hu
    exact ⟨hq, h3 y⟩) _ _ _ _ _ hu H
  rw [htl, show n + (l.length - (n + 2) + 2) + 0 = l.length by omega] at S
  simpa using S
end
end Go.Proofs.Yteigionfaodafab
