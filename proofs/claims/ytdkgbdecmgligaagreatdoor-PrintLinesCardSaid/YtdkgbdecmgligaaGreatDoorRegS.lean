/- A region that draws its order: its first operation (a name for where the last one stores) may come at any time; one operation makes a row of one thing (a slice of a literal cell row); what is behind goes in one order. No program is imported. -/
import Derived.Test.YtdkgbdecmgligaaGreatDoorMRegion
import Derived.OrdersHeld
namespace Go.Proofs.YtdkgbdecmgligaaGreatDoor
open Go.RowKit
set_option linter.unusedVariables false
set_option linter.unusedSimpArgs false
set_option linter.unnecessarySimpa false
section
def sink1 (md : Region.Mode) (ops : Array Oper) (n : Nat) : Bool :=
  (List.range n).all fun i => decide (i = 0) || (List.range (n + 1)).any fun j => decide (i < j) && Region.waitsFor md ops j i
/-- While an operation of the head but the first one is open, none of the tail may come up. -/
theorem waits1 {md : Region.Mode} {ops : Array Oper} {n : Nat} {listed : Array Bool} (hs : sink1 md ops n = true) (hc : Region.chainB md ops n = true) (hn : n < ops.size) (inv : HeadInv md ops n listed) (i : Nat) (h0 : 0 < i) (hi : i < n) (hun : listed.getD i true = false) : ∀ t, n ≤ t → t ∉ Region.ready md ops listed := by
  suffices H : ∀ (d i : Nat), n - i = d → 0 < i → i < n → listed.getD i true = false → ∀ t, n ≤ t → t ∉ Region.ready md ops listed from H _ i rfl h0 hi hun
  intro d
  induction d using Nat.strongRecOn with
  | _ d ih =>
    intro i hd h0 hi hun t ht hr
    obtain ⟨_, ot, hot, hall⟩ := mem_ready.1 hr
    have htlt : t < ops.size := (Array.getElem?_eq_some_iff.1 hot).1
    rcases Nat.eq_or_lt_of_le ht with htn | htn
    · have h1 := List.all_eq_true.1 hs i (List.mem_range.2 (by omega))
      simp only [Bool.or_eq_true, decide_eq_true_eq] at h1
      rcases h1 with h1 | h1
      · omega
      obtain ⟨j, hj, hj2⟩ := List.any_eq_true.1 h1
      simp only [Bool.and_eq_true, decide_eq_true_eq] at hj2
      obtain ⟨oj, hoj, e, he, hb, hon⟩ := Region.waitsFor_spec hj2.2
      have hjle : j ≤ t := by have := List.mem_range.1 hj; omega
      rcases Nat.eq_or_lt_of_le hjle with hjt | hjt
      · subst hjt
        have : oj = ot := Option.some.inj (hoj.symm.trans hot)
        subst this
        have h2 := hall e he hb
        rw [hon, getD_both hun] at h2
        cases h2
      · cases hl : listed.getD j false with
        | true =>
          have h2 := inv.closed j oj hoj hl e he hb
          rw [hon, getD_both hun] at h2
          cases h2
        | false =>
          exact ih (n - j) (by omega) j rfl (by omega) (by omega) (getD_in (by rw [inv.size]; omega) hl) t ht hr
    · have h1 := List.all_eq_true.1 hc t (List.mem_range.2 htlt)
      simp only [Bool.or_eq_true, decide_eq_true_eq] at h1
      rcases h1 with h1 | h1
      · omega
      · obtain ⟨o', ho', e, he, hb, hon⟩ := Region.waitsFor_spec h1
        have : o' = ot := Option.some.inj (ho'.symm.trans hot)
        subst this
        have h2 := hall e he hb
        rw [hon, getD_both (inv.tail (t - 1) (by omega) (by omega))] at h2
        cases h2
theorem held_of_any {P : Program} {md : Region.Mode} {ops : Array Oper} {Q : Exit → Act → World → Prop} : ∀ (f : Nat) (listed : Array Bool) (a : Act) (w : World), wpAny P md ops Q f listed a w → wpAnyH P md ops Q (fun _ => True) f listed a w
  | 0, _, _, _, h => h
  | f + 1, _, _, _, h => ⟨h.1, fun i hi => wpOp_mono (fun a' w' h' => ⟨trivial, held_of_any f _ a' w' h'⟩) (h.2 i hi)⟩
variable {P : Program} {ops : Array Oper} {w : World} {md : Region.Mode} {x0 : Operand}
variable {n N : Nat} {alc : Option Tmp} {obj : Obj} {L : Option More → Array Bool → Act → Prop}
variable {P : Program} {w : World}
def ptS_ (w : World) (x : More) : Value := .slice (some ⟨(grow w x).heap.size, 0, none⟩) 1 1
/-- What the row's making does, in a frame. -/
def MakesA (P : Program) (ops : Array Oper) (n : Nat) (d : Tmp) (obj : Obj) (a : Act) : Prop :=
  ∃ o, ops[n]? = some o ∧ o.dst = some d ∧ o.guard = none ∧ ∀ u : World, (execOp a.eval o).run P u = .ok (.value (.slice (some ⟨u.heap.size, 0, none⟩) 1 1)) (u.alloc obj)
def anyUS_ (P : Program) (md : Region.Mode) (ops : Array Oper) (w : World) (n : Nat) (alc : Option Tmp) (obj : Obj) (L : Option More → Array Bool → Act → Prop) : Nat → Option More → Array Bool → Act → Prop
  | 0, s, listed, a => L s listed a
  | f + 1, s, listed, a => Region.ready md ops listed ≠ [] ∧ ∀ i ∈ Region.ready md ops listed,
      (i < n ∧ sureOp P ops w i (anyUS_ P md ops w n alc obj L f s (listed.setIfInBounds i true)) a) ∨
      (i = n ∧ s = none ∧ ∃ d, alc = some d ∧ MakesA P ops n d obj a ∧ ∀ x, anyUS_ P md ops w n alc obj L f (some x) (listed.setIfInBounds i true) (a.put (some d) (ptS_ w x)))
theorem any_soundS_ {g : Nat} {Q' : Exit → Act → World → Prop} (hL : ∀ s listed a u, At w obj s u → L s listed a → wpAny P md ops Q' g listed a u) :
    ∀ (f : Nat) (s : Option More) (listed : Array Bool) (a : Act) (u : World), At w obj s u → anyUS_ P md ops w n alc obj L f s listed a → wpAny P md ops Q' (f + g) listed a u
  | 0, s, listed, a, u, hu, h => by rw [Nat.zero_add]; exact hL _ _ _ _ hu h
  | f + 1, s, listed, a, u, hu, h => by
    rw [show f + 1 + g = (f + g) + 1 by omega]
    refine ⟨fun h0 => absurd h0 h.1, fun i hi => ?_⟩
    rcases h.2 i hi with ⟨_, o, v, ho, hy, hk⟩ | ⟨hin, hsn, d, hd, hmk, hk⟩
    · unfold wpOp
      simp only [ho]
      rcases hy with ⟨hw, hv⟩ | ⟨hw, rfl⟩
      · rw [if_pos hw]
        left
        obtain ⟨x, rfl⟩ := hu.grows
        have h3 := hv x
        unfold Oper.quietAt at h3
        unfold Oper.wp
        generalize (execOp a.eval o).run P (grow w x) = r at *
        cases r with
        | ok nx w' =>
          cases nx <;> simp only [Oper.quietUpon] at h3 <;> simp only [Oper.upon]
          case value u' =>
            obtain ⟨e1, e2⟩ := h3
            rw [e1, e2]
            exact any_soundS_ hL f _ _ _ _ hu hk
          case skip =>
            obtain ⟨e1, e2⟩ := h3
            rw [e1, ← e2]
            exact any_soundS_ hL f _ _ _ _ hu hk
          case enter fn args =>
            obtain ⟨e1, hc⟩ := h3
            rw [e1]
            exact hc.mono fun e w'' ⟨he, y, hy⟩ => by
              subst he hy
              exact any_soundS_ hL f _ _ _ _ (hu.on y) hk
        | halt x w' => simp only [Oper.quietUpon] at h3
      · rw [if_neg (by rw [hw]; exact Bool.false_ne_true)]
        exact any_soundS_ hL f _ _ _ _ hu hk
    · obtain ⟨o, ho, hdst, hg, hrun⟩ := hmk
      rw [hsn] at hu
      obtain ⟨x, hux⟩ := hu
      unfold wpOp
      rw [hin] at hk ⊢
      simp only [ho]
      rw [if_pos (by simp [Region.wanted, hg])]
      left
      unfold Oper.wp
      rw [hrun]
      simp only [Oper.upon, hdst]
      rw [hux]
      exact any_soundS_ hL f (some x) _ _ _ ⟨More.none_, rfl⟩ (hk x)
theorem any_firstS_ {i : Nat} {oi : Oper} {v : Value} (hi : ops[i]? = some oi) (hsel : ∀ (j : Nat) (o : Oper) cs b, ops[j]? = some o → o.op ≠ .select cs b) (hin : i < n) (hi0 : 0 < i) (hnN : n ≤ N) (hN : ∀ d, alc = some d → N = n + 1)
    (hs : sink1 md ops N = true) (hc : Region.chainB md ops N = true) (hNs : N < ops.size) (hdone : ∀ s listed a, L s listed a → ∀ j ∈ Region.ready md ops listed, N ≤ j) :
    ∀ (f : Nat) (s : Option More) (listed : Array Bool) (a : Act), HeadInv md ops N listed →
      (∀ j oj, ops[j]? = some oj → j ≠ i → listed.getD j true = false → (∀ e ∈ oj.after, Region.binds md e = true → e.on ≠ i) → oi.apart ops oj = true) →
      i ∈ Region.ready md ops listed → Sure P ops w oi v a →
      anyUS_ P md ops w n alc obj L f s (listed.setIfInBounds i true) (a.put oi.dst v) → anyUS_ P md ops w n alc obj L (f + 1) s listed a := by
  intro f
  induction f with
  | zero =>
    intro s listed a inv _ hr hy H
    have hun := (mem_ready.1 hr).1
    refine ⟨fun h => (by rw [h] at hr; cases hr), fun j hj => ?_⟩
    have hjn : j < N := by
      rcases Nat.lt_or_ge j N with h | h
      · exact h
      · exact absurd hj (waits1 hs hc hNs inv i hi0 (by omega) hun j h)
    by_cases hji : j = i
    · subst hji; exact .inl ⟨hin, oi, v, hi, hy, H⟩
    · have := hdone _ _ _ H j (ready_mono hj hji)
      omega
  | succ f ih =>
    intro s listed a inv hfree hr hy H
    have hun := (mem_ready.1 hr).1
    refine ⟨fun h => (by rw [h] at hr; cases hr), fun j hj => ?_⟩
    have hjn : j < N := by
      rcases Nat.lt_or_ge j N with h | h
      · exact h
      · exact absurd hj (waits1 hs hc hNs inv i hi0 (by omega) hun j h)
    by_cases hji : j = i
    · subst hji; exact .inl ⟨hin, oi, v, hi, hy, H⟩
    · obtain ⟨hjun, oj, hoj, hall⟩ := mem_ready.1 hj
      have hnot : ∀ e ∈ oj.after, Region.binds md e = true → e.on ≠ i := fun e he hb heq => by
        have h1 := hall e he hb
        rw [heq, getD_both hun] at h1
        cases h1
      obtain ⟨p1, p2, p3⟩ := Oper.apart_spec (hfree j oj hoj hji hjun hnot)
      have hfree' : ∀ k ok, ops[k]? = some ok → k ≠ i → (listed.setIfInBounds j true).getD k true = false →
          (∀ e ∈ ok.after, Region.binds md e = true → e.on ≠ i) → oi.apart ops ok = true := fun k ok hk hki hun' hno => by
        refine hfree k ok hk hki ?_ hno
        by_cases hjk : j = k
        · subst hjk; exact hjun
        · rw [getD_set_ne true hjk] at hun'; exact hun'
      have go : ∀ (s' : Option More) (u : Value), anyUS_ P md ops w n alc obj L f s' ((listed.setIfInBounds i true).setIfInBounds j true) ((a.put oi.dst v).put oj.dst u) →
          anyUS_ P md ops w n alc obj L (f + 1) s' (listed.setIfInBounds j true) (a.put oj.dst u) := fun s' u h => by
        refine ih s' (listed.setIfInBounds j true) (a.put oj.dst u) (inv.set hj hjn) hfree' (ready_mono hr (Ne.symm hji)) (hy.put (fun cs b => hsel i oi cs b hi) p3) ?_
        rw [Array.setIfInBounds_comm _ _ hji, ← Act.put_comm a v u p2]
        exact h
      rcases H.2 j (ready_mono hj hji) with ⟨hj2, oj', u, hoj', hyj, hk⟩ | ⟨hj2, hs2, d, hd, hmk, hk⟩
      · obtain rfl : oj = oj' := Option.some.inj (hoj.symm.trans hoj')
        exact .inl ⟨hj2, oj, u, hoj, hyj.unput (fun cs b => hsel j oj cs b hoj) p1, go s u hk⟩
      · obtain ⟨o, ho, hdst, hgd, hrun⟩ := hmk
        subst hj2
        obtain rfl : oj = o := Option.some.inj (hoj.symm.trans ho)
        refine .inr ⟨rfl, hs2, d, hd, ⟨oj, hoj, hdst, hgd, fun u => by rw [← execOp_put oj (fun cs b => hsel _ oj cs b hoj) a oi.dst v p1]; exact hrun u⟩, fun x => ?_⟩
        have := go (some x) (ptS_ w x)
        rw [hdst] at this
        exact this (hk x)
/-! the order of the text -/
theorem any_lexS_ {F : Nat} {fin : Array Bool → Bool} {Q : Act → Prop} (hsel : Region.noSelect ops = true) (hnN : n ≤ N) (hN : ∀ d, alc = some d → N = n + 1)
    (hs : sink1 md ops N = true) (hc : Region.chainB md ops N = true) (hNs : N < ops.size) (hdone : ∀ s listed a, L s listed a → ∀ j ∈ Region.ready md ops listed, N ≤ j)
    (hfin : ∀ listed a, HeadInv md ops N listed → fin listed = true → Q a → anyUS_ P md ops w n alc obj L F none listed a) :
    ∀ (l : List Oper) (k : Nat) (listed : Array Bool) (a : Act), (∀ j, j < l.length → l[j]? = ops[k + j]?) → 0 < k → k + l.length = n → HeadInv md ops N listed →
    lexH md ops fin l.length k listed = true → sureL P ops w Q l a → anyUS_ P md ops w n alc obj L (l.length + F) none listed a
  | [], k, listed, a, _, _, hk, inv, hB, h => by
    simp only [List.length_nil, Nat.zero_add]
    exact hfin listed a inv (by simpa [lexH] using hB) h
  | o :: l, k, listed, a, hl, hk0, hk, inv, hB, h => by
    have h0 : ops[k]? = some o := by simpa using (hl 0 (by simp)).symm
    simp only [List.length_cons, lexH, Bool.and_eq_true] at hB
    obtain ⟨⟨hr, hf⟩, hB'⟩ := hB
    have hkn : k < n := by simp only [List.length_cons] at hk; omega
    have hr' : k ∈ Region.ready md ops listed := by simpa using hr
    obtain ⟨v, hy, hK⟩ := h
    rw [show (o :: l).length + F = (l.length + F) + 1 by simp only [List.length_cons]; omega]
    exact any_firstS_ h0 (Region.noSelect_spec hsel) hkn hk0 hnN hN hs hc hNs hdone (l.length + F) none listed a inv (Region.free_spec h0 hf) hr' hy
      (any_lexS_ hsel hnN hN hs hc hNs hdone hfin l (k + 1) _ _ (fun j hj => by have := hl (j + 1) (by simp; omega); simpa [Nat.add_assoc, Nat.add_comm 1 j] using this) (by omega) (by simp only [List.length_cons] at hk; omega) (inv.set hr' (by omega)) hB' hK)
/-! one value, out of walks from wherever the region has come -/
def makeS (l : List Oper) (n : Nat) : Bool :=
  Region.noSelect l.toArray && decide (n + 1 < l.length) && decide (0 < n) && sink1 .any l.toArray (n + 1) && Region.chainB .any l.toArray (n + 1) && ((Region.ready .any l.toArray (Array.replicate l.length false)).contains 0 && Region.free .any l.toArray (Array.replicate l.length false) 0) &&
  lexH .any l.toArray (fun listed => decide (Region.ready .any l.toArray listed = [n]) && Region.seqB .any l.toArray (l.length - (n + 1)) (n + 1) (listed.setIfInBounds n true)) (n - 1) 1 ((Array.replicate l.length false).setIfInBounds 0 true)
theorem wp_region_makeS_ {id : Nat} {Q : Exit → Act → World → Prop} {a : Act} {o0 : Oper} {l : List Oper} (n : Nat) (A : Act) (v0 : Value) (d : Tmp) (obj : Obj) (hm : P.follows .mixedOrders = true) (hB : makeS (o0 :: l) n = true) (hd : dstsB (a.put o0.dst v0).tmps.size ((o0 :: l).take n).tail = true)
    (hmv : o0.op = .move x0) (hv0 : a.eval x0 = v0) (hg0 : o0.guard = none) (hQ : ∀ c a2 w, Q (.panic c) (a2.put o0.dst v0) w → Q (.panic c) a2 w)
    (hmk : MakesA P (o0 :: l).toArray n d obj A)
    (h : ∀ x : More, wpQuiet P (o0 :: l).toArray (fun u => ∃ y, u = grow (grow w x) y) (fun a' => a' = A) ((o0 :: l).take n).tail (a.put o0.dst v0))
    (ht : ∀ x y : More, wpList P (o0 :: l).toArray Q ((o0 :: l).drop (n + 1)) (A.put (some d) (.slice (some ⟨(grow w x).heap.size, 0, none⟩) 1 1)) (grow ((grow w x).alloc obj) y)) : (Code.region id (o0 :: l).toArray true).wp P Q a w := by
  subst hv0
  simp only [makeS, Bool.and_eq_true, decide_eq_true_eq] at hB
  obtain ⟨⟨⟨⟨⟨⟨hsel, hn⟩, hn0⟩, hs⟩, hc⟩, ⟨hr0, hf0⟩⟩, hlex⟩ := hB
  generalize hL0 : o0 :: l = L0 at *
  have hzero : L0.toArray[0]? = some o0 := by rw [← hL0]; rfl
  have htl : (L0.take n).tail.length = n - 1 := by simp; omega
  refine wp_region_any hm ?_
  have hsz : L0.toArray.size = L0.length := by simp
  rw [hsz]
  obtain ⟨m, hm2⟩ : ∃ m, L0.length = m + 1 := ⟨L0.length - 1, by omega⟩
  refine wpAny_of_held (S := fun _ => True) _ _ _ _ ?_
  rw [show wpAnyH P .any L0.toArray Q (fun _ => True) L0.length = wpAnyH P .any L0.toArray Q (fun _ => True) (m + 1) from by rw [hm2]]
  refine wpAnyH_take (v := a.eval x0) hzero hsel hf0 hr0 hQ (.inl ⟨by simp [Region.wanted, hg0], fun w _ => by unfold execOp; rw [hmv]; rfl⟩) trivial (held_of_any _ _ _ _ ?_)
  have hu : At w obj none { w with drawn := w.drawn + 1 } := grow_of (bel_drew (Below.refl _ _))
  have inv1 : HeadInv .any L0.toArray (n + 1) ((Array.replicate L0.length false).setIfInBounds 0 true) := (inv0 L0 (n + 1)).set (by simpa using hr0) (by omega)
  have H := any_lexS_ (P := P) (w := w) (md := .any) (ops := L0.toArray) (n := n) (N := n + 1) (alc := some d) (obj := obj)
    (L := fun s listed a => Region.seqB .any L0.toArray (L0.length - (n + 1)) (n + 1) listed = true ∧ ∃ x, s = some x ∧ a = A.put (some d) (ptS_ w x)) (F := 1)
    (fin := fun listed => decide (Region.ready .any L0.toArray listed = [n]) && Region.seqB .any L0.toArray (L0.length - (n + 1)) (n + 1) (listed.setIfInBounds n true)) (Q := fun a => a = A) hsel (by omega) (fun d hd => rfl) hs hc (by simpa using hn)
    (fun s listed a h => seqB_ready h.1)
    (fun listed a _ hf hq => by
      simp only [Bool.and_eq_true, decide_eq_true_eq] at hf
      refine ⟨by rw [hf.1]; simp, fun i hi => .inr ?_⟩
      rw [hf.1] at hi
      obtain rfl : i = n := by simpa using hi
      exact ⟨rfl, rfl, d, rfl, by rw [hq]; exact hmk, fun x => ⟨hf.2, x, rfl, by rw [hq]⟩⟩) (L0.take n).tail 1 ((Array.replicate L0.length false).setIfInBounds 0 true) (a.put o0.dst (a.eval x0)) (fun j hj => by
      rw [htl] at hj
      rw [List.getElem?_tail, List.getElem?_take_of_lt (by omega)]
      simp [Nat.add_comm 1 j]) (by omega) (by rw [htl]; omega) inv1 (by rw [htl]; exact hlex) (sure_of_quiet (Q := fun a => a = A) rfl _ _ hd h)
  have S := any_soundS_ (P := P) (Q' := Q) (g := L0.length - (n + 1)) (obj := obj) (fun s listed a u hu hl => by
    obtain ⟨hq, x, rfl, rfl⟩ := hl
    obtain ⟨y, rfl⟩ := hu
    have := wpAny_of_seq (md := .any) (Q' := Q) (ops := L0.toArray) (L0.drop (n + 1)) (n + 1) listed (A.put (some d) (ptS_ w x)) (grow ((grow w x).alloc obj) y) (fun j => by simp [List.getElem?_drop]) (by simpa using hq) (ht x y)
    simpa using this) _ _ _ _ _ hu H
  rw [htl, show n - 1 + 1 + (L0.length - (n + 1)) = m by omega] at S
  exact S
end
end Go.Proofs.YtdkgbdecmgligaaGreatDoor
