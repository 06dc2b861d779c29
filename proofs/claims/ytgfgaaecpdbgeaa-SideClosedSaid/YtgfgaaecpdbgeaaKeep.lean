/- A region in any order: reads and quiet calls, one block made, one store into it, and then a forced tail; operations that only read what the store leaves alone may fall behind it. No program is imported. -/
import Derived.Test.YtgfgaaecpdbgeaaRegion
import Derived.Test.YtgfgaaecpdbgeaaBlk
import Derived.Deep.WholeRow
namespace Go.Proofs.Ytgfgaaecpdbgeaa
open Go.RowKit
set_option linter.unusedVariables false
set_option linter.unusedSimpArgs false
section
variable {P : Program} {ops : Array Oper} {w : World} {md : Region.Mode}
inductive Ph where
  | no
  | made (x : More)
  | kept (x : More)
def At2 (w : World) (obj obj' : Obj) : Ph → World → Prop
  | .no, u => ∃ x, u = grow w x
  | .made x, u => ∃ y, u = grow ((grow w x).alloc obj) y
  | .kept x, u => ∃ y, u = grow ((grow w x).alloc obj') y
theorem At2.grows {obj obj' : Obj} {s : Ph} {u : World} (h : At2 w obj obj' s u) : ∃ x, u = grow w x := by
  cases s with
  | no => exact h
  | made x =>
    obtain ⟨y, rfl⟩ := h
    exact grow_of (bel_grow (bel_alloc (bel_grow (Below.refl _ _) x) obj) y)
  | kept x =>
    obtain ⟨y, rfl⟩ := h
    exact grow_of (bel_grow (bel_alloc (bel_grow (Below.refl _ _) x) obj') y)
theorem At2.on {obj obj' : Obj} {s : Ph} {u : World} (h : At2 w obj obj' s u) (y : More) : At2 w obj obj' s (grow u y) := by
  cases s with
  | no => obtain ⟨x, rfl⟩ := h; exact ⟨x.then y, rfl⟩
  | made x => obtain ⟨z, rfl⟩ := h; exact ⟨z.then y, rfl⟩
  | kept x => obtain ⟨z, rfl⟩ := h; exact ⟨z.then y, rfl⟩
variable {n N : Nat} {alc : Tmp} {obj obj' : Obj} {L : Ph → Array Bool → Act → Prop}
/-- The store, from wherever the region has come behind the block's making. -/
def StoreAt (P : Program) (o : Oper) (a : Act) (w : World) (x : More) (obj obj' : Obj) : Prop :=
  o.guard = none ∧ o.dst = none ∧ ∀ y : More, ∃ y' : More, ∃ nx, (nx = .skip ∨ nx = .value undef) ∧ (execOp a.eval o).run P (grow ((grow w x).alloc obj) y) = .ok nx (grow ((grow w x).alloc obj') y')
theorem StoreAt.of_same {o : Oper} {a a' : Act} {x : More} (h : StoreAt P o a w x obj obj') (he : execOp a'.eval o = execOp a.eval o) : StoreAt P o a' w x obj obj' := by
  unfold StoreAt at *
  rw [he]
  exact h
def anyK (P : Program) (md : Region.Mode) (ops : Array Oper) (w : World) (n : Nat) (alc : Tmp) (obj obj' : Obj) (L : Ph → Array Bool → Act → Prop) : Nat → Ph → Array Bool → Act → Prop
  | 0, s, listed, a => L s listed a
  | f + 1, s, listed, a => Region.ready md ops listed ≠ [] ∧ ∀ i ∈ Region.ready md ops listed,
      (i < n ∧ sureOp P ops w i (anyK P md ops w n alc obj obj' L f s (listed.setIfInBounds i true)) a) ∨
      (i = n ∧ s = .no ∧ ∀ x, anyK P md ops w n alc obj obj' L f (.made x) (listed.setIfInBounds i true) (a.put (some alc) (pt w x))) ∨
      (i = n + 1 ∧ ∃ x o, s = .made x ∧ ops[n + 1]? = some o ∧ StoreAt P o a w x obj obj' ∧ anyK P md ops w n alc obj obj' L f (.kept x) (listed.setIfInBounds i true) (a.put none undef))
theorem anyK_sound {g : Nat} {Q' : Exit → Act → World → Prop} (hm : Makes P ops n (some alc) obj) (hL : ∀ s listed a u, At2 w obj obj' s u → L s listed a → wpAny P md ops Q' g listed a u) :
    ∀ (f : Nat) (s : Ph) (listed : Array Bool) (a : Act) (u : World), At2 w obj obj' s u → anyK P md ops w n alc obj obj' L f s listed a → wpAny P md ops Q' (f + g) listed a u
  | 0, s, listed, a, u, hu, h => by rw [Nat.zero_add]; exact hL _ _ _ _ hu h
  | f + 1, s, listed, a, u, hu, h => by
    rw [show f + 1 + g = (f + g) + 1 by omega]
    refine ⟨fun h0 => absurd h0 h.1, fun i hi => ?_⟩
    rcases h.2 i hi with ⟨_, o, v, ho, hy, hk⟩ | ⟨hin, hsn, hk⟩ | ⟨hin, x, o, hsx, ho, hst, hk⟩
    · unfold wpOp
      simp only [ho]
      rcases hy with ⟨hw, hv⟩ | ⟨hw, rfl⟩
      · rw [if_pos hw]
        left
        obtain ⟨x, rfl⟩ := hu.grows
        have h3 := hv x
        unfold Oper.quietAt at h3
        unfold Oper.wp
        generalize (execOp a.eval o).run P (grow w x) = r at *
        cases r with
        | ok nx w' =>
          cases nx <;> simp only [Oper.quietUpon] at h3 <;> simp only [Oper.upon]
          case value u' =>
            obtain ⟨e1, e2⟩ := h3
            rw [e1, e2]
            exact anyK_sound hm hL f _ _ _ _ hu hk
          case skip =>
            obtain ⟨e1, e2⟩ := h3
            rw [e1, ← e2]
            exact anyK_sound hm hL f _ _ _ _ hu hk
          case enter fn args =>
            obtain ⟨e1, hc⟩ := h3
            rw [e1]
            exact hc.mono fun e w'' ⟨he, y, hy⟩ => by
              subst he hy
              exact anyK_sound hm hL f _ _ _ _ (hu.on y) hk
        | halt x w' => simp only [Oper.quietUpon] at h3
      · rw [if_neg (by rw [hw]; exact Bool.false_ne_true)]
        exact anyK_sound hm hL f _ _ _ _ hu hk
    · obtain ⟨o, ho, hdst, hg, hrun⟩ := hm alc rfl
      rw [hsn] at hu
      obtain ⟨x, hux⟩ := hu
      unfold wpOp
      rw [hin] at hk ⊢
      simp only [ho]
      rw [if_pos (by simp [Region.wanted, hg])]
      left
      unfold Oper.wp
      rw [hrun]
      simp only [Oper.upon, hdst]
      rw [hux]
      exact anyK_sound hm hL f (.made x) _ _ _ ⟨More.none_, rfl⟩ (hk x)
    · obtain ⟨hg, hdst, hrun⟩ := hst
      rw [hsx] at hu
      obtain ⟨y, hux⟩ := hu
      unfold wpOp
      rw [hin] at hk ⊢
      simp only [ho]
      rw [if_pos (by simp [Region.wanted, hg])]
      left
      unfold Oper.wp
      obtain ⟨y', nx, hnx, hr⟩ := hrun y
      rw [hux, hr]
      rcases hnx with rfl | rfl <;> simp only [Oper.upon, hdst] <;> exact anyK_sound hm hL f (.kept x) _ _ _ ⟨y', rfl⟩ hk
theorem anyK_first {i : Nat} {oi : Oper} {v : Value} (hm : Makes P ops n (some alc) obj) (hi : ops[i]? = some oi) (hsel : ∀ (j : Nat) (o : Oper) cs b, ops[j]? = some o → o.op ≠ .select cs b) (hin : i < n) (hN : N = n + 2)
    (hs : Region.sinkB md ops N = true) (hc : Region.chainB md ops N = true) (hNs : N < ops.size) (hdone : ∀ s listed a, L s listed a → ∀ j ∈ Region.ready md ops listed, N ≤ j) :
    ∀ (f : Nat) (s : Ph) (listed : Array Bool) (a : Act), HeadInv md ops N listed →
      (∀ j oj, ops[j]? = some oj → j ≠ i → listed.getD j true = false → (∀ e ∈ oj.after, Region.binds md e = true → e.on ≠ i) → oi.apart ops oj = true) →
      i ∈ Region.ready md ops listed → Sure P ops w oi v a →
      anyK P md ops w n alc obj obj' L f s (listed.setIfInBounds i true) (a.put oi.dst v) → anyK P md ops w n alc obj obj' L (f + 1) s listed a := by
  intro f
  induction f with
  | zero =>
    intro s listed a inv _ hr hy H
    have hun := (mem_ready.1 hr).1
    refine ⟨fun h => (by rw [h] at hr; cases hr), fun j hj => ?_⟩
    have hjn : j < N := by
      rcases Nat.lt_or_ge j N with h | h
      · exact h
      · exact absurd hj (tail_waits hs hc hNs inv _ i rfl (by omega) hun j h)
    by_cases hji : j = i
    · subst hji; exact .inl ⟨hin, oi, v, hi, hy, H⟩
    · have := hdone _ _ _ H j (ready_mono hj hji)
      omega
  | succ f ih =>
    intro s listed a inv hfree hr hy H
    have hun := (mem_ready.1 hr).1
    refine ⟨fun h => (by rw [h] at hr; cases hr), fun j hj => ?_⟩
    have hjn : j < N := by
      rcases Nat.lt_or_ge j N with h | h
      · exact h
      · exact absurd hj (tail_waits hs hc hNs inv _ i rfl (by omega) hun j h)
    by_cases hji : j = i
    · subst hji; exact .inl ⟨hin, oi, v, hi, hy, H⟩
    · obtain ⟨hjun, oj, hoj, hall⟩ := mem_ready.1 hj
      have hnot : ∀ e ∈ oj.after, Region.binds md e = true → e.on ≠ i := fun e he hb heq => by
        have h1 := hall e he hb
        rw [heq, getD_both hun] at h1
        cases h1
      obtain ⟨p1, p2, p3⟩ := Oper.apart_spec (hfree j oj hoj hji hjun hnot)
      have hfree' : ∀ k ok, ops[k]? = some ok → k ≠ i → (listed.setIfInBounds j true).getD k true = false →
          (∀ e ∈ ok.after, Region.binds md e = true → e.on ≠ i) → oi.apart ops ok = true := fun k ok hk hki hun' hno => by
        refine hfree k ok hk hki ?_ hno
        by_cases hjk : j = k
        · subst hjk; exact hjun
        · rw [getD_set_ne true hjk] at hun'; exact hun'
      have go : ∀ (s' : Ph) (u : Value), anyK P md ops w n alc obj obj' L f s' ((listed.setIfInBounds i true).setIfInBounds j true) ((a.put oi.dst v).put oj.dst u) →
          anyK P md ops w n alc obj obj' L (f + 1) s' (listed.setIfInBounds j true) (a.put oj.dst u) := fun s' u h => by
        refine ih s' (listed.setIfInBounds j true) (a.put oj.dst u) (inv.set hj hjn) hfree' (ready_mono hr (Ne.symm hji)) (hy.put (fun cs b => hsel i oi cs b hi) p3) ?_
        rw [Array.setIfInBounds_comm _ _ hji, ← Act.put_comm a v u p2]
        exact h
      rcases H.2 j (ready_mono hj hji) with ⟨hj2, oj', u, hoj', hyj, hk⟩ | ⟨hj2, hs2, hk⟩ | ⟨hj2, x, o, hs2, ho, hst, hk⟩
      · obtain rfl : oj = oj' := Option.some.inj (hoj.symm.trans hoj')
        exact .inl ⟨hj2, oj, u, hoj, hyj.unput (fun cs b => hsel j oj cs b hoj) p1, go s u hk⟩
      · obtain ⟨o, ho, hdst, _, _⟩ := hm alc rfl
        subst hj2
        obtain rfl : oj = o := Option.some.inj (hoj.symm.trans ho)
        refine .inr (.inl ⟨rfl, hs2, fun x => ?_⟩)
        have := go (.made x) (pt w x)
        rw [hdst] at this
        exact this (hk x)
      · subst hj2
        obtain rfl : oj = o := Option.some.inj (hoj.symm.trans ho)
        have hd0 := hst.2.1
        refine .inr (.inr ⟨rfl, x, oj, hs2, hoj, hst.of_same (execOp_put oj (fun cs b => hsel _ oj cs b hoj) a oi.dst v p1).symm, ?_⟩)
        have := go (.kept x) undef
        rw [hd0] at this
        exact this hk
theorem anyK_lex {F : Nat} {fin : Array Bool → Bool} {Q : Act → Prop} (hm : Makes P ops n (some alc) obj) (hsel : Region.noSelect ops = true) (hN : N = n + 2)
    (hs : Region.sinkB md ops N = true) (hc : Region.chainB md ops N = true) (hNs : N < ops.size) (hdone : ∀ s listed a, L s listed a → ∀ j ∈ Region.ready md ops listed, N ≤ j)
    (hfin : ∀ listed a, HeadInv md ops N listed → fin listed = true → Q a → anyK P md ops w n alc obj obj' L F .no listed a) :
    ∀ (l : List Oper) (k : Nat) (listed : Array Bool) (a : Act), (∀ j, j < l.length → l[j]? = ops[k + j]?) → k + l.length = n → HeadInv md ops N listed →
    lexH md ops fin l.length k listed = true → sureL P ops w Q l a → anyK P md ops w n alc obj obj' L (l.length + F) .no listed a
  | [], k, listed, a, _, hk, inv, hB, h => by
    simp only [List.length_nil, Nat.zero_add]
    exact hfin listed a inv (by simpa [lexH] using hB) h
  | o :: l, k, listed, a, hl, hk, inv, hB, h => by
    have h0 : ops[k]? = some o := by simpa using (hl 0 (by simp)).symm
    simp only [List.length_cons, lexH, Bool.and_eq_true] at hB
    obtain ⟨⟨hr, hf⟩, hB'⟩ := hB
    have hkn : k < n := by simp only [List.length_cons] at hk; omega
    have hr' : k ∈ Region.ready md ops listed := by simpa using hr
    obtain ⟨v, hy, hK⟩ := h
    rw [show (o :: l).length + F = (l.length + F) + 1 by simp only [List.length_cons]; omega]
    exact anyK_first hm h0 (Region.noSelect_spec hsel) hkn hN hs hc hNs hdone (l.length + F) .no listed a inv (Region.free_spec h0 hf) hr' hy
      (anyK_lex hm hsel hN hs hc hNs hdone hfin l (k + 1) _ _ (fun j hj => by have := hl (j + 1) (by simp; omega); simpa [Nat.add_assoc, Nat.add_comm 1 j] using this) (by simp only [List.length_cons] at hk; omega) (inv.set hr' (by omega)) hB' hK)
end
section
variable {P : Program} {w : World}
def keepB (l : List Oper) (n : Nat) : Bool :=
  Region.noSelect l.toArray && decide (n + 2 < l.length) && Region.sinkB .any l.toArray (n + 2) && Region.chainB .any l.toArray (n + 2) &&
  lexH .any l.toArray (fun listed => decide (Region.ready .any l.toArray listed = [n]) && decide (Region.ready .any l.toArray (listed.setIfInBounds n true) = [n + 1]) && Region.seqB .any l.toArray (l.length - (n + 2)) (n + 2) ((listed.setIfInBounds n true).setIfInBounds (n + 1) true)) n 0 (Array.replicate l.length false)
/-- Operation n makes a block, operation n + 1 stores into it, the rest in one forced order; the first n in any order, some of them perhaps behind the store. -/
theorem wp_region_keep {id : Nat} {Q : Exit → Act → World → Prop} {a : Act} {l : List Oper} (n : Nat) (A : Act) (d : Tmp) (obj obj' : Obj) (hm : P.follows .mixedOrders = true) (hB : keepB l n = true) (hd : dstsB a.tmps.size (l.take n) = true)
    (hmk : Makes P l.toArray n (some d) obj)
    (h : ∀ x : More, wpQuiet P l.toArray (fun u => ∃ y, u = grow (grow w x) y) (fun a' => a' = A) (l.take n) a)
    (hst : ∀ x : More, ∃ o, l[n + 1]? = some o ∧ StoreAt P o (A.put (some d) (.pointer (some ⟨(grow w x).heap.size, 0, none⟩))) w x obj obj')
    (ht : ∀ x y : More, wpList P l.toArray Q (l.drop (n + 2)) (A.put (some d) (.pointer (some ⟨(grow w x).heap.size, 0, none⟩))) (grow ((grow w x).alloc obj') y)) : (Code.region id l.toArray true).wp P Q a w := by
  simp only [keepB, Bool.and_eq_true, decide_eq_true_eq] at hB
  obtain ⟨⟨⟨⟨hsel, hn⟩, hs⟩, hc⟩, hlex⟩ := hB
  have htl : (l.take n).length = n := by simp; omega
  refine wp_region_any hm ?_
  have hu : At2 w obj obj' .no { w with drawn := w.drawn + 1 } := grow_of (bel_drew (Below.refl _ _))
  have H := anyK_lex (P := P) (w := w) (md := .any) (ops := l.toArray) (n := n) (N := n + 2) (alc := d) (obj := obj) (obj' := obj')
    (L := fun s listed a => Region.seqB .any l.toArray (l.length - (n + 2)) (n + 2) listed = true ∧ ∃ x, s = .kept x ∧ a = A.put (some d) (pt w x)) (F := 2)
    (fin := fun listed => decide (Region.ready .any l.toArray listed = [n]) && decide (Region.ready .any l.toArray (listed.setIfInBounds n true) = [n + 1]) && Region.seqB .any l.toArray (l.length - (n + 2)) (n + 2) ((listed.setIfInBounds n true).setIfInBounds (n + 1) true)) (Q := fun a => a = A) hmk hsel rfl hs hc (by simpa using hn)
    (fun s listed a h => seqB_ready h.1)
    (fun listed a _ hf hq => by
      simp only [Bool.and_eq_true, decide_eq_true_eq] at hf
      refine ⟨by rw [hf.1.1]; simp, fun i hi => .inr (.inl ?_)⟩
      rw [hf.1.1] at hi
      obtain rfl : i = n := by simpa using hi
      refine ⟨rfl, rfl, fun x => ⟨by rw [hf.1.2]; simp, fun j hj => .inr (.inr ?_)⟩⟩
      rw [hf.1.2] at hj
      obtain rfl : j = i + 1 := by simpa using hj
      obtain ⟨o, ho, hst'⟩ := hst x
      exact ⟨rfl, x, o, rfl, by simpa using ho, by rw [hq]; exact hst', hf.2, x, rfl, by rw [hq]; rfl⟩) (l.take n) 0 (Array.replicate l.length false) a (fun j hj => by
      rw [htl] at hj
      simp [hj]) (by simpa using htl) (inv0 l (n + 2)) (by rw [htl]; exact hlex) (sure_of_quiet (Q := fun a => a = A) rfl _ _ hd h)
  have S := anyK_sound (P := P) (Q' := Q) (g := l.length - (n + 2)) hmk (fun s listed a u hu hl => by
    obtain ⟨hq, x, rfl, rfl⟩ := hl
    obtain ⟨y, rfl⟩ := hu
    have := wpAny_of_seq (md := .any) (Q' := Q) (ops := l.toArray) (l.drop (n + 2)) (n + 2) listed (A.put (some d) (pt w x)) (grow ((grow w x).alloc obj') y) (fun j => by simp [List.getElem?_drop]) (by simpa using hq) (ht x y)
    simpa using this) _ _ _ _ _ hu H
  rw [htl, show n + 2 + (l.length - (n + 2)) = l.length by omega] at S
  simpa using S
end
theorem storeAt_row {P : Program} {w : World} (t : TypeId) (c c' : Array Value) {o : Oper} {a : Act} {x : More} (p v : Operand) (ho : o.op = .store t p v) (hg : o.guard = none) (hd : o.dst = none) (hp : a.eval p = .pointer (some ⟨(grow w x).heap.size, 0, none⟩)) (hv : a.eval v = .agg c') (hi : (P.info? t).map (·.size) = some c'.size) (hs : c.size = c'.size) (h1 : c'.all (·.oneCell') = true) : StoreAt P o a w x (.cells c t) (.cells c' t) := by
  refine ⟨hg, hd, fun y => ⟨More.setR y ((grow w x).alloc (.cells c t)) (grow w x).heap.size c', .skip, .inl rfl, ?_⟩⟩
  have hlt : (grow w x).heap.size < ((grow w x).alloc (.cells c t)).heap.size := by rw [World.size_alloc]; omega
  have hh : (grow ((grow w x).alloc (.cells c t)) y).heap[(grow w x).heap.size]? = some (.cells c t) := by
    rw [grow_heap, if_pos hlt]
    exact heap_alloc_new _ _
  unfold execOp
  rw [ho]
  simp only [hp, hv, Instr.storeAt, Instr.sureAddr, Sem.run_bind, Sem.run_pure, Result.andThen]
  rw [run_storeVar_row _ _ t t c c' hh hi hs h1, grow_setRow _ _ _ _ hlt, World.setRow_alloc_new]
end Go.Proofs.Ytgfgaaecpdbgeaa
