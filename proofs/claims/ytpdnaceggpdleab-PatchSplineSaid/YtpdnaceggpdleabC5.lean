/- A region that draws its order: its operations read, or are calls that answer a value and leave what was there; one of them may make a block; the last ones, in one forced order, store. One walk in the order of the text serves every order. No program is imported. Package topo: against, and the closure that edges are sorted by. The edges: how they stand in a row, and the row sorted. Package topo: edges. Package topo: Build. Package topo: Build, walked whole. -/
import Derived.StillTail
import Derived.Sort.OwnSorted
import Derived.Shelf.SlSortCmp.NoneTotal
import Derived.Test.YtpdnaceggpdleabShelf
import Derived.Test.YtpdnaceggpdleabC2
import Derived.Test.YtpdnaceggpdleabC4
namespace Go.Proofs.Ytpdnaceggpdleab.D
open Go.RowKit
set_option linter.unusedVariables false
set_option linter.unusedSimpArgs false
def More.none_ : More := ⟨fun w => w, fun w => BelD.refl _ _⟩
theorem grow_none (w : World) : grow w More.none_ = w := rfl
section
variable {P : Program} {ops : Array Oper} {w : World} {md : Region.Mode}
/-- From wherever the region has come, the operation answers v and leaves what was there. -/
def SureAt (P : Program) (o : Oper) (a : Act) (w : World) (v : Value) : Prop := ∀ x : More, o.quietAt P a (fun u => ∃ y, u = grow (grow w x) y) (grow w x) v
def Sure (P : Program) (ops : Array Oper) (w : World) (o : Oper) (v : Value) (a : Act) : Prop :=
  (Region.wanted o (yielded ops a.tmps) = true ∧ SureAt P o a w v) ∨ (Region.wanted o (yielded ops a.tmps) = false ∧ v = undef)
theorem Sure.of_same {o : Oper} {v : Value} {a a' : Act} (h : Sure P ops w o v a) (he : execOp a'.eval o = execOp a.eval o) (hw : Region.wanted o (yielded ops a'.tmps) = Region.wanted o (yielded ops a.tmps)) : Sure P ops w o v a' := by
  unfold Sure SureAt Oper.quietAt at *
  rw [he, hw]
  exact h
/-- What another operation, apart from it, has left makes no difference. -/
theorem Sure.put {o oj : Oper} {v u : Value} {a : Act} (h : Sure P ops w o v a) (hs : ∀ cs b, o.op ≠ .select cs b) (hd : ∀ d, oj.dst = some d → d ∉ o.looksAt ops) : Sure P ops w o v (a.put oj.dst u) :=
  h.of_same (execOp_put o hs a oj.dst u hd) (wanted_put o a oj.dst u hd)
theorem Sure.unput {o oj : Oper} {v u : Value} {a : Act} (h : Sure P ops w o v (a.put oj.dst u)) (hs : ∀ cs b, o.op ≠ .select cs b) (hd : ∀ d, oj.dst = some d → d ∉ o.looksAt ops) : Sure P ops w o v a :=
  h.of_same (execOp_put o hs a oj.dst u hd).symm (wanted_put o a oj.dst u hd).symm
def sureOp (P : Program) (ops : Array Oper) (w : World) (i : Nat) (K : Act → Prop) (a : Act) : Prop := ∃ o v, ops[i]? = some o ∧ Sure P ops w o v a ∧ K (a.put o.dst v)
/-- The one block that the region makes: its place in the region, its slot. -/
def pt (w : World) (x : More) : Value := .pointer (some ⟨(grow w x).heap.size, 0, none⟩)
/-- Where the region may be: nothing made yet; or the block made behind what x tells. -/
def At (w : World) (obj : Obj) : Option More → World → Prop
  | none, u => ∃ x, u = grow w x
  | some x, u => ∃ y, u = grow ((grow w x).alloc obj) y
theorem At.grows {obj : Obj} {s : Option More} {u : World} (h : At w obj s u) : ∃ x, u = grow w x := by
  cases s with
  | none => exact h
  | some x =>
    obtain ⟨y, rfl⟩ := h
    exact grow_of (bel_grow (bel_alloc (bel_grow (BelD.refl _ _) x) obj) y)
theorem At.on {obj : Obj} {s : Option More} {u : World} (h : At w obj s u) (y : More) : At w obj s (grow u y) := by
  cases s with
  | none => obtain ⟨x, rfl⟩ := h; exact ⟨x.then y, rfl⟩
  | some x => obtain ⟨z, rfl⟩ := h; exact ⟨z.then y, rfl⟩
variable {n N : Nat} {alc : Option Tmp} {obj : Obj} {L : Option More → Array Bool → Act → Prop}
def anyU (P : Program) (md : Region.Mode) (ops : Array Oper) (w : World) (n : Nat) (alc : Option Tmp) (L : Option More → Array Bool → Act → Prop) : Nat → Option More → Array Bool → Act → Prop
  | 0, s, listed, a => L s listed a
  | f + 1, s, listed, a => Region.ready md ops listed ≠ [] ∧ ∀ i ∈ Region.ready md ops listed,
      (i < n ∧ sureOp P ops w i (anyU P md ops w n alc L f s (listed.setIfInBounds i true)) a) ∨
      (i = n ∧ s = none ∧ ∃ d, alc = some d ∧ ∀ x, anyU P md ops w n alc L f (some x) (listed.setIfInBounds i true) (a.put (some d) (pt w x)))
/-- What the block's making does. -/
def Makes (P : Program) (ops : Array Oper) (n : Nat) (alc : Option Tmp) (obj : Obj) : Prop :=
  ∀ d, alc = some d → ∃ o, ops[n]? = some o ∧ o.dst = some d ∧ o.guard = none ∧ ∀ (a : Act) (u : World), (execOp a.eval o).run P u = .ok (.value (.pointer (some ⟨u.heap.size, 0, none⟩))) (u.alloc obj)
theorem any_sound {g : Nat} {Q' : Exit → Act → World → Prop} (hm : Makes P ops n alc obj) (hL : ∀ s listed a u, At w obj s u → L s listed a → wpAny P md ops Q' g listed a u) :
    ∀ (f : Nat) (s : Option More) (listed : Array Bool) (a : Act) (u : World), At w obj s u → anyU P md ops w n alc L f s listed a → wpAny P md ops Q' (f + g) listed a u
  | 0, s, listed, a, u, hu, h => by rw [Nat.zero_add]; exact hL _ _ _ _ hu h
  | f + 1, s, listed, a, u, hu, h => by
    rw [show f + 1 + g = (f + g) + 1 by omega]
    refine ⟨fun h0 => absurd h0 h.1, fun i hi => ?_⟩
    rcases h.2 i hi with ⟨_, o, v, ho, hy, hk⟩ | ⟨hin, hsn, d, hd, hk⟩
    · unfold wpOp
      simp only [ho]
      rcases hy with ⟨hw, hv⟩ | ⟨hw, rfl⟩
      · rw [if_pos hw]
        left
        obtain ⟨x, rfl⟩ := hu.grows
        have h3 := hv x
        unfold Oper.quietAt at h3
        unfold Oper.wp
        generalize (execOp a.eval o).run P (grow w x) = r at *
        cases r with
        | ok nx w' =>
          cases nx <;> simp only [Oper.quietUpon] at h3 <;> simp only [Oper.upon]
          case value u' =>
            obtain ⟨e1, e2⟩ := h3
            rw [e1, e2]
            exact any_sound hm hL f _ _ _ _ hu hk
          case skip =>
            obtain ⟨e1, e2⟩ := h3
            rw [e1, ← e2]
            exact any_sound hm hL f _ _ _ _ hu hk
          case enter fn args =>
            obtain ⟨e1, hc⟩ := h3
            rw [e1]
            exact hc.mono fun e w'' ⟨he, y, hy⟩ => by
              subst he hy
              exact any_sound hm hL f _ _ _ _ (hu.on y) hk
        | halt x w' => simp only [Oper.quietUpon] at h3
      · rw [if_neg (by rw [hw]; exact Bool.false_ne_true)]
        exact any_sound hm hL f _ _ _ _ hu hk
    · obtain ⟨o, ho, hdst, hg, hrun⟩ := hm d hd
      rw [hsn] at hu
      obtain ⟨x, hux⟩ := hu
      unfold wpOp
      rw [hin] at hk ⊢
      simp only [ho]
      rw [if_pos (by simp [Region.wanted, hg])]
      left
      unfold Oper.wp
      rw [hrun]
      simp only [Oper.upon, hdst]
      rw [hux]
      exact any_sound hm hL f (some x) _ _ _ ⟨More.none_, rfl⟩ (hk x)
theorem any_first {i : Nat} {oi : Oper} {v : Value} (hm : Makes P ops n alc obj) (hi : ops[i]? = some oi) (hsel : ∀ (j : Nat) (o : Oper) cs b, ops[j]? = some o → o.op ≠ .select cs b) (hin : i < n) (hnN : n ≤ N) (hN : ∀ d, alc = some d → N = n + 1)
    (hs : Region.sinkB md ops N = true) (hc : Region.chainB md ops N = true) (hNs : N < ops.size) (hdone : ∀ s listed a, L s listed a → ∀ j ∈ Region.ready md ops listed, N ≤ j) :
    ∀ (f : Nat) (s : Option More) (listed : Array Bool) (a : Act), HeadInv md ops N listed →
      (∀ j oj, ops[j]? = some oj → j ≠ i → listed.getD j true = false → (∀ e ∈ oj.after, Region.binds md e = true → e.on ≠ i) → oi.apart ops oj = true) →
      i ∈ Region.ready md ops listed → Sure P ops w oi v a →
      anyU P md ops w n alc L f s (listed.setIfInBounds i true) (a.put oi.dst v) → anyU P md ops w n alc L (f + 1) s listed a := by
  intro f
  induction f with
  | zero =>
    intro s listed a inv _ hr hy H
    have hun := (mem_ready.1 hr).1
    refine ⟨fun h => (by rw [h] at hr; cases hr), fun j hj => ?_⟩
    have hjn : j < N := by
      rcases Nat.lt_or_ge j N with h | h
      · exact h
      · exact absurd hj (tail_waits hs hc hNs inv _ i rfl (by omega) hun j h)
    by_cases hji : j = i
    · subst hji; exact .inl ⟨hin, oi, v, hi, hy, H⟩
    · have := hdone _ _ _ H j (ready_mono hj hji)
      omega
  | succ f ih =>
    intro s listed a inv hfree hr hy H
    have hun := (mem_ready.1 hr).1
    refine ⟨fun h => (by rw [h] at hr; cases hr), fun j hj => ?_⟩
    have hjn : j < N := by
      rcases Nat.lt_or_ge j N with h | h
      · exact h
      · exact absurd hj (tail_waits hs hc hNs inv _ i rfl (by omega) hun j h)
    by_cases hji : j = i
    · subst hji; exact .inl ⟨hin, oi, v, hi, hy, H⟩
    · obtain ⟨hjun, oj, hoj, hall⟩ := mem_ready.1 hj
      have hnot : ∀ e ∈ oj.after, Region.binds md e = true → e.on ≠ i := fun e he hb heq => by
        have h1 := hall e he hb
        rw [heq, getD_both hun] at h1
        cases h1
      obtain ⟨p1, p2, p3⟩ := Oper.apart_spec (hfree j oj hoj hji hjun hnot)
      have hfree' : ∀ k ok, ops[k]? = some ok → k ≠ i → (listed.setIfInBounds j true).getD k true = false →
          (∀ e ∈ ok.after, Region.binds md e = true → e.on ≠ i) → oi.apart ops ok = true := fun k ok hk hki hun' hno => by
        refine hfree k ok hk hki ?_ hno
        by_cases hjk : j = k
        · subst hjk; exact hjun
        · rw [getD_set_ne true hjk] at hun'; exact hun'
      have go : ∀ (s' : Option More) (u : Value), anyU P md ops w n alc L f s' ((listed.setIfInBounds i true).setIfInBounds j true) ((a.put oi.dst v).put oj.dst u) →
          anyU P md ops w n alc L (f + 1) s' (listed.setIfInBounds j true) (a.put oj.dst u) := fun s' u h => by
        refine ih s' (listed.setIfInBounds j true) (a.put oj.dst u) (inv.set hj hjn) hfree' (ready_mono hr (Ne.symm hji)) (hy.put (fun cs b => hsel i oi cs b hi) p3) ?_
        rw [Array.setIfInBounds_comm _ _ hji, ← Act.put_comm a v u p2]
        exact h
      rcases H.2 j (ready_mono hj hji) with ⟨hj2, oj', u, hoj', hyj, hk⟩ | ⟨hj2, hs2, d, hd, hk⟩
      · obtain rfl : oj = oj' := Option.some.inj (hoj.symm.trans hoj')
        exact .inl ⟨hj2, oj, u, hoj, hyj.unput (fun cs b => hsel j oj cs b hoj) p1, go s u hk⟩
      · obtain ⟨o, ho, hdst, _, _⟩ := hm d hd
        subst hj2
        obtain rfl : oj = o := Option.some.inj (hoj.symm.trans ho)
        refine .inr ⟨rfl, hs2, d, hd, fun x => ?_⟩
        have := go (some x) (pt w x)
        rw [hdst] at this
        exact this (hk x)
/-! the order of the text -/
def lexH (md : Region.Mode) (ops : Array Oper) (fin : Array Bool → Bool) : Nat → Nat → Array Bool → Bool
  | 0, _, listed => fin listed
  | f + 1, k, listed => (Region.ready md ops listed).contains k && Region.free md ops listed k && lexH md ops fin f (k + 1) (listed.setIfInBounds k true)
/-- The walk with one value for each operation. -/
def sureL (P : Program) (ops : Array Oper) (w : World) (Q : Act → Prop) : List Oper → Act → Prop
  | [], a => Q a
  | o :: rest, a => ∃ v, Sure P ops w o v a ∧ sureL P ops w Q rest (a.put o.dst v)
theorem any_lex {F : Nat} {fin : Array Bool → Bool} {Q : Act → Prop} (hm : Makes P ops n alc obj) (hsel : Region.noSelect ops = true) (hnN : n ≤ N) (hN : ∀ d, alc = some d → N = n + 1)
    (hs : Region.sinkB md ops N = true) (hc : Region.chainB md ops N = true) (hNs : N < ops.size) (hdone : ∀ s listed a, L s listed a → ∀ j ∈ Region.ready md ops listed, N ≤ j)
    (hfin : ∀ listed a, HeadInv md ops N listed → fin listed = true → Q a → anyU P md ops w n alc L F none listed a) :
    ∀ (l : List Oper) (k : Nat) (listed : Array Bool) (a : Act), (∀ j, j < l.length → l[j]? = ops[k + j]?) → k + l.length = n → HeadInv md ops N listed →
    lexH md ops fin l.length k listed = true → sureL P ops w Q l a → anyU P md ops w n alc L (l.length + F) none listed a
  | [], k, listed, a, _, hk, inv, hB, h => by
    simp only [List.length_nil, Nat.zero_add]
    exact hfin listed a inv (by simpa [lexH] using hB) h
  | o :: l, k, listed, a, hl, hk, inv, hB, h => by
    have h0 : ops[k]? = some o := by simpa using (hl 0 (by simp)).symm
    simp only [List.length_cons, lexH, Bool.and_eq_true] at hB
    obtain ⟨⟨hr, hf⟩, hB'⟩ := hB
    have hkn : k < n := by simp only [List.length_cons] at hk; omega
    have hr' : k ∈ Region.ready md ops listed := by simpa using hr
    obtain ⟨v, hy, hK⟩ := h
    rw [show (o :: l).length + F = (l.length + F) + 1 by simp only [List.length_cons]; omega]
    exact any_first hm h0 (Region.noSelect_spec hsel) hkn hnN hN hs hc hNs hdone (l.length + F) none listed a inv (Region.free_spec h0 hf) hr' hy
      (any_lex hm hsel hnN hN hs hc hNs hdone hfin l (k + 1) _ _ (fun j hj => by have := hl (j + 1) (by simp; omega); simpa [Nat.add_assoc, Nat.add_comm 1 j] using this) (by simp only [List.length_cons] at hk; omega) (inv.set hr' (by omega)) hB' hK)
/-! one value, out of walks from wherever the region has come -/
def dstsB (t : Nat) : List Oper → Bool
  | [] => true
  | o :: l => (match o.dst with | some d => decide (d < t) && l.all (fun o' => o'.dst != some d) | none => false) && dstsB t l
theorem put_size (a : Act) (d : Option Tmp) (v : Value) : (a.put d v).tmps.size = a.tmps.size := by cases d <;> simp [Act.put]
theorem quiet_keeps {C : World → Prop} {A : Act} {d : Tmp} : ∀ (l : List Oper) (a : Act), (l.all fun o' => o'.dst != some d) = true → wpQuiet P ops C (fun a' => a' = A) l a → A.tmps[d]? = a.tmps[d]?
  | [], a, _, h => by rw [← (h : a = A)]
  | o :: l, a, hd, h => by
    simp only [List.all_cons, Bool.and_eq_true, bne_iff_ne, ne_eq] at hd
    have key : ∀ v, (a.put o.dst v).tmps[d]? = a.tmps[d]? := fun v => by
      cases ho : o.dst with
      | none => rfl
      | some e =>
        have : e ≠ d := fun he => hd.1 (by rw [ho, he])
        simp [Act.put, Array.getElem?_setIfInBounds_ne this]
    unfold wpQuiet at h
    split at h
    · obtain ⟨v, _, h2⟩ := h
      rw [quiet_keeps l _ hd.2 h2, key]
    · rw [quiet_keeps l _ hd.2 h, key]
theorem sure_of_quiet {A : Act} {Q : Act → Prop} (hQ : Q A) : ∀ (l : List Oper) (a : Act), dstsB a.tmps.size l = true → (∀ x : More, wpQuiet P ops (fun u => ∃ y, u = grow (grow w x) y) (fun a' => a' = A) l a) → sureL P ops w Q l a
  | [], a, _, h => by have := h More.none_; unfold wpQuiet at this; subst this; exact hQ
  | o :: l, a, hd, h => by
    simp only [dstsB, Bool.and_eq_true] at hd
    obtain ⟨hd1, hd2⟩ := hd
    cases ho : o.dst with
    | none => rw [ho] at hd1; cases hd1
    | some d =>
      rw [ho] at hd1
      simp only [Bool.and_eq_true, decide_eq_true_eq] at hd1
      have fixed : ∀ v, wpQuiet P ops (fun u => ∃ y, u = grow (grow w More.none_) y) (fun a' => a' = A) l (a.put o.dst v) → A.tmps[d]? = some v := fun v hv => by
        rw [quiet_keeps l _ hd1.2 hv, ho]
        simp [Act.put, hd1.1]
      have fixed' : ∀ (x : More) v, wpQuiet P ops (fun u => ∃ y, u = grow (grow w x) y) (fun a' => a' = A) l (a.put o.dst v) → A.tmps[d]? = some v := fun x v hv => by
        rw [quiet_keeps l _ hd1.2 hv, ho]
        simp [Act.put, hd1.1]
      by_cases hw : Region.wanted o (yielded ops a.tmps) = true
      · have h0 := h More.none_
        unfold wpQuiet at h0
        rw [if_pos hw] at h0
        obtain ⟨v, _, h2⟩ := h0
        have hv := fixed v h2
        have each : ∀ x : More, (∀ u, (∃ y, u = grow (grow w x) y) → o.quietAt P a (fun u => ∃ y, u = grow (grow w x) y) u v) ∧ wpQuiet P ops (fun u => ∃ y, u = grow (grow w x) y) (fun a' => a' = A) l (a.put o.dst v) := fun x => by
          have hx := h x
          unfold wpQuiet at hx
          rw [if_pos hw] at hx
          obtain ⟨v', h1', h2'⟩ := hx
          have hv' := fixed' x v' h2'
          rw [hv] at hv'
          cases hv'
          exact ⟨h1', h2'⟩
        refine ⟨v, .inl ⟨hw, fun x => (each x).1 _ ⟨More.none_, rfl⟩⟩, ?_⟩
        exact sure_of_quiet hQ l _ (by rw [put_size]; exact hd2) fun x => (each x).2
      · refine ⟨undef, .inr ⟨by simpa using hw, rfl⟩, ?_⟩
        refine sure_of_quiet hQ l _ (by rw [put_size]; exact hd2) fun x => ?_
        have hx := h x
        unfold wpQuiet at hx
        rw [if_neg hw] at hx
        exact hx
end
section
variable {P : Program} {w : World}
def tailB (l : List Oper) (n : Nat) : Bool :=
  Region.noSelect l.toArray && decide (n < l.length) && Region.sinkB .any l.toArray n && Region.chainB .any l.toArray n && lexH .any l.toArray (fun listed => Region.seqB .any l.toArray (l.length - n) n listed) n 0 (Array.replicate l.length false)
theorem inv0 (l : List Oper) (N : Nat) : HeadInv .any l.toArray N (Array.replicate l.length false) :=
  ⟨by simp, fun j oj _ hl => (by rw [getD_replicate_false] at hl; cases hl), fun t _ ht => getD_in (by simpa using ht) (getD_replicate_false _ _)⟩
/-- The region's first n operations read or are such calls; the rest goes in one order. A: the frame behind the first n. -/
theorem wp_region_tail {id : Nat} {Q : Exit → Act → World → Prop} {a : Act} {l : List Oper} (n : Nat) (A : Act) (hm : P.follows .mixedOrders = true) (hB : tailB l n = true) (hd : dstsB a.tmps.size (l.take n) = true)
    (h : ∀ x : More, wpQuiet P l.toArray (fun u => ∃ y, u = grow (grow w x) y) (fun a' => a' = A) (l.take n) a)
    (ht : ∀ x : More, wpList P l.toArray Q (l.drop n) A (grow w x)) : (Code.region id l.toArray true).wp P Q a w := by
  simp only [tailB, Bool.and_eq_true, decide_eq_true_eq] at hB
  obtain ⟨⟨⟨⟨hsel, hn⟩, hs⟩, hc⟩, hlex⟩ := hB
  have htl : (l.take n).length = n := by simp; omega
  refine wp_region_any hm ?_
  have hmk : Makes P l.toArray n none (.cells #[] 0) := fun d hd => by cases hd
  have hu : At w (.cells #[] 0) none { w with drawn := w.drawn + 1 } := grow_of (bel_drew (BelD.refl _ _))
  have H := any_lex (P := P) (w := w) (md := .any) (ops := l.toArray) (n := n) (N := n) (alc := none) (obj := .cells #[] 0) (L := fun s listed a => s = none ∧ Region.seqB .any l.toArray (l.length - n) n listed = true ∧ a = A) (F := 0)
    (fin := fun listed => Region.seqB .any l.toArray (l.length - n) n listed) (Q := fun a => a = A) hmk hsel (Nat.le_refl _) (fun d hd => by cases hd) hs hc (by simpa using hn) (fun s listed a h => seqB_ready h.2.1)
    (fun listed a _ hf hq => ⟨rfl, hf, hq⟩) (l.take n) 0 (Array.replicate l.length false) a (fun j hj => by
      rw [htl] at hj
      simp [hj]) (by simpa using htl) (inv0 l n) (by rw [htl]; exact hlex) (sure_of_quiet (Q := fun a => a = A) rfl _ _ hd h)
  have S := any_sound (P := P) (Q' := Q) (g := l.length - n) hmk (fun s listed a u hu hl => by
    obtain ⟨rfl, hq, rfl⟩ := hl
    obtain ⟨x, rfl⟩ := hu
    have := wpAny_of_seq (md := .any) (Q' := Q) (ops := l.toArray) (l.drop n) n listed a (grow w x) (fun j => by simp [List.getElem?_drop]) (by simpa using hq) (ht x)
    simpa using this) _ _ _ _ _ hu H
  rw [htl, show n + 0 + (l.length - n) = l.length by omega] at S
  simpa using S
end
end Go.Proofs.Ytpdnaceggpdleab.D
namespace Go.Proofs.Ytpdnaceggpdleab
open Go.RowKit
set_option linter.unusedVariables false
set_option linter.unusedSimpArgs false
set_option linter.unnecessarySimpa false
set_option maxRecDepth 100000


def orT (x y : Int) : Int := if x ≠ 0 then x else y
set_option maxHeartbeats 1000000 in
theorem orT_any (W : World) (g off c : Nat) (x y : Int) (h0 : W.cell? ⟨g, off, none⟩ = some (.int .i64 x)) (h1 : W.cell? ⟨g, off + 1, none⟩ = some (.int .i64 y)) (hg : g < W.heap.size) :
    Calls Try.prog 72 #[.slice (some ⟨g, off, none⟩) 2 c] W fun e W' => e = .returned (.int .i64 (orT x y)) ∧ W' = W := by
  go_enter Try.func72, Try.ntmps72
  go_wp2
  go_loopw [8] (fun i wr => wr = W ∧ (i = .int .i64 0 ∨ (i = .int .i64 1 ∧ x = 0) ∨ (i = .int .i64 2 ∧ x = 0 ∧ y = 0))) (fun i _ => 3 - (intOf i).toNat)
  case atStart => exact ⟨rfl, .inl rfl⟩
  case round =>
    obtain ⟨rfl, rfl | ⟨rfl, hx⟩ | ⟨rfl, hx, hy⟩⟩ := hrel
    · by_cases e : x = 0
      · subst e
        go_wp2
        go_roundw
        case rel => exact ⟨trivial, .inr (.inl ⟨rfl, trivial⟩)⟩
        case measure => simp [intOf]
      · have e2 : (x == 0) = false := by simpa using e
        go_wp2
        go_ret
        exact ⟨by simp [orT, e], rfl⟩
    · by_cases e : y = 0
      · subst e
        go_wp2
        go_roundw
        case rel => exact ⟨trivial, .inr (.inr ⟨rfl, hx, trivial⟩)⟩
        case measure => simp [intOf]
      · have e2 : (y == 0) = false := by simpa using e
        go_wp2
        go_ret
        exact ⟨by simp [orT, hx], rfl⟩
    · go_wp2
      go_ret
      exact ⟨by simp [orT, hx, hy], rfl⟩
/-- How an edge stands to a way. -/
def cf2 (a b p q : Int) : Int := orT (Lib.compareInt a p) (Lib.compareInt b q)


theorem cmp_g (x y : Int) : D.Gives Try.prog 73 #[.int .i64 x, .int .i64 y] (.int .i64 (Lib.compareInt x y)) := D.Gives.mk fun w => (Try.cmp_Compare_int x y w).mono fun _ _ ⟨he, hw⟩ => ⟨he, hw ▸ D.BelD.refl _ _⟩
set_option maxHeartbeats 1000000 in
theorem against_any (W : World) (a b f g p q : Int) :
    Calls Try.prog 67 #[.agg #[.int .i64 a, .int .i64 b, .int .i64 f, .int .i64 g], .agg #[.int .i64 p, .int .i64 q]] W fun e W' => e = .returned (.int .i64 (cf2 a b p q)) ∧ ∃ x, W' = D.grow W x := by
  have c1 := cmp_g a p
  have c2 := cmp_g b q
  go_enter Try.func67, Try.ntmps67
  go_wp2_with fail
  refine D.wp_region_tail 10 ?_ (by kernel_rfl) (by kernel_rfl) (by kernel_rfl) (fun x => ?_) (fun x => ?_)
  rotate_left
  · simp only [List.take_succ_cons, List.take_zero]
    repeat (go_big_quiet_step ((first | with_reducible exact c1.quiet _ | with_reducible exact c1.quiet2 _ _ | with_reducible exact c2.quiet _ | with_reducible exact c2.quiet2 _ _)))
    refine wpQuiet_nil ?_
    exact rfl
  simp only [List.drop_succ_cons, List.drop_zero]
  try simp only [Act.put, List.setIfInBounds_toArray, List.set_cons_succ, List.set_cons_zero]
  have hbel : D.BelD W.heap.size W (D.grow ((W.alloc (.cells #[.int .i64 a, .int .i64 b, .int .i64 f, .int .i64 g] 79)).alloc (.cells #[.int .i64 p, .int .i64 q] 132)) x) := D.bel_grow (D.bel_alloc (D.bel_alloc (D.BelD.refl _ _) _) _) x
  generalize D.grow ((W.alloc (.cells #[.int .i64 a, .int .i64 b, .int .i64 f, .int .i64 g] 79)).alloc (.cells #[.int .i64 p, .int .i64 q] 132)) x = W1 at *
  have hbk : Blk (W1.alloc (.cells #[.int .i64 (Lib.compareInt a p), .int .i64 (Lib.compareInt b q)] 3)) W1.heap.size 3 #[.int .i64 (Lib.compareInt a p), .int .i64 (Lib.compareInt b q)] := Blk.new _ _ _ _ rfl
  have hor := orT_any _ W1.heap.size 0 2 _ _ (hbk.cell 0) (hbk.cell 1) hbk.lt
  clear hbk c1 c2
  go_wp2_with (first | (go_at_call 72; (refine hor.mono ?_); rintro e W2 ⟨rfl, rfl⟩) | fail)
  go_ret
  exact ⟨rfl, D.grow_of (D.bel_alloc hbel _)⟩
set_option maxHeartbeats 1000000 in
theorem sorter_any (W : World) (a b f g a2 b2 f2 g2 : Int) :
    Calls Try.prog 66 #[.agg #[.int .i64 a, .int .i64 b, .int .i64 f, .int .i64 g], .agg #[.int .i64 a2, .int .i64 b2, .int .i64 f2, .int .i64 g2]] W fun e W' => e = .returned (.int .i64 (cf2 a b a2 b2)) ∧ ∃ x, W' = D.grow W x := by
  have hA := fun W => against_any W a b f g a2 b2
  go_enter Try.func66, Try.ntmps66
  go_wp2_with (first | (go_at_call 67; (refine (hA _).mono ?_); rintro e W2 ⟨rfl, x, rfl⟩) | fail)
  go_ret
  exact ⟨rfl, D.grow_of (D.bel_grow (D.bel_alloc (D.bel_alloc (D.BelD.refl _ _) _) _) x)⟩
end Go.Proofs.Ytpdnaceggpdleab
namespace Go.Proofs.Ytpdnaceggpdleab
open Go.RowKit Go.Sort
set_option linter.unusedVariables false
set_option linter.unusedSimpArgs false
set_option linter.unnecessarySimpa false
set_option maxRecDepth 100000
def encE (al : List Way) (p : Int × Int) : List Value := [.int .i64 p.1, .int .i64 p.2, .int .i64 (faceOf al p.1 p.2), .int .i64 (faceOf al p.2 p.1)]
def edCs (al : List Way) (L : List (Int × Int)) : List Value := L.flatMap (encE al)
theorem edCs_len (al : List Way) : ∀ L, (edCs al L).length = L.length * 4
  | [] => rfl
  | p :: L => by
    have := edCs_len al L
    unfold edCs at *
    simp only [List.flatMap_cons, List.length_append, List.length_cons, this]
    simp [encE]; omega
theorem edCs_snoc (al : List Way) (L : List (Int × Int)) (p : Int × Int) : edCs al (L ++ [p]) = edCs al L ++ encE al p := by simp [edCs]
theorem edCs_get (al : List Way) : ∀ (L : List (Int × Int)) (i c : Nat) (h : i < L.length) (hc : c < 4), (edCs al L)[i * 4 + c]? = (encE al L[i])[c]?
  | [], i, c, h, _ => by simp at h
  | p :: L, 0, c, h, hc => by
    unfold edCs
    rw [List.flatMap_cons, List.getElem?_append_left (by simp [encE]; omega)]
    simp
  | p :: L, i + 1, c, h, hc => by
    have hi : i < L.length := by simpa using h
    have := edCs_get al L i c hi hc
    unfold edCs at *
    rw [List.flatMap_cons, List.getElem?_append_right (by simp [encE]; omega)]
    simp only [List.getElem_cons_succ]
    rw [← this]
    congr 1
    simp [encE]; omega
theorem flat_edCs (al : List Way) (L : List (Int × Int)) : (flatK (encE al) 4 L.toArray).toList = edCs al L := by
  apply List.ext_getElem?
  intro j
  by_cases hj : j < L.length * 4
  · have h1 : j / 4 < L.length := by omega
    have e : j = j / 4 * 4 + j % 4 := by omega
    rw [show (edCs al L)[j]? = (edCs al L)[j / 4 * 4 + j % 4]? by rw [← e], edCs_get al L _ _ h1 (by omega)]
    have hm : j % 4 < (encE al L[j / 4]).length := by simp [encE]; omega
    simp only [flatK, Array.toList_map, List.getElem?_map, List.size_toArray]
    rw [Array.getElem?_toList, Array.getElem?_range]
    simp only [hj, if_true, Option.map_some]
    rw [List.getElem?_eq_getElem hm]
    congr 1
    have e2 : L.toArray[j / 4]! = L[j / 4] := by rw [getElem!_pos _ _ (by simpa using h1)]; simp
    rw [e2, getElem!_pos (encE al L[j / 4]) (j % 4) hm]
  · rw [List.getElem?_eq_none (by simp [flatK]; omega), List.getElem?_eq_none (by rw [edCs_len]; omega)]
/-! the row, sorted -/
theorem srt_heap {w : World} {g n : Nat} {os : Array Obj} {cur : Array Value} {e : TypeId} {fr : Nat × Nat} (F : Array Value) (hb : w.heap[g]? = some (.cells cur e fr)) :
    (Go.Sort.grow (putRow id (Sort.ahead w n) g 0 F) os).heap[g]? = some (.cells (putCells id 0 F cur) e fr) := by
  have hg : g < w.heap.size := (Array.getElem?_eq_some_iff.1 hb).1
  rw [heap_grow_old _ _ (by simpa using hg)]
  simp [putRow, mapBlock, Sort.ahead, Array.getElem?_modify, hb, onCells]
theorem srt_grown {w : World} {g n : Nat} {os : Array Obj} (F : Array Value) : w.grownBy (Go.Sort.grow (putRow id (Sort.ahead w n) g 0 F) os) (some g) := by
  refine ⟨rfl, rfl, rfl, by simp, fun k hk hne => ?_⟩
  rw [heap_grow_old _ _ (by simpa using hk)]
  have : g ≠ k := fun e => hne (by rw [e])
  simp [putRow, mapBlock, Sort.ahead, Array.getElem?_modify, this]
theorem srt_take (cur : Array Value) (F : Array Value) (h : F.size ≤ cur.size) : (putCells id 0 F cur).toList.take F.size = F.toList := by
  apply List.ext_getElem?
  intro j
  by_cases hj : j < F.size
  · rw [List.getElem?_take_of_lt hj, Array.getElem?_toList]
    simp [putCells, hj, show j < cur.size by omega]
  · rw [List.getElem?_take_eq_none (by omega), List.getElem?_eq_none (by simp; omega)]
theorem srt_own {al : List Way} {w : World} {base g cap n : Nat} {e : TypeId} {os : Array Obj} {L M : List (Int × Int)} (hl : M.length = L.length) (ho : w.ownsRow base e 4 (.slice (some ⟨g, 0, none⟩) L.length cap) L.length (edCs al L)) :
    (Go.Sort.grow (putRowK (encE al) 4 (Sort.ahead w n) g 0 M.toArray) os).ownsRow base e 4 (.slice (some ⟨g, 0, none⟩) L.length cap) L.length (edCs al M) := by
  obtain ⟨h0, ⟨h1, _⟩ | ⟨g', cap', cur, h1, h2, h3, h4, h5, h6, h7⟩⟩ := ho
  · cases h1
  · cases h1
    have hF : (flatK (encE al) 4 M.toArray).size = L.length * 4 := by simp [hl]
    refine ⟨by rw [edCs_len, hl], .inr ⟨g, cap, _, rfl, h2, srt_heap _ h3, h4, h5, by simp [putCells, h6], ?_⟩⟩
    have := srt_take cur (flatK (encE al) 4 M.toArray) (by rw [hF, h6]; omega)
    rw [hF] at this
    rw [this, flat_edCs]
theorem srt_holds {al : List Way} {w : World} {base g cap : Nat} {e : TypeId} {L : List (Int × Int)} (ho : w.ownsRow base e 4 (.slice (some ⟨g, 0, none⟩) L.length cap) L.length (edCs al L)) : HoldsK (encE al) 4 w g 0 L.toArray ∧ g < w.heap.size := by
  obtain ⟨h0, ⟨h1, _⟩ | ⟨g', cap', cur, h1, h2, h3, h4, h5, h6, h7⟩⟩ := ho
  · cases h1
  · cases h1
    refine ⟨fun j hj => ⟨?_, by simp [World.frozen?, h3]⟩, (Array.getElem?_eq_some_iff.1 h3).1⟩
    have hj' : j < L.length * 4 := by simpa using hj
    have e1 : (cur.toList.take (L.length * 4))[j]? = (edCs al L)[j]? := by rw [h7]
    rw [List.getElem?_take_of_lt hj', ← flat_edCs] at e1
    simp only [World.cell?, h3, Nat.zero_add, Option.isSome_none, Bool.false_eq_true, if_false]
    rw [← Array.getElem?_toList, e1, Array.getElem?_toList, getElem?_pos (flatK (encE al) 4 L.toArray) j hj, getElem!_pos (flatK (encE al) 4 L.toArray) j hj]
    rfl
/-! the order -/
def cfE (x y : Int × Int) : Int := cf2 x.1 x.2 y.1 y.2
theorem cfE_lt (x y : Int × Int) : ltOf cfE x y = true ↔ x.1 < y.1 ∨ (x.1 = y.1 ∧ x.2 < y.2) := by
  unfold ltOf cfE cf2 orT Lib.compareInt
  simp only [decide_eq_true_eq]
  repeat' split
  all_goals omega
theorem cfE_nlt (x y : Int × Int) : ltOf cfE x y = false ↔ ¬ (x.1 < y.1 ∨ (x.1 = y.1 ∧ x.2 < y.2)) := by
  rw [← cfE_lt]; simp
theorem cfE_swo : SWO (ltOf cfE) where
  irrefl x := by rw [cfE_nlt]; omega
  trans x y z h k := by rw [cfE_lt] at *; omega
  ntrans x y z h k := by rw [cfE_nlt] at *; omega
theorem cfE_total (x y : Int × Int) (h : ltOf cfE x y = false) (k : ltOf cfE y x = false) : x = y := by
  rw [cfE_nlt] at *
  exact Prod.ext (by omega) (by omega)
def srt (L : List (Int × Int)) : List (Int × Int) := L.mergeSort fun x y => !(ltOf cfE) y x
theorem srt_perm (L : List (Int × Int)) : (srt L).Perm L := List.mergeSort_perm _ _
theorem srt_pw (L : List (Int × Int)) (hn : L.Nodup) : (srt L).Pairwise fun x y => x.1 < y.1 ∨ (x.1 = y.1 ∧ x.2 < y.2) := by
  have h1 : (srt L).Pairwise fun x y => (!(ltOf cfE) y x) = true := List.pairwise_mergeSort (fun a b c h k => by
    simp only [Bool.not_eq_true', cfE_nlt] at *; omega) (fun a b => by
    simp only [Bool.or_eq_true, Bool.not_eq_true', cfE_nlt]; omega) L
  have h2 : (srt L).Nodup := (srt_perm L).nodup_iff.2 hn
  rw [List.nodup_iff_pairwise_ne] at h2
  refine List.Pairwise.imp₂ (fun x y h k => ?_) h1 h2
  simp only [Bool.not_eq_true', cfE_nlt] at h
  have : ¬(x.1 = y.1 ∧ x.2 = y.2) := fun e => k (Prod.ext e.1 e.2)
  omega
set_option maxHeartbeats 1000000 in
theorem sort_any (al : List Way) (W : World) (base g cap : Nat) (L : List (Int × Int)) (ho : W.ownsRow base 79 4 (.slice (some ⟨g, 0, none⟩) L.length cap) L.length (edCs al L)) (hsz : L.length < 4611686018427387904) :
    Calls Try.prog 65 #[.slice (some ⟨g, 0, none⟩) L.length cap, .func (.func 66) #[] #[]] W fun e W' =>
      e = .returned (.tuple #[]) ∧ W.grownBy W' (some g) ∧ W'.ownsRow base 79 4 (.slice (some ⟨g, 0, none⟩) L.length cap) L.length (edCs al (srt L)) := by
  obtain ⟨hH, hg⟩ := srt_holds ho
  have := AnyQ.slices_SortFunc_total Try.sort65 4 (by intro w; exact Try.isAgg79 w) (by intro w; exact Try.sizeOf79 w) (encE al) (fun x => rfl) (fun x v hv => by
      simp only [encE, List.mem_cons, List.not_mem_nil, or_false] at hv
      rcases hv with rfl | rfl | rfl | rfl <;> rfl) cfE cfE_swo 66 #[] g 0 cap L.toArray W (enters_of (f := 66) Try.func66 (by kernel_rfl) rfl) (fun m os dk hdk x y => ?_) hH hg (by simpa using hsz) cfE_total
  · have this2 : Calls Try.prog 65 #[.slice (some ⟨g, 0, none⟩) L.length cap, .func (.func 66) #[] #[]] W fun e w' => e = .returned (.tuple #[]) ∧ ∃ n os, w' = sortWorldK (encE al) 4 W g 0 n (srt L).toArray os := this
    refine this2.mono ?_
    rintro e W' ⟨he, n, os, rfl⟩
    exact ⟨he, srt_grown _, srt_own (by rw [(srt_perm L).length_eq]) ho⟩
  · refine (sorter_any _ _ _ _ _ _ _ _ _).mono ?_
    rintro e W' ⟨he, z, rfl⟩
    refine ⟨he, ?_⟩
    generalize sortWorldK (encE al) 4 W g 0 m dk os = U
    have hk := z.kept U
    refine ⟨(z.to U).drawn - U.drawn, ((z.to U).heap.toList.drop U.heap.size).toArray, ?_⟩
    have e1 : (z.to U).heap = U.heap ++ ((z.to U).heap.toList.drop U.heap.size).toArray := by
      apply Array.ext'
      rw [Array.toList_append]
      apply List.ext_getElem?
      intro i
      rcases Nat.lt_or_ge i U.heap.size with hi | hi
      · rw [List.getElem?_append_left (by simpa using hi), Array.getElem?_toList, Array.getElem?_toList]
        exact hk.block i hi
      · rw [List.getElem?_append_right (by simpa using hi)]
        simp only [Array.length_toList, List.getElem?_drop]
        congr 1; omega
    have e2 : U.drawn + ((z.to U).drawn - U.drawn) = (z.to U).drawn := by have := hk.drw; omega
    show z.to U = Go.Sort.grow (U.drewN _) _
    unfold Go.Sort.grow World.drewN
    have h1 := hk.bel.os
    have h2 := hk.bel.tape
    have h3 := hk.bel.output
    rw [← e1, e2, ← h1, ← h2, ← h3]
end Go.Proofs.Ytpdnaceggpdleab
namespace Go.Proofs.Ytpdnaceggpdleab
open Go.RowKit
set_option linter.unusedVariables false
set_option linter.unusedSimpArgs false
set_option linter.unnecessarySimpa false
set_option maxRecDepth 100000


theorem grown_of {W W' : World} (hb : Below W.heap.size W W') : W.grownBy W' none := ⟨hb.os, hb.tape, hb.output, hb.size, fun i hi _ => hb.block i hi⟩
theorem GoRg.below {W W' : World} {B r : Nat} {P dn : List Way} {cnt : Nat} (h : GoRg W B r P dn cnt) (hb : Below W.heap.size W W') : GoRg W' B r P dn cnt := h.kept (grown_of hb) (by simp) (by simp)
/-- The ways that tell an edge. -/
def tells (al : List Way) (w : Way) : Prop := w.a < w.b ∨ look al w.b w.a = none
/-- The edges that the ways gone by have told. -/
structure EdL (al dn : List Way) (L : List (Int × Int)) : Prop where
  mem : ∀ p, p ∈ L ↔ ∃ w ∈ dn, tells al w ∧ p = (min w.a w.b, max w.a w.b)
  nodup : L.Nodup
theorem EdL.nil (al : List Way) : EdL al [] [] := ⟨by simp, List.nodup_nil⟩
theorem EdL.skip {al dn : List Way} {L : List (Int × Int)} (h : EdL al dn L) (w : Way) (hw : ¬ tells al w) : EdL al (dn ++ [w]) L := ⟨fun p => by
  rw [h.mem]
  constructor
  · rintro ⟨u, hu, h2⟩; exact ⟨u, List.mem_append_left _ hu, h2⟩
  · rintro ⟨u, hu, h2, h3⟩
    rcases List.mem_append.1 hu with hu | hu
    · exact ⟨u, hu, h2, h3⟩
    · rw [List.mem_singleton.1 hu] at h2; exact absurd h2 hw, h.nodup⟩
theorem EdL.add {al dn : List Way} {L : List (Int × Int)} (h : EdL al dn L) (hA : Apart al) (hne : ∀ u ∈ al, u.a ≠ u.b) (hs : ∀ u ∈ dn, u ∈ al) (w : Way) (hwa : w ∈ al) (hnd : w ∉ dn) (hw : tells al w) : EdL al (dn ++ [w]) (L ++ [(min w.a w.b, max w.a w.b)]) where
  mem p := by
    rw [List.mem_append, h.mem, List.mem_singleton]
    constructor
    · rintro (⟨u, hu, h2⟩ | rfl)
      · exact ⟨u, List.mem_append_left _ hu, h2⟩
      · exact ⟨w, by simp, hw, rfl⟩
    · rintro ⟨u, hu, h2, h3⟩
      rcases List.mem_append.1 hu with hu | hu
      · exact .inl ⟨u, hu, h2, h3⟩
      · rw [List.mem_singleton.1 hu] at h3; exact .inr h3
  nodup := by
    rw [List.nodup_append]
    refine ⟨h.nodup, by simp, ?_⟩
    intro x hx y hy e
    rw [List.mem_singleton.1 hy] at e
    obtain ⟨u, hu, ht, rfl⟩ := (h.mem x).1 hx
    have e1 := congrArg Prod.fst e
    have e2 := congrArg Prod.snd e
    simp only at e1 e2
    have n1 := hne u (hs u hu)
    have n2 := hne w hwa
    have hcase : (u.a = w.a ∧ u.b = w.b) ∨ (u.a = w.b ∧ u.b = w.a) := by omega
    rcases hcase with ⟨c1, c2⟩ | ⟨c1, c2⟩
    · rw [hA.key (hs u hu) hwa c1 c2] at hu; exact hnd hu
    · have l1 := look_mem hA hwa
      have l2 := look_mem hA (hs u hu)
      unfold tells at ht hw
      rw [c1, c2] at l2
      rw [c1, c2, l1] at ht
      rw [l2] at hw
      rcases ht with ht | ht
      · rcases hw with hw | hw
        · omega
        · cases hw
      · cases ht
theorem EdL.done {al dn : List Way} {L : List (Int × Int)} (h : EdL al dn L) (hne : ∀ u ∈ al, u.a ≠ u.b) (hall : ∀ w ∈ al, w ∈ dn) (hs : ∀ u ∈ dn, u ∈ al) : EdgesR al ((srt L).map fun p => edOf al p.1 p.2) where
  sorted := by
    rw [List.pairwise_map]
    exact (srt_pw L h.nodup).imp fun {x y} hxy => hxy
  mem e := by
    rw [List.mem_map]
    constructor
    · rintro ⟨p, hp, rfl⟩
      obtain ⟨w, hw, _, rfl⟩ := (h.mem p).1 ((srt_perm L).mem_iff.1 hp)
      exact ⟨w, hs w hw, rfl⟩
    · rintro ⟨w, hw, rfl⟩
      by_cases ht : tells al w
      · exact ⟨_, (srt_perm L).mem_iff.2 ((h.mem _).2 ⟨w, hall w hw, ht, rfl⟩), rfl⟩
      · unfold tells at ht
        cases hl : look al w.b w.a with
        | none => exact absurd (.inr hl) ht
        | some u =>
          obtain ⟨hu, ha, hb⟩ := look_some hl
          have n2 := hne w hw
          have hlt : u.a < u.b := by
            have : ¬ w.a < w.b := fun h => ht (.inl h)
            omega
          refine ⟨_, (srt_perm L).mem_iff.2 ((h.mem (min u.a u.b, max u.a u.b)).2 ⟨u, hall u hu, .inl hlt, rfl⟩), ?_⟩
          rw [ha, hb]
          simp only [Int.min_comm w.b w.a, Int.max_comm w.b w.a]
theorem infoE : (Try.prog.info? 79).map (fun i => (i.zero, i.size, i.bytes)) = some (some (.agg #[.int .i64 0, .int .i64 0, .int .i64 0, .int .i64 0]), 4, 32) := by kernel_rfl
theorem cell_four_new (W : World) (a b c d : Value) (t : TypeId) : ∀ j u, [a, b, c, d][j]? = some u → (W.alloc (.cells #[a, b, c, d] t)).cell? ((⟨W.heap.size, 0, none⟩ : Addr).add j) = some u := by
  intro j u hj
  match j, hj with
  | 0, hj => simp at hj; subst hj; simp [Addr.add]
  | 1, hj => simp at hj; subst hj; simp [Addr.add]
  | 2, hj => simp at hj; subst hj; simp [Addr.add]
  | 3, hj => simp at hj; subst hj; simp [Addr.add]
theorem own_kept {W W' : World} {base : Nat} {e : TypeId} {size n : Nat} {v : Value} {xs : List Value} {row : Option Nat} (h : W.ownsRow base e size v n xs) (hg : W.grownBy W' row) (hne : ∀ k, v.ownBlock = some k → row ≠ some k) : W'.ownsRow base e size v n xs := by
  obtain ⟨h0, h | ⟨g, cap, cur, rfl, h2, h3, h4⟩⟩ := h
  · exact ⟨h0, .inl h⟩
  · exact ⟨h0, .inr ⟨g, cap, cur, rfl, h2, (hg.block g (Array.getElem?_eq_some_iff.1 h3).1 (fun e => hne g rfl e.symm)).trans h3, h4⟩⟩


set_option maxHeartbeats 2000000 in
theorem edges_any (W : World) (B : Nat) (n : Int) (fs : List (List Int)) (ok : WalkOk n fs) (hM : GoM W B (waysL 0 fs)) (hlen : (waysL 0 fs).length < 1099511627776) :
    Calls Try.prog 48 #[.map (some B)] W fun e W' => ∃ L A c, EdgesR (waysL 0 fs) ((srt L).map fun p => edOf (waysL 0 fs) p.1 p.2) ∧ e = .returned (.slice A L.length c) ∧ Below W.heap.size W W' ∧ W'.ownsRow W.heap.size 79 4 (.slice A L.length c) L.length (edCs (waysL 0 fs) (srt L)) := by
  obtain ⟨i0, hi0, hz0, hz1, hz2⟩ := info_parts infoE
  have hBW := hM.lt
  go_enter Try.func48, Try.ntmps48
  go_wp2_with (first | (at_range; (refine wpL_range_go _ rfl _ rfl B _ ok.apart rfl hM ?_); intro W1 cnt0 hrg0 hg0 hs0) | fail)
  go_frame
  have hbel0 : Below W.heap.size W W1 := bel_own (Below.refl _ _) hg0 (by intro k h; cases h)
  go_loopw [3] (fun lv wr => ∃ dn cnt L A c, GoRg wr B W.heap.size (waysL 0 fs) dn cnt ∧ lv = .slice A L.length c ∧ wr.ownsRow (W.heap.size + 1) 79 4 (.slice A L.length c) L.length (edCs (waysL 0 fs) L) ∧ Below W.heap.size W wr ∧ EdL (waysL 0 fs) dn L ∧ (∀ u ∈ dn, u ∈ waysL 0 fs) ∧ L.length ≤ dn.length ∧ dn.Nodup) (fun _ wr => wr.rangeLeft B W.heap.size)
  case atStart => exact ⟨[], cnt0, [], _, _, hrg0, rfl, World.ownsRow_nil _ _ _ _, hbel0, EdL.nil _, by simp, by simp, List.nodup_nil⟩
  case round =>
    obtain ⟨dn, cnt, L, A, c, hrg, rfl, hown, hbel, hE, hs, hll, hnd⟩ := hrel
    clear hrg0 hg0 hs0 hbel0
    go_upto_region 4 with (first | (at_next; (refine wpL_next_go _ rfl _ rfl B W.heap.size _ dn ok.apart rfl cnt hrg ?_ ?_)) | fail)
    · intro hall
      have hLl : L.length < 4611686018427387904 := by
        have := nodup_le dn (waysL 0 fs) hnd hs
        omega
      have hob := own_block hown
      have hsort : Calls Try.prog 65 #[.slice A L.length c, .func (.func 66) #[] #[]] wr fun e W' => e = .returned (.tuple #[]) ∧ Below W.heap.size W W' ∧ W'.ownsRow (W.heap.size + 1) 79 4 (.slice A L.length c) L.length (edCs (waysL 0 fs) (srt L)) := by
        rcases hown.2 with ⟨e, h0⟩ | ⟨g, cap, cur, e, _⟩
        · obtain rfl : L = [] := List.eq_nil_of_length_eq_zero h0
          obtain ⟨rfl, rfl⟩ : A = none ∧ c = 0 := by simpa using e
          have hh : Calls Try.prog 65 #[.slice none 0 0, .func (.func 66) #[] #[]] wr fun e W' => e = .returned (.tuple #[]) ∧ W' = wr := AnyF.slices_SortFunc_none { Try.sort65 with } none 0 _ wr
          refine hh.mono ?_
          rintro e W' ⟨he, rfl⟩
          exact ⟨he, hbel, by simpa [srt] using hown⟩
        · obtain ⟨rfl, rfl⟩ : A = some ⟨g, 0, none⟩ ∧ c = cap := by simpa using e
          refine (sort_any (waysL 0 fs) wr (W.heap.size + 1) g c L hown hLl).mono ?_
          rintro e W' ⟨he, hg, ho⟩
          exact ⟨he, bel_own hbel hg (fun k hk => by have := (hob k (by rw [← hk]; rfl)).1; omega), ho⟩
      have hED := hE.done (fun u hu => ok.ne hu) hall hs
      replace hED := Lib.hid hED
      clear hall hE hs hnd hll hob hrg hown hbel
      go_wp2_with (first | (go_at_call 65; (refine hsort.mono ?_); rintro e W2 ⟨rfl, hb2, ho2⟩) | fail)
      go_ret
      exact ⟨L, A, c, hED.out, rfl, hb2, own_base ho2 (by omega)⟩
    · intro w Wn cnt' hw hwn hrg2 hlt hgr hsz hen
      have hob := own_block hown
      have hown2 := own_kept hown hgr (fun k hk => by have := (hob k hk).1; intro e; cases e; omega)
      have hbel2 := bel_own hbel hgr (fun k hk => by cases hk; omega)
      clear hown hbel hgr
      go_upto_region 5 with (fail)
      have hrng : i64B w.a ∧ i64B w.b := by obtain ⟨D, _, hd⟩ := hM; exact hd.rng w hw
      have hbox : Blk (Wn.alloc (.cells #[.int .i64 w.a, .int .i64 w.b] 132)) wr.heap.size 132 #[.int .i64 w.a, .int .i64 w.b] := Blk.new _ _ _ _ hsz.symm
      have hb4 := bel_alloc hbel2 (.cells #[.int .i64 w.a, .int .i64 w.b] 132)
      have hown4 := hown2.alloc (.cells #[.int .i64 w.a, .int .i64 w.b] 132)
      have hrg4 := hrg2.below (bel_alloc (Below.refl _ _) (.cells #[.int .i64 w.a, .int .i64 w.b] 132))
      have hGW : W.heap.size + 1 ≤ wr.heap.size := by have := hrg2.lt; omega
      clear hen hown2 hrg2 hbel2
      generalize Wn.alloc (.cells #[.int .i64 w.a, .int .i64 w.b] 132) = W4 at *
      have hLB : L.length + 1 < 1099511627777 := by
        have h1 := nodup_le (dn ++ [w]) (waysL 0 fs) (by rw [List.nodup_append]; exact ⟨hnd, by simp, fun x hx y hy e => hwn (by rw [List.mem_singleton.1 hy] at e; rw [← e]; exact hx)⟩) (fun u hu => (List.mem_append.1 hu).elim (hs u) (fun h => by rw [List.mem_singleton.1 h]; exact hw))
        simp only [List.length_append, List.length_singleton] at h1
        omega
      have hnd2 : (dn ++ [w]).Nodup := by rw [List.nodup_append]; exact ⟨hnd, by simp, fun x hx y hy e => hwn (by rw [List.mem_singleton.1 hy] at e; rw [← e]; exact hx)⟩
      have hs2 : ∀ u ∈ dn ++ [w], u ∈ waysL 0 fs := fun u hu => (List.mem_append.1 hu).elim (hs u) (fun h => by rw [List.mem_singleton.1 h]; exact hw)
      have hrl := hrg.left
      generalize wr.heap.size = G at *
      have c0 : W4.cell? ⟨G, 0, none⟩ = some (.int .i64 w.a) := hbox.cell 0
      have c1 : W4.cell? ⟨G, 1, none⟩ = some (.int .i64 w.b) := hbox.cell 1
      have cl := hbox.lt
      have hM4 := hrg4.go
      have hne := ok.ne hw
      replace hnd2 := Lib.hid hnd2
      replace hs2 := Lib.hid hs2
      replace hrl := Lib.hid hrl
      by_cases hlt2 : w.a < w.b
      · have hE2 := Lib.hid (hE.add ok.apart (fun u hu => ok.ne hu) hs w hw hwn (.inl hlt2))
        go_upto_region 6 with (fail)
        refine wp_region_grow (by kernel_rfl) (by kernel_rfl) ?_
        repeat (go_big_quiet_step ((fail)))
        refine wpQuiet_nil ?_
        rintro _ ⟨xg, rfl⟩
        have hb6 := bel_grow hb4 xg
        have own6 := own_lay hown4 (xg.kept _)
        have hrg6 := GoRg.below hrg4 (xg.kept _)
        have hM6 := hrg6.go
        change GoM (grow W4 xg) B _ at hM6
        change GoRg (grow W4 xg) _ _ _ _ _ at hrg6
        change (grow W4 xg).ownsRow _ _ _ _ _ _ at own6
        generalize grow W4 xg = W6 at *
        have hmn : i64B (min w.a w.b) := by obtain ⟨h1, h2⟩ := hrng; unfold i64B at *; omega
        have hmx : i64B (max w.a w.b) := by obtain ⟨h1, h2⟩ := hrng; unfold i64B at *; omega
        generalize min w.a w.b = mn at *
        generalize max w.a w.b = mx at *
        have hob6 := Lib.hid (own_block own6)
        clear hE hlt2 hrg hrng
        clear hM4 c0 c1 cl hbox
        go_wp2_with (first
          | (go_at_call 64; (with_reducible refine (face_any W6 B _ hM6 mn mx hmn hmx).mono ?_); rintro e W7 ⟨rfl, hb7⟩; have hM7 := hM6.below hb7; have own7 := own_lay own6 hb7; have hrg7 := hrg6.below hb7; have hb67 := bel_trans hb6 hb7; clear hb6 own6 hrg6 hM6)
          | (go_at_call 64; (with_reducible refine (face_any W7 B _ hM7 mx mn hmx hmn).mono ?_); rintro e W8 ⟨rfl, hb8⟩; have own8 := own_lay own7 hb8; have hrg8 := hrg7.below hb8; have hb68 := bel_trans hb67 hb8; clear hb67 own7 hrg7 hM7)
          | (at_builtin; (refine wpList_append_own _ rfl _ _ 53 rfl (W.heap.size + 1) 79 i0 _ 4 32 Try.underlying53 hi0 hz0 hz1 hz2 rfl (by decide) _ _ _ rfl (own8.alloc _) ⟨W8.heap.size, 0, none⟩ 1 1 [.int .i64 mn, .int .i64 mx, .int .i64 (faceOf (waysL 0 fs) mn mx), .int .i64 (faceOf (waysL 0 fs) mx mn)] rfl rfl (cell_four_new _ _ _ _ _ _) (fun x hx => by simp at hx; rcases hx with rfl | rfl | rfl | rfl <;> rfl) (by unfold maxLen; omega) (by omega) (by have h1 := hrg8.lt; simp; omega) ?_); intro v9 W9 hown9 hg9 hnil; have hg9b : W8.grownBy W9 (Value.slice A L.length c).ownBlock := (World.grownBy_alloc _ _ _).trans hg9; clear hg9 hnil; obtain ⟨A9, c9, rfl⟩ := own_form hown9) | fail)
        have hob8 := own_block own8
        have hr8 := hrg8.lt
        have hrg9 := hrg8.kept hg9b (fun e => by have := (hob8 _ e.symm).1; omega) (fun e => by have := (hob8 _ e.symm).1; omega)
        have hb9 := bel_own hb68 hg9b (fun k hk => by have := (hob8 k hk).1; omega)
        go_roundw
        case rel => exact ⟨dn ++ [w], cnt', L ++ [(mn, mx)], A9, c9, hrg9, by simp, by simpa [edCs_snoc, encE] using hown9, hb9, hE2.out, hs2.out, by simpa using hll, hnd2.out⟩
        case measure => rw [hrg9.left, hrl.out]; exact hlt
      · have hfb : (decide (w.a < w.b)) = false := by simpa using hlt2
        have hfa : faceOf (waysL 0 fs) w.b w.a = -1 ∨ faceOf (waysL 0 fs) w.b w.a ≠ -1 := by omega
        rcases hfa with hfa | hfa
        · have hlk := (faceOf_neg ok.long w.b w.a).1 hfa
          have hE2 := Lib.hid (hE.add ok.apart (fun u hu => ok.ne hu) hs w hw hwn (.inr hlk))
          go_upto_region 6 with (first | (go_at_call 64; (with_reducible refine (face_any W4 B _ hM4 w.b w.a hrng.2 hrng.1).mono ?_); rintro e W5 ⟨rfl, hb5⟩; have c5 := (hb5.cell (p := ⟨G, 0, none⟩) cl).trans c0; have c6 := (hb5.cell (p := ⟨G, 1, none⟩) cl).trans c1; have cl5 := Nat.lt_of_lt_of_le cl hb5.size; have own5 := own_lay hown4 hb5; have hrg5 := hrg4.below hb5; have hb5b := bel_trans hb4 hb5; rw [hfa]) | fail)
          refine wp_region_grow (by kernel_rfl) (by kernel_rfl) ?_
          repeat (go_big_quiet_step ((fail)))
          refine wpQuiet_nil ?_
          rintro _ ⟨xg, rfl⟩
          have hb6 := bel_grow hb5b xg
          have own6 := own_lay own5 (xg.kept _)
          have hrg6 := GoRg.below hrg5 (xg.kept _)
          have hM6 := hrg6.go
          change GoM (grow W5 xg) B _ at hM6
          change GoRg (grow W5 xg) _ _ _ _ _ at hrg6
          change (grow W5 xg).ownsRow _ _ _ _ _ _ at own6
          generalize grow W5 xg = W6 at *
          have hmn : i64B (min w.a w.b) := by obtain ⟨h1, h2⟩ := hrng; unfold i64B at *; omega
          have hmx : i64B (max w.a w.b) := by obtain ⟨h1, h2⟩ := hrng; unfold i64B at *; omega
          generalize min w.a w.b = mn at *
          generalize max w.a w.b = mx at *
          have hob6 := Lib.hid (own_block own6)
          clear hE hlt2 hrg hrng
          clear hM4 c0 c1 cl hbox c5 c6 cl5 hb5 hrg4 hown4 hb4 hfa hlk hfb
          go_wp2_with (first
            | (go_at_call 64; (with_reducible refine (face_any W6 B _ hM6 mn mx hmn hmx).mono ?_); rintro e W7 ⟨rfl, hb7⟩; have hM7 := hM6.below hb7; have own7 := own_lay own6 hb7; have hrg7 := hrg6.below hb7; have hb67 := bel_trans hb6 hb7; clear hb6 own6 hrg6 hM6)
            | (go_at_call 64; (with_reducible refine (face_any W7 B _ hM7 mx mn hmx hmn).mono ?_); rintro e W8 ⟨rfl, hb8⟩; have own8 := own_lay own7 hb8; have hrg8 := hrg7.below hb8; have hb68 := bel_trans hb67 hb8; clear hb67 own7 hrg7 hM7)
            | (at_builtin; (refine wpList_append_own _ rfl _ _ 53 rfl (W.heap.size + 1) 79 i0 _ 4 32 Try.underlying53 hi0 hz0 hz1 hz2 rfl (by decide) _ _ _ rfl (own8.alloc _) ⟨W8.heap.size, 0, none⟩ 1 1 [.int .i64 mn, .int .i64 mx, .int .i64 (faceOf (waysL 0 fs) mn mx), .int .i64 (faceOf (waysL 0 fs) mx mn)] rfl rfl (cell_four_new _ _ _ _ _ _) (fun x hx => by simp at hx; rcases hx with rfl | rfl | rfl | rfl <;> rfl) (by unfold maxLen; omega) (by omega) (by have h1 := hrg8.lt; simp; omega) ?_); intro v9 W9 hown9 hg9 hnil; have hg9b : W8.grownBy W9 (Value.slice A L.length c).ownBlock := (World.grownBy_alloc _ _ _).trans hg9; clear hg9 hnil; obtain ⟨A9, c9, rfl⟩ := own_form hown9) | fail)
          have hob8 := own_block own8
          have hr8 := hrg8.lt
          have hrg9 := hrg8.kept hg9b (fun e => by have := (hob8 _ e.symm).1; omega) (fun e => by have := (hob8 _ e.symm).1; omega)
          have hb9 := bel_own hb68 hg9b (fun k hk => by have := (hob8 k hk).1; omega)
          go_roundw
          case rel => exact ⟨dn ++ [w], cnt', L ++ [(mn, mx)], A9, c9, hrg9, by simp, by simpa [edCs_snoc, encE] using hown9, hb9, hE2.out, hs2.out, by simpa using hll, hnd2.out⟩
          case measure => rw [hrg9.left, hrl.out]; exact hlt
        · have hlk : look (waysL 0 fs) w.b w.a ≠ none := fun h => hfa ((faceOf_neg ok.long w.b w.a).2 h)
          have hE2 := Lib.hid (hE.skip w (fun h => h.elim hlt2 hlk))
          have hfc : (faceOf (waysL 0 fs) w.b w.a == -1) = false := by simpa using hfa
          clear hfa
          go_wp2_with (first | (go_at_call 64; (with_reducible refine (face_any W4 B _ hM4 w.b w.a hrng.2 hrng.1).mono ?_); rintro e W5 ⟨rfl, hb5⟩; have own5 := own_lay hown4 hb5; have hrg5 := hrg4.below hb5; have hb5b := bel_trans hb4 hb5; generalize faceOf (waysL 0 fs) w.b w.a = fa at *) | fail)
          go_roundw
          case rel => exact ⟨dn ++ [w], cnt', L, A, c, hrg5, rfl, own5, hb5b, hE2.out, hs2.out, by simp; omega, hnd2.out⟩
          case measure => rw [hrg5.left, hrl.out]; exact hlt
end Go.Proofs.Ytpdnaceggpdleab
namespace Go.Proofs.Ytpdnaceggpdleab
open Go.RowKit
set_option linter.unusedVariables false
set_option linter.unusedSimpArgs false
set_option linter.unnecessarySimpa false
set_option maxRecDepth 100000


/-- A row of edges, a row of truths. -/
def EL (W : World) (A : Option Addr) (es : List Ed) : Prop := 0 < es.length → ∃ b off, A = some ⟨b, off, none⟩ ∧ b < W.heap.size ∧ ∀ i (h : i < es.length), W.cell? ⟨b, off + i * 4, none⟩ = some (.int .i64 es[i].a) ∧ W.cell? ⟨b, off + i * 4 + 1, none⟩ = some (.int .i64 es[i].b) ∧ W.cell? ⟨b, off + i * 4 + 2, none⟩ = some (.int .i64 es[i].f) ∧ W.cell? ⟨b, off + i * 4 + 3, none⟩ = some (.int .i64 es[i].g)
def BL (W : World) (A : Option Addr) (rs : List Bool) : Prop := 0 < rs.length → ∃ b off, A = some ⟨b, off, none⟩ ∧ b < W.heap.size ∧ ∀ i (h : i < rs.length), W.cell? ⟨b, off + i, none⟩ = some (.bool rs[i])
theorem EL.below {W W' : World} {A : Option Addr} {es : List Ed} (h : EL W A es) (hb : Below W.heap.size W W') : EL W' A es := fun hn => by
  obtain ⟨b, off, e, hl, hc⟩ := h hn
  refine ⟨b, off, e, Nat.lt_of_lt_of_le hl hb.size, fun i hi => ?_⟩
  obtain ⟨h1, h2, h3, h4⟩ := hc i hi
  exact ⟨(hb.cell (p := ⟨b, _, none⟩) hl).trans h1, (hb.cell (p := ⟨b, _, none⟩) hl).trans h2, (hb.cell (p := ⟨b, _, none⟩) hl).trans h3, (hb.cell (p := ⟨b, _, none⟩) hl).trans h4⟩
theorem BL.below {W W' : World} {A : Option Addr} {rs : List Bool} (h : BL W A rs) (hb : Below W.heap.size W W') : BL W' A rs := fun hn => by
  obtain ⟨b, off, e, hl, hc⟩ := h hn
  exact ⟨b, off, e, Nat.lt_of_lt_of_le hl hb.size, fun i hi => (hb.cell (p := ⟨b, _, none⟩) hl).trans (hc i hi)⟩
/-- What Build answers reads so. -/
structure TopoV (W : World) (A1 A2 A3 : Option Addr) (t : TopoT) : Prop where
  es : EL W A1 t.es
  fans : FL W A2 t.fans
  rs : BL W A3 t.rs
theorem TopoV.below {W W' : World} {A1 A2 A3 : Option Addr} {t : TopoT} (h : TopoV W A1 A2 A3 t) (hb : Below W.heap.size W W') : TopoV W' A1 A2 A3 t := ⟨h.es.below hb, h.fans.below hb, h.rs.below hb⟩
theorem own_cell {W : World} {base : Nat} {e : TypeId} {size n c : Nat} {A : Option Addr} {xs : List Value} (h : W.ownsRow base e size (.slice A n c) n xs) (hn : 0 < n) : ∃ b, A = some ⟨b, 0, none⟩ ∧ b < W.heap.size ∧ base ≤ b ∧ ∀ j, j < n * size → W.cell? ⟨b, j, none⟩ = xs[j]? := by
  obtain ⟨h0, ⟨h1, h2⟩ | ⟨g, cap, cur, h1, h2, h3, h4, h5, h6, h7⟩⟩ := h
  · omega
  · simp only [Value.slice.injEq] at h1
    refine ⟨g, h1.1, (Array.getElem?_eq_some_iff.1 h3).1, h2, fun j hj => ?_⟩
    rw [← h7, List.getElem?_take_of_lt hj]
    simp [World.cell?, h3]
theorem IL_own {W : World} {base c : Nat} {A : Option Addr} {ns : List Int} (h : W.ownsRow base 3 1 (.slice A ns.length c) ns.length (ints ns)) : IL W A ns := fun hn => by
  obtain ⟨b, e, hb, _, hc⟩ := own_cell h hn
  refine ⟨b, 0, e, hb, fun i hi => ?_⟩
  rw [Nat.zero_add, hc i (by omega)]
  simp [ints, hi]
theorem BL_own {W : World} {base c : Nat} {A : Option Addr} {rs : List Bool} (h : W.ownsRow base 4 1 (.slice A rs.length c) rs.length (rs.map Value.bool)) : BL W A rs := fun hn => by
  obtain ⟨b, e, hb, _, hc⟩ := own_cell h hn
  refine ⟨b, 0, e, hb, fun i hi => ?_⟩
  rw [Nat.zero_add, hc i (by omega)]
  simp [hi]
theorem EL_own {W : World} {base c n : Nat} {A : Option Addr} {al : List Way} {L : List (Int × Int)} (h : W.ownsRow base 79 4 (.slice A n c) n (edCs al L)) (hm : L.length = n) : EL W A (L.map fun p => edOf al p.1 p.2) := fun hn => by
  subst hm
  have hn' : 0 < L.length := by simpa using hn
  obtain ⟨b, e, hb, _, hc⟩ := own_cell h hn'
  refine ⟨b, 0, e, hb, fun i hi => ?_⟩
  have hi' : i < L.length := by simpa using hi
  have g : ∀ k, k < 4 → W.cell? ⟨b, 0 + i * 4 + k, none⟩ = (encE al L[i])[k]? := fun k hk => by
    rw [Nat.zero_add, hc _ (by omega), edCs_get al L i k hi' hk]
  have g0 := g 0 (by omega)
  simp only [Nat.add_zero] at g0
  refine ⟨g0.trans ?_, (g 1 (by omega)).trans ?_, (g 2 (by omega)).trans ?_, (g 3 (by omega)).trans ?_⟩ <;> simp [encE, edOf]
/-- Rows of the call's own behind one another in a row of its own. -/
structure OwnF (W : World) (base : Nat) (A : Option Addr) (c : Nat) (fans : List (List Int)) : Prop where
  row : ∃ vals, W.ownsRow base 31 1 (.slice A fans.length c) fans.length vals ∧ ∀ i (h : i < fans.length), ∃ B m, vals[i]? = some (.slice B fans[i].length m) ∧ W.ownsRow base 3 1 (.slice B fans[i].length m) fans[i].length (ints fans[i])
theorem OwnF.fl {W : World} {base c : Nat} {A : Option Addr} {fans : List (List Int)} (h : OwnF W base A c fans) : FL W A fans := fun hn => by
  obtain ⟨vals, h1, h2⟩ := h.row
  obtain ⟨b, e, hb, _, hc⟩ := own_cell h1 hn
  refine ⟨b, 0, e, hb, fun i hi => ?_⟩
  obtain ⟨B, m, h3, h4⟩ := h2 i hi
  exact ⟨B, m, by rw [Nat.zero_add, hc i (by omega)]; exact h3, IL_own h4⟩
theorem own_type {W : World} {base base2 : Nat} {e e2 : TypeId} {size size2 n n2 : Nat} {v v2 : Value} {xs xs2 : List Value} (h : W.ownsRow base e size v n xs) (h2 : W.ownsRow base2 e2 size2 v2 n2 xs2) (hne : e ≠ e2) : ∀ k, v.ownBlock = some k → v2.ownBlock ≠ some k := by
  intro k hk hk2
  rcases h.2 with ⟨rfl, _⟩ | ⟨g, cap, cur, rfl, _, h3, _⟩
  · cases hk
  · rcases h2.2 with ⟨rfl, _⟩ | ⟨g2, cap2, cur2, rfl, _, h4, _⟩
    · cases hk2
    · cases hk; cases hk2
      rw [h3] at h4
      simp at h4
      exact hne h4.2
/-- The rows stand where a block has changed that is none of theirs. -/
theorem OwnF.kept {W W' : World} {base c : Nat} {A : Option Addr} {fans : List (List Int)} {row : Option Nat} (h : OwnF W base A c fans) (hg : W.grownBy W' row) (hne : ∀ k, row = some k → k < base ∨ ∃ base2 e2 size2 v2 n2 xs2, W.ownsRow base2 e2 size2 v2 n2 xs2 ∧ v2.ownBlock = some k ∧ e2 ≠ 3 ∧ e2 ≠ 31) : OwnF W' base A c fans := by
  obtain ⟨vals, h1, h2⟩ := h.row
  refine ⟨vals, own_kept h1 hg (fun k hk e => ?_), fun i hi => ?_⟩
  · rcases hne k e with h3 | ⟨b2, e2, s2, v2, n2, x2, h3, h4, h5, h6⟩
    · have := (own_block h1 k hk).1; omega
    · exact own_type h3 h1 h6 k h4 hk
  · obtain ⟨B, m, h3, h4⟩ := h2 i hi
    refine ⟨B, m, h3, own_kept h4 hg (fun k hk e => ?_)⟩
    rcases hne k e with h5 | ⟨b2, e2, s2, v2, n2, x2, h5, h6, h7, h8⟩
    · have := (own_block h4 k hk).1; omega
    · exact own_type h5 h4 h7 k h6 hk
theorem OwnF.lay {W W' : World} {base c : Nat} {A : Option Addr} {fans : List (List Int)} (h : OwnF W base A c fans) (hb : Below W.heap.size W W') : OwnF W' base A c fans := h.kept (row := none) (grown_of hb) (by simp)
theorem OwnF.add {W W' : World} {base c c' m : Nat} {A A' B : Option Addr} {fans : List (List Int)} {x : List Int} {vals : List Value} (h2 : ∀ i (h : i < fans.length), ∃ B m, vals[i]? = some (.slice B fans[i].length m) ∧ W.ownsRow base 3 1 (.slice B fans[i].length m) fans[i].length (ints fans[i]))
    (h0 : W.ownsRow base 31 1 (.slice A fans.length c) fans.length vals) (hx : W.ownsRow base 3 1 (.slice B x.length m) x.length (ints x)) (hg : W.grownBy W' (Value.slice A fans.length c).ownBlock) (h1 : W'.ownsRow base 31 1 (.slice A' (fans.length + 1) c') (fans.length + 1) (vals ++ [.slice B x.length m])) : OwnF W' base A' c' (fans ++ [x]) := by
  have hl : vals.length = fans.length := by have := h0.1; omega
  have K : ∀ (v : Value) (n : Nat) (xs : List Value), W.ownsRow base 3 1 v n xs → W'.ownsRow base 3 1 v n xs := fun v n xs h => own_kept h hg (fun k hk e => own_type h0 h (by decide) k e hk)
  refine ⟨vals ++ [.slice B x.length m], by simpa using h1, fun i hi => ?_⟩
  rcases Nat.lt_or_ge i fans.length with h3 | h3
  · obtain ⟨B2, m2, h4, h5⟩ := h2 i h3
    refine ⟨B2, m2, ?_, ?_⟩
    · rw [List.getElem_append_left h3, List.getElem?_append_left (by omega)]; exact h4
    · rw [List.getElem_append_left h3]; exact K _ _ _ h5
  · have e : i = fans.length := by simp at hi; omega
    subst e
    refine ⟨B, m, ?_, ?_⟩
    · rw [List.getElem?_append_right (by omega), List.getElem_append_right (by omega)]; simp [hl]
    · rw [List.getElem_append_right (by omega)]; simpa using K _ _ _ hx
theorem infoIS : (Try.prog.info? 31).map (fun i => (i.zero, i.size, i.bytes)) = some (some (.slice none 0 0), 1, 24) := by kernel_rfl
theorem infoB : (Try.prog.info? 4).map (fun i => (i.zero, i.size, i.bytes)) = some (some (.bool false), 1, 1) := by kernel_rfl
end Go.Proofs.Ytpdnaceggpdleab
namespace Go.Proofs.Ytpdnaceggpdleab
open Go.RowKit
set_option linter.unusedVariables false
set_option linter.unusedSimpArgs false
set_option linter.unnecessarySimpa false
set_option maxRecDepth 100000


theorem hub_start {al : List Way} {v : Int} (h : froms al v ≠ []) : ∃ w ∈ al, w.b = (hubOf al v al).1 := by
  obtain ⟨w, hw, e, _⟩ := hubOf_to al v al h
  exact ⟨w, (mem_froms.1 hw).1, e⟩
theorem set_grown (W : World) (T i : Nat) (u : Value) : W.grownBy (W.setCell ⟨T, i, none⟩ u) (some T) := by
  refine ⟨rfl, rfl, rfl, by simp [World.setCell], fun k hk hne => ?_⟩
  have : T ≠ k := fun e => hne (by rw [e])
  simp [World.setCell, Array.getElem?_modify, this]
set_option maxHeartbeats 4000000 in
theorem build_any (W : World) (V : Int) (k : Nat) (fs : List (List Int)) (A : Option Addr) (hA : FL W A fs) (hV : i64B V) (hi : ∀ x ∈ fs, ∀ y ∈ x, i64B y) (hlen : (waysL 0 fs).length < 1099511627776) (hfl : fs.length < 1099511627776) (hxl : ∀ x ∈ fs, x.length < 1099511627776) (hVl : V < 1099511627776) :
    Calls Try.prog 22 #[.int .i64 V, .slice A fs.length k] W fun e W' => Below W.heap.size W W' ∧ ((¬ Surf V fs ∧ e = .returned (.tuple #[.agg #[.slice none 0 0, .slice none 0 0, .slice none 0 0], .int .i64 14])) ∨ (Surf V fs ∧ ∃ t A1 A2 A3 c1 c2 c3, TopoS V fs t ∧ TopoV W' A1 A2 A3 t ∧ e = .returned (.tuple #[.agg #[.slice A1 t.es.length c1, .slice A2 t.fans.length c2, .slice A3 t.rs.length c3], .int .i64 0]))) := by
  have cW := fun (W1 : World) (hb : Below W.heap.size W W1) => walk_any W1 V k fs A (hA.below hb) hV hi hlen hfl hxl
  have hb0 : Below W.heap.size W (W.alloc (.cells #[.slice none 0 0, .slice none 0 0, .slice none 0 0] 56)) := bel_alloc (Below.refl _ _) _
  have hR0 : Blk (W.alloc (.cells #[.slice none 0 0, .slice none 0 0, .slice none 0 0] 56)) W.heap.size 56 #[.slice none 0 0, .slice none 0 0, .slice none 0 0] := Blk.new _ _ _ _ rfl
  go_enter Try.func22, Try.ntmps22
  go_upto_region 1 with (fail)
  generalize W.alloc (.cells #[.slice none 0 0, .slice none 0 0, .slice none 0 0] 56) = W0 at *
  go_upto_region 2 with (first | (go_at_call 45; (with_reducible refine (cW _ hb0).mono ?_); rintro e W1 ⟨hb1, hcase⟩; obtain ⟨mm, bb, rfl⟩ : ∃ mm bb, e = .returned (.tuple #[mm, .bool bb]) := (by rcases hcase with ⟨_, m, h⟩ | ⟨_, B, h, _⟩; exact ⟨_, _, h⟩; exact ⟨_, _, h⟩)) | fail)
  have hR1 := hR0.below hb1
  have hbel1 := bel_trans hb0 hb1
  have hR1l := hR1.lt
  have hR1f : ∀ i, W1.frozen? ⟨W.heap.size, i, none⟩ = false := fun i => hR1.frozen i
  have f0 := hR1f 0
  have f1 := hR1f 1
  have f2 := hR1f 2
  have x0 : W1.cell? ⟨W.heap.size, 0, none⟩ = some (.slice none 0 0) := hR1.cell 0
  have x1 : W1.cell? ⟨W.heap.size, 1, none⟩ = some (.slice none 0 0) := hR1.cell 1
  have x2 : W1.cell? ⟨W.heap.size, 2, none⟩ = some (.slice none 0 0) := hR1.cell 2
  clear hR0 hb0 cW hb1 hR1f
  rcases hcase with ⟨hno, m, he⟩ | ⟨ok, B, he, hM⟩
  all_goals (simp only [Ending.returned.injEq, Value.tuple.injEq, Array.mk.injEq, List.cons.injEq, Value.bool.injEq, and_true] at he)
  all_goals (obtain ⟨rfl, rfl⟩ := he)
  · have hno2 := Lib.hid (show ¬ Surf V fs from fun h => hno h.1)
    clear hno
    have hE := ((hR1.set 0 (.slice none 0 0)).set 1 (.slice none 0 0)).set 2 (.slice none 0 0)
    go_wp2
    have hbE := bel_set (bel_set (bel_set hbel1 (p := ⟨W.heap.size, 0, none⟩) (Nat.le_refl _) (.slice none 0 0)) (p := ⟨W.heap.size, 1, none⟩) (Nat.le_refl _) (.slice none 0 0)) (p := ⟨W.heap.size, 2, none⟩) (Nat.le_refl _) (.slice none 0 0)
    generalize ((W1.setCell ⟨W.heap.size, 0, none⟩ (.slice none 0 0)).setCell ⟨W.heap.size, 1, none⟩ (.slice none 0 0)).setCell ⟨W.heap.size, 2, none⟩ (.slice none 0 0) = WE at *
    have y0 : WE.cell? ⟨W.heap.size, 0, none⟩ = some (.slice none 0 0) := hE.cell 0
    have y1 : WE.cell? ⟨W.heap.size, 1, none⟩ = some (.slice none 0 0) := hE.cell 1
    have y2 : WE.cell? ⟨W.heap.size, 2, none⟩ = some (.slice none 0 0) := hE.cell 2
    refine bodyPost_ret (v := .tuple #[.agg #[.slice none 0 0, .slice none 0 0, .slice none 0 0], .int .i64 14]) (by simp [results, Try.results22, go_sem, y0, y1, y2]) rfl ?_
    exact ⟨hbE, .inl ⟨hno2.out, rfl⟩⟩
  · obtain ⟨N, rfl⟩ := Int.eq_ofNat_of_zero_le ok.pos
    have hN : N < 1099511627776 := by omega
    have hrng : ∀ w ∈ waysL 0 fs, i64B w.a ∧ i64B w.b := by obtain ⟨D, _, hd⟩ := hM; exact hd.rng
    have hT0 : Blk (W1.alloc (.cells #[.slice none 0 0, .slice none 0 0, .slice none 0 0] 56)) W1.heap.size 56 #[.slice none 0 0, .slice none 0 0, .slice none 0 0] := Blk.new _ _ _ _ rfl
    have hb2 : Below W1.heap.size W1 (W1.alloc (.cells #[.slice none 0 0, .slice none 0 0, .slice none 0 0] 56)) := bel_alloc (Below.refl _ _) _
    have hsz2 : (W1.alloc (.cells #[.slice none 0 0, .slice none 0 0, .slice none 0 0] 56)).heap.size = W1.heap.size + 1 := World.size_alloc _ _
    have hM2 := hM.below hb2
    have hBl := hM.lt
    have hA2 := hA.below (bel_trans hbel1 hb2)
    have hR2 := hR1.below hb2
    have hbel2 := bel_trans hbel1 hb2
    clear hM hb2 hR1 hbel1 f0 f1 f2 x0 x1 x2
    go_upto_region 5 with (fail)
    generalize W1.alloc (.cells #[.slice none 0 0, .slice none 0 0, .slice none 0 0] 56) = W2 at *
    generalize hTe : W1.heap.size = T at *
    have cH := hubs_any W2 B N k fs A ok hM2 hA2 hrng hN hlen hfl hxl
    go_upto_region 6 with (first | (go_at_call 46; (with_reducible refine cH.mono ?_); rintro e W3 ⟨g, rfl, hb3, hH3, hg3⟩) | fail)
    have hR3 := hR2.below hb3
    have hT3 := hT0.below hb3
    have hM3 := hM2.below hb3
    have hbel3 := bel_trans hbel2 hb3
    have hg3b := hH3.lt
    have hsz3 := hb3.size
    clear hR2 hT0 hM2 hA2 hbel2 cH
    have hST : ∀ v : Nat, v < N → froms (waysL 0 fs) v ≠ [] := fun v hv h => by
      obtain ⟨w, hw, e⟩ := ok.all v (by omega) (by omega)
      obtain ⟨d, hd⟩ := ok.next hw
      have : (⟨w.b, d, w.f, w.a⟩ : Way) ∈ froms (waysL 0 fs) v := mem_froms.2 ⟨hd, e⟩
      rw [h] at this; cases this
    have hway : ∀ w ∈ waysL 0 fs, i64B w.f ∧ i64B w.c := fun w hw => by
      obtain ⟨d, hd⟩ := ok.prev hw
      refine ⟨?_, (hrng _ hd).1⟩
      obtain ⟨j, hj, hm⟩ := (mem_waysL fs 0 w).1 hw
      have := ok.long _ (List.getElem_mem hj)
      have := waysF_f (by omega) hm
      unfold i64B; omega
    replace hST := Lib.hid hST
    generalize hz3 : W3.heap.size = Z at *
    go_loopw [27] (fun i wr => ∃ (v : Nat) (A2 A3 : Option Addr) (c2 c3 : Nat) (fans : List (List Int)) (rs : List Bool), i = .int .i64 (v : Int) ∧ v ≤ N ∧ fans.length = v ∧ rs.length = v ∧ W3.grownBy wr (some T) ∧ Blk wr T 56 #[.slice none 0 0, .slice A2 fans.length c2, .slice A3 rs.length c3] ∧ OwnF wr Z A2 c2 fans ∧ wr.ownsRow Z 4 1 (.slice A3 rs.length c3) rs.length (rs.map Value.bool) ∧ (∀ u (h : u < fans.length) (h2 : u < rs.length), ∃ L, FanR (waysL 0 fs) (u : Int) (hubOf (waysL 0 fs) (u : Int) (waysL 0 fs)).1 L rs[u] ∧ L.length = (froms (waysL 0 fs) u).length ∧ fans[u] = L.map Way.f)) (fun i _ => N - (intOf i).toNat)
    case atStart => exact ⟨0, none, none, 0, 0, [], [], rfl, by omega, rfl, rfl, (grown_of (Below.refl _ _)).but _, hT3, ⟨[], World.ownsRow_nil _ _ _ _, fun i hi => by simp at hi⟩, World.ownsRow_nil _ _ _ _, fun u h => by simp at h⟩
    case round =>
      obtain ⟨v, A2, A3, c2, c3, fans, rs, rfl, hv, hfl2, hrl2, hgr, hT, hOF, hOR, hFan⟩ := hrel
      have hRr : Blk wr W.heap.size 56 #[.slice none 0 0, .slice none 0 0, .slice none 0 0] := (hgr.block _ (by have := hR3.lt; omega) (by intro e; cases e; omega)).trans hR3
      have hHr : Blk wr g 103 (hubCs N fun v => hubOf (waysL 0 fs) (v : Int) (waysL 0 fs)) := (hgr.block _ (by omega) (by intro e; cases e; omega)).trans hH3
      have hMr : GoM wr B (waysL 0 fs) := hM3.kept hgr (by intro e; cases e; omega)
      have hbelr : Below W.heap.size W wr := bel_own hbel3 hgr (fun k hk => by cases hk; omega)
      clear hR3 hH3 hM3 hbel3 hT3 hb3
      by_cases hlt : v < N
      · have q0 : (0 : Int) ≤ (v : Int) := by omega
        have q1 : (v : Int) < (N : Int) := by omega
        have hS := hub_start (hST.out v hlt)
        have x0 := hHr.cell (v * 2)
        have x1 := hHr.cell (v * 2 + 1)
        rw [hubCs_0 _ _ v hlt] at x0
        rw [hubCs_1 _ _ v hlt] at x1
        have hgl := hHr.lt
        have hcnt := hubOf_count (waysL 0 fs) (waysL 0 fs) (v : Int)
        have hcl : (hubOf (waysL 0 fs) (v : Int) (waysL 0 fs)).2 < 1099511627776 := by
          rw [hcnt]; exact Nat.lt_of_le_of_lt (List.length_filter_le _ _) hlen
        have hsi : i64B (hubOf (waysL 0 fs) (v : Int) (waysL 0 fs)).1 := by
          obtain ⟨w, hw, e⟩ := hS; rw [← e]; exact (hrng w hw).2
        have hvi : i64B (v : Int) := by unfold i64B; omega
        replace hFan := Lib.hid hFan
        replace hcnt := Lib.hid hcnt
        have hUQ := Lib.hid (fun (L : List Way) (r : Bool) (h : FanR (waysL 0 fs) (v : Int) (hubOf (waysL 0 fs) (v : Int) (waysL 0 fs)).1 L r) (hlt : L.length < (hubOf (waysL 0 fs) (v : Int) (waysL 0 fs)).2) => (show ¬ Surf (N : Int) fs from fun hs => by
          obtain ⟨M, s, h1, h2⟩ := hs.2 (v : Int) (by omega) (by omega)
          obtain ⟨rfl, _⟩ := h.unique ok.apart h1
          rw [hcnt.out] at hlt
          omega))
        generalize hho : hubOf (waysL 0 fs) (v : Int) (waysL 0 fs) = ho at *
        obtain ⟨st, cn⟩ := ho
        replace hho := Lib.hid hho
        simp only at x0 x1 hcl hsi
        have hbox : Blk (wr.alloc (.cells #[.int .i64 st, .int .i64 (cn : Int)] 103)) wr.heap.size 103 #[.int .i64 st, .int .i64 (cn : Int)] := Blk.new _ _ _ _ rfl
        have hb4 : Below wr.heap.size wr (wr.alloc (.cells #[.int .i64 st, .int .i64 (cn : Int)] 103)) := bel_alloc (Below.refl _ _) _
        have hM4 := hMr.below hb4
        have hszr := hgr.size
        go_upto_region 8 with (fail)
        generalize wr.alloc (.cells #[.int .i64 st, .int .i64 (cn : Int)] 103) = W4 at *
        have z0 : W4.cell? ⟨wr.heap.size, 0, none⟩ = some (.int .i64 st) := hbox.cell 0
        have z1 : W4.cell? ⟨wr.heap.size, 1, none⟩ = some (.int .i64 (cn : Int)) := hbox.cell 1
        have cF := fan_any W4 B (N : Int) fs ok hM4 hway (v : Int) st cn hvi hsi hcl hlen
        have hbl := hbox.lt
        clear x0 x1 hHr hgl hMr
        go_upto_region 9 with (first | (go_at_call 47; (with_reducible refine cF.mono ?_); rintro e W5 ⟨L, r, val, hFR, rfl, hb5, hval⟩; obtain ⟨Av, cv, rfl⟩ := own_form hval) | fail)
        have y1 : W5.cell? ⟨wr.heap.size, 1, none⟩ = some (.int .i64 (cn : Int)) := (hb5.cell (p := ⟨wr.heap.size, 1, none⟩) hbl).trans z1
        have hbl5 := Nat.lt_of_lt_of_le hbl hb5.size
        have hb45 := bel_trans hb4 hb5
        have hg5 : W3.grownBy W5 (some T) := hgr.trans ((grown_of hb45).but _)
        have hT5 := hT.below hb45
        have hOF5 := hOF.lay hb45
        have hOR5 := own_lay hOR hb45
        have hR5 := hRr.below hb45
        have hbel5 := bel_trans hbelr hb45
        have hle5 := hFR.toFanC.le ok
        have hval5 := own_base (base' := Z) hval (by have := hb4.size; omega)
        clear hval hT hOF hOR hRr hbelr hgr hb4 hb5 hb45 hM4 hbox z0 z1 cF hbl
        generalize wr.heap.size = X at *
        by_cases hc : L.length < cn
        · have hci : ((L.length : Int) < (cn : Int)) := by omega
          have hno := Lib.hid (hUQ.out L r hFR hc)
          have f0 := hR5.frozen 0
          have f1 := hR5.frozen 1
          have f2 := hR5.frozen 2
          have x0 : W5.cell? ⟨W.heap.size, 0, none⟩ = some (.slice none 0 0) := hR5.cell 0
          have x1 : W5.cell? ⟨W.heap.size, 1, none⟩ = some (.slice none 0 0) := hR5.cell 1
          have x2 : W5.cell? ⟨W.heap.size, 2, none⟩ = some (.slice none 0 0) := hR5.cell 2
          have xl := hR5.lt
          have hE := ((hR5.set 0 (.slice none 0 0)).set 1 (.slice none 0 0)).set 2 (.slice none 0 0)
          have hbE := bel_set (bel_set (bel_set hbel5 (p := ⟨W.heap.size, 0, none⟩) (Nat.le_refl _) (.slice none 0 0)) (p := ⟨W.heap.size, 1, none⟩) (Nat.le_refl _) (.slice none 0 0)) (p := ⟨W.heap.size, 2, none⟩) (Nat.le_refl _) (.slice none 0 0)
          replace hE := Lib.hid hE
          replace hbE := Lib.hid hbE
          clear hUQ hcnt hFan hST hOF5 hOR5 hval5 hT5 hg5 hFR hS hR5 hbel5
          go_wp2
          replace hE := hE.out
          replace hbE := hbE.out
          generalize ((W5.setCell ⟨W.heap.size, 0, none⟩ (.slice none 0 0)).setCell ⟨W.heap.size, 1, none⟩ (.slice none 0 0)).setCell ⟨W.heap.size, 2, none⟩ (.slice none 0 0) = WE at *
          have y0 : WE.cell? ⟨W.heap.size, 0, none⟩ = some (.slice none 0 0) := hE.cell 0
          have y1 : WE.cell? ⟨W.heap.size, 1, none⟩ = some (.slice none 0 0) := hE.cell 1
          have y2 : WE.cell? ⟨W.heap.size, 2, none⟩ = some (.slice none 0 0) := hE.cell 2
          refine bodyPost_ret (v := .tuple #[.agg #[.slice none 0 0, .slice none 0 0, .slice none 0 0], .int .i64 14]) (by simp [results, Try.results22, go_sem, y0, y1, y2]) rfl ?_
          exact ⟨hbE, .inl ⟨hno.out, rfl⟩⟩
        · have hci : ¬((L.length : Int) < (cn : Int)) := by omega
          have hLc : L.length = (froms (waysL 0 fs) (v : Int)).length := by
            have := hcnt.out
            omega
          have t1 : W5.cell? ⟨T, 1, none⟩ = some (.slice A2 fans.length c2) := hT5.cell 1
          have tl := hT5.lt
          obtain ⟨vals, hO1, hO2⟩ := hOF5.row
          obtain ⟨i1, hi1, hy0, hy1, hy2⟩ := info_parts infoIS
          replace hLc := Lib.hid hLc
          have hfN : fans.length < 1099511627776 := by omega
          have hrN : rs.length < 1099511627776 := by omega
          replace hfl2 := Lib.hid hfl2
          replace hrl2 := Lib.hid hrl2
          replace hFR := Lib.hid hFR
          replace hOR5 := Lib.hid hOR5
          have hbk := own_block hO1
          have hsz5 := hg5.size
          go_upto_region 11 with (fail)
          go_upto_region 12 with (first | (at_builtin; (refine wpList_append_own _ rfl _ _ 24 rfl Z 31 i1 _ 1 24 Try.underlying24 hi1 hy0 hy1 hy2 rfl (by decide) _ _ _ rfl (hO1.alloc _) ⟨W5.heap.size, 0, none⟩ 1 1 [.slice Av L.length cv] rfl rfl (cell_one_new _ _ _) (fun x hx => by simp at hx; subst hx; rfl) (by unfold maxLen; omega) (by omega) (by simp; omega) ?_); intro v6 W6 hown6 hg6 hnil; have hg56 : W5.grownBy W6 (Value.slice A2 fans.length c2).ownBlock := (World.grownBy_alloc _ _ _).trans hg6; clear hg6 hnil; obtain ⟨A6, c6, rfl⟩ := own_form hown6; have hT6 : Blk W6 T 56 #[.slice none 0 0, .slice A2 fans.length c2, .slice A3 rs.length c3] := (hg56.block _ tl (fun e => by have := (hbk _ e.symm).1; omega)).trans hT5; have tl6 := hT6.lt; have tf6 := hT6.frozen 1; have t6 : W6.cell? ⟨T, 1, none⟩ = some (.slice A2 fans.length c2) := hT6.cell 1) | fail)
          have hOF6 : OwnF W6 Z A6 c6 (fans ++ [L.map Way.f]) := OwnF.add hO2 hO1 (by simpa using hval5) hg56 (by simpa using hown6)
          have hOR6 := own_kept hOR5.out hg56 (fun k hk e => own_type hOR5.out hO1 (by decide) k hk e)
          have hg6b := hg5.andThen hg56 (fun j hj => .inl (by have := (hbk j hj).1; omega))
          have hR6 : Blk W6 W.heap.size 56 #[.slice none 0 0, .slice none 0 0, .slice none 0 0] := (hg56.block _ hR5.lt (fun e => by have := (hbk _ e.symm).1; omega)).trans hR5
          have hbel6 := bel_own hbel5 hg56 (fun k hk => by have := (hbk k hk).1; omega)
          have hsg := set_grown W6 T 1 (.slice A6 (fans.length + 1) c6)
          have hOF7 := hOF6.kept hsg (fun k hk => .inl (by cases hk; omega))
          have hOR7 := own_kept hOR6 hsg (fun k hk e => by have := (own_block hOR6 k hk).1; cases e; omega)
          have hg7 := hg6b.andThen hsg (fun j hj => .inr hj)
          have hR7 := hR6.far 1 (.slice A6 (fans.length + 1) c6) (b := T) (by omega)
          have hbel7 := bel_set hbel6 (p := ⟨T, 1, none⟩) (by simp only; omega) (.slice A6 (fans.length + 1) c6)
          have hT7 : Blk (W6.setCell ⟨T, 1, none⟩ (.slice A6 (fans.length + 1) c6)) T 56 #[.slice none 0 0, .slice A6 (fans.length + 1) c6, .slice A3 rs.length c3] := hT6.set 1 _
          clear hOF6 hOR6 hg6b hR6 hbel6 hsg hT6 hOR5 hg5 hR5 hbel5 hg56 hown6 hO1 hO2 hOF5 hval5 hT5 tl6 tf6 t6 t1 tl hbk hsz5
          generalize W6.setCell ⟨T, 1, none⟩ (.slice A6 (fans.length + 1) c6) = W7 at *
          have t7 : W7.cell? ⟨T, 2, none⟩ = some (.slice A3 rs.length c3) := hT7.cell 2
          have tl7 := hT7.lt
          have hbk := own_block hOR7
          have hsz7 := hg7.size
          obtain ⟨i2, hi2, hw0, hw1, hw2⟩ := info_parts infoB
          replace hOF7 := Lib.hid hOF7
          go_upto_region 13 with (first | (at_builtin; (refine wpList_append_own _ rfl _ _ 54 rfl Z 4 i2 _ 1 1 Try.underlying54 hi2 hw0 hw1 hw2 rfl (by decide) _ _ _ rfl (hOR7.alloc _) ⟨W7.heap.size, 0, none⟩ 1 1 [.bool r] rfl rfl (cell_one_new _ _ _) (fun x hx => by simp at hx; subst hx; rfl) (by unfold maxLen; omega) (by omega) (by simp; omega) ?_); intro v8 W8 hown8 hg8 hnil; have hg78 : W7.grownBy W8 (Value.slice A3 rs.length c3).ownBlock := (World.grownBy_alloc _ _ _).trans hg8; clear hg8 hnil; obtain ⟨A8, c8, rfl⟩ := own_form hown8; have hT8 : Blk W8 T 56 #[.slice none 0 0, .slice A6 (fans.length + 1) c6, .slice A3 rs.length c3] := (hg78.block _ tl7 (fun e => by have := (hbk _ e.symm).1; omega)).trans hT7; have tl8 := hT8.lt; have tf8 := hT8.frozen 2; have t8 : W8.cell? ⟨T, 2, none⟩ = some (.slice A3 rs.length c3) := hT8.cell 2) | fail)
          have hOF8 := hOF7.out.kept hg78 (fun k hk => .inr ⟨_, _, _, _, _, _, hOR7, hk, by decide, by decide⟩)
          have hg8b := hg7.andThen hg78 (fun j hj => .inl (by have := (hbk j hj).1; omega))
          have hsg := set_grown W8 T 2 (.slice A8 (rs.length + 1) c8)
          have hOF9 := hOF8.kept hsg (fun k hk => .inl (by cases hk; omega))
          have hOR9 := own_kept hown8 hsg (fun k hk e => by have := (own_block hown8 k hk).1; cases e; omega)
          have hg9 := hg8b.andThen hsg (fun j hj => .inr hj)
          have hT9 : Blk (W8.setCell ⟨T, 2, none⟩ (.slice A8 (rs.length + 1) c8)) T 56 #[.slice none 0 0, .slice A6 (fans.length + 1) c6, .slice A8 (rs.length + 1) c8] := hT8.set 2 _
          clear hOF8 hg8b hsg hT8 hT7 hg78 hown8 hOR7 hOF7 hg7 hR7 hbel7 tl8 tf8 t8 t7 tl7 hbk hsz7
          generalize W8.setCell ⟨T, 2, none⟩ (.slice A8 (rs.length + 1) c8) = W9 at *
          go_wp2
          go_roundw
          case rel =>
            refine ⟨v + 1, A6, A8, c6, c8, fans ++ [L.map Way.f], rs ++ [r], by go_num, by omega, by simp [hfl2.out], by simp [hrl2.out], hg9, by simpa using hT9, hOF9, by simpa using hOR9, fun u h h2 => ?_⟩
            have hff := hfl2.out
            have hrr := hrl2.out
            rcases Nat.lt_or_ge u v with hu | hu
            · obtain ⟨M, h3, h4, h5⟩ := hFan.out u (by omega) (by omega)
              refine ⟨M, ?_, h4, ?_⟩
              · rw [List.getElem_append_left (by omega)]; exact h3
              · rw [List.getElem_append_left (by omega)]; exact h5
            · have e : u = v := by simp at h; omega
              subst e
              refine ⟨L, ?_, hLc.out, ?_⟩
              · rw [hho.out, List.getElem_append_right (by omega)]
                simpa [hrr] using hFR.out
              · rw [List.getElem_append_right (by omega)]
                simp [hff]
          case measure => simp [intOf]; omega
      · obtain rfl : v = N := by omega
        have cE := edges_any wr B (v : Int) fs ok hMr hlen
        have tl := hT.lt
        go_upto_region 14 with (fail)
        go_upto_region 15 with (first | (go_at_call 48; (with_reducible refine cE.mono ?_); rintro e W5 ⟨L, A5, c5, hER, rfl, hb5, hE5⟩; have hT5 := hT.below hb5; have tl5 := hT5.lt; have tf5 := hT5.frozen 0; have t5 : W5.cell? ⟨T, 0, none⟩ = some (.slice none 0 0) := hT5.cell 0) | fail)
        have hg5 : W3.grownBy W5 (some T) := hgr.trans ((grown_of hb5).but _)
        have hOF5 := hOF.lay hb5
        have hOR5 := own_lay hOR hb5
        have hR5 := hRr.below hb5
        have hbel5 := bel_trans hbelr hb5
        have hszr := hgr.size
        have hbk := own_block hE5
        have hsg := set_grown W5 T 0 (.slice A5 L.length c5)
        have hOF6 := hOF5.kept hsg (fun k hk => .inl (by cases hk; omega))
        have hOR6 := own_kept hOR5 hsg (fun k hk e => by have := (own_block hOR5 k hk).1; cases e; omega)
        have hE6 := own_kept hE5 hsg (fun k hk e => by have := (hbk k hk).1; cases e; omega)
        have hR6 := hR5.far 0 (.slice A5 L.length c5) (b := T) (by omega)
        have hbel6 := bel_set hbel5 (p := ⟨T, 0, none⟩) (by simp only; omega) (.slice A5 L.length c5)
        have hT6 : Blk (W5.setCell ⟨T, 0, none⟩ (.slice A5 L.length c5)) T 56 #[.slice A5 L.length c5, .slice A2 fans.length c2, .slice A3 rs.length c3] := hT5.set 0 _
        clear hOF5 hOR5 hE5 hR5 hbel5 hsg hT5 hg5 hbk tl5 tf5 t5 hb5 hT hOF hOR hRr hbelr hgr
        generalize W5.setCell ⟨T, 0, none⟩ (.slice A5 L.length c5) = W6 at *
        have x0 : W6.cell? ⟨T, 0, none⟩ = some (.slice A5 L.length c5) := hT6.cell 0
        have x1 : W6.cell? ⟨T, 1, none⟩ = some (.slice A2 fans.length c2) := hT6.cell 1
        have x2 : W6.cell? ⟨T, 2, none⟩ = some (.slice A3 rs.length c3) := hT6.cell 2
        have r0 : W6.cell? ⟨W.heap.size, 0, none⟩ = some (.slice none 0 0) := hR6.cell 0
        have r1 : W6.cell? ⟨W.heap.size, 1, none⟩ = some (.slice none 0 0) := hR6.cell 1
        have r2 : W6.cell? ⟨W.heap.size, 2, none⟩ = some (.slice none 0 0) := hR6.cell 2
        have f0 := hR6.frozen 0
        have f1 := hR6.frozen 1
        have f2 := hR6.frozen 2
        have rl := hR6.lt
        have xl := hT6.lt
        have hRT : W.heap.size ≠ T := by omega
        have hE := ((hR6.set 0 (.slice A5 L.length c5)).set 1 (.slice A2 fans.length c2)).set 2 (.slice A3 rs.length c3)
        have hbE := bel_set (bel_set (bel_set hbel6 (p := ⟨W.heap.size, 0, none⟩) (Nat.le_refl _) (.slice A5 L.length c5)) (p := ⟨W.heap.size, 1, none⟩) (Nat.le_refl _) (.slice A2 fans.length c2)) (p := ⟨W.heap.size, 2, none⟩) (Nat.le_refl _) (.slice A3 rs.length c3)
        have hRlt : W.heap.size < Z := by omega
        have hgE : W6.grownBy (((W6.setCell ⟨W.heap.size, 0, none⟩ (.slice A5 L.length c5)).setCell ⟨W.heap.size, 1, none⟩ (.slice A2 fans.length c2)).setCell ⟨W.heap.size, 2, none⟩ (.slice A3 rs.length c3)) (some W.heap.size) := ((set_grown W6 W.heap.size 0 _).trans (set_grown _ W.heap.size 1 _)).trans (set_grown _ W.heap.size 2 _)
        have hOFe := (hOF6.kept hgE (fun k hk => .inl (by cases hk; omega))).fl
        have hORe := BL_own (own_kept hOR6 hgE (fun k hk e => by have := (own_block hOR6 k hk).1; cases e; omega))
        have hEe := EL_own (own_kept hE6 hgE (fun k hk e => by have := (own_block hE6 k hk).1; cases e; omega)) (srt_perm L).length_eq
        replace hE := Lib.hid hE
        replace hbE := Lib.hid hbE
        replace hOFe := Lib.hid hOFe
        replace hORe := Lib.hid hORe
        replace hEe := Lib.hid hEe
        replace hfl2 := Lib.hid hfl2
        replace hrl2 := Lib.hid hrl2
        replace hFan := Lib.hid hFan
        clear hOF6 hOR6 hE6 hR6 hbel6 hT6 hgE cE
        go_wp2
        replace hE := hE.out
        replace hbE := hbE.out
        replace hOFe := hOFe.out
        replace hORe := hORe.out
        replace hEe := hEe.out
        generalize ((W6.setCell ⟨W.heap.size, 0, none⟩ (.slice A5 L.length c5)).setCell ⟨W.heap.size, 1, none⟩ (.slice A2 fans.length c2)).setCell ⟨W.heap.size, 2, none⟩ (.slice A3 rs.length c3) = WE at *
        have y0 : WE.cell? ⟨W.heap.size, 0, none⟩ = some (.slice A5 L.length c5) := hE.cell 0
        have y1 : WE.cell? ⟨W.heap.size, 1, none⟩ = some (.slice A2 fans.length c2) := hE.cell 1
        have y2 : WE.cell? ⟨W.heap.size, 2, none⟩ = some (.slice A3 rs.length c3) := hE.cell 2
        refine bodyPost_ret (v := .tuple #[.agg #[.slice A5 L.length c5, .slice A2 fans.length c2, .slice A3 rs.length c3], .int .i64 0]) (by simp [results, Try.results22, go_sem, y0, y1, y2]) rfl ?_
        have hS : TopoS (v : Int) fs ⟨(srt L).map fun p => edOf (waysL 0 fs) p.1 p.2, fans, rs⟩ := ⟨ok, hER, by simp [hfl2.out], by simp [hrl2.out], fun u h h2 => hFan.out u h h2⟩
        have hls : ((srt L).map fun p => edOf (waysL 0 fs) p.1 p.2).length = L.length := by rw [List.length_map, (srt_perm L).length_eq]
        exact ⟨hbE, .inr ⟨hS.surf, _, A5, A2, A3, c5, c2, c3, hS, ⟨hEe, hOFe, hORe⟩, by rw [hls]⟩⟩
end Go.Proofs.Ytpdnaceggpdleab
