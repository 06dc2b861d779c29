/- A region that draws its order: its operations read, or are calls that answer a value and leave what was there; one of them may make a block; the last ones, in one forced order, store. One walk in the order of the text serves every order. No program is imported. -/
import Derived.Test.YtdkgbdecmgligaaGreatDoorBase
import Derived.StillTail
import Derived.Laws.Tables
import Derived.Laws.Rows
import Derived.Deep.WholeRow
import Derived.LoopN
import Derived.Deep.DeepCutAuto
import Derived.Deep.RegionHeld3
namespace Go.Proofs.YtdkgbdecmgligaaGreatDoor
open Go.RowKit
set_option linter.unusedVariables false
set_option linter.unusedSimpArgs false
def More.none_ : More := ⟨fun w => w, fun w => Below.refl _ _⟩
theorem grow_none (w : World) : grow w More.none_ = w := rfl
section
variable {P : Program} {ops : Array Oper} {w : World} {md : Region.Mode}
/-- From wherever the region has come, the operation answers v and leaves what was there. -/
def SureAt (P : Program) (o : Oper) (a : Act) (w : World) (v : Value) : Prop := ∀ x : More, o.quietAt P a (fun u => ∃ y, u = grow (grow w x) y) (grow w x) v
def Sure (P : Program) (ops : Array Oper) (w : World) (o : Oper) (v : Value) (a : Act) : Prop :=
  (Region.wanted o (yielded ops a.tmps) = true ∧ SureAt P o a w v) ∨ (Region.wanted o (yielded ops a.tmps) = false ∧ v = undef)
theorem Sure.of_same {o : Oper} {v : Value} {a a' : Act} (h : Sure P ops w o v a) (he : execOp a'.eval o = execOp a.eval o) (hw : Region.wanted o (yielded ops a'.tmps) = Region.wanted o (yielded ops a.tmps)) : Sure P ops w o v a' := by
  unfold Sure SureAt Oper.quietAt at *
  rw [he, hw]
  exact h
/-- What another operation, apart from it, has left makes no difference. -/
theorem Sure.put {o oj : Oper} {v u : Value} {a : Act} (h : Sure P ops w o v a) (hs : ∀ cs b, o.op ≠ .select cs b) (hd : ∀ d, oj.dst = some d → d ∉ o.looksAt ops) : Sure P ops w o v (a.put oj.dst u) :=
  h.of_same (execOp_put o hs a oj.dst u hd) (wanted_put o a oj.dst u hd)
theorem Sure.unput {o oj : Oper} {v u : Value} {a : Act} (h : Sure P ops w o v (a.put oj.dst u)) (hs : ∀ cs b, o.op ≠ .select cs b) (hd : ∀ d, oj.dst = some d → d ∉ o.looksAt ops) : Sure P ops w o v a :=
  h.of_same (execOp_put o hs a oj.dst u hd).symm (wanted_put o a oj.dst u hd).symm
def sureOp (P : Program) (ops : Array Oper) (w : World) (i : Nat) (K : Act → Prop) (a : Act) : Prop := ∃ o v, ops[i]? = some o ∧ Sure P ops w o v a ∧ K (a.put o.dst v)
/-- The one block that the region makes: its place in the region, its slot. -/
def pt (w : World) (x : More) : Value := .pointer (some ⟨(grow w x).heap.size, 0, none⟩)
/-- Where the region may be: nothing made yet; or the block made behind what x tells. -/
def At (w : World) (obj : Obj) : Option More → World → Prop
  | none, u => ∃ x, u = grow w x
  | some x, u => ∃ y, u = grow ((grow w x).alloc obj) y
theorem At.grows {obj : Obj} {s : Option More} {u : World} (h : At w obj s u) : ∃ x, u = grow w x := by
  cases s with
  | none => exact h
  | some x =>
    obtain ⟨y, rfl⟩ := h
    exact grow_of (bel_grow (bel_alloc (bel_grow (Below.refl _ _) x) obj) y)
theorem At.on {obj : Obj} {s : Option More} {u : World} (h : At w obj s u) (y : More) : At w obj s (grow u y) := by
  cases s with
  | none => obtain ⟨x, rfl⟩ := h; exact ⟨x.then y, rfl⟩
  | some x => obtain ⟨z, rfl⟩ := h; exact ⟨z.then y, rfl⟩
variable {n N : Nat} {alc : Option Tmp} {obj : Obj} {L : Option More → Array Bool → Act → Prop}
def anyU (P : Program) (md : Region.Mode) (ops : Array Oper) (w : World) (n : Nat) (alc : Option Tmp) (L : Option More → Array Bool → Act → Prop) : Nat → Option More → Array Bool → Act → Prop
  | 0, s, listed, a => L s listed a
  | f + 1, s, listed, a => Region.ready md ops listed ≠ [] ∧ ∀ i ∈ Region.ready md ops listed,
      (i < n ∧ sureOp P ops w i (anyU P md ops w n alc L f s (listed.setIfInBounds i true)) a) ∨
      (i = n ∧ s = none ∧ ∃ d, alc = some d ∧ ∀ x, anyU P md ops w n alc L f (some x) (listed.setIfInBounds i true) (a.put (some d) (pt w x)))
/-- What the block's making does. -/
def Makes (P : Program) (ops : Array Oper) (n : Nat) (alc : Option Tmp) (obj : Obj) : Prop :=
  ∀ d, alc = some d → ∃ o, ops[n]? = some o ∧ o.dst = some d ∧ o.guard = none ∧ ∀ (a : Act) (u : World), (execOp a.eval o).run P u = .ok (.value (.pointer (some ⟨u.heap.size, 0, none⟩))) (u.alloc obj)
theorem any_sound {g : Nat} {Q' : Exit → Act → World → Prop} (hm : Makes P ops n alc obj) (hL : ∀ s listed a u, At w obj s u → L s listed a → wpAny P md ops Q' g listed a u) :
    ∀ (f : Nat) (s : Option More) (listed : Array Bool) (a : Act) (u : World), At w obj s u → anyU P md ops w n alc L f s listed a → wpAny P md ops Q' (f + g) listed a u
  | 0, s, listed, a, u, hu, h => by rw [Nat.zero_add]; exact hL _ _ _ _ hu h
  | f + 1, s, listed, a, u, hu, h => by
    rw [show f + 1 + g = (f + g) + 1 by omega]
    refine ⟨fun h0 => absurd h0 h.1, fun i hi => ?_⟩
    rcases h.2 i hi with ⟨_, o, v, ho, hy, hk⟩ | ⟨hin, hsn, d, hd, hk⟩
    · unfold wpOp
      simp only [ho]
      rcases hy with ⟨hw, hv⟩ | ⟨hw, rfl⟩
      · rw [if_pos hw]
        left
        obtain ⟨x, rfl⟩ := hu.grows
        have h3 := hv x
        unfold Oper.quietAt at h3
        unfold Oper.wp
        generalize (execOp a.eval o).run P (grow w x) = r at *
        cases r with
        | ok nx w' =>
          cases nx <;> simp only [Oper.quietUpon] at h3 <;> simp only [Oper.upon]
          case value u' =>
            obtain ⟨e1, e2⟩ := h3
            rw [e1, e2]
            exact any_sound hm hL f _ _ _ _ hu hk
          case skip =>
            obtain ⟨e1, e2⟩ := h3
            rw [e1, ← e2]
            exact any_sound hm hL f _ _ _ _ hu hk
          case enter fn args =>
            obtain ⟨e1, hc⟩ := h3
            rw [e1]
            exact hc.mono fun e w'' ⟨he, y, hy⟩ => by
              subst he hy
              exact any_sound hm hL f _ _ _ _ (hu.on y) hk
        | halt x w' => simp only [Oper.quietUpon] at h3
      · rw [if_neg (by rw [hw]; exact Bool.false_ne_true)]
        exact any_sound hm hL f _ _ _ _ hu hk
    · obtain ⟨o, ho, hdst, hg, hrun⟩ := hm d hd
      rw [hsn] at hu
      obtain ⟨x, hux⟩ := hu
      unfold wpOp
      rw [hin] at hk ⊢
      simp only [ho]
      rw [if_pos (by simp [Region.wanted, hg])]
      left
      unfold Oper.wp
      rw [hrun]
      simp only [Oper.upon, hdst]
      rw [hux]
      exact any_sound hm hL f (some x) _ _ _ ⟨More.none_, rfl⟩ (hk x)
theorem any_first {i : Nat} {oi : Oper} {v : Value} (hm : Makes P ops n alc obj) (hi : ops[i]? = some oi) (hsel : ∀ (j : Nat) (o : Oper) cs b, ops[j]? = some o → o.op ≠ .select cs b) (hin : i < n) (hnN : n ≤ N) (hN : ∀ d, alc = some d → N = n + 1)
    (hs : Region.sinkB md ops N = true) (hc : Region.chainB md ops N = true) (hNs : N < ops.size) (hdone : ∀ s listed a, L s listed a → ∀ j ∈ Region.ready md ops listed, N ≤ j) :
    ∀ (f : Nat) (s : Option More) (listed : Array Bool) (a : Act), HeadInv md ops N listed →
      (∀ j oj, ops[j]? = some oj → j ≠ i → listed.getD j true = false → (∀ e ∈ oj.after, Region.binds md e = true → e.on ≠ i) → oi.apart ops oj = true) →
      i ∈ Region.ready md ops listed → Sure P ops w oi v a →
      anyU P md ops w n alc L f s (listed.setIfInBounds i true) (a.put oi.dst v) → anyU P md ops w n alc L (f + 1) s listed a := by
  intro f
  induction f with
  | zero =>
    intro s listed a inv _ hr hy H
    have hun := (mem_ready.1 hr).1
    refine ⟨fun h => (by rw [h] at hr; cases hr), fun j hj => ?_⟩
    have hjn : j < N := by
      rcases Nat.lt_or_ge j N with h | h
      · exact h
      · exact absurd hj (tail_waits hs hc hNs inv _ i rfl (by omega) hun j h)
    by_cases hji : j = i
    · subst hji; exact .inl ⟨hin, oi, v, hi, hy, H⟩
    · have := hdone _ _ _ H j (ready_mono hj hji)
      omega
  | succ f ih =>
    intro s listed a inv hfree hr hy H
    have hun := (mem_ready.1 hr).1
    refine ⟨fun h => (by rw [h] at hr; cases hr), fun j hj => ?_⟩
    have hjn : j < N := by
      rcases Nat.lt_or_ge j N with h | h
      · exact h
      · exact absurd hj (tail_waits hs hc hNs inv _ i rfl (by omega) hun j h)
    by_cases hji : j = i
    · subst hji; exact .inl ⟨hin, oi, v, hi, hy, H⟩
    · obtain ⟨hjun, oj, hoj, hall⟩ := mem_ready.1 hj
      have hnot : ∀ e ∈ oj.after, Region.binds md e = true → e.on ≠ i := fun e he hb heq => by
        have h1 := hall e he hb
        rw [heq, getD_both hun] at h1
        cases h1
      obtain ⟨p1, p2, p3⟩ := Oper.apart_spec (hfree j oj hoj hji hjun hnot)
      have hfree' : ∀ k ok, ops[k]? = some ok → k ≠ i → (listed.setIfInBounds j true).getD k true = false →
          (∀ e ∈ ok.after, Region.binds md e = true → e.on ≠ i) → oi.apart ops ok = true := fun k ok hk hki hun' hno => by
        refine hfree k ok hk hki ?_ hno
        by_cases hjk : j = k
        · subst hjk; exact hjun
        · rw [getD_set_ne true hjk] at hun'; exact hun'
      have go : ∀ (s' : Option More) (u : Value), anyU P md ops w n alc L f s' ((listed.setIfInBounds i true).setIfInBounds j true) ((a.put oi.dst v).put oj.dst u) →
          anyU P md ops w n alc L (f + 1) s' (listed.setIfInBounds j true) (a.put oj.dst u) := fun s' u h => by
        refine ih s' (listed.setIfInBounds j true) (a.put oj.dst u) (inv.set hj hjn) hfree' (ready_mono hr (Ne.symm hji)) (hy.put (fun cs b => hsel i oi cs b hi) p3) ?_
        rw [Array.setIfInBounds_comm _ _ hji, ← Act.put_comm a v u p2]
        exact h
      rcases H.2 j (ready_mono hj hji) with ⟨hj2, oj', u, hoj', hyj, hk⟩ | ⟨hj2, hs2, d, hd, hk⟩
      · obtain rfl : oj = oj' := Option.some.inj (hoj.symm.trans hoj')
        exact .inl ⟨hj2, oj, u, hoj, hyj.unput (fun cs b => hsel j oj cs b hoj) p1, go s u hk⟩
      · obtain ⟨o, ho, hdst, _, _⟩ := hm d hd
        subst hj2
        obtain rfl : oj = o := Option.some.inj (hoj.symm.trans ho)
        refine .inr ⟨rfl, hs2, d, hd, fun x => ?_⟩
        have := go (some x) (pt w x)
        rw [hdst] at this
        exact this (hk x)
/-! the order of the text -/
def lexH (md : Region.Mode) (ops : Array Oper) (fin : Array Bool → Bool) : Nat → Nat → Array Bool → Bool
  | 0, _, listed => fin listed
  | f + 1, k, listed => (Region.ready md ops listed).contains k && Region.free md ops listed k && lexH md ops fin f (k + 1) (listed.setIfInBounds k true)
/-- The walk with one value for each operation. -/
def sureL (P : Program) (ops : Array Oper) (w : World) (Q : Act → Prop) : List Oper → Act → Prop
  | [], a => Q a
  | o :: rest, a => ∃ v, Sure P ops w o v a ∧ sureL P ops w Q rest (a.put o.dst v)
theorem any_lex {F : Nat} {fin : Array Bool → Bool} {Q : Act → Prop} (hm : Makes P ops n alc obj) (hsel : Region.noSelect ops = true) (hnN : n ≤ N) (hN : ∀ d, alc = some d → N = n + 1)
    (hs : Region.sinkB md ops N = true) (hc : Region.chainB md ops N = true) (hNs : N < ops.size) (hdone : ∀ s listed a, L s listed a → ∀ j ∈ Region.ready md ops listed, N ≤ j)
    (hfin : ∀ listed a, HeadInv md ops N listed → fin listed = true → Q a → anyU P md ops w n alc L F none listed a) :
    ∀ (l : List Oper) (k : Nat) (listed : Array Bool) (a : Act), (∀ j, j < l.length → l[j]? = ops[k + j]?) → k + l.length = n → HeadInv md ops N listed →
    lexH md ops fin l.length k listed = true → sureL P ops w Q l a → anyU P md ops w n alc L (l.length + F) none listed a
  | [], k, listed, a, _, hk, inv, hB, h => by
    simp only [List.length_nil, Nat.zero_add]
    exact hfin listed a inv (by simpa [lexH] using hB) h
  | o :: l, k, listed, a, hl, hk, inv, hB, h => by
    have h0 : ops[k]? = some o := by simpa using (hl 0 (by simp)).symm
    simp only [List.length_cons, lexH, Bool.and_eq_true] at hB
    obtain ⟨⟨hr, hf⟩, hB'⟩ := hB
    have hkn : k < n := by simp only [List.length_cons] at hk; omega
    have hr' : k ∈ Region.ready md ops listed := by simpa using hr
    obtain ⟨v, hy, hK⟩ := h
    rw [show (o :: l).length + F = (l.length + F) + 1 by simp only [List.length_cons]; omega]
    exact any_first hm h0 (Region.noSelect_spec hsel) hkn hnN hN hs hc hNs hdone (l.length + F) none listed a inv (Region.free_spec h0 hf) hr' hy
      (any_lex hm hsel hnN hN hs hc hNs hdone hfin l (k + 1) _ _ (fun j hj => by have := hl (j + 1) (by simp; omega); simpa [Nat.add_assoc, Nat.add_comm 1 j] using this) (by simp only [List.length_cons] at hk; omega) (inv.set hr' (by omega)) hB' hK)
/-! one value, out of walks from wherever the region has come -/
def dstsB (t : Nat) : List Oper → Bool
  | [] => true
  | o :: l => (match o.dst with | some d => decide (d < t) && l.all (fun o' => o'.dst != some d) | none => false) && dstsB t l
theorem put_size (a : Act) (d : Option Tmp) (v : Value) : (a.put d v).tmps.size = a.tmps.size := by cases d <;> simp [Act.put]
theorem quiet_keeps {C : World → Prop} {A : Act} {d : Tmp} : ∀ (l : List Oper) (a : Act), (l.all fun o' => o'.dst != some d) = true → wpQuiet P ops C (fun a' => a' = A) l a → A.tmps[d]? = a.tmps[d]?
  | [], a, _, h => by rw [← (h : a = A)]
  | o :: l, a, hd, h => by
    simp only [List.all_cons, Bool.and_eq_true, bne_iff_ne, ne_eq] at hd
    have key : ∀ v, (a.put o.dst v).tmps[d]? = a.tmps[d]? := fun v => by
      cases ho : o.dst with
      | none => rfl
      | some e =>
        have : e ≠ d := fun he => hd.1 (by rw [ho, he])
        simp [Act.put, Array.getElem?_setIfInBounds_ne this]
    unfold wpQuiet at h
    split at h
    · obtain ⟨v, _, h2⟩ := h
      rw [quiet_keeps l _ hd.2 h2, key]
    · rw [quiet_keeps l _ hd.2 h, key]
theorem sure_of_quiet {A : Act} {Q : Act → Prop} (hQ : Q A) : ∀ (l : List Oper) (a : Act), dstsB a.tmps.size l = true → (∀ x : More, wpQuiet P ops (fun u => ∃ y, u = grow (grow w x) y) (fun a' => a' = A) l a) → sureL P ops w Q l a
  | [], a, _, h => by have := h More.none_; unfold wpQuiet at this; subst this; exact hQ
  | o :: l, a, hd, h => by
    simp only [dstsB, Bool.and_eq_true] at hd
    obtain ⟨hd1, hd2⟩ := hd
    cases ho : o.dst with
    | none => rw [ho] at hd1; cases hd1
    | some d =>
      rw [ho] at hd1
      simp only [Bool.and_eq_true, decide_eq_true_eq] at hd1
      have fixed : ∀ v, wpQuiet P ops (fun u => ∃ y, u = grow (grow w More.none_) y) (fun a' => a' = A) l (a.put o.dst v) → A.tmps[d]? = some v := fun v hv => by
        rw [quiet_keeps l _ hd1.2 hv, ho]
        simp [Act.put, hd1.1]
      have fixed' : ∀ (x : More) v, wpQuiet P ops (fun u => ∃ y, u = grow (grow w x) y) (fun a' => a' = A) l (a.put o.dst v) → A.tmps[d]? = some v := fun x v hv => by
        rw [quiet_keeps l _ hd1.2 hv, ho]
        simp [Act.put, hd1.1]
      by_cases hw : Region.wanted o (yielded ops a.tmps) = true
      · have h0 := h More.none_
        unfold wpQuiet at h0
        rw [if_pos hw] at h0
        obtain ⟨v, _, h2⟩ := h0
        have hv := fixed v h2
        have each : ∀ x : More, (∀ u, (∃ y, u = grow (grow w x) y) → o.quietAt P a (fun u => ∃ y, u = grow (grow w x) y) u v) ∧ wpQuiet P ops (fun u => ∃ y, u = grow (grow w x) y) (fun a' => a' = A) l (a.put o.dst v) := fun x => by
          have hx := h x
          unfold wpQuiet at hx
          rw [if_pos hw] at hx
          obtain ⟨v', h1', h2'⟩ := hx
          have hv' := fixed' x v' h2'
          rw [hv] at hv'
          cases hv'
          exact ⟨h1', h2'⟩
        refine ⟨v, .inl ⟨hw, fun x => (each x).1 _ ⟨More.none_, rfl⟩⟩, ?_⟩
        exact sure_of_quiet hQ l _ (by rw [put_size]; exact hd2) fun x => (each x).2
      · refine ⟨undef, .inr ⟨by simpa using hw, rfl⟩, ?_⟩
        refine sure_of_quiet hQ l _ (by rw [put_size]; exact hd2) fun x => ?_
        have hx := h x
        unfold wpQuiet at hx
        rw [if_neg hw] at hx
        exact hx
end
section
variable {P : Program} {w : World}
def tailB (l : List Oper) (n : Nat) : Bool :=
  Region.noSelect l.toArray && decide (n < l.length) && Region.sinkB .any l.toArray n && Region.chainB .any l.toArray n && lexH .any l.toArray (fun listed => Region.seqB .any l.toArray (l.length - n) n listed) n 0 (Array.replicate l.length false)
theorem inv0 (l : List Oper) (N : Nat) : HeadInv .any l.toArray N (Array.replicate l.length false) :=
  ⟨by simp, fun j oj _ hl => (by rw [getD_replicate_false] at hl; cases hl), fun t _ ht => getD_in (by simpa using ht) (getD_replicate_false _ _)⟩
/-- The region's first n operations read or are such calls; the rest goes in one order. A: the frame behind the first n. -/
theorem wp_region_tail {id : Nat} {Q : Exit → Act → World → Prop} {a : Act} {l : List Oper} (n : Nat) (A : Act) (hm : P.follows .mixedOrders = true) (hB : tailB l n = true) (hd : dstsB a.tmps.size (l.take n) = true)
    (h : ∀ x : More, wpQuiet P l.toArray (fun u => ∃ y, u = grow (grow w x) y) (fun a' => a' = A) (l.take n) a)
    (ht : ∀ x : More, wpList P l.toArray Q (l.drop n) A (grow w x)) : (Code.region id l.toArray true).wp P Q a w := by
  simp only [tailB, Bool.and_eq_true, decide_eq_true_eq] at hB
  obtain ⟨⟨⟨⟨hsel, hn⟩, hs⟩, hc⟩, hlex⟩ := hB
  have htl : (l.take n).length = n := by simp; omega
  refine wp_region_any hm ?_
  have hmk : Makes P l.toArray n none (.cells #[] 0) := fun d hd => by cases hd
  have hu : At w (.cells #[] 0) none { w with drawn := w.drawn + 1 } := grow_of (bel_drew (Below.refl _ _))
  have H := any_lex (P := P) (w := w) (md := .any) (ops := l.toArray) (n := n) (N := n) (alc := none) (obj := .cells #[] 0) (L := fun s listed a => s = none ∧ Region.seqB .any l.toArray (l.length - n) n listed = true ∧ a = A) (F := 0)
    (fin := fun listed => Region.seqB .any l.toArray (l.length - n) n listed) (Q := fun a => a = A) hmk hsel (Nat.le_refl _) (fun d hd => by cases hd) hs hc (by simpa using hn) (fun s listed a h => seqB_ready h.2.1)
    (fun listed a _ hf hq => ⟨rfl, hf, hq⟩) (l.take n) 0 (Array.replicate l.length false) a (fun j hj => by
      rw [htl] at hj
      simp [hj]) (by simpa using htl) (inv0 l n) (by rw [htl]; exact hlex) (sure_of_quiet (Q := fun a => a = A) rfl _ _ hd h)
  have S := any_sound (P := P) (Q' := Q) (g := l.length - n) hmk (fun s listed a u hu hl => by
    obtain ⟨rfl, hq, rfl⟩ := hl
    obtain ⟨x, rfl⟩ := hu
    have := wpAny_of_seq (md := .any) (Q' := Q) (ops := l.toArray) (l.drop n) n listed a (grow w x) (fun j => by simp [List.getElem?_drop]) (by simpa using hq) (ht x)
    simpa using this) _ _ _ _ _ hu H
  rw [htl, show n + 0 + (l.length - n) = l.length by omega] at S
  simpa using S
def makeB (l : List Oper) (n : Nat) : Bool :=
  Region.noSelect l.toArray && decide (n + 1 < l.length) && Region.sinkB .any l.toArray (n + 1) && Region.chainB .any l.toArray (n + 1) &&
  lexH .any l.toArray (fun listed => decide (Region.ready .any l.toArray listed = [n]) && Region.seqB .any l.toArray (l.length - (n + 1)) (n + 1) (listed.setIfInBounds n true)) n 0 (Array.replicate l.length false)
/-- The same, where operation n makes a block. -/
theorem wp_region_make {id : Nat} {Q : Exit → Act → World → Prop} {a : Act} {l : List Oper} (n : Nat) (A : Act) (d : Tmp) (obj : Obj) (hm : P.follows .mixedOrders = true) (hB : makeB l n = true) (hd : dstsB a.tmps.size (l.take n) = true)
    (hmk : Makes P l.toArray n (some d) obj)
    (h : ∀ x : More, wpQuiet P l.toArray (fun u => ∃ y, u = grow (grow w x) y) (fun a' => a' = A) (l.take n) a)
    (ht : ∀ x y : More, wpList P l.toArray Q (l.drop (n + 1)) (A.put (some d) (.pointer (some ⟨(grow w x).heap.size, 0, none⟩))) (grow ((grow w x).alloc obj) y)) : (Code.region id l.toArray true).wp P Q a w := by
  simp only [makeB, Bool.and_eq_true, decide_eq_true_eq] at hB
  obtain ⟨⟨⟨⟨hsel, hn⟩, hs⟩, hc⟩, hlex⟩ := hB
  have htl : (l.take n).length = n := by simp; omega
  refine wp_region_any hm ?_
  have hu : At w obj none { w with drawn := w.drawn + 1 } := grow_of (bel_drew (Below.refl _ _))
  have H := any_lex (P := P) (w := w) (md := .any) (ops := l.toArray) (n := n) (N := n + 1) (alc := some d) (obj := obj)
    (L := fun s listed a => Region.seqB .any l.toArray (l.length - (n + 1)) (n + 1) listed = true ∧ ∃ x, s = some x ∧ a = A.put (some d) (pt w x)) (F := 1)
    (fin := fun listed => decide (Region.ready .any l.toArray listed = [n]) && Region.seqB .any l.toArray (l.length - (n + 1)) (n + 1) (listed.setIfInBounds n true)) (Q := fun a => a = A) hmk hsel (by omega) (fun d hd => rfl) hs hc (by simpa using hn)
    (fun s listed a h => seqB_ready h.1)
    (fun listed a _ hf hq => by
      simp only [Bool.and_eq_true, decide_eq_true_eq] at hf
      refine ⟨by rw [hf.1]; simp, fun i hi => .inr ?_⟩
      rw [hf.1] at hi
      obtain rfl : i = n := by simpa using hi
      exact ⟨rfl, rfl, d, rfl, fun x => ⟨hf.2, x, rfl, by rw [hq]⟩⟩) (l.take n) 0 (Array.replicate l.length false) a (fun j hj => by
      rw [htl] at hj
      simp [hj]) (by simpa using htl) (inv0 l (n + 1)) (by rw [htl]; exact hlex) (sure_of_quiet (Q := fun a => a = A) rfl _ _ hd h)
  have S := any_sound (P := P) (Q' := Q) (g := l.length - (n + 1)) hmk (fun s listed a u hu hl => by
    obtain ⟨hq, x, rfl, rfl⟩ := hl
    obtain ⟨y, rfl⟩ := hu
    have := wpAny_of_seq (md := .any) (Q' := Q) (ops := l.toArray) (l.drop (n + 1)) (n + 1) listed (A.put (some d) (pt w x)) (grow ((grow w x).alloc obj) y) (fun j => by simp [List.getElem?_drop]) (by simpa using hq) (ht x y)
    simpa using this) _ _ _ _ _ hu H
  rw [htl, show n + 1 + (l.length - (n + 1)) = l.length by omega] at S
  simpa using S
end
end Go.Proofs.YtdkgbdecmgligaaGreatDoor

/- Blocks of the call's own under calls that leave them: stores go through to the block that they write. No program is imported. -/
namespace Go.Proofs.YtdkgbdecmgligaaGreatDoor
open Go.RowKit
set_option linter.unusedVariables false
set_option linter.unusedSimpArgs false
theorem setRow_alloc_past (w : World) (o : Obj) (n : Nat) (cs : Array Value) (hn : n < w.heap.size) : (w.alloc o).setRow n cs = (w.setRow n cs).alloc o := by
  unfold World.setRow World.alloc
  congr 1
  apply Array.ext_getElem?
  intro k
  simp only [Array.getElem?_modify, Array.getElem?_push, Array.size_modify]
  by_cases hk : k = w.heap.size
  · subst hk; simp [Nat.ne_of_lt hn]
  · by_cases hn' : n = k <;> simp [hk, hn']
theorem setRow_alloc_at (w : World) (c cs : Array Value) (t : TypeId) (n : Nat) (hn : n = w.heap.size) : (w.alloc (.cells c t)).setRow n cs = w.alloc (.cells cs t) := by
  subst hn; exact World.setRow_alloc_new w c cs t
attribute [go_sem] setRow_alloc_past setRow_alloc_at
theorem ltd2 (n : Nat) : (n < n + 1 + 1) = True := eq_true (by omega)
theorem ltd3 (n : Nat) : (n < n + 1 + 1 + 1) = True := eq_true (by omega)
theorem ltd4 (n : Nat) : (n < n + 1 + 1 + 1 + 1) = True := eq_true (by omega)
theorem ltd5 (n : Nat) : (n < n + 1 + 1 + 1 + 1 + 1) = True := eq_true (by omega)
theorem ltd6 (n : Nat) : (n < n + 1 + 1 + 1 + 1 + 1 + 1) = True := eq_true (by omega)
theorem ltd7 (n : Nat) : (n < n + 1 + 1 + 1 + 1 + 1 + 1 + 1) = True := eq_true (by omega)
/-! what a block holds -/
theorem alloc_heap_at (w : World) (o : Obj) (n : Nat) (hn : n = w.heap.size) : (w.alloc o).heap[n]? = some o := by subst hn; exact heap_alloc_new w o
theorem alloc_heap_past (w : World) (o : Obj) (n : Nat) (hn : n < w.heap.size) : (w.alloc o).heap[n]? = w.heap[n]? := Below.heap_alloc w o n hn
theorem bel_setRow {a w : World} (h : Below a.heap.size a w) {n : Nat} (hn : a.heap.size ≤ n) (cs : Array Value) : Below a.heap.size a (w.setRow n cs) :=
  h.trans ⟨rfl, rfl, rfl, by simp, fun k hk => setRow_other w n k cs (by omega)⟩
/-- One operation by an equation of its own. -/
theorem wpList_val {P : Program} {ops : Array Oper} {rest : List Oper} {o : Oper} {a : Act} {w : World} {Q : Exit → Act → World → Prop} (hg : o.guard = none) (v : Value) (w' : World)
    (hrun : (execOp a.eval o).run P w = .ok (.value v) w') (h : wpList P ops Q rest (a.put o.dst v) w') : wpList P ops Q (o :: rest) a w :=
  wpList_plain hg fun _ hK => by
    unfold Oper.wp
    rw [hrun]
    exact hK _ _ h
end Go.Proofs.YtdkgbdecmgligaaGreatDoor

/- A block whose cells are all known, in worlds that go on. No program is imported. -/
namespace Go.Proofs.YtdkgbdecmgligaaGreatDoor
open Go.RowKit
set_option linter.unusedVariables false
set_option linter.unusedSimpArgs false
def Blk (W : World) (g : Nat) (t : TypeId) (cs : Array Value) : Prop := W.heap[g]? = some (.cells cs t (0, 0))
section
variable {W W' : World} {g : Nat} {t : TypeId} {cs : Array Value}
theorem Blk.lt (h : Blk W g t cs) : g < W.heap.size := (Array.getElem?_eq_some_iff.1 h).1
theorem Blk.cell (h : Blk W g t cs) (i : Nat) : W.cell? ⟨g, i, none⟩ = cs[i]? := cell_of_row W g i cs t (0, 0) h
theorem Blk.frozen (h : Blk W g t cs) (i : Nat) : W.frozen? ⟨g, i, none⟩ = false := by
  unfold Blk at h; simp [World.frozen?, h]
theorem Blk.new (W : World) (t : TypeId) (cs : Array Value) (g : Nat) (hg : g = W.heap.size) : Blk (W.alloc (.cells cs t)) g t cs := by
  subst hg; exact heap_alloc_new W _
theorem Blk.below (h : Blk W g t cs) (hb : Below W.heap.size W W') : Blk W' g t cs := (hb.block g h.lt).trans h
theorem Blk.alloc (h : Blk W g t cs) (o : Obj) : Blk (W.alloc o) g t cs := h.below (bel_alloc (Below.refl _ _) o)
theorem Blk.grow (h : Blk W g t cs) (x : More) : Blk (grow W x) g t cs := h.below (x.kept W)
theorem Blk.then (x y : More) (h : Blk (Go.Proofs.YtdkgbdecmgligaaGreatDoor.grow W x) g t cs) : Blk (Go.Proofs.YtdkgbdecmgligaaGreatDoor.grow W (x.then y)) g t cs := Blk.grow h y
theorem Blk.drew (h : Blk W g t cs) : Blk W.drew g t cs := h
theorem Blk.set (h : Blk W g t cs) (i : Nat) (u : Value) : Blk (W.setCell ⟨g, i, none⟩ u) g t (cs.setIfInBounds i u) := by
  unfold Blk at h ⊢
  simp [World.setCell, Array.getElem?_modify, h]
theorem Blk.far (h : Blk W g t cs) {b : Nat} (i : Nat) (u : Value) (hb : b ≠ g) : Blk (W.setCell ⟨b, i, none⟩ u) g t cs := by
  unfold Blk at h ⊢
  simp [World.setCell, Array.getElem?_modify, h, hb]
theorem Blk.setRow (h : Blk W g t cs) (cs' : Array Value) : Blk (W.setRow g cs') g t cs' := setRow_heap W g cs cs' t (0, 0) h
theorem Blk.farRow (h : Blk W g t cs) {b : Nat} (cs' : Array Value) (hb : b ≠ g) : Blk (W.setRow b cs') g t cs := (setRow_other W b g cs' (Ne.symm hb)).trans h
theorem Blk.ne_ {g' : Nat} {t' : TypeId} {cs' : Array Value} (h : Blk W g t cs) (h' : Blk W g' t' cs') (hne : t ≠ t') : g ≠ g' := by
  rintro rfl
  unfold Blk at h h'
  rw [h] at h'
  injection h' with h'
  injection h' with _ ht
  exact hne ht
end
end Go.Proofs.YtdkgbdecmgligaaGreatDoor

/- A region in any order: reads and quiet calls, one block made, one store into it, and then a forced tail; operations that only read what the store leaves alone may fall behind it. No program is imported. -/
namespace Go.Proofs.YtdkgbdecmgligaaGreatDoor
open Go.RowKit
set_option linter.unusedVariables false
set_option linter.unusedSimpArgs false
section
variable {P : Program} {ops : Array Oper} {w : World} {md : Region.Mode}
inductive Ph where
  | no
  | made (x : More)
  | kept (x : More)
def At2 (w : World) (obj obj' : Obj) : Ph → World → Prop
  | .no, u => ∃ x, u = grow w x
  | .made x, u => ∃ y, u = grow ((grow w x).alloc obj) y
  | .kept x, u => ∃ y, u = grow ((grow w x).alloc obj') y
theorem At2.grows {obj obj' : Obj} {s : Ph} {u : World} (h : At2 w obj obj' s u) : ∃ x, u = grow w x := by
  cases s with
  | no => exact h
  | made x =>
    obtain ⟨y, rfl⟩ := h
    exact grow_of (bel_grow (bel_alloc (bel_grow (Below.refl _ _) x) obj) y)
  | kept x =>
    obtain ⟨y, rfl⟩ := h
    exact grow_of (bel_grow (bel_alloc (bel_grow (Below.refl _ _) x) obj') y)
theorem At2.on {obj obj' : Obj} {s : Ph} {u : World} (h : At2 w obj obj' s u) (y : More) : At2 w obj obj' s (grow u y) := by
  cases s with
  | no => obtain ⟨x, rfl⟩ := h; exact ⟨x.then y, rfl⟩
  | made x => obtain ⟨z, rfl⟩ := h; exact ⟨z.then y, rfl⟩
  | kept x => obtain ⟨z, rfl⟩ := h; exact ⟨z.then y, rfl⟩
variable {n N : Nat} {alc : Tmp} {obj obj' : Obj} {L : Ph → Array Bool → Act → Prop}
/-- The store, from wherever the region has come behind the block's making. -/
def StoreAt (P : Program) (o : Oper) (a : Act) (w : World) (x : More) (obj obj' : Obj) : Prop :=
  o.guard = none ∧ o.dst = none ∧ ∀ y : More, ∃ y' : More, ∃ nx, (nx = .skip ∨ nx = .value undef) ∧ (execOp a.eval o).run P (grow ((grow w x).alloc obj) y) = .ok nx (grow ((grow w x).alloc obj') y')
theorem StoreAt.of_same {o : Oper} {a a' : Act} {x : More} (h : StoreAt P o a w x obj obj') (he : execOp a'.eval o = execOp a.eval o) : StoreAt P o a' w x obj obj' := by
  unfold StoreAt at *
  rw [he]
  exact h
def anyK (P : Program) (md : Region.Mode) (ops : Array Oper) (w : World) (n : Nat) (alc : Tmp) (obj obj' : Obj) (L : Ph → Array Bool → Act → Prop) : Nat → Ph → Array Bool → Act → Prop
  | 0, s, listed, a => L s listed a
  | f + 1, s, listed, a => Region.ready md ops listed ≠ [] ∧ ∀ i ∈ Region.ready md ops listed,
      (i < n ∧ sureOp P ops w i (anyK P md ops w n alc obj obj' L f s (listed.setIfInBounds i true)) a) ∨
      (i = n ∧ s = .no ∧ ∀ x, anyK P md ops w n alc obj obj' L f (.made x) (listed.setIfInBounds i true) (a.put (some alc) (pt w x))) ∨
      (i = n + 1 ∧ ∃ x o, s = .made x ∧ ops[n + 1]? = some o ∧ StoreAt P o a w x obj obj' ∧ anyK P md ops w n alc obj obj' L f (.kept x) (listed.setIfInBounds i true) (a.put none undef))
theorem anyK_sound {g : Nat} {Q' : Exit → Act → World → Prop} (hm : Makes P ops n (some alc) obj) (hL : ∀ s listed a u, At2 w obj obj' s u → L s listed a → wpAny P md ops Q' g listed a u) :
    ∀ (f : Nat) (s : Ph) (listed : Array Bool) (a : Act) (u : World), At2 w obj obj' s u → anyK P md ops w n alc obj obj' L f s listed a → wpAny P md ops Q' (f + g) listed a u
  | 0, s, listed, a, u, hu, h => by rw [Nat.zero_add]; exact hL _ _ _ _ hu h
  | f + 1, s, listed, a, u, hu, h => by
    rw [show f + 1 + g = (f + g) + 1 by omega]
    refine ⟨fun h0 => absurd h0 h.1, fun i hi => ?_⟩
    rcases h.2 i hi with ⟨_, o, v, ho, hy, hk⟩ | ⟨hin, hsn, hk⟩ | ⟨hin, x, o, hsx, ho, hst, hk⟩
    · unfold wpOp
      simp only [ho]
      rcases hy with ⟨hw, hv⟩ | ⟨hw, rfl⟩
      · rw [if_pos hw]
        left
        obtain ⟨x, rfl⟩ := hu.grows
        have h3 := hv x
        unfold Oper.quietAt at h3
        unfold Oper.wp
        generalize (execOp a.eval o).run P (grow w x) = r at *
        cases r with
        | ok nx w' =>
          cases nx <;> simp only [Oper.quietUpon] at h3 <;> simp only [Oper.upon]
          case value u' =>
            obtain ⟨e1, e2⟩ := h3
            rw [e1, e2]
            exact anyK_sound hm hL f _ _ _ _ hu hk
          case skip =>
            obtain ⟨e1, e2⟩ := h3
            rw [e1, ← e2]
            exact anyK_sound hm hL f _ _ _ _ hu hk
          case enter fn args =>
            obtain ⟨e1, hc⟩ := h3
            rw [e1]
            exact hc.mono fun e w'' ⟨he, y, hy⟩ => by
              subst he hy
              exact anyK_sound hm hL f _ _ _ _ (hu.on y) hk
        | halt x w' => simp only [Oper.quietUpon] at h3
      · rw [if_neg (by rw [hw]; exact Bool.false_ne_true)]
        exact anyK_sound hm hL f _ _ _ _ hu hk
    · obtain ⟨o, ho, hdst, hg, hrun⟩ := hm alc rfl
      rw [hsn] at hu
      obtain ⟨x, hux⟩ := hu
      unfold wpOp
      rw [hin] at hk ⊢
      simp only [ho]
      rw [if_pos (by simp [Region.wanted, hg])]
      left
      unfold Oper.wp
      rw [hrun]
      simp only [Oper.upon, hdst]
      rw [hux]
      exact anyK_sound hm hL f (.made x) _ _ _ ⟨More.none_, rfl⟩ (hk x)
    · obtain ⟨hg, hdst, hrun⟩ := hst
      rw [hsx] at hu
      obtain ⟨y, hux⟩ := hu
      unfold wpOp
      rw [hin] at hk ⊢
      simp only [ho]
      rw [if_pos (by simp [Region.wanted, hg])]
      left
      unfold Oper.wp
      obtain ⟨y', nx, hnx, hr⟩ := hrun y
      rw [hux, hr]
      rcases hnx with rfl | rfl <;> simp only [Oper.upon, hdst] <;> exact anyK_sound hm hL f (.kept x) _ _ _ ⟨y', rfl⟩ hk
theorem anyK_first {i : Nat} {oi : Oper} {v : Value} (hm : Makes P ops n (some alc) obj) (hi : ops[i]? = some oi) (hsel : ∀ (j : Nat) (o : Oper) cs b, ops[j]? = some o → o.op ≠ .select cs b) (hin : i < n) (hN : N = n + 2)
    (hs : Region.sinkB md ops N = true) (hc : Region.chainB md ops N = true) (hNs : N < ops.size) (hdone : ∀ s listed a, L s listed a → ∀ j ∈ Region.ready md ops listed, N ≤ j) :
    ∀ (f : Nat) (s : Ph) (listed : Array Bool) (a : Act), HeadInv md ops N listed →
      (∀ j oj, ops[j]? = some oj → j ≠ i → listed.getD j true = false → (∀ e ∈ oj.after, Region.binds md e = true → e.on ≠ i) → oi.apart ops oj = true) →
      i ∈ Region.ready md ops listed → Sure P ops w oi v a →
      anyK P md ops w n alc obj obj' L f s (listed.setIfInBounds i true) (a.put oi.dst v) → anyK P md ops w n alc obj obj' L (f + 1) s listed a := by
  intro f
  induction f with
  | zero =>
    intro s listed a inv _ hr hy H
    have hun := (mem_ready.1 hr).1
    refine ⟨fun h => (by rw [h] at hr; cases hr), fun j hj => ?_⟩
    have hjn : j < N := by
      rcases Nat.lt_or_ge j N with h | h
      · exact h
      · exact absurd hj (tail_waits hs hc hNs inv _ i rfl (by omega) hun j h)
    by_cases hji : j = i
    · subst hji; exact .inl ⟨hin, oi, v, hi, hy, H⟩
    · have := hdone _ _ _ H j (ready_mono hj hji)
      omega
  | succ f ih =>
    intro s listed a inv hfree hr hy H
    have hun := (mem_ready.1 hr).1
    refine ⟨fun h => (by rw [h] at hr; cases hr), fun j hj => ?_⟩
    have hjn : j < N := by
      rcases Nat.lt_or_ge j N with h | h
      · exact h
      · exact absurd hj (tail_waits hs hc hNs inv _ i rfl (by omega) hun j h)
    by_cases hji : j = i
    · subst hji; exact .inl ⟨hin, oi, v, hi, hy, H⟩
    · obtain ⟨hjun, oj, hoj, hall⟩ := mem_ready.1 hj
      have hnot : ∀ e ∈ oj.after, Region.binds md e = true → e.on ≠ i := fun e he hb heq => by
        have h1 := hall e he hb
        rw [heq, getD_both hun] at h1
        cases h1
      obtain ⟨p1, p2, p3⟩ := Oper.apart_spec (hfree j oj hoj hji hjun hnot)
      have hfree' : ∀ k ok, ops[k]? = some ok → k ≠ i → (listed.setIfInBounds j true).getD k true = false →
          (∀ e ∈ ok.after, Region.binds md e = true → e.on ≠ i) → oi.apart ops ok = true := fun k ok hk hki hun' hno => by
        refine hfree k ok hk hki ?_ hno
        by_cases hjk : j = k
        · subst hjk; exact hjun
        · rw [getD_set_ne true hjk] at hun'; exact hun'
      have go : ∀ (s' : Ph) (u : Value), anyK P md ops w n alc obj obj' L f s' ((listed.setIfInBounds i true).setIfInBounds j true) ((a.put oi.dst v).put oj.dst u) →
          anyK P md ops w n alc obj obj' L (f + 1) s' (listed.setIfInBounds j true) (a.put oj.dst u) := fun s' u h => by
        refine ih s' (listed.setIfInBounds j true) (a.put oj.dst u) (inv.set hj hjn) hfree' (ready_mono hr (Ne.symm hji)) (hy.put (fun cs b => hsel i oi cs b hi) p3) ?_
        rw [Array.setIfInBounds_comm _ _ hji, ← Act.put_comm a v u p2]
        exact h
      rcases H.2 j (ready_mono hj hji) with ⟨hj2, oj', u, hoj', hyj, hk⟩ | ⟨hj2, hs2, hk⟩ | ⟨hj2, x, o, hs2, ho, hst, hk⟩
      · obtain rfl : oj = oj' := Option.some.inj (hoj.symm.trans hoj')
        exact .inl ⟨hj2, oj, u, hoj, hyj.unput (fun cs b => hsel j oj cs b hoj) p1, go s u hk⟩
      · obtain ⟨o, ho, hdst, _, _⟩ := hm alc rfl
        subst hj2
        obtain rfl : oj = o := Option.some.inj (hoj.symm.trans ho)
        refine .inr (.inl ⟨rfl, hs2, fun x => ?_⟩)
        have := go (.made x) (pt w x)
        rw [hdst] at this
        exact this (hk x)
      · subst hj2
        obtain rfl : oj = o := Option.some.inj (hoj.symm.trans ho)
        have hd0 := hst.2.1
        refine .inr (.inr ⟨rfl, x, oj, hs2, hoj, hst.of_same (execOp_put oj (fun cs b => hsel _ oj cs b hoj) a oi.dst v p1).symm, ?_⟩)
        have := go (.kept x) undef
        rw [hd0] at this
        exact this hk
theorem anyK_lex {F : Nat} {fin : Array Bool → Bool} {Q : Act → Prop} (hm : Makes P ops n (some alc) obj) (hsel : Region.noSelect ops = true) (hN : N = n + 2)
    (hs : Region.sinkB md ops N = true) (hc : Region.chainB md ops N = true) (hNs : N < ops.size) (hdone : ∀ s listed a, L s listed a → ∀ j ∈ Region.ready md ops listed, N ≤ j)
    (hfin : ∀ listed a, HeadInv md ops N listed → fin listed = true → Q a → anyK P md ops w n alc obj obj' L F .no listed a) :
    ∀ (l : List Oper) (k : Nat) (listed : Array Bool) (a : Act), (∀ j, j < l.length → l[j]? = ops[k + j]?) → k + l.length = n → HeadInv md ops N listed →
    lexH md ops fin l.length k listed = true → sureL P ops w Q l a → anyK P md ops w n alc obj obj' L (l.length + F) .no listed a
  | [], k, listed, a, _, hk, inv, hB, h => by
    simp only [List.length_nil, Nat.zero_add]
    exact hfin listed a inv (by simpa [lexH] using hB) h
  | o :: l, k, listed, a, hl, hk, inv, hB, h => by
    have h0 : ops[k]? = some o := by simpa using (hl 0 (by simp)).symm
    simp only [List.length_cons, lexH, Bool.and_eq_true] at hB
    obtain ⟨⟨hr, hf⟩, hB'⟩ := hB
    have hkn : k < n := by simp only [List.length_cons] at hk; omega
    have hr' : k ∈ Region.ready md ops listed := by simpa using hr
    obtain ⟨v, hy, hK⟩ := h
    rw [show (o :: l).length + F = (l.length + F) + 1 by simp only [List.length_cons]; omega]
    exact anyK_first hm h0 (Region.noSelect_spec hsel) hkn hN hs hc hNs hdone (l.length + F) .no listed a inv (Region.free_spec h0 hf) hr' hy
      (anyK_lex hm hsel hN hs hc hNs hdone hfin l (k + 1) _ _ (fun j hj => by have := hl (j + 1) (by simp; omega); simpa [Nat.add_assoc, Nat.add_comm 1 j] using this) (by simp only [List.length_cons] at hk; omega) (inv.set hr' (by omega)) hB' hK)
end
section
variable {P : Program} {w : World}
def keepB (l : List Oper) (n : Nat) : Bool :=
  Region.noSelect l.toArray && decide (n + 2 < l.length) && Region.sinkB .any l.toArray (n + 2) && Region.chainB .any l.toArray (n + 2) &&
  lexH .any l.toArray (fun listed => decide (Region.ready .any l.toArray listed = [n]) && decide (Region.ready .any l.toArray (listed.setIfInBounds n true) = [n + 1]) && Region.seqB .any l.toArray (l.length - (n + 2)) (n + 2) ((listed.setIfInBounds n true).setIfInBounds (n + 1) true)) n 0 (Array.replicate l.length false)
/-- Operation n makes a block, operation n + 1 stores into it, the rest in one forced order; the first n in any order, some of them perhaps behind the store. -/
theorem wp_region_keep {id : Nat} {Q : Exit → Act → World → Prop} {a : Act} {l : List Oper} (n : Nat) (A : Act) (d : Tmp) (obj obj' : Obj) (hm : P.follows .mixedOrders = true) (hB : keepB l n = true) (hd : dstsB a.tmps.size (l.take n) = true)
    (hmk : Makes P l.toArray n (some d) obj)
    (h : ∀ x : More, wpQuiet P l.toArray (fun u => ∃ y, u = grow (grow w x) y) (fun a' => a' = A) (l.take n) a)
    (hst : ∀ x : More, ∃ o, l[n + 1]? = some o ∧ StoreAt P o (A.put (some d) (.pointer (some ⟨(grow w x).heap.size, 0, none⟩))) w x obj obj')
    (ht : ∀ x y : More, wpList P l.toArray Q (l.drop (n + 2)) (A.put (some d) (.pointer (some ⟨(grow w x).heap.size, 0, none⟩))) (grow ((grow w x).alloc obj') y)) : (Code.region id l.toArray true).wp P Q a w := by
  simp only [keepB, Bool.and_eq_true, decide_eq_true_eq] at hB
  obtain ⟨⟨⟨⟨hsel, hn⟩, hs⟩, hc⟩, hlex⟩ := hB
  have htl : (l.take n).length = n := by simp; omega
  refine wp_region_any hm ?_
  have hu : At2 w obj obj' .no { w with drawn := w.drawn + 1 } := grow_of (bel_drew (Below.refl _ _))
  have H := anyK_lex (P := P) (w := w) (md := .any) (ops := l.toArray) (n := n) (N := n + 2) (alc := d) (obj := obj) (obj' := obj')
    (L := fun s listed a => Region.seqB .any l.toArray (l.length - (n + 2)) (n + 2) listed = true ∧ ∃ x, s = .kept x ∧ a = A.put (some d) (pt w x)) (F := 2)
    (fin := fun listed => decide (Region.ready .any l.toArray listed = [n]) && decide (Region.ready .any l.toArray (listed.setIfInBounds n true) = [n + 1]) && Region.seqB .any l.toArray (l.length - (n + 2)) (n + 2) ((listed.setIfInBounds n true).setIfInBounds (n + 1) true)) (Q := fun a => a = A) hmk hsel rfl hs hc (by simpa using hn)
    (fun s listed a h => seqB_ready h.1)
    (fun listed a _ hf hq => by
      simp only [Bool.and_eq_true, decide_eq_true_eq] at hf
      refine ⟨by rw [hf.1.1]; simp, fun i hi => .inr (.inl ?_)⟩
      rw [hf.1.1] at hi
      obtain rfl : i = n := by simpa using hi
      refine ⟨rfl, rfl, fun x => ⟨by rw [hf.1.2]; simp, fun j hj => .inr (.inr ?_)⟩⟩
      rw [hf.1.2] at hj
      obtain rfl : j = i + 1 := by simpa using hj
      obtain ⟨o, ho, hst'⟩ := hst x
      exact ⟨rfl, x, o, rfl, by simpa using ho, by rw [hq]; exact hst', hf.2, x, rfl, by rw [hq]; rfl⟩) (l.take n) 0 (Array.replicate l.length false) a (fun j hj => by
      rw [htl] at hj
      simp [hj]) (by simpa using htl) (inv0 l (n + 2)) (by rw [htl]; exact hlex) (sure_of_quiet (Q := fun a => a = A) rfl _ _ hd h)
  have S := anyK_sound (P := P) (Q' := Q) (g := l.length - (n + 2)) hmk (fun s listed a u hu hl => by
    obtain ⟨hq, x, rfl, rfl⟩ := hl
    obtain ⟨y, rfl⟩ := hu
    have := wpAny_of_seq (md := .any) (Q' := Q) (ops := l.toArray) (l.drop (n + 2)) (n + 2) listed (A.put (some d) (pt w x)) (grow ((grow w x).alloc obj') y) (fun j => by simp [List.getElem?_drop]) (by simpa using hq) (ht x y)
    simpa using this) _ _ _ _ _ hu H
  rw [htl, show n + 2 + (l.length - (n + 2)) = l.length by omega] at S
  simpa using S
end
theorem storeAt_row {P : Program} {w : World} (t : TypeId) (c c' : Array Value) {o : Oper} {a : Act} {x : More} (p v : Operand) (ho : o.op = .store t p v) (hg : o.guard = none) (hd : o.dst = none) (hp : a.eval p = .pointer (some ⟨(grow w x).heap.size, 0, none⟩)) (hv : a.eval v = .agg c') (hi : (P.info? t).map (·.size) = some c'.size) (hs : c.size = c'.size) (h1 : c'.all (·.oneCell') = true) : StoreAt P o a w x (.cells c t) (.cells c' t) := by
  refine ⟨hg, hd, fun y => ⟨More.setR y ((grow w x).alloc (.cells c t)) (grow w x).heap.size c', .skip, .inl rfl, ?_⟩⟩
  have hlt : (grow w x).heap.size < ((grow w x).alloc (.cells c t)).heap.size := by rw [World.size_alloc]; omega
  have hh : (grow ((grow w x).alloc (.cells c t)) y).heap[(grow w x).heap.size]? = some (.cells c t) := by
    rw [grow_heap, if_pos hlt]
    exact heap_alloc_new _ _
  unfold execOp
  rw [ho]
  simp only [hp, hv, Instr.storeAt, Instr.sureAddr, Sem.run_bind, Sem.run_pure, Result.andThen]
  rw [run_storeVar_row _ _ t t c c' hh hi hs h1, grow_setRow _ _ _ _ hlt, World.setRow_alloc_new]
end Go.Proofs.YtdkgbdecmgligaaGreatDoor

/- A region in any order: reads and quiet calls, one block made, one store into it, and more operations that only read or name: any of them may fall behind or between. No program is imported. -/
namespace Go.Proofs.YtdkgbdecmgligaaGreatDoor
open Go.RowKit
set_option linter.unusedVariables false
set_option linter.unusedSimpArgs false
section
variable {P : Program} {ops : Array Oper} {w : World} {md : Region.Mode}
variable {n N : Nat} {alc : Tmp} {obj obj' : Obj} {L : Ph → Array Bool → Act → Prop}
def anyM (P : Program) (md : Region.Mode) (ops : Array Oper) (w : World) (n : Nat) (alc : Tmp) (obj obj' : Obj) (L : Ph → Array Bool → Act → Prop) : Nat → Ph → Array Bool → Act → Prop
  | 0, s, listed, a => L s listed a
  | f + 1, s, listed, a => Region.ready md ops listed ≠ [] ∧ ∀ i ∈ Region.ready md ops listed,
      ((i ≠ n ∧ i ≠ n + 1) ∧ sureOp P ops w i (anyM P md ops w n alc obj obj' L f s (listed.setIfInBounds i true)) a) ∨
      (i = n ∧ s = .no ∧ ∀ x, anyM P md ops w n alc obj obj' L f (.made x) (listed.setIfInBounds i true) (a.put (some alc) (pt w x))) ∨
      (i = n + 1 ∧ ∃ x o, s = .made x ∧ ops[n + 1]? = some o ∧ StoreAt P o a w x obj obj' ∧ anyM P md ops w n alc obj obj' L f (.kept x) (listed.setIfInBounds i true) (a.put none undef))
theorem anyM_sound {g : Nat} {Q' : Exit → Act → World → Prop} (hm : Makes P ops n (some alc) obj) (hL : ∀ s listed a u, At2 w obj obj' s u → L s listed a → wpAny P md ops Q' g listed a u) :
    ∀ (f : Nat) (s : Ph) (listed : Array Bool) (a : Act) (u : World), At2 w obj obj' s u → anyM P md ops w n alc obj obj' L f s listed a → wpAny P md ops Q' (f + g) listed a u
  | 0, s, listed, a, u, hu, h => by rw [Nat.zero_add]; exact hL _ _ _ _ hu h
  | f + 1, s, listed, a, u, hu, h => by
    rw [show f + 1 + g = (f + g) + 1 by omega]
    refine ⟨fun h0 => absurd h0 h.1, fun i hi => ?_⟩
    rcases h.2 i hi with ⟨_, o, v, ho, hy, hk⟩ | ⟨hin, hsn, hk⟩ | ⟨hin, x, o, hsx, ho, hst, hk⟩
    · unfold wpOp
      simp only [ho]
      rcases hy with ⟨hw, hv⟩ | ⟨hw, rfl⟩
      · rw [if_pos hw]
        left
        obtain ⟨x, rfl⟩ := hu.grows
        have h3 := hv x
        unfold Oper.quietAt at h3
        unfold Oper.wp
        generalize (execOp a.eval o).run P (grow w x) = r at *
        cases r with
        | ok nx w' =>
          cases nx <;> simp only [Oper.quietUpon] at h3 <;> simp only [Oper.upon]
          case value u' =>
            obtain ⟨e1, e2⟩ := h3
            rw [e1, e2]
            exact anyM_sound hm hL f _ _ _ _ hu hk
          case skip =>
            obtain ⟨e1, e2⟩ := h3
            rw [e1, ← e2]
            exact anyM_sound hm hL f _ _ _ _ hu hk
          case enter fn args =>
            obtain ⟨e1, hc⟩ := h3
            rw [e1]
            exact hc.mono fun e w'' ⟨he, y, hy⟩ => by
              subst he hy
              exact anyM_sound hm hL f _ _ _ _ (hu.on y) hk
        | halt x w' => simp only [Oper.quietUpon] at h3
      · rw [if_neg (by rw [hw]; exact Bool.false_ne_true)]
        exact anyM_sound hm hL f _ _ _ _ hu hk
    · obtain ⟨o, ho, hdst, hg, hrun⟩ := hm alc rfl
      rw [hsn] at hu
      obtain ⟨x, hux⟩ := hu
      unfold wpOp
      rw [hin] at hk ⊢
      simp only [ho]
      rw [if_pos (by simp [Region.wanted, hg])]
      left
      unfold Oper.wp
      rw [hrun]
      simp only [Oper.upon, hdst]
      rw [hux]
      exact anyM_sound hm hL f (.made x) _ _ _ ⟨More.none_, rfl⟩ (hk x)
    · obtain ⟨hg, hdst, hrun⟩ := hst
      rw [hsx] at hu
      obtain ⟨y, hux⟩ := hu
      unfold wpOp
      rw [hin] at hk ⊢
      simp only [ho]
      rw [if_pos (by simp [Region.wanted, hg])]
      left
      unfold Oper.wp
      obtain ⟨y', nx, hnx, hr⟩ := hrun y
      rw [hux, hr]
      rcases hnx with rfl | rfl <;> simp only [Oper.upon, hdst] <;> exact anyM_sound hm hL f (.kept x) _ _ _ ⟨y', rfl⟩ hk
theorem anyM_first {i : Nat} {oi : Oper} {v : Value} (hm : Makes P ops n (some alc) obj) (hi : ops[i]? = some oi) (hsel : ∀ (j : Nat) (o : Oper) cs b, ops[j]? = some o → o.op ≠ .select cs b) (hin : i ≠ n ∧ i ≠ n + 1)
    (hdone : ∀ s listed a, L s listed a → Region.ready md ops listed = []) :
    ∀ (f : Nat) (s : Ph) (listed : Array Bool) (a : Act),
      (∀ j oj, ops[j]? = some oj → j ≠ i → listed.getD j true = false → (∀ e ∈ oj.after, Region.binds md e = true → e.on ≠ i) → oi.apart ops oj = true) →
      i ∈ Region.ready md ops listed → Sure P ops w oi v a →
      anyM P md ops w n alc obj obj' L f s (listed.setIfInBounds i true) (a.put oi.dst v) → anyM P md ops w n alc obj obj' L (f + 1) s listed a := by
  intro f
  induction f with
  | zero =>
    intro s listed a _ hr hy H
    have hun := (mem_ready.1 hr).1
    refine ⟨fun h => (by rw [h] at hr; cases hr), fun j hj => ?_⟩
    by_cases hji : j = i
    · subst hji; exact .inl ⟨hin, oi, v, hi, hy, H⟩
    · have h1 := hdone _ _ _ H
      have h2 := ready_mono hj hji
      rw [h1] at h2
      cases h2
  | succ f ih =>
    intro s listed a hfree hr hy H
    have hun := (mem_ready.1 hr).1
    refine ⟨fun h => (by rw [h] at hr; cases hr), fun j hj => ?_⟩
    by_cases hji : j = i
    · subst hji; exact .inl ⟨hin, oi, v, hi, hy, H⟩
    · obtain ⟨hjun, oj, hoj, hall⟩ := mem_ready.1 hj
      have hnot : ∀ e ∈ oj.after, Region.binds md e = true → e.on ≠ i := fun e he hb heq => by
        have h1 := hall e he hb
        rw [heq, getD_both hun] at h1
        cases h1
      obtain ⟨p1, p2, p3⟩ := Oper.apart_spec (hfree j oj hoj hji hjun hnot)
      have hfree' : ∀ k ok, ops[k]? = some ok → k ≠ i → (listed.setIfInBounds j true).getD k true = false →
          (∀ e ∈ ok.after, Region.binds md e = true → e.on ≠ i) → oi.apart ops ok = true := fun k ok hk hki hun' hno => by
        refine hfree k ok hk hki ?_ hno
        by_cases hjk : j = k
        · subst hjk; exact hjun
        · rw [getD_set_ne true hjk] at hun'; exact hun'
      have go : ∀ (s' : Ph) (u : Value), anyM P md ops w n alc obj obj' L f s' ((listed.setIfInBounds i true).setIfInBounds j true) ((a.put oi.dst v).put oj.dst u) →
          anyM P md ops w n alc obj obj' L (f + 1) s' (listed.setIfInBounds j true) (a.put oj.dst u) := fun s' u h => by
        refine ih s' (listed.setIfInBounds j true) (a.put oj.dst u) hfree' (ready_mono hr (Ne.symm hji)) (hy.put (fun cs b => hsel i oi cs b hi) p3) ?_
        rw [Array.setIfInBounds_comm _ _ hji, ← Act.put_comm a v u p2]
        exact h
      rcases H.2 j (ready_mono hj hji) with ⟨hj2, oj', u, hoj', hyj, hk⟩ | ⟨hj2, hs2, hk⟩ | ⟨hj2, x, o, hs2, ho, hst, hk⟩
      · obtain rfl : oj = oj' := Option.some.inj (hoj.symm.trans hoj')
        exact .inl ⟨hj2, oj, u, hoj, hyj.unput (fun cs b => hsel j oj cs b hoj) p1, go s u hk⟩
      · obtain ⟨o, ho, hdst, _, _⟩ := hm alc rfl
        subst hj2
        obtain rfl : oj = o := Option.some.inj (hoj.symm.trans ho)
        refine .inr (.inl ⟨rfl, hs2, fun x => ?_⟩)
        have := go (.made x) (pt w x)
        rw [hdst] at this
        exact this (hk x)
      · subst hj2
        obtain rfl : oj = o := Option.some.inj (hoj.symm.trans ho)
        have hd0 := hst.2.1
        refine .inr (.inr ⟨rfl, x, oj, hs2, hoj, hst.of_same (execOp_put oj (fun cs b => hsel _ oj cs b hoj) a oi.dst v p1).symm, ?_⟩)
        have := go (.kept x) undef
        rw [hd0] at this
        exact this hk
theorem anyM_lex {F : Nat} {s : Ph} {fin : Array Bool → Bool} {Q : Act → Prop} (hm : Makes P ops n (some alc) obj) (hsel : Region.noSelect ops = true) (hdone : ∀ s listed a, L s listed a → Region.ready md ops listed = [])
    (hfin : ∀ listed a, fin listed = true → Q a → anyM P md ops w n alc obj obj' L F s listed a) :
    ∀ (l : List Oper) (k : Nat) (listed : Array Bool) (a : Act), (∀ j, j < l.length → l[j]? = ops[k + j]?) → (∀ j, k ≤ j → j < k + l.length → j ≠ n ∧ j ≠ n + 1) →
    lexH md ops fin l.length k listed = true → sureL P ops w Q l a → anyM P md ops w n alc obj obj' L (l.length + F) s listed a
  | [], k, listed, a, _, hk, hB, h => by
    simp only [List.length_nil, Nat.zero_add]
    exact hfin listed a (by simpa [lexH] using hB) h
  | o :: l, k, listed, a, hl, hk, hB, h => by
    have h0 : ops[k]? = some o := by simpa using (hl 0 (by simp)).symm
    simp only [List.length_cons, lexH, Bool.and_eq_true] at hB
    obtain ⟨⟨hr, hf⟩, hB'⟩ := hB
    have hr' : k ∈ Region.ready md ops listed := by simpa using hr
    obtain ⟨v, hy, hK⟩ := h
    rw [show (o :: l).length + F = (l.length + F) + 1 by simp only [List.length_cons]; omega]
    exact anyM_first hm h0 (Region.noSelect_spec hsel) (hk k (Nat.le_refl _) (by simp)) hdone (l.length + F) s listed a (Region.free_spec h0 hf) hr' hy
      (anyM_lex hm hsel hdone hfin l (k + 1) _ _ (fun j hj => by have := hl (j + 1) (by simp; omega); simpa [Nat.add_assoc, Nat.add_comm 1 j] using this) (fun j h1 h2 => hk j (by omega) (by simp only [List.length_cons]; omega)) hB' hK)
end
section
variable {P : Program} {w : World}
def midB (l : List Oper) (n : Nat) : Bool :=
  Region.noSelect l.toArray && decide (n + 1 < l.length) &&
  lexH .any l.toArray (fun listed => decide (Region.ready .any l.toArray listed = [n]) && decide (Region.ready .any l.toArray (listed.setIfInBounds n true) = [n + 1]) &&
    lexH .any l.toArray (fun listed => decide (Region.ready .any l.toArray listed = [])) (l.length - (n + 2)) (n + 2) ((listed.setIfInBounds n true).setIfInBounds (n + 1) true)) n 0 (Array.replicate l.length false)
/-- Operation n makes a block, operation n + 1 stores into it; all others are quiet, and go in any order. -/
theorem wp_region_mid {id : Nat} {Q : Exit → Act → World → Prop} {a : Act} {l : List Oper} (n : Nat) (A : Act) (d : Tmp) (obj obj' : Obj) (hm : P.follows .mixedOrders = true) (hB : midB l n = true) (hd : dstsB a.tmps.size (l.take n) = true)
    (hmk : Makes P l.toArray n (some d) obj)
    (h : ∀ x : More, wpQuiet P l.toArray (fun u => ∃ y, u = grow (grow w x) y) (fun a' => a' = A) (l.take n) a)
    (hst : ∀ x : More, ∃ o, l[n + 1]? = some o ∧ StoreAt P o (A.put (some d) (.pointer (some ⟨(grow w x).heap.size, 0, none⟩))) w x obj obj')
    (ht : ∀ p : More, ∃ A2 : Act, dstsB (A.put (some d) (.pointer (some ⟨(grow w p).heap.size, 0, none⟩))).tmps.size (l.drop (n + 2)) = true ∧
      (∀ x : More, wpQuiet P l.toArray (fun u => ∃ y, u = grow (grow w x) y) (fun a' => a' = A2) (l.drop (n + 2)) (A.put (some d) (.pointer (some ⟨(grow w p).heap.size, 0, none⟩)))) ∧
      ∀ y : More, Q .normal A2 (grow ((grow w p).alloc obj') y)) : (Code.region id l.toArray true).wp P Q a w := by
  simp only [midB, Bool.and_eq_true, decide_eq_true_eq] at hB
  obtain ⟨⟨hsel, hn⟩, hlex⟩ := hB
  have htl : (l.take n).length = n := by simp; omega
  have hdl : (l.drop (n + 2)).length = l.length - (n + 2) := by simp
  refine wp_region_any hm ?_
  have hu : At2 w obj obj' .no { w with drawn := w.drawn + 1 } := grow_of (bel_drew (Below.refl _ _))
  have hdone : ∀ (s : Ph) (listed : Array Bool) (a : Act), (Region.ready .any l.toArray listed = [] ∧ ∃ x, s = .kept x ∧ ∀ y, Q .normal a (grow ((grow w x).alloc obj') y)) → Region.ready .any l.toArray listed = [] := fun s listed a h => h.1
  have H := anyM_lex (P := P) (w := w) (md := .any) (ops := l.toArray) (n := n) (alc := d) (obj := obj) (obj' := obj') (s := .no)
    (L := fun s listed a => Region.ready .any l.toArray listed = [] ∧ ∃ x, s = .kept x ∧ ∀ y, Q .normal a (grow ((grow w x).alloc obj') y)) (F := (l.length - (n + 2)) + 2)
    (fin := fun listed => decide (Region.ready .any l.toArray listed = [n]) && decide (Region.ready .any l.toArray (listed.setIfInBounds n true) = [n + 1]) &&
      lexH .any l.toArray (fun listed => decide (Region.ready .any l.toArray listed = [])) (l.length - (n + 2)) (n + 2) ((listed.setIfInBounds n true).setIfInBounds (n + 1) true)) (Q := fun a => a = A) hmk hsel hdone
    (fun listed a hf hq => by
      simp only [Bool.and_eq_true, decide_eq_true_eq] at hf
      refine ⟨by rw [hf.1.1]; simp, fun i hi => .inr (.inl ?_)⟩
      rw [hf.1.1] at hi
      obtain rfl : i = n := by simpa using hi
      refine ⟨rfl, rfl, fun x => ⟨by rw [hf.1.2]; simp, fun j hj => .inr (.inr ?_)⟩⟩
      rw [hf.1.2] at hj
      obtain rfl : j = i + 1 := by simpa using hj
      obtain ⟨o, ho, hst'⟩ := hst x
      obtain ⟨A2, hd2, h2, h3⟩ := ht x
      refine ⟨rfl, x, o, rfl, by simpa using ho, by rw [hq]; exact hst', ?_⟩
      have key := anyM_lex (P := P) (w := w) (md := .any) (ops := l.toArray) (n := i) (alc := d) (obj := obj) (obj' := obj') (s := .kept x) (F := 0)
        (L := fun s listed a => Region.ready .any l.toArray listed = [] ∧ ∃ x, s = .kept x ∧ ∀ y, Q .normal a (grow ((grow w x).alloc obj') y))
        (fin := fun listed => decide (Region.ready .any l.toArray listed = [])) (Q := fun a => a = A2) hmk hsel hdone
        (fun listed a hf hq => ⟨by simpa using hf, x, rfl, by rw [hq]; exact h3⟩) (l.drop (i + 2)) (i + 2) ((listed.setIfInBounds i true).setIfInBounds (i + 1) true) (A.put (some d) (pt w x))
        (fun j hj => by simp [List.getElem?_drop]) (fun j h1 h2 => by omega) (by rw [hdl]; exact hf.2) (sure_of_quiet (Q := fun a => a = A2) rfl _ _ hd2 h2)
      rw [hdl, Nat.add_zero] at key
      rw [hq]
      exact key) (l.take n) 0 (Array.replicate l.length false) a (fun j hj => by
      rw [htl] at hj
      simp [hj]) (fun j _ h2 => by rw [htl] at h2; omega) (by rw [htl]; exact hlex) (sure_of_quiet (Q := fun a => a = A) rfl _ _ hd h)
  have S := anyM_sound (P := P) (Q' := Q) (g := 0) hmk (fun s listed a u hu hl => by
    obtain ⟨hq, x, rfl, h3⟩ := hl
    obtain ⟨y, rfl⟩ := hu
    exact ⟨hq, h3 y⟩) _ _ _ _ _ hu H
  rw [htl, show n + (l.length - (n + 2) + 2) + 0 = l.length by omega] at S
  simpa using S
end
end Go.Proofs.YtdkgbdecmgligaaGreatDoor

/- A region in any order: reads and quiet calls, two blocks made, a store into each, and more operations that only read or name. Operations other than the quiet ones are told by a state: of it the world is known. No program is imported. -/
namespace Go.Proofs.YtdkgbdecmgligaaGreatDoor
open Go.RowKit
set_option linter.unusedVariables false
set_option linter.unusedSimpArgs false
section
variable {P : Program} {ops : Array Oper} {w : World} {md : Region.Mode} {S : Type}
variable {sp : Nat → Bool} {AtS : S → World → Prop} {L : S → Array Bool → Act → Prop}
/-- An operation that goes from state to state. -/
def spAt (P : Program) (AtS : S → World → Prop) (o : Oper) (ex : Sem Next) (s : S) (K : S → Value → Prop) : Prop :=
  o.guard = none ∧ ∀ u, AtS s u → ∃ s' v u', ((ex.run P u = .ok (.value v) u') ∨ (ex.run P u = .ok .skip u' ∧ v = undef)) ∧ AtS s' u' ∧ K s' v
def anyS (P : Program) (md : Region.Mode) (ops : Array Oper) (w : World) (sp : Nat → Bool) (AtS : S → World → Prop) (L : S → Array Bool → Act → Prop) : Nat → S → Array Bool → Act → Prop
  | 0, s, listed, a => L s listed a
  | f + 1, s, listed, a => Region.ready md ops listed ≠ [] ∧ ∀ i ∈ Region.ready md ops listed,
      (sp i = false ∧ sureOp P ops w i (anyS P md ops w sp AtS L f s (listed.setIfInBounds i true)) a) ∨
      (sp i = true ∧ ∃ o, ops[i]? = some o ∧ spAt P AtS o (execOp a.eval o) s (fun s' v => anyS P md ops w sp AtS L f s' (listed.setIfInBounds i true) (a.put o.dst v)))
theorem anyS_sound {g : Nat} {Q' : Exit → Act → World → Prop} (hg : ∀ s u, AtS s u → ∃ x, u = grow w x) (hon : ∀ s u, AtS s u → ∀ y, AtS s (grow u y)) (hL : ∀ s listed a u, AtS s u → L s listed a → wpAny P md ops Q' g listed a u) :
    ∀ (f : Nat) (s : S) (listed : Array Bool) (a : Act) (u : World), AtS s u → anyS P md ops w sp AtS L f s listed a → wpAny P md ops Q' (f + g) listed a u
  | 0, s, listed, a, u, hu, h => by rw [Nat.zero_add]; exact hL _ _ _ _ hu h
  | f + 1, s, listed, a, u, hu, h => by
    rw [show f + 1 + g = (f + g) + 1 by omega]
    refine ⟨fun h0 => absurd h0 h.1, fun i hi => ?_⟩
    rcases h.2 i hi with ⟨_, o, v, ho, hy, hk⟩ | ⟨_, o, ho, hst⟩
    · unfold wpOp
      simp only [ho]
      rcases hy with ⟨hw, hv⟩ | ⟨hw, rfl⟩
      · rw [if_pos hw]
        left
        obtain ⟨x, rfl⟩ := hg _ _ hu
        have h3 := hv x
        unfold Oper.quietAt at h3
        unfold Oper.wp
        generalize (execOp a.eval o).run P (grow w x) = r at *
        cases r with
        | ok nx w' =>
          cases nx <;> simp only [Oper.quietUpon] at h3 <;> simp only [Oper.upon]
          case value u' =>
            obtain ⟨e1, e2⟩ := h3
            rw [e1, e2]
            exact anyS_sound hg hon hL f _ _ _ _ hu hk
          case skip =>
            obtain ⟨e1, e2⟩ := h3
            rw [e1, ← e2]
            exact anyS_sound hg hon hL f _ _ _ _ hu hk
          case enter fn args =>
            obtain ⟨e1, hc⟩ := h3
            rw [e1]
            exact hc.mono fun e w'' ⟨he, y, hy⟩ => by
              subst he hy
              exact anyS_sound hg hon hL f _ _ _ _ (hon _ _ hu y) hk
        | halt x w' => simp only [Oper.quietUpon] at h3
      · rw [if_neg (by rw [hw]; exact Bool.false_ne_true)]
        exact anyS_sound hg hon hL f _ _ _ _ hu hk
    · obtain ⟨hgd, hrun⟩ := hst
      obtain ⟨s', v, u', hr, hu', hk⟩ := hrun u hu
      unfold wpOp
      simp only [ho]
      rw [if_pos (by simp [Region.wanted, hgd])]
      left
      unfold Oper.wp
      rcases hr with hr | ⟨hr, rfl⟩ <;> rw [hr] <;> simp only [Oper.upon] <;> exact anyS_sound hg hon hL f _ _ _ _ hu' hk
theorem anyS_first {i : Nat} {oi : Oper} {v : Value} (hi : ops[i]? = some oi) (hsel : ∀ (j : Nat) (o : Oper) cs b, ops[j]? = some o → o.op ≠ .select cs b) (hin : sp i = false)
    (hdone : ∀ s listed a, L s listed a → Region.ready md ops listed = []) :
    ∀ (f : Nat) (s : S) (listed : Array Bool) (a : Act),
      (∀ j oj, ops[j]? = some oj → j ≠ i → listed.getD j true = false → (∀ e ∈ oj.after, Region.binds md e = true → e.on ≠ i) → oi.apart ops oj = true) →
      i ∈ Region.ready md ops listed → Sure P ops w oi v a →
      anyS P md ops w sp AtS L f s (listed.setIfInBounds i true) (a.put oi.dst v) → anyS P md ops w sp AtS L (f + 1) s listed a := by
  intro f
  induction f with
  | zero =>
    intro s listed a _ hr hy H
    have hun := (mem_ready.1 hr).1
    refine ⟨fun h => (by rw [h] at hr; cases hr), fun j hj => ?_⟩
    by_cases hji : j = i
    · subst hji; exact .inl ⟨hin, oi, v, hi, hy, H⟩
    · have h1 := hdone _ _ _ H
      have h2 := ready_mono hj hji
      rw [h1] at h2
      cases h2
  | succ f ih =>
    intro s listed a hfree hr hy H
    have hun := (mem_ready.1 hr).1
    refine ⟨fun h => (by rw [h] at hr; cases hr), fun j hj => ?_⟩
    by_cases hji : j = i
    · subst hji; exact .inl ⟨hin, oi, v, hi, hy, H⟩
    · obtain ⟨hjun, oj, hoj, hall⟩ := mem_ready.1 hj
      have hnot : ∀ e ∈ oj.after, Region.binds md e = true → e.on ≠ i := fun e he hb heq => by
        have h1 := hall e he hb
        rw [heq, getD_both hun] at h1
        cases h1
      obtain ⟨p1, p2, p3⟩ := Oper.apart_spec (hfree j oj hoj hji hjun hnot)
      have hfree' : ∀ k ok, ops[k]? = some ok → k ≠ i → (listed.setIfInBounds j true).getD k true = false →
          (∀ e ∈ ok.after, Region.binds md e = true → e.on ≠ i) → oi.apart ops ok = true := fun k ok hk hki hun' hno => by
        refine hfree k ok hk hki ?_ hno
        by_cases hjk : j = k
        · subst hjk; exact hjun
        · rw [getD_set_ne true hjk] at hun'; exact hun'
      have go : ∀ (s' : S) (u : Value), anyS P md ops w sp AtS L f s' ((listed.setIfInBounds i true).setIfInBounds j true) ((a.put oi.dst v).put oj.dst u) →
          anyS P md ops w sp AtS L (f + 1) s' (listed.setIfInBounds j true) (a.put oj.dst u) := fun s' u h => by
        refine ih s' (listed.setIfInBounds j true) (a.put oj.dst u) hfree' (ready_mono hr (Ne.symm hji)) (hy.put (fun cs b => hsel i oi cs b hi) p3) ?_
        rw [Array.setIfInBounds_comm _ _ hji, ← Act.put_comm a v u p2]
        exact h
      rcases H.2 j (ready_mono hj hji) with ⟨hj2, oj', u, hoj', hyj, hk⟩ | ⟨hj2, o, ho, hgd, hrun⟩
      · obtain rfl : oj = oj' := Option.some.inj (hoj.symm.trans hoj')
        exact .inl ⟨hj2, oj, u, hoj, hyj.unput (fun cs b => hsel j oj cs b hoj) p1, go s u hk⟩
      · obtain rfl : oj = o := Option.some.inj (hoj.symm.trans ho)
        refine .inr ⟨hj2, oj, hoj, hgd, fun u hu => ?_⟩
        obtain ⟨s', x, u', hr', hu', hk⟩ := hrun u hu
        rw [execOp_put oj (fun cs b => hsel _ oj cs b hoj) a oi.dst v p1] at hr'
        exact ⟨s', x, u', hr', hu', go s' x hk⟩
theorem anyS_lex {F : Nat} {s : S} {fin : Array Bool → Bool} {Q : Act → Prop} (hsel : Region.noSelect ops = true) (hdone : ∀ s listed a, L s listed a → Region.ready md ops listed = [])
    (hfin : ∀ listed a, fin listed = true → Q a → anyS P md ops w sp AtS L F s listed a) :
    ∀ (l : List Oper) (k : Nat) (listed : Array Bool) (a : Act), (∀ j, j < l.length → l[j]? = ops[k + j]?) → (∀ j, k ≤ j → j < k + l.length → sp j = false) →
    lexH md ops fin l.length k listed = true → sureL P ops w Q l a → anyS P md ops w sp AtS L (l.length + F) s listed a
  | [], k, listed, a, _, hk, hB, h => by
    simp only [List.length_nil, Nat.zero_add]
    exact hfin listed a (by simpa [lexH] using hB) h
  | o :: l, k, listed, a, hl, hk, hB, h => by
    have h0 : ops[k]? = some o := by simpa using (hl 0 (by simp)).symm
    simp only [List.length_cons, lexH, Bool.and_eq_true] at hB
    obtain ⟨⟨hr, hf⟩, hB'⟩ := hB
    have hr' : k ∈ Region.ready md ops listed := by simpa using hr
    obtain ⟨v, hy, hK⟩ := h
    rw [show (o :: l).length + F = (l.length + F) + 1 by simp only [List.length_cons]; omega]
    exact anyS_first h0 (Region.noSelect_spec hsel) (hk k (Nat.le_refl _) (by simp)) hdone (l.length + F) s listed a (Region.free_spec h0 hf) hr' hy
      (anyS_lex hsel hdone hfin l (k + 1) _ _ (fun j hj => by have := hl (j + 1) (by simp; omega); simpa [Nat.add_assoc, Nat.add_comm 1 j] using this) (fun j h1 h2 => hk j (by omega) (by simp only [List.length_cons]; omega)) hB' hK)
end
/-! two blocks made, two stores -/
inductive Ph2 where
  | no
  | a (g : Nat)
  | b (g : Nat)
  | ab (ga gb : Nat)
  | s1 (ga gb : Nat)
  | s2 (ga gb : Nat)
def Own (w : World) (t : TypeId) (g : Nat) (c : Array Value) (u : World) : Prop := w.heap.size ≤ g ∧ Blk u g t c
def AtT (w : World) (t : TypeId) (c0 ca cb : Array Value) : Ph2 → World → Prop
  | .no, u => Below w.heap.size w u
  | .a g, u => Below w.heap.size w u ∧ Own w t g c0 u
  | .b g, u => Below w.heap.size w u ∧ Own w t g c0 u
  | .ab ga gb, u => Below w.heap.size w u ∧ ga ≠ gb ∧ Own w t ga c0 u ∧ Own w t gb c0 u
  | .s1 ga gb, u => Below w.heap.size w u ∧ ga ≠ gb ∧ Own w t ga ca u ∧ Own w t gb c0 u
  | .s2 ga gb, u => Below w.heap.size w u ∧ ga ≠ gb ∧ Own w t ga ca u ∧ Own w t gb cb u
theorem Own.on {w : World} {t : TypeId} {g : Nat} {c : Array Value} {u : World} (h : Own w t g c u) (y : More) : Own w t g c (grow u y) := ⟨h.1, h.2.grow y⟩
theorem AtT.grows {w : World} {t : TypeId} {c0 ca cb : Array Value} (s : Ph2) (u : World) (h : AtT w t c0 ca cb s u) : ∃ x, u = grow w x := by
  cases s
  · exact grow_of h
  all_goals exact grow_of h.1
theorem AtT.on {w : World} {t : TypeId} {c0 ca cb : Array Value} (s : Ph2) (u : World) (h : AtT w t c0 ca cb s u) (y : More) : AtT w t c0 ca cb s (grow u y) := by
  cases s
  · exact bel_grow h y
  · exact ⟨bel_grow h.1 y, h.2.on y⟩
  · exact ⟨bel_grow h.1 y, h.2.on y⟩
  all_goals exact ⟨bel_grow h.1 y, h.2.1, h.2.2.1.on y, h.2.2.2.on y⟩
theorem Own.alloc {w : World} {t : TypeId} {g : Nat} {c : Array Value} {u : World} (h : Own w t g c u) (o : Obj) : Own w t g c (u.alloc o) := ⟨h.1, h.2.alloc o⟩
theorem Own.new {w : World} {t : TypeId} {c : Array Value} {u : World} (h : Below w.heap.size w u) : Own w t u.heap.size c (u.alloc (.cells c t)) := ⟨h.size, Blk.new _ _ _ _ rfl⟩
def ptr (g : Nat) : Value := .pointer (some ⟨g, 0, none⟩)
def StoreS (P : Program) (o : Oper) (ex : Sem Next) (g : Nat) (t : TypeId) (c0 c1 : Array Value) : Prop :=
  o.guard = none ∧ o.dst = none ∧ ∀ u, Blk u g t c0 → ex.run P u = .ok .skip (u.setRow g c1)
theorem storeS_row {P : Program} (t : TypeId) (c c' : Array Value) {o : Oper} {a : Act} {g : Nat} (p v : Operand) (ho : o.op = .store t p v) (hg : o.guard = none) (hd : o.dst = none) (hp : a.eval p = .pointer (some ⟨g, 0, none⟩)) (hv : a.eval v = .agg c') (hi : (P.info? t).map (·.size) = some c'.size) (hs : c.size = c'.size) (h1 : c'.all (·.oneCell') = true) : StoreS P o (execOp a.eval o) g t c c' := by
  refine ⟨hg, hd, fun u hu => ?_⟩
  unfold execOp
  rw [ho]
  simp only [hp, hv, Instr.storeAt, Instr.sureAddr, Sem.run_bind, Sem.run_pure, Result.andThen]
  rw [run_storeVar_row _ _ t t c c' hu hi hs h1]
theorem bel_row {a w : World} (h : Below a.heap.size a w) {g : Nat} (hp : a.heap.size ≤ g) (c : Array Value) : Below a.heap.size a (w.setRow g c) := bel_setRow h hp c
section
variable {P : Program} {w : World}
def spB (n : Nat) (i : Nat) : Bool := decide (n ≤ i) && decide (i < n + 4)
def set2 (b : Array Bool) (i : Nat) : Array Bool := b.setIfInBounds i true
def twoB (l : List Oper) (n : Nat) : Bool :=
  Region.noSelect l.toArray && decide (n + 3 < l.length) &&
  lexH .any l.toArray (fun b => decide (Region.ready .any l.toArray b = [n, n + 1]) && decide (Region.ready .any l.toArray (b.setIfInBounds n true) = [n + 1]) && decide (Region.ready .any l.toArray (b.setIfInBounds (n + 1) true) = [n]) &&
    (decide (Region.ready .any l.toArray ((b.setIfInBounds n true).setIfInBounds (n + 1) true) = [n + 2]) && decide (Region.ready .any l.toArray (((b.setIfInBounds n true).setIfInBounds (n + 1) true).setIfInBounds (n + 2) true) = [n + 3]) &&
    lexH .any l.toArray (fun b => decide (Region.ready .any l.toArray b = [])) (l.length - (n + 4)) (n + 4) ((((b.setIfInBounds n true).setIfInBounds (n + 1) true).setIfInBounds (n + 2) true).setIfInBounds (n + 3) true))) n 0 (Array.replicate l.length false)
/-- Operations n, n + 1 make a block each, n + 2, n + 3 store into them; all others are quiet, and go in any order. -/
theorem wp_region_two {id : Nat} {Q : Exit → Act → World → Prop} {a : Act} {l : List Oper} (n : Nat) (A : Act) (da db : Tmp) (t : TypeId) (c0 ca cb : Array Value) (hm : P.follows .mixedOrders = true) (hB : twoB l n = true) (hd : dstsB a.tmps.size (l.take n) = true) (hdd : da ≠ db)
    (hma : Makes P l.toArray n (some da) (.cells c0 t)) (hmb : Makes P l.toArray (n + 1) (some db) (.cells c0 t))
    (h : ∀ x : More, wpQuiet P l.toArray (fun u => ∃ y, u = grow (grow w x) y) (fun a' => a' = A) (l.take n) a)
    (hsa : ∀ ga gb : Nat, ∃ o, l[n + 2]? = some o ∧ StoreS P o (execOp ((A.put (some da) (ptr ga)).put (some db) (ptr gb)).eval o) ga t c0 ca)
    (hsb : ∀ ga gb : Nat, ∃ o, l[n + 3]? = some o ∧ StoreS P o (execOp ((A.put (some da) (ptr ga)).put (some db) (ptr gb)).eval o) gb t c0 cb)
    (ht : ∀ ga gb : Nat, ∃ A2 : Act, dstsB ((A.put (some da) (ptr ga)).put (some db) (ptr gb)).tmps.size (l.drop (n + 4)) = true ∧
      (∀ x : More, wpQuiet P l.toArray (fun u => ∃ y, u = grow (grow w x) y) (fun a' => a' = A2) (l.drop (n + 4)) ((A.put (some da) (ptr ga)).put (some db) (ptr gb))) ∧
      ∀ u, AtT w t c0 ca cb (.s2 ga gb) u → Q .normal A2 u) : (Code.region id l.toArray true).wp P Q a w := by
  simp only [twoB, Bool.and_eq_true, decide_eq_true_eq] at hB
  obtain ⟨⟨hsel, hn⟩, hlex⟩ := hB
  have htl : (l.take n).length = n := by simp; omega
  have hdl : (l.drop (n + 4)).length = l.length - (n + 4) := by simp
  refine wp_region_any hm ?_
  have hu : AtT w t c0 ca cb .no { w with drawn := w.drawn + 1 } := bel_drew (Below.refl _ _)
  let L : Ph2 → Array Bool → Act → Prop := fun s listed a => Region.ready .any l.toArray listed = [] ∧ ∃ ga gb, s = .s2 ga gb ∧ ∀ u, AtT w t c0 ca cb (.s2 ga gb) u → Q .normal a u
  have hdone : ∀ (s : Ph2) (listed : Array Bool) (a : Act), L s listed a → Region.ready .any l.toArray listed = [] := fun s listed a h => h.1
  have n0 : spB n n = true := by simp [spB]
  have n1 : spB n (n + 1) = true := by simp [spB]
  have n2 : spB n (n + 2) = true := by simp [spB]
  have n3 : spB n (n + 3) = true := by simp [spB]
  -- behind both makings
  have last : ∀ (ga gb : Nat) (b : Array Bool), (Region.ready .any l.toArray b = [n + 2] ∧ Region.ready .any l.toArray (b.setIfInBounds (n + 2) true) = [n + 3]) ∧ lexH .any l.toArray (fun b => decide (Region.ready .any l.toArray b = [])) (l.length - (n + 4)) (n + 4) ((b.setIfInBounds (n + 2) true).setIfInBounds (n + 3) true) = true →
      anyS P .any l.toArray w (spB n) (AtT w t c0 ca cb) L (l.length - (n + 4) + 2) (.ab ga gb) b ((A.put (some da) (ptr ga)).put (some db) (ptr gb)) := by
    intro ga gb b ⟨⟨r2, r3⟩, hx⟩
    obtain ⟨o2, ho2, g2, d2, run2⟩ := hsa ga gb
    obtain ⟨o3, ho3, g3, d3, run3⟩ := hsb ga gb
    obtain ⟨A2, hd2, h2, h3⟩ := ht ga gb
    refine ⟨by rw [r2]; simp, fun i hi => ?_⟩
    rw [r2] at hi
    obtain rfl : i = n + 2 := by simpa using hi
    refine .inr ⟨n2, o2, by simpa using ho2, g2, fun u hu => ⟨.s1 ga gb, undef, _, .inr ⟨run2 u hu.2.2.1.2, rfl⟩, ⟨bel_row hu.1 hu.2.2.1.1 _, hu.2.1, ⟨hu.2.2.1.1, hu.2.2.1.2.setRow _⟩, ⟨hu.2.2.2.1, hu.2.2.2.2.farRow _ hu.2.1⟩⟩, ?_⟩⟩
    rw [d2]
    refine ⟨by show Region.ready .any l.toArray (b.setIfInBounds (n + 2) true) ≠ []; rw [r3]; simp, fun j hj => ?_⟩
    rw [r3] at hj
    obtain rfl : j = n + 3 := by simpa using hj
    refine .inr ⟨n3, o3, by simpa using ho3, g3, fun u hu => ⟨.s2 ga gb, undef, _, .inr ⟨run3 u hu.2.2.2.2, rfl⟩, ⟨bel_row hu.1 hu.2.2.2.1 _, hu.2.1, ⟨hu.2.2.1.1, hu.2.2.1.2.farRow _ (Ne.symm hu.2.1)⟩, ⟨hu.2.2.2.1, hu.2.2.2.2.setRow _⟩⟩, ?_⟩⟩
    rw [d3]
    have key := anyS_lex (P := P) (w := w) (md := .any) (ops := l.toArray) (sp := spB n) (AtS := AtT w t c0 ca cb) (L := L) (s := .s2 ga gb) (F := 0)
      (fin := fun b => decide (Region.ready .any l.toArray b = [])) (Q := fun a => a = A2) hsel hdone
      (fun b a hf hq => ⟨by simpa using hf, ga, gb, rfl, by rw [hq]; exact h3⟩) (l.drop (n + 4)) (n + 4) ((b.setIfInBounds (n + 2) true).setIfInBounds (n + 3) true) ((A.put (some da) (ptr ga)).put (some db) (ptr gb))
      (fun j hj => by simp [List.getElem?_drop]) (fun j h1 h2 => by simp [spB]; omega) (by rw [hdl]; exact hx) (sure_of_quiet (Q := fun a => a = A2) rfl _ _ hd2 h2)
    rw [hdl, Nat.add_zero] at key
    exact key
  have H := anyS_lex (P := P) (w := w) (md := .any) (ops := l.toArray) (sp := spB n) (AtS := AtT w t c0 ca cb) (L := L) (s := .no) (F := (l.length - (n + 4)) + 4)
    (fin := fun b => decide (Region.ready .any l.toArray b = [n, n + 1]) && decide (Region.ready .any l.toArray (b.setIfInBounds n true) = [n + 1]) && decide (Region.ready .any l.toArray (b.setIfInBounds (n + 1) true) = [n]) &&
    (decide (Region.ready .any l.toArray ((b.setIfInBounds n true).setIfInBounds (n + 1) true) = [n + 2]) && decide (Region.ready .any l.toArray (((b.setIfInBounds n true).setIfInBounds (n + 1) true).setIfInBounds (n + 2) true) = [n + 3]) &&
    lexH .any l.toArray (fun b => decide (Region.ready .any l.toArray b = [])) (l.length - (n + 4)) (n + 4) ((((b.setIfInBounds n true).setIfInBounds (n + 1) true).setIfInBounds (n + 2) true).setIfInBounds (n + 3) true))) (Q := fun a => a = A) hsel hdone
    (fun b a hf hq => by
      simp only [Bool.and_eq_true, decide_eq_true_eq] at hf
      obtain ⟨⟨⟨r0, ra⟩, rb⟩, hx⟩ := hf
      subst hq
      obtain ⟨oa, hoa, dda, ga_, runa⟩ := hma da rfl
      obtain ⟨ob, hob, ddb, gb_, runb⟩ := hmb db rfl
      refine ⟨by rw [r0]; simp, fun i hi => ?_⟩
      rw [r0] at hi
      have hi' : i = n ∨ i = n + 1 := by simpa using hi
      rcases hi' with rfl | rfl
      · refine .inr ⟨n0, oa, hoa, ga_, fun u hu => ⟨.a u.heap.size, _, _, .inl (runa _ u), ⟨bel_alloc hu _, Own.new hu⟩, ?_⟩⟩
        rw [dda]
        refine ⟨by rw [ra]; simp, fun j hj => ?_⟩
        rw [ra] at hj
        obtain rfl : j = i + 1 := by simpa using hj
        refine .inr ⟨n1, ob, hob, gb_, fun u' hu' => ⟨.ab u.heap.size u'.heap.size, _, _, .inl (runb _ u'), ⟨bel_alloc hu'.1 _, Nat.ne_of_lt hu'.2.2.lt, hu'.2.alloc _, Own.new hu'.1⟩, ?_⟩⟩
        rw [ddb]
        exact last _ _ _ hx
      · refine .inr ⟨n1, ob, hob, gb_, fun u hu => ⟨.b u.heap.size, _, _, .inl (runb _ u), ⟨bel_alloc hu _, Own.new hu⟩, ?_⟩⟩
        rw [ddb]
        refine ⟨by rw [rb]; simp, fun j hj => ?_⟩
        rw [rb] at hj
        obtain rfl : j = n := by simpa using hj
        refine .inr ⟨n0, oa, hoa, ga_, fun u' hu' => ⟨.ab u'.heap.size u.heap.size, _, _, .inl (runa _ u'), ⟨bel_alloc hu'.1 _, Ne.symm (Nat.ne_of_lt hu'.2.2.lt), Own.new hu'.1, hu'.2.alloc _⟩, ?_⟩⟩
        rw [dda]
        have hc := last u'.heap.size u.heap.size _ hx
        rw [Array.setIfInBounds_comm _ _ (by omega), Act.put_comm _ (x := some da) (y := some db) _ _ (fun d e e2 => hdd (by cases e; cases e2; rfl))] at hc
        exact hc) (l.take n) 0 (Array.replicate l.length false) a (fun j hj => by
      rw [htl] at hj
      simp [hj]) (fun j _ h2 => by rw [htl] at h2; simp [spB]; omega) (by rw [htl]; simpa using hlex) (sure_of_quiet (Q := fun a => a = A) rfl _ _ hd h)
  have T := anyS_sound (P := P) (Q' := Q) (g := 0) (fun s u h => AtT.grows s u h) (fun s u h y => AtT.on s u h y) (fun s listed a u hu hl => by
    obtain ⟨hq, ga, gb, rfl, h3⟩ := hl
    exact ⟨hq, h3 u hu⟩) _ _ _ _ _ hu H
  rw [htl, show n + (l.length - (n + 4) + 4) + 0 = l.length by omega] at T
  simpa using T
end
end Go.Proofs.YtdkgbdecmgligaaGreatDoor

/- Regions held by a fact: an operation that is forced, by its value or its call. -/
namespace Go.Proofs.YtdkgbdecmgligaaGreatDoor
open Go.RowKit
set_option linter.unusedVariables false
set_option linter.unusedSimpArgs false
theorem wpAnyH_forced {P : Program} {md : Region.Mode} {ops : Array Oper} {Q : Exit → Act → World → Prop} {S : World → Prop} {fuel i : Nat} {oi : Oper} {listed : Array Bool} {a : Act} {w : World} (hr : Region.ready md ops listed = [i]) (hi : ops[i]? = some oi) (hg : oi.guard = none)
    (h : oi.wp P a w (fun a' w' => S w' ∧ wpAnyH P md ops Q S fuel (listed.setIfInBounds i true) a' w') Q) : wpAnyH P md ops Q S (fuel + 1) listed a w := by
  refine ⟨fun h0 => (by rw [hr] at h0; cases h0), fun j hj => ?_⟩
  rw [hr] at hj
  obtain rfl : j = i := by simpa using hj
  unfold wpOp
  simp only [hi]
  rw [if_pos (by simp [Region.wanted, hg])]
  left
  exact h
theorem anyH_letter {P : Program} {md : Region.Mode} {ops : Array Oper} {Q : Exit → Act → World → Prop} {S : World → Prop} {fuel : Nat} {listed : Array Bool} {a : Act} {w : World} (h : ∀ V : World, V = w → wpAnyH P md ops Q S fuel listed a V) : wpAnyH P md ops Q S fuel listed a w := h w rfl
theorem wp_value {P : Program} {o : Oper} {a : Act} {w w' : World} {v : Value} {K : Act → World → Prop} {Q : Exit → Act → World → Prop} (h : (execOp a.eval o).run P w = .ok (.value v) w') (hk : K (a.put o.dst v) w') : o.wp P a w K Q := by
  unfold Oper.wp
  rw [h]
  exact hk
theorem wp_enter {P : Program} {o : Oper} {a : Act} {w w' : World} {f : FuncId} {args : Array Value} {R : Value → World → Prop} {K : Act → World → Prop} {Q : Exit → Act → World → Prop} (h : (execOp a.eval o).run P w = .ok (.enter f args) w') (hc : Calls P f args w' fun e w'' => ∃ v, e = .returned v ∧ R v w'') (hk : ∀ v w'', R v w'' → K (a.put o.dst v) w'') : o.wp P a w K Q := by
  unfold Oper.wp
  rw [h]
  exact hc.mono fun e w'' ⟨v, he, hr⟩ => by
    subst he
    exact hk v w'' hr
theorem bel_dr {a w : World} (h : Below a.heap.size a w) (d : Nat) : Below a.heap.size a { w with drawn := d } := ⟨h.os, h.tape, h.output, h.size, h.block⟩
end Go.Proofs.YtdkgbdecmgligaaGreatDoor
