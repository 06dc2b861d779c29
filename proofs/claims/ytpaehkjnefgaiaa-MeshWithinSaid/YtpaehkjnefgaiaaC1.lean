/- Blocks of the call's own under calls that leave them: stores go through to the block that they write. No program is imported. Contracts of vec's call Cut and the document's own. A region that draws its order: its operations read, or are calls that answer a value and leave what was there; one of them may make a block; the last ones, in one forced order, store. One walk in the order of the text serves every order. No program is imported. Rows of points, and contracts of Bound. Contracts of the document's own Bound, of copies and of sameness. Rows of points that a call makes: contracts of copies and of sameness. -/
import Derived.Laws.Tables
import Derived.Laws.Rows
import Derived.Deep.WholeRow
import Derived.LoopN
import Derived.Deep.DeepCutAuto
import Derived.Deep.LoopGhost
import Derived.StillTail
import Derived.RegionTactic
import Derived.BigRegion
import Derived.Deep.RegionHeld3
import Derived.Maps.AppendAt
import Derived.Laws.AppendOwnNone
import Derived.Laws.OwnMore
import Derived.OwnWalk
import Derived.Test.YtpaehkjnefgaiaaC0
namespace Go.Proofs.Ytpaehkjnefgaiaa
open Go.RowKit
set_option linter.unusedVariables false
set_option linter.unusedSimpArgs false
theorem setRow_alloc_past (w : World) (o : Obj) (n : Nat) (cs : Array Value) (hn : n < w.heap.size) : (w.alloc o).setRow n cs = (w.setRow n cs).alloc o := by
  unfold World.setRow World.alloc
  congr 1
  apply Array.ext_getElem?
  intro k
  simp only [Array.getElem?_modify, Array.getElem?_push, Array.size_modify]
  by_cases hk : k = w.heap.size
  · subst hk; simp [Nat.ne_of_lt hn]
  · by_cases hn' : n = k <;> simp [hk, hn']
theorem setRow_alloc_at (w : World) (c cs : Array Value) (t : TypeId) (n : Nat) (hn : n = w.heap.size) : (w.alloc (.cells c t)).setRow n cs = w.alloc (.cells cs t) := by
  subst hn; exact World.setRow_alloc_new w c cs t
attribute [go_sem] setRow_alloc_past setRow_alloc_at
/-! what a block holds -/
theorem bel_setRow {a w : World} (h : Below a.heap.size a w) {n : Nat} (hn : a.heap.size ≤ n) (cs : Array Value) : Below a.heap.size a (w.setRow n cs) :=
  h.trans ⟨rfl, rfl, rfl, by simp, fun k hk => setRow_other w n k cs (by omega)⟩
/-- One operation by an equation of its own. -/
theorem wpList_val {P : Program} {ops : Array Oper} {rest : List Oper} {o : Oper} {a : Act} {w : World} {Q : Exit → Act → World → Prop} (hg : o.guard = none) (v : Value) (w' : World)
    (hrun : (execOp a.eval o).run P w = .ok (.value v) w') (h : wpList P ops Q rest (a.put o.dst v) w') : wpList P ops Q (o :: rest) a w :=
  wpList_plain hg fun _ hK => by
    unfold Oper.wp
    rw [hrun]
    exact hK _ _ h
end Go.Proofs.Ytpaehkjnefgaiaa
namespace Go.Proofs.Ytpaehkjnefgaiaa
open Go.RowKit
set_option linter.unusedVariables false
set_option linter.unusedSimpArgs false
end Go.Proofs.Ytpaehkjnefgaiaa
namespace Go.Proofs.Ytpaehkjnefgaiaa
open Go.RowKit
set_option linter.unusedVariables false
set_option linter.unusedSimpArgs false
def More.none_ : More := ⟨fun w => w, fun w => Below.refl _ _⟩
section
variable {P : Program} {ops : Array Oper} {w : World} {md : Region.Mode}
/-- From wherever the region has come, the operation answers v and leaves what was there. -/
def SureAt (P : Program) (o : Oper) (a : Act) (w : World) (v : Value) : Prop := ∀ x : More, o.quietAt P a (fun u => ∃ y, u = grow (grow w x) y) (grow w x) v
def Sure (P : Program) (ops : Array Oper) (w : World) (o : Oper) (v : Value) (a : Act) : Prop :=
  (Region.wanted o (yielded ops a.tmps) = true ∧ SureAt P o a w v) ∨ (Region.wanted o (yielded ops a.tmps) = false ∧ v = undef)
theorem Sure.of_same {o : Oper} {v : Value} {a a' : Act} (h : Sure P ops w o v a) (he : execOp a'.eval o = execOp a.eval o) (hw : Region.wanted o (yielded ops a'.tmps) = Region.wanted o (yielded ops a.tmps)) : Sure P ops w o v a' := by
  unfold Sure SureAt Oper.quietAt at *
  rw [he, hw]
  exact h
/-- What another operation, apart from it, has left makes no difference. -/
theorem Sure.put {o oj : Oper} {v u : Value} {a : Act} (h : Sure P ops w o v a) (hs : ∀ cs b, o.op ≠ .select cs b) (hd : ∀ d, oj.dst = some d → d ∉ o.looksAt ops) : Sure P ops w o v (a.put oj.dst u) :=
  h.of_same (execOp_put o hs a oj.dst u hd) (wanted_put o a oj.dst u hd)
theorem Sure.unput {o oj : Oper} {v u : Value} {a : Act} (h : Sure P ops w o v (a.put oj.dst u)) (hs : ∀ cs b, o.op ≠ .select cs b) (hd : ∀ d, oj.dst = some d → d ∉ o.looksAt ops) : Sure P ops w o v a :=
  h.of_same (execOp_put o hs a oj.dst u hd).symm (wanted_put o a oj.dst u hd).symm
def sureOp (P : Program) (ops : Array Oper) (w : World) (i : Nat) (K : Act → Prop) (a : Act) : Prop := ∃ o v, ops[i]? = some o ∧ Sure P ops w o v a ∧ K (a.put o.dst v)
/-- The one block that the region makes: its place in the region, its slot. -/
def pt (w : World) (x : More) : Value := .pointer (some ⟨(grow w x).heap.size, 0, none⟩)
/-- Where the region may be: nothing made yet; or the block made behind what x tells. -/
def At (w : World) (obj : Obj) : Option More → World → Prop
  | none, u => ∃ x, u = grow w x
  | some x, u => ∃ y, u = grow ((grow w x).alloc obj) y
theorem At.grows {obj : Obj} {s : Option More} {u : World} (h : At w obj s u) : ∃ x, u = grow w x := by
  cases s with
  | none => exact h
  | some x =>
    obtain ⟨y, rfl⟩ := h
    exact grow_of (bel_grow (bel_alloc (bel_grow (Below.refl _ _) x) obj) y)
theorem At.on {obj : Obj} {s : Option More} {u : World} (h : At w obj s u) (y : More) : At w obj s (grow u y) := by
  cases s with
  | none => obtain ⟨x, rfl⟩ := h; exact ⟨x.then y, rfl⟩
  | some x => obtain ⟨z, rfl⟩ := h; exact ⟨z.then y, rfl⟩
variable {n N : Nat} {alc : Option Tmp} {obj : Obj} {L : Option More → Array Bool → Act → Prop}
def anyU (P : Program) (md : Region.Mode) (ops : Array Oper) (w : World) (n : Nat) (alc : Option Tmp) (L : Option More → Array Bool → Act → Prop) : Nat → Option More → Array Bool → Act → Prop
  | 0, s, listed, a => L s listed a
  | f + 1, s, listed, a => Region.ready md ops listed ≠ [] ∧ ∀ i ∈ Region.ready md ops listed,
      (i < n ∧ sureOp P ops w i (anyU P md ops w n alc L f s (listed.setIfInBounds i true)) a) ∨
      (i = n ∧ s = none ∧ ∃ d, alc = some d ∧ ∀ x, anyU P md ops w n alc L f (some x) (listed.setIfInBounds i true) (a.put (some d) (pt w x)))
/-- What the block's making does. -/
def Makes (P : Program) (ops : Array Oper) (n : Nat) (alc : Option Tmp) (obj : Obj) : Prop :=
  ∀ d, alc = some d → ∃ o, ops[n]? = some o ∧ o.dst = some d ∧ o.guard = none ∧ ∀ (a : Act) (u : World), (execOp a.eval o).run P u = .ok (.value (.pointer (some ⟨u.heap.size, 0, none⟩))) (u.alloc obj)
theorem any_sound {g : Nat} {Q' : Exit → Act → World → Prop} (hm : Makes P ops n alc obj) (hL : ∀ s listed a u, At w obj s u → L s listed a → wpAny P md ops Q' g listed a u) :
    ∀ (f : Nat) (s : Option More) (listed : Array Bool) (a : Act) (u : World), At w obj s u → anyU P md ops w n alc L f s listed a → wpAny P md ops Q' (f + g) listed a u
  | 0, s, listed, a, u, hu, h => by rw [Nat.zero_add]; exact hL _ _ _ _ hu h
  | f + 1, s, listed, a, u, hu, h => by
    rw [show f + 1 + g = (f + g) + 1 by omega]
    refine ⟨fun h0 => absurd h0 h.1, fun i hi => ?_⟩
    rcases h.2 i hi with ⟨_, o, v, ho, hy, hk⟩ | ⟨hin, hsn, d, hd, hk⟩
    · unfold wpOp
      simp only [ho]
      rcases hy with ⟨hw, hv⟩ | ⟨hw, rfl⟩
      · rw [if_pos hw]
        left
        obtain ⟨x, rfl⟩ := hu.grows
        have h3 := hv x
        unfold Oper.quietAt at h3
        unfold Oper.wp
        generalize (execOp a.eval o).run P (grow w x) = r at *
        cases r with
        | ok nx w' =>
          cases nx <;> simp only [Oper.quietUpon] at h3 <;> simp only [Oper.upon]
          case value u' =>
            obtain ⟨e1, e2⟩ := h3
            rw [e1, e2]
            exact any_sound hm hL f _ _ _ _ hu hk
          case skip =>
            obtain ⟨e1, e2⟩ := h3
            rw [e1, ← e2]
            exact any_sound hm hL f _ _ _ _ hu hk
          case enter fn args =>
            obtain ⟨e1, hc⟩ := h3
            rw [e1]
            exact hc.mono fun e w'' ⟨he, y, hy⟩ => by
              subst he hy
              exact any_sound hm hL f _ _ _ _ (hu.on y) hk
        | halt x w' => simp only [Oper.quietUpon] at h3
      · rw [if_neg (by rw [hw]; exact Bool.false_ne_true)]
        exact any_sound hm hL f _ _ _ _ hu hk
    · obtain ⟨o, ho, hdst, hg, hrun⟩ := hm d hd
      rw [hsn] at hu
      obtain ⟨x, hux⟩ := hu
      unfold wpOp
      rw [hin] at hk ⊢
      simp only [ho]
      rw [if_pos (by simp [Region.wanted, hg])]
      left
      unfold Oper.wp
      rw [hrun]
      simp only [Oper.upon, hdst]
      rw [hux]
      exact any_sound hm hL f (some x) _ _ _ ⟨More.none_, rfl⟩ (hk x)
theorem any_first {i : Nat} {oi : Oper} {v : Value} (hm : Makes P ops n alc obj) (hi : ops[i]? = some oi) (hsel : ∀ (j : Nat) (o : Oper) cs b, ops[j]? = some o → o.op ≠ .select cs b) (hin : i < n) (hnN : n ≤ N) (hN : ∀ d, alc = some d → N = n + 1)
    (hs : Region.sinkB md ops N = true) (hc : Region.chainB md ops N = true) (hNs : N < ops.size) (hdone : ∀ s listed a, L s listed a → ∀ j ∈ Region.ready md ops listed, N ≤ j) :
    ∀ (f : Nat) (s : Option More) (listed : Array Bool) (a : Act), HeadInv md ops N listed →
      (∀ j oj, ops[j]? = some oj → j ≠ i → listed.getD j true = false → (∀ e ∈ oj.after, Region.binds md e = true → e.on ≠ i) → oi.apart ops oj = true) →
      i ∈ Region.ready md ops listed → Sure P ops w oi v a →
      anyU P md ops w n alc L f s (listed.setIfInBounds i true) (a.put oi.dst v) → anyU P md ops w n alc L (f + 1) s listed a := by
  intro f
  induction f with
  | zero =>
    intro s listed a inv _ hr hy H
    have hun := (mem_ready.1 hr).1
    refine ⟨fun h => (by rw [h] at hr; cases hr), fun j hj => ?_⟩
    have hjn : j < N := by
      rcases Nat.lt_or_ge j N with h | h
      · exact h
      · exact absurd hj (tail_waits hs hc hNs inv _ i rfl (by omega) hun j h)
    by_cases hji : j = i
    · subst hji; exact .inl ⟨hin, oi, v, hi, hy, H⟩
    · have := hdone _ _ _ H j (ready_mono hj hji)
      omega
  | succ f ih =>
    intro s listed a inv hfree hr hy H
    have hun := (mem_ready.1 hr).1
    refine ⟨fun h => (by rw [h] at hr; cases hr), fun j hj => ?_⟩
    have hjn : j < N := by
      rcases Nat.lt_or_ge j N with h | h
      · exact h
      · exact absurd hj (tail_waits hs hc hNs inv _ i rfl (by omega) hun j h)
    by_cases hji : j = i
    · subst hji; exact .inl ⟨hin, oi, v, hi, hy, H⟩
    · obtain ⟨hjun, oj, hoj, hall⟩ := mem_ready.1 hj
      have hnot : ∀ e ∈ oj.after, Region.binds md e = true → e.on ≠ i := fun e he hb heq => by
        have h1 := hall e he hb
        rw [heq, getD_both hun] at h1
        cases h1
      obtain ⟨p1, p2, p3⟩ := Oper.apart_spec (hfree j oj hoj hji hjun hnot)
      have hfree' : ∀ k ok, ops[k]? = some ok → k ≠ i → (listed.setIfInBounds j true).getD k true = false →
          (∀ e ∈ ok.after, Region.binds md e = true → e.on ≠ i) → oi.apart ops ok = true := fun k ok hk hki hun' hno => by
        refine hfree k ok hk hki ?_ hno
        by_cases hjk : j = k
        · subst hjk; exact hjun
        · rw [getD_set_ne true hjk] at hun'; exact hun'
      have go : ∀ (s' : Option More) (u : Value), anyU P md ops w n alc L f s' ((listed.setIfInBounds i true).setIfInBounds j true) ((a.put oi.dst v).put oj.dst u) →
          anyU P md ops w n alc L (f + 1) s' (listed.setIfInBounds j true) (a.put oj.dst u) := fun s' u h => by
        refine ih s' (listed.setIfInBounds j true) (a.put oj.dst u) (inv.set hj hjn) hfree' (ready_mono hr (Ne.symm hji)) (hy.put (fun cs b => hsel i oi cs b hi) p3) ?_
        rw [Array.setIfInBounds_comm _ _ hji, ← Act.put_comm a v u p2]
        exact h
      rcases H.2 j (ready_mono hj hji) with ⟨hj2, oj', u, hoj', hyj, hk⟩ | ⟨hj2, hs2, d, hd, hk⟩
      · obtain rfl : oj = oj' := Option.some.inj (hoj.symm.trans hoj')
        exact .inl ⟨hj2, oj, u, hoj, hyj.unput (fun cs b => hsel j oj cs b hoj) p1, go s u hk⟩
      · obtain ⟨o, ho, hdst, _, _⟩ := hm d hd
        subst hj2
        obtain rfl : oj = o := Option.some.inj (hoj.symm.trans ho)
        refine .inr ⟨rfl, hs2, d, hd, fun x => ?_⟩
        have := go (some x) (pt w x)
        rw [hdst] at this
        exact this (hk x)
/-! the order of the text -/
def lexH (md : Region.Mode) (ops : Array Oper) (fin : Array Bool → Bool) : Nat → Nat → Array Bool → Bool
  | 0, _, listed => fin listed
  | f + 1, k, listed => (Region.ready md ops listed).contains k && Region.free md ops listed k && lexH md ops fin f (k + 1) (listed.setIfInBounds k true)
/-- The walk with one value for each operation. -/
def sureL (P : Program) (ops : Array Oper) (w : World) (Q : Act → Prop) : List Oper → Act → Prop
  | [], a => Q a
  | o :: rest, a => ∃ v, Sure P ops w o v a ∧ sureL P ops w Q rest (a.put o.dst v)
theorem any_lex {F : Nat} {fin : Array Bool → Bool} {Q : Act → Prop} (hm : Makes P ops n alc obj) (hsel : Region.noSelect ops = true) (hnN : n ≤ N) (hN : ∀ d, alc = some d → N = n + 1)
    (hs : Region.sinkB md ops N = true) (hc : Region.chainB md ops N = true) (hNs : N < ops.size) (hdone : ∀ s listed a, L s listed a → ∀ j ∈ Region.ready md ops listed, N ≤ j)
    (hfin : ∀ listed a, HeadInv md ops N listed → fin listed = true → Q a → anyU P md ops w n alc L F none listed a) :
    ∀ (l : List Oper) (k : Nat) (listed : Array Bool) (a : Act), (∀ j, j < l.length → l[j]? = ops[k + j]?) → k + l.length = n → HeadInv md ops N listed →
    lexH md ops fin l.length k listed = true → sureL P ops w Q l a → anyU P md ops w n alc L (l.length + F) none listed a
  | [], k, listed, a, _, hk, inv, hB, h => by
    simp only [List.length_nil, Nat.zero_add]
    exact hfin listed a inv (by simpa [lexH] using hB) h
  | o :: l, k, listed, a, hl, hk, inv, hB, h => by
    have h0 : ops[k]? = some o := by simpa using (hl 0 (by simp)).symm
    simp only [List.length_cons, lexH, Bool.and_eq_true] at hB
    obtain ⟨⟨hr, hf⟩, hB'⟩ := hB
    have hkn : k < n := by simp only [List.length_cons] at hk; omega
    have hr' : k ∈ Region.ready md ops listed := by simpa using hr
    obtain ⟨v, hy, hK⟩ := h
    rw [show (o :: l).length + F = (l.length + F) + 1 by simp only [List.length_cons]; omega]
    exact any_first hm h0 (Region.noSelect_spec hsel) hkn hnN hN hs hc hNs hdone (l.length + F) none listed a inv (Region.free_spec h0 hf) hr' hy
      (any_lex hm hsel hnN hN hs hc hNs hdone hfin l (k + 1) _ _ (fun j hj => by have := hl (j + 1) (by simp; omega); simpa [Nat.add_assoc, Nat.add_comm 1 j] using this) (by simp only [List.length_cons] at hk; omega) (inv.set hr' (by omega)) hB' hK)
/-! one value, out of walks from wherever the region has come -/
def dstsB (t : Nat) : List Oper → Bool
  | [] => true
  | o :: l => (match o.dst with | some d => decide (d < t) && l.all (fun o' => o'.dst != some d) | none => false) && dstsB t l
theorem put_size (a : Act) (d : Option Tmp) (v : Value) : (a.put d v).tmps.size = a.tmps.size := by cases d <;> simp [Act.put]
theorem quiet_keeps {C : World → Prop} {A : Act} {d : Tmp} : ∀ (l : List Oper) (a : Act), (l.all fun o' => o'.dst != some d) = true → wpQuiet P ops C (fun a' => a' = A) l a → A.tmps[d]? = a.tmps[d]?
  | [], a, _, h => by rw [← (h : a = A)]
  | o :: l, a, hd, h => by
    simp only [List.all_cons, Bool.and_eq_true, bne_iff_ne, ne_eq] at hd
    have key : ∀ v, (a.put o.dst v).tmps[d]? = a.tmps[d]? := fun v => by
      cases ho : o.dst with
      | none => rfl
      | some e =>
        have : e ≠ d := fun he => hd.1 (by rw [ho, he])
        simp [Act.put, Array.getElem?_setIfInBounds_ne this]
    unfold wpQuiet at h
    split at h
    · obtain ⟨v, _, h2⟩ := h
      rw [quiet_keeps l _ hd.2 h2, key]
    · rw [quiet_keeps l _ hd.2 h, key]
theorem sure_of_quiet {A : Act} {Q : Act → Prop} (hQ : Q A) : ∀ (l : List Oper) (a : Act), dstsB a.tmps.size l = true → (∀ x : More, wpQuiet P ops (fun u => ∃ y, u = grow (grow w x) y) (fun a' => a' = A) l a) → sureL P ops w Q l a
  | [], a, _, h => by have := h More.none_; unfold wpQuiet at this; subst this; exact hQ
  | o :: l, a, hd, h => by
    simp only [dstsB, Bool.and_eq_true] at hd
    obtain ⟨hd1, hd2⟩ := hd
    cases ho : o.dst with
    | none => rw [ho] at hd1; cases hd1
    | some d =>
      rw [ho] at hd1
      simp only [Bool.and_eq_true, decide_eq_true_eq] at hd1
      have fixed : ∀ v, wpQuiet P ops (fun u => ∃ y, u = grow (grow w More.none_) y) (fun a' => a' = A) l (a.put o.dst v) → A.tmps[d]? = some v := fun v hv => by
        rw [quiet_keeps l _ hd1.2 hv, ho]
        simp [Act.put, hd1.1]
      have fixed' : ∀ (x : More) v, wpQuiet P ops (fun u => ∃ y, u = grow (grow w x) y) (fun a' => a' = A) l (a.put o.dst v) → A.tmps[d]? = some v := fun x v hv => by
        rw [quiet_keeps l _ hd1.2 hv, ho]
        simp [Act.put, hd1.1]
      by_cases hw : Region.wanted o (yielded ops a.tmps) = true
      · have h0 := h More.none_
        unfold wpQuiet at h0
        rw [if_pos hw] at h0
        obtain ⟨v, _, h2⟩ := h0
        have hv := fixed v h2
        have each : ∀ x : More, (∀ u, (∃ y, u = grow (grow w x) y) → o.quietAt P a (fun u => ∃ y, u = grow (grow w x) y) u v) ∧ wpQuiet P ops (fun u => ∃ y, u = grow (grow w x) y) (fun a' => a' = A) l (a.put o.dst v) := fun x => by
          have hx := h x
          unfold wpQuiet at hx
          rw [if_pos hw] at hx
          obtain ⟨v', h1', h2'⟩ := hx
          have hv' := fixed' x v' h2'
          rw [hv] at hv'
          cases hv'
          exact ⟨h1', h2'⟩
        refine ⟨v, .inl ⟨hw, fun x => (each x).1 _ ⟨More.none_, rfl⟩⟩, ?_⟩
        exact sure_of_quiet hQ l _ (by rw [put_size]; exact hd2) fun x => (each x).2
      · refine ⟨undef, .inr ⟨by simpa using hw, rfl⟩, ?_⟩
        refine sure_of_quiet hQ l _ (by rw [put_size]; exact hd2) fun x => ?_
        have hx := h x
        unfold wpQuiet at hx
        rw [if_neg hw] at hx
        exact hx
end
section
variable {P : Program} {w : World}
def tailB (l : List Oper) (n : Nat) : Bool :=
  Region.noSelect l.toArray && decide (n < l.length) && Region.sinkB .any l.toArray n && Region.chainB .any l.toArray n && lexH .any l.toArray (fun listed => Region.seqB .any l.toArray (l.length - n) n listed) n 0 (Array.replicate l.length false)
theorem inv0 (l : List Oper) (N : Nat) : HeadInv .any l.toArray N (Array.replicate l.length false) :=
  ⟨by simp, fun j oj _ hl => (by rw [getD_replicate_false] at hl; cases hl), fun t _ ht => getD_in (by simpa using ht) (getD_replicate_false _ _)⟩
/-- The region's first n operations read or are such calls; the rest goes in one order. A: the frame behind the first n. -/
theorem wp_region_tail {id : Nat} {Q : Exit → Act → World → Prop} {a : Act} {l : List Oper} (n : Nat) (A : Act) (hm : P.follows .mixedOrders = true) (hB : tailB l n = true) (hd : dstsB a.tmps.size (l.take n) = true)
    (h : ∀ x : More, wpQuiet P l.toArray (fun u => ∃ y, u = grow (grow w x) y) (fun a' => a' = A) (l.take n) a)
    (ht : ∀ x : More, wpList P l.toArray Q (l.drop n) A (grow w x)) : (Code.region id l.toArray true).wp P Q a w := by
  simp only [tailB, Bool.and_eq_true, decide_eq_true_eq] at hB
  obtain ⟨⟨⟨⟨hsel, hn⟩, hs⟩, hc⟩, hlex⟩ := hB
  have htl : (l.take n).length = n := by simp; omega
  refine wp_region_any hm ?_
  have hmk : Makes P l.toArray n none (.cells #[] 0) := fun d hd => by cases hd
  have hu : At w (.cells #[] 0) none { w with drawn := w.drawn + 1 } := grow_of (bel_drew (Below.refl _ _))
  have H := any_lex (P := P) (w := w) (md := .any) (ops := l.toArray) (n := n) (N := n) (alc := none) (obj := .cells #[] 0) (L := fun s listed a => s = none ∧ Region.seqB .any l.toArray (l.length - n) n listed = true ∧ a = A) (F := 0)
    (fin := fun listed => Region.seqB .any l.toArray (l.length - n) n listed) (Q := fun a => a = A) hmk hsel (Nat.le_refl _) (fun d hd => by cases hd) hs hc (by simpa using hn) (fun s listed a h => seqB_ready h.2.1)
    (fun listed a _ hf hq => ⟨rfl, hf, hq⟩) (l.take n) 0 (Array.replicate l.length false) a (fun j hj => by
      rw [htl] at hj
      simp [hj]) (by simpa using htl) (inv0 l n) (by rw [htl]; exact hlex) (sure_of_quiet (Q := fun a => a = A) rfl _ _ hd h)
  have S := any_sound (P := P) (Q' := Q) (g := l.length - n) hmk (fun s listed a u hu hl => by
    obtain ⟨rfl, hq, rfl⟩ := hl
    obtain ⟨x, rfl⟩ := hu
    have := wpAny_of_seq (md := .any) (Q' := Q) (ops := l.toArray) (l.drop n) n listed a (grow w x) (fun j => by simp [List.getElem?_drop]) (by simpa using hq) (ht x)
    simpa using this) _ _ _ _ _ hu H
  rw [htl, show n + 0 + (l.length - n) = l.length by omega] at S
  simpa using S
end
end Go.Proofs.Ytpaehkjnefgaiaa
namespace Go.Proofs.Ytpaehkjnefgaiaa
open Go.RowKit
set_option linter.unusedVariables false
set_option linter.unusedSimpArgs false
/-- A row of n points lies from an address on. -/
def VF (W : World) (A : Option Addr) (n : Nat) (p : Nat → Int × Int × Int) : Prop :=
  0 < n → ∃ b off, A = some ⟨b, off, none⟩ ∧ b < W.heap.size ∧ ∀ i, i < n → W.cell? ⟨b, off + i * 3, none⟩ = some (.int .i64 (p i).1) ∧ W.cell? ⟨b, off + i * 3 + 1, none⟩ = some (.int .i64 (p i).2.1) ∧ W.cell? ⟨b, off + i * 3 + 2, none⟩ = some (.int .i64 (p i).2.2)
theorem VF.below {W W' : World} {A : Option Addr} {n : Nat} {p : Nat → Int × Int × Int} (h : VF W A n p) (hb : Below W.heap.size W W') : VF W' A n p := fun hn => by
  obtain ⟨b, off, e, hl, hc⟩ := h hn
  refine ⟨b, off, e, Nat.lt_of_lt_of_le hl hb.size, fun i hi => ?_⟩
  obtain ⟨h1, h2, h3⟩ := hc i hi
  exact ⟨(hb.cell (p := ⟨b, _, none⟩) hl).trans h1, (hb.cell (p := ⟨b, _, none⟩) hl).trans h2, (hb.cell (p := ⟨b, _, none⟩) hl).trans h3⟩
def joinP (b : (Int × Int × Int) × (Int × Int × Int)) (q : Int × Int × Int) : (Int × Int × Int) × (Int × Int × Int) :=
  ((min b.1.1 q.1, min b.1.2.1 q.2.1, min b.1.2.2 q.2.2), (max b.2.1 q.1, max b.2.2.1 q.2.1, max b.2.2.2 q.2.2))
/-- The least box of the points up to number k. -/
def boxF (p : Nat → Int × Int × Int) : Nat → (Int × Int × Int) × (Int × Int × Int)
  | 0 => (p 0, p 0)
  | k + 1 => joinP (boxF p k) (p (k + 1))
set_option maxHeartbeats 1000000 in
theorem vBound_some (w : World) (A : Option Addr) (n c : Nat) (p : Nat → Int × Int × Int) (hv : VF w A (n + 1) p) (hn : n ≤ 2147483647) (hc : n + 1 ≤ c) :
    Calls Try.prog 33 #[.slice A (n + 1) c] w fun e w' => e = .returned (.tuple #[.agg #[.int .i64 (boxF p n).1.1, .int .i64 (boxF p n).1.2.1, .int .i64 (boxF p n).1.2.2, .int .i64 (boxF p n).2.1, .int .i64 (boxF p n).2.2.1, .int .i64 (boxF p n).2.2.2], .bool true]) ∧ ∃ x, w' = grow w x := by
  obtain ⟨b, off, rfl, hb, hcell⟩ := hv (by omega)
  have hcell := Lib.hid hcell
  obtain ⟨h1, h2, h3⟩ := hcell.out 0 (by omega)
  simp only [Nat.zero_mul, Nat.add_zero] at h1 h2 h3
  have hn0 : 0 < n + 1 := by omega
  have hb1 : b < w.heap.size + 1 := by omega
  have hb2 : b < w.heap.size + 1 + 1 := by omega
  have hd : ((n : Int) + 1 == 0) = false := by simp; omega
  by_cases hc1 : c = 1
  · obtain rfl : n = 0 := by omega
    subst hc1
    clear hc hd
    go_enter Try.func33, Try.ntmps33
    go_wp2
    go_region
    go_wp2
    go_loopw [21] (fun i wr => i = .int .i64 0 ∧ wr = ((w.alloc (.cells #[.int .i64 0, .int .i64 0, .int .i64 0, .int .i64 0, .int .i64 0, .int .i64 0] 43)).alloc (.cells #[.int .i64 (boxF p 0).1.1, .int .i64 (boxF p 0).1.2.1, .int .i64 (boxF p 0).1.2.2, .int .i64 (boxF p 0).2.1, .int .i64 (boxF p 0).2.2.1, .int .i64 (boxF p 0).2.2.2] 43)).drew) (fun i _ => 0)
    case atStart => exact ⟨rfl, rfl⟩
    case round =>
      obtain ⟨rfl, rfl⟩ := hrel
      go_wp2
      refine bodyPost_ret (v := .tuple #[.agg #[.int .i64 (boxF p 0).1.1, .int .i64 (boxF p 0).1.2.1, .int .i64 (boxF p 0).1.2.2, .int .i64 (boxF p 0).2.1, .int .i64 (boxF p 0).2.2.1, .int .i64 (boxF p 0).2.2.2], .bool true]) (by simp [results, Try.results33, go_sem]) rfl ⟨rfl, grow_of (by repeat (first | exact Below.refl _ _ | refine bel_then ?_ _ | refine bel_grow ?_ _ | refine bel_alloc ?_ _ | refine bel_drew ?_ | refine bel_set ?_ (by simp) _ | refine bel_setRow ?_ (by simp) _))⟩
  · have hcc : (c - 1 : Nat) ≠ 0 := by omega
    go_enter Try.func33, Try.ntmps33
    go_wp2
    go_region
    go_wp2
    clear h1 h2 h3
    go_loopw [21] (fun i wr => ∃ k : Nat, i = .int .i64 k ∧ k ≤ n ∧ ∃ x, wr = grow (((w.alloc (.cells #[.int .i64 0, .int .i64 0, .int .i64 0, .int .i64 0, .int .i64 0, .int .i64 0] 43)).alloc (.cells #[.int .i64 (boxF p k).1.1, .int .i64 (boxF p k).1.2.1, .int .i64 (boxF p k).1.2.2, .int .i64 (boxF p k).2.1, .int .i64 (boxF p k).2.2.1, .int .i64 (boxF p k).2.2.2] 43)).drew) x) (fun i _ => (n - intOf i).toNat)
    case atStart => exact ⟨0, rfl, by omega, grow_of (Below.refl _ _)⟩
    case round =>
      obtain ⟨k, rfl, hk, xx, rfl⟩ := hrel
      by_cases hlt : k < n
      · obtain ⟨h1, h2, h3⟩ := hcell.out (k + 1) (by omega)
        rw [show off + (k + 1) * 3 = off + 3 + k * 3 from by omega] at h1 h2 h3
        have kj := vJoin_any (boxF p k).1.1 (boxF p k).1.2.1 (boxF p k).1.2.2 (boxF p k).2.1 (boxF p k).2.2.1 (boxF p k).2.2.2 (p (k + 1)).1 (p (k + 1)).2.1 (p (k + 1)).2.2 (p (k + 1)).1 (p (k + 1)).2.1 (p (k + 1)).2.2
        go_wp2_with (go_at_call 62; ((with_reducible refine (kj.at_ _).mono ?_); rintro e w' ⟨rfl, xg, rfl⟩))
        go_roundw
        case rel => exact ⟨k + 1, by go_num, by omega, grow_of (by repeat (first | exact Below.refl _ _ | refine bel_then ?_ _ | refine bel_grow ?_ _ | refine bel_alloc ?_ _ | refine bel_drew ?_ | refine bel_set ?_ (by simp) _ | refine bel_setRow ?_ (by simp) _))⟩
        case measure => simp [intOf] <;> omega
      · obtain rfl : k = n := by omega
        go_wp2
        refine bodyPost_ret (v := .tuple #[.agg #[.int .i64 (boxF p k).1.1, .int .i64 (boxF p k).1.2.1, .int .i64 (boxF p k).1.2.2, .int .i64 (boxF p k).2.1, .int .i64 (boxF p k).2.2.1, .int .i64 (boxF p k).2.2.2], .bool true]) (by simp [results, Try.results33, go_sem]) rfl ⟨rfl, grow_of (by repeat (first | exact Below.refl _ _ | refine bel_then ?_ _ | refine bel_grow ?_ _ | refine bel_alloc ?_ _ | refine bel_drew ?_ | refine bel_set ?_ (by simp) _ | refine bel_setRow ?_ (by simp) _))⟩

end Go.Proofs.Ytpaehkjnefgaiaa
namespace Go.Proofs.Ytpaehkjnefgaiaa
open Go.RowKit
set_option linter.unusedVariables false
set_option linter.unusedSimpArgs false

end Go.Proofs.Ytpaehkjnefgaiaa
namespace Go.Proofs.Ytpaehkjnefgaiaa
open Go.RowKit
set_option linter.unusedVariables false
set_option linter.unusedSimpArgs false
def part (q : Int × Int × Int) (k : Nat) : Int := if k = 0 then q.1 else if k = 1 then q.2.1 else q.2.2
theorem VF.cellAt {W : World} {b off n : Nat} {p : Nat → Int × Int × Int} (h : VF W (some ⟨b, off, none⟩) n p) (j : Nat) (hj : j < n * 3) : W.cell? ⟨b, off + j, none⟩ = some (.int .i64 (part (p (j / 3)) (j % 3))) := by
  obtain ⟨b', off', e, hl, hc⟩ := h (by omega)
  simp only [Option.some.injEq, Addr.mk.injEq, and_true] at e
  obtain ⟨rfl, rfl⟩ := e
  obtain ⟨h1, h2, h3⟩ := hc (j / 3) (by omega)
  have hm := Nat.mod_lt j (by omega : 0 < 3)
  have hd : j = j / 3 * 3 + j % 3 := by omega
  unfold part
  by_cases e0 : j % 3 = 0
  · rw [if_pos e0, ← h1]; congr 2; omega
  · by_cases e1 : j % 3 = 1
    · rw [if_neg e0, if_pos e1, ← h2]; congr 2; omega
    · rw [if_neg e0, if_neg e1, ← h3]; congr 2; omega
theorem VF.zero (W : World) (A : Option Addr) (p : Nat → Int × Int × Int) : VF W A 0 p := fun h => absurd h (by omega)
end Go.Proofs.Ytpaehkjnefgaiaa
