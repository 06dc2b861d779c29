/- A region in any order whose operations may make blocks, and call what makes blocks: if what is known of each slot stays true in every later world, then behind the region it is known of all of them, whatever the order was. No program is imported. As XMono, where operations of one order follow the first n. No program is imported. A region in any order in which one operation makes a block and one changes the memory behind it, all the others read: whatever the order, the same is found. No program is imported. A region in any order in which some operations change the memory one behind the other, all the others read. No program is imported. A region in any order in which one operation stores, the others read or call what only grows. No program is imported. A region in any order, of what is found an invariant that speaks of the frame, too: blocks that are made and then stored into. No program is imported. -/
import Derived.StillTail
import Derived.Test.YthadlpkdfnonjaaC2
import Derived.Test.YthadlpkdfnonjaaC3
import Derived.Test.YthadlpkdfnonjaaC10
namespace Go.Proofs.Ythadlpkdfnonjaa
open Go.RowKit
set_option linter.unusedVariables false
set_option linter.unusedSimpArgs false
section
variable {P : Program} {md : Region.Mode} {ops : Array Oper} {Q : Exit → Act → World → Prop} {R : Nat → World → Value → Prop} {a0 : Act} {w0 : World}
/-- What the operations that are done have left. -/
structure MonoI (ops : Array Oper) (R : Nat → World → Value → Prop) (a0 : Act) (w0 : World) (listed : Array Bool) (a : Act) (w : World) : Prop where
  bel : Below w0.heap.size w0 w
  size : a.tmps.size = a0.tmps.size
  defers : a.defers = a0.defers
  keep : ∀ t, (∀ (j : Nat) (o : Oper), ops[j]? = some o → o.dst ≠ some t) → a.tmps[t]? = a0.tmps[t]?
  got : ∀ (j : Nat) (o : Oper) (d : Tmp), ops[j]? = some o → o.dst = some d → listed.getD j false = true → ∃ v, a.tmps[d]? = some v ∧ R j w v
theorem put_tmps (a : Act) (d : Option Tmp) (v : Value) : (a.put d v).defers = a.defers ∧ (a.put d v).tmps.size = a.tmps.size ∧ (∀ t, d ≠ some t → (a.put d v).tmps[t]? = a.tmps[t]?) ∧ (∀ t, d = some t → t < a.tmps.size → (a.put d v).tmps[t]? = some v) := by
  cases d with
  | none => exact ⟨rfl, rfl, fun t _ => rfl, fun t h => by cases h⟩
  | some t0 =>
    refine ⟨rfl, by simp [Act.put], fun t h => ?_, fun t h ht => ?_⟩
    · have : t0 ≠ t := fun e => h (by rw [e])
      simp [Act.put, Array.getElem?_setIfInBounds_ne this]
    · cases h
      simp [Act.put, ht]
theorem MonoI.step {listed : Array Bool} {a : Act} {w w' : World} {i : Nat} {o : Oper} {v : Value} (h : MonoI ops R a0 w0 listed a w) (hi : ops[i]? = some o)
    (hmono : ∀ (j : Nat) (w w' : World) (v : Value), Below w.heap.size w w' → R j w v → R j w' v) (hd : ∀ (i j : Nat) (oi oj : Oper) (d : Tmp), ops[i]? = some oi → ops[j]? = some oj → oi.dst = some d → oj.dst = some d → i = j) (hsz : ∀ (j : Nat) (oj : Oper) (d : Tmp), ops[j]? = some oj → oj.dst = some d → d < a0.tmps.size)
    (hB : Below w.heap.size w w') (hR : ∀ d, o.dst = some d → R i w' v) : MonoI ops R a0 w0 (listed.setIfInBounds i true) (a.put o.dst v) w' := by
  obtain ⟨p1, p2, p3, p4⟩ := put_tmps a o.dst v
  refine ⟨h.bel.trans (hB.mono h.bel.size), p2.trans h.size, p1.trans h.defers, fun t ht => (p3 t (ht i o hi)).trans (h.keep t ht), fun j oj d hj hjd hl => ?_⟩
  by_cases hij : i = j
  · subst hij
    obtain rfl := Option.some.inj (hi.symm.trans hj)
    exact ⟨v, p4 d hjd (by rw [h.size]; exact hsz i o d hi hjd), hR d hjd⟩
  · rw [getD_set_ne false hij] at hl
    obtain ⟨u, hu, hr⟩ := h.got j oj d hj hjd hl
    refine ⟨u, (p3 d (fun e => hij (hd i j o oj d hi hj e hjd))).trans hu, hmono j w w' u hB hr⟩
/-- How many operations are not done yet. -/
def left (listed : Array Bool) : Nat := (listed.toList.filter fun b => !b).length
theorem left_set {listed : Array Bool} {i : Nat} (h : listed.getD i true = false) : left (listed.setIfInBounds i true) + 1 = left listed := by
  unfold left
  have hi : i < listed.size := by
    rcases Nat.lt_or_ge i listed.size with q | q
    · exact q
    · simp [Array.getD, Nat.not_lt.2 q] at h
  have hv : listed[i] = false := by simpa [Array.getD, hi] using h
  have hl : i < listed.toList.length := by simpa using hi
  have e1 : listed.toList = listed.toList.take i ++ false :: listed.toList.drop (i + 1) := by
    have := List.take_append_drop i listed.toList
    rw [List.drop_eq_getElem_cons hl] at this
    have hv2 : listed.toList[i] = false := by simpa using hv
    rw [hv2] at this
    exact this.symm
  have e2 : (listed.setIfInBounds i true).toList = listed.toList.take i ++ true :: listed.toList.drop (i + 1) := by
    rw [Array.toList_setIfInBounds, List.set_eq_take_append_cons_drop, if_pos hl]
  rw [e2]
  conv => rhs; rw [e1]
  simp [List.filter_append, List.filter_cons]
  omega
/-- Each operation of a list, with its number. -/
def allI (X : Nat → Oper → Prop) : Nat → List Oper → Prop
  | _, [] => True
  | k, o :: l => X k o ∧ allI X (k + 1) l
theorem allI_get {X : Nat → Oper → Prop} : ∀ (l : List Oper) (k : Nat), allI X k l → ∀ (i : Nat) (o : Oper), l[i]? = some o → X (k + i) o
  | [], _, _, i, o, h => by simp at h
  | x :: l, k, ⟨h1, h2⟩, i, o, h => by
    cases i with
    | zero => simp at h; subst h; exact h1
    | succ i =>
      have := allI_get l (k + 1) h2 i o (by simpa using h)
      rw [show k + (i + 1) = k + 1 + i by omega]; exact this
theorem allI_arr {X : Nat → Oper → Prop} {l : List Oper} (h : allI X 0 l) : ∀ (i : Nat) (o : Oper), l.toArray[i]? = some o → X i o := fun i o hi => by
  have := allI_get l 0 h i o (by simpa using hi)
  rwa [Nat.zero_add] at this
/-- Do the edges go back, are the slots apart and within the frame, is nothing guarded? (closed facts) -/
def edgesB (l : List Oper) : Bool := l.zipIdx.all fun x => x.1.after.all fun e => decide (e.on < x.2)
def dstB (l : List Oper) (n : Nat) : Bool := (l.filterMap (·.dst)).all (fun d => decide (d < n)) && decide (l.filterMap (·.dst)).Nodup
theorem edges_of {l : List Oper} (h : edgesB l = true) : ∀ (i : Nat) (o : Oper), l.toArray[i]? = some o → ∀ e ∈ o.after, Region.binds .any e = true → e.on < i := fun i o hi e he _ => by
  unfold edgesB at h
  rw [List.all_eq_true] at h
  have hm : (o, i) ∈ l.zipIdx := by
    rw [List.mem_zipIdx_iff_getElem?]
    simpa using hi
  have := h _ hm
  rw [Array.all_eq_true_iff_forall_mem] at this
  simpa using this e he
theorem dst_lt {l : List Oper} {n : Nat} (h : dstB l n = true) : ∀ (j : Nat) (oj : Oper) (d : Tmp), l.toArray[j]? = some oj → oj.dst = some d → d < n := fun j oj d hj hd => by
  unfold dstB at h
  simp only [Bool.and_eq_true, List.all_eq_true] at h
  have hm : d ∈ l.filterMap (·.dst) := List.mem_filterMap.2 ⟨oj, List.mem_of_getElem? (by simpa using hj), hd⟩
  simpa using h.1 d hm
theorem dst_one {l : List Oper} {n : Nat} (h : dstB l n = true) : ∀ (i j : Nat) (oi oj : Oper) (d : Tmp), l.toArray[i]? = some oi → l.toArray[j]? = some oj → oi.dst = some d → oj.dst = some d → i = j := by
  unfold dstB at h
  simp only [Bool.and_eq_true, decide_eq_true_eq] at h
  have hn := h.2
  clear h
  intro i j oi oj d hi hj hdi hdj
  replace hi : l[i]? = some oi := by simpa using hi
  replace hj : l[j]? = some oj := by simpa using hj
  induction l generalizing i j with
  | nil => simp at hi
  | cons x l ih =>
    have hmem : ∀ (k : Nat) (o : Oper), l[k]? = some o → o.dst = some d → d ∈ l.filterMap (·.dst) := fun k o hk hd => List.mem_filterMap.2 ⟨o, List.mem_of_getElem? hk, hd⟩
    have hn2 : (l.filterMap (·.dst)).Nodup := by
      cases hx : x.dst with
      | none => rw [List.filterMap_cons_none hx] at hn; exact hn
      | some y => rw [List.filterMap_cons_some hx] at hn; exact (List.nodup_cons.1 hn).2
    have hno : x.dst = some d → d ∉ l.filterMap (·.dst) := fun hx => by
      rw [List.filterMap_cons_some hx] at hn; exact (List.nodup_cons.1 hn).1
    cases i with
    | zero =>
      cases j with
      | zero => rfl
      | succ j =>
        simp at hi; subst hi
        exact absurd (hmem j oj (by simpa using hj) hdj) (hno hdi)
    | succ i =>
      cases j with
      | zero =>
        simp at hj; subst hj
        exact absurd (hmem i oi (by simpa using hi) hdi) (hno hdj)
      | succ j => rw [ih hn2 i j (by simpa using hi) (by simpa using hj)]
theorem eval_tmp {a : Act} {d : Tmp} {v : Value} (h : a.tmps[d]? = some v) : a.eval (.tmp d) = v := by
  simp [Act.eval, h]
theorem keep_of {l : List Oper} {t : Tmp} (h : (l.all fun o => o.dst != some t) = true) : ∀ (j : Nat) (o : Oper), l.toArray[j]? = some o → o.dst ≠ some t := fun j o hj => by
  rw [List.all_eq_true] at h
  have := h o (List.mem_of_getElem? (by simpa using hj))
  simpa using this
/-- A slot that holds just this. -/
def PE (x : Value) : World → Value → Prop := fun _ v => v = x
/-- A slot that holds a row of its own of n cells. -/
def PS (cs : Array Value) (n : Nat) : World → Value → Prop := fun w v => ∃ b, v = .slice (some ⟨b, 0, none⟩) n n ∧ b < w.heap.size ∧ ∀ i, w.cell? ⟨b, i, none⟩ = cs[i]?
def Stays (p : World → Value → Prop) : Prop := ∀ (w w' : World) (v : Value), Below w.heap.size w w' → p w v → p w' v
theorem PE.stays (x : Value) : Stays (PE x) := fun _ _ _ _ h => h
theorem PS.stays (cs : Array Value) (n : Nat) : Stays (PS cs n) := fun w w' v hB ⟨b, e, hb, hc⟩ => ⟨b, e, Nat.lt_of_lt_of_le hb hB.size, fun i => (hB.cell (p := ⟨b, i, none⟩) hb).trans (hc i)⟩
/-- The facts of a region's slots, as a list. -/
def RL (ps : List (World → Value → Prop)) : Nat → World → Value → Prop := fun j => ps.getD j fun _ _ => True
theorem RL.stays {ps : List (World → Value → Prop)} (h : ∀ p ∈ ps, Stays p) : ∀ (j : Nat) (w w' : World) (v : Value), Below w.heap.size w w' → RL ps j w v → RL ps j w' v := fun j w w' v hB hr => by
  unfold RL at *
  by_cases hj : j < ps.length
  · have e : ps.getD j (fun _ _ => True) = ps[j] := by simp [List.getD, hj]
    rw [e] at hr ⊢
    exact h _ (List.getElem_mem hj) w w' v hB hr
  · have e : ps.getD j (fun _ _ => True) = fun _ _ => True := by simp [List.getD, Nat.le_of_not_lt hj]
    rw [e]; trivial
/-- The slots ds of a frame's cells set, each to what f says. -/
def setAll (f : Tmp → Value) : List Tmp → Array Value → Array Value
  | [], b => b
  | d :: ds, b => setAll f ds (b.setIfInBounds d (f d))
theorem setAll_size (f : Tmp → Value) : ∀ (ds : List Tmp) (b : Array Value), (setAll f ds b).size = b.size
  | [], b => rfl
  | d :: ds, b => by unfold setAll; rw [setAll_size f ds]; simp
theorem setAll_get (f : Tmp → Value) : ∀ (ds : List Tmp) (b : Array Value) (t : Nat), t < b.size → (setAll f ds b)[t]? = if t ∈ ds then some (f t) else b[t]?
  | [], b, t, _ => by simp [setAll]
  | d :: ds, b, t, ht => by
    unfold setAll
    rw [setAll_get f ds _ t (by simpa using ht)]
    by_cases h1 : t ∈ ds
    · simp [h1]
    · by_cases h2 : t = d
      · subst h2
        simp [h1, ht]
      · have : d ≠ t := fun e => h2 e.symm
        simp [h1, h2, Array.getElem?_setIfInBounds_ne this]
/-- The frame behind the region, written out: the region's own slots by f, all others as they were. -/
theorem frame_eq {l : List Oper} {a : Act} (hsz : a.tmps.size = a0.tmps.size) (hdf : a.defers = a0.defers) (hk : ∀ t, (∀ (j : Nat) (o : Oper), l.toArray[j]? = some o → o.dst ≠ some t) → a.tmps[t]? = a0.tmps[t]?) (ds : List Tmp) (hds : l.filterMap (·.dst) = ds) :
    ∃ f : Tmp → Value, (∀ d v, a.tmps[d]? = some v → f d = v) ∧ a = ⟨setAll f ds a0.tmps, a0.defers⟩ := by
  refine ⟨fun d => (a.tmps[d]?).getD undef, fun d v h => by simp [h], ?_⟩
  have e : a.tmps = setAll (fun d => (a.tmps[d]?).getD undef) ds a0.tmps := by
    apply Array.ext_getElem?
    intro t
    by_cases ht : t < a0.tmps.size
    · rw [setAll_get _ _ _ _ ht]
      split
      · have : t < a.tmps.size := by omega
        simp [this]
      · rename_i hno
        refine hk t (fun j o hj hd => hno ?_)
        rw [← hds]
        exact List.mem_filterMap.2 ⟨o, List.mem_of_getElem? (by simpa using hj), hd⟩
    · rw [Array.getElem?_eq_none (by omega), Array.getElem?_eq_none (by rw [setAll_size]; omega)]
  cases a
  simp only at e hdf
  rw [← hdf]
  congr 1
end
end Go.Proofs.Ythadlpkdfnonjaa
namespace Go.Proofs.Ythadlpkdfnonjaa
open Go.RowKit
set_option linter.unusedVariables false
set_option linter.unusedSimpArgs false
section
variable {P : Program} {md : Region.Mode} {l : List Oper} {n : Nat} {Q : Exit → Act → World → Prop} {R : Nat → World → Value → Prop} {a0 : Act} {w0 : World}
def doneA (len n : Nat) : Array Bool := ((List.range len).map fun j => decide (j < n)).toArray
def predsL (l : List Oper) (i : Nat) : List Nat := ((l[i]?).map fun o => ((o.after.toList.filter fun e => Region.binds .any e).map fun e => e.on)).getD []
def ancS (l : List Oper) : Nat → List Nat → List Nat
  | 0, S => S
  | i + 1, S => ancS l i (if S.contains i then S ++ predsL l i else S)
/-- Do the operations behind the first n wait for all of these? (a closed fact) -/
def waitB (l : List Oper) (n : Nat) : Bool := (List.range l.length).all fun k => decide (k < n) || (List.range n).all fun j => (ancS l k (predsL l k)).contains j
def Closed (l : List Oper) (listed : Array Bool) : Prop := ∀ i, listed.getD i false = true → ∀ j ∈ predsL l i, listed.getD j false = true
theorem anc_listed {l : List Oper} {listed : Array Bool} (h : Closed l listed) : ∀ (i : Nat) (S : List Nat), (∀ j ∈ S, listed.getD j false = true) → ∀ j ∈ ancS l i S, listed.getD j false = true
  | 0, S, hS => hS
  | i + 1, S, hS => by
    unfold ancS
    split
    · rename_i hi
      refine anc_listed h i _ fun j hj => ?_
      rcases List.mem_append.1 hj with hj | hj
      · exact hS j hj
      · exact h i (hS i (by simpa using hi)) j hj
    · exact anc_listed h i S hS
theorem preds_of {l : List Oper} {i : Nat} {o : Oper} (ho : l.toArray[i]? = some o) (j : Nat) : j ∈ predsL l i ↔ ∃ e ∈ o.after, Region.binds .any e = true ∧ e.on = j := by
  have : l[i]? = some o := by simpa using ho
  unfold predsL
  rw [this]
  simp only [Option.map_some, Option.getD_some, List.mem_map, List.mem_filter, Array.mem_toList_iff]
  constructor
  · rintro ⟨e, ⟨h1, h2⟩, h3⟩; exact ⟨e, h1, h2, h3⟩
  · rintro ⟨e, h1, h2, h3⟩; exact ⟨e, ⟨h1, h2⟩, h3⟩
theorem wait_of (h : waitB l n = true) : ∀ (listed : Array Bool), Closed l listed → ∀ (k : Nat) (o : Oper), l.toArray[k]? = some o → n ≤ k → (∀ e ∈ o.after, Region.binds .any e = true → listed.getD e.on false = true) → ∀ j, j < n → listed.getD j false = true := fun listed hc k o hk hn hp j hj => by
  unfold waitB at h
  rw [List.all_eq_true] at h
  have hkl : k < l.length := by have := (Array.getElem?_eq_some_iff.1 hk).1; simpa using this
  have := h k (by simpa using hkl)
  simp only [Bool.or_eq_true, decide_eq_true_eq] at this
  rcases this with h1 | h1
  · omega
  · rw [List.all_eq_true] at h1
    have h2 := h1 j (by simpa using hj)
    refine anc_listed hc k (predsL l k) (fun i hi => ?_) j (by simpa using h2)
    obtain ⟨e, h3, h4, rfl⟩ := (preds_of hk i).1 hi
    exact hp e h3 h4
theorem take_get {j : Nat} (hj : j < n) : (l.take n).toArray[j]? = l.toArray[j]? := by simp [List.getElem?_take, hj]
theorem closed_set {l : List Oper} {listed : Array Bool} {i : Nat} {o : Oper} (h : Closed l listed) (ho : l.toArray[i]? = some o) (hp : ∀ e ∈ o.after, Region.binds .any e = true → listed.getD e.on false = true) : Closed l (listed.setIfInBounds i true) := by
  have up : ∀ j, listed.getD j false = true → (listed.setIfInBounds i true).getD j false = true := fun j hj => by
    by_cases e : i = j
    · subst e
      have hlt : i < listed.size := by
        rcases Nat.lt_or_ge i listed.size with q | q
        · exact q
        · simp [Array.getD, Nat.not_lt.2 q] at hj
      simp [Array.getD, hlt]
    · rw [getD_set_ne false e]; exact hj
  intro k hk j hj
  apply up
  by_cases e : i = k
  · subst e
    obtain ⟨e, h3, h4, rfl⟩ := (preds_of ho j).1 hj
    exact hp e h3 h4
  · rw [getD_set_ne false e] at hk
    exact h k hk j hj
end
end Go.Proofs.Ythadlpkdfnonjaa
namespace Go.Proofs.Ythadlpkdfnonjaa
open Go.RowKit
set_option linter.unusedVariables false
set_option linter.unusedSimpArgs false
section
variable {P : Program} {l : List Oper} {n : Nat} {Q : Exit → Act → World → Prop} {R : Nat → Value → Prop} {a0 : Act} {J : Array Bool → World → Prop}
structure MonoK (ops : Array Oper) (R : Nat → Value → Prop) (a0 : Act) (J : Array Bool → World → Prop) (listed : Array Bool) (a : Act) (w : World) : Prop where
  inv : J listed w
  size : a.tmps.size = a0.tmps.size
  defers : a.defers = a0.defers
  keep : ∀ t, (∀ (j : Nat) (o : Oper), ops[j]? = some o → o.dst ≠ some t) → a.tmps[t]? = a0.tmps[t]?
  got : ∀ (j : Nat) (o : Oper) (d : Tmp), ops[j]? = some o → o.dst = some d → listed.getD j false = true → ∃ v, a.tmps[d]? = some v ∧ R j v
def MonoKS (P : Program) (ops : Array Oper) (R : Nat → Value → Prop) (a0 : Act) (J : Array Bool → World → Prop) (Q : Exit → Act → World → Prop) (i : Nat) (o : Oper) : Prop :=
  o.guard = none ∧ ∀ (a : Act) (w : World) (listed : Array Bool), J listed w → listed.getD i true = false → (∀ e ∈ o.after, Region.binds .any e = true → listed.getD e.on false = true) → a.tmps.size = a0.tmps.size → a.defers = a0.defers → (∀ t, (∀ (j : Nat) (o : Oper), ops[j]? = some o → o.dst ≠ some t) → a.tmps[t]? = a0.tmps[t]?) →
    (∀ e ∈ o.after, Region.binds .any e = true → ∀ (oj : Oper) (d : Tmp), ops[e.on]? = some oj → oj.dst = some d → ∃ v, a.tmps[d]? = some v ∧ R e.on v) →
    o.wp P a w (fun a' w' => ∃ v, a' = a.put o.dst v ∧ J (listed.setIfInBounds i true) w' ∧ (∀ d, o.dst = some d → R i v)) Q
theorem MonoK.step {ops : Array Oper} {listed : Array Bool} {a : Act} {w w' : World} {i : Nat} {o : Oper} {v : Value} (h : MonoK ops R a0 J listed a w) (hi : ops[i]? = some o)
    (hd : ∀ (i j : Nat) (oi oj : Oper) (d : Tmp), ops[i]? = some oi → ops[j]? = some oj → oi.dst = some d → oj.dst = some d → i = j) (hsz : ∀ (j : Nat) (oj : Oper) (d : Tmp), ops[j]? = some oj → oj.dst = some d → d < a0.tmps.size)
    (hJ : J (listed.setIfInBounds i true) w') (hR : ∀ d, o.dst = some d → R i v) : MonoK ops R a0 J (listed.setIfInBounds i true) (a.put o.dst v) w' := by
  obtain ⟨p1, p2, p3, p4⟩ := put_tmps a o.dst v
  refine ⟨hJ, p2.trans h.size, p1.trans h.defers, fun t ht => (p3 t (ht i o hi)).trans (h.keep t ht), fun j oj d hj hjd hl => ?_⟩
  by_cases hij : i = j
  · subst hij
    obtain rfl := Option.some.inj (hi.symm.trans hj)
    exact ⟨v, p4 d hjd (by rw [h.size]; exact hsz i o d hi hjd), hR d hjd⟩
  · rw [getD_set_ne false hij] at hl
    obtain ⟨u, hu, hr⟩ := h.got j oj d hj hjd hl
    exact ⟨u, (p3 d (fun e => hij (hd i j o oj d hi hj e hjd))).trans hu, hr⟩
theorem monoK_sound (hE : ∀ (i : Nat) (o : Oper), l.toArray[i]? = some o → ∀ e ∈ o.after, Region.binds .any e = true → e.on < i) (hW : ∀ (listed : Array Bool), Closed l listed → ∀ (k : Nat) (o : Oper), l.toArray[k]? = some o → n ≤ k → (∀ e ∈ o.after, Region.binds .any e = true → listed.getD e.on false = true) → ∀ j, j < n → listed.getD j false = true)
    (hnl : n ≤ l.length) (hseq : Region.seqB .any l.toArray (l.length - n) n (doneA l.length n) = true)
    (hd : ∀ (i j : Nat) (oi oj : Oper) (d : Tmp), (l.take n).toArray[i]? = some oi → (l.take n).toArray[j]? = some oj → oi.dst = some d → oj.dst = some d → i = j) (hsz : ∀ (j : Nat) (oj : Oper) (d : Tmp), (l.take n).toArray[j]? = some oj → oj.dst = some d → d < a0.tmps.size)
    (hS : ∀ (i : Nat) (o : Oper), (l.take n).toArray[i]? = some o → MonoKS P (l.take n).toArray R a0 J Q i o)
    (hend : ∀ (a : Act) (w : World) (listed : Array Bool), J listed w → (∀ j, j < n → listed.getD j false = true) → a.tmps.size = a0.tmps.size → a.defers = a0.defers → (∀ t, (∀ (j : Nat) (o : Oper), (l.take n).toArray[j]? = some o → o.dst ≠ some t) → a.tmps[t]? = a0.tmps[t]?) → (∀ (j : Nat) (o : Oper) (d : Tmp), (l.take n).toArray[j]? = some o → o.dst = some d → ∃ v, a.tmps[d]? = some v ∧ R j v) → wpList P l.toArray Q (l.drop n) a w) :
    ∀ (fuel : Nat) (listed : Array Bool) (a : Act) (w : World), listed.size = l.length → Closed l listed → left listed = fuel → (∀ j, n ≤ j → j < l.length → listed.getD j true = false) → MonoK (l.take n).toArray R a0 J listed a w → wpAny P .any l.toArray Q fuel listed a w := by
  intro fuel
  induction fuel with
  | zero =>
    intro listed a w hl hcl h0 hf hI
    by_cases hnn : n < l.length
    · have := left_set (hf n (Nat.le_refl _) hnn); omega
    · obtain rfl : n = l.length := by omega
      have hall : ∀ j, j < l.length → listed.getD j true = true := fun j hj => by
        cases hq : listed.getD j true with
        | true => rfl
        | false => have := left_set hq; omega
      have hall2 : ∀ j, j < l.length → listed.getD j false = true := fun j hj2 => by
        have := hall j hj2
        have hjl : j < listed.size := by omega
        simp only [Array.getD, hjl, dif_pos] at this ⊢
        exact this
      have e : listed = doneA l.length l.length := by
        apply Array.ext
        · simp [doneA, hl]
        · intro i h1 h2
          have := hall i (by omega)
          simp only [Array.getD, h1, dif_pos] at this
          simp [doneA, show i < l.length by omega]; exact this
      have hs := wpAny_of_seq (P := P) (Q' := Q) (md := .any) (ops := l.toArray) (l.drop l.length) l.length listed a w (fun j => by simp) (by simpa [e] using hseq) (hend a w listed hI.inv hall2 hI.size hI.defers hI.keep (fun j o d hj hjd => hI.got j o d hj hjd (hall2 j (by have := (Array.getElem?_eq_some_iff.1 hj).1; simpa using this))))
      simpa using hs
  | succ f ih =>
    intro listed a w hl hcl hf hT hI
    by_cases hdone : ∀ j, j < n → listed.getD j false = true
    · have e : listed = doneA l.length n := by
        apply Array.ext
        · simp [doneA, hl]
        · intro i h1 h2
          by_cases hi : i < n
          · have := hdone i hi
            simp only [Array.getD, h1, dif_pos] at this
            simp [doneA, hi]; exact this
          · have := hT i (by omega) (by omega)
            simp only [Array.getD, h1, dif_pos] at this
            simp [doneA, hi]; exact this
      have hfl : f + 1 = (l.drop n).length := by
        rw [← hf, e]
        unfold left doneA
        simp only [List.length_drop]
        have : ∀ len, n ≤ len → (((List.range len).map fun j => decide (j < n)).filter fun b => !b).length = len - n := fun len => by
          induction len with
          | zero => intro h; simp
          | succ m ihm =>
            intro h
            rw [List.range_succ, List.map_append, List.filter_append, List.length_append]
            by_cases hm : n ≤ m
            · rw [ihm hm]
              simp [show ¬ m < n by omega]; omega
            · obtain rfl : n = m + 1 := by omega
              have : ((List.range m).map fun j => decide (j < m + 1)).filter (fun b => !b) = [] := by
                rw [List.filter_eq_nil_iff]
                intro b hb
                obtain ⟨j, hj, rfl⟩ := List.mem_map.1 hb
                have : j < m := by simpa using hj
                simp; omega
              rw [this]
              simp
        exact this _ hnl
      rw [hfl]
      exact wpAny_of_seq (P := P) (Q' := Q) (md := .any) (ops := l.toArray) (l.drop n) n listed a w (fun j => by simp [List.getElem?_drop]) (by rw [e, List.length_drop]; exact hseq) (hend a w listed hI.inv hdone hI.size hI.defers hI.keep (fun j o d hj hjd => hI.got j o d hj hjd (hdone j (by have := (Array.getElem?_eq_some_iff.1 hj).1; simp at this; omega))))
    · have hready : ∀ i ∈ Region.ready .any l.toArray listed, i < n := fun i hi => by
        obtain ⟨hun, o, ho, hall⟩ := mem_ready.1 hi
        rcases Nat.lt_or_ge i n with h | h
        · exact h
        · exfalso
          apply hdone
          exact hW listed hcl i o ho h hall
      refine ⟨fun hr => ?_, fun i hi => ?_⟩
      · exfalso
        apply hdone
        intro j
        induction j using Nat.strongRecOn with
        | _ j ihj =>
          intro hj
          cases hq : listed.getD j true with
          | true =>
            have hjl : j < listed.size := by omega
            simp only [Array.getD, hjl, dif_pos] at hq ⊢
            exact hq
          | false =>
            have hjl : j < l.length := by omega
            have : j ∈ Region.ready .any l.toArray listed := mem_ready.2 ⟨hq, l[j], by simp [hjl], fun e he hb => by
              have hlt := hE j l[j] (by simp [hjl]) e he hb
              exact ihj e.on hlt (by omega)⟩
            rw [hr] at this
            cases this
      · have hin := hready i hi
        obtain ⟨hun, o, ho, hall⟩ := mem_ready.1 hi
        have ho2 : (l.take n).toArray[i]? = some o := by rw [take_get hin]; exact ho
        obtain ⟨hg, hs⟩ := hS i o ho2
        unfold wpOp
        simp only [ho]
        rw [if_pos (by simp [Region.wanted, hg])]
        left
        refine Oper.wp_mono ?_ (hs a w listed hI.inv hun hall hI.size hI.defers hI.keep (fun e he hb oj d hoj hdj => hI.got e.on oj d hoj hdj (hall e he hb)))
        rintro a' w' ⟨v, rfl, hJ, hR⟩
        refine ih _ _ _ (by simp [hl]) (closed_set hcl ho hall) (by have := left_set hun; omega) (fun j h1 h2 => ?_) (hI.step ho2 hd hsz hJ hR)
        rw [getD_set_ne true (by omega)]
        exact hT j h1 h2
theorem wp_region_monoK {id : Nat} {w0 : World} (n : Nat) (R : Nat → Value → Prop) (J : Array Bool → World → Prop) (hm : P.follows .mixedOrders = true) (N : Nat) (hn : a0.tmps.size = N) (hE : edgesB l = true) (hW : waitB l n = true) (hnl : decide (n ≤ l.length) = true) (hseq : Region.seqB .any l.toArray (l.length - n) n (doneA l.length n) = true) (hD : dstB (l.take n) N = true)
    (hJ0 : J (Array.replicate l.toArray.size false) { w0 with drawn := w0.drawn + 1 })
    (hS : allI (MonoKS P (l.take n).toArray R a0 J Q) 0 (l.take n))
    (hend : ∀ (a : Act) (w : World) (listed : Array Bool), J listed w → (∀ j, j < n → listed.getD j false = true) → a.tmps.size = a0.tmps.size → a.defers = a0.defers → (∀ t, (∀ (j : Nat) (o : Oper), (l.take n).toArray[j]? = some o → o.dst ≠ some t) → a.tmps[t]? = a0.tmps[t]?) → (∀ (j : Nat) (o : Oper) (d : Tmp), (l.take n).toArray[j]? = some o → o.dst = some d → ∃ v, a.tmps[d]? = some v ∧ R j v) → wpList P l.toArray Q (l.drop n) a w) :
    (Code.region id l.toArray true).wp P Q a0 w0 := by
  have hl : left (Array.replicate l.toArray.size false) = l.toArray.size := by unfold left; simp
  refine wp_region_any hm ?_
  have := monoK_sound (a0 := a0) (R := R) (J := J) (n := n) (Q := Q) (P := P) (edges_of hE) (wait_of hW) (by simpa using hnl) hseq (dst_one hD) (fun j oj d h1 h2 => by rw [hn]; exact dst_lt hD j oj d h1 h2) (allI_arr hS) hend (l.toArray.size) (Array.replicate l.toArray.size false) a0 { w0 with drawn := w0.drawn + 1 } (by simp) (fun i hi => by simp [Array.getD] at hi) hl (fun j h1 h2 => by simp [Array.getD, h2]) ⟨hJ0, rfl, rfl, fun t _ => rfl, fun j o d _ _ hq => by simp [Array.getD] at hq⟩
  exact this
/-- The world, by whether operation p and operation q have been done: q waits for p. -/
def PhJ (p q : Nat) (u0 u1 u2 : World) (listed : Array Bool) (w : World) : Prop :=
  p < listed.size ∧ q < listed.size ∧ (listed.getD q false = true → listed.getD p false = true) ∧ w = if listed.getD q false = true then u2 else if listed.getD p false = true then u1 else u0
theorem PhJ.cases {p q : Nat} {u0 u1 u2 : World} {listed : Array Bool} {w : World} (h : PhJ p q u0 u1 u2 listed w) : w = u0 ∨ w = u1 ∨ w = u2 := by
  obtain ⟨_, _, _, rfl⟩ := h
  by_cases a : listed.getD q false = true
  · exact .inr (.inr (if_pos a))
  · by_cases b : listed.getD p false = true
    · exact .inr (.inl ((if_neg a).trans (if_pos b)))
    · exact .inl ((if_neg a).trans (if_neg b))
theorem getD_tf {listed : Array Bool} {i : Nat} (h : listed.getD i true = false) : listed.getD i false = false ∧ i < listed.size := by
  rcases Nat.lt_or_ge i listed.size with q | q
  · simp only [Array.getD, q, dif_pos] at h ⊢; exact ⟨h, trivial⟩
  · simp [Array.getD, Nat.not_lt.2 q] at h
theorem getD_self {listed : Array Bool} {i : Nat} (h : i < listed.size) : (listed.setIfInBounds i true).getD i false = true := by simp [Array.getD, h]
end
end Go.Proofs.Ythadlpkdfnonjaa
namespace Go.Proofs.Ythadlpkdfnonjaa
open Go.RowKit
set_option linter.unusedVariables false
set_option linter.unusedSimpArgs false
section
variable {P : Program} {Q : Exit → Act → World → Prop} {R : Nat → Value → Prop} {a0 : Act}
/-- The world, by how many of the operations ps have been done, in their order. -/
def PhN (ps : List Nat) (us : Nat → World) (listed : Array Bool) (w : World) : Prop :=
  ∃ k, k ≤ ps.length ∧ w = us k ∧ ∀ i (h : i < ps.length), ps[i] < listed.size ∧ (listed.getD ps[i] false = true ↔ i < k)
theorem phN_start {ps : List Nat} {us : Nat → World} {n : Nat} (h : ∀ p ∈ ps, p < n) : PhN ps us (Array.replicate n false) (us 0) :=
  ⟨0, Nat.zero_le _, rfl, fun i hi => ⟨by simpa using h _ (List.getElem_mem hi), by simp [Array.getD]⟩⟩
theorem monoN_read {ops : Array Oper} {ps : List Nat} {us : Nat → World} {i : Nat} {o : Oper} (hg : o.guard = none) (hp : i ∉ ps)
    (h : ∀ (a : Act) (u : World), (∃ k, k ≤ ps.length ∧ u = us k) → (∀ t, (∀ (j : Nat) (o : Oper), ops[j]? = some o → o.dst ≠ some t) → a.tmps[t]? = a0.tmps[t]?) →
      (∀ e ∈ o.after, Region.binds .any e = true → ∀ (oj : Oper) (d : Tmp), ops[e.on]? = some oj → oj.dst = some d → ∃ v, a.tmps[d]? = some v ∧ R e.on v) → ∃ v, (execOp a.eval o).run P u = .ok (.value v) u ∧ R i v) : MonoKS P ops R a0 (PhN ps us) Q i o :=
  ⟨hg, fun a w listed hJ hu hall hsz hdf hk hgot => by
    obtain ⟨k, h1, h2, h3⟩ := hJ
    obtain ⟨v, hr, hR⟩ := h a w ⟨k, h1, h2⟩ hk hgot
    refine wp_value hr ⟨v, rfl, ⟨k, h1, h2, fun j hj => ?_⟩, fun _ _ => hR⟩
    obtain ⟨h4, h5⟩ := h3 j hj
    refine ⟨by simpa using h4, ?_⟩
    rw [getD_set_ne false (fun e => hp (by rw [e]; exact List.getElem_mem hj))]
    exact h5⟩
theorem phN_end {ps : List Nat} {us : Nat → World} {n : Nat} {listed : Array Bool} {w : World} (h : PhN ps us listed w) (hq : ∀ p ∈ ps, p < n) (hall : ∀ j, j < n → listed.getD j false = true) : w = us ps.length := by
  obtain ⟨k, h1, rfl, h3⟩ := h
  rcases Nat.eq_zero_or_pos ps.length with h0 | h0
  · congr 1; omega
  · have := (h3 (ps.length - 1) (by omega)).2.1 (hall _ (hq _ (List.getElem_mem _)))
    congr 1; omega
end
end Go.Proofs.Ythadlpkdfnonjaa
namespace Go.Proofs.Ythadlpkdfnonjaa
open Go.RowKit
set_option linter.unusedVariables false
set_option linter.unusedSimpArgs false
/-- As edgesB, of the edges that bind. -/
def edgesB2 (l : List Oper) : Bool := l.zipIdx.all fun x => x.1.after.all fun e => !Region.binds .any e || decide (e.on < x.2)
theorem edges_of2 {l : List Oper} (h : edgesB2 l = true) : ∀ (i : Nat) (o : Oper), l.toArray[i]? = some o → ∀ e ∈ o.after, Region.binds .any e = true → e.on < i := fun i o hi e he hb => by
  unfold edgesB2 at h
  rw [List.all_eq_true] at h
  have hm : (o, i) ∈ l.zipIdx := by
    rw [List.mem_zipIdx_iff_getElem?]
    simpa using hi
  have h2 := h _ hm
  rw [Array.all_eq_true_iff_forall_mem] at h2
  have h3 := h2 e he
  rw [hb] at h3
  simpa using h3
section
variable {P : Program} {l : List Oper} {n : Nat} {Q : Exit → Act → World → Prop} {R : Nat → Value → Prop} {a0 : Act} {J : Array Bool → World → Prop}
theorem wp_region_monoK2 {id : Nat} {w0 : World} (n : Nat) (R : Nat → Value → Prop) (J : Array Bool → World → Prop) (hm : P.follows .mixedOrders = true) (N : Nat) (hn : a0.tmps.size = N) (hE : edgesB2 l = true) (hW : waitB l n = true) (hnl : decide (n ≤ l.length) = true) (hseq : Region.seqB .any l.toArray (l.length - n) n (doneA l.length n) = true) (hD : dstB (l.take n) N = true)
    (hJ0 : J (Array.replicate l.toArray.size false) { w0 with drawn := w0.drawn + 1 })
    (hS : allI (MonoKS P (l.take n).toArray R a0 J Q) 0 (l.take n))
    (hend : ∀ (a : Act) (w : World) (listed : Array Bool), J listed w → (∀ j, j < n → listed.getD j false = true) → a.tmps.size = a0.tmps.size → a.defers = a0.defers → (∀ t, (∀ (j : Nat) (o : Oper), (l.take n).toArray[j]? = some o → o.dst ≠ some t) → a.tmps[t]? = a0.tmps[t]?) → (∀ (j : Nat) (o : Oper) (d : Tmp), (l.take n).toArray[j]? = some o → o.dst = some d → ∃ v, a.tmps[d]? = some v ∧ R j v) → wpList P l.toArray Q (l.drop n) a w) :
    (Code.region id l.toArray true).wp P Q a0 w0 := by
  have hl : left (Array.replicate l.toArray.size false) = l.toArray.size := by unfold left; simp
  refine wp_region_any hm ?_
  have := monoK_sound (a0 := a0) (R := R) (J := J) (n := n) (Q := Q) (P := P) (edges_of2 hE) (wait_of hW) (by simpa using hnl) hseq (dst_one hD) (fun j oj d h1 h2 => by rw [hn]; exact dst_lt hD j oj d h1 h2) (allI_arr hS) hend (l.toArray.size) (Array.replicate l.toArray.size false) a0 { w0 with drawn := w0.drawn + 1 } (by simp) (fun i hi => by simp [Array.getD] at hi) hl (fun j h1 h2 => by simp [Array.getD, h2]) ⟨hJ0, rfl, rfl, fun t _ => rfl, fun j o d _ _ hq => by simp [Array.getD] at hq⟩
  exact this
end
section
variable {P : Program} {l : List Oper} {n : Nat} {Q : Exit → Act → World → Prop} {R : Nat → World → Value → Prop} {a0 : Act} {w0 : World}
end
section
variable {P : Program} {Q : Exit → Act → World → Prop} {R : Nat → Value → Prop} {a0 : Act} {F A B : World → Prop} {p : Nat}
end
end Go.Proofs.Ythadlpkdfnonjaa
namespace Go.Proofs.Ythadlpkdfnonjaa
open Go.RowKit
set_option linter.unusedVariables false
set_option linter.unusedSimpArgs false
section
variable {P : Program} {l : List Oper} {n : Nat} {Q : Exit → Act → World → Prop} {R : Nat → Value → Prop} {a0 : Act} {J : Array Bool → Act → World → Prop}
structure MonoV (ops : Array Oper) (R : Nat → Value → Prop) (a0 : Act) (J : Array Bool → Act → World → Prop) (listed : Array Bool) (a : Act) (w : World) : Prop where
  inv : J listed a w
  size : a.tmps.size = a0.tmps.size
  defers : a.defers = a0.defers
  keep : ∀ t, (∀ (j : Nat) (o : Oper), ops[j]? = some o → o.dst ≠ some t) → a.tmps[t]? = a0.tmps[t]?
  got : ∀ (j : Nat) (o : Oper) (d : Tmp), ops[j]? = some o → o.dst = some d → listed.getD j false = true → ∃ v, a.tmps[d]? = some v ∧ R j v
def MonoVS (P : Program) (ops : Array Oper) (R : Nat → Value → Prop) (a0 : Act) (J : Array Bool → Act → World → Prop) (Q : Exit → Act → World → Prop) (i : Nat) (o : Oper) : Prop :=
  o.guard = none ∧ ∀ (a : Act) (w : World) (listed : Array Bool), J listed a w → listed.getD i true = false → (∀ e ∈ o.after, Region.binds .any e = true → listed.getD e.on false = true) → a.tmps.size = a0.tmps.size → a.defers = a0.defers → (∀ t, (∀ (j : Nat) (o : Oper), ops[j]? = some o → o.dst ≠ some t) → a.tmps[t]? = a0.tmps[t]?) →
    (∀ e ∈ o.after, Region.binds .any e = true → ∀ (oj : Oper) (d : Tmp), ops[e.on]? = some oj → oj.dst = some d → ∃ v, a.tmps[d]? = some v ∧ R e.on v) →
    o.wp P a w (fun a' w' => ∃ v, a' = a.put o.dst v ∧ J (listed.setIfInBounds i true) (a.put o.dst v) w' ∧ (∀ d, o.dst = some d → R i v)) Q
theorem MonoV.step {ops : Array Oper} {listed : Array Bool} {a : Act} {w w' : World} {i : Nat} {o : Oper} {v : Value} (h : MonoV ops R a0 J listed a w) (hi : ops[i]? = some o)
    (hd : ∀ (i j : Nat) (oi oj : Oper) (d : Tmp), ops[i]? = some oi → ops[j]? = some oj → oi.dst = some d → oj.dst = some d → i = j) (hsz : ∀ (j : Nat) (oj : Oper) (d : Tmp), ops[j]? = some oj → oj.dst = some d → d < a0.tmps.size)
    (hJ : J (listed.setIfInBounds i true) (a.put o.dst v) w') (hR : ∀ d, o.dst = some d → R i v) : MonoV ops R a0 J (listed.setIfInBounds i true) (a.put o.dst v) w' := by
  obtain ⟨p1, p2, p3, p4⟩ := put_tmps a o.dst v
  refine ⟨hJ, p2.trans h.size, p1.trans h.defers, fun t ht => (p3 t (ht i o hi)).trans (h.keep t ht), fun j oj d hj hjd hl => ?_⟩
  by_cases hij : i = j
  · subst hij
    obtain rfl := Option.some.inj (hi.symm.trans hj)
    exact ⟨v, p4 d hjd (by rw [h.size]; exact hsz i o d hi hjd), hR d hjd⟩
  · rw [getD_set_ne false hij] at hl
    obtain ⟨u, hu, hr⟩ := h.got j oj d hj hjd hl
    exact ⟨u, (p3 d (fun e => hij (hd i j o oj d hi hj e hjd))).trans hu, hr⟩
theorem monoV_sound (hE : ∀ (i : Nat) (o : Oper), l.toArray[i]? = some o → ∀ e ∈ o.after, Region.binds .any e = true → e.on < i) (hW : ∀ (listed : Array Bool), Closed l listed → ∀ (k : Nat) (o : Oper), l.toArray[k]? = some o → n ≤ k → (∀ e ∈ o.after, Region.binds .any e = true → listed.getD e.on false = true) → ∀ j, j < n → listed.getD j false = true)
    (hnl : n ≤ l.length) (hseq : Region.seqB .any l.toArray (l.length - n) n (doneA l.length n) = true)
    (hd : ∀ (i j : Nat) (oi oj : Oper) (d : Tmp), (l.take n).toArray[i]? = some oi → (l.take n).toArray[j]? = some oj → oi.dst = some d → oj.dst = some d → i = j) (hsz : ∀ (j : Nat) (oj : Oper) (d : Tmp), (l.take n).toArray[j]? = some oj → oj.dst = some d → d < a0.tmps.size)
    (hS : ∀ (i : Nat) (o : Oper), (l.take n).toArray[i]? = some o → MonoVS P (l.take n).toArray R a0 J Q i o)
    (hend : ∀ (a : Act) (w : World) (listed : Array Bool), J listed a w → (∀ j, j < n → listed.getD j false = true) → a.tmps.size = a0.tmps.size → a.defers = a0.defers → (∀ t, (∀ (j : Nat) (o : Oper), (l.take n).toArray[j]? = some o → o.dst ≠ some t) → a.tmps[t]? = a0.tmps[t]?) → (∀ (j : Nat) (o : Oper) (d : Tmp), (l.take n).toArray[j]? = some o → o.dst = some d → ∃ v, a.tmps[d]? = some v ∧ R j v) → wpList P l.toArray Q (l.drop n) a w) :
    ∀ (fuel : Nat) (listed : Array Bool) (a : Act) (w : World), listed.size = l.length → Closed l listed → left listed = fuel → (∀ j, n ≤ j → j < l.length → listed.getD j true = false) → MonoV (l.take n).toArray R a0 J listed a w → wpAny P .any l.toArray Q fuel listed a w := by
  intro fuel
  induction fuel with
  | zero =>
    intro listed a w hl hcl h0 hf hI
    by_cases hnn : n < l.length
    · have := left_set (hf n (Nat.le_refl _) hnn); omega
    · obtain rfl : n = l.length := by omega
      have hall : ∀ j, j < l.length → listed.getD j true = true := fun j hj => by
        cases hq : listed.getD j true with
        | true => rfl
        | false => have := left_set hq; omega
      have hall2 : ∀ j, j < l.length → listed.getD j false = true := fun j hj2 => by
        have := hall j hj2
        have hjl : j < listed.size := by omega
        simp only [Array.getD, hjl, dif_pos] at this ⊢
        exact this
      have e : listed = doneA l.length l.length := by
        apply Array.ext
        · simp [doneA, hl]
        · intro i h1 h2
          have := hall i (by omega)
          simp only [Array.getD, h1, dif_pos] at this
          simp [doneA, show i < l.length by omega]; exact this
      have hs := wpAny_of_seq (P := P) (Q' := Q) (md := .any) (ops := l.toArray) (l.drop l.length) l.length listed a w (fun j => by simp) (by simpa [e] using hseq) (hend a w listed hI.inv hall2 hI.size hI.defers hI.keep (fun j o d hj hjd => hI.got j o d hj hjd (hall2 j (by have := (Array.getElem?_eq_some_iff.1 hj).1; simpa using this))))
      simpa using hs
  | succ f ih =>
    intro listed a w hl hcl hf hT hI
    by_cases hdone : ∀ j, j < n → listed.getD j false = true
    · have e : listed = doneA l.length n := by
        apply Array.ext
        · simp [doneA, hl]
        · intro i h1 h2
          by_cases hi : i < n
          · have := hdone i hi
            simp only [Array.getD, h1, dif_pos] at this
            simp [doneA, hi]; exact this
          · have := hT i (by omega) (by omega)
            simp only [Array.getD, h1, dif_pos] at this
            simp [doneA, hi]; exact this
      have hfl : f + 1 = (l.drop n).length := by
        rw [← hf, e]
        unfold left doneA
        simp only [List.length_drop]
        have : ∀ len, n ≤ len → (((List.range len).map fun j => decide (j < n)).filter fun b => !b).length = len - n := fun len => by
          induction len with
          | zero => intro h; simp
          | succ m ihm =>
            intro h
            rw [List.range_succ, List.map_append, List.filter_append, List.length_append]
            by_cases hm : n ≤ m
            · rw [ihm hm]
              simp [show ¬ m < n by omega]; omega
            · obtain rfl : n = m + 1 := by omega
              have : ((List.range m).map fun j => decide (j < m + 1)).filter (fun b => !b) = [] := by
                rw [List.filter_eq_nil_iff]
                intro b hb
                obtain ⟨j, hj, rfl⟩ := List.mem_map.1 hb
                have : j < m := by simpa using hj
                simp; omega
              rw [this]
              simp
        exact this _ hnl
      rw [hfl]
      exact wpAny_of_seq (P := P) (Q' := Q) (md := .any) (ops := l.toArray) (l.drop n) n listed a w (fun j => by simp [List.getElem?_drop]) (by rw [e, List.length_drop]; exact hseq) (hend a w listed hI.inv hdone hI.size hI.defers hI.keep (fun j o d hj hjd => hI.got j o d hj hjd (hdone j (by have := (Array.getElem?_eq_some_iff.1 hj).1; simp at this; omega))))
    · have hready : ∀ i ∈ Region.ready .any l.toArray listed, i < n := fun i hi => by
        obtain ⟨hun, o, ho, hall⟩ := mem_ready.1 hi
        rcases Nat.lt_or_ge i n with h | h
        · exact h
        · exfalso
          apply hdone
          exact hW listed hcl i o ho h hall
      refine ⟨fun hr => ?_, fun i hi => ?_⟩
      · exfalso
        apply hdone
        intro j
        induction j using Nat.strongRecOn with
        | _ j ihj =>
          intro hj
          cases hq : listed.getD j true with
          | true =>
            have hjl : j < listed.size := by omega
            simp only [Array.getD, hjl, dif_pos] at hq ⊢
            exact hq
          | false =>
            have hjl : j < l.length := by omega
            have : j ∈ Region.ready .any l.toArray listed := mem_ready.2 ⟨hq, l[j], by simp [hjl], fun e he hb => by
              have hlt := hE j l[j] (by simp [hjl]) e he hb
              exact ihj e.on hlt (by omega)⟩
            rw [hr] at this
            cases this
      · have hin := hready i hi
        obtain ⟨hun, o, ho, hall⟩ := mem_ready.1 hi
        have ho2 : (l.take n).toArray[i]? = some o := by rw [take_get hin]; exact ho
        obtain ⟨hg, hs⟩ := hS i o ho2
        unfold wpOp
        simp only [ho]
        rw [if_pos (by simp [Region.wanted, hg])]
        left
        refine Oper.wp_mono ?_ (hs a w listed hI.inv hun hall hI.size hI.defers hI.keep (fun e he hb oj d hoj hdj => hI.got e.on oj d hoj hdj (hall e he hb)))
        rintro a' w' ⟨v, rfl, hJ, hR⟩
        refine ih _ _ _ (by simp [hl]) (closed_set hcl ho hall) (by have := left_set hun; omega) (fun j h1 h2 => ?_) (hI.step ho2 hd hsz hJ hR)
        rw [getD_set_ne true (by omega)]
        exact hT j h1 h2
theorem wp_region_monoV {id : Nat} {w0 : World} (n : Nat) (R : Nat → Value → Prop) (J : Array Bool → Act → World → Prop) (hm : P.follows .mixedOrders = true) (N : Nat) (hn : a0.tmps.size = N) (hE : edgesB2 l = true) (hW : waitB l n = true) (hnl : decide (n ≤ l.length) = true) (hseq : Region.seqB .any l.toArray (l.length - n) n (doneA l.length n) = true) (hD : dstB (l.take n) N = true)
    (hJ0 : J (Array.replicate l.toArray.size false) a0 { w0 with drawn := w0.drawn + 1 })
    (hS : allI (MonoVS P (l.take n).toArray R a0 J Q) 0 (l.take n))
    (hend : ∀ (a : Act) (w : World) (listed : Array Bool), J listed a w → (∀ j, j < n → listed.getD j false = true) → a.tmps.size = a0.tmps.size → a.defers = a0.defers → (∀ t, (∀ (j : Nat) (o : Oper), (l.take n).toArray[j]? = some o → o.dst ≠ some t) → a.tmps[t]? = a0.tmps[t]?) → (∀ (j : Nat) (o : Oper) (d : Tmp), (l.take n).toArray[j]? = some o → o.dst = some d → ∃ v, a.tmps[d]? = some v ∧ R j v) → wpList P l.toArray Q (l.drop n) a w) :
    (Code.region id l.toArray true).wp P Q a0 w0 := by
  have hl : left (Array.replicate l.toArray.size false) = l.toArray.size := by unfold left; simp
  refine wp_region_any hm ?_
  have := monoV_sound (a0 := a0) (R := R) (J := J) (n := n) (Q := Q) (P := P) (edges_of2 hE) (wait_of hW) (by simpa using hnl) hseq (dst_one hD) (fun j oj d h1 h2 => by rw [hn]; exact dst_lt hD j oj d h1 h2) (allI_arr hS) hend (l.toArray.size) (Array.replicate l.toArray.size false) a0 { w0 with drawn := w0.drawn + 1 } (by simp) (fun i hi => by simp [Array.getD] at hi) hl (fun j h1 h2 => by simp [Array.getD, h2]) ⟨hJ0, rfl, rfl, fun t _ => rfl, fun j o d _ _ hq => by simp [Array.getD] at hq⟩
  exact this
end
end Go.Proofs.Ythadlpkdfnonjaa
