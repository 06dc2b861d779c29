/- A region in any order whose operations may make blocks, and call what makes blocks: if what is known of each slot stays true in every later world, then behind the region it is known of all of them, whatever the order was. No program is imported. -/
import Derived.Test.YtbehobojgeganaaHeld
namespace Go.Proofs.Ytbehobojgeganaa
open Go.RowKit
set_option linter.unusedVariables false
set_option linter.unusedSimpArgs false
section
variable {P : Program} {md : Region.Mode} {ops : Array Oper} {Q : Exit → Act → World → Prop} {R : Nat → World → Value → Prop} {a0 : Act} {w0 : World}
/-- What the operations that are done have left. -/
structure MonoI (ops : Array Oper) (R : Nat → World → Value → Prop) (a0 : Act) (w0 : World) (listed : Array Bool) (a : Act) (w : World) : Prop where
  bel : Below w0.heap.size w0 w
  size : a.tmps.size = a0.tmps.size
  defers : a.defers = a0.defers
  keep : ∀ t, (∀ (j : Nat) (o : Oper), ops[j]? = some o → o.dst ≠ some t) → a.tmps[t]? = a0.tmps[t]?
  got : ∀ (j : Nat) (o : Oper) (d : Tmp), ops[j]? = some o → o.dst = some d → listed.getD j false = true → ∃ v, a.tmps[d]? = some v ∧ R j w v
/-- An operation, once those that it waits for are done. -/
def MonoS (P : Program) (md : Region.Mode) (ops : Array Oper) (R : Nat → World → Value → Prop) (a0 : Act) (w0 : World) (Q : Exit → Act → World → Prop) (i : Nat) (o : Oper) : Prop :=
  o.guard = none ∧ ∀ (a : Act) (w : World), Below w0.heap.size w0 w → a.tmps.size = a0.tmps.size → a.defers = a0.defers → (∀ t, (∀ (j : Nat) (o : Oper), ops[j]? = some o → o.dst ≠ some t) → a.tmps[t]? = a0.tmps[t]?) →
    (∀ e ∈ o.after, Region.binds md e = true → ∀ (oj : Oper) (d : Tmp), ops[e.on]? = some oj → oj.dst = some d → ∃ v, a.tmps[d]? = some v ∧ R e.on w v) →
    o.wp P a w (fun a' w' => ∃ v, a' = a.put o.dst v ∧ Below w.heap.size w w' ∧ (∀ d, o.dst = some d → R i w' v)) Q
theorem put_tmps (a : Act) (d : Option Tmp) (v : Value) : (a.put d v).defers = a.defers ∧ (a.put d v).tmps.size = a.tmps.size ∧ (∀ t, d ≠ some t → (a.put d v).tmps[t]? = a.tmps[t]?) ∧ (∀ t, d = some t → t < a.tmps.size → (a.put d v).tmps[t]? = some v) := by
  cases d with
  | none => exact ⟨rfl, rfl, fun t _ => rfl, fun t h => by cases h⟩
  | some t0 =>
    refine ⟨rfl, by simp [Act.put], fun t h => ?_, fun t h ht => ?_⟩
    · have : t0 ≠ t := fun e => h (by rw [e])
      simp [Act.put, Array.getElem?_setIfInBounds_ne this]
    · cases h
      simp [Act.put, ht]
theorem MonoI.step {listed : Array Bool} {a : Act} {w w' : World} {i : Nat} {o : Oper} {v : Value} (h : MonoI ops R a0 w0 listed a w) (hi : ops[i]? = some o)
    (hmono : ∀ (j : Nat) (w w' : World) (v : Value), Below w.heap.size w w' → R j w v → R j w' v) (hd : ∀ (i j : Nat) (oi oj : Oper) (d : Tmp), ops[i]? = some oi → ops[j]? = some oj → oi.dst = some d → oj.dst = some d → i = j) (hsz : ∀ (j : Nat) (oj : Oper) (d : Tmp), ops[j]? = some oj → oj.dst = some d → d < a0.tmps.size)
    (hB : Below w.heap.size w w') (hR : ∀ d, o.dst = some d → R i w' v) : MonoI ops R a0 w0 (listed.setIfInBounds i true) (a.put o.dst v) w' := by
  obtain ⟨p1, p2, p3, p4⟩ := put_tmps a o.dst v
  refine ⟨h.bel.trans (hB.mono h.bel.size), p2.trans h.size, p1.trans h.defers, fun t ht => (p3 t (ht i o hi)).trans (h.keep t ht), fun j oj d hj hjd hl => ?_⟩
  by_cases hij : i = j
  · subst hij
    obtain rfl := Option.some.inj (hi.symm.trans hj)
    exact ⟨v, p4 d hjd (by rw [h.size]; exact hsz i o d hi hjd), hR d hjd⟩
  · rw [getD_set_ne false hij] at hl
    obtain ⟨u, hu, hr⟩ := h.got j oj d hj hjd hl
    refine ⟨u, (p3 d (fun e => hij (hd i j o oj d hi hj e hjd))).trans hu, hmono j w w' u hB hr⟩
/-- How many operations are not done yet. -/
def left (listed : Array Bool) : Nat := (listed.toList.filter fun b => !b).length
theorem left_set {listed : Array Bool} {i : Nat} (h : listed.getD i true = false) : left (listed.setIfInBounds i true) + 1 = left listed := by
  unfold left
  have hi : i < listed.size := by
    rcases Nat.lt_or_ge i listed.size with q | q
    · exact q
    · simp [Array.getD, Nat.not_lt.2 q] at h
  have hv : listed[i] = false := by simpa [Array.getD, hi] using h
  have hl : i < listed.toList.length := by simpa using hi
  have e1 : listed.toList = listed.toList.take i ++ false :: listed.toList.drop (i + 1) := by
    have := List.take_append_drop i listed.toList
    rw [List.drop_eq_getElem_cons hl] at this
    have hv2 : listed.toList[i] = false := by simpa using hv
    rw [hv2] at this
    exact this.symm
  have e2 : (listed.setIfInBounds i true).toList = listed.toList.take i ++ true :: listed.toList.drop (i + 1) := by
    rw [Array.toList_setIfInBounds, List.set_eq_take_append_cons_drop, if_pos hl]
  rw [e2]
  conv => rhs; rw [e1]
  simp [List.filter_append, List.filter_cons]
  omega
theorem all_done {listed : Array Bool} (hlen : listed.size = ops.size) (hE : ∀ (i : Nat) (o : Oper), ops[i]? = some o → ∀ e ∈ o.after, Region.binds md e = true → e.on < i) (h : Region.ready md ops listed = []) : ∀ i, i < ops.size → listed.getD i false = true := fun i => by
  induction i using Nat.strongRecOn with
  | _ i ih =>
    intro hi
    cases hq : listed.getD i true with
    | true =>
      have hil : i < listed.size := by omega
      simp only [Array.getD, hil, dif_pos] at hq ⊢
      exact hq
    | false =>
      have : i ∈ Region.ready md ops listed := mem_ready.2 ⟨hq, ops[i], by simp [hi], fun e he hb => by
        have hlt := hE i ops[i] (by simp [hi]) e he hb
        exact ih e.on hlt (by omega)⟩
      rw [h] at this
      cases this
theorem mono_sound (hE : ∀ (i : Nat) (o : Oper), ops[i]? = some o → ∀ e ∈ o.after, Region.binds md e = true → e.on < i)
    (hmono : ∀ (j : Nat) (w w' : World) (v : Value), Below w.heap.size w w' → R j w v → R j w' v) (hd : ∀ (i j : Nat) (oi oj : Oper) (d : Tmp), ops[i]? = some oi → ops[j]? = some oj → oi.dst = some d → oj.dst = some d → i = j) (hsz : ∀ (j : Nat) (oj : Oper) (d : Tmp), ops[j]? = some oj → oj.dst = some d → d < a0.tmps.size)
    (hS : ∀ (i : Nat) (o : Oper), ops[i]? = some o → MonoS P md ops R a0 w0 Q i o)
    (hend : ∀ (a : Act) (w : World), Below w0.heap.size w0 w → a.tmps.size = a0.tmps.size → a.defers = a0.defers → (∀ t, (∀ (j : Nat) (o : Oper), ops[j]? = some o → o.dst ≠ some t) → a.tmps[t]? = a0.tmps[t]?) → (∀ (j : Nat) (o : Oper) (d : Tmp), ops[j]? = some o → o.dst = some d → ∃ v, a.tmps[d]? = some v ∧ R j w v) → Q .normal a w) :
    ∀ (fuel : Nat) (listed : Array Bool) (a : Act) (w : World), listed.size = ops.size → left listed ≤ fuel → MonoI ops R a0 w0 listed a w → wpAny P md ops Q fuel listed a w := by
  have fin : ∀ (listed : Array Bool) (a : Act) (w : World), listed.size = ops.size → MonoI ops R a0 w0 listed a w → Region.ready md ops listed = [] → Q .normal a w := fun listed a w hl hI hr => by
    have hall := all_done hl hE hr
    exact hend a w hI.bel hI.size hI.defers hI.keep (fun j o d hj hjd => hI.got j o d hj hjd (hall j (Array.getElem?_eq_some_iff.1 hj).1))
  intro fuel
  induction fuel with
  | zero =>
    intro listed a w hl h0 hI
    have hr : Region.ready md ops listed = [] := by
      rw [List.eq_nil_iff_forall_not_mem]
      intro i hi
      have := left_set (mem_ready.1 hi).1
      omega
    exact ⟨hr, fin listed a w hl hI hr⟩
  | succ f ih =>
    intro listed a w hl hf hI
    refine ⟨fin listed a w hl hI, fun i hi => ?_⟩
    obtain ⟨hun, o, ho, hall⟩ := mem_ready.1 hi
    obtain ⟨hg, hs⟩ := hS i o ho
    unfold wpOp
    simp only [ho]
    rw [if_pos (by simp [Region.wanted, hg])]
    left
    refine Oper.wp_mono ?_ (hs a w hI.bel hI.size hI.defers hI.keep (fun e he hb oj d hoj hdj => hI.got e.on oj d hoj hdj (hall e he hb)))
    rintro a' w' ⟨v, rfl, hB, hR⟩
    refine ih _ _ _ (by simp [hl]) (by have := left_set hun; omega) (hI.step ho hmono hd hsz hB hR)
/-- The rule. -/
theorem wp_region_mono {id : Nat} (R : Nat → World → Value → Prop) (hm : P.follows .mixedOrders = true) (hE : ∀ (i : Nat) (o : Oper), ops[i]? = some o → ∀ e ∈ o.after, Region.binds .any e = true → e.on < i)
    (hmono : ∀ (j : Nat) (w w' : World) (v : Value), Below w.heap.size w w' → R j w v → R j w' v) (hd : ∀ (i j : Nat) (oi oj : Oper) (d : Tmp), ops[i]? = some oi → ops[j]? = some oj → oi.dst = some d → oj.dst = some d → i = j) (hsz : ∀ (j : Nat) (oj : Oper) (d : Tmp), ops[j]? = some oj → oj.dst = some d → d < a0.tmps.size)
    (hS : ∀ (i : Nat) (o : Oper), ops[i]? = some o → MonoS P .any ops R a0 w0 Q i o)
    (hend : ∀ (a : Act) (w : World), Below w0.heap.size w0 w → a.tmps.size = a0.tmps.size → a.defers = a0.defers → (∀ t, (∀ (j : Nat) (o : Oper), ops[j]? = some o → o.dst ≠ some t) → a.tmps[t]? = a0.tmps[t]?) → (∀ (j : Nat) (o : Oper) (d : Tmp), ops[j]? = some o → o.dst = some d → ∃ v, a.tmps[d]? = some v ∧ R j w v) → Q .normal a w) :
    (Code.region id ops true).wp P Q a0 w0 := by
  refine wp_region_any hm (mono_sound (a0 := a0) (w0 := w0) (R := R) hE hmono hd hsz hS hend _ _ _ _ (by simp) (by unfold left; simp) ⟨bel_dr (Below.refl _ _) _, rfl, rfl, fun t _ => rfl, fun j o d _ _ hl => ?_⟩)
  simp [Array.getD] at hl
/-- Each operation of a list, with its number. -/
def allI (X : Nat → Oper → Prop) : Nat → List Oper → Prop
  | _, [] => True
  | k, o :: l => X k o ∧ allI X (k + 1) l
theorem allI_get {X : Nat → Oper → Prop} : ∀ (l : List Oper) (k : Nat), allI X k l → ∀ (i : Nat) (o : Oper), l[i]? = some o → X (k + i) o
  | [], _, _, i, o, h => by simp at h
  | x :: l, k, ⟨h1, h2⟩, i, o, h => by
    cases i with
    | zero => simp at h; subst h; exact h1
    | succ i =>
      have := allI_get l (k + 1) h2 i o (by simpa using h)
      rw [show k + (i + 1) = k + 1 + i by omega]; exact this
theorem allI_arr {X : Nat → Oper → Prop} {l : List Oper} (h : allI X 0 l) : ∀ (i : Nat) (o : Oper), l.toArray[i]? = some o → X i o := fun i o hi => by
  have := allI_get l 0 h i o (by simpa using hi)
  rwa [Nat.zero_add] at this
/-- Do the edges go back, are the slots apart and within the frame, is nothing guarded? (closed facts) -/
def edgesB (l : List Oper) : Bool := l.zipIdx.all fun x => x.1.after.all fun e => decide (e.on < x.2)
def dstB (l : List Oper) (n : Nat) : Bool := (l.filterMap (·.dst)).all (fun d => decide (d < n)) && decide (l.filterMap (·.dst)).Nodup
theorem edges_of {l : List Oper} (h : edgesB l = true) : ∀ (i : Nat) (o : Oper), l.toArray[i]? = some o → ∀ e ∈ o.after, Region.binds .any e = true → e.on < i := fun i o hi e he _ => by
  unfold edgesB at h
  rw [List.all_eq_true] at h
  have hm : (o, i) ∈ l.zipIdx := by
    rw [List.mem_zipIdx_iff_getElem?]
    simpa using hi
  have := h _ hm
  rw [Array.all_eq_true_iff_forall_mem] at this
  simpa using this e he
theorem dst_lt {l : List Oper} {n : Nat} (h : dstB l n = true) : ∀ (j : Nat) (oj : Oper) (d : Tmp), l.toArray[j]? = some oj → oj.dst = some d → d < n := fun j oj d hj hd => by
  unfold dstB at h
  simp only [Bool.and_eq_true, List.all_eq_true] at h
  have hm : d ∈ l.filterMap (·.dst) := List.mem_filterMap.2 ⟨oj, List.mem_of_getElem? (by simpa using hj), hd⟩
  simpa using h.1 d hm
theorem dst_one {l : List Oper} {n : Nat} (h : dstB l n = true) : ∀ (i j : Nat) (oi oj : Oper) (d : Tmp), l.toArray[i]? = some oi → l.toArray[j]? = some oj → oi.dst = some d → oj.dst = some d → i = j := by
  unfold dstB at h
  simp only [Bool.and_eq_true, decide_eq_true_eq] at h
  have hn := h.2
  clear h
  intro i j oi oj d hi hj hdi hdj
  replace hi : l[i]? = some oi := by simpa using hi
  replace hj : l[j]? = some oj := by simpa using hj
  induction l generalizing i j with
  | nil => simp at hi
  | cons x l ih =>
    have hmem : ∀ (k : Nat) (o : Oper), l[k]? = some o → o.dst = some d → d ∈ l.filterMap (·.dst) := fun k o hk hd => List.mem_filterMap.2 ⟨o, List.mem_of_getElem? hk, hd⟩
    have hn2 : (l.filterMap (·.dst)).Nodup := by
      cases hx : x.dst with
      | none => rw [List.filterMap_cons_none hx] at hn; exact hn
      | some y => rw [List.filterMap_cons_some hx] at hn; exact (List.nodup_cons.1 hn).2
    have hno : x.dst = some d → d ∉ l.filterMap (·.dst) := fun hx => by
      rw [List.filterMap_cons_some hx] at hn; exact (List.nodup_cons.1 hn).1
    cases i with
    | zero =>
      cases j with
      | zero => rfl
      | succ j =>
        simp at hi; subst hi
        exact absurd (hmem j oj (by simpa using hj) hdj) (hno hdi)
    | succ i =>
      cases j with
      | zero =>
        simp at hj; subst hj
        exact absurd (hmem i oi (by simpa using hi) hdi) (hno hdj)
      | succ j => rw [ih hn2 i j (by simpa using hi) (by simpa using hj)]
theorem eval_tmp {a : Act} {d : Tmp} {v : Value} (h : a.tmps[d]? = some v) : a.eval (.tmp d) = v := by
  simp [Act.eval, h]
/-- An operation that makes a value, and perhaps blocks. -/
theorem mono_val {i : Nat} {o : Oper} (hg : o.guard = none) (h : ∀ (a : Act) (w : World), Below w0.heap.size w0 w → (∀ t, (∀ (j : Nat) (o : Oper), ops[j]? = some o → o.dst ≠ some t) → a.tmps[t]? = a0.tmps[t]?) →
    (∀ e ∈ o.after, Region.binds md e = true → ∀ (oj : Oper) (d : Tmp), ops[e.on]? = some oj → oj.dst = some d → ∃ v, a.tmps[d]? = some v ∧ R e.on w v) → ∃ v w', (execOp a.eval o).run P w = .ok (.value v) w' ∧ Below w.heap.size w w' ∧ (∀ d, o.dst = some d → R i w' v)) : MonoS P md ops R a0 w0 Q i o :=
  ⟨hg, fun a w hB _ _ hk hp => by
    obtain ⟨v, w', hr, hb, hR⟩ := h a w hB hk hp
    exact wp_value hr ⟨v, rfl, hb, hR⟩⟩
/-- A call. -/
theorem mono_call {i : Nat} {o : Oper} (hg : o.guard = none) (h : ∀ (a : Act) (w : World), Below w0.heap.size w0 w → (∀ t, (∀ (j : Nat) (o : Oper), ops[j]? = some o → o.dst ≠ some t) → a.tmps[t]? = a0.tmps[t]?) →
    (∀ e ∈ o.after, Region.binds md e = true → ∀ (oj : Oper) (d : Tmp), ops[e.on]? = some oj → oj.dst = some d → ∃ v, a.tmps[d]? = some v ∧ R e.on w v) → ∃ f args, (execOp a.eval o).run P w = .ok (.enter f args) w ∧ Calls P f args w fun e w' => ∃ v, e = .returned v ∧ Below w.heap.size w w' ∧ (∀ d, o.dst = some d → R i w' v)) : MonoS P md ops R a0 w0 Q i o :=
  ⟨hg, fun a w hB _ _ hk hp => by
    obtain ⟨f, args, hr, hc⟩ := h a w hB hk hp
    exact wp_enter (R := fun v w' => Below w.heap.size w w' ∧ (∀ d, o.dst = some d → R i w' v)) hr (hc.mono fun e w' ⟨v, he, hb, hR⟩ => ⟨v, he, hb, hR⟩) fun v w' hR => ⟨v, rfl, hR⟩⟩
/-- The rule over a list of operations: what can be reckoned is reckoned. -/
theorem wp_region_monoL {id : Nat} {l : List Oper} (R : Nat → World → Value → Prop) (hm : P.follows .mixedOrders = true) (n : Nat) (hn : a0.tmps.size = n) (hE : edgesB l = true) (hD : dstB l n = true)
    (hmono : ∀ (j : Nat) (w w' : World) (v : Value), Below w.heap.size w w' → R j w v → R j w' v)
    (hS : allI (MonoS P .any l.toArray R a0 w0 Q) 0 l)
    (hend : ∀ (a : Act) (w : World), Below w0.heap.size w0 w → a.tmps.size = a0.tmps.size → a.defers = a0.defers → (∀ t, (∀ (j : Nat) (o : Oper), l.toArray[j]? = some o → o.dst ≠ some t) → a.tmps[t]? = a0.tmps[t]?) → (∀ (j : Nat) (o : Oper) (d : Tmp), l.toArray[j]? = some o → o.dst = some d → ∃ v, a.tmps[d]? = some v ∧ R j w v) → Q .normal a w) :
    (Code.region id l.toArray true).wp P Q a0 w0 :=
  wp_region_mono R hm (edges_of hE) hmono (dst_one hD) (fun j oj d h1 h2 => by rw [hn]; exact dst_lt hD j oj d h1 h2) (allI_arr hS) hend
theorem keep_of {l : List Oper} {t : Tmp} (h : (l.all fun o => o.dst != some t) = true) : ∀ (j : Nat) (o : Oper), l.toArray[j]? = some o → o.dst ≠ some t := fun j o hj => by
  rw [List.all_eq_true] at h
  have := h o (List.mem_of_getElem? (by simpa using hj))
  simpa using this
/-- A slot that holds just this. -/
def PE (x : Value) : World → Value → Prop := fun _ v => v = x
/-- A slot that holds a row of its own of n cells. -/
def PS (cs : Array Value) (n : Nat) : World → Value → Prop := fun w v => ∃ b, v = .slice (some ⟨b, 0, none⟩) n n ∧ b < w.heap.size ∧ ∀ i, w.cell? ⟨b, i, none⟩ = cs[i]?
def Stays (p : World → Value → Prop) : Prop := ∀ (w w' : World) (v : Value), Below w.heap.size w w' → p w v → p w' v
theorem PE.stays (x : Value) : Stays (PE x) := fun _ _ _ _ h => h
theorem PS.stays (cs : Array Value) (n : Nat) : Stays (PS cs n) := fun w w' v hB ⟨b, e, hb, hc⟩ => ⟨b, e, Nat.lt_of_lt_of_le hb hB.size, fun i => (hB.cell (p := ⟨b, i, none⟩) hb).trans (hc i)⟩
/-- The facts of a region's slots, as a list. -/
def RL (ps : List (World → Value → Prop)) : Nat → World → Value → Prop := fun j => ps.getD j fun _ _ => True
theorem RL.stays {ps : List (World → Value → Prop)} (h : ∀ p ∈ ps, Stays p) : ∀ (j : Nat) (w w' : World) (v : Value), Below w.heap.size w w' → RL ps j w v → RL ps j w' v := fun j w w' v hB hr => by
  unfold RL at *
  by_cases hj : j < ps.length
  · have e : ps.getD j (fun _ _ => True) = ps[j] := by simp [List.getD, hj]
    rw [e] at hr ⊢
    exact h _ (List.getElem_mem hj) w w' v hB hr
  · have e : ps.getD j (fun _ _ => True) = fun _ _ => True := by simp [List.getD, Nat.le_of_not_lt hj]
    rw [e]; trivial
/-- The slots ds of a frame's cells set, each to what f says. -/
def setAll (f : Tmp → Value) : List Tmp → Array Value → Array Value
  | [], b => b
  | d :: ds, b => setAll f ds (b.setIfInBounds d (f d))
theorem setAll_size (f : Tmp → Value) : ∀ (ds : List Tmp) (b : Array Value), (setAll f ds b).size = b.size
  | [], b => rfl
  | d :: ds, b => by unfold setAll; rw [setAll_size f ds]; simp
theorem setAll_get (f : Tmp → Value) : ∀ (ds : List Tmp) (b : Array Value) (t : Nat), t < b.size → (setAll f ds b)[t]? = if t ∈ ds then some (f t) else b[t]?
  | [], b, t, _ => by simp [setAll]
  | d :: ds, b, t, ht => by
    unfold setAll
    rw [setAll_get f ds _ t (by simpa using ht)]
    by_cases h1 : t ∈ ds
    · simp [h1]
    · by_cases h2 : t = d
      · subst h2
        simp [h1, ht]
      · have : d ≠ t := fun e => h2 e.symm
        simp [h1, h2, Array.getElem?_setIfInBounds_ne this]
/-- The frame behind the region, written out: the region's own slots by f, all others as they were. -/
theorem frame_eq {l : List Oper} {a : Act} (hsz : a.tmps.size = a0.tmps.size) (hdf : a.defers = a0.defers) (hk : ∀ t, (∀ (j : Nat) (o : Oper), l.toArray[j]? = some o → o.dst ≠ some t) → a.tmps[t]? = a0.tmps[t]?) (ds : List Tmp) (hds : l.filterMap (·.dst) = ds) :
    ∃ f : Tmp → Value, (∀ d v, a.tmps[d]? = some v → f d = v) ∧ a = ⟨setAll f ds a0.tmps, a0.defers⟩ := by
  refine ⟨fun d => (a.tmps[d]?).getD undef, fun d v h => by simp [h], ?_⟩
  have e : a.tmps = setAll (fun d => (a.tmps[d]?).getD undef) ds a0.tmps := by
    apply Array.ext_getElem?
    intro t
    by_cases ht : t < a0.tmps.size
    · rw [setAll_get _ _ _ _ ht]
      split
      · have : t < a.tmps.size := by omega
        simp [this]
      · rename_i hno
        refine hk t (fun j o hj hd => hno ?_)
        rw [← hds]
        exact List.mem_filterMap.2 ⟨o, List.mem_of_getElem? (by simpa using hj), hd⟩
    · rw [Array.getElem?_eq_none (by omega), Array.getElem?_eq_none (by rw [setAll_size]; omega)]
  cases a
  simp only at e hdf
  rw [← hdf]
  congr 1
end
end Go.Proofs.Ytbehobojgeganaa
