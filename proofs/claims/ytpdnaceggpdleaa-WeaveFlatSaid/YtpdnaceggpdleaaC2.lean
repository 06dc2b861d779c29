/- As XMono, where operations of one order follow the first n. No program is imported. A region in any order in which one operation makes a block and one changes the memory behind it, all the others read: whatever the order, the same is found. No program is imported. Package weave: single spots; what loads a row of three numbers. The map of package weave: the numbers of the spots. Package weave: the web as it grows. Package weave: one more spot, one more triangle. -/
import Derived.StillTail
import Derived.Deep.MidRow
import Derived.Maps.OwnOps
import Derived.Maps.OwnSet
import Derived.DeepKeys4
import Derived.Maps.AppendAt
import Derived.Test.YtpdnaceggpdleaaProg
import Derived.Test.YtpdnaceggpdleaaC1
namespace Go.Proofs.Ytpdnaceggpdleaa
open Go.RowKit
set_option linter.unusedVariables false
set_option linter.unusedSimpArgs false
section
variable {P : Program} {md : Region.Mode} {l : List Oper} {n : Nat} {Q : Exit → Act → World → Prop} {R : Nat → World → Value → Prop} {a0 : Act} {w0 : World}
def doneA (len n : Nat) : Array Bool := ((List.range len).map fun j => decide (j < n)).toArray
def predsL (l : List Oper) (i : Nat) : List Nat := ((l[i]?).map fun o => ((o.after.toList.filter fun e => Region.binds .any e).map fun e => e.on)).getD []
def ancS (l : List Oper) : Nat → List Nat → List Nat
  | 0, S => S
  | i + 1, S => ancS l i (if S.contains i then S ++ predsL l i else S)
/-- Do the operations behind the first n wait for all of these? (a closed fact) -/
def waitB (l : List Oper) (n : Nat) : Bool := (List.range l.length).all fun k => decide (k < n) || (List.range n).all fun j => (ancS l k (predsL l k)).contains j
def Closed (l : List Oper) (listed : Array Bool) : Prop := ∀ i, listed.getD i false = true → ∀ j ∈ predsL l i, listed.getD j false = true
theorem anc_listed {l : List Oper} {listed : Array Bool} (h : Closed l listed) : ∀ (i : Nat) (S : List Nat), (∀ j ∈ S, listed.getD j false = true) → ∀ j ∈ ancS l i S, listed.getD j false = true
  | 0, S, hS => hS
  | i + 1, S, hS => by
    unfold ancS
    split
    · rename_i hi
      refine anc_listed h i _ fun j hj => ?_
      rcases List.mem_append.1 hj with hj | hj
      · exact hS j hj
      · exact h i (hS i (by simpa using hi)) j hj
    · exact anc_listed h i S hS
theorem preds_of {l : List Oper} {i : Nat} {o : Oper} (ho : l.toArray[i]? = some o) (j : Nat) : j ∈ predsL l i ↔ ∃ e ∈ o.after, Region.binds .any e = true ∧ e.on = j := by
  have : l[i]? = some o := by simpa using ho
  unfold predsL
  rw [this]
  simp only [Option.map_some, Option.getD_some, List.mem_map, List.mem_filter, Array.mem_toList_iff]
  constructor
  · rintro ⟨e, ⟨h1, h2⟩, h3⟩; exact ⟨e, h1, h2, h3⟩
  · rintro ⟨e, h1, h2, h3⟩; exact ⟨e, ⟨h1, h2⟩, h3⟩
theorem wait_of (h : waitB l n = true) : ∀ (listed : Array Bool), Closed l listed → ∀ (k : Nat) (o : Oper), l.toArray[k]? = some o → n ≤ k → (∀ e ∈ o.after, Region.binds .any e = true → listed.getD e.on false = true) → ∀ j, j < n → listed.getD j false = true := fun listed hc k o hk hn hp j hj => by
  unfold waitB at h
  rw [List.all_eq_true] at h
  have hkl : k < l.length := by have := (Array.getElem?_eq_some_iff.1 hk).1; simpa using this
  have := h k (by simpa using hkl)
  simp only [Bool.or_eq_true, decide_eq_true_eq] at this
  rcases this with h1 | h1
  · omega
  · rw [List.all_eq_true] at h1
    have h2 := h1 j (by simpa using hj)
    refine anc_listed hc k (predsL l k) (fun i hi => ?_) j (by simpa using h2)
    obtain ⟨e, h3, h4, rfl⟩ := (preds_of hk i).1 hi
    exact hp e h3 h4
theorem take_get {j : Nat} (hj : j < n) : (l.take n).toArray[j]? = l.toArray[j]? := by simp [List.getElem?_take, hj]
theorem closed_set {l : List Oper} {listed : Array Bool} {i : Nat} {o : Oper} (h : Closed l listed) (ho : l.toArray[i]? = some o) (hp : ∀ e ∈ o.after, Region.binds .any e = true → listed.getD e.on false = true) : Closed l (listed.setIfInBounds i true) := by
  have up : ∀ j, listed.getD j false = true → (listed.setIfInBounds i true).getD j false = true := fun j hj => by
    by_cases e : i = j
    · subst e
      have hlt : i < listed.size := by
        rcases Nat.lt_or_ge i listed.size with q | q
        · exact q
        · simp [Array.getD, Nat.not_lt.2 q] at hj
      simp [Array.getD, hlt]
    · rw [getD_set_ne false e]; exact hj
  intro k hk j hj
  apply up
  by_cases e : i = k
  · subst e
    obtain ⟨e, h3, h4, rfl⟩ := (preds_of ho j).1 hj
    exact hp e h3 h4
  · rw [getD_set_ne false e] at hk
    exact h k hk j hj
theorem monoT_sound (hE : ∀ (i : Nat) (o : Oper), l.toArray[i]? = some o → ∀ e ∈ o.after, Region.binds .any e = true → e.on < i) (hW : ∀ (listed : Array Bool), Closed l listed → ∀ (k : Nat) (o : Oper), l.toArray[k]? = some o → n ≤ k → (∀ e ∈ o.after, Region.binds .any e = true → listed.getD e.on false = true) → ∀ j, j < n → listed.getD j false = true)
    (hnl : n ≤ l.length) (hseq : Region.seqB .any l.toArray (l.length - n) n (doneA l.length n) = true)
    (hmono : ∀ (j : Nat) (w w' : World) (v : Value), Below w.heap.size w w' → R j w v → R j w' v) (hd : ∀ (i j : Nat) (oi oj : Oper) (d : Tmp), (l.take n).toArray[i]? = some oi → (l.take n).toArray[j]? = some oj → oi.dst = some d → oj.dst = some d → i = j) (hsz : ∀ (j : Nat) (oj : Oper) (d : Tmp), (l.take n).toArray[j]? = some oj → oj.dst = some d → d < a0.tmps.size)
    (hS : ∀ (i : Nat) (o : Oper), (l.take n).toArray[i]? = some o → MonoS P .any (l.take n).toArray R a0 w0 Q i o)
    (hend : ∀ (a : Act) (w : World), Below w0.heap.size w0 w → a.tmps.size = a0.tmps.size → a.defers = a0.defers → (∀ t, (∀ (j : Nat) (o : Oper), (l.take n).toArray[j]? = some o → o.dst ≠ some t) → a.tmps[t]? = a0.tmps[t]?) → (∀ (j : Nat) (o : Oper) (d : Tmp), (l.take n).toArray[j]? = some o → o.dst = some d → ∃ v, a.tmps[d]? = some v ∧ R j w v) → wpList P l.toArray Q (l.drop n) a w) :
    ∀ (fuel : Nat) (listed : Array Bool) (a : Act) (w : World), listed.size = l.length → Closed l listed → left listed = fuel → (∀ j, n ≤ j → j < l.length → listed.getD j true = false) → MonoI (l.take n).toArray R a0 w0 listed a w → wpAny P .any l.toArray Q fuel listed a w := by
  intro fuel
  induction fuel with
  | zero =>
    intro listed a w hl hcl h0 hf hI
    by_cases hnn : n < l.length
    · have := left_set (hf n (Nat.le_refl _) hnn); omega
    · obtain rfl : n = l.length := by omega
      have hall : ∀ j, j < l.length → listed.getD j true = true := fun j hj => by
        cases hq : listed.getD j true with
        | true => rfl
        | false => have := left_set hq; omega
      have e : listed = doneA l.length l.length := by
        apply Array.ext
        · simp [doneA, hl]
        · intro i h1 h2
          have := hall i (by omega)
          simp only [Array.getD, h1, dif_pos] at this
          simp [doneA, show i < l.length by omega]; exact this
      have hs := wpAny_of_seq (P := P) (Q' := Q) (md := .any) (ops := l.toArray) (l.drop l.length) l.length listed a w (fun j => by simp) (by simpa [e] using hseq) (hend a w hI.bel hI.size hI.defers hI.keep (fun j o d hj hjd => hI.got j o d hj hjd (by
        have hj2 : j < l.length := by have := (Array.getElem?_eq_some_iff.1 hj).1; simpa using this
        have := hall j hj2
        have hjl : j < listed.size := by omega
        simp only [Array.getD, hjl, dif_pos] at this ⊢
        exact this)))
      simpa using hs
  | succ f ih =>
    intro listed a w hl hcl hf hT hI
    by_cases hdone : ∀ j, j < n → listed.getD j false = true
    · have e : listed = doneA l.length n := by
        apply Array.ext
        · simp [doneA, hl]
        · intro i h1 h2
          by_cases hi : i < n
          · have := hdone i hi
            simp only [Array.getD, h1, dif_pos] at this
            simp [doneA, hi]; exact this
          · have := hT i (by omega) (by omega)
            simp only [Array.getD, h1, dif_pos] at this
            simp [doneA, hi]; exact this
      have hfl : f + 1 = (l.drop n).length := by
        rw [← hf, e]
        unfold left doneA
        simp only [List.length_drop]
        have : ∀ len, n ≤ len → (((List.range len).map fun j => decide (j < n)).filter fun b => !b).length = len - n := fun len => by
          induction len with
          | zero => intro h; simp
          | succ m ihm =>
            intro h
            rw [List.range_succ, List.map_append, List.filter_append, List.length_append]
            by_cases hm : n ≤ m
            · rw [ihm hm]
              simp [show ¬ m < n by omega]; omega
            · obtain rfl : n = m + 1 := by omega
              have : ((List.range m).map fun j => decide (j < m + 1)).filter (fun b => !b) = [] := by
                rw [List.filter_eq_nil_iff]
                intro b hb
                obtain ⟨j, hj, rfl⟩ := List.mem_map.1 hb
                have : j < m := by simpa using hj
                simp; omega
              rw [this]
              simp
        exact this _ hnl
      rw [hfl]
      exact wpAny_of_seq (P := P) (Q' := Q) (md := .any) (ops := l.toArray) (l.drop n) n listed a w (fun j => by simp [List.getElem?_drop]) (by rw [e, List.length_drop]; exact hseq) (hend a w hI.bel hI.size hI.defers hI.keep (fun j o d hj hjd => hI.got j o d hj hjd (hdone j (by have := (Array.getElem?_eq_some_iff.1 hj).1; simp at this; omega))))
    · have hready : ∀ i ∈ Region.ready .any l.toArray listed, i < n := fun i hi => by
        obtain ⟨hun, o, ho, hall⟩ := mem_ready.1 hi
        rcases Nat.lt_or_ge i n with h | h
        · exact h
        · exfalso
          apply hdone
          exact hW listed hcl i o ho h hall
      refine ⟨fun hr => ?_, fun i hi => ?_⟩
      · exfalso
        apply hdone
        intro j
        induction j using Nat.strongRecOn with
        | _ j ihj =>
          intro hj
          cases hq : listed.getD j true with
          | true =>
            have hjl : j < listed.size := by omega
            simp only [Array.getD, hjl, dif_pos] at hq ⊢
            exact hq
          | false =>
            have hjl : j < l.length := by omega
            have : j ∈ Region.ready .any l.toArray listed := mem_ready.2 ⟨hq, l[j], by simp [hjl], fun e he hb => by
              have hlt := hE j l[j] (by simp [hjl]) e he hb
              exact ihj e.on hlt (by omega)⟩
            rw [hr] at this
            cases this
      · have hin := hready i hi
        obtain ⟨hun, o, ho, hall⟩ := mem_ready.1 hi
        have ho2 : (l.take n).toArray[i]? = some o := by rw [take_get hin]; exact ho
        obtain ⟨hg, hs⟩ := hS i o ho2
        unfold wpOp
        simp only [ho]
        rw [if_pos (by simp [Region.wanted, hg])]
        left
        refine Oper.wp_mono ?_ (hs a w hI.bel hI.size hI.defers hI.keep (fun e he hb oj d hoj hdj => hI.got e.on oj d hoj hdj (hall e he hb)))
        rintro a' w' ⟨v, rfl, hB, hR⟩
        refine ih _ _ _ (by simp [hl]) (closed_set hcl ho hall) (by have := left_set hun; omega) (fun j h1 h2 => ?_) (hI.step ho2 hmono hd hsz hB hR)
        rw [getD_set_ne true (by omega)]
        exact hT j h1 h2
/-- The rule over a list of operations: the first n in any order, the rest in one. -/
theorem wp_region_monoT {id : Nat} (n : Nat) (R : Nat → World → Value → Prop) (hm : P.follows .mixedOrders = true) (N : Nat) (hn : a0.tmps.size = N) (hE : edgesB l = true) (hW : waitB l n = true) (hnl : decide (n ≤ l.length) = true) (hseq : Region.seqB .any l.toArray (l.length - n) n (doneA l.length n) = true) (hD : dstB (l.take n) N = true)
    (hmono : ∀ (j : Nat) (w w' : World) (v : Value), Below w.heap.size w w' → R j w v → R j w' v)
    (hS : allI (MonoS P .any (l.take n).toArray R a0 w0 Q) 0 (l.take n))
    (hend : ∀ (a : Act) (w : World), Below w0.heap.size w0 w → a.tmps.size = a0.tmps.size → a.defers = a0.defers → (∀ t, (∀ (j : Nat) (o : Oper), (l.take n).toArray[j]? = some o → o.dst ≠ some t) → a.tmps[t]? = a0.tmps[t]?) → (∀ (j : Nat) (o : Oper) (d : Tmp), (l.take n).toArray[j]? = some o → o.dst = some d → ∃ v, a.tmps[d]? = some v ∧ R j w v) → wpList P l.toArray Q (l.drop n) a w) :
    (Code.region id l.toArray true).wp P Q a0 w0 := by
  have hl : left (Array.replicate l.toArray.size false) = l.toArray.size := by unfold left; simp
  refine wp_region_any hm ?_
  have := monoT_sound (a0 := a0) (w0 := w0) (R := R) (n := n) (Q := Q) (P := P) (edges_of hE) (wait_of hW) (by simpa using hnl) hseq hmono (dst_one hD) (fun j oj d h1 h2 => by rw [hn]; exact dst_lt hD j oj d h1 h2) (allI_arr hS) hend (l.toArray.size) (Array.replicate l.toArray.size false) a0 { w0 with drawn := w0.drawn + 1 } (by simp) (fun i hi => by simp [Array.getD] at hi) hl (fun j h1 h2 => by simp [Array.getD, h2]) ⟨bel_dr (Below.refl _ _) _, rfl, rfl, fun t _ => rfl, fun j o d _ _ hq => by simp [Array.getD] at hq⟩
  exact this
end
end Go.Proofs.Ytpdnaceggpdleaa
namespace Go.Proofs.Ytpdnaceggpdleaa
open Go.RowKit
set_option linter.unusedVariables false
set_option linter.unusedSimpArgs false
section
variable {P : Program} {l : List Oper} {n : Nat} {Q : Exit → Act → World → Prop} {R : Nat → Value → Prop} {a0 : Act} {J : Array Bool → World → Prop}
structure MonoK (ops : Array Oper) (R : Nat → Value → Prop) (a0 : Act) (J : Array Bool → World → Prop) (listed : Array Bool) (a : Act) (w : World) : Prop where
  inv : J listed w
  size : a.tmps.size = a0.tmps.size
  defers : a.defers = a0.defers
  keep : ∀ t, (∀ (j : Nat) (o : Oper), ops[j]? = some o → o.dst ≠ some t) → a.tmps[t]? = a0.tmps[t]?
  got : ∀ (j : Nat) (o : Oper) (d : Tmp), ops[j]? = some o → o.dst = some d → listed.getD j false = true → ∃ v, a.tmps[d]? = some v ∧ R j v
def MonoKS (P : Program) (ops : Array Oper) (R : Nat → Value → Prop) (a0 : Act) (J : Array Bool → World → Prop) (Q : Exit → Act → World → Prop) (i : Nat) (o : Oper) : Prop :=
  o.guard = none ∧ ∀ (a : Act) (w : World) (listed : Array Bool), J listed w → listed.getD i true = false → (∀ e ∈ o.after, Region.binds .any e = true → listed.getD e.on false = true) → a.tmps.size = a0.tmps.size → a.defers = a0.defers → (∀ t, (∀ (j : Nat) (o : Oper), ops[j]? = some o → o.dst ≠ some t) → a.tmps[t]? = a0.tmps[t]?) →
    (∀ e ∈ o.after, Region.binds .any e = true → ∀ (oj : Oper) (d : Tmp), ops[e.on]? = some oj → oj.dst = some d → ∃ v, a.tmps[d]? = some v ∧ R e.on v) →
    o.wp P a w (fun a' w' => ∃ v, a' = a.put o.dst v ∧ J (listed.setIfInBounds i true) w' ∧ (∀ d, o.dst = some d → R i v)) Q
theorem MonoK.step {ops : Array Oper} {listed : Array Bool} {a : Act} {w w' : World} {i : Nat} {o : Oper} {v : Value} (h : MonoK ops R a0 J listed a w) (hi : ops[i]? = some o)
    (hd : ∀ (i j : Nat) (oi oj : Oper) (d : Tmp), ops[i]? = some oi → ops[j]? = some oj → oi.dst = some d → oj.dst = some d → i = j) (hsz : ∀ (j : Nat) (oj : Oper) (d : Tmp), ops[j]? = some oj → oj.dst = some d → d < a0.tmps.size)
    (hJ : J (listed.setIfInBounds i true) w') (hR : ∀ d, o.dst = some d → R i v) : MonoK ops R a0 J (listed.setIfInBounds i true) (a.put o.dst v) w' := by
  obtain ⟨p1, p2, p3, p4⟩ := put_tmps a o.dst v
  refine ⟨hJ, p2.trans h.size, p1.trans h.defers, fun t ht => (p3 t (ht i o hi)).trans (h.keep t ht), fun j oj d hj hjd hl => ?_⟩
  by_cases hij : i = j
  · subst hij
    obtain rfl := Option.some.inj (hi.symm.trans hj)
    exact ⟨v, p4 d hjd (by rw [h.size]; exact hsz i o d hi hjd), hR d hjd⟩
  · rw [getD_set_ne false hij] at hl
    obtain ⟨u, hu, hr⟩ := h.got j oj d hj hjd hl
    exact ⟨u, (p3 d (fun e => hij (hd i j o oj d hi hj e hjd))).trans hu, hr⟩
theorem monoK_sound (hE : ∀ (i : Nat) (o : Oper), l.toArray[i]? = some o → ∀ e ∈ o.after, Region.binds .any e = true → e.on < i) (hW : ∀ (listed : Array Bool), Closed l listed → ∀ (k : Nat) (o : Oper), l.toArray[k]? = some o → n ≤ k → (∀ e ∈ o.after, Region.binds .any e = true → listed.getD e.on false = true) → ∀ j, j < n → listed.getD j false = true)
    (hnl : n ≤ l.length) (hseq : Region.seqB .any l.toArray (l.length - n) n (doneA l.length n) = true)
    (hd : ∀ (i j : Nat) (oi oj : Oper) (d : Tmp), (l.take n).toArray[i]? = some oi → (l.take n).toArray[j]? = some oj → oi.dst = some d → oj.dst = some d → i = j) (hsz : ∀ (j : Nat) (oj : Oper) (d : Tmp), (l.take n).toArray[j]? = some oj → oj.dst = some d → d < a0.tmps.size)
    (hS : ∀ (i : Nat) (o : Oper), (l.take n).toArray[i]? = some o → MonoKS P (l.take n).toArray R a0 J Q i o)
    (hend : ∀ (a : Act) (w : World) (listed : Array Bool), J listed w → (∀ j, j < n → listed.getD j false = true) → a.tmps.size = a0.tmps.size → a.defers = a0.defers → (∀ t, (∀ (j : Nat) (o : Oper), (l.take n).toArray[j]? = some o → o.dst ≠ some t) → a.tmps[t]? = a0.tmps[t]?) → (∀ (j : Nat) (o : Oper) (d : Tmp), (l.take n).toArray[j]? = some o → o.dst = some d → ∃ v, a.tmps[d]? = some v ∧ R j v) → wpList P l.toArray Q (l.drop n) a w) :
    ∀ (fuel : Nat) (listed : Array Bool) (a : Act) (w : World), listed.size = l.length → Closed l listed → left listed = fuel → (∀ j, n ≤ j → j < l.length → listed.getD j true = false) → MonoK (l.take n).toArray R a0 J listed a w → wpAny P .any l.toArray Q fuel listed a w := by
  intro fuel
  induction fuel with
  | zero =>
    intro listed a w hl hcl h0 hf hI
    by_cases hnn : n < l.length
    · have := left_set (hf n (Nat.le_refl _) hnn); omega
    · obtain rfl : n = l.length := by omega
      have hall : ∀ j, j < l.length → listed.getD j true = true := fun j hj => by
        cases hq : listed.getD j true with
        | true => rfl
        | false => have := left_set hq; omega
      have hall2 : ∀ j, j < l.length → listed.getD j false = true := fun j hj2 => by
        have := hall j hj2
        have hjl : j < listed.size := by omega
        simp only [Array.getD, hjl, dif_pos] at this ⊢
        exact this
      have e : listed = doneA l.length l.length := by
        apply Array.ext
        · simp [doneA, hl]
        · intro i h1 h2
          have := hall i (by omega)
          simp only [Array.getD, h1, dif_pos] at this
          simp [doneA, show i < l.length by omega]; exact this
      have hs := wpAny_of_seq (P := P) (Q' := Q) (md := .any) (ops := l.toArray) (l.drop l.length) l.length listed a w (fun j => by simp) (by simpa [e] using hseq) (hend a w listed hI.inv hall2 hI.size hI.defers hI.keep (fun j o d hj hjd => hI.got j o d hj hjd (hall2 j (by have := (Array.getElem?_eq_some_iff.1 hj).1; simpa using this))))
      simpa using hs
  | succ f ih =>
    intro listed a w hl hcl hf hT hI
    by_cases hdone : ∀ j, j < n → listed.getD j false = true
    · have e : listed = doneA l.length n := by
        apply Array.ext
        · simp [doneA, hl]
        · intro i h1 h2
          by_cases hi : i < n
          · have := hdone i hi
            simp only [Array.getD, h1, dif_pos] at this
            simp [doneA, hi]; exact this
          · have := hT i (by omega) (by omega)
            simp only [Array.getD, h1, dif_pos] at this
            simp [doneA, hi]; exact this
      have hfl : f + 1 = (l.drop n).length := by
        rw [← hf, e]
        unfold left doneA
        simp only [List.length_drop]
        have : ∀ len, n ≤ len → (((List.range len).map fun j => decide (j < n)).filter fun b => !b).length = len - n := fun len => by
          induction len with
          | zero => intro h; simp
          | succ m ihm =>
            intro h
            rw [List.range_succ, List.map_append, List.filter_append, List.length_append]
            by_cases hm : n ≤ m
            · rw [ihm hm]
              simp [show ¬ m < n by omega]; omega
            · obtain rfl : n = m + 1 := by omega
              have : ((List.range m).map fun j => decide (j < m + 1)).filter (fun b => !b) = [] := by
                rw [List.filter_eq_nil_iff]
                intro b hb
                obtain ⟨j, hj, rfl⟩ := List.mem_map.1 hb
                have : j < m := by simpa using hj
                simp; omega
              rw [this]
              simp
        exact this _ hnl
      rw [hfl]
      exact wpAny_of_seq (P := P) (Q' := Q) (md := .any) (ops := l.toArray) (l.drop n) n listed a w (fun j => by simp [List.getElem?_drop]) (by rw [e, List.length_drop]; exact hseq) (hend a w listed hI.inv hdone hI.size hI.defers hI.keep (fun j o d hj hjd => hI.got j o d hj hjd (hdone j (by have := (Array.getElem?_eq_some_iff.1 hj).1; simp at this; omega))))
    · have hready : ∀ i ∈ Region.ready .any l.toArray listed, i < n := fun i hi => by
        obtain ⟨hun, o, ho, hall⟩ := mem_ready.1 hi
        rcases Nat.lt_or_ge i n with h | h
        · exact h
        · exfalso
          apply hdone
          exact hW listed hcl i o ho h hall
      refine ⟨fun hr => ?_, fun i hi => ?_⟩
      · exfalso
        apply hdone
        intro j
        induction j using Nat.strongRecOn with
        | _ j ihj =>
          intro hj
          cases hq : listed.getD j true with
          | true =>
            have hjl : j < listed.size := by omega
            simp only [Array.getD, hjl, dif_pos] at hq ⊢
            exact hq
          | false =>
            have hjl : j < l.length := by omega
            have : j ∈ Region.ready .any l.toArray listed := mem_ready.2 ⟨hq, l[j], by simp [hjl], fun e he hb => by
              have hlt := hE j l[j] (by simp [hjl]) e he hb
              exact ihj e.on hlt (by omega)⟩
            rw [hr] at this
            cases this
      · have hin := hready i hi
        obtain ⟨hun, o, ho, hall⟩ := mem_ready.1 hi
        have ho2 : (l.take n).toArray[i]? = some o := by rw [take_get hin]; exact ho
        obtain ⟨hg, hs⟩ := hS i o ho2
        unfold wpOp
        simp only [ho]
        rw [if_pos (by simp [Region.wanted, hg])]
        left
        refine Oper.wp_mono ?_ (hs a w listed hI.inv hun hall hI.size hI.defers hI.keep (fun e he hb oj d hoj hdj => hI.got e.on oj d hoj hdj (hall e he hb)))
        rintro a' w' ⟨v, rfl, hJ, hR⟩
        refine ih _ _ _ (by simp [hl]) (closed_set hcl ho hall) (by have := left_set hun; omega) (fun j h1 h2 => ?_) (hI.step ho2 hd hsz hJ hR)
        rw [getD_set_ne true (by omega)]
        exact hT j h1 h2
theorem wp_region_monoK {id : Nat} {w0 : World} (n : Nat) (R : Nat → Value → Prop) (J : Array Bool → World → Prop) (hm : P.follows .mixedOrders = true) (N : Nat) (hn : a0.tmps.size = N) (hE : edgesB l = true) (hW : waitB l n = true) (hnl : decide (n ≤ l.length) = true) (hseq : Region.seqB .any l.toArray (l.length - n) n (doneA l.length n) = true) (hD : dstB (l.take n) N = true)
    (hJ0 : J (Array.replicate l.toArray.size false) { w0 with drawn := w0.drawn + 1 })
    (hS : allI (MonoKS P (l.take n).toArray R a0 J Q) 0 (l.take n))
    (hend : ∀ (a : Act) (w : World) (listed : Array Bool), J listed w → (∀ j, j < n → listed.getD j false = true) → a.tmps.size = a0.tmps.size → a.defers = a0.defers → (∀ t, (∀ (j : Nat) (o : Oper), (l.take n).toArray[j]? = some o → o.dst ≠ some t) → a.tmps[t]? = a0.tmps[t]?) → (∀ (j : Nat) (o : Oper) (d : Tmp), (l.take n).toArray[j]? = some o → o.dst = some d → ∃ v, a.tmps[d]? = some v ∧ R j v) → wpList P l.toArray Q (l.drop n) a w) :
    (Code.region id l.toArray true).wp P Q a0 w0 := by
  have hl : left (Array.replicate l.toArray.size false) = l.toArray.size := by unfold left; simp
  refine wp_region_any hm ?_
  have := monoK_sound (a0 := a0) (R := R) (J := J) (n := n) (Q := Q) (P := P) (edges_of hE) (wait_of hW) (by simpa using hnl) hseq (dst_one hD) (fun j oj d h1 h2 => by rw [hn]; exact dst_lt hD j oj d h1 h2) (allI_arr hS) hend (l.toArray.size) (Array.replicate l.toArray.size false) a0 { w0 with drawn := w0.drawn + 1 } (by simp) (fun i hi => by simp [Array.getD] at hi) hl (fun j h1 h2 => by simp [Array.getD, h2]) ⟨hJ0, rfl, rfl, fun t _ => rfl, fun j o d _ _ hq => by simp [Array.getD] at hq⟩
  exact this
/-- The world, by whether operation p and operation q have been done: q waits for p. -/
def PhJ (p q : Nat) (u0 u1 u2 : World) (listed : Array Bool) (w : World) : Prop :=
  p < listed.size ∧ q < listed.size ∧ (listed.getD q false = true → listed.getD p false = true) ∧ w = if listed.getD q false = true then u2 else if listed.getD p false = true then u1 else u0
theorem PhJ.cases {p q : Nat} {u0 u1 u2 : World} {listed : Array Bool} {w : World} (h : PhJ p q u0 u1 u2 listed w) : w = u0 ∨ w = u1 ∨ w = u2 := by
  obtain ⟨_, _, _, rfl⟩ := h
  by_cases a : listed.getD q false = true
  · exact .inr (.inr (if_pos a))
  · by_cases b : listed.getD p false = true
    · exact .inr (.inl ((if_neg a).trans (if_pos b)))
    · exact .inl ((if_neg a).trans (if_neg b))
theorem getD_tf {listed : Array Bool} {i : Nat} (h : listed.getD i true = false) : listed.getD i false = false ∧ i < listed.size := by
  rcases Nat.lt_or_ge i listed.size with q | q
  · simp only [Array.getD, q, dif_pos] at h ⊢; exact ⟨h, trivial⟩
  · simp [Array.getD, Nat.not_lt.2 q] at h
theorem getD_self {listed : Array Bool} {i : Nat} (h : i < listed.size) : (listed.setIfInBounds i true).getD i false = true := by simp [Array.getD, h]
/-- An operation that reads, whatever else has been done. -/
theorem mono_read {ops : Array Oper} {p q : Nat} {u0 u1 u2 : World} {i : Nat} {o : Oper} (hg : o.guard = none) (hp : i ≠ p) (hq : i ≠ q)
    (h : ∀ (a : Act) (u : World), (u = u0 ∨ u = u1 ∨ u = u2) → (∀ t, (∀ (j : Nat) (o : Oper), ops[j]? = some o → o.dst ≠ some t) → a.tmps[t]? = a0.tmps[t]?) →
      (∀ e ∈ o.after, Region.binds .any e = true → ∀ (oj : Oper) (d : Tmp), ops[e.on]? = some oj → oj.dst = some d → ∃ v, a.tmps[d]? = some v ∧ R e.on v) → ∃ v, (execOp a.eval o).run P u = .ok (.value v) u ∧ R i v) : MonoKS P ops R a0 (PhJ p q u0 u1 u2) Q i o :=
  ⟨hg, fun a w listed hJ hu hall hsz hdf hk hgot => by
    obtain ⟨v, hr, hR⟩ := h a w hJ.cases hk hgot
    refine wp_value hr ⟨v, rfl, ?_, fun _ _ => hR⟩
    obtain ⟨h1, h2, h3, h4⟩ := hJ
    refine ⟨by simpa using h1, by simpa using h2, ?_, ?_⟩
    · rw [getD_set_ne false hq, getD_set_ne false hp]; exact h3
    · rw [getD_set_ne false hq, getD_set_ne false hp]; exact h4⟩
/-- The first operation that changes the memory. -/
theorem mono_first {ops : Array Oper} {p q : Nat} {u0 u1 u2 : World} {o : Oper} (hg : o.guard = none) (hpq : p ≠ q)
    (h : ∀ (a : Act), (∀ t, (∀ (j : Nat) (o : Oper), ops[j]? = some o → o.dst ≠ some t) → a.tmps[t]? = a0.tmps[t]?) →
      (∀ e ∈ o.after, Region.binds .any e = true → ∀ (oj : Oper) (d : Tmp), ops[e.on]? = some oj → oj.dst = some d → ∃ v, a.tmps[d]? = some v ∧ R e.on v) → ∃ v, (execOp a.eval o).run P u0 = .ok (.value v) u1 ∧ R p v) : MonoKS P ops R a0 (PhJ p q u0 u1 u2) Q p o :=
  ⟨hg, fun a w listed hJ hu hall hsz hdf hk hgot => by
    obtain ⟨h1, h2, h3, h4⟩ := hJ
    obtain ⟨hpf, _⟩ := getD_tf hu
    have hqf : listed.getD q false = false := by
      cases e : listed.getD q false
      · rfl
      · rw [h3 e] at hpf; cases hpf
    rw [hqf, hpf] at h4
    simp only [Bool.false_eq_true, if_false] at h4
    subst h4
    obtain ⟨v, hr, hR⟩ := h a hk hgot
    refine wp_value hr ⟨v, rfl, ⟨by simpa using h1, by simpa using h2, ?_, ?_⟩, fun _ _ => hR⟩
    · intro _; exact getD_self h1
    · rw [getD_set_ne false hpq, getD_self h1, hqf]; rfl⟩
/-- The second one. -/
theorem mono_second {ops : Array Oper} {p q : Nat} {u0 u1 u2 : World} {o : Oper} (hg : o.guard = none) (hpq : p ≠ q) (hw : ∃ e ∈ o.after, Region.binds .any e = true ∧ e.on = p)
    (h : ∀ (a : Act), (∀ t, (∀ (j : Nat) (o : Oper), ops[j]? = some o → o.dst ≠ some t) → a.tmps[t]? = a0.tmps[t]?) →
      (∀ e ∈ o.after, Region.binds .any e = true → ∀ (oj : Oper) (d : Tmp), ops[e.on]? = some oj → oj.dst = some d → ∃ v, a.tmps[d]? = some v ∧ R e.on v) → ∃ v, (execOp a.eval o).run P u1 = .ok (.value v) u2 ∧ R q v) : MonoKS P ops R a0 (PhJ p q u0 u1 u2) Q q o :=
  ⟨hg, fun a w listed hJ hu hall hsz hdf hk hgot => by
    obtain ⟨h1, h2, h3, h4⟩ := hJ
    obtain ⟨hqf, _⟩ := getD_tf hu
    obtain ⟨e, he, hb, rfl⟩ := hw
    have hpt := hall e he hb
    rw [hqf, hpt] at h4
    simp only [Bool.false_eq_true, if_false, if_true] at h4
    subst h4
    obtain ⟨v, hr, hR⟩ := h a hk hgot
    refine wp_value hr ⟨v, rfl, ⟨by simpa using h1, by simpa using h2, ?_, ?_⟩, fun _ _ => hR⟩
    · intro _; rw [getD_set_ne false (Ne.symm hpq)]; exact hpt
    · rw [getD_self h2]; rfl⟩
theorem phJ_end {p q n : Nat} {u0 u1 u2 : World} {listed : Array Bool} {w : World} (h : PhJ p q u0 u1 u2 listed w) (hq : q < n) (hall : ∀ j, j < n → listed.getD j false = true) : w = u2 := by
  obtain ⟨_, _, _, rfl⟩ := h
  rw [hall q hq]; rfl
end
end Go.Proofs.Ytpdnaceggpdleaa
namespace Go.Proofs.Ytpdnaceggpdleaa
open Go.RowKit
set_option linter.unusedVariables false
set_option linter.unusedSimpArgs false
set_option linter.unnecessarySimpa false
set_option maxRecDepth 100000
/-- A spot as a value. -/
@[reducible] def sV (s : Spt) : Value := .agg #[.int .i64 s.1, .int .i64 s.2.1, .int .i64 s.2.2]
theorem rng3W {W : World} {b o : Nat} {x y z : Value} (h0 : W.cell? ⟨b, o, none⟩ = some x) (h1 : W.cell? ⟨b, o + 1, none⟩ = some y) (h2 : W.cell? ⟨b, o + 2, none⟩ = some z) : W.rangeAt b o [x, y, z] := fun j v hv => by
  match j, hv with
  | 0, hv => simp at hv; subst hv; exact h0
  | 1, hv => simp at hv; subst hv; exact h1
  | 2, hv => simp at hv; subst hv; exact h2
  | j + 3, hv => simp at hv
theorem ldmW_run (a : Act) (o : Oper) (w : World) (ty : TypeId) (x : Operand) (ho : o.op = .load ty x) (b off : Nat) (hx : a.eval x = .pointer (some ⟨b, off, none⟩)) (cs : List Value) (d : TypeDesc) (hc : w.rangeAt b off cs)
    (hu : Try.prog.underlying ty = some d) (hd : d.isRow = true) (hi : (Try.prog.info? ty).map (·.size) = some cs.length) : (execOp a.eval o).run Try.prog w = .ok (.value (.agg cs.toArray)) w := by
  unfold execOp
  simp only [ho, hx, Instr.loadAt, Instr.sureAddr, Sem.run_bind, Sem.run_pure, Result.andThen_ok, run_loadVar_mid w b off ty cs d hc hu hd hi]
theorem run_appW {P : Program} {a : Act} {w w' : World} {o : Oper} {v v' x : Value} (s y : Operand) (t : TypeId) (ho : o.op = .call { callee := .builtin .append, args := #[s, y], argTypes := #[t, t] }) (hs : a.eval s = v) (hx : a.eval y = x) (hr : (Builtin.append_ #[t, t] o.type #[v, x]).run P w = .ok v' w') :
    (execOp a.eval o).run P w = .ok (.value v') w' := by
  unfold execOp
  simp only [ho, resolve, invoke, builtin, Sem.run_bind, Sem.run_pure, Result.andThen_ok, List.map_toArray, List.map_cons, List.map_nil, hs, hx, hr]
def RKW (vs : List Value) : Nat → Value → Prop := fun j v => v = vs.getD j undef
theorem corner_G (k : Int) : Gives Try.prog 21 #[.int .i64 k] (.agg #[.int .i64 1, .int .i64 k, .int .i64 0]) := by
  refine Gives.mk fun w => ?_
  go_enter Try.func21, Try.ntmps21
  go_wp2
  refine bodyPost_ret (v := .agg #[.int .i64 1, .int .i64 k, .int .i64 0]) (by simp [results, Try.results21, go_sem]) rfl ⟨rfl, (by repeat (first | exact Below.refl _ _ | refine bel_then ?_ _ | refine bel_grow ?_ _ | refine bel_alloc ?_ _ | refine bel_drew ?_ | refine bel_set ?_ (by simp) _ | refine bel_setRow ?_ (by first | omega | (simp; done) | (refine Nat.le_trans ?_ (top_le _ _); simp; done) | (refine Nat.le_succ_of_le (Nat.le_trans ?_ (top_le _ _)); simp; done) | (refine Nat.le_trans ?_ (top_le _ _); simp only [World.size_alloc]; refine Nat.le_succ_of_le (Nat.le_trans ?_ (top_le _ _)); simp; done)) _))⟩
theorem inner_G (a b : Int) : Gives Try.prog 23 #[.int .i64 a, .int .i64 b] (.agg #[.int .i64 3, .int .i64 a, .int .i64 b]) := by
  refine Gives.mk fun w => ?_
  go_enter Try.func23, Try.ntmps23
  go_wp2
  refine bodyPost_ret (v := .agg #[.int .i64 3, .int .i64 a, .int .i64 b]) (by simp [results, Try.results23, go_sem]) rfl ⟨rfl, (by repeat (first | exact Below.refl _ _ | refine bel_then ?_ _ | refine bel_grow ?_ _ | refine bel_alloc ?_ _ | refine bel_drew ?_ | refine bel_set ?_ (by simp) _ | refine bel_setRow ?_ (by first | omega | (simp; done) | (refine Nat.le_trans ?_ (top_le _ _); simp; done) | (refine Nat.le_succ_of_le (Nat.le_trans ?_ (top_le _ _)); simp; done) | (refine Nat.le_trans ?_ (top_le _ _); simp only [World.size_alloc]; refine Nat.le_succ_of_le (Nat.le_trans ?_ (top_le _ _)); simp; done)) _))⟩
theorem rinner_G (a b : Int) : Gives Try.prog 16 #[.int .i64 a, .int .i64 b] (.agg #[.int .i64 3, .int .i64 a, .int .i64 b]) := by
  refine Gives.mk fun w => ?_
  go_enter Try.func16, Try.ntmps16
  go_wp2
  refine bodyPost_ret (v := .agg #[.int .i64 3, .int .i64 a, .int .i64 b]) (by simp [results, Try.results16, go_sem]) rfl ⟨rfl, (by repeat (first | exact Below.refl _ _ | refine bel_then ?_ _ | refine bel_grow ?_ _ | refine bel_alloc ?_ _ | refine bel_drew ?_ | refine bel_set ?_ (by simp) _ | refine bel_setRow ?_ (by first | omega | (simp; done) | (refine Nat.le_trans ?_ (top_le _ _); simp; done) | (refine Nat.le_succ_of_le (Nat.le_trans ?_ (top_le _ _)); simp; done) | (refine Nat.le_trans ?_ (top_le _ _); simp only [World.size_alloc]; refine Nat.le_succ_of_le (Nat.le_trans ?_ (top_le _ _)); simp; done)) _))⟩
theorem souter_G (k r i : Nat) (hk : k < 4) (hr : 1 ≤ r) (hi : i ≤ r) (hr2 : r ≤ 16) : Gives Try.prog 22 #[.agg #[.int .i64 (k : Int), .int .i64 (r : Int)], .int .i64 (i : Int)] (sV (outS k r i)) := by
  by_cases h0 : i = 0
  · subst h0
    have k1 := corner_G (k : Int)
    show Gives _ _ _ (.agg #[.int .i64 1, .int .i64 (k : Int), .int .i64 0])
    refine Gives.mk fun w => ?_
    go_enter Try.func22, Try.ntmps22
    go_wp2_with (first | (go_at_call 21; (with_reducible refine (k1.at_ _).mono ?_); rintro e w' ⟨rfl, xg, rfl⟩) | fail)
    refine bodyPost_ret (v := .agg #[.int .i64 1, .int .i64 (k : Int), .int .i64 0]) (by simp [results, Try.results22, go_sem]) rfl ⟨rfl, (by repeat (first | exact Below.refl _ _ | refine bel_then ?_ _ | refine bel_grow ?_ _ | refine bel_alloc ?_ _ | refine bel_drew ?_ | refine bel_set ?_ (by simp) _ | refine bel_setRow ?_ (by first | omega | (simp; done) | (refine Nat.le_trans ?_ (top_le _ _); simp; done) | (refine Nat.le_succ_of_le (Nat.le_trans ?_ (top_le _ _)); simp; done) | (refine Nat.le_trans ?_ (top_le _ _); simp only [World.size_alloc]; refine Nat.le_succ_of_le (Nat.le_trans ?_ (top_le _ _)); simp; done)) _))⟩
  · by_cases h1 : i = r
    · subst h1
      rw [out_end hr]
      have k1 := corner_G (((k : Int) + 1) % 4)
      unfold corS
      rw [show (((k + 1) % 4 : Nat) : Int) = ((k : Int) + 1) % 4 by omega]
      show Gives _ _ _ (.agg #[.int .i64 1, .int .i64 (((k : Int) + 1) % 4), .int .i64 0])
      refine Gives.mk fun w => ?_
      go_enter Try.func22, Try.ntmps22
      go_wp2_with (first | (go_at_call 21; (with_reducible refine (k1.at_ _).mono ?_); rintro e w' ⟨rfl, xg, rfl⟩) | fail)
      refine bodyPost_ret (v := .agg #[.int .i64 1, .int .i64 (((k : Int) + 1) % 4), .int .i64 0]) (by simp [results, Try.results22, go_sem]) rfl ⟨rfl, (by repeat (first | exact Below.refl _ _ | refine bel_then ?_ _ | refine bel_grow ?_ _ | refine bel_alloc ?_ _ | refine bel_drew ?_ | refine bel_set ?_ (by simp) _ | refine bel_setRow ?_ (by first | omega | (simp; done) | (refine Nat.le_trans ?_ (top_le _ _); simp; done) | (refine Nat.le_succ_of_le (Nat.le_trans ?_ (top_le _ _)); simp; done) | (refine Nat.le_trans ?_ (top_le _ _); simp only [World.size_alloc]; refine Nat.le_succ_of_le (Nat.le_trans ?_ (top_le _ _)); simp; done)) _))⟩
    · rw [out_mid (by omega) (by omega)]
      show Gives _ _ _ (.agg #[.int .i64 2, .int .i64 (k : Int), .int .i64 (i : Int)])
      have e0 : ¬ ((i : Int) = 0) := by omega
      have e1 : ¬ ((i : Int) = (r : Int)) := by omega
      refine Gives.mk fun w => ?_
      go_enter Try.func22, Try.ntmps22
      go_wp2
      refine bodyPost_ret (v := .agg #[.int .i64 2, .int .i64 (k : Int), .int .i64 (i : Int)]) (by simp [results, Try.results22, go_sem]) rfl ⟨rfl, (by repeat (first | exact Below.refl _ _ | refine bel_then ?_ _ | refine bel_grow ?_ _ | refine bel_alloc ?_ _ | refine bel_drew ?_ | refine bel_set ?_ (by simp) _ | refine bel_setRow ?_ (by first | omega | (simp; done) | (refine Nat.le_trans ?_ (top_le _ _); simp; done) | (refine Nat.le_succ_of_le (Nat.le_trans ?_ (top_le _ _)); simp; done) | (refine Nat.le_trans ?_ (top_le _ _); simp only [World.size_alloc]; refine Nat.le_succ_of_le (Nat.le_trans ?_ (top_le _ _)); simp; done)) _))⟩
theorem sbeside_G (k t R : Nat) (hk : k < 4) (ht : t ≤ R) (hR : 1 ≤ R) (hR2 : R ≤ 16) (r : Int) : Gives Try.prog 27 #[.agg #[.int .i64 (k : Int), .int .i64 r], .int .i64 (t : Int), .int .i64 (R : Int)] (sV (besS k t R)) := by
  rcases four1 hk with rfl | rfl | rfl | rfl
  · show Gives _ _ _ (.agg #[.int .i64 3, .int .i64 (t : Int), .int .i64 1])
    have k1 := inner_G (t : Int) 1
    show Gives _ _ _ (.agg #[.int .i64 3, .int .i64 (t : Int), .int .i64 1])
    refine Gives.mk fun w => ?_
    go_enter Try.func27, Try.ntmps27
    go_wp2_with (first | (go_at_call 23; (with_reducible refine (k1.at_ _).mono ?_); rintro e w' ⟨rfl, xg, rfl⟩) | fail)
    refine bodyPost_ret (v := .agg #[.int .i64 3, .int .i64 (t : Int), .int .i64 1]) (by simp [results, Try.results27, go_sem]) rfl ⟨rfl, (by repeat (first | exact Below.refl _ _ | refine bel_then ?_ _ | refine bel_grow ?_ _ | refine bel_alloc ?_ _ | refine bel_drew ?_ | refine bel_set ?_ (by simp) _ | refine bel_setRow ?_ (by first | omega | (simp; done) | (refine Nat.le_trans ?_ (top_le _ _); simp; done) | (refine Nat.le_succ_of_le (Nat.le_trans ?_ (top_le _ _)); simp; done) | (refine Nat.le_trans ?_ (top_le _ _); simp only [World.size_alloc]; refine Nat.le_succ_of_le (Nat.le_trans ?_ (top_le _ _)); simp; done)) _))⟩
  · show Gives _ _ _ (.agg #[.int .i64 3, .int .i64 ((R - 1 : Nat) : Int), .int .i64 (t : Int)])
    rw [show ((R - 1 : Nat) : Int) = (R : Int) - 1 by omega]
    have k1 := inner_G ((R : Int) - 1) (t : Int)
    show Gives _ _ _ (.agg #[.int .i64 3, .int .i64 ((R : Int) - 1), .int .i64 (t : Int)])
    refine Gives.mk fun w => ?_
    go_enter Try.func27, Try.ntmps27
    go_wp2_with (first | (go_at_call 23; (with_reducible refine (k1.at_ _).mono ?_); rintro e w' ⟨rfl, xg, rfl⟩) | fail)
    refine bodyPost_ret (v := .agg #[.int .i64 3, .int .i64 ((R : Int) - 1), .int .i64 (t : Int)]) (by simp [results, Try.results27, go_sem]) rfl ⟨rfl, (by repeat (first | exact Below.refl _ _ | refine bel_then ?_ _ | refine bel_grow ?_ _ | refine bel_alloc ?_ _ | refine bel_drew ?_ | refine bel_set ?_ (by simp) _ | refine bel_setRow ?_ (by first | omega | (simp; done) | (refine Nat.le_trans ?_ (top_le _ _); simp; done) | (refine Nat.le_succ_of_le (Nat.le_trans ?_ (top_le _ _)); simp; done) | (refine Nat.le_trans ?_ (top_le _ _); simp only [World.size_alloc]; refine Nat.le_succ_of_le (Nat.le_trans ?_ (top_le _ _)); simp; done)) _))⟩
  · show Gives _ _ _ (.agg #[.int .i64 3, .int .i64 ((R - t : Nat) : Int), .int .i64 ((R - 1 : Nat) : Int)])
    rw [show ((R - 1 : Nat) : Int) = (R : Int) - 1 by omega, show ((R - t : Nat) : Int) = (R : Int) - (t : Int) by omega]
    have k1 := inner_G ((R : Int) - (t : Int)) ((R : Int) - 1)
    show Gives _ _ _ (.agg #[.int .i64 3, .int .i64 ((R : Int) - (t : Int)), .int .i64 ((R : Int) - 1)])
    refine Gives.mk fun w => ?_
    go_enter Try.func27, Try.ntmps27
    go_wp2_with (first | (go_at_call 23; (with_reducible refine (k1.at_ _).mono ?_); rintro e w' ⟨rfl, xg, rfl⟩) | fail)
    refine bodyPost_ret (v := .agg #[.int .i64 3, .int .i64 ((R : Int) - (t : Int)), .int .i64 ((R : Int) - 1)]) (by simp [results, Try.results27, go_sem]) rfl ⟨rfl, (by repeat (first | exact Below.refl _ _ | refine bel_then ?_ _ | refine bel_grow ?_ _ | refine bel_alloc ?_ _ | refine bel_drew ?_ | refine bel_set ?_ (by simp) _ | refine bel_setRow ?_ (by first | omega | (simp; done) | (refine Nat.le_trans ?_ (top_le _ _); simp; done) | (refine Nat.le_succ_of_le (Nat.le_trans ?_ (top_le _ _)); simp; done) | (refine Nat.le_trans ?_ (top_le _ _); simp only [World.size_alloc]; refine Nat.le_succ_of_le (Nat.le_trans ?_ (top_le _ _)); simp; done)) _))⟩
  · show Gives _ _ _ (.agg #[.int .i64 3, .int .i64 1, .int .i64 ((R - t : Nat) : Int)])
    rw [show ((R - t : Nat) : Int) = (R : Int) - (t : Int) by omega]
    have k1 := inner_G 1 ((R : Int) - (t : Int))
    show Gives _ _ _ (.agg #[.int .i64 3, .int .i64 1, .int .i64 ((R : Int) - (t : Int))])
    refine Gives.mk fun w => ?_
    go_enter Try.func27, Try.ntmps27
    go_wp2_with (first | (go_at_call 23; (with_reducible refine (k1.at_ _).mono ?_); rintro e w' ⟨rfl, xg, rfl⟩) | fail)
    refine bodyPost_ret (v := .agg #[.int .i64 3, .int .i64 1, .int .i64 ((R : Int) - (t : Int))]) (by simp [results, Try.results27, go_sem]) rfl ⟨rfl, (by repeat (first | exact Below.refl _ _ | refine bel_then ?_ _ | refine bel_grow ?_ _ | refine bel_alloc ?_ _ | refine bel_drew ?_ | refine bel_set ?_ (by simp) _ | refine bel_setRow ?_ (by first | omega | (simp; done) | (refine Nat.le_trans ?_ (top_le _ _); simp; done) | (refine Nat.le_succ_of_le (Nat.le_trans ?_ (top_le _ _)); simp; done) | (refine Nat.le_trans ?_ (top_le _ _); simp only [World.size_alloc]; refine Nat.le_succ_of_le (Nat.le_trans ?_ (top_le _ _)); simp; done)) _))⟩
theorem rbeside_G (k t R : Nat) (hk : k < 4) (ht : t ≤ R) (hR : 1 ≤ R) (hR2 : R ≤ 16) : Gives Try.prog 19 #[.int .i64 (k : Int), .int .i64 (t : Int), .int .i64 (R : Int)] (sV (besS k t R)) := by
  rcases four1 hk with rfl | rfl | rfl | rfl
  · show Gives _ _ _ (.agg #[.int .i64 3, .int .i64 (t : Int), .int .i64 1])
    have k1 := rinner_G (t : Int) 1
    show Gives _ _ _ (.agg #[.int .i64 3, .int .i64 (t : Int), .int .i64 1])
    refine Gives.mk fun w => ?_
    go_enter Try.func19, Try.ntmps19
    go_wp2_with (first | (go_at_call 16; (with_reducible refine (k1.at_ _).mono ?_); rintro e w' ⟨rfl, xg, rfl⟩) | fail)
    refine bodyPost_ret (v := .agg #[.int .i64 3, .int .i64 (t : Int), .int .i64 1]) (by simp [results, Try.results19, go_sem]) rfl ⟨rfl, (by repeat (first | exact Below.refl _ _ | refine bel_then ?_ _ | refine bel_grow ?_ _ | refine bel_alloc ?_ _ | refine bel_drew ?_ | refine bel_set ?_ (by simp) _ | refine bel_setRow ?_ (by first | omega | (simp; done) | (refine Nat.le_trans ?_ (top_le _ _); simp; done) | (refine Nat.le_succ_of_le (Nat.le_trans ?_ (top_le _ _)); simp; done) | (refine Nat.le_trans ?_ (top_le _ _); simp only [World.size_alloc]; refine Nat.le_succ_of_le (Nat.le_trans ?_ (top_le _ _)); simp; done)) _))⟩
  · show Gives _ _ _ (.agg #[.int .i64 3, .int .i64 ((R - 1 : Nat) : Int), .int .i64 (t : Int)])
    rw [show ((R - 1 : Nat) : Int) = (R : Int) - 1 by omega]
    have k1 := rinner_G ((R : Int) - 1) (t : Int)
    show Gives _ _ _ (.agg #[.int .i64 3, .int .i64 ((R : Int) - 1), .int .i64 (t : Int)])
    refine Gives.mk fun w => ?_
    go_enter Try.func19, Try.ntmps19
    go_wp2_with (first | (go_at_call 16; (with_reducible refine (k1.at_ _).mono ?_); rintro e w' ⟨rfl, xg, rfl⟩) | fail)
    refine bodyPost_ret (v := .agg #[.int .i64 3, .int .i64 ((R : Int) - 1), .int .i64 (t : Int)]) (by simp [results, Try.results19, go_sem]) rfl ⟨rfl, (by repeat (first | exact Below.refl _ _ | refine bel_then ?_ _ | refine bel_grow ?_ _ | refine bel_alloc ?_ _ | refine bel_drew ?_ | refine bel_set ?_ (by simp) _ | refine bel_setRow ?_ (by first | omega | (simp; done) | (refine Nat.le_trans ?_ (top_le _ _); simp; done) | (refine Nat.le_succ_of_le (Nat.le_trans ?_ (top_le _ _)); simp; done) | (refine Nat.le_trans ?_ (top_le _ _); simp only [World.size_alloc]; refine Nat.le_succ_of_le (Nat.le_trans ?_ (top_le _ _)); simp; done)) _))⟩
  · show Gives _ _ _ (.agg #[.int .i64 3, .int .i64 ((R - t : Nat) : Int), .int .i64 ((R - 1 : Nat) : Int)])
    rw [show ((R - 1 : Nat) : Int) = (R : Int) - 1 by omega, show ((R - t : Nat) : Int) = (R : Int) - (t : Int) by omega]
    have k1 := rinner_G ((R : Int) - (t : Int)) ((R : Int) - 1)
    show Gives _ _ _ (.agg #[.int .i64 3, .int .i64 ((R : Int) - (t : Int)), .int .i64 ((R : Int) - 1)])
    refine Gives.mk fun w => ?_
    go_enter Try.func19, Try.ntmps19
    go_wp2_with (first | (go_at_call 16; (with_reducible refine (k1.at_ _).mono ?_); rintro e w' ⟨rfl, xg, rfl⟩) | fail)
    refine bodyPost_ret (v := .agg #[.int .i64 3, .int .i64 ((R : Int) - (t : Int)), .int .i64 ((R : Int) - 1)]) (by simp [results, Try.results19, go_sem]) rfl ⟨rfl, (by repeat (first | exact Below.refl _ _ | refine bel_then ?_ _ | refine bel_grow ?_ _ | refine bel_alloc ?_ _ | refine bel_drew ?_ | refine bel_set ?_ (by simp) _ | refine bel_setRow ?_ (by first | omega | (simp; done) | (refine Nat.le_trans ?_ (top_le _ _); simp; done) | (refine Nat.le_succ_of_le (Nat.le_trans ?_ (top_le _ _)); simp; done) | (refine Nat.le_trans ?_ (top_le _ _); simp only [World.size_alloc]; refine Nat.le_succ_of_le (Nat.le_trans ?_ (top_le _ _)); simp; done)) _))⟩
  · show Gives _ _ _ (.agg #[.int .i64 3, .int .i64 1, .int .i64 ((R - t : Nat) : Int)])
    rw [show ((R - t : Nat) : Int) = (R : Int) - (t : Int) by omega]
    have k1 := rinner_G 1 ((R : Int) - (t : Int))
    show Gives _ _ _ (.agg #[.int .i64 3, .int .i64 1, .int .i64 ((R : Int) - (t : Int))])
    refine Gives.mk fun w => ?_
    go_enter Try.func19, Try.ntmps19
    go_wp2_with (first | (go_at_call 16; (with_reducible refine (k1.at_ _).mono ?_); rintro e w' ⟨rfl, xg, rfl⟩) | fail)
    refine bodyPost_ret (v := .agg #[.int .i64 3, .int .i64 1, .int .i64 ((R : Int) - (t : Int))]) (by simp [results, Try.results19, go_sem]) rfl ⟨rfl, (by repeat (first | exact Below.refl _ _ | refine bel_then ?_ _ | refine bel_grow ?_ _ | refine bel_alloc ?_ _ | refine bel_drew ?_ | refine bel_set ?_ (by simp) _ | refine bel_setRow ?_ (by first | omega | (simp; done) | (refine Nat.le_trans ?_ (top_le _ _); simp; done) | (refine Nat.le_succ_of_le (Nat.le_trans ?_ (top_le _ _)); simp; done) | (refine Nat.le_trans ?_ (top_le _ _); simp only [World.size_alloc]; refine Nat.le_succ_of_le (Nat.le_trans ?_ (top_le _ _)); simp; done)) _))⟩
theorem router_G (k r i : Nat) (hk : k < 4) (hr : 1 ≤ r) (hi : i ≤ r) (hr2 : r ≤ 16) : Gives Try.prog 18 #[.int .i64 (k : Int), .int .i64 (i : Int), .int .i64 (r : Int)] (sV (outS k r i)) := by
  by_cases h0 : i = 0
  · subst h0
    show Gives _ _ _ (.agg #[.int .i64 1, .int .i64 (k : Int), .int .i64 0])
    refine Gives.mk fun w => ?_
    go_enter Try.func18, Try.ntmps18
    go_wp2
    refine bodyPost_ret (v := .agg #[.int .i64 1, .int .i64 (k : Int), .int .i64 0]) (by simp [results, Try.results18, go_sem]) rfl ⟨rfl, (by repeat (first | exact Below.refl _ _ | refine bel_then ?_ _ | refine bel_grow ?_ _ | refine bel_alloc ?_ _ | refine bel_drew ?_ | refine bel_set ?_ (by simp) _ | refine bel_setRow ?_ (by first | omega | (simp; done) | (refine Nat.le_trans ?_ (top_le _ _); simp; done) | (refine Nat.le_succ_of_le (Nat.le_trans ?_ (top_le _ _)); simp; done) | (refine Nat.le_trans ?_ (top_le _ _); simp only [World.size_alloc]; refine Nat.le_succ_of_le (Nat.le_trans ?_ (top_le _ _)); simp; done)) _))⟩
  · by_cases h1 : i = r
    · subst h1
      rw [out_end hr]
      unfold corS
      rw [show (((k + 1) % 4 : Nat) : Int) = ((k : Int) + 1) % 4 by omega]
      show Gives _ _ _ (.agg #[.int .i64 1, .int .i64 (((k : Int) + 1) % 4), .int .i64 0])
      refine Gives.mk fun w => ?_
      go_enter Try.func18, Try.ntmps18
      go_wp2
      refine bodyPost_ret (v := .agg #[.int .i64 1, .int .i64 (((k : Int) + 1) % 4), .int .i64 0]) (by simp [results, Try.results18, go_sem]) rfl ⟨rfl, (by repeat (first | exact Below.refl _ _ | refine bel_then ?_ _ | refine bel_grow ?_ _ | refine bel_alloc ?_ _ | refine bel_drew ?_ | refine bel_set ?_ (by simp) _ | refine bel_setRow ?_ (by first | omega | (simp; done) | (refine Nat.le_trans ?_ (top_le _ _); simp; done) | (refine Nat.le_succ_of_le (Nat.le_trans ?_ (top_le _ _)); simp; done) | (refine Nat.le_trans ?_ (top_le _ _); simp only [World.size_alloc]; refine Nat.le_succ_of_le (Nat.le_trans ?_ (top_le _ _)); simp; done)) _))⟩
    · rw [out_mid (by omega) (by omega)]
      show Gives _ _ _ (.agg #[.int .i64 2, .int .i64 (k : Int), .int .i64 (i : Int)])
      have e0 : ¬ ((i : Int) = 0) := by omega
      have e1 : ¬ ((i : Int) = (r : Int)) := by omega
      refine Gives.mk fun w => ?_
      go_enter Try.func18, Try.ntmps18
      go_wp2
      refine bodyPost_ret (v := .agg #[.int .i64 2, .int .i64 (k : Int), .int .i64 (i : Int)]) (by simp [results, Try.results18, go_sem]) rfl ⟨rfl, (by repeat (first | exact Below.refl _ _ | refine bel_then ?_ _ | refine bel_grow ?_ _ | refine bel_alloc ?_ _ | refine bel_drew ?_ | refine bel_set ?_ (by simp) _ | refine bel_setRow ?_ (by first | omega | (simp; done) | (refine Nat.le_trans ?_ (top_le _ _); simp; done) | (refine Nat.le_succ_of_le (Nat.le_trans ?_ (top_le _ _)); simp; done) | (refine Nat.le_trans ?_ (top_le _ _); simp only [World.size_alloc]; refine Nat.le_succ_of_le (Nat.le_trans ?_ (top_le _ _)); simp; done)) _))⟩
end Go.Proofs.Ytpdnaceggpdleaa
namespace Go.Proofs.Ytpdnaceggpdleaa
open Go.RowKit
set_option linter.unusedVariables false
set_option linter.unusedSimpArgs false
set_option linter.unnecessarySimpa false
set_option maxRecDepth 100000
def i64W (x : Int) : Prop := -9223372036854775808 ≤ x ∧ x ≤ 9223372036854775807
theorem i64W.wf {x : Int} (h : i64W x) : (Lit.int .i64 x).wf = true := by
  unfold i64W at h
  simp only [Lit.wf, IntKind.min, IntKind.max, IntKind.bits, IntKind.signed, Bool.and_eq_true, decide_eq_true_eq]
  simp
  omega
theorem zeroIW (w : World) : (zeroValue 3).run Try.prog w = .ok (.int .i64 0) w := by kernel_rfl
theorem wideS : (match Try.prog.underlying 29 with | some (.array _ _) | some (.struct _) => true | _ => false) = true := by kernel_rfl
theorem lawS : Maps.Keyed Try.prog 29 := Maps.Keyed.of_law (deep_law_laid (m := 2) (by kernel_rfl) (by omega) (of_decide_eq_true (by kernel_rfl)) (by kernel_rfl) wideS)
theorem keyTS : Try.prog.keyType 29 = true := by kernel_rfl
@[reducible] def valS (s : Spt) : Value := .agg #[.int .i64 s.1, .int .i64 s.2.1, .int .i64 s.2.2]
def litS (s : Spt) : Lit := .string (keyBytes [.int .i64 s.1, .int .i64 s.2.1, .int .i64 s.2.2])
def rngS (s : Spt) : Prop := i64W s.1 ∧ i64W s.2.1 ∧ i64W s.2.2
theorem keyS {s : Spt} (h : rngS s) : keyOf Try.prog 29 (valS s) = some (litS s) := by
  obtain ⟨h0, h1, h2⟩ := h
  have hw0 := h0.wf
  have hw1 := h1.wf
  have hw2 := h2.wf
  have hf : (valS s).formed Try.prog 29 = true := by
    unfold valS; simp only [Value.formed, Try.underlying29]; kernel_rfl
  obtain ⟨m, hm⟩ : ∃ m, Try.prog.types.size = m + 1 := ⟨Try.prog.types.size - 1, by kernel_rfl⟩
  have c1 : Try.prog.cellsOf 29 = 3 := by kernel_rfl
  have c2 : Try.prog.cellsOf 3 = 1 := by kernel_rfl
  unfold keyOf
  rw [Try.underlying29]
  simp only [keyTS, hf, Bool.and_self, if_true, hm]
  simp only [valS, Value.cells, Program.keyLits, Try.underlying29, c1, c2, Try.underlying3]
  simp [hw0, hw1, hw2, c2, Try.underlying3, Program.keyLits, litS, List.range_succ]
theorem injS {s u : Spt} (hs : rngS s) (hu : rngS u) (h : litS s = litS u) : s = u := by
  have h1 := keyS hs
  have h2 := keyS hu
  rw [h] at h1
  have := lawS.inj h1 h2
  simp only [valS, Value.agg.injEq] at this
  simp at this
  exact Prod.ext this.1 (Prod.ext this.2.1 this.2.2)
structure SpD (D : DataW Unit) (P : List Spt) : Prop where
  rng : ∀ s ∈ P, rngS s
  has : ∀ s, rngS s → s ∉ P → Maps.has D (litS s) = false
  val : ∀ s, s ∈ P → ∀ zd, D.atKey (litS s) zd = .lit (.int .i64 (nof P s : Int))
def SpM (W : World) (B : Nat) (P : List Spt) : Prop := ∃ D : DataW Unit, W.ownsMap Try.prog 29 (plainElem Try.prog 3) B P.length D ∧ SpD D P
theorem SpM.made (W : World) : SpM (W.alloc (.map #[] 0)) W.heap.size [] := ⟨.map [], World.ownsMap_made _ _ _ _, by simp, fun s _ _ => by simp [Maps.has], by simp⟩
theorem SpM.kept {W W' : World} {B : Nat} {P : List Spt} {row : Option Nat} (h : SpM W B P) (hg : W.grownBy W' row) (hne : some B ≠ row) : SpM W' B P := by
  obtain ⟨D, h1, h2⟩ := h; exact ⟨D, h1.kept hg hne, h2⟩
theorem SpM.lt {W : World} {B : Nat} {P : List Spt} (h : SpM W B P) : B < W.heap.size := by
  obtain ⟨D, h1, h2⟩ := h; exact h1.lt
theorem SpM.look {W : World} {B : Nat} {P : List Spt} (h : SpM W B P) {s : Spt} (hs : s ∈ P) (a : Act) (o : Oper) (m x : Operand) (hop : o.op = Op.lookup 41 m x false) (hm : a.eval m = .map (some B)) (hx : a.eval x = valS s) :
    (execOp a.eval o).run Try.prog W = .ok (.value (.int .i64 (nof P s : Int))) W := by
  obtain ⟨D, ho, hd⟩ := h
  obtain ⟨c, hrun, hat, hwc⟩ := ho.lookup_int lawS Try.underlying41 Try.underlying3 (zeroIW W) (keyS (hd.rng s hs))
  rw [hd.val s hs] at hat
  simp only [DataW.lit.injEq, Lit.int.injEq, true_and] at hat
  subst hat
  simp [execOp, hop, hm, hx, hrun, Result.andThen]
section
variable {ops : Array Oper} {rest : List Oper} {o : Oper} {a : Act} {Q : Exit → Act → World → Prop}
theorem wpL_put_sp (W : World) (hg : o.guard = none) (m x v : Operand) (hop : o.op = Op.mapUpdate 41 m x v) (B : Nat) (P : List Spt) (hm : a.eval m = .map (some B)) (h : SpM W B P) (s : Spt) (hx : a.eval x = valS s) (hv : a.eval v = .int .i64 (P.length : Int))
    (hs : rngS s) (hn : s ∉ P) (hlen : P.length < 1000000)
    (hK : ∀ W', SpM W' B (P ++ [s]) → W.grownBy W' (some B) → wpList Try.prog ops Q rest (a.put o.dst undef) W') : wpList Try.prog ops Q (o :: rest) a W := by
  obtain ⟨D, ho, hd⟩ := h
  have hq : i64W (P.length : Int) := by unfold i64W; omega
  refine wpList_mapUpdate_own W hg m x v _ hop 29 3 lawS Try.underlying41 (plainElem Try.prog 3) B P.length D hm ho (by unfold maxLen; omega) _ _ (litS s) hx hv (keyS hs) _ [] (plainElem_int Try.underlying3 hq.wf) ?_
  intro W' h1 h2
  refine hK W' ⟨_, by simpa using h1, ?_, ?_, ?_⟩ h2
  · intro u hu
    rcases List.mem_append.1 hu with hu | hu
    · exact hd.rng u hu
    · obtain rfl := List.mem_singleton.1 hu; exact hs
  · intro u hu hun
    have e : u ≠ s := fun e => hun (by simp [e])
    rw [Maps.has_put_other (fun e2 => e (injS hu hs e2)), hd.has u hu (fun h => hun (List.mem_append_left _ h))]
  · intro u hu zd
    by_cases e : u = s
    · subst e
      rw [Maps.atKey_put_same ho.isMap (lawS.key (keyS hs)), nof_snoc hn]
    · have hu2 : u ∈ P := by
        rcases List.mem_append.1 hu with hu | hu
        · exact hu
        · exact absurd (List.mem_singleton.1 hu) e
      rw [Maps.atKey_put_other (fun e2 => e (injS (hd.rng u hu2) hs e2)), hd.val u hu2, nof_app hu2]
end
end Go.Proofs.Ytpdnaceggpdleaa
namespace Go.Proofs.Ytpdnaceggpdleaa
open Go.RowKit
set_option linter.unusedVariables false
set_option linter.unusedSimpArgs false
set_option linter.unnecessarySimpa false
set_option maxRecDepth 100000
theorem setW_grown (W : World) (g i : Nat) (u : Value) : W.grownBy (W.setCell ⟨g, i, none⟩ u) (some g) := by
  refine ⟨rfl, rfl, rfl, by simp [World.setCell], fun k hk hne => ?_⟩
  simp only [World.setCell, Array.getElem?_modify]
  rw [if_neg (fun e => hne (by rw [e]))]
theorem ownW_form {W : World} {base : Nat} {e : TypeId} {size n : Nat} {v : Value} {xs : List Value} (h : W.ownsRow base e size v n xs) : ∃ A c, v = .slice A n c := by
  rcases h.2 with ⟨h1, h2⟩ | ⟨g, cap, cur, h1, _⟩
  · subst h2; exact ⟨none, 0, h1⟩
  · exact ⟨_, _, h1⟩
theorem ownW_lay {W W' : World} {base : Nat} {e : TypeId} {size n : Nat} {v : Value} {xs : List Value} (h : W.ownsRow base e size v n xs) (hb : Below W.heap.size W W') : W'.ownsRow base e size v n xs := by
  obtain ⟨h0, h | ⟨g, cap, cur, h1, h2, h3, h4⟩⟩ := h
  · exact ⟨h0, .inl h⟩
  · exact ⟨h0, .inr ⟨g, cap, cur, h1, h2, (hb.block g (Array.getElem?_eq_some_iff.1 h3).1).trans h3, h4⟩⟩
theorem ownW_block {W : World} {base : Nat} {e : TypeId} {size n : Nat} {v : Value} {xs : List Value} (h : W.ownsRow base e size v n xs) : ∀ k, v.ownBlock = some k → base ≤ k ∧ k < W.heap.size := by
  intro k hk
  rcases h.2 with ⟨rfl, _⟩ | ⟨g, cap, cur, rfl, h1, h2, _⟩
  · cases hk
  · cases hk; exact ⟨h1, (Array.getElem?_eq_some_iff.1 h2).1⟩
theorem ownW_set {W : World} {base : Nat} {T : TypeId} {sz n : Nat} {v : Value} {xs : List Value} (h : W.ownsRow base T sz v n xs) {g : Nat} (hne : g < base) (i : Nat) (u : Value) : (W.setCell ⟨g, i, none⟩ u).ownsRow base T sz v n xs := by
  obtain ⟨h0, h | ⟨g2, cap, cur, h1, h2, h3, h4⟩⟩ := h
  · exact ⟨h0, .inl h⟩
  · exact ⟨h0, .inr ⟨g2, cap, cur, h1, h2, ((setW_grown W g i u).block g2 (Array.getElem?_eq_some_iff.1 h3).1 (by intro e; cases e; omega)).trans h3, h4⟩⟩
/-- What a call keeps: the blocks that X names. -/
structure KX (X : Nat → Prop) (W W' : World) : Prop where
  os : W'.os = W.os
  tape : W'.tape = W.tape
  output : W'.output = W.output
  size : W.heap.size ≤ W'.heap.size
  block : ∀ b, X b → W'.heap[b]? = W.heap[b]?
theorem KX.refl (X : Nat → Prop) (W : World) : KX X W W := ⟨rfl, rfl, rfl, Nat.le_refl _, fun _ _ => rfl⟩
theorem KX.trans {X : Nat → Prop} {a b c : World} (h : KX X a b) (k : KX X b c) : KX X a c :=
  ⟨k.os.trans h.os, k.tape.trans h.tape, k.output.trans h.output, Nat.le_trans h.size k.size, fun i hi => (k.block i hi).trans (h.block i hi)⟩
theorem KX.of {X : Nat → Prop} {W W' : World} (hX : ∀ b, X b → b < W.heap.size) (hb : Below W.heap.size W W') : KX X W W' :=
  ⟨hb.os, hb.tape, hb.output, hb.size, fun b h => hb.block b (hX b h)⟩
theorem KX.grown {X : Nat → Prop} {W W' : World} {row : Option Nat} (hX : ∀ b, X b → b < W.heap.size ∧ some b ≠ row) (hb : W.grownBy W' row) : KX X W W' :=
  ⟨hb.os, hb.tape, hb.output, hb.size, fun b h => hb.block b (hX b h).1 (hX b h).2⟩
theorem KX.less {X Y : Nat → Prop} {W W' : World} (h : KX X W W') (hY : ∀ b, Y b → X b) : KX Y W W' := ⟨h.os, h.tape, h.output, h.size, fun b hb => h.block b (hY b hb)⟩
theorem KX.below {X : Nat → Prop} {W W' : World} (h : KX X W W') {n : Nat} (hX : ∀ b, b < n → X b) : Below n W W' := ⟨h.os, h.tape, h.output, h.size, fun b hb => h.block b (hX b hb)⟩
abbrev NTri := Nat × Nat × Nat
def spC (P : List Spt) : List Value := P.flatMap fun s => [.int .i64 s.1, .int .i64 s.2.1, .int .i64 s.2.2]
def trC (T : List NTri) : List Value := T.flatMap fun t => [.int .i64 (t.1 : Int), .int .i64 (t.2.1 : Int), .int .i64 (t.2.2 : Int)]
theorem spC_snoc (P : List Spt) (s : Spt) : spC (P ++ [s]) = spC P ++ [.int .i64 s.1, .int .i64 s.2.1, .int .i64 s.2.2] := by simp [spC, List.flatMap_append]
theorem trC_snoc (T : List NTri) (t : NTri) : trC (T ++ [t]) = trC T ++ [.int .i64 (t.1 : Int), .int .i64 (t.2.1 : Int), .int .i64 (t.2.2 : Int)] := by simp [trC, List.flatMap_append]
@[reducible] def webC (r : Nat → Nat) (R B : Nat) (sv tv : Value) : Array Value := #[.int .i64 0, .int .i64 (r 0 : Int), .int .i64 1, .int .i64 (r 1 : Int), .int .i64 2, .int .i64 (r 2 : Int), .int .i64 3, .int .i64 (r 3 : Int), .int .i64 (R : Int), sv, .map (some B), tv]
structure WebB (W : World) (base g B : Nat) (r : Nat → Nat) (R : Nat) (Pm P : List Spt) (T : List NTri) (sv tv : Value) (X : Nat → Prop) : Prop where
  blk : Blk W g 43 (webC r R B sv tv)
  gl : g < base
  Bl : B < base
  gB : B ≠ g
  le : base ≤ W.heap.size
  sp : W.ownsRow base 29 3 sv P.length (spC P)
  tr : W.ownsRow base 30 3 tv T.length (trC T)
  ap : ∀ k, sv.ownBlock = some k → tv.ownBlock ≠ some k
  mp : SpM W B Pm
  x : ∀ b, X b → b < W.heap.size ∧ b ≠ g ∧ b ≠ B ∧ sv.ownBlock ≠ some b ∧ tv.ownBlock ≠ some b
theorem WebB.below {W W' : World} {base g B : Nat} {r : Nat → Nat} {R : Nat} {Pm P : List Spt} {T : List NTri} {sv tv : Value} {X : Nat → Prop} (h : WebB W base g B r R Pm P T sv tv X) (hb : Below W.heap.size W W') : WebB W' base g B r R Pm P T sv tv X ∧ KX X W W' :=
  ⟨⟨h.blk.below hb, h.gl, h.Bl, h.gB, Nat.le_trans h.le hb.size, ownW_lay h.sp hb, ownW_lay h.tr hb, h.ap, h.mp.kept (row := none) ⟨hb.os, hb.tape, hb.output, hb.size, fun k hk _ => hb.block k hk⟩ (by simp), fun b hx => ⟨Nat.lt_of_lt_of_le (h.x b hx).1 hb.size, (h.x b hx).2⟩⟩, KX.of (fun b hx => (h.x b hx).1) hb⟩
/-- Blocks that came later than the web's are kept as well. -/
theorem WebB.more {W : World} {base g B : Nat} {r : Nat → Nat} {R : Nat} {Pm P : List Spt} {T : List NTri} {sv tv : Value} {X : Nat → Prop} (h : WebB W base g B r R Pm P T sv tv X) (o : Obj) : WebB (W.alloc o) base g B r R Pm P T sv tv (fun b => X b ∨ b = W.heap.size) := by
  obtain ⟨h1, h2⟩ := h.below (bel_alloc (Below.refl _ _) o)
  refine ⟨h1.blk, h1.gl, h1.Bl, h1.gB, h1.le, h1.sp, h1.tr, h1.ap, h1.mp, fun b hx => ?_⟩
  rcases hx with hx | rfl
  · exact h1.x b hx
  · have h3 := h.gl
    have h4 := h.Bl
    have h5 := h.le
    refine ⟨by rw [World.size_alloc]; omega, by omega, by omega, fun e => ?_, fun e => ?_⟩
    · have := (ownW_block h.sp _ e).2; omega
    · have := (ownW_block h.tr _ e).2; omega
theorem WebB.less {W : World} {base g B : Nat} {r : Nat → Nat} {R : Nat} {Pm P : List Spt} {T : List NTri} {sv tv : Value} {X Y : Nat → Prop} (h : WebB W base g B r R Pm P T sv tv X) (hY : ∀ b, Y b → X b) : WebB W base g B r R Pm P T sv tv Y :=
  ⟨h.blk, h.gl, h.Bl, h.gB, h.le, h.sp, h.tr, h.ap, h.mp, fun b hb => h.x b (hY b hb)⟩
theorem WebB.map {W W' : World} {base g B : Nat} {r : Nat → Nat} {R : Nat} {Pm Pm' P : List Spt} {T : List NTri} {sv tv : Value} {X : Nat → Prop} (h : WebB W base g B r R Pm P T sv tv X) (hg : W.grownBy W' (some B)) (hm : SpM W' B Pm') : WebB W' base g B r R Pm' P T sv tv X ∧ KX X W W' := by
  have h3 := h.Bl
  have ho : ∀ v, (∃ e n xs, W.ownsRow base e 3 v n xs) → v.ownBlock = none ∨ v.ownBlock ≠ some B := fun v ⟨e, n, xs, hw⟩ => by
    cases hv : v.ownBlock with
    | none => exact .inl rfl
    | some j =>
      right; intro e2; cases e2
      have := (ownW_block hw _ hv).1; omega
  refine ⟨⟨(hg.block g h.blk.lt (by intro e; cases e; exact h.gB rfl)).trans h.blk, h.gl, h.Bl, h.gB, Nat.le_trans h.le hg.size, h.sp.kept hg (ho sv ⟨_, _, _, h.sp⟩), h.tr.kept hg (ho tv ⟨_, _, _, h.tr⟩), h.ap, hm, fun b hx => ⟨Nat.lt_of_lt_of_le (h.x b hx).1 hg.size, (h.x b hx).2⟩⟩, KX.grown (fun b hx => ⟨(h.x b hx).1, fun e => (h.x b hx).2.2.1 (by cases e; rfl)⟩) hg⟩
theorem infoS3 : (Try.prog.info? 29).map (·.size) = some 3 := by kernel_rfl
theorem infoSp : (Try.prog.info? 29).map (fun i => (i.zero, i.size, i.bytes)) = some (some (.agg #[.int .i64 0, .int .i64 0, .int .i64 0]), 3, 24) := by kernel_rfl
theorem infoTr : (Try.prog.info? 30).map (fun i => (i.zero, i.size, i.bytes)) = some (some (.agg #[.int .i64 0, .int .i64 0, .int .i64 0]), 3, 24) := by kernel_rfl
theorem info_ofW {t : TypeId} {z : Value} {s b : Nat} (h : (Try.prog.info? t).map (fun i => (i.zero, i.size, i.bytes)) = some (some z, s, b)) : ∃ i : TypeInfo, Try.prog.info? t = some i ∧ i.zero = some z ∧ i.size = s ∧ i.bytes = b := by
  cases e : Try.prog.info? t with
  | none => rw [e] at h; cases h
  | some i =>
    rw [e] at h
    simp only [Option.map_some, Option.some.injEq, Prod.mk.injEq] at h
    exact ⟨i, rfl, h.1, h.2.1, h.2.2⟩
/-- One more of three numbers in a row of one's own. -/
theorem app3 {T TS : TypeId} (hT : Try.prog.underlying TS = some (.slice T)) (hI : (Try.prog.info? T).map (fun i => (i.zero, i.size, i.bytes)) = some (some (.agg #[.int .i64 0, .int .i64 0, .int .i64 0]), 3, 24)) {W : World} {base n : Nat} {v : Value} {xs : List Value} (h : W.ownsRow base T 3 v n xs) (hn : n < 1000000) (hle : base ≤ W.heap.size) (x y z : Int) (ty : TypeId) :
    ∃ v' u2, (Builtin.append_ #[TS, TS] ty #[v, .slice (some ⟨W.heap.size, 0, none⟩) 1 1]).run Try.prog (W.alloc (.cells #[.int .i64 x, .int .i64 y, .int .i64 z] T)) = .ok v' u2 ∧ u2.ownsRow base T 3 v' (n + 1) (xs ++ [.int .i64 x, .int .i64 y, .int .i64 z]) ∧ (W.alloc (.cells #[.int .i64 x, .int .i64 y, .int .i64 z] T)).grownBy u2 v.ownBlock ∧ (v'.ownBlock = v.ownBlock ∨ v'.ownBlock = some (W.heap.size + 1)) := by
  obtain ⟨i0, hi0, hz0, hz1, hz2⟩ := info_ofW hI
  have hb1 : Below W.heap.size W (W.alloc (.cells #[.int .i64 x, .int .i64 y, .int .i64 z] T)) := bel_alloc (Below.refl _ _) _
  have hN := Blk.new W T #[.int .i64 x, .int .i64 y, .int .i64 z] _ rfl
  obtain ⟨v', u2, hr, h1, h2, h3, h4⟩ := run_append_own_at (P := Try.prog) (w := W.alloc (.cells #[.int .i64 x, .int .i64 y, .int .i64 z] T)) base TS ty T i0 _ 3 24 hT hi0 hz0 hz1 hz2 rfl (by omega) v n xs (ownW_lay h hb1) ⟨W.heap.size, 0, none⟩ 1 1 [.int .i64 x, .int .i64 y, .int .i64 z] rfl
    (fun j u hj => by
      have e : ((⟨W.heap.size, 0, none⟩ : Addr).add j) = ⟨W.heap.size, j, none⟩ := by simp [Addr.add]; intro h; exact h.symm
      rw [e, hN.cell]
      simpa using hj) (by intro u hu; simp at hu; rcases hu with rfl | rfl | rfl <;> rfl) (by unfold maxLen; omega) (by omega) (Nat.le_trans hle hb1.size)
  rw [World.size_alloc] at h4
  exact ⟨v', u2, hr, h1, h2, h4⟩
/-- One more spot in the row of spots. -/
theorem WebB.addS {W : World} {base g B : Nat} {r : Nat → Nat} {R : Nat} {Pm P : List Spt} {T : List NTri} {sv tv : Value} {X : Nat → Prop} (h : WebB W base g B r R Pm P T sv tv X) (s : Spt) (hn : P.length < 1000000) (ty : TypeId) :
    ∃ v' u2, (Builtin.append_ #[24, 24] ty #[sv, .slice (some ⟨W.heap.size, 0, none⟩) 1 1]).run Try.prog (W.alloc (.cells #[.int .i64 s.1, .int .i64 s.2.1, .int .i64 s.2.2] 29)) = .ok v' u2 ∧
      W.heap.size ≤ u2.heap.size ∧ u2.heap[g]? = W.heap[g]? ∧ (∀ b, X b → u2.heap[b]? = W.heap[b]?) ∧
      WebB (u2.setCell ⟨g, 9, none⟩ v') base g B r R Pm (P ++ [s]) T v' tv X ∧ KX X W (u2.setCell ⟨g, 9, none⟩ v') := by
  obtain ⟨v', u2, hr, h1, h2, h3⟩ := app3 Try.underlying24 infoSp h.sp hn h.le s.1 s.2.1 s.2.2 ty
  obtain ⟨hw, hk⟩ := h.below (bel_alloc (Below.refl _ _) (.cells #[.int .i64 s.1, .int .i64 s.2.1, .int .i64 s.2.2] 29))
  have hl := h.le
  have hgl := h.gl
  have hBl := h.Bl
  have hsz := World.size_alloc W (.cells #[.int .i64 s.1, .int .i64 s.2.1, .int .i64 s.2.2] 29)
  generalize W.alloc (.cells #[.int .i64 s.1, .int .i64 s.2.1, .int .i64 s.2.2] 29) = W1 at *
  have hgne : some g ≠ sv.ownBlock := fun e => by have := (ownW_block h.sp _ e.symm).1; omega
  have hBne : some B ≠ sv.ownBlock := fun e => by have := (ownW_block h.sp _ e.symm).1; omega
  have hg2 : u2.heap[g]? = W1.heap[g]? := h2.block g hw.blk.lt hgne
  have hX2 : ∀ b, X b → u2.heap[b]? = W1.heap[b]? := fun b hb => h2.block b (hw.x b hb).1 (fun e => (hw.x b hb).2.2.2.1 e.symm)
  have hXl : ∀ b, X b → b < W.heap.size := fun b hb => (h.x b hb).1
  have hset := setW_grown u2 g 9 v'
  have hblk : Blk u2 g 43 (webC r R B sv tv) := hg2.trans hw.blk
  have hv' : ∀ b, b < W.heap.size → sv.ownBlock ≠ some b → v'.ownBlock ≠ some b := fun b hb hs => by
    rcases h3 with h3 | h3
    · rw [h3]; exact hs
    · rw [h3]; intro e; cases e; omega
  refine ⟨v', u2, hr, by have := h2.size; omega, hg2.trans ?_, fun b hb => (hX2 b hb).trans (hk.block b hb), ⟨?_, h.gl, h.Bl, h.gB, ?_, ?_, ?_, ?_, ?_, ?_⟩, ?_⟩
  · exact hw.blk.trans h.blk.symm
  · exact hblk.set 9 v'
  · have := hset.size; have := h2.size; omega
  · rw [spC_snoc, List.length_append, List.length_singleton]
    exact ownW_set h1 h.gl _ _
  · refine ownW_set (hw.tr.kept h2 ?_) h.gl _ _
    cases e : tv.ownBlock with
    | none => exact .inl rfl
    | some k => right; intro e2; exact hw.ap k e2.symm e
  · intro k e1 e2
    have hk2 := (ownW_block h.tr k e2).2
    exact hv' k hk2 (fun e3 => h.ap k e3 e2) e1
  · exact (hw.mp.kept h2 hBne).kept hset (by intro e; cases e; exact h.gB rfl)
  · intro b hb
    obtain ⟨x1, x2, x3, x4, x5⟩ := h.x b hb
    refine ⟨?_, x2, x3, hv' b x1 x4, x5⟩
    have := hset.size; have := h2.size; omega
  · refine ⟨by rw [hset.os, h2.os, hk.os], by rw [hset.tape, h2.tape, hk.tape], by rw [hset.output, h2.output, hk.output], ?_, fun b hb => ?_⟩
    · have := hset.size; have := h2.size; omega
    · rw [hset.block b (by have := (h.x b hb).1; have := h2.size; omega) (fun e => (h.x b hb).2.1 (by cases e; rfl)), hX2 b hb, hk.block b hb]
/-- One more triangle in the row of triangles. -/
theorem WebB.addT {W : World} {base g B : Nat} {r : Nat → Nat} {R : Nat} {Pm P : List Spt} {T : List NTri} {sv tv : Value} {X : Nat → Prop} (h : WebB W base g B r R Pm P T sv tv X) (t : NTri) (hn : T.length < 1000000) (ty : TypeId) :
    ∃ v' u2, (Builtin.append_ #[25, 25] ty #[tv, .slice (some ⟨W.heap.size, 0, none⟩) 1 1]).run Try.prog (W.alloc (.cells #[.int .i64 (t.1 : Int), .int .i64 (t.2.1 : Int), .int .i64 (t.2.2 : Int)] 30)) = .ok v' u2 ∧
      W.heap.size ≤ u2.heap.size ∧ u2.heap[g]? = W.heap[g]? ∧ (∀ b, X b → u2.heap[b]? = W.heap[b]?) ∧ SpM u2 B Pm ∧
      WebB (u2.setCell ⟨g, 11, none⟩ v') base g B r R Pm P (T ++ [t]) sv v' X ∧ KX X W (u2.setCell ⟨g, 11, none⟩ v') := by
  obtain ⟨v', u2, hr, h1, h2, h3⟩ := app3 Try.underlying25 infoTr h.tr hn h.le (t.1 : Int) (t.2.1 : Int) (t.2.2 : Int) ty
  obtain ⟨hw, hk⟩ := h.below (bel_alloc (Below.refl _ _) (.cells #[.int .i64 (t.1 : Int), .int .i64 (t.2.1 : Int), .int .i64 (t.2.2 : Int)] 30))
  have hl := h.le
  have hgl := h.gl
  have hBl := h.Bl
  have hsz := World.size_alloc W (.cells #[.int .i64 (t.1 : Int), .int .i64 (t.2.1 : Int), .int .i64 (t.2.2 : Int)] 30)
  generalize W.alloc (.cells #[.int .i64 (t.1 : Int), .int .i64 (t.2.1 : Int), .int .i64 (t.2.2 : Int)] 30) = W1 at *
  have hgne : some g ≠ tv.ownBlock := fun e => by have := (ownW_block h.tr _ e.symm).1; omega
  have hBne : some B ≠ tv.ownBlock := fun e => by have := (ownW_block h.tr _ e.symm).1; omega
  have hg2 : u2.heap[g]? = W1.heap[g]? := h2.block g hw.blk.lt hgne
  have hX2 : ∀ b, X b → u2.heap[b]? = W1.heap[b]? := fun b hb => h2.block b (hw.x b hb).1 (fun e => (hw.x b hb).2.2.2.2 e.symm)
  have hset := setW_grown u2 g 11 v'
  have hblk : Blk u2 g 43 (webC r R B sv tv) := hg2.trans hw.blk
  have hv' : ∀ b, b < W.heap.size → tv.ownBlock ≠ some b → v'.ownBlock ≠ some b := fun b hb hs => by
    rcases h3 with h3 | h3
    · rw [h3]; exact hs
    · rw [h3]; intro e; cases e; omega
  refine ⟨v', u2, hr, by have := h2.size; omega, hg2.trans ?_, fun b hb => (hX2 b hb).trans (hk.block b hb), hw.mp.kept h2 hBne, ⟨?_, h.gl, h.Bl, h.gB, ?_, ?_, ?_, ?_, ?_, ?_⟩, ?_⟩
  · exact hw.blk.trans h.blk.symm
  · exact hblk.set 11 v'
  · have := hset.size; have := h2.size; omega
  · refine ownW_set (hw.sp.kept h2 ?_) h.gl _ _
    cases e : sv.ownBlock with
    | none => exact .inl rfl
    | some k => right; intro e2; exact hw.ap k e e2.symm
  · rw [trC_snoc, List.length_append, List.length_singleton]
    exact ownW_set h1 h.gl _ _
  · intro k e1 e2
    have hk2 := (ownW_block h.sp k e1).2
    exact hv' k hk2 (h.ap k e1) e2
  · exact (hw.mp.kept h2 hBne).kept hset (by intro e; cases e; exact h.gB rfl)
  · intro b hb
    obtain ⟨x1, x2, x3, x4, x5⟩ := h.x b hb
    refine ⟨?_, x2, x3, x4, hv' b x1 x5⟩
    have := hset.size; have := h2.size; omega
  · refine ⟨by rw [hset.os, h2.os, hk.os], by rw [hset.tape, h2.tape, hk.tape], by rw [hset.output, h2.output, hk.output], ?_, fun b hb => ?_⟩
    · have := hset.size; have := h2.size; omega
    · rw [hset.block b (by have := (h.x b hb).1; have := h2.size; omega) (fun e => (h.x b hb).2.1 (by cases e; rfl)), hX2 b hb, hk.block b hb]
end Go.Proofs.Ytpdnaceggpdleaa
namespace Go.Proofs.Ytpdnaceggpdleaa
open Go.RowKit
set_option linter.unusedVariables false
set_option linter.unusedSimpArgs false
set_option linter.unnecessarySimpa false
set_option maxRecDepth 100000
set_option maxHeartbeats 2000000 in
theorem spot_any (W : World) (base g B : Nat) (r : Nat → Nat) (R : Nat) (P : List Spt) (T : List NTri) (sv tv : Value) (X : Nat → Prop) (h : WebB W base g B r R P P T sv tv X) (s : Spt) (hs : rngS s) (hn : s ∉ P) (hl : P.length < 100000) :
    Calls Try.prog 20 #[.pointer (some ⟨g, 0, none⟩), sV s] W fun e W' => e = .returned (.tuple #[]) ∧ KX X W W' ∧ ∃ sv', WebB W' base g B r R (P ++ [s]) (P ++ [s]) T sv' tv X := by
  have h1 := h.more (.cells #[.int .i64 s.1, .int .i64 s.2.1, .int .i64 s.2.2] 29)
  have hk1 := (h.below (bel_alloc (Below.refl _ _) (.cells #[.int .i64 s.1, .int .i64 s.2.1, .int .i64 s.2.2] 29))).2
  have hD := Blk.new W 29 #[.int .i64 s.1, .int .i64 s.2.1, .int .i64 s.2.2] _ rfl
  have hn2 := Lib.hid hn
  have hs2 := Lib.hid hs
  clear hn hs
  obtain ⟨As, cs, rfl⟩ := ownW_form h.sp
  clear h
  go_enter Try.func20, Try.ntmps20
  go_upto_region 1 with (fail)
  obtain ⟨b3, hb3⟩ : ∃ b3, W.heap.size = b3 := ⟨_, rfl⟩
  simp only [hb3] at *
  generalize W.alloc (.cells #[.int .i64 s.1, .int .i64 s.2.1, .int .i64 s.2.2] 29) = W1 at *
  have n10 : W1.cell? ⟨g, 10, none⟩ = some (.map (some B)) := h1.blk.cell 10
  have n9 : W1.cell? ⟨g, 9, none⟩ = some (.slice As P.length cs) := h1.blk.cell 9
  have d0 : W1.cell? ⟨b3, 0, none⟩ = some (.int .i64 s.1) := hD.cell 0
  have d1 : W1.cell? ⟨b3, 1, none⟩ = some (.int .i64 s.2.1) := hD.cell 1
  have d2 : W1.cell? ⟨b3, 2, none⟩ = some (.int .i64 s.2.2) := hD.cell 2
  have lg := h1.blk.lt
  have lb := hD.lt
  refine wp_region_tail 10 ?_ (by kernel_rfl) (by kernel_rfl) (by kernel_rfl) (fun x => ?_) (fun x => ?_)
  rotate_left
  · simp only [List.take_succ_cons, List.take_zero]
    repeat (go_big_quiet_step (((fail))))
    refine wpQuiet_nil ?_
    exact rfl
  simp only [List.drop_succ_cons, List.drop_zero]
  try simp only [Act.put, List.setIfInBounds_toArray, List.set_cons_succ, List.set_cons_zero]
  obtain ⟨hx1, kx1⟩ := h1.below (x.kept W1)
  have hDx := hD.below (x.kept W1)
  refine wpL_put_sp (grow W1 x) rfl _ _ _ rfl B P rfl hx1.mp s rfl rfl hs2.out hn2.out (by omega) ?_
  intro w2 hm2 hg2
  obtain ⟨hW2, kx2⟩ := hx1.map hg2 hm2
  have hD2 : Blk w2 b3 29 #[.int .i64 s.1, .int .i64 s.2.1, .int .i64 s.2.2] := (kx2.block b3 (.inr rfl)).trans hDx
  have kW2 : KX X W w2 := hk1.trans ((kx1.trans kx2).less fun b hb => .inl hb)
  clear hm2 hg2 kx1 kx2 hx1 hDx h1 hD hk1 n10 n9 d0 d1 d2 lg lb
  go_upto_region 2 with (fail)
  obtain ⟨v1, u2, hr, hsz, hgk, hXk, hF, kF⟩ := (show WebB w2.drew base g B r R (P ++ [s]) P T (.slice As P.length cs) tv (fun b => X b ∨ b = b3) from ⟨hW2.blk, hW2.gl, hW2.Bl, hW2.gB, hW2.le, hW2.sp, hW2.tr, hW2.ap, hW2.mp, hW2.x⟩).addS s (by omega) 24
  obtain ⟨A1, n1, c1, rfl⟩ : ∃ A n c, v1 = .slice A n c := by obtain ⟨A, c, e⟩ := ownW_form hF.sp; exact ⟨A, _, c, e⟩
  have hK : ∀ u, (u = w2.drew ∨ u = (w2.drew.alloc (.cells #[.int .i64 s.1, .int .i64 s.2.1, .int .i64 s.2.2] 29)) ∨ u = u2) → (∀ j v, w2.cell? ⟨g, j, none⟩ = some v → u.cell? ⟨g, j, none⟩ = some v) ∧ (∀ j v, w2.cell? ⟨b3, j, none⟩ = some v → u.cell? ⟨b3, j, none⟩ = some v) := by
    have lg := hW2.blk.lt
    have lb := hD2.lt
    rintro u (rfl | rfl | rfl)
    · exact ⟨fun j v h => h, fun j v h => h⟩
    · have hba : Below (w2.drew).heap.size (w2.drew) (w2.drew.alloc (.cells #[.int .i64 s.1, .int .i64 s.2.1, .int .i64 s.2.2] 29)) := bel_alloc (Below.refl _ _) _
      exact ⟨fun j v h => (hba.cell (p := ⟨g, j, none⟩) lg).trans h, fun j v h => (hba.cell (p := ⟨b3, j, none⟩) lb).trans h⟩
    · exact ⟨fun j v h => (World.cell?_of_block hgk).trans h, fun j v h => (World.cell?_of_block (hXk b3 (.inr rfl))).trans h⟩
  have n9 : w2.cell? ⟨g, 9, none⟩ = some (.slice As P.length cs) := hW2.blk.cell 9
  have d0 : w2.cell? ⟨b3, 0, none⟩ = some (.int .i64 s.1) := hD2.cell 0
  have d1 : w2.cell? ⟨b3, 1, none⟩ = some (.int .i64 s.2.1) := hD2.cell 1
  have d2 : w2.cell? ⟨b3, 2, none⟩ = some (.int .i64 s.2.2) := hD2.cell 2
  refine wp_region_monoK 10 (RKW [.pointer (some ⟨g, 0, none⟩), .pointer (some ⟨g, 0, none⟩), .pointer (some ⟨g, 0, none⟩), .pointer (some ⟨g, 9, none⟩), .slice As P.length cs, .agg #[.int .i64 s.1, .int .i64 s.2.1, .int .i64 s.2.2], .slice (some ⟨w2.drew.heap.size, 0, none⟩) 1 1, .slice A1 n1 c1, .pointer (some ⟨g, 0, none⟩), .pointer (some ⟨g, 9, none⟩)]) (PhJ 6 7 w2.drew (w2.drew.alloc (.cells #[.int .i64 s.1, .int .i64 s.2.1, .int .i64 s.2.2] 29)) u2) (by kernel_rfl) _ rfl (by kernel_rfl) (by kernel_rfl) (by kernel_rfl) (by kernel_rfl) (by kernel_rfl) ⟨by decide, by decide, fun h => by simp [Array.getD] at h, rfl⟩ ?_ ?_
  · simp only [List.take_succ_cons, List.take_zero]
    refine ⟨?_, ?_, ?_, ?_, ?_, ?_, ?_, ?_, ?_, ?_, ?_⟩
    · refine mono_read rfl (by decide) (by decide) (fun a u hu hk hp => ?_)
      have es0 := (hk 0 (keep_of (by kernel_rfl))).trans (show _ = some (.pointer (some ⟨g, 0, none⟩)) from rfl)
      exact ⟨_, by simp [execOp, go_sem, es0], rfl⟩
    · refine mono_read rfl (by decide) (by decide) (fun a u hu hk hp => ?_)
      have es0 := (hk 0 (keep_of (by kernel_rfl))).trans (show _ = some (.pointer (some ⟨g, 0, none⟩)) from rfl)
      exact ⟨_, by simp [execOp, go_sem, es0], rfl⟩
    · refine mono_read rfl (by decide) (by decide) (fun a u hu hk hp => ?_)
      obtain ⟨x1, ex1, rx1⟩ := hp ⟨1, .data⟩ (by simp) rfl _ _ rfl rfl
      obtain rfl : x1 = _ := rx1
      exact ⟨_, by simp [execOp, go_sem, ex1], rfl⟩
    · refine mono_read rfl (by decide) (by decide) (fun a u hu hk hp => ?_)
      obtain ⟨x2, ex2, rx2⟩ := hp ⟨2, .data⟩ (by simp) rfl _ _ rfl rfl
      obtain rfl : x2 = _ := rx2
      exact ⟨_, by simp [execOp, go_sem, ex2], rfl⟩
    · refine mono_read rfl (by decide) (by decide) (fun a u hu hk hp => ?_)
      obtain ⟨x3, ex3, rx3⟩ := hp ⟨3, .data⟩ (by simp) rfl _ _ rfl rfl
      obtain rfl : x3 = _ := rx3
      have fc0 := (hK u hu).1 9 _ n9
      exact ⟨_, by simp [execOp, go_sem, ex3, fc0], rfl⟩
    · refine mono_read rfl (by decide) (by decide) (fun a u hu hk hp => ?_)
      have es3 := (hk 3 (keep_of (by kernel_rfl))).trans (show _ = some (.pointer (some ⟨b3, 0, none⟩)) from rfl)
      have fc0 := (hK u hu).2 0 _ d0
      have fc1 := (hK u hu).2 1 _ d1
      have fc2 := (hK u hu).2 2 _ d2
      exact ⟨_, ldmW_run _ _ _ 29 _ rfl (b3) (0) (eval_tmp es3) _ _ (rng3W fc0 fc1 fc2) Try.underlying29 rfl infoS3, rfl⟩
    · refine mono_first rfl (by decide) (fun a hk hp => ?_)
      obtain ⟨x5, ex5, rx5⟩ := hp ⟨5, .data⟩ (by simp) rfl _ _ rfl rfl
      obtain rfl : x5 = _ := rx5
      exact ⟨_, by simp [execOp, go_sem, ex5], rfl⟩
    · refine mono_second rfl (by decide) ⟨⟨6, .data⟩, by simp, rfl, rfl⟩ (fun a hk hp => ?_)
      obtain ⟨x4, ex4, rx4⟩ := hp ⟨4, .data⟩ (by simp) rfl _ _ rfl rfl
      obtain rfl : x4 = _ := rx4
      obtain ⟨x6, ex6, rx6⟩ := hp ⟨6, .data⟩ (by simp) rfl _ _ rfl rfl
      obtain rfl : x6 = _ := rx6
      exact ⟨_, run_appW _ _ _ rfl (eval_tmp ex4) (eval_tmp ex6) hr, rfl⟩
    · refine mono_read rfl (by decide) (by decide) (fun a u hu hk hp => ?_)
      obtain ⟨x0, ex0, rx0⟩ := hp ⟨0, .data⟩ (by simp) rfl _ _ rfl rfl
      obtain rfl : x0 = _ := rx0
      exact ⟨_, by simp [execOp, go_sem, ex0], rfl⟩
    · refine mono_read rfl (by decide) (by decide) (fun a u hu hk hp => ?_)
      obtain ⟨x8, ex8, rx8⟩ := hp ⟨8, .data⟩ (by simp) rfl _ _ rfl rfl
      obtain rfl : x8 = _ := rx8
      exact ⟨_, by simp [execOp, go_sem, ex8], rfl⟩
    · trivial
  · intro a wz listed hJ hall hsz hdf hk hgot
    have hwz : u2 = wz := (phJ_end hJ (by decide) hall).symm
    clear hJ
    subst hwz
    obtain ⟨vv7, ev7, rv7⟩ := hgot 7 _ 21 rfl rfl
    obtain rfl : vv7 = _ := rv7
    obtain ⟨vv9, ev9, rv9⟩ := hgot 9 _ 23 rfl rfl
    obtain rfl : vv9 = _ := rv9
    obtain ⟨f, hf, rfl⟩ := frame_eq hsz hdf hk [14, 15, 16, 17, 18, 19, 20, 21, 22, 23] (by rfl)
    have f21 := hf 21 _ ev7
    have f23 := hf 23 _ ev9
    clear hsz hdf hk hgot hf hall ev7 ev9
    simp only [List.drop_succ_cons, List.drop_zero, setAll, List.setIfInBounds_toArray, List.set_cons_succ, List.set_cons_zero, f21, f23]
    clear f21 f23
    generalize f 14 = uu14; generalize f 15 = uu15; generalize f 16 = uu16; generalize f 17 = uu17; generalize f 18 = uu18; generalize f 19 = uu19; generalize f 20 = uu20; generalize f 22 = uu22
    have s0 : u2.cell? ⟨g, 9, none⟩ = some (.slice As P.length cs) := (hK u2 (.inr (.inr rfl))).1 9 _ n9
    have sf : u2.frozen? ⟨g, 9, none⟩ = false := (World.frozen?_of_block hgk).trans (hW2.blk.frozen 9)
    have sl : g < u2.heap.size := Nat.lt_of_lt_of_le hW2.blk.lt hsz
    clear hW2 hD2 hsz hgk hXk hr hK n9 d0 d1 d2
    replace hF := Lib.hid hF
    replace kF := Lib.hid kF
    replace kW2 := Lib.hid kW2
    go_wp2
    refine bodyPost_end (v := .tuple #[]) (by simp [results, Try.results20, go_sem]) rfl ⟨rfl, (show KX X W w2.drew from ⟨kW2.out.os, kW2.out.tape, kW2.out.output, kW2.out.size, kW2.out.block⟩).trans (kF.out.less fun b hb => .inl hb), _, hF.out.less fun b hb => .inl hb⟩
end Go.Proofs.Ytpdnaceggpdleaa
